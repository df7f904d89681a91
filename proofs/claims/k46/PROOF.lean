import PyProof.Rows.All
import Wide.All
import OpenK.AllK
import Wide.FinOn
import Lean
import PyProof.EqAt
import PyProof.EqKinds
import PyProof.TupleCall
import PyProof.NeKinds
import PyProof.ReprRoads
import PyProof.ReprBulk
import PyProof.Draws
import PyProof.EnumMake
import KE.BitLaws
import PyProof.ListIndex
import PyProof.AttrMissHeap
import PyProof.DictUpdate
import KE.KDictOf
import PyProof.FactsAll.enumerate_1
import PyProof.FactsAll.tuple_2
import PyProof.ListMulRoad
import PyProof.ListRange
import PyProof.FactsAll.list_3
import PyProof.Rows.SortWalk
import PyProof.Rows.MinMaxN
import KE.KEqDict
import KE.KDictSum
import PyProof.WalksMore
import PyProof.Rows.SetFrom
import PyProof.SetRoads
import PyProof.FactsAll.set_1
import KE.KItemsList
import KE.KSortTup
import KE.KLam
import PyProof.FactsAll.dict_1
import PyProof.StrBlockH
import PyProof.StrLawsTight
import PyProof.StrLawsOccR
import PyProof.StrLawsJoin
import PyProof.StationsW
import PyProof.NsDelKeeps
import PyProof.RulesAs
import PyProof.ExcInit
import KE.KTryMore
import PyProof.ExcClass3
import PyProof.ExcBaseAll.ValueError
import OpenK.KOwn
import PyProof.ExcArgsOwn
import PyProof.InstStoreFacts
import PyProof.FactsAll.tuple_2
import PyProof.FactsAll.tuple_3
import PyProof.TupleOfStr
import KE.KMinKey
import PySem.Challenge.RW_flips_k46_fewest_told
set_option Elab.async false
set_option linter.all false
set_option genInjectivity false
set_option genSizeOf false
set_option maxRecDepth 100000
set_option maxHeartbeats 0
section
open PySem PySem.Spec PyProof.Rows PySem.W
theorem ZA:type_of% @PySem.wpAny_bind:=@PySem.wpAny_bind
theorem ZB:type_of% @PySem.wpAny_pure:=@PySem.wpAny_pure
theorem ZC:type_of% @List.length_map:=@List.length_map
theorem ZD:type_of% @Nat.le_refl:=@Nat.le_refl
theorem ZE:type_of% @List.getElem?_eq_getElem:=@List.getElem?_eq_getElem
theorem ZF:type_of% @List.mem_cons:=@List.mem_cons
theorem ZG:type_of% @PySem.Heap.lt_size:=@PySem.Heap.lt_size
theorem ZH:type_of% @PySem.Heap.get?_push_of_some:=@PySem.Heap.get?_push_of_some
theorem ZI:type_of% @List.size_toArray:=@List.size_toArray
theorem ZJ:type_of% @List.mem_singleton:=@List.mem_singleton
theorem ZK:type_of% @Nat.ne_of_lt:=@Nat.ne_of_lt
theorem ZL:type_of% @List.length_append:=@List.length_append
theorem ZM:type_of% @List.map_append:=@List.map_append
theorem ZN:type_of% @PySem.Heap.get?_push_size:=@PySem.Heap.get?_push_size
theorem ZO:type_of% @decide_eq_true:=@decide_eq_true
theorem ZP:type_of% @List.mem_map:=@List.mem_map
theorem ZQ:type_of% @of_decide_eq_true:=@of_decide_eq_true
theorem ZR:type_of% @List.getElem?_map:=@List.getElem?_map
theorem ZT:type_of% @Nat.lt_of_lt_of_le:=@Nat.lt_of_lt_of_le
theorem ZU:type_of% @List.mem_append_right:=@List.mem_append_right
theorem ZV:type_of% @Option.some.inj:=@Option.some.inj
theorem ZW:type_of% @List.mem_append:=@List.mem_append
theorem ZX:type_of% @Nat.zero_le:=@Nat.zero_le
theorem ZY:type_of% @List.getD_eq_getElem?_getD:=@List.getD_eq_getElem?_getD
theorem ZZ:type_of% @PySem.wpAny_mono:=@PySem.wpAny_mono
theorem Za:type_of% @List.mem_cons_of_mem:=@List.mem_cons_of_mem
theorem Zb:type_of% @Bool.and_eq_true:=@Bool.and_eq_true
theorem Zc:type_of% @Int.toNat_natCast:=@Int.toNat_natCast
theorem Zd:type_of% @Nat.lt_irrefl:=@Nat.lt_irrefl
theorem Ze:type_of% @List.length_take:=@List.length_take
theorem Zf:type_of% @Nat.le_trans:=@Nat.le_trans
theorem Zg:type_of% @Array.length_toList:=@Array.length_toList
theorem Zh:type_of% @PySem.wpAny_holding:=@PySem.wpAny_holding
theorem Zi:type_of% @List.map_cons:=@List.map_cons
theorem Zj:type_of% @Nat.pow_le_pow_right:=@Nat.pow_le_pow_right
theorem Zk:type_of% @List.mem_range:=@List.mem_range
theorem Zl:type_of% @List.mem_cons_self:=@List.mem_cons_self
theorem Zm:type_of% @List.getElem?_eq_some_iff:=@List.getElem?_eq_some_iff
theorem Zn:type_of% @List.length_cons:=@List.length_cons
theorem Zo:type_of% @List.getElem_mem:=@List.getElem_mem
theorem Zp:type_of% @List.mem_filter:=@List.mem_filter
theorem Zq:type_of% @Bool.false_ne_true:=@Bool.false_ne_true
theorem Zr:type_of% @PySem.wpAny_newObj_type:=@PySem.wpAny_newObj_type
theorem Zs:type_of% @Nat.le_of_lt:=@Nat.le_of_lt
theorem Zt:type_of% @List.append_nil:=@List.append_nil
theorem Zu:type_of% @Nat.lt_or_ge:=@Nat.lt_or_ge
theorem Zv:type_of% @PySem.wpAny_ite_split:=@PySem.wpAny_ite_split
theorem Zw:type_of% @List.length_range:=@List.length_range
theorem Zx:type_of% @List.take_add_one:=@List.take_add_one
theorem Zy:type_of% @decide_eq_false:=@decide_eq_false
theorem Zz:type_of% @List.mem_append_left:=@List.mem_append_left
theorem Z0:type_of% @PySem.Heap.size_push:=@PySem.Heap.size_push
theorem Z1:type_of% @PySem.wpAny_call_entry:=@PySem.wpAny_call_entry
theorem Z2:type_of% @List.append_assoc:=@List.append_assoc
theorem Z3:type_of% @List.lookup_cons:=@List.lookup_cons
theorem Z4:type_of% @PySem.Heap.SameBut.update:=@PySem.Heap.SameBut.update
theorem Z5:type_of% @PySem.Heap.get?_update_other:=@PySem.Heap.get?_update_other
theorem Z6:type_of% @Bool.false_xor:=@Bool.false_xor
theorem Z7:type_of% @Bool.eq_iff_iff:=@Bool.eq_iff_iff
theorem Z8:type_of% @Nat.lt_trichotomy:=@Nat.lt_trichotomy
theorem Z9:type_of% @List.mem_of_getElem?:=@List.mem_of_getElem?
theorem ZBA:type_of% @PySem.wpAny_field:=@PySem.wpAny_field
theorem ZBB:type_of% @List.mem_nil_iff:=@List.mem_nil_iff
theorem ZBC:type_of% @List.getElem_of_mem:=@List.getElem_of_mem
theorem ZBD:type_of% @List.map_map:=@List.map_map
theorem ZBE:type_of% @List.take_length:=@List.take_length
theorem ZBF:type_of% @List.getElem?_append_right:=@List.getElem?_append_right
theorem ZBG:type_of% @List.any_cons:=@List.any_cons
theorem ZBH:type_of% @PySem.wpAny_setField:=@PySem.wpAny_setField
theorem ZBI:type_of% @Nat.testBit_and:=@Nat.testBit_and
theorem ZBJ:type_of% @PySem.codeAny_mono:=@PySem.codeAny_mono
theorem ZBK:type_of% @List.length_drop:=@List.length_drop
theorem ZBL:type_of% @Nat.lt_trans:=@Nat.lt_trans
theorem ZBM:type_of% @PySem.wpAny_truthy_bool:=@PySem.wpAny_truthy_bool
theorem ZBN:type_of% @PySem.wpAny_standAt:=@PySem.wpAny_standAt
theorem ZBO:type_of% @List.getElem?_append_left:=@List.getElem?_append_left
theorem ZBP:type_of% @PySem.Heap.get?_update_self:=@PySem.Heap.get?_update_self
theorem ZBQ:type_of% @Nat.not_lt_zero:=@Nat.not_lt_zero
theorem ZBR:type_of% @List.range_succ:=@List.range_succ
theorem ZBS:type_of% @PySem.codeAny_builtin:=@PySem.codeAny_builtin
theorem ZBT:type_of% @PySem.plainId_quiet:=@PySem.plainId_quiet
theorem ZBU:type_of% @PySem.Heap.get?_none_of_le:=@PySem.Heap.get?_none_of_le
theorem ZBV:type_of% @Nat.lt_succ_self:=@Nat.lt_succ_self
theorem ZBW:type_of% @List.length_set:=@List.length_set
theorem ZBX:type_of% @List.take_of_length_le:=@List.take_of_length_le
theorem ZBY:type_of% @List.filter_cons:=@List.filter_cons
theorem ZBZ:type_of% @PySem.Around.under_plainId:=@PySem.Around.under_plainId
theorem ZBa:type_of% @List.not_mem_nil:=@List.not_mem_nil
theorem ZBb:type_of% @Array.getElem?_eq_getElem:=@Array.getElem?_eq_getElem
theorem ZBc:type_of% @Nat.two_pow_pos:=@Nat.two_pow_pos
theorem ZBd:type_of% @Nat.ne_of_gt:=@Nat.ne_of_gt
theorem ZBe:type_of% @Nat.le_of_eq:=@Nat.le_of_eq
theorem ZBf:type_of% @Nat.le_succ:=@Nat.le_succ
theorem ZBg:type_of% @Option.map_some:=@Option.map_some
theorem ZBh:type_of% @List.any_eq_true:=@List.any_eq_true
theorem ZBi:type_of% @List.filter_append:=@List.filter_append
theorem ZBj:type_of% @List.length_filter_le:=@List.length_filter_le
theorem ZBk:type_of% @List.filterMap_cons:=@List.filterMap_cons
theorem ZBl:type_of% @List.nodup_cons:=@List.nodup_cons
theorem ZBm:type_of% @Nat.le_of_succ_le:=@Nat.le_of_succ_le
theorem ZBn:type_of% @List.all_eq_true:=@List.all_eq_true
theorem ZBo:type_of% @List.find?_cons:=@List.find?_cons
theorem ZBp:type_of% @List.pairwise_append:=@List.pairwise_append
theorem ZBq:type_of% @List.Pairwise.sublist:=@List.Pairwise.sublist
theorem ZBr:type_of% @List.pairwise_lt_range:=@List.pairwise_lt_range
theorem ZBs:type_of% @PySem.wpAny_tryCatch:=@PySem.wpAny_tryCatch
theorem ZBt:type_of% @Nat.and_le_left:=@Nat.and_le_left
theorem ZBu:type_of% @Nat.sub_self:=@Nat.sub_self
theorem ZBv:type_of% @List.getElem?_eq_none:=@List.getElem?_eq_none
theorem ZBw:type_of% @List.length_replicate:=@List.length_replicate
theorem ZBx:type_of% @List.reverse_cons:=@List.reverse_cons
theorem ZBy:type_of% @List.replicate_succ:=@List.replicate_succ
theorem ZBz:type_of% @List.getElem_toArray:=@List.getElem_toArray
theorem ZB0:type_of% @Array.getElem?_eq_some_iff:=@Array.getElem?_eq_some_iff
theorem ZB1:type_of% @Array.getElem?_toList:=@Array.getElem?_toList
theorem ZB2:type_of% @List.pairwise_map:=@List.pairwise_map
theorem ZB3:type_of% @List.mem_reverse:=@List.mem_reverse
theorem ZB4:type_of% @List.getElem?_set_ne:=@List.getElem?_set_ne
theorem ZB5:type_of% @Int.natCast_nonneg:=@Int.natCast_nonneg
theorem ZB6:type_of% @Bool.false_eq_true:=@Bool.false_eq_true
theorem ZB7:type_of% @Option.map_eq_some_iff:=@Option.map_eq_some_iff
theorem ZB8:type_of% @List.pairwise_cons:=@List.pairwise_cons
theorem ZB9:type_of% @List.take_append_drop:=@List.take_append_drop
theorem ZCA:type_of% @List.reverse_append:=@List.reverse_append
theorem ZCB:type_of% @List.reverse_reverse:=@List.reverse_reverse
theorem ZCC:type_of% @List.map_congr_left:=@List.map_congr_left
theorem ZCD:type_of% @Nat.eq_of_testBit_eq:=@Nat.eq_of_testBit_eq
end
-- CHANGE: your row's module here,as the last of these rows
namespace L2
open PySem PySem.Spec PyProof.Rows
variable {us:List Value}{x:Str}{u:Value}{H:Hp}{C a b:Addr}{o:HO}{P:Program}{w:World}{base h:Heap}{i k t':Nat}{A:Around}{E Q:Value->Shared->Prop}{v:V}{s:Shared}{pos:Pos}{pins:List (Addr × Obj)}{σ:St}{K:W.Frag}{mg:Str->Option Value}
abbrev Key:=Sum Int Str
def DB:Key->Value->Bool
 | .inl k,v=>Value.isInt k v
 | .inr x,v=>Value.isStrOf x v
def WT(w:World):Key->Int
 | .inl k=>hashInt k
 | .inr x=>hashStr w x
theorem keyIs_shape:∀{k:Key} {v:Value},DB k v=true->(∃i t,k=Sum.inl i/\v=Value.int i t)\/(∃x t,k=Sum.inr x/\v=Value.str x t)
 | .inl i,v,h=>by
  obtain⟨t,e⟩:=Value.isInt_shape (k:=i) (v:=v) h;exact .inl ⟨i,t,rfl,e⟩
 | .inr x,v,h=>by
  obtain⟨t,e⟩:=Value.isStrOf_shape (x:=x) (v:=v) h;exact .inr ⟨x,t,rfl,e⟩
theorem PD(i:Int)(t:Tok):DB (.inl i) (.int i t)=true:=by simp[DB,Value.isInt]
theorem Up(x:Str)(t:Tok):DB (.inr x) (.str x t)=true:=by simp[DB,Value.isStrOf]
theorem Qh(a b:Int):decide ((Sum.inl a:Key)=Sum.inl b)=(a == b):=by
 by_cases e:a=b
 ·subst e;simp
 ·have h:¬(Sum.inl a:Key)=Sum.inl b:=fun q=>e (Sum.inl.inj q)
  rw[Zy h];exact(beq_eq_false_iff_ne.mpr e).symm
theorem Pl(a b:Str):decide ((Sum.inr a:Key)=Sum.inr b)=decide (a=b):=by
 by_cases e:a=b
 ·subst e;simp
 ·have h:¬(Sum.inr a:Key)=Sum.inr b:=fun q=>e (Sum.inr.inj q)
  rw[Zy h,Zy e]
theorem Vi(a:Int)(b:Str):decide ((Sum.inl a:Key)=Sum.inr b)=false:=Zy (fun q=>nomatch q)
theorem O1(a:Str)(b:Int):decide ((Sum.inr a:Key)=Sum.inl b)=false:=Zy (fun q=>nomatch q)
def BN(prog:Program)(w:World):PySem.KeyKind prog w Key where
 is:=DB
 hash:=WT w
 inj:=fun v a b ha hb=>by
  rcases keyIs_shape ha with ⟨i,t,rfl,rfl⟩ | ⟨x,t,rfl,rfl⟩
  ·rcases keyIs_shape hb with ⟨j,u,rfl,e⟩ | ⟨y,u,rfl,e⟩
   ·injection e with e1 _;rw[e1]
   ·exact nomatch e
  ·rcases keyIs_shape hb with ⟨j,u,rfl,e⟩ | ⟨y,u,rfl,e⟩
   ·exact nomatch e
   ·injection e with e1 _;rw[e1]
 byValue:=fun k v h=>by
  rcases keyIs_shape h with ⟨i,t,rfl,rfl⟩ | ⟨x,t,rfl,rfl⟩ <;> rfl
 pyHash:=fun hv h=>by
  rcases keyIs_shape hv with ⟨i,t,rfl,rfl⟩ | ⟨x,t,rfl,rfl⟩
  ·exact wpAny_pyHash_int h
  ·exact wpAny_pyHash_str h
 eqBool:=fun hu hv h=>by
  rcases keyIs_shape hu with ⟨i,t,rfl,rfl⟩ | ⟨x,t,rfl,rfl⟩
  ·rcases keyIs_shape hv with ⟨j,u,rfl,rfl⟩ | ⟨y,u,rfl,rfl⟩
   ·rw[Qh]at h;exact wpAny_eqBool_int h
   ·rw[Vi]at h;exact SeqAt.EqAt.int_str i t y u _ _ _ _ h
  ·rcases keyIs_shape hv with ⟨j,u,rfl,rfl⟩ | ⟨y,u,rfl,rfl⟩
   ·rw[O1]at h;exact SeqAt.EqAt.str_int x t j u _ _ _ _ h
   ·rw[Pl]at h;exact wpAny_eqBool_str h
 «strs»:=fun k x t v h=>by
  rcases keyIs_shape h with ⟨i,u,rfl,e⟩ | ⟨y,u,rfl,e⟩
  ·exact nomatch e
  ·injection e with e1 _
   subst e1;cases v <;> rfl
theorem WX(prog:Program)(w:World)(i:Int)(t:Tok):(BN prog w).is (.inl i) (.int i t)=true:=PD i t
theorem SH(prog:Program)(w:World)(x:Str)(t:Tok):(BN prog w).is (.inr x) (.str x t)=true:=Up x t
inductive V where
 | non | bl (b:Bool) | int (i:Int) | str (x:Str) | byt (b:Array UInt8) | flt (b:UInt64) | ref (a:Addr) | ty (n:String)
 deriving DecidableEq
def RelV:V->Value->Prop
 | .non,u=>u=Value.none
 | .bl b,u=>u=Value.bool b
 | .int i,u=>∃t,u=Value.int i t
 | .str x,u=>∃t,u=Value.str x t
 | .byt b,u=>∃t,u=Value.bytes b t
 | .flt b,u=>∃t,u=Value.float b t
 | .ref a,u=>u=Value.ref a
 | .ty n,u=>u=Value.type n
abbrev Vals:List V->List Value->Prop:=Paired RelV
theorem Vals.length{xs:List V}(r:Vals xs us):xs.length=us.length:=Paired.length r
theorem Vals.get:∀{xs:List V} {us:List Value} {i:Nat} {x:V},Vals xs us->xs[i]? = some x->∃u,us[i]? = some u/\RelV x u
 | _,_,_,_,.nil,e=>by simp at e
 | _,_,0,_,.cons r _,e=>by simp at e;subst e;exact⟨_,rfl,r⟩
 | _,_,i+1,x,.cons _ t,e=>by
  obtain⟨u,h1,h2⟩:=Vals.get (i:=i) (x:=x) t (by simpa using e);exact⟨u,by simpa using h1,h2⟩
theorem Vals.set{x:V}(r:RelV x u):∀{xs:List V} {us:List Value} (i:Nat),Vals xs us->Vals (xs.set i x) (us.set i u)
 | _,_,_,.nil=>.nil
 | _,_,0,.cons _ t=>.cons r t
 | _,_,i+1,.cons q t=>.cons q (Vals.set r i t)
theorem Vals.append:∀{xs ys:List V} {us ws:List Value},Vals xs us->Vals ys ws->Vals (xs++ys) (us++ws)
 | _,_,_,_,.nil,s=>s
 | _,_,_,_,.cons r t,s=>.cons r (Vals.append t s)
theorem Vals.take:∀{xs:List V} {us:List Value} (n:Nat),Vals xs us->Vals (xs.take n) (us.take n)
 | _,_,0,_=>.nil
 | _,_,_+1,.nil=>.nil
 | _,_,n+1,.cons r t=>.cons r (Vals.take n t)
theorem Vals.drop:∀{xs:List V} {us:List Value} (n:Nat),Vals xs us->Vals (xs.drop n) (us.drop n)
 | _,_,0,r=>r
 | _,_,_+1,.nil=>.nil
 | _,_,n+1,.cons _ t=>Vals.drop n t
def RelO:Option V->Option Value->Prop
 | some v,some u=>RelV v u
 | none,none=>True
 | _,_=>False
def KV{κ:Type}:List (κ × V)->List (κ × Value)->Prop:=Paired fun(p:κ × V) (q:κ × Value)=>p.1=q.1/\RelV p.2 q.2
def kV:Key->V
 | .inl i=>.int i
 | .inr x=>.str x
inductive HO where
 | lst (xs:List V)
 | tup (xs:List V)
 | dK (kvs:List (Key × V)) | dT (kvs:List (List Key × V))
 | set (S:Int->Bool) (n:Nat)
 | ins (C dx:Addr) (fs:List (Str × V))
 | own (x:Addr)
 | xd (fs:List (Str × V))
 | met (f x:Addr)
 | rng (lo hi:Int)
 | frz (o:Obj) (u:HO)
 | tbl (ps:Array Value)
 | ext (φ:Heap->Prop)
abbrev Hp:=Addr->Option HO
def upd(H:Hp)(a:Addr)(o:HO):Hp:=fun b=>if b=a then some o else H b
theorem AD:upd H a o a=some o:=by unfold upd;rw[if_pos rfl]
theorem AI(h:b≠a):upd H a o b=H b:=by unfold upd;rw[if_neg h]
theorem Av{u:HO}(h:H a=some o)(h':H b=some u)(d:o≠u):a≠b:=by
 intro e;subst e;rw[h]at h';exact d (ZV h')
theorem BW(h:H a=some o)(h':H b=none):a≠b:=by
 intro e;subst e;rw[h]at h';cases h'
def IsTupN(h:Heap)(a:Addr)(items:Array Value):Prop:=∃o,h.get? a=some o/\o.cls=.type "tuple" /\ (∃n,o.data=.seq items n)/\o.dict=none
theorem IsTupN.tup{h:Heap}{a:Addr}{items:Array Value}(x:IsTupN h a items):PyProof.Rows.IsTup h a items:=by
 obtain⟨o,e,c,d,_⟩:=x;exact⟨o,e,c,d⟩
theorem IsTupN.new(h:Heap)(items:Array Value):IsTupN (h.push { cls:=.type "tuple",data:=.seq items }) h.objs.size items:=⟨_,ZN _ rfl,rfl,⟨_,rfl⟩,rfl⟩
section
variable (P:Program)(w:World)
def ObjOk(H:Hp)(h:Heap)(a:Addr):HO->Prop
 | .lst xs=>xs.length<=sizeLine/\∃(its:List Value) (n:Nat),Vals xs its/\h.get? a=some { cls:=.type "list",data:=.seq its.toArray n }
 | .tup xs=>xs.length<=sizeLine/\∃its:List Value,Vals xs its/\IsTupN h a its.toArray
 | .dK kvs=>kvs.length<=sizeLine/\(a == sysModules)=false/\∃vs,KV kvs vs/\h.DictOf (BN P w) a vs
 | .dT kvs=>kvs.length<=sizeLine/\(a == sysModules)=false/\∃xs:List (List Key × Addr × Value),
  Paired (fun(p:List Key × V) (q:List Key × Addr × Value)=>p.1=q.1/\H q.2.1=some (.tup (p.1.map kV))/\RelV p.2 q.2.2) kvs xs /\
  ∃o es ep,h.get? a=some o/\o.ExactDict/\o.data=.dict es ep/\es.toList=xs.map (entryOfKey (tupleKind (BN P w)))/\(xs.map (·.1)).Nodup
 | .set S n=>h.SetOf (intKind P w) a S n
 | .ins C dx fs=>H dx=some (.own a)/\fs.length<=1000/\dx≠a/\h.get? a=some (PySem.W.instObj C dx) /\
  ∃mA,h.Ns1 dx mA/\(∀f,RelO (fs.lookup f) (mA f))/\PySem.Within mA (fs.map (·.1))
 | .own _=>∃o,h.get? a=some o
 | .xd fs=>∃mA,h.Ns1 a mA/\∀f,RelO (fs.lookup f) (mA f)
 | .rng lo hi=>∃t u v,h.get? a=some { cls:=.type "range",data:=.fields #[.int lo t,.int hi u,.int 1 v] }
 | .frz o u=>h.get? a=some o/\ObjOk H h a u
 | .tbl ps=>h.get? a=some { cls:=.none,data:=.fields ps }
 | .met f x=>h.get? a=some (PySem.W.methodObj (.ref f) (.ref x))
 | .ext φ=>φ h/\(∃o,h.get? a=some o)/\∀h1 h2:Heap,φ h1->(∀o,h1.get? a=some o->h2.get? a=some o)->φ h2
def HOk(H:Hp)(h:Heap):Prop:=∀a o,H a=some o->ObjOk P w H h a o
end
section
variable {P:Program}{w:World}{H H':Hp}{h h':Heap}{a:Addr}{o:HO}
theorem ObjOk.lt(x:ObjOk P w H h a o):a < h.objs.size:=by
 cases o with
 | lst xs=>obtain⟨_,_,_,_,e⟩:=x;exact ZG e
 | tup xs=>obtain⟨_,_,_,p⟩:=x;exact p.tup.lt
 | dK kvs=>obtain⟨_,_,_,_,o,_,_,e,_⟩:=x;exact ZG e
 | dT kvs=>obtain⟨_,_,_,_,o,_,_,e,_⟩:=x;exact ZG e
 | set S n=>obtain⟨o,_,_,_,e,_⟩:=x;exact ZG e
 | ins C dx fs=>obtain⟨_,_,_,e,_⟩:=x;exact ZG e
 | own y=>obtain⟨_,e⟩:=x;exact ZG e
 | xd fs=>obtain⟨_,⟨_,_,_,e,_⟩,_⟩:=x;exact ZG e
 | rng lo hi=>obtain⟨_,_,_,e⟩:=x;exact ZG e
 | frz ob u=>obtain⟨e,_⟩:=x;exact ZG e
 | tbl ps=>exact ZG (show h.get? a=some _ from x)
 | met f y=>exact ZG (show h.get? a=some _ from x)
 | ext φ=>obtain⟨_,⟨_,e⟩,_⟩:=x;exact ZG e
theorem Paired.mapP{α β:Type}{F G:α->β->Prop}:∀{l₁:List α} {l₂:List β},Paired F l₁ l₂->(∀a b,F a b->G a b)->Paired G l₁ l₂
 | _,_,.nil,_=>.nil
 | _,_,.cons r t,f=>.cons (f _ _ r) (Paired.mapP t f)
theorem ObjOk.stay (x:ObjOk P w H h a o) (k:∀b u,(b=a\/H b=some (.own a))->h.get? b=some u->h'.get? b=some u)
 (ho:∀b,H b=some (.own a)->H' b=some (.own a)) (ht:∀b xs,H b=some (.tup xs)->H' b=some (.tup xs)):ObjOk P w H' h' a o:=by
 induction o with
 | lst xs=>obtain⟨z,its,n,r,e⟩:=x;exact⟨z,its,n,r,k _ _ (.inl rfl) e⟩
 | tup xs=>obtain⟨z,its,r,ob,e,c⟩:=x;exact⟨z,its,r,ob,k _ _ (.inl rfl) e,c⟩
 | dK kvs=>obtain⟨z,y,vs,r,ob,es,ep,e,c⟩:=x;exact⟨z,y,vs,r,ob,es,ep,k _ _ (.inl rfl) e,c⟩
 | dT kvs =>
  obtain⟨z,y,xs,r,ob,es,ep,e,c⟩:=x;exact⟨z,y,xs,Paired.mapP r fun p q z=>⟨z.1,ht _ _ z.2.1,z.2.2⟩,ob,es,ep,k _ _ (.inl rfl) e,c⟩
 | set S n=>obtain⟨ob,es,ep,t,e,c⟩:=x;exact⟨ob,es,ep,t,k _ _ (.inl rfl) e,c⟩
 | ins C dx fs =>
  obtain⟨d,z,ne,e,mA,⟨od,es,ep,e2,c⟩,r⟩:=x;exact⟨ho _ d,z,ne,k _ _ (.inl rfl) e,mA,⟨od,es,ep,k _ _ (.inr d) e2,c⟩,r⟩
 | own y=>obtain⟨ob,e⟩:=x;exact⟨ob,k _ _ (.inl rfl) e⟩
 | xd fs=>obtain⟨mA,⟨od,es,ep,e,c⟩,r⟩:=x;exact⟨mA,⟨od,es,ep,k _ _ (.inl rfl) e,c⟩,r⟩
 | rng lo hi=>obtain⟨t,u,v,e⟩:=x;exact⟨t,u,v,k _ _ (.inl rfl) e⟩
 | frz ob u ih=>obtain⟨e,q⟩:=x;exact⟨k _ _ (.inl rfl) e,ih q⟩
 | tbl ps =>
  have e:h.get? a=some { cls:=.none,data:=.fields ps }:=x;show h'.get? a=some { cls:=.none,data:=.fields ps };exact k a _ (.inl rfl) e
 | met f y =>
  have e:h.get? a=some (PySem.W.methodObj (.ref f) (.ref y)):=x;show h'.get? a=some (PySem.W.methodObj (.ref f) (.ref y));exact k a _ (.inl rfl) e
 | ext φ=>obtain⟨p,⟨o,e⟩,st⟩:=x;exact⟨st _ _ p fun o q=>k _ _ (.inl rfl) q,⟨o,k _ _ (.inl rfl) e⟩,st⟩
theorem HOk.lt(x:HOk P w H h)(e:H a=some o):a < h.objs.size:=(x a o e).lt
theorem HOk.fresh(x:HOk P w H h)(e:h.objs.size<=a):H a=none:=by
 cases q:H a with
 | none=>rfl
 | some u=>exact absurd (ZT (x.lt q) e) (Zd _)
theorem HOk.kept(x:HOk P w H h)(k:∀b u,h.get? b=some u->h'.get? b=some u):HOk P w H h':=fun a o e =>
 (x a o e).stay (fun b u _ q=>k b u q) (fun _ q=>q) fun _ _ q=>q
theorem HOk.laid(x:HOk P w H h)(k:∀b u,h.get? b=some u->h'.get? b=some u)(hp:h.objs.size<=a)(new:ObjOk P w (upd H a o) h' a o):HOk P w (upd H a o) h':=fun b u e=>by
 have hn:=x.fresh hp
 by_cases hb:b=a
 ·subst hb;rw[AD]at e;cases e;exact new
 ·rw[AI hb]at e;exact(x b u e).stay (fun c v _ q=>k c v q) (fun c q=>by rw[AI (BW q hn)];exact q) fun c xs q=>by rw[AI (BW q hn)];exact q
end
def Rd(H:Hp)(a:Addr)(u:HO):Prop:=H a=some u\/∃o,H a=some (.frz o u)
theorem Rd.of{u:HO}(h:H a=some u):Rd H a u:=.inl h
theorem Rd.ok{u:HO}(r:Rd H a u)(x:HOk P w H h):ObjOk P w H h a u:=by
 rcases r with r | ⟨o,r⟩
 ·exact x a u r
 ·obtain⟨_,q⟩:=x a _ r;exact q
def Mut:Option HO->Prop
 | some (.lst _)=>True
 | some (.dK _)=>True
 | some (.dT _)=>True
 | some (.set _ _)=>True
 | some (.ins _ _ _)=>True
 | some (.ext _)=>True
 | _=>False
section
variable {P:Program}{w:World}{H:Hp}{h h':Heap}{x e:Addr}{o':HO}
theorem HOk.write (ok:HOk P w H h) (mu:Mut (H x)) (he:e=x\/H e=some (.own x)) (k:∀b u,b≠e->h.get? b=some u->h'.get? b=some u) (heo:∃u,h'.get? e=some u)
 (new:ObjOk P w (upd H x o') h' x o'):HOk P w (upd H x o') h':=fun b u q=>by
 have nown:∀c y,H c=some (.own y)->c≠x:=fun c y r z=>by subst z;rw[r]at mu;exact mu
 have ntup:∀c xs,H c=some (.tup xs)->c≠x:=fun c xs r z=>by subst z;rw[r]at mu;exact mu
 by_cases hb:b=x
 ·subst hb;rw[AD]at q;cases q;exact new
 ·rw[AI hb]at q
  by_cases hbe:b=e
  ·have q':H b=some (.own x):=by
    rcases he with z | z
    ·exact absurd (hbe.trans z) hb
    ·rw[hbe];exact z
   rw[q]at q';cases q';obtain⟨v,hv⟩:=heo;exact⟨v,by rw[hbe];exact hv⟩
  ·refine(ok b u q).stay (fun c v hc r=>k c v ?_ r) (fun c r=>by rw[AI (nown c b r)];exact r) fun c xs r=>by rw[AI (ntup c xs r)];exact r
   rcases hc with rfl | hc
   ·exact hbe
   ·rintro rfl
    rcases he with z | z
    ·exact nown c b hc z
    ·rw[hc]at z;cases z;exact hb rfl
end
structure Un(fs ex:List Addr)(H H':Hp)(h h':Heap):Prop where
 keep:∀b o,h.get? b=some o->H b=none->b∉fs->b∉ex->h'.get? b=some o
 slot:∀b o,h.get? b=some o->H b=none->b∈fs->b∉ex->∃sl,h'.get? b=some { o with slots:=sl }
 free:∀b o,h.get? b=some o->H b=none->b∉ex->H' b=none
 there:∀b o,h.get? b=some o->b∉ex->∃o',h'.get? b=some o'
 tups:∀b xs,H b=some (.tup xs)->H' b=some (.tup xs)
 frzs:∀b o u,H b=some (.frz o u)->H' b=some (.frz o u)
 tbls:∀b ps,H b=some (.tbl ps)->∃more,H' b=some (.tbl (ps++more))
section
variable {fs fs' ex ex':List Addr}{H H1 H2:Hp}{h h1 h2 h':Heap}{a x e:Addr}{o:HO}
theorem Un.any(u:Un fs ex H H1 h h1){ob:Obj}(q:h.get? b=some ob)(n:H b=none)(hx:b∉ex):∃sl,h1.get? b=some { ob with slots:=sl }:=by
 by_cases hb:b∈fs
 ·exact u.slot b ob q n hb hx
 ·exact⟨ob.slots,u.keep b ob q n hb hx⟩
theorem Un.trans(a:Un fs ex H H1 h h1)(b:Un fs ex H1 H2 h1 h2):Un fs ex H H2 h h2 where
 keep:=fun c ob q n hc hx=>b.keep c ob (a.keep c ob q n hc hx) (a.free c ob q n hx) hc hx
 slot:=fun c ob q n hc hx=>by
  obtain⟨sl,e1⟩:=a.slot c ob q n hc hx;obtain⟨sl',e2⟩:=b.slot c _ e1 (a.free c ob q n hx) hc hx;exact⟨sl',e2⟩
 free:=fun c ob q n hx=>by
  obtain⟨o',e1⟩:=a.there c ob q hx;exact b.free c o' e1 (a.free c ob q n hx) hx
 there:=fun c ob q hx=>by
  obtain⟨o',e1⟩:=a.there c ob q hx;exact b.there c o' e1 hx
 tups:=fun c xs q=>b.tups c xs (a.tups c xs q)
 frzs:=fun c ob xs q=>b.frzs c ob xs (a.frzs c ob xs q)
 tbls:=fun c ps q=>by
  obtain⟨m1,e1⟩:=a.tbls c ps q;obtain⟨m2,e2⟩:=b.tbls c _ e1;exact⟨m1++m2,by rw[e2,Array.append_assoc]⟩
theorem Un.kept(k:∀b u,h.get? b=some u->h'.get? b=some u):Un fs ex H H h h' :=
 ⟨fun b ob q _ _ _=>k b ob q,fun b ob q _ _ _=>⟨ob.slots,k b ob q⟩,fun _ _ _ n _=>n,fun b ob q _=>⟨ob,k b ob q⟩,fun _ _ q=>q,fun _ _ _ q=>q,fun _ ps q=>⟨#[],by rw[q];simp⟩⟩
theorem Un.refl:Un fs ex H H h h:=Un.kept fun _ _ q=>q
theorem Un.laid(k:∀b u,h.get? b=some u->h'.get? b=some u)(hp:h.objs.size<=a)(hn:H a=none):Un fs ex H (upd H a o) h h' where
 keep:=fun b u q _ _ _=>k b u q
 slot:=fun b u q _ _ _=>⟨u.slots,k b u q⟩
 free:=fun b u q n _=>by rw[AI (ZK (ZT (ZG q) hp))];exact n
 there:=fun b u q _=>⟨u,k b u q⟩
 tups:=fun b xs q=>by rw[AI (BW q hn)];exact q
 frzs:=fun b u xs q=>by rw[AI (BW q hn)];exact q
 tbls:=fun b ps q=>⟨#[],by rw[AI (BW q hn),q];simp⟩
theorem Un.write(mu:Mut (H x))(he:e=x\/H e=some (.own x))(k:∀b u,b≠e->h.get? b=some u->h'.get? b=some u)(heo:∃u,h'.get? e=some u):Un fs ex H (upd H x o) h h':=by
 have hx:∀b,H b=none->b≠x:=fun b n z=>by subst z;rw[n]at mu;exact mu
 have hb:∀b,H b=none->b≠e:=fun b n z=>by
  subst z
  rcases he with r | r
  ·exact hx b n r
  ·rw[n]at r;cases r
 have hm:∀b u,H b=some u->¬Mut (some u)->b≠x:=fun b u q nm z=>by subst z;rw[q]at mu;exact nm mu
 refine⟨fun b u q n _ _=>k b u (hb b n) q,fun b u q n _ _=>⟨u.slots,k b u (hb b n) q⟩,fun b u q n _=>by rw[AI (hx b n)];exact n,fun b u q _=>?_,
  fun b xs q=>by rw[AI (hm b _ q fun z=>z)];exact q,fun b u xs q=>by rw[AI (hm b _ q fun z=>z)];exact q,fun b ps q=>⟨#[],by rw[AI (hm b _ q fun z=>z),q];simp⟩⟩
 by_cases hbe:b=e
 ·subst hbe;exact heo
 ·exact⟨u,k b u hbe q⟩
end
def trk(h:Heap)(H:Hp):List Addr:=(List.range h.objs.size).filter fun a=>(H a).isSome
def CF(h:Heap)(H:Hp):Heap:=PySem.W.hideAll h (trk h H)
theorem Kz(h:Heap)(H:Hp):(CF h H).objs.size=h.objs.size:=PySem.W.hideAll_size _ _
theorem N5{o:Obj}(e:h.get? b=some o)(n:H b=none):(CF h H).get? b=some o :=
 PySem.W.hideAll_get _ e fun hm=>by
  have q:(H b).isSome=true:=(Zp.mp hm).2;rw[n]at q;simp at q
theorem KB{o:Obj}(e:(CF h H).get? b=some o):h.get? b=some o/\H b=none:=by
 have e':h.get? b=some o:=PySem.W.of_hideAll (trk h H) e;refine⟨e',?_⟩;cases q:H b with
 | none=>rfl
 | some x =>
  have hm:b∈trk h H:=Zp.mpr ⟨Zk.mpr (ZG e'),by simp[q]⟩;have z:(CF h H).get? b=none:=PySem.W.hideAll_none (trk h H) hm;rw[z]at e;cases e
def Sj(g h:Heap)(L:Addr):List (Addr × Obj):=(List.range h.objs.size).filterMap fun a=>if a=L\/(g.get? a).isSome=true then none else (h.get? a).map fun o=>(a,o)
def rest(g h:Heap)(L d:Addr):List (Addr × Obj):=(Sj g h L).filter fun p=>decide (p.1≠d)
structure Mod(K:W.Frag)(mg:Str->Option Value)(base:Heap):Prop where
 kin:K.In base
 glob:base.Ns mainGlobals mg
 blt:∃mb,base.Ns builtinsNs mb/\∀x:Str,x ≠ "__name__" -> mb x=bootBuiltins x
 nolimit:base.NoLimit
structure Cx where
 prog:Program
 w:World
 K:W.Frag
 mg:Str->Option Value
 base:Heap
 A:Around
 N:List Str
 s₀:Shared
 H₀:Hp
 env:Env
 outer:List Env
 stack:List Env
 ex:List Addr
 fn:Str->Bool
 calm:Bool
 pn:List (Addr × Obj)
 xe:Value->Shared->Prop
def frs(l:List Env):List Addr:=l.filterMap (·.frame)
abbrev Cx.fs(X:Cx):List Addr:=frs X.outer
def Vis(sc:Scope)(x:Str):Prop:=sc.names.lookup x=some .local\/sc.names.lookup x=some .cell\/sc.names.lookup x=some .free
def Loc(sc:Scope)(x:Str):Prop:=sc.names.lookup x=some .local\/sc.names.lookup x=some .cell
def Qw(env:Env)(h:Heap)(m:Str->Option Value)(x:Str)(u:Value):Prop :=
 (env.kindOf x=some .local/\m x=some u)\/((env.kindOf x=some .cell\/env.kindOf x=some .free)/\∃c,env.cells.lookup x=some c/\h.IsCell c (some u))
structure Cx.Ok(X:Cx):Prop where
 mod:Mod X.K X.mg X.base
 kind:X.env.scope.kind=.function
 glob:X.env.globals=mainGlobals
 blt:X.env.builtins=builtinsNs
 above:X.s₀.heap.objs.size<=X.env.locals
 inj:∀x y c,X.env.cells.lookup x=some c->X.env.cells.lookup y=some c->x=y
 has:∀x,(X.env.kindOf x=some .cell\/X.env.kindOf x=some .free)->∃c,X.env.cells.lookup x=some c
 cab:∀x c,X.fn x=true->X.env.cells.lookup x=some c->X.s₀.heap.objs.size<=c
 hd:X.calm=true->X.A.handled=none
 frames:X.A.frames=some X.stack
 stk:X.stack=X.outer\/(X.stack=X.env::X.outer/\X.env.frame=some X.env.locals)
 exf:∀b∈X.ex,b≠X.env.locals/\∀x c,X.env.cells.lookup x=some c->c≠b
 bs:∀b o,X.base.get? b=some o->X.s₀.heap.get? b=some o/\X.H₀ b=none
 bsz:X.base.objs.size<=X.s₀.heap.objs.size
 noex:∀b o,X.base.get? b=some o->b∉X.ex
 exfs:∀b∈X.ex,b∉X.fs
 funs:X.s₀.heap.FunFrames X.base X.outer
 frf:∀b∈X.fs,X.H₀ b=none
structure Inv(X:Cx)(pins:List (Addr × Obj))(σ:List (Option V))(H:Hp)(s:Shared):Prop where
 ok:X.Ok
 os:s.os=X.s₀.os
 bare:AllBare s.gens
 base:Un X.fs X.ex X.H₀ H X.s₀.heap s.heap
 loc:∃m,s.heap.Ns X.env.locals m/\∀(i:Nat) (x:Str) (v:V),X.N[i]? = some x->σ[i]? = some (some v)->Vis X.env.scope x->∃u,RelV v u/\Qw X.env s.heap m x u
 cell:∀x c,X.env.cells.lookup x=some c->∃v,s.heap.IsCell c v
 free:H X.env.locals=none
 freeC:∀x c,X.env.cells.lookup x=some c->H c=none
 pin:∀p∈X.pn++pins,s.heap.get? p.1=some p.2/\H p.1=none/\p.1≠X.env.locals/\p.1∉X.fs/\∀v,p.2.data≠.cell v
 hok:HOk X.prog X.w H s.heap
 len:σ.length=X.N.length
section
variable {X:Cx}{pins:List (Addr × Obj)}{σ:List (Option V)}{H H':Hp}{s:Shared}{h':Heap}
theorem Cx.Ok.nofr(ok:X.Ok){o:Obj}(e:X.base.get? b=some o):b∉X.fs:=fun hb=>by
 have:=(ok.funs.mem hb).1
 rw[e]at this;cases this
theorem Inv.bs(I:Inv X pins σ H s):∀b o,X.base.get? b=some o->s.heap.get? b=some o/\H b=none:=fun b o e =>
 ⟨I.base.keep b o (I.ok.bs b o e).1 (I.ok.bs b o e).2 (I.ok.nofr e) (I.ok.noex b o e),I.base.free b o (I.ok.bs b o e).1 (I.ok.bs b o e).2 (I.ok.noex b o e)⟩
theorem Inv.bk(I:Inv X pins σ H s):∀b o,X.base.get? b=some o->s.heap.get? b=some o:=fun b o e=>(I.bs b o e).1
theorem Inv.mod(I:Inv X pins σ H s):Mod X.K X.mg X.base:=I.ok.mod
theorem Inv.kIn(I:Inv X pins σ H s):X.K.In s.heap:=I.ok.mod.kin.keeps I.bk
theorem Inv.lt(I:Inv X pins σ H s):X.env.locals < s.heap.objs.size:=let ⟨_,hn,_⟩:=I.loc;hn.lt
theorem Inv.sz(I:Inv X pins σ H s):X.s₀.heap.objs.size<=s.heap.objs.size:=Zf I.ok.above (Zs I.lt)
theorem Inv.nofs(I:Inv X pins σ H s)(h:s.heap.objs.size<=a):a∉X.fs:=fun hb=>by
 obtain⟨_,o,ho,_⟩:=I.ok.funs.mem hb;exact absurd (ZT (ZG ho) (Zf I.sz h)) (Zd _)
theorem Inv.cne(I:Inv X pins σ H s):∀x c,X.env.cells.lookup x=some c->c≠X.env.locals:=fun x c e z=>by
 obtain⟨v,o,ho,hd⟩:=I.cell x c e;obtain⟨m,⟨o',es,ep,ho',hd',_⟩,_⟩:=I.loc;rw[z,ho']at ho;cases ho;rw[hd']at hd;cases hd
theorem Inv.funs(I:Inv X pins σ H s):s.heap.FunFrames X.base X.outer:=by
 have all:∀(l:List Env),(∀b∈frs l,b∈X.fs)->X.s₀.heap.FunFrames X.base l->s.heap.FunFrames X.base l:=by
  intro l
  induction l with
  | nil=>intro _ _;trivial
  | cons env r ih =>
   intro hs hl;obtain⟨hk,⟨L,o,hf,hn,ho,hd⟩,hr⟩:=hl;have hL:L∈X.fs:=hs L (by unfold frs;rw[ZBk,hf];exact Zl);obtain⟨sl,e⟩:=I.base.slot L o ho (I.ok.frf L hL) hL fun z=>I.ok.exfs L z hL
   exact⟨hk,⟨L,_,hf,hn,e,hd⟩,ih (fun b hb=>hs b (by unfold frs;rw[ZBk,hf];exact Za _ hb)) hr⟩
 exact all X.outer (fun _ hb=>hb) I.ok.funs
theorem Inv.stack(I:Inv X pins σ H s):s.heap.FunFrames X.base X.stack:=by
 rcases I.ok.stk with e | ⟨e,hf⟩
 ·rw[e];exact I.funs
 ·rw[e];obtain⟨m,hn,_⟩:=I.loc;refine .cons (by rw[I.ok.kind];decide) hf hn ?_ I.funs;exact ZBU (Zf I.ok.bsz I.ok.above)
theorem Inv.stkSub(I:Inv X pins σ H s):∀b∈frs X.stack,b∈X.env.locals::X.fs:=fun b hb=>by
 rcases I.ok.stk with e | ⟨e,hf⟩
 ·rw[e]at hb;exact Za _ hb
 ·rw[e]at hb;unfold frs at hb;rw[ZBk,hf]at hb;exact hb
theorem Inv.stkFree(I:Inv X pins σ H s):∀b∈frs X.stack,H b=none:=fun b hb=>by
 rcases ZF.mp (I.stkSub b hb) with e | hb
 ·rw[e];exact I.free
 ·obtain⟨_,o,ho,_⟩:=I.ok.funs.mem hb;exact I.base.free b o ho (I.ok.frf b hb) fun z=>I.ok.exfs b z hb
theorem Inv.step {g':Array GenState} {d':Drawn} {ch:List Addr} (I:Inv X pins σ H s)
 (hch:∀b∈ch,(b∈X.ex\/X.s₀.heap.objs.size<=b)/\b≠X.env.locals/\(∀x c,X.env.cells.lookup x=some c->c≠b)/\∀p∈X.pn++pins,p.1≠b)
 (keep:∀b o,b≠X.env.locals->b∉X.fs->b∉ch->s.heap.get? b=some o->H b=none->h'.get? b=some o)
 (slot:∀b o,b≠X.env.locals->b∈X.fs->b∉ch->s.heap.get? b=some o->H b=none->∃sl,h'.get? b=some { o with slots:=sl }) (free:∀b o,b∉ch->s.heap.get? b=some o->H b=none->H' b=none)
 (there:∀b o,b∉ch->s.heap.get? b=some o->∃o',h'.get? b=some o')
 (tups:∀b xs,H b=some (.tup xs)->H' b=some (.tup xs)) (frzs:∀b o u,H b=some (.frz o u)->H' b=some (.frz o u)) (tbls:∀b ps,H b=some (.tbl ps)->∃more,H' b=some (.tbl (ps++more)))
 (ns:∀m,s.heap.Ns X.env.locals m->h'.Ns X.env.locals m) (hok:HOk X.prog X.w H' h') (hg:AllBare g') :
 Inv X pins σ H' { s with heap:=h',gens:=g',drawn:=d',toks:=t' }:=by
 have neL:∀b o,X.s₀.heap.get? b=some o->b≠X.env.locals:=fun b o e=>ZK (ZT (ZG e) I.ok.above)
 have neC:∀b o,X.s₀.heap.get? b=some o->b∉X.ex->b∉ch:=fun b o e hx hb=>by
  rcases(hch b hb).1 with z | z
  ·exact hx z
  ·exact absurd (ZT (ZG e) z) (Zd _)
 have cellK:∀x c,X.env.cells.lookup x=some c->∀v,s.heap.IsCell c v->h'.IsCell c v:=fun x c e v ⟨o,ho,hd⟩=>by
  have nch:c∉ch:=fun z=>(hch c z).2.2.1 x c e rfl
  by_cases hc:c∈X.fs
  ·obtain⟨sl,q⟩:=slot c o (I.cne x c e) hc nch ho (I.freeC x c e);exact⟨_,q,hd⟩
  ·exact⟨o,keep c o (I.cne x c e) hc nch ho (I.freeC x c e),hd⟩
 refine⟨I.ok,I.os,hg,⟨fun b o e n hb hx=>?_,fun b o e n hb hx=>?_,fun b o e n hx=>?_,fun b o e hx=>?_,fun b xs e=>tups b xs (I.base.tups b xs e),fun b o xs e=>frzs b o xs (I.base.frzs b o xs e),fun b ps e=>?_⟩,?_,fun x c e=>?_,?_,fun x c e=>?_,fun p hp=>?_,hok,I.len⟩
 ·exact keep b o (neL b o e) hb (neC b o e hx) (I.base.keep b o e n hb hx) (I.base.free b o e n hx)
 ·obtain⟨sl,e1⟩:=I.base.slot b o e n hb hx;obtain⟨sl',e2⟩:=slot b _ (neL b o e) hb (neC b o e hx) e1 (I.base.free b o e n hx);exact⟨sl',e2⟩
 ·obtain⟨o',e1⟩:=I.base.there b o e hx;exact free b o' (neC b o e hx) e1 (I.base.free b o e n hx)
 ·obtain⟨o',e1⟩:=I.base.there b o e hx;exact there b o' (neC b o e hx) e1
 ·obtain⟨m1,e1⟩:=I.base.tbls b ps e;obtain⟨m2,e2⟩:=tbls b _ e1;exact⟨m1++m2,by rw[e2,Array.append_assoc]⟩
 ·obtain⟨m,hn,hl⟩:=I.loc;refine⟨m,ns m hn,fun i x v e1 e2 e3=>?_⟩;obtain⟨u,r,l⟩:=hl i x v e1 e2 e3;refine⟨u,r,?_⟩
  rcases l with l | ⟨k,c,e,z⟩
  ·exact .inl l
  ·exact .inr ⟨k,c,e,cellK x c e _ z⟩
 ·obtain⟨v,z⟩:=I.cell x c e;exact⟨v,cellK x c e v z⟩
 ·obtain⟨m,⟨o,_,_,ho,_⟩,_⟩:=I.loc;exact free _ o (fun z=>(hch _ z).2.1 rfl) ho I.free
 ·obtain⟨v,o,ho,hd⟩:=I.cell x c e;exact free c o (fun z=>(hch c z).2.2.1 x c e rfl) ho (I.freeC x c e)
 ·obtain⟨e,n,ne,nf,d⟩:=I.pin p hp;have nch:p.1∉ch:=fun z=>(hch p.1 z).2.2.2 p hp rfl
  exact⟨keep p.1 p.2 ne nf nch e n,free p.1 p.2 nch e n,ne,nf,d⟩
theorem Inv.un(I:Inv X pins σ H s)(u:Un X.fs [] H H' s.heap h')(hok:HOk X.prog X.w H' h'):Inv X pins σ H' { s with heap:=h',toks:=t' }:=by
 obtain⟨m,⟨o,es,ep,ho,r⟩,_⟩:=id I.loc;obtain⟨sl,hL⟩:=u.any ho I.free (by simp)
 exact I.step (g':=s.gens) (d':=s.drawn) (ch:=[]) (fun _ z=>nomatch z) (fun b o _ hb _ e n=>u.keep b o e n hb (by simp)) (fun b o _ hb _ e n=>u.slot b o e n hb (by simp)) (fun b o _ e n=>u.free b o e n (by simp)) (fun b o _ e=>u.there b o e (by simp)) u.tups u.frzs u.tbls (fun m' hm=>by
  obtain⟨o',es',ep',ho',r'⟩:=hm;rw[ho]at ho';cases ho';exact⟨_,es',ep',hL,r'⟩) hok I.bare
theorem Inv.call {g':Array GenState} {d':Drawn} {ch:List Addr} (I:Inv X pins σ H s) (u:Un (frs X.stack) ch H H' s.heap h') (hok:HOk X.prog X.w H' h') (hg:AllBare g')
 (hch:∀b∈ch,(b∈X.ex\/X.s₀.heap.objs.size<=b)/\b≠X.env.locals/\(∀x c,X.env.cells.lookup x=some c->c≠b)/\∀p∈X.pn++pins,p.1≠b) :
 Inv X pins σ H' { s with heap:=h',gens:=g',drawn:=d',toks:=t' }:=by
 obtain⟨m,⟨o,es,ep,ho,r⟩,_⟩:=id I.loc;obtain⟨sl,hL⟩:=u.any ho I.free fun z=>(hch _ z).2.1 rfl
 exact I.step (ch:=ch) hch (fun b o hL hb hc e n=>u.keep b o e n (fun z=>(ZF.mp (I.stkSub b z)).elim hL hb) hc) (fun b o _ _ hc e n=>u.any e n hc) (fun b o hc e n=>u.free b o e n hc) (fun b o hc e=>u.there b o e hc) u.tups u.frzs u.tbls (fun m' hm=>by
  obtain⟨o',es',ep',ho',r'⟩:=hm;rw[ho]at ho';cases ho';exact⟨_,es',ep',hL,r'⟩) hok hg
theorem Inv.turned {it:Addr} (I:Inv X pins σ H s) (k:∀b o,b≠it->s.heap.get? b=some o->h'.get? b=some o) (hn:H it=none) (hL:it≠X.env.locals)
 (h1:it∈X.ex\/X.s₀.heap.objs.size<=it) (h2:∀x c,X.env.cells.lookup x=some c->c≠it) (h3:∀p∈X.pn++pins,p.1≠it):Inv X pins σ H { s with heap:=h',toks:=t' }:=by
 have nit:∀b u,H b=some u->b≠it:=fun b u e z=>by rw[z,hn]at e;cases e
 refine I.step (g':=s.gens) (d':=s.drawn) (ch:=[it]) (fun b hb=>?_) (fun b o _ _ hc e _=>k b o (fun z=>hc (by simp[z])) e) (fun b o _ _ hc e _=>⟨o.slots,k b o (fun z=>hc (by simp[z])) e⟩) (fun _ _ _ _ n=>n)
  (fun b o hc e=>⟨o,k b o (fun z=>hc (by simp[z])) e⟩) (fun _ _ e=>e) (fun _ _ _ e=>e) (fun b ps e=>⟨#[],by rw[e];simp⟩) (fun m hm=>?_) (fun b u e=>?_) I.bare
 ·have e:b=it:=by simpa using hb
  subst e;exact⟨h1,hL,h2,h3⟩
 ·obtain⟨o,es,ep,ho,r⟩:=hm;exact⟨o,es,ep,k _ o (Ne.symm hL) ho,r⟩
 ·refine(I.hok b u e).stay (fun c v hc q=>k c v ?_ q) (fun _ q=>q) fun _ _ q=>q
  rcases hc with z | z
  ·rw[z];exact nit b u e
  ·exact nit c _ z
theorem Inv.tok(I:Inv X pins σ H s)(t:Nat):Inv X pins σ H { s with toks:=t }:=I.un (h':=s.heap) (t':=t) Un.refl I.hok
theorem Inv.kept(I:Inv X pins σ H s)(k:∀b u,s.heap.get? b=some u->h'.get? b=some u):Inv X pins σ H { s with heap:=h',toks:=t' }:=I.un (Un.kept k) (I.hok.kept k)
theorem Inv.laid(I:Inv X pins σ H s)(k:∀b u,s.heap.get? b=some u->h'.get? b=some u)(hp:s.heap.objs.size<=a)(new:ObjOk X.prog X.w (upd H a o) h' a o) :
 Inv X pins σ (upd H a o) { s with heap:=h',toks:=t' }:=I.un (Un.laid k hp (I.hok.fresh hp)) (I.hok.laid k hp new)
theorem Inv.write {x e:Addr} (I:Inv X pins σ H s) (mu:Mut (H x)) (he:e=x\/H e=some (.own x)) (k:∀b u,b≠e->s.heap.get? b=some u->h'.get? b=some u) (heo:∃u,h'.get? e=some u)
 (new:ObjOk X.prog X.w (upd H x o) h' x o):Inv X pins σ (upd H x o) { s with heap:=h',toks:=t' }:=I.un (Un.write mu he k heo) (I.hok.write mu he k heo new)
theorem Inv.weak{σ':List (Option V)}(I:Inv X pins σ H s)(hl:σ'.length=σ.length)(w:∀(i:Nat) v,σ'[i]? = some (some v)->σ[i]? = some (some v)):Inv X pins σ' H s :=
 ⟨I.ok,I.os,I.bare,I.base,let ⟨m,hn,hl'⟩:=I.loc;⟨m,hn,fun i x v e1 e2 e3=>hl' i x v e1 (w i v e2) e3⟩,I.cell,I.free,I.freeC,I.pin,I.hok,hl.trans I.len⟩
theorem Inv.pins_of{pins':List (Addr × Obj)}(I:Inv X pins σ H s)(h:∀p∈pins',s.heap.get? p.1=some p.2/\H p.1=none/\p.1≠X.env.locals/\p.1∉X.fs/\∀v,p.2.data≠.cell v):Inv X pins' σ H s :=
 ⟨I.ok,I.os,I.bare,I.base,I.loc,I.cell,I.free,I.freeC,fun p hp=>(ZW.mp hp).elim (fun z=>I.pin p (Zz _ z)) (h p),I.hok,I.len⟩
theorem Hf{N:List Str}(hN:N.Nodup){j:Nat}(a:N[i]? = some x)(b:N[j]? = some x):i=j:=by
 obtain⟨h1,e1⟩:=Zm.mp a;obtain⟨h2,e2⟩:=Zm.mp b;exact(List.getElem_inj hN).mp (e1.trans e2.symm)
theorem LN {M:Model} {Q:Unit->Shared->Prop} (I:Inv X pins σ H s) (hN:X.N.Nodup) (hi:X.N[i]? = some x) (hx:Loc X.env.scope x) (r:RelV v u)
 (h:∀s',Inv X pins (σ.set i (some v)) H s'->(∃a,Heap.SameBut a s.heap s'.heap/\(a=X.env.locals\/X.env.cells.lookup x=some a))->Q () s') (hf:X.fn x=true\/X.env.scope.names.lookup x=some .local:=by first | exact .inl rfl | exact .inr rfl | assumption):wpAny M A (storeName X.env x u) Q E s:=by
 obtain⟨m,hn,hl⟩:=id I.loc;have hcls:(X.env.scope.kind == .class || (X.env.scope.kind == .module && X.env.locals != X.env.globals))=false:=by rw[I.ok.kind];rfl
 have hiσ:i < σ.length:=by rw[I.len];exact(Zm.mp hi).1
 have cne:=I.cne
 have tracked:∀{a:Addr} {h':Heap},(∃o,s.heap.get? a=some o/\H a=none)->Heap.SameBut a s.heap h'->HOk X.prog X.w H h':=fun {a h'} ha hs b ob e=>by
  obtain⟨_,_,hfree⟩:=ha;refine(I.hok b ob e).stay (fun c w' hc q=>(hs.2 c ?_).trans q) (fun _ q=>q) fun _ _ q=>q
  rintro rfl
  rcases hc with rfl | hc
  ·rw[hfree]at e;cases e
  ·rw[hfree]at hc;cases hc
 rcases hx with hk | hk
 ·refine wpAny_storeName_local hk hn (fun h' hn' hs=>?_) hcls;obtain⟨oL,_,_,hoL,_⟩:=id hn;refine h _ ⟨I.ok,I.os,I.bare,⟨fun b o e n hb hx=>?_,fun b o e n hb hx=>?_,I.base.free,fun b o e hx=>?_,I.base.tups,I.base.frzs,I.base.tbls⟩,⟨_,hn',fun j y v' e1 e2 e3=>?_⟩,fun y c e=>?_,I.free,I.freeC,fun p hp=>?_,tracked ⟨oL,hoL,I.free⟩ hs,by simpa using I.len⟩ ⟨_,hs,.inl rfl⟩
  ·exact(hs.2 b (ZK (ZT (ZG e) I.ok.above))).trans (I.base.keep b o e n hb hx)
  ·obtain⟨sl,e1⟩:=I.base.slot b o e n hb hx;exact⟨sl,(hs.2 b (ZK (ZT (ZG e) I.ok.above))).trans e1⟩
  ·obtain⟨o',e1⟩:=I.base.there b o e hx;exact⟨o',(hs.2 b (ZK (ZT (ZG e) I.ok.above))).trans e1⟩
  ·by_cases hj:j=i
   ·subst hj;rw[hi]at e1;cases e1;rw[List.getElem?_set_self hiσ]at e2;cases e2;exact⟨u,r,.inl ⟨hk,by simp⟩⟩
   ·rw[ZB4 (Ne.symm hj)]at e2;obtain⟨u',r',q⟩:=hl j y v' e1 e2 e3;refine⟨u',r',?_⟩
    rcases q with ⟨k,e⟩ | ⟨k,c,e,z⟩
    ·refine .inl ⟨k,?_⟩
     have:y≠x:=fun e=>hj (Hf hN e1 (e ▸ hi))
     simp[this,e]
    ·exact .inr ⟨k,c,e,z.sameBut hs (cne y c e)⟩
  ·obtain⟨w',z⟩:=I.cell y c e;exact⟨w',z.sameBut hs (cne y c e)⟩
  ·obtain⟨e,n,ne,nf,d⟩:=I.pin p hp;exact⟨(hs.2 p.1 ne).trans e,n,ne,nf,d⟩
 ·have hfn:X.fn x=true:=by
   rcases hf with z | z
   ·exact z
   ·rw[z]at hk;cases hk
  obtain⟨c,hc⟩:=I.ok.has x (.inl hk);obtain⟨w',z⟩:=I.cell x c hc;refine wpAny_storeName_cell I.ok.kind hk hc z (fun h' hc' hs=>?_);obtain⟨oc,hoc,hocd⟩:=id z;refine h { s with heap:=h' } ⟨I.ok,I.os,I.bare,⟨fun b o e n hb hx=>?_,fun b o e n hb hx=>?_,I.base.free,fun b o e hx=>?_,I.base.tups,I.base.frzs,I.base.tbls⟩,⟨m,hn.sameBut hs (Ne.symm (cne x c hc)),fun j y v' e1 e2 e3=>?_⟩,fun y c' e=>?_,I.free,I.freeC,fun p hp=>?_,tracked ⟨oc,hoc,I.freeC x c hc⟩ hs,by simpa using I.len⟩ ⟨c,hs,.inr hc⟩
  ·exact(hs.2 b (ZK (ZT (ZG e) (I.ok.cab x c hfn hc)))).trans (I.base.keep b o e n hb hx)
  ·obtain⟨sl,e1⟩:=I.base.slot b o e n hb hx;exact⟨sl,(hs.2 b (ZK (ZT (ZG e) (I.ok.cab x c hfn hc)))).trans e1⟩
  ·obtain⟨o',e1⟩:=I.base.there b o e hx;exact⟨o',(hs.2 b (ZK (ZT (ZG e) (I.ok.cab x c hfn hc)))).trans e1⟩
  ·by_cases hj:j=i
   ·subst hj;rw[hi]at e1;cases e1;rw[List.getElem?_set_self hiσ]at e2;cases e2;exact⟨u,r,.inr ⟨.inl hk,c,hc,hc'⟩⟩
   ·rw[ZB4 (Ne.symm hj)]at e2;obtain⟨u',r',q⟩:=hl j y v' e1 e2 e3;refine⟨u',r',?_⟩
    rcases q with q | ⟨k,c',e,z'⟩
    ·exact .inl q
    ·refine .inr ⟨k,c',e,z'.sameBut hs ?_⟩;rintro rfl;exact hj (Hf hN e1 (I.ok.inj _ _ _ e hc ▸ hi))
  ·by_cases hcc:c'=c
   ·subst hcc;exact⟨_,hc'⟩
   ·obtain⟨w2,z2⟩:=I.cell y c' e;exact⟨w2,z2.sameBut hs hcc⟩
  ·obtain⟨e,n,ne,nf,d⟩:=I.pin p hp;refine⟨(hs.2 p.1 ?_).trans e,n,ne,nf,d⟩;intro q;rw[q,hoc]at e;have q':oc=p.2:=ZV e;exact d w' (by rw[<- q'];exact hocd)
theorem Ez {M:Model} {Q:Unit->Shared->Prop} (I:Inv X pins σ H s) (hN:X.N.Nodup) (hi:X.N[i]? = some x) (hx:Loc X.env.scope x) (r:RelV v u)
 (h:∀s',Inv X pins (σ.set i (some v)) H s'->Q () s') (hf:X.fn x=true\/X.env.scope.names.lookup x=some .local:=by first | exact .inl rfl | exact .inr rfl | assumption):wpAny M A (storeName X.env x u) Q E s :=
 LN I hN hi hx r (fun s' I' _=>h s' I') hf
theorem Inv.call' {s':Shared} {ch:List Addr} (I:Inv X pins σ H s) (ho:s'.os=s.os) (u:Un (frs X.stack) ch H H' s.heap s'.heap) (hok:HOk X.prog X.w H' s'.heap) (hg:AllBare s'.gens)
 (hch:∀b∈ch,(b∈X.ex\/X.s₀.heap.objs.size<=b)/\b≠X.env.locals/\(∀x c,X.env.cells.lookup x=some c->c≠b)/\∀p∈X.pn++pins,p.1≠b):Inv X pins σ H' s':=by
 obtain⟨h',g',d',t',o'⟩:=s';have e:o'=s.os:=ho;subst e;exact I.call (g':=g') (t':=t') (d':=d') u hok hg hch
end
abbrev XK:=Value->Option Addr->Hp->Prop
abbrev St:=List (Option V)
abbrev VK:=V->Hp->Prop
abbrev TE:=St->Hp->VK->Prop
abbrev TT:=St->Hp->(Bool->Hp->Prop)->Prop
abbrev TA:=St->Hp->(List V->Hp->Prop)->Prop
structure Ends where
 nx:St->Hp->Prop
 rt:VK
 bk:St->Hp->Prop:=fun _ _=>False
 ct:St->Hp->Prop:=fun _ _=>False
abbrev TS:=Ends->St->Hp->Prop
def EP(X:Cx)(pins:List (Addr × Obj))(σ:St)(Q:VK)(u:Value)(s':Shared):Prop:=∃v H',Inv X pins σ H' s'/\RelV v u/\Q v H'
def TP(X:Cx)(pins:List (Addr × Obj))(σ:St)(Q:Bool->Hp->Prop)(b:Bool)(s':Shared):Prop:=∃H',Inv X pins σ H' s'/\Q b H'
def AP(X:Cx)(pins:List (Addr × Obj))(σ:St)(Q:List V->Hp->Prop)(us:List Value)(s':Shared):Prop:=∃vs H',Inv X pins σ H' s'/\Vals vs us/\Q vs H'
def SP(X:Cx)(pins:List (Addr × Obj))(D:Ends)(f:Flow)(s':Shared):Prop :=
 match f with
 | .next=>∃σ' H',Inv X pins σ' H' s'/\D.nx σ' H'
 | .brk=>∃σ' H',Inv X pins σ' H' s'/\D.bk σ' H'
 | .cont=>∃σ' H',Inv X pins σ' H' s'/\D.ct σ' H'
 | .ret u=>∃v σ' H',Inv X pins σ' H' s'/\RelV v u/\D.rt v H'
def PE(X:Cx)(e:Expr)(t:TE):Prop :=
 ∀(pins:List (Addr × Obj)) (s:Shared) (σ:St) (H:Hp) (Q:VK),Inv X pins σ H s->t σ H Q->wpAny (model X.prog X.w) X.A (eval e X.env) (EP X pins σ Q) X.xe s
def PT(X:Cx)(e:Expr)(t:TT):Prop :=
 ∀(pins:List (Addr × Obj)) (s:Shared) (σ:St) (H:Hp) (Q:Bool->Hp->Prop),Inv X pins σ H s->t σ H Q->wpAny (model X.prog X.w) X.A (isTrue e X.env (eval e X.env)) (TP X pins σ Q) X.xe s
def PW(X:Cx)(e:Expr)(t:TT):Prop :=
 ∀(whole:Sem Value) (pins:List (Addr × Obj)) (s:Shared) (σ:St) (H:Hp) (Q:Bool->Hp->Prop),Inv X pins σ H s->t σ H Q->wpAny (model X.prog X.w) X.A (isTrue e X.env whole) (TP X pins σ Q) X.xe s
theorem PW.pt{X:Cx}{e:Expr}{t:TT}(h:PW X e t):PT X e t:=h _
def PA(X:Cx)(es:List Expr)(t:TA):Prop :=
 ∀(pos:Pos) (pins:List (Addr × Obj)) (s:Shared) (σ:St) (H:Hp) (Q:List V->Hp->Prop),Inv X pins σ H s->t σ H Q->wpAny (model X.prog X.w) X.A (spliced (backTo pos (starEach es X.env))) (AP X pins σ Q) X.xe s
def PS(X:Cx)(st:Stmt)(t:TS):Prop :=
 ∀(pins:List (Addr × Obj)) (s:Shared) (σ:St) (H:Hp) (D:Ends),Inv X pins σ H s->t D σ H->wpAny (model X.prog X.w) X.A (exec st X.env) (SP X pins D) X.xe s
def PSs(X:Cx)(st:List Stmt)(t:TS):Prop :=
 ∀(pins:List (Addr × Obj)) (s:Shared) (σ:St) (H:Hp) (D:Ends),Inv X pins σ H s->t D σ H->wpAny (model X.prog X.w) X.A (execs st X.env) (SP X pins D) X.xe s
theorem thn{α:Type}{t:Sem α}{Q Q':α->Shared->Prop}{M:Model}(h:wpAny M A t Q E s)(hQ:∀a s,Q a s->Q' a s):wpAny M A t Q' E s:=ZZ h hQ fun _ _ x=>x
section
variable {X:Cx}
def Uu(i:Nat):TE:=fun σ H Q=>∃v,σ[i]? = some (some v)/\Q v H
def tC(v:V):TE:=fun _ H Q=>Q v H
theorem Sn(hN:X.N[i]? = some x)(hv:Vis X.env.scope x)(hd:(x == ("__debug__" : Str))=false:=by decide)(hcd:(x == ("__classdict__" : Str))=false:=by decide):PE X (.Name x pos) (Uu i):=by
 intro pins s σ H Q I h;obtain⟨v,e,h⟩:=h;obtain⟨m,hn,hl⟩:=I.loc;obtain⟨u,r,l⟩:=hl i x v hN e hv;have fin:EP X pins σ Q u s:=⟨v,H,I,r,h⟩
 rcases l with ⟨hk,hm⟩ | ⟨hk,c,hc,hcell⟩
 ·exact wpAny_Name (wpAny_loadName_local I.ok.kind hk hn hm fin) hd
 ·rcases hk with hk | hk
  ·exact wpAny_Name (wpAny_loadName_cell I.ok.kind hk hc hcell fin) hd
  ·exact wpAny_Name (wpAny_loadName_free I.ok.kind hk hc hcell fin hcd) hd
theorem AC{i j pos}:PE X (.Constant (.int i) j pos) (tC (.int i)):=fun _ _ _ H _ I h=>wpAny_Constant_int ⟨.int i,H,I.tok _,⟨_,rfl⟩,h⟩
theorem Az{b j pos}:PE X (.Constant (.bool b) j pos) (tC (.bl b)):=fun _ _ _ H _ I h=>Constant_bool ⟨.bl b,H,I,rfl,h⟩
theorem DO{j pos}:PE X (.Constant .none j pos) (tC .non):=fun _ _ _ H _ I h=>Constant_none ⟨.non,H,I,rfl,h⟩
theorem C4{x j pos}:PE X (.Constant (.str x) j pos) (tC (.str x)):=fun _ _ _ H _ I h=>Calls.Constant_str ⟨.str x,H,I.tok _,⟨_,rfl⟩,h⟩
def Gl(X:Cx)(x:Str):Prop:=X.env.kindOf x=some .globalImplicit
theorem Dj (I:Inv X pins σ H s) (hg:Gl X x) (hm:X.mg x=some u) (h:Q u s)
 (hd:(x == ("__debug__" : Str))=false:=by decide):wpAny (model X.prog X.w) X.A (eval (.Name x pos) X.env) Q E s :=
 Calls.Name_function_global I.ok.kind hg (Calls.loadGlobal_global (by rw[I.ok.glob];exact I.mod.glob.keeps I.bk) hm h) hd
theorem Ct (I:Inv X pins σ H s) (hg:Gl X x) (hm:X.mg x=none) (hv:bootBuiltins x=some u) (h:Q u s)
 (hn:x ≠ "__name__":=by decide) (hd:(x == ("__debug__" : Str))=false:=by decide):wpAny (model X.prog X.w) X.A (eval (.Name x pos) X.env) Q E s:=by
 obtain⟨mb,h1,h2⟩:=I.mod.blt;exact Calls.Name_function_global I.ok.kind hg (Calls.loadGlobal_builtin (by rw[I.ok.glob];exact I.mod.glob.keeps I.bk) hm (by rw[I.ok.blt];exact h1.keeps I.bk) ((h2 x hn).trans hv) h) hd
theorem C5(hg:Gl X x)(hm:X.mg x=some u)(r:RelV v u)(hd:(x == ("__debug__" : Str))=false:=by decide):PE X (.Name x pos) (tC v) :=
 fun _ _ _ H _ I h=>Dj I hg hm ⟨v,H,I,r,h⟩ hd
theorem DH(hg:Gl X x)(hm:X.mg x=none)(hv:bootBuiltins x=some u)(r:RelV v u)(hn:x ≠ "__name__":=by decide)(hd:(x == ("__debug__" : Str))=false:=by decide):PE X (.Name x pos) (tC v) :=
 fun _ _ _ H _ I h=>Ct I hg hm hv ⟨v,H,I,r,h⟩ hn hd
variable {a b:Expr}{ta tb:TE}{pos:Pos}
theorem IB(b:Expr){op:CmpOp}(h:op≠.In)(h2:op≠.NotIn):behindInMarks op b=false:=by
 have e1:(op == CmpOp.In)=false:=by cases op <;> first | rfl | exact absurd rfl h
 have e2:(op == CmpOp.NotIn)=false:=by cases op <;> first | rfl | exact absurd rfl h2
 cases b <;> simp[behindInMarks,e1,e2]
variable {tA tB':TT}{rest:List Expr}
def NB(t u:TT):TT:=fun σ H Q=>t σ H fun c H1=>if c=true then u σ H1 Q else Q false H1
def tOr(t u:TT):TT:=fun σ H Q=>t σ H fun c H1=>if c=true then Q true H1 else u σ H1 Q
def K3(t:TT):TT:=fun σ H Q=>t σ H fun c H1=>Q (!c) H1
theorem Cq(ha:PT X a tA):PW X (.BoolOp .And [a] pos) tA:=by
 intro wh pins s σ H Q I h;refine isTrue_and (thn (ha pins s σ H Q I h) fun c s1 e=>?_);cases c with
 | true=>exact isTrue_and_nil e
 | false=>exact e
theorem E8(ha:PT X a tA):PW X (.BoolOp .Or [a] pos) tA:=by
 intro wh pins s σ H Q I h;refine isTrue_or (thn (ha pins s σ H Q I h) fun c s1 e=>?_);cases c with
 | false=>exact isTrue_or_nil e
 | true=>exact e
theorem Cg(ha:PT X a tA)(hb:PW X (.BoolOp .And (b::rest) pos) tB'):PW X (.BoolOp .And (a::b::rest) pos) (NB tA tB'):=by
 intro wh pins s σ H Q I h;refine isTrue_and (thn (ha pins s σ H _ I h) fun c s1 ⟨H1,I1,q1⟩=>?_);cases c with
 | true=>exact hb wh pins s1 σ H1 Q I1 q1
 | false=>exact⟨H1,I1,q1⟩
theorem DK(ha:PT X a tA)(hb:PW X (.BoolOp .Or (b::rest) pos) tB'):PW X (.BoolOp .Or (a::b::rest) pos) (tOr tA tB'):=by
 intro wh pins s σ H Q I h;refine isTrue_or (thn (ha pins s σ H _ I h) fun c s1 ⟨H1,I1,q1⟩=>?_);cases c with
 | true=>exact⟨H1,I1,q1⟩
 | false=>exact hb wh pins s1 σ H1 Q I1 q1
theorem CY(ha:PT X a tA):PT X (.UnaryOp .Not a pos) (K3 tA):=by
 intro pins s σ H Q I h;exact isTrue_not (ha pins s σ H (fun c H1=>Q (!c) H1) I h)
def RE(ta tb:TE):TE:=fun σ H Q=>ta σ H fun x H1=>∃c,x=.bl c/\if c=true then tb σ H1 Q else Q (.bl false) H1
def QL(ta tb:TE):TE:=fun σ H Q=>ta σ H fun x H1=>∃c,x=.bl c/\if c=true then Q (.bl true) H1 else tb σ H1 Q
def WY(ta:TE):TE:=fun σ H Q=>ta σ H fun x H1=>∃c,x=.bl c/\Q (.bl (!c)) H1
theorem KN{op}{t:TE}(h:PE X a t):PE X (.BoolOp op [a] pos) t:=fun pins s σ H Q I hw=>BoolOp_one (h pins s σ H Q I hw)
theorem Rw(ha:PE X a ta)(hb:PE X (.BoolOp .And (b::rest) pos) tb):PE X (.BoolOp .And (a::b::rest) pos) (RE ta tb):=by
 intro pins s σ H Q I h;refine BoolOp_and (thn (ha pins s σ H _ I h) fun v s1 ⟨x,H1,I1,r1,q1⟩=>?_);obtain⟨c,rfl,q1⟩:=q1;cases r1;refine ZBM ?_;cases c with
 | true=>exact hb pins s1 σ H1 Q I1 q1
 | false=>exact⟨.bl false,H1,I1,rfl,q1⟩
theorem Qq(ha:PE X a ta)(hb:PE X (.BoolOp .Or (b::rest) pos) tb):PE X (.BoolOp .Or (a::b::rest) pos) (QL ta tb):=by
 intro pins s σ H Q I h;refine BoolOp_or (thn (ha pins s σ H _ I h) fun v s1 ⟨x,H1,I1,r1,q1⟩=>?_);obtain⟨c,rfl,q1⟩:=q1;cases r1;refine ZBM ?_;cases c with
 | false=>exact hb pins s1 σ H1 Q I1 q1
 | true=>exact⟨.bl true,H1,I1,rfl,q1⟩
theorem O2(ha:PE X a ta):PE X (.UnaryOp .Not a pos) (WY ta):=by
 intro pins s σ H Q I h;refine UnaryOp_ (thn (ha pins s σ H _ I h) fun v s1 ⟨x,H1,I1,r1,q1⟩=>?_);obtain⟨c,rfl,q1⟩:=q1;cases r1;exact not_of (ZBM ⟨.bl (!c),H1,I1,rfl,q1⟩)
def tIf(t:TT)(ta tb:TE):TE:=fun σ H Q=>t σ H fun c H1=>if c=true then ta σ H1 Q else tb σ H1 Q
theorem DQ{c:Expr}(hc:PT X c tA)(ha:PE X a ta)(hb:PE X b tb):PE X (.IfExp c a b pos) (tIf tA ta tb):=by
 intro pins s σ H Q I h;refine wpAny_IfExp (thn (hc pins s σ H _ I h) fun d s1 ⟨H1,I1,q1⟩=>?_);cases d with
 | true=>exact ha pins s1 σ H1 Q I1 q1
 | false=>exact hb pins s1 σ H1 Q I1 q1
end
def SqL(K:W.Frag)(H:Hp)(a:Addr)(xs:List V):Prop :=
 Rd H a (.lst xs) \/
  ∃(o:Obj) (its:Array Value) (n:Nat),K.lookup a=some o/\o.cls=.type "list" /\ o.dict=none/\o.data=.seq its n/\its.size<=sizeLine/\Vals xs its.toList
def SqT(K:W.Frag)(H:Hp)(a:Addr)(xs:List V):Prop :=
 Rd H a (.tup xs) \/
  ∃(o:Obj) (its:Array Value) (n:Nat),K.lookup a=some o/\o.cls=.type "tuple" /\ o.dict=none/\o.data=.seq its n/\its.size<=sizeLine/\Vals xs its.toList
def UM:Value->Option V
 | .none=>some .non
 | .bool b=>some (.bl b)
 | .int i _=>some (.int i)
 | .str x _=>some (.str x)
 | .bytes b _=>some (.byt b)
 | .float b _=>some (.flt b)
 | .ref a=>some (.ref a)
 | .type n=>some (.ty n)
 | _=>none
theorem RelV.abs{x:V}(r:RelV x u):UM u=some x:=by
 cases x with
 | non=>cases r;rfl
 | bl _=>cases r;rfl
 | int _=>obtain⟨t,rfl⟩:=r;rfl
 | str _=>obtain⟨t,rfl⟩:=r;rfl
 | byt _=>obtain⟨t,rfl⟩:=r;rfl
 | flt _=>obtain⟨t,rfl⟩:=r;rfl
 | ref _=>cases r;rfl
 | ty _=>cases r;rfl
theorem RelV.inj{x y:V}(r:RelV x u)(q:RelV y u):x=y:=ZV (r.abs.symm.trans q.abs)
theorem Vals.inj:∀{xs ys:List V} {us:List Value},Vals xs us->Vals ys us->xs=ys
 | _,_,_,.nil,.nil=>rfl
 | _,_,_,.cons r t,.cons r' t'=>by rw[r.inj r',Vals.inj t t']
section
variable {X:Cx}{pins:List (Addr × Obj)}{σ:St}{H:Hp}{s:Shared}{a:Addr}{xs ys:List V}
theorem SqL.of(h:H a=some (.lst xs)):SqL K H a xs:=.inl (.inl h)
theorem SqT.of(h:H a=some (.tup xs)):SqT K H a xs:=.inl (.inl h)
theorem Inv.list(I:Inv X pins σ H s)(h:SqL X.K H a xs):∃its:List Value,Vals xs its/\PlainL s.heap a its.toArray/\xs.length<=sizeLine:=by
 rcases h with h | ⟨o,its,n,hk,hc,hd,hs,hz,r⟩
 ·obtain⟨z,its,n,r,e⟩:=h.ok I.hok;exact⟨its,r,⟨_,n,e,rfl,rfl,rfl⟩,z⟩
 ·refine⟨its.toList,r,⟨o,n,I.kIn a o hk,hc,hd,by simpa using hs⟩,?_⟩;have e:=r.length;simp only[Zg]at e;lia
theorem Inv.tuple(I:Inv X pins σ H s)(h:SqT X.K H a xs):∃its:List Value,Vals xs its/\IsTup s.heap a its.toArray/\xs.length<=sizeLine:=by
 rcases h with h | ⟨o,its,n,hk,hc,hdd,hs,hz,r⟩
 ·obtain⟨z,its,r,p⟩:=h.ok I.hok;exact⟨its,r,p.tup,z⟩
 ·refine⟨its.toList,r,⟨o,I.kIn a o hk,hc,n,by simpa using hs⟩,?_⟩;have e:=r.length;simp only[Zg]at e;lia
theorem Inv.list_inj(I:Inv X pins σ H s)(h:SqL X.K H a xs)(h':SqL X.K H a ys):xs=ys:=by
 obtain⟨its,r,⟨o,n,e,_,_,d⟩,_⟩:=I.list h;obtain⟨its',r',⟨o',n',e',_,_,d'⟩,_⟩:=I.list h';rw[e]at e';cases e';rw[d]at d';injection d' with d1 _
 have:its=its':=by simpa using congrArg Array.toList d1
 subst this;exact r.inj r'
theorem Inv.tuple_inj(I:Inv X pins σ H s)(h:SqT X.K H a xs)(h':SqT X.K H a ys):xs=ys:=by
 obtain⟨its,r,⟨o,e,_,n,d⟩,_⟩:=I.tuple h;obtain⟨its',r',⟨o',e',_,n',d'⟩,_⟩:=I.tuple h';rw[e]at e';cases e';rw[d]at d';injection d' with d1 _
 have:its=its':=by simpa using congrArg Array.toList d1
 subst this;exact r.inj r'
end
abbrev Cx.wish(X:Cx)(E:Value->Shared->Prop):Cx:={ X with xe:=E }
abbrev Cx.nox(X:Cx):Cx:=X.wish fun _ _=>False
theorem Cx.Ok.wish{X:Cx}(ok:X.Ok)(E:Value->Shared->Prop):(X.wish E).Ok :=
 ⟨ok.mod,ok.kind,ok.glob,ok.blt,ok.above,ok.inj,ok.has,ok.cab,ok.hd,ok.frames,ok.stk,ok.exf,ok.bs,ok.bsz,ok.noex,ok.exfs,ok.funs,ok.frf⟩
theorem Cx.Ok.unwish{X:Cx}(ok:(X.wish E).Ok):X.Ok :=
 ⟨ok.mod,ok.kind,ok.glob,ok.blt,ok.above,ok.inj,ok.has,ok.cab,ok.hd,ok.frames,ok.stk,ok.exf,ok.bs,ok.bsz,ok.noex,ok.exfs,ok.funs,ok.frf⟩
section
variable {X:Cx}{pins:List (Addr × Obj)}{σ:St}{H:Hp}{s:Shared}{E:Value->Shared->Prop}
theorem Inv.wish(I:Inv X pins σ H s)(E:Value->Shared->Prop):Inv (X.wish E) pins σ H s:=⟨I.ok.wish E,I.os,I.bare,I.base,I.loc,I.cell,I.free,I.freeC,I.pin,I.hok,I.len⟩
theorem Inv.unwish(I:Inv (X.wish E) pins σ H s):Inv X pins σ H s:=⟨I.ok.unwish,I.os,I.bare,I.base,I.loc,I.cell,I.free,I.freeC,I.pin,I.hok,I.len⟩
theorem SP.unwish{D:Ends}{f:Flow}{s':Shared}(h:SP (X.wish E) pins D f s'):SP X pins D f s':=by
 cases f with
 | next=>obtain⟨σ',H',I,q⟩:=h;exact⟨σ',H',I.unwish,q⟩
 | brk=>obtain⟨σ',H',I,q⟩:=h;exact⟨σ',H',I.unwish,q⟩
 | cont=>obtain⟨σ',H',I,q⟩:=h;exact⟨σ',H',I.unwish,q⟩
 | ret u=>obtain⟨v,σ',H',I,r,q⟩:=h;exact⟨v,σ',H',I.unwish,r,q⟩
theorem PT.nox{e:Expr}{t:TT}(h:PT X.nox e t):PT X e t:=fun pins s σ H Q I hw =>
 ZZ (h pins s σ H Q (I.wish _) hw) (fun _ _ ⟨H',I',q⟩=>⟨H',I'.unwish,q⟩) fun _ _ z=>False.elim z
theorem PSs.nox{st:List Stmt}{t:TS}(h:PSs X.nox st t):PSs X st t:=fun pins s σ H D I hw =>
 ZZ (h pins s σ H D (I.wish _) hw) (fun _ _ q=>q.unwish) fun _ _ z=>False.elim z
end
section
variable {X:Cx}{st:Stmt}{rest:List Stmt}{t u:TS}{e:Expr}{te:TE}{pos:Pos}
def CW:TS:=fun D σ H=>D.nx σ H
def GK(t u:TS):TS:=fun D σ H=>t { D with nx:=u D } σ H
theorem Ao:PSs X [] CW:=fun _ _ σ H _ I h=>wpAny_execs_nil ⟨σ,H,I,h⟩
theorem AF(h1:PS X st t)(h2:PSs X rest u):PSs X (st::rest) (GK t u):=by
 intro pins s σ H D I h;refine wpAny_execs_cons (thn (h1 pins s σ H { D with nx:=u D } I h) fun f s1 q=>?_);cases f with
 | next =>
  obtain⟨σ',H',I',q⟩:=q;exact h2 pins s1 σ' H' D I' q
 | ret v=>exact q
 | brk=>exact q
 | cont=>exact q
theorem AH(h1:PS X st t):PSs X [st] t:=by
 intro pins s σ H D I h;refine wpAny_execs_cons (thn (h1 pins s σ H D I h) fun f s1 q=>?_);cases f with
 | next=>exact wpAny_execs_nil q
 | ret v=>exact q
 | brk=>exact q
 | cont=>exact q
theorem Inv.quiet(I:Inv X pins σ H s):interactive X.env=false:=by simp[interactive,I.ok.kind]
def HD(te:TE):TS:=fun D σ H=>te σ H fun _ H1=>D.nx σ H1
theorem Cz(he:PE X e te)(hs:swapsWith e none pos.line X.env=pure false:=by rfl):PS X (.Expr e pos) (HD te):=by
 intro pins s σ H D I h;exact wpAny_Expr_any (thn (he pins s σ H _ I h) fun v s1 ⟨x,H1,I1,r1,q1⟩=>⟨σ,H1,I1,q1⟩) I.quiet hs
def Mq(te:TE):TS:=fun D σ H=>te σ H D.rt
theorem AM(he:PE X e te):PS X (.Return (some e) pos) (Mq te):=by
 intro pins s σ H D I h;exact wpAny_Return_some (thn (he pins s σ H _ I h) fun v s1 ⟨x,H1,I1,r1,q1⟩=>⟨x,σ,H1,I1,r1,q1⟩)
def LO(c:TT)(t u:TS):TS:=fun D σ H=>c σ H fun b H1=>if b=true then t D σ H1 else u D σ H1
theorem Ap{c:Expr}{a b:List Stmt}{tc:TT}(hc:PT X c tc)(ha:PSs X a t)(hb:PSs X b u):PS X (.If c a b pos) (LO tc t u):=by
 intro pins s σ H D I h;refine wpAny_If (thn (hc pins s σ H _ I h) fun d s1 ⟨H1,I1,q1⟩=>?_);cases d with
 | true=>exact ha pins s1 σ H1 D I1 q1
 | false=>exact hb pins s1 σ H1 D I1 q1
end
abbrev TG:=V->St->Hp->(St->Hp->Prop)->Prop
abbrev TGs:=List V->St->Hp->(St->Hp->Prop)->Prop
def PG(X:Cx)(target:Expr)(t:TG):Prop :=
 ∀(pins:List (Addr × Obj)) (s:Shared) (σ:St) (H:Hp) (v:V) (u:Value) (Q:St->Hp->Prop),Inv X pins σ H s->RelV v u->t v σ H Q ->
  wpAny (model X.prog X.w) X.A (assign target X.env u) (fun _ s'=>∃σ' H',Inv X pins σ' H' s'/\Q σ' H') X.xe s
def PGs(X:Cx)(ts:List Expr)(t:TGs):Prop :=
 ∀(pins:List (Addr × Obj)) (s:Shared) (σ:St) (H:Hp) (vs:List V) (us:List Value) (Q:St->Hp->Prop),Inv X pins σ H s->Vals vs us->t vs σ H Q ->
  wpAny (model X.prog X.w) X.A (assignInOrder ((assignEach ts X.env).map (·.2)) us) (fun _ s'=>∃σ' H',Inv X pins σ' H' s'/\Q σ' H') X.xe s
abbrev D4:=V->V->V->Hp->(Hp->Prop)->Prop
def II(X:Cx)(t:D4):Prop :=
 ∀(pins:List (Addr × Obj)) (s:Shared) (σ:St) (H:Hp) (o i v:V) (ov iv u:Value) (Q:Hp->Prop),Inv X pins σ H s->RelV o ov->RelV i iv->RelV v u->t o i v H Q ->
  wpAny (model X.prog X.w) X.A (setItem ov iv u) (fun _ s'=>∃H',Inv X pins σ H' s'/\Q H') X.xe s
section
variable {X:Cx}{pos:Pos}
def AT(i:Nat):TG:=fun v σ H Q=>Q (σ.set i (some v)) H
theorem AS(hN:X.N.Nodup)(hi:X.N[i]? = some x)(hx:Loc X.env.scope x)(hf:X.fn x=true\/X.env.scope.names.lookup x=some .local:=by first | exact .inl rfl | exact .inr rfl | assumption):PG X (.Name x pos) (AT i):=by
 intro pins s σ H v u Q I r h;exact wpAny_assign_Name (Ez I hN hi hx r (fun s' I'=>⟨_,H,I',h⟩) hf)
def GS:TGs:=fun vs σ H Q=>vs=[]/\Q σ H
def Ii(t:TG)(u:TGs):TGs:=fun vs σ H Q=>∃v r,vs=v::r/\t v σ H fun σ' H'=>u r σ' H' Q
theorem Dx:PGs X [] GS:=by
 intro pins s σ H vs us Q I r h;obtain⟨e,h⟩:=h;subst e;cases r;exact assignInOrder_nil ⟨σ,H,I,h⟩
theorem Bz {e:Expr} {es:List Expr} {t:TG} {u:TGs} (h1:PG X e t) (h2:PGs X es u)
 (hs:(assignEach (e::es) X.env).map (·.2)=assign e X.env::(assignEach es X.env).map (·.2):=by rfl):PGs X (e::es) (Ii t u):=by
 intro pins s σ H vs us Q I r h;obtain⟨v,vr,e1,h⟩:=h;subst e1;cases r with
 | cons r rr =>
  rw[hs];refine assignInOrder_cons (thn (h1 pins s σ H _ _ _ I r h) fun _ s1 ⟨σ1,H1,I1,q1⟩=>?_);exact h2 pins s1 σ1 H1 _ _ Q I1 rr q1
def HQ(K:W.Frag)(n:Nat)(t:TGs):TG:=fun v σ H Q=>∃a xs,v=.ref a/\SqT K H a xs/\xs.length=n/\t xs σ H Q
theorem K2 {es:List Expr} {t:TGs} {n:Nat} (hc:X.calm=true) (h:PGs X es t)
 (hn:(assignEach es X.env).length=n:=by rfl) (hst:(assignEach es X.env).findIdx? (·.1)=none:=by rfl):PG X (.Tuple es k pos) (HQ X.K n t):=by
 intro pins s σ H v u Q I r hw;obtain⟨a,xs,e1,hq,hl,hw⟩:=hw;subst e1;cases r;obtain⟨its,rv,ht,hz⟩:=I.tuple hq;refine assign_Tuple_tuple (I.ok.hd hc) ht (by simp[hn,<- hl,rv.length]) hst fun h' hx=>?_
 have I1:Inv X pins σ H { s with heap:=h' }:=I.kept (t':=s.toks) fun b o e=>hx b o (ZK (ZG e)) e
 exact h pins _ σ H xs _ Q I1 (by simpa using rv) hw
def KQ(to ti:TE)(t:D4):TG:=fun v σ H Q=>to σ H fun o H1=>ti σ H1 fun i H2=>t o i v H2 fun H3=>Q σ H3
theorem Dz {o i:Expr} {to ti:TE} {t:D4} (ho:PE X o to) (hi:PE X i ti) (hs:II X t)
 (ha:∀v,assign (.Subscript o i pos) X.env v=(do
   let ov <- holding [v] (eval o X.env);let iv <- holding [v,ov] (eval i X.env)
   standAt pos
   holding [v,ov,iv] (setItem ov iv v)
   release [v,ov,iv] []):=by intro _;rfl):PG X (.Subscript o i pos) (KQ to ti t):=by
 intro pins s σ H v u Q I r h;rw[ha];refine ZA (Zh (thn (ho pins s σ H _ I h) fun ov s1 ⟨x,H1,I1,r1,q1⟩=>?_));refine ZA (Zh (thn (hi pins s1 σ H1 _ I1 q1) fun iv s2 ⟨y,H2,I2,r2,q2⟩=>?_));refine ZA (ZBN (ZA (Zh (thn (hs pins s2 σ H2 x y v ov iv u _ I2 r1 r2 r q2) fun _ s3 ⟨H3,I3,q3⟩=>?_))));exact wpAny_release ⟨σ,H3,I3,q3⟩
def D3(te:TE)(g:TG):TS:=fun D σ H=>te σ H fun x H1=>g x σ H1 D.nx
theorem Dd {tg e:Expr} {te:TE} {g:TG} (he:PE X e te) (hg:PG X tg g) (hs:swapsWithSole [tg] e pos.line X.env=pure false:=by rfl) (hw:swappedStores [tg] e X.env=pure none:=by rfl)
 (h1:(assignEach [tg] X.env).map (·.2)=[assign tg X.env]:=by rfl):PS X (.Assign [tg] e pos) (D3 te g):=by
 intro pins s σ H D I h;refine wpAny_Assign_stores (thn (he pins s σ H _ I h) fun v s1 ⟨x,H1,I1,r1,q1⟩=>?_) hs hw;rw[h1];exact thn (hg pins s1 σ H1 x v _ I1 r1 q1) fun _ s2 q=>q
theorem AQ{i:Nat}{x:Str}{e:Expr}{te:TE}{pos':Pos}(hN:X.N.Nodup)(hi:X.N[i]? = some x)(hx:Loc X.env.scope x)(he:PE X e te)(hs:swapsWith e (some (.Name x pos')) pos.line X.env=pure false:=by rfl)(hf:X.fn x=true\/X.env.scope.names.lookup x=some .local:=by first | exact .inl rfl | exact .inr rfl | assumption) :
 PS X (.Assign [.Name x pos'] e pos) (D3 te (AT i)):=by
 intro pins s σ H D I h;refine wpAny_Assign_Name (thn (he pins s σ H _ I h) fun v s1 ⟨y,H1,I1,r1,q1⟩=>?_) hs;exact Ez I1 hN hi hx r1 (fun s2 I2=>⟨_,H1,I2,q1⟩) hf
end
section
variable {X:Cx}{pos:Pos}
end
structure It where
 go:Nat->Hp->Prop
 yld:Nat->Hp->V->Hp->Prop
 stop:Nat->Hp->Prop
def A9(X:Cx)(pins:List (Addr × Obj))(H:Hp)(b:Addr):Prop :=
 H b=none/\b≠X.env.locals/\b∉X.fs/\(b∈X.ex\/X.s₀.heap.objs.size<=b)/\(∀x c,X.env.cells.lookup x=some c->c≠b)/\∀p∈X.pn++pins,p.1≠b
theorem Inv.fpOk{X:Cx}{H':Hp}(I:Inv X pins σ H s)(hb:s.heap.objs.size<=b)(hn:H' b=none):A9 X pins H' b:=by
 refine⟨hn,ZBd (ZT I.lt hb),I.nofs hb,.inr (Zf I.sz hb),fun x c e z=>?_,fun p hp z=>?_⟩
 ·obtain⟨v,q⟩:=I.cell x c e;exact absurd (ZT q.lt (by rw[z];exact hb)) (Zd _)
 ·exact absurd (ZT (ZG (I.pin p hp).1) (by rw[z];exact hb)) (Zd _)
structure Turn(P:Program)(w:World)(K:W.Frag)(tg:Expr)(J:It)(fp:List Addr)(it:Addr)(tn:Nat->Heap->Prop):Prop where
 mem:it∈fp
 obj:∀i h,tn i h->∀b∈fp,∃o,h.get? b=some o/\∀v,o.data≠.cell v
 keep:∀i h h',tn i h->(∀b∈fp,∀o,h.get? b=some o->h'.get? b=some o)->tn i h'
 item:∀(X:Cx),X.prog=P->X.w=w->X.K=K->X.calm=true->∀(i:Nat) (pins:List (Addr × Obj)) (s:Shared) (σ:St) (H:Hp) (E:Value->Shared->Prop),Inv X pins σ H s->(∀b∈fp,A9 X pins H b)->tn i s.heap->J.go i H ->
  wpAny (model P w) X.A (pyNext (.ref it)) (fun r s1=>∃u,r=some u /\
   wpAny (model P w) X.A (letOwnedTupleGo tg (.ref it) u) (fun _ s2=>∃x H',Inv X pins σ H' s2/\RelV x u/\J.yld i H x H'/\tn (i+1) s2.heap/\∀b∈fp,H' b=none) E s1) E s
 done:∀(X:Cx),X.prog=P->X.w=w->X.K=K->X.calm=true->∀(i:Nat) (pins:List (Addr × Obj)) (s:Shared) (σ:St) (H:Hp) (E:Value->Shared->Prop),Inv X pins σ H s->(∀b∈fp,A9 X pins H b)->tn i s.heap->J.stop i H ->
  wpAny (model P w) X.A (pyNext (.ref it)) (fun r s1=>r=none/\Inv X pins σ H s1) E s
 self:∀(A:Around) (i:Nat) (s:Shared) (Q:Value->Shared->Prop) (E:Value->Shared->Prop),tn i s.heap->Q (.ref it) s->wpAny (model P w) A (pyIter (.ref it)) Q E s
abbrev TI:=St->Hp->(It->Hp->Prop)->Prop
def PIE(X:Cx)(pins:List (Addr × Obj))(σ:St)(tg:Expr)(R:It->Hp->Prop)(itv:Value)(s2:Shared):Prop :=
 ∃(it:Addr) (fp:List Addr) (tn:Nat->Heap->Prop) (J:It) (H':Hp),itv=.ref it/\Inv X pins σ H' s2/\Turn X.prog X.w X.K tg J fp it tn/\tn 0 s2.heap/\(∀b∈fp,A9 X pins H' b)/\R J H'
def PI(X:Cx)(tg iter:Expr)(wi:TI):Prop :=
 ∀(pins:List (Addr × Obj)) (s:Shared) (σ:St) (H:Hp) (R:It->Hp->Prop),Inv X pins σ H s->wi σ H R ->
  wpAny (model X.prog X.w) X.A (eval iter X.env) (fun v s1=>wpAny (model X.prog X.w) X.A (pyIter v) (PIE X pins σ tg R) X.xe s1) X.xe s
theorem IL {M:Model} {tg:Expr} {it:Addr} {o:Obj} {n:String} {vs:Array Value} {Q:Unit->Shared->Prop} (ho:s.heap.get? it=some o) (hc:o.cls=.type n) (hd:o.data=.fields vs)
 (hn:["enumerate","zip","dict_itemiterator","dict_reverseitemiterator","odict_iterator","itertools.zip_longest","itertools.pairwise"].contains n=false) (hQ:Q () s):wpAny M A (letOwnedTupleGo tg (.ref it) u) Q E s:=by
 unfold letOwnedTupleGo
 cases tg <;> first
  | exact ZB hQ
  | (cases u <;> first
      | exact ZB hQ
      | (refine ZA (wpAny_load ho ?_)
         rw[hc,hd];show wpAny M A (if (["enumerate","zip","dict_itemiterator","dict_reverseitemiterator","odict_iterator","itertools.zip_longest","itertools.pairwise"].contains n && vs[0]? == some (rawInt _))=true then _ else _) Q E s;rw[if_neg (by intro h;rw[hn,Bool.false_and]at h;cases h)];exact ZB hQ))
def Itl(K:W.Frag)(a:Addr):It :=
 ⟨fun i H=>∃xs x,SqL K H a xs/\xs[i]? = some x,fun i H x H'=>H'=H/\∀xs,SqL K H a xs->xs[i]? = some x,fun i H=>∃xs,SqL K H a xs/\xs.length<=i⟩
def Itt(K:W.Frag)(a:Addr):It :=
 ⟨fun i H=>∃xs x,SqT K H a xs/\xs[i]? = some x,fun i H x H'=>H'=H/\∀xs,SqT K H a xs->xs[i]? = some x,fun i H=>∃xs,SqT K H a xs/\xs.length<=i⟩
def Itr(lo:Int)(n:Nat):It:=⟨fun i _=>i < n,fun i H x H'=>H'=H/\x=.int (lo+i),fun i _=>n<=i⟩
theorem SS{tg:Expr}(a it:Addr):Turn P w K tg (Itl K a) [it] it (fun i h=>h.IsListIter it a i) where
 mem:=by simp
 obj:=fun i h st b hb=>by
  have e:b=it:=by simpa using hb
  subst e;obtain⟨o,e,c,d⟩:=st;exact⟨o,e,fun v z=>by rw[d]at z;cases z⟩
 keep:=fun i h h' st k=>st.at fun o e=>k it (by simp) o e
 item:=by
  intro X hP hw hK hc i pins s σ H E I hf st hg;subst hP hw hK;obtain⟨xs,x,hq,hx⟩:=hg;obtain⟨its,rv,p,hz⟩:=I.list hq;obtain⟨u,hu,ru⟩:=rv.get hx;obtain⟨f0,f1,f2,f3,f4,f5⟩:=hf it (by simp);refine wpAny_pyNext_list_item st p.isList (x:=u) (by simpa using hu) fun h' st' sb=>?_
  have I1:Inv X pins σ H { s with heap:=h' }:=I.turned (t':=s.toks) (fun b o hb e=>(sb.2 b hb).trans e) f0 f1 f3 f4 f5;obtain⟨o,e,c,d⟩:=id st';exact⟨u,rfl,IL (s:={ s with heap:=h' }) e c d (by decide) ⟨x,H,I1,ru,⟨rfl,fun ys hy=>by rw[I.list_inj hy hq];exact hx⟩,st',fun b hb=>(hf b hb).1⟩⟩
 done:=by
  intro X hP hw hK hc i pins s σ H E I hf st hg;subst hP hw hK;obtain⟨xs,hq,hx⟩:=hg;obtain⟨its,rv,p,hz⟩:=I.list hq;obtain⟨f0,f1,f2,f3,f4,f5⟩:=hf it (by simp);have hl:=rv.length;exact wpAny_pyNext_list_end (I.ok.hd hc) st p.isList (by simp;lia) fun h' eb=>⟨rfl,I.turned (t':=s.toks) (fun b o hb e=>eb b o hb e) f0 f1 f3 f4 f5⟩
 self:=fun _ _ _ _ _ st h=>wpAny_pyIter_listiter st h
theorem Rc{tg:Expr}(a it:Addr):Turn P w K tg (Itt K a) [it] it (fun i h=>h.IsTupleIter it a i) where
 mem:=by simp
 obj:=fun i h st b hb=>by
  have e:b=it:=by simpa using hb
  subst e;obtain⟨o,e,c,d⟩:=st;exact⟨o,e,fun v z=>by rw[d]at z;cases z⟩
 keep:=fun i h h' st k=>st.at fun o e=>k it (by simp) o e
 item:=by
  intro X hP hw hK hc i pins s σ H E I hf st hg;subst hP hw hK;obtain⟨xs,x,hq,hx⟩:=hg;obtain⟨its,rv,p,hz⟩:=I.tuple hq;obtain⟨u,hu,ru⟩:=rv.get hx;obtain⟨f0,f1,f2,f3,f4,f5⟩:=hf it (by simp);refine wpAny_pyNext_tuple_item st (show s.heap.IsTuple a its.toArray from p) (x:=u) (by simpa using hu) fun h' st' sb=>?_
  have I1:Inv X pins σ H { s with heap:=h' }:=I.turned (t':=s.toks) (fun b o hb e=>(sb.2 b hb).trans e) f0 f1 f3 f4 f5;obtain⟨o,e,c,d⟩:=id st';exact⟨u,rfl,IL (s:={ s with heap:=h' }) e c d (by decide) ⟨x,H,I1,ru,⟨rfl,fun ys hy=>by rw[I.tuple_inj hy hq];exact hx⟩,st',fun b hb=>(hf b hb).1⟩⟩
 done:=by
  intro X hP hw hK hc i pins s σ H E I hf st hg;subst hP hw hK;obtain⟨xs,hq,hx⟩:=hg;obtain⟨its,rv,p,hz⟩:=I.tuple hq;obtain⟨f0,f1,f2,f3,f4,f5⟩:=hf it (by simp);have hl:=rv.length;exact wpAny_pyNext_tuple_end (I.ok.hd hc) st (show s.heap.IsTuple a its.toArray from p) (by simp;lia) fun h' eb=>⟨rfl,I.turned (t':=s.toks) (fun b o hb e=>eb b o hb e) f0 f1 f3 f4 f5⟩
 self:=fun _ _ _ _ _ st h=>wpAny_pyIter_tupleiter st h
theorem Rv{tg:Expr}(it:Addr)(lo:Int)(n:Nat):Turn P w K tg (Itr lo n) [it] it (fun i h=>IsRangeIter h it (lo+(i:Nat) * 1) ((n:Int) - (i:Nat)) 1) where
 mem:=by simp
 obj:=fun i h st b hb=>by
  have e:b=it:=by simpa using hb
  subst e
  exact⟨_,st,fun v z=>by
   have z':Data.fields _=Data.cell v:=z;cases z'⟩
 keep:=fun i h h' st k=>k it (by simp) _ st
 item:=by
  intro X hP hw hK hc i pins s σ H E I hf st hg;subst hP hw hK;obtain⟨f0,f1,f2,f3,f4,f5⟩:=hf it (by simp);have W:=Walks.range (prog:=X.prog) (w:=X.w) (I.ok.hd hc) it lo 1 n;refine W.item i s _ _ hg st fun v h' tk hv st' kk=>?_
  obtain⟨t,rfl⟩:=hv;have I1:Inv X pins σ H { s with heap:=h',toks:=tk }:=I.turned (fun b o hb e=>kk b o (by simpa using hb) e) f0 f1 f3 f4 f5;refine⟨_,rfl,IL (s:={ s with heap:=h',toks:=tk }) (n:="range_iterator") st' rfl rfl (by decide) ⟨.int (lo+i),H,I1,⟨t,?_⟩,⟨rfl,rfl⟩,st',fun b hb=>(hf b hb).1⟩⟩;rw[Int.mul_one]
 done:=by
  intro X hP hw hK hc i pins s σ H E I hf st hg;subst hP hw hK;obtain⟨f0,f1,f2,f3,f4,f5⟩:=hf it (by simp);exact wpAny_pyNext_range_end (I.ok.hd hc) st (by have:n<=i:=hg;lia) fun h' eb=>⟨rfl,I.turned (t':=s.toks) (fun b o hb e=>eb b o hb e) f0 f1 f3 f4 f5⟩
 self:=fun _ _ _ _ _ st h=>wpAny_pyIter_rangeiter st h
section
variable {X:Cx}{tg:Expr}
theorem Ky {R:It->Hp->Prop} {lo hi:Int} {t u v:Tok} {tk:Nat} (I:Inv X pins σ H s) (h1 : -(2 ^ 62)<=lo) (h2:lo < 2 ^ 62) (h3 : -(2 ^ 62)<=hi) (h4:hi < 2 ^ 62)
 (q:R (Itr lo (hi - lo).toNat) H):wpAny (model X.prog X.w) X.A (pyIter (.ref s.heap.objs.size)) (PIE X pins σ tg R) E { s with heap:=s.heap.push { cls:=.type "range",data:=.fields #[.int lo t,.int hi u,.int 1 v] },toks:=tk }:=by
 refine wpAny_pyIter_range (IsRange.new ..) (small_one h1 h2 h3 h4) ?_;have I1:Inv X pins σ H { s with heap:=s.heap.push { cls:=.type "range",data:=.fields #[.int lo t,.int hi u,.int 1 v] },toks:=tk }:=I.kept fun b o e=>ZH _ e
 refine⟨(s.heap.push { cls:=.type "range",data:=.fields #[.int lo t,.int hi u,.int 1 v] }).objs.size,[(s.heap.push { cls:=.type "range",data:=.fields #[.int lo t,.int hi u,.int 1 v] }).objs.size],_,_,H,rfl,
  I1.kept (t':=tk) fun b o e=>ZH _ e,Rv _ lo (hi - lo).toNat,?_,fun b hb=>?_,q⟩
 ·have e1:lo+((0:Nat):Int) * 1=lo:=by simp
  have e2:(((hi - lo).toNat:Nat):Int) - ((0:Nat):Int)=Builtin.Range.rangeSize lo hi 1:=by rw[rangeSize_one];split <;> lia
  show IsRangeIter _ _ (lo+((0:Nat):Int) * 1) ((((hi - lo).toNat:Nat):Int) - ((0:Nat):Int)) 1;rw[e1,e2];exact ZN _ rfl
 ·have e:b=(s.heap.push { cls:=.type "range",data:=.fields #[.int lo t,.int hi u,.int 1 v] }).objs.size:=by simpa using hb
  subst e;exact I1.fpOk (ZD _) (I1.hok.fresh (ZD _))
def NH(ta:TA):TI:=fun σ H R=>ta σ H fun vs H1=>∃j:Int,vs=[.int j] /\ -(2 ^ 62)<=j/\j < 2 ^ 62/\R (Itr 0 j.toNat) H1
def Nq(ta:TA):TI:=fun σ H R=>ta σ H fun vs H1=>∃i j:Int,vs=[.int i,.int j]/\(-(2 ^ 62)<=i/\i < 2 ^ 62 /\ -(2 ^ 62)<=j/\j < 2 ^ 62)/\R (Itr i (j - i).toNat) H1
theorem Aw{a:Expr}{ta:TA}{p:Pos}(hg:Gl X "range")(hm:X.mg "range" = none)(ha:PA X [a] ta)(hs:starEach [a] X.env=[(false,eval a X.env)]:=by rfl):PI X tg (.Call (.Name "range" p) [a] [] pos) (NH ta):=by
 intro pins s σ H R I h;refine Call_ (Ct I hg hm boot_range (PyProof.Rows.callWith_type1 (thn (ha pos pins s σ H _ I h) fun us s1 ⟨vs,H1,I1,r1,q1⟩=>?_) hs rfl));obtain⟨j,e,q1,q2,q⟩:=q1;subst e;cases r1 with
 | cons r rr =>
  cases rr;obtain⟨t,rfl⟩:=r;exact call_range_1 (Ky I1 (by lia) (by lia) q1 q2 (by simpa using q))
theorem Ie{a b:Expr}{ta:TA}{p:Pos}(hg:Gl X "range")(hm:X.mg "range" = none)(ha:PA X [a,b] ta)(hs:starEach [a,b] X.env=[(false,eval a X.env),(false,eval b X.env)]:=by rfl)(hs2:starEach [b] X.env=[(false,eval b X.env)]:=by rfl) :
 PI X tg (.Call (.Name "range" p) [a,b] [] pos) (Nq ta):=by
 intro pins s σ H R I h;refine Call_ (Ct I hg hm boot_range (PyProof.Rows.callWith_type1 (thn (ha pos pins s σ H _ I h) fun us s1 ⟨vs,H1,I1,r1,q1⟩=>?_) (by rw[hs,hs2]) (by rw[hs2];rfl)));obtain⟨i,j,e,⟨q1,q2,q3,q4⟩,q⟩:=q1;subst e;cases r1 with
 | cons r rr =>
  cases rr with
  | cons r' rr =>
   cases rr;obtain⟨t,rfl⟩:=r;obtain⟨t',rfl⟩:=r';exact call_range_2 (Ky I1 q1 q2 q3 q4 q)
def Lc(wi:TI)(g:TG)(tb:TS):TS:=fun D σ H=>wi σ H fun J H1=>∃W:Nat->Nat->St->Hp->Prop,(∃m,W 0 m σ H1)/\∀i m σ H,W i m σ H ->
 (J.stop i H/\D.nx σ H)\/(J.go i H/\∃N:St->Hp->Prop,(∀σ' H',N σ' H'->∃m',m' < m/\W (i+1) m' σ' H')/\∀x H',J.yld i H x H'->g x σ H' fun σ2 H2=>tb { D with nx:=N,ct:=N,bk:=D.nx } σ2 H2)
def B5(fp:List Addr)(h:Heap):List (Addr × Obj):=fp.filterMap fun b=>(h.get? b).map fun o=>(b,o)
theorem CT{fp:List Addr}{o:Obj}(hb:b∈fp)(e:h.get? b=some o):(b,o)∈B5 fp h:=List.mem_filterMap.mpr ⟨b,hb,by rw[e];rfl⟩
theorem Gx{fp:List Addr}{p:Addr × Obj}(hp:p∈B5 fp h):p.1∈fp/\h.get? p.1=some p.2:=by
 obtain⟨b,hb,e⟩:=List.mem_filterMap.mp hp;cases q:h.get? b with
 | none=>rw[q]at e;cases e
 | some o =>
  rw[q]at e;have e':(b,o)=p:=ZV e;subst e';exact⟨hb,q⟩
theorem Inv.pinned{fp:List Addr}(I:Inv X pins σ H s)(hf:∀b∈fp,A9 X pins H b)(ho:∀b∈fp,∃o,s.heap.get? b=some o/\∀v,o.data≠.cell v):Inv X (pins++B5 fp s.heap) σ H s :=
 I.pins_of fun p hp=>(ZW.mp hp).elim (fun z=>I.pin p (ZU _ z)) fun z=>by
  obtain⟨hb,e⟩:=Gx z;obtain⟨f0,f1,f2,_⟩:=hf p.1 hb;obtain⟨o,e',d⟩:=ho p.1 hb;rw[e]at e';cases e';exact⟨e,f0,f1,f2,d⟩
theorem Inv.unpinned{pl:List (Addr × Obj)}(I:Inv X (pins++pl) σ H s):Inv X pins σ H s:=I.pins_of fun p hp=>I.pin p (ZU _ (Zz _ hp))
theorem BK {iter:Expr} {body:List Stmt} {wi:TI} {g:TG} {tb:TS} {pos:Pos} (hp:PassesOwn (model X.prog X.w) X.A X.env X.xe) (hc:X.calm=true) (hi:PI X tg iter wi) (hg:PG X tg g) (hb:PSs X body tb)
 (hs:∀x,foldedSetIterable iter X.env x=pure x:=by intro _;rfl):PS X (.For tg iter body [] pos) (Lc wi g tb):=by
 intro pins s σ H D I h;refine wpAny_For (thn (hi pins s σ H _ I h) fun v s1 h1=>thn h1 fun itv s2 h2=>?_) hs;obtain⟨it,fp,tn,J,H2,e,I2,T,st2,f2,W,⟨m0,w0⟩,turn⟩:=h2;subst e
 -- what stays true of the iterator's objects through the loop
 have stat:∀{H':Hp},(∀b∈fp,H' b=none)->∀b∈fp,A9 X pins H' b:=fun hn b hb=>⟨hn b hb,(f2 b hb).2⟩
 refine codeAny_forLoop_any (fun n s'=>∃i σ' H',Inv X pins σ' H' s'/\tn i s'.heap/\(∀b∈fp,H' b=none)/\W i n σ' H') ?_ m0 ⟨0,σ,H2,I2,st2,fun b hb=>(f2 b hb).1,w0⟩;rintro n s3 ⟨i,σ3,H3,I3,st3,fr3,w3⟩
 rcases turn i n σ3 H3 w3 with ⟨stop,qn⟩ | ⟨go,N,hN,step⟩
 ·refine wpAny_passesOwn hp (thn (T.done X rfl rfl rfl hc i pins s3 σ3 H3 X.xe I3 (stat fr3) st3 stop) fun r s4 ⟨hr,I4⟩=>?_);subst hr;exact wpAny_execs_nil ⟨σ3,H3,I4,qn⟩
 ·refine wpAny_passesOwn hp (thn (T.item X rfl rfl rfl hc i pins s3 σ3 H3 X.xe I3 (stat fr3) st3 go) fun r s4 ⟨u,hr,h4⟩=>?_);subst hr;refine wpAny_passesOwn hp (thn h4 fun _ s5 ⟨x,H5,I5,r5,y5,st5,fr5⟩=>?_);have I5':=I5.pinned (stat fr5) (T.obj _ _ st5);refine wpAny_passesOwn hp (thn (hg _ s5 σ3 H5 x u _ I5' r5 (step x H5 y5)) fun _ s6 ⟨σ6,H6,I6,q6⟩=>?_);refine wpAny_passesOwn hp (thn (hb _ s6 σ6 H6 _ I6 q6) fun f s7 q7=>?_)
  have again:∀{σ7:St} {H7:Hp},Inv X (pins++B5 fp s5.heap) σ7 H7 s7->N σ7 H7->∃m,m < n/\∃i σ' H',Inv X pins σ' H' s7/\tn i s7.heap/\(∀b∈fp,H' b=none)/\W i m σ' H':=fun {σ7 H7} I7 n7=>by
   obtain⟨m',hm,w7⟩:=hN σ7 H7 n7;refine⟨m',hm,i+1,σ7,H7,I7.unpinned,T.keep _ _ _ st5 fun b hb o e=>(I7.pin (b,o) (ZU _ (ZU _ (CT hb e)))).1,fun b hb=>?_,w7⟩;obtain⟨o,e,d⟩:=T.obj _ _ st5 b hb;exact(I7.pin (b,o) (ZU _ (ZU _ (CT hb e)))).2.1
  cases f with
  | next=>obtain⟨σ7,H7,I7,n7⟩:=q7;exact again I7 n7
  | cont=>obtain⟨σ7,H7,I7,n7⟩:=q7;exact again I7 n7
  | brk=>obtain⟨σ7,H7,I7,q7⟩:=q7;exact⟨σ7,H7,I7.unpinned,q7⟩
  | ret v=>obtain⟨x7,σ7,H7,I7,r7,q7⟩:=q7;exact⟨x7,σ7,H7,I7.unpinned,r7,q7⟩
end
theorem MS {xs:List V} {g:TG} {tb:TS} {D:Ends} (Pv:Nat->St->Hp->Prop) (h0:Pv 0 σ H) (hl:∀i σ H,i<=xs.length->Pv i σ H->SqL K H a xs)
 (hs:∀i x σ H,xs[i]? = some x->Pv i σ H->g x σ H fun σ2 H2=>tb { D with nx:=Pv (i+1),ct:=Pv (i+1),bk:=D.nx } σ2 H2) (hd:∀σ H,Pv xs.length σ H->D.nx σ H) :
 ∃W:Nat->Nat->St->Hp->Prop,(∃m,W 0 m σ H)/\∀i m σ H,W i m σ H ->
  ((Itl K a).stop i H/\D.nx σ H)\/((Itl K a).go i H/\∃N:St->Hp->Prop,(∀σ' H',N σ' H'->∃m',m' < m/\W (i+1) m' σ' H')/\∀x H',(Itl K a).yld i H x H'->g x σ H' fun σ2 H2=>tb { D with nx:=N,ct:=N,bk:=D.nx } σ2 H2):=by
 refine⟨fun i m σ H=>m=xs.length - i/\i<=xs.length/\Pv i σ H,⟨xs.length,by simp,ZX _,h0⟩,?_⟩;rintro i m σ H ⟨rfl,hi,p⟩;have q:=hl i σ H hi p
 by_cases hlt:i < xs.length
 ·refine .inr ⟨⟨xs,xs[i],q,by simp[hlt]⟩,Pv (i+1),fun σ' H' p'=>⟨xs.length - (i+1),by lia,rfl,hlt,p'⟩,fun x H' y=>?_⟩;obtain⟨e,y⟩:=y;subst e;exact hs i x σ _ (y xs q) p
 ·have e:i=xs.length:=by lia
  subst e;exact .inl ⟨⟨xs,q,ZD _⟩,hd σ H p⟩
theorem Ir {xs:List V} {g:TG} {tb:TS} {D:Ends} (Pv:Nat->St->Hp->Prop) (h0:Pv 0 σ H) (hl:∀i σ H,i<=xs.length->Pv i σ H->SqT K H a xs)
 (hs:∀i x σ H,xs[i]? = some x->Pv i σ H->g x σ H fun σ2 H2=>tb { D with nx:=Pv (i+1),ct:=Pv (i+1),bk:=D.nx } σ2 H2) (hd:∀σ H,Pv xs.length σ H->D.nx σ H) :
 ∃W:Nat->Nat->St->Hp->Prop,(∃m,W 0 m σ H)/\∀i m σ H,W i m σ H ->
  ((Itt K a).stop i H/\D.nx σ H)\/((Itt K a).go i H/\∃N:St->Hp->Prop,(∀σ' H',N σ' H'->∃m',m' < m/\W (i+1) m' σ' H')/\∀x H',(Itt K a).yld i H x H'->g x σ H' fun σ2 H2=>tb { D with nx:=N,ct:=N,bk:=D.nx } σ2 H2):=by
 refine⟨fun i m σ H=>m=xs.length - i/\i<=xs.length/\Pv i σ H,⟨xs.length,by simp,ZX _,h0⟩,?_⟩;rintro i m σ H ⟨rfl,hi,p⟩;have q:=hl i σ H hi p
 by_cases hlt:i < xs.length
 ·refine .inr ⟨⟨xs,xs[i],q,by simp[hlt]⟩,Pv (i+1),fun σ' H' p'=>⟨xs.length - (i+1),by lia,rfl,hlt,p'⟩,fun x H' y=>?_⟩;obtain⟨e,y⟩:=y;subst e;exact hs i x σ _ (y xs q) p
 ·have e:i=xs.length:=by lia
  subst e;exact .inl ⟨⟨xs,q,ZD _⟩,hd σ H p⟩
theorem Bk {lo:Int} {n:Nat} {g:TG} {tb:TS} {D:Ends} (Pv:Nat->St->Hp->Prop) (h0:Pv 0 σ H)
 (hs:∀i σ H,i < n->Pv i σ H->g (.int (lo+i)) σ H fun σ2 H2=>tb { D with nx:=Pv (i+1),ct:=Pv (i+1),bk:=D.nx } σ2 H2) (hd:∀σ H,Pv n σ H->D.nx σ H) :
 ∃W:Nat->Nat->St->Hp->Prop,(∃m,W 0 m σ H)/\∀i m σ H,W i m σ H ->
  ((Itr lo n).stop i H/\D.nx σ H)\/((Itr lo n).go i H/\∃N:St->Hp->Prop,(∀σ' H',N σ' H'->∃m',m' < m/\W (i+1) m' σ' H')/\∀x H',(Itr lo n).yld i H x H'->g x σ H' fun σ2 H2=>tb { D with nx:=N,ct:=N,bk:=D.nx } σ2 H2):=by
 refine⟨fun i m σ H=>m=n - i/\i<=n/\Pv i σ H,⟨n,by simp,ZX _,h0⟩,?_⟩;rintro i m σ H ⟨rfl,hi,p⟩
 by_cases hlt:i < n
 ·refine .inr ⟨hlt,Pv (i+1),fun σ' H' p'=>⟨n - (i+1),by lia,rfl,hlt,p'⟩,fun x H' y=>?_⟩;obtain⟨e,y⟩:=y;subst e y;exact hs i σ _ hlt p
 ·have e:i=n:=by lia
  subst e;exact .inl ⟨ZD _,hd σ H p⟩
abbrev R2:=V->V->Hp->VK->Prop
def OpR(X:Cx)(f:Value->Value->Sem Value)(r:R2):Prop :=
 ∀(pins:List (Addr × Obj)) (s:Shared) (σ:St) (H:Hp) (x y:V) (v u:Value) (Q:VK),Inv X pins σ H s->RelV x v->RelV y u->r x y H Q ->
  wpAny (model X.prog X.w) X.A (f v u) (EP X pins σ Q) X.xe s
def UnR(X:Cx)(f:Value->Sem Value)(r:V->Hp->VK->Prop):Prop :=
 ∀(pins:List (Addr × Obj)) (s:Shared) (σ:St) (H:Hp) (x:V) (v:Value) (Q:VK),Inv X pins σ H s->RelV x v->r x H Q ->
  wpAny (model X.prog X.w) X.A (f v) (EP X pins σ Q) X.xe s
def CallR(X:Cx)(f:Value)(r:List V->Hp->VK->Prop):Prop :=
 ∀(pins:List (Addr × Obj)) (s:Shared) (σ:St) (H:Hp) (xs:List V) (us:List Value) (Q:VK),Inv X pins σ H s->Vals xs us->r xs H Q ->
  wpAny (model X.prog X.w) X.A (call f us) (EP X pins σ Q) X.xe s
def tOp(r:R2)(ta tb:TE):TE:=fun σ H Q=>ta σ H fun x H1=>tb σ H1 fun y H2=>r x y H2 Q
def tUn(r:V->Hp->VK->Prop)(ta:TE):TE:=fun σ H Q=>ta σ H fun x H1=>r x H1 Q
def rI(C:Int->Int->Prop)(g:Int->Int->V):R2:=fun x y H Q=>∃i j,x=.int i/\y=.int j/\C i j/\Q (g i j) H
def rI0(g:Int->Int->V):R2:=fun x y H Q=>∃i j,x=.int i/\y=.int j/\Q (g i j) H
def rU(g:Int->V):V->Hp->VK->Prop:=fun x H Q=>∃i,x=.int i/\Q (g i) H
section
variable {X:Cx}{a b c:Expr}{ta tb tc:TE}{pos:Pos}
theorem HF (ha:PE X a ta) (hb:PE X b tb) {R:V->V->Hp->Prop} (I:Inv X pins σ H s)
 (h:ta σ H fun x H1=>tb σ H1 fun y H2=>R x y H2) {f:Value->Value->Sem Value}
 (hf:∀v u s2 x y H2,Inv X pins σ H2 s2->RelV x v->RelV y u->R x y H2->wpAny (model X.prog X.w) X.A (f v u) Q X.xe s2) :
 wpAny (model X.prog X.w) X.A (eval a X.env) (fun v s₁=>wpAny (model X.prog X.w) X.A (eval b X.env) (fun u s₂=>wpAny (model X.prog X.w) X.A (f v u) Q X.xe s₂) X.xe s₁) X.xe s:=by
 refine thn (ha pins s σ H _ I h) fun v s1 ⟨x,H1,I1,r1,q1⟩=>?_
 refine thn (hb pins s1 σ H1 _ I1 q1) fun u s2 ⟨y,H2,I2,r2,q2⟩=>?_
 exact hf v u s2 x y H2 I2 r1 r2 q2
theorem AR{op:Operator}{r:R2}(ho:OpR X (binaryOp op) r)(ha:PE X a ta)(hb:PE X b tb):PE X (.BinOp a op b pos) (tOp r ta tb):=by
 intro pins s σ H Q I h;exact wpAny_BinOp (HF ha hb I h fun v u s2 x y H2 I2 rx ry q=>ho pins s2 σ H2 x y v u Q I2 rx ry q)
theorem VQ{op:UnaryOp}{r:V->Hp->VK->Prop}(ho:UnR X (unaryOp op) r)(ha:PE X a ta):PE X (.UnaryOp op a pos) (tUn r ta):=by
 intro pins s σ H Q I h;exact UnaryOp_ (thn (ha pins s σ H _ I h) fun v s1 ⟨x,H1,I1,r1,q1⟩=>ho pins s1 σ H1 x v Q I1 r1 q1)
theorem opI {f:Value->Value->Sem Value} {C:Int->Int->Prop} {g:Int->Int->Int}
 (rule:∀(i j:Int) (t u:Tok) (s:Shared) (Q:Value->Shared->Prop) (E:Value->Shared->Prop),C i j->Q (.int (g i j) s.toks) { s with toks:=s.toks+1 } -> wpAny (model X.prog X.w) X.A (f (.int i t) (.int j u)) Q E s) :
 OpR X f (rI C fun i j=>.int (g i j)):=by
 intro pins s σ H x y v u Q I rx ry h;obtain⟨i,j,rfl,rfl,hc,q⟩:=h;obtain⟨t,rfl⟩:=rx;obtain⟨t',rfl⟩:=ry;exact rule i j t t' s _ _ hc ⟨.int (g i j),H,I.tok _,⟨_,rfl⟩,q⟩
theorem JF {f:Value->Value->Sem Value} {g:Int->Int->Int}
 (rule:∀(i j:Int) (t u:Tok) (s:Shared) (Q:Value->Shared->Prop) (E:Value->Shared->Prop),Q (.int (g i j) s.toks) { s with toks:=s.toks+1 } -> wpAny (model X.prog X.w) X.A (f (.int i t) (.int j u)) Q E s) :
 OpR X f (rI0 fun i j=>.int (g i j)):=by
 intro pins s σ H x y v u Q I rx ry h;obtain⟨i,j,rfl,rfl,q⟩:=h;obtain⟨t,rfl⟩:=rx;obtain⟨t',rfl⟩:=ry;exact rule i j t t' s _ _ ⟨.int (g i j),H,I.tok _,⟨_,rfl⟩,q⟩
theorem Fv {f:Value->Value->Sem Value} {g:Int->Int->Bool}
 (rule:∀(i j:Int) (t u:Tok) (s:Shared) (Q:Value->Shared->Prop) (E:Value->Shared->Prop),Q (.bool (g i j)) s->wpAny (model X.prog X.w) X.A (f (.int i t) (.int j u)) Q E s) :
 OpR X f (rI0 fun i j=>.bl (g i j)):=by
 intro pins s σ H x y v u Q I rx ry h;obtain⟨i,j,rfl,rfl,q⟩:=h;obtain⟨t,rfl⟩:=rx;obtain⟨t',rfl⟩:=ry;exact rule i j t t' s _ _ ⟨.bl (g i j),H,I,rfl,q⟩
def Ff(i j:Int):Prop:=0<=j/\j<=1000000/\i.natAbs < 2 ^ 64
def CMul(i j:Int):Prop:=(-(2 ^ 64) < i/\i < 2 ^ 64)\/(-(2 ^ 64) < j/\j < 2 ^ 64)
theorem CMul.ok{i j:Int}(h:CMul i j):IntMulOk i j:=by
 rcases h with ⟨h1,h2⟩ | ⟨h1,h2⟩
 ·exact .of_left (intBits_le_64 h1 h2)
 ·exact .of_right (intBits_le_64 h1 h2)
theorem Qv(k:Nat):(0:Int)<=2 ^ k:=by
 rw[two_pow_cast];exact ZB5 _
theorem KU:OpR X (binaryOp .Add) (rI0 fun i j=>.int (i+j)):=JF fun _ _ _ _ _ _ _ q=>add_int q
theorem RC:OpR X (binaryOp .Sub) (rI0 fun i j=>.int (i - j)):=JF fun _ _ _ _ _ _ _ q=>sub_int q
theorem OK:OpR X (binaryOp .Mod) (rI (fun _ j=>0 < j) fun i j=>.int (i % j)):=opI fun i j _ _ _ _ _ hc q=>by
 have h1:(0:Int) < j:=hc;exact mod_int' (by lia) (by rw[Int.fmod_eq_emod_of_nonneg i (by lia)];exact q)
theorem WC:OpR X (binaryOp .Pow) (rI Ff fun i j=>.int (i ^ j.toNat)):=opI fun _ _ _ _ _ _ _ hc q=>pow_int_small hc.1 hc.2.1 hc.2.2 q
theorem UB:OpR X (binaryOp .LShift) (rI Ff fun i j=>.int (i * 2 ^ j.toNat)):=opI fun _ _ _ _ _ _ _ hc q=>lshift_int_small hc.1 hc.2.1 hc.2.2 q
theorem Sw:OpR X (binaryOp .RShift) (rI (fun _ j=>0<=j) fun i j=>.int (i / 2 ^ j.toNat)):=opI fun i j _ _ _ _ _ hc q =>
 rshift_int hc (by rw[Int.fdiv_eq_ediv_of_nonneg i (Qv _)];exact q)
theorem SI:OpR X (binaryOp .BitAnd) (rI0 fun i j=>.int (Builtin.bitAnd i j)):=JF fun _ _ _ _ _ _ _ q=>and_int q
theorem unI {f:Value->Sem Value} {g:Int->Int}
 (rule:∀(i:Int) (t:Tok) (s:Shared) (Q:Value->Shared->Prop) (E:Value->Shared->Prop),Q (.int (g i) s.toks) { s with toks:=s.toks+1 } -> wpAny (model X.prog X.w) X.A (f (.int i t)) Q E s) :
 UnR X f (rU fun i=>.int (g i)):=by
 intro pins s σ H x v Q I rx h;obtain⟨i,rfl,q⟩:=h;obtain⟨t,rfl⟩:=rx;exact rule i t s _ _ ⟨.int (g i),H,I.tok _,⟨_,rfl⟩,q⟩
theorem OW:UnR X (unaryOp .USub) (rU fun i=>.int (-i)):=unI fun _ _ _ _ _ q=>neg_int q
end
section
variable {X:Cx}{a b c:Expr}{ta tb tc:TE}{pos:Pos}
theorem VI{Q:VK}{k k':Bool}(I:Inv X pins σ H s)(q:Q (.bl k) H)(e:k=k'):EP X pins σ Q (.bool k') s:=by
 subst e;exact⟨.bl k,H,I,rfl,q⟩
theorem Uh:OpR X (compareOp .Lt) (rI0 fun i j=>.bl (decide (i < j))):=Fv fun _ _ _ _ _ _ _ q=>lt_int q
theorem Te:OpR X (compareOp .LtE) (rI0 fun i j=>.bl (decide (i<=j))):=Fv fun _ _ _ _ _ _ _ q=>le_int q
theorem Qt:OpR X (compareOp .Gt) (rI0 fun i j=>.bl (decide (j < i))):=Fv fun _ _ _ _ _ _ _ q=>gt_int q
theorem UP:OpR X (compareOp .GtE) (rI0 fun i j=>.bl (decide (j<=i))):=Fv fun _ _ _ _ _ _ _ q=>ge_int q
theorem Vm:OpR X (compareOp .IsNot) (fun x y H Q=>y=.non/\Q (.bl (!decide (x=.non))) H):=by
 intro pins s σ H x y v u Q I rx ry h;obtain⟨rfl,q⟩:=h;cases ry;refine isnot_none_gen (VI I q ?_)
 cases x <;> first
  | (cases rx;rfl)
  | (obtain⟨t,rfl⟩:=rx;rfl)
theorem OL{op:CmpOp}{r:R2}(ho:OpR X (compareOp op) r)(ha:PE X a ta)(hb:PE X b tb)(hm:behindInMarks op b=false):PE X (.Compare a [op] [b] pos) (tOp r ta tb):=by
 intro pins s σ H Q I h;exact wpAny_Compare1 (HF ha hb I h fun v u s2 x y H2 I2 rx ry q=>ho pins s2 σ H2 x y v u Q I2 rx ry q) hm
theorem Da:(sizeLine:Nat) < 2 ^ 63:=by rw[sizeLine_eq];decide
theorem TH:OpR X (binaryOp .Add) (fun x y H Q=>∃i j,x=.str i/\y=.str j/\i.length+j.length<=sizeLine/\Q (.str (i++j)) H):=by
 intro pins s σ H x y v u Q I rx ry h;obtain⟨i,j,rfl,rfl,hz,q⟩:=h;obtain⟨t,rfl⟩:=rx;obtain⟨t',rfl⟩:=ry;exact add_str (fun t' tk=>⟨.str (i++j),H,I.tok _,⟨_,rfl⟩,q⟩) hz
theorem Bb{x:V}(r:Vals [x] us):∃u,us=[u]/\RelV x u:=by
 cases r with
 | cons r1 r2=>cases r2;exact⟨_,rfl,r1⟩
theorem EQ{x y:V}(r:Vals [x,y] us):∃u w',us=[u,w']/\RelV x u/\RelV y w':=by
 cases r with
 | cons r1 r2 =>
  cases r2 with
  | cons r3 r4=>cases r4;exact⟨_,_,rfl,r1,r3⟩
theorem Vq(hc:X.calm=true):CallR X (.builtin "min") (fun xs H Q=>∃i j,xs=[.int i,.int j]/\Q (.int (if j < i then j else i)) H):=by
 intro pins s σ H xs us Q I r h;obtain⟨i,j,rfl,q⟩:=h;obtain⟨u,w',rfl,⟨t,rfl⟩,⟨t',rfl⟩⟩:=EQ r;refine min_two_ints (I.ok.hd hc) fun h' tk k=>⟨_,H,I.kept k,?_,q⟩
 by_cases hj:j < i
 ·rw[if_pos hj,if_pos hj];exact⟨_,rfl⟩
 ·rw[if_neg hj,if_neg hj];exact⟨_,rfl⟩
theorem call_int1:CallR X (.type "int") (fun xs H Q=>(∃i,xs=[.int i]/\Q (.int i) H)\/∃k,xs=[.bl k]/\Q (.int (if k then 1 else 0)) H):=by
 intro pins s σ H xs us Q I r h
 rcases h with ⟨i,rfl,q⟩ | ⟨k,rfl,q⟩
 ·obtain⟨u,rfl,t,rfl⟩:=Bb r;exact call_int_int ⟨.int i,H,I,⟨_,rfl⟩,q⟩
 ·obtain⟨u,rfl,r1⟩:=Bb r;cases r1;exact call_int_bool ⟨.int (if k then 1 else 0),H,I.tok _,⟨_,rfl⟩,q⟩
def MP(K:W.Frag)(x:V)(H:Hp)(n:Nat):Prop :=
 match x with
 | .str y=>y.length<=sizeLine/\n=y.length
 | .byt y=>y.size<=sizeLine/\n=y.size
 | .ref p=>(∃xs,SqL K H p xs/\n=xs.length)\/∃xs,SqT K H p xs/\n=xs.length
 | _=>False
theorem call_len:CallR X (.builtin "len") (fun xs H Q=>∃x n,xs=[x]/\MP X.K x H n/\Q (.int n) H):=by
 intro pins s σ H xs us Q I r h;obtain⟨x,n,rfl,e,q⟩:=h;obtain⟨u,rfl,rx⟩:=Bb r;have hl:=Da;have hs:sizeLine=16777216:=sizeLine_eq;cases x with
 | str y =>
  obtain⟨t,rfl⟩:=rx;obtain⟨hy,e'⟩:y.length<=sizeLine/\n=y.length:=e;subst e';exact len_str (by lia) ⟨.int _,H,I.tok _,⟨_,rfl⟩,q⟩
 | byt y =>
  obtain⟨t,rfl⟩:=rx;obtain⟨hy,e'⟩:y.size<=sizeLine/\n=y.size:=e;subst e';exact PySem.W.len_bytes (by lia) ⟨.int _,H,I.tok _,⟨_,rfl⟩,q⟩
 | ref p =>
  cases rx;have e':(∃xs,SqL X.K H p xs/\n=xs.length)\/∃xs,SqT X.K H p xs/\n=xs.length:=e
  rcases e' with ⟨xs,hx,e'⟩ | ⟨xs,hx,e'⟩
  ·subst e';obtain⟨its,r',pl,hz⟩:=I.list hx;have hlen:=r'.length;exact Calls.call_len_list pl.isList (by simp only[ZI];lia) ⟨.int xs.length,H,I.tok _,⟨_,by simp only[ZI];rw[hlen]⟩,q⟩
  ·subst e';obtain⟨its,r',pl,hz⟩:=I.tuple hx;have hlen:=r'.length;exact len_tuple pl (by simp only[ZI];lia) ⟨.int xs.length,H,I.tok _,⟨_,by simp only[ZI];rw[hlen]⟩,q⟩
 | _=>exact(show False from e).elim
end
structure ObjM(h:Heap)(x dx C:Addr)(mA:Str->Option Value):Prop where
 obj:h.get? x=some (PySem.W.instObj C dx)
 ns:h.Ns1 dx mA
 ne:dx≠x
theorem Nh{dx:Addr}{mA:Str->Option Value}(n:h.Ns1 dx mA):∃od,h.get? dx=some od/\∀name,PySem.W.lookIn name od=some (mA name):=by
 obtain⟨o,es,ep,ho,hd,hk,_,hm⟩:=n;refine⟨o,ho,fun name=>?_⟩;have e:=hm name;unfold nsFind findBy at e;rw[<- Array.find?_toList]at e;unfold PySem.W.lookIn;rw[hd];dsimp only;split
 ·rename_i y q;rw[q]at e;exact congrArg some e
 ·rename_i q;rw[q]at e
  have a:es.toList.any (·.refKey)=false:=by
   rw[List.any_eq_false];intro y hy;obtain⟨z,t,hkey⟩:=hk y (Array.mem_toList_iff.mp hy);simp[DictEntry.refKey,hkey]
  have a':¬es.toList.any (·.refKey)=true:=by rw[a];exact Zq
  rw[if_neg a'];exact congrArg some e
theorem ObjM.look{x dx:Addr}{mA:Str->Option Value}(I:ObjM h x dx C mA):∃od,PySem.W.InstAt h x (PySem.W.instObj C dx) C (some od)/\∀name,PySem.W.lookIn name od=some (mA name) :=
 let ⟨od,ho,hl⟩:=Nh I.ns
 ⟨od,⟨I.obj,rfl,rfl,ho⟩,hl⟩
section
variable {prog:Program}{w:World}{A:Around}{E:Value->Shared->Prop}{s:Shared}{K:W.Frag}{x dx C f:Addr}{mA:Str->Option Value}{name:Str}{v:Value}
theorem V8 {expr:Bool} (X:K.In s.heap) (I:ObjM s.heap x dx C mA) (hg:PySem.W.plainGet K C name=true) (hh:PySem.W.hasDictIn K C=true)
 (ha:PySem.W.findIn K (.ref C) name=some none) (hv:mA name=some v) (hv':PySem.W.handedIn v=true) (h:Q v { s with toks:=s.toks+1 }) :
 wpAny (model prog w) A (getAttr (.ref x) name expr) Q E s:=by
 obtain⟨od,J,hl⟩:=I.look;exact PySem.W.get_value X J (PySem.W.plainGet_of hg).1 (PySem.W.findObj_own hh ha rfl (by rw[hl,hv])) hv' h
theorem UJ {pl:Sem Bool} {Q:Value × List Value->Shared->Prop} (X:K.In s.heap) (I:ObjM s.heap x dx C mA) (hg:PySem.W.plainGet K C name=true)
 (hf:PySem.W.findIn K (.ref C) name=some (some (.ref f))) (ht:PySem.W.isFn K (.ref f)=true) (hv:mA name=none) (h:Q (.ref f,[.ref x]) s) :
 wpAny (model prog w) A (getMethod (.ref x) name pl) Q E s:=by
 obtain⟨od,J,hl⟩:=I.look;exact PySem.W.method_fn X J (PySem.W.plainGet_of hg).1 (PySem.W.plainGet_of hg).2 hf (beq_iff_eq.mp ht) (by show(PySem.W.lookIn name od).map (·.isSome)=some false;rw[hl,hv];rfl) h
theorem Sb {ns:List Str} {Q:Unit->Shared->Prop} (X:K.In s.heap) (I:ObjM s.heap x dx C mA)
 (hs:PySem.W.findIn K (.ref C) "__setattr__" = some (some (.builtin "object.__setattr__"))) (hp:PySem.W.plainOver K C=true) (ht:PySem.W.takerIn K C name=some none) (hh:PySem.W.hasDictIn K C=true)
 (hw:PySem.Within mA ns) (hsz:ns.length<=sizeLine)
 (h:∀h',ObjM h' x dx C (fun y=>if y=name then some v else mA y)->Heap.SameBut dx s.heap h'->Q () { s with heap:=h',toks:=s.toks+2 }) :
 wpAny (model prog w) A (setAttr (.ref x) name v) Q E s:=by
 obtain⟨od,J,hl⟩:=I.look;refine PySem.W.set_plain X J hs (PySem.W.osa_open (s:={ s with toks:=s.toks+1 }) (r:=none) X J hp ht fun b=>?_);obtain⟨cd,hc,hd'⟩:=PySem.W.any_some hh;have hx:s.heap.get? x=some ⟨.ref C,some dx,.plain,#[]⟩:=I.obj;refine ZA (ZB (ZA (ZA (wpAny_loadPart hx (ZA (PySem.W.Looks.here (s:={ s with toks:=s.toks+1 }) (PySem.W.looks_clsIn X hc) ?_))))));rw[hd'];refine ZB (a:=some dx) (ZA (ZB (ZA ?_)));refine wpAny_nsSet1 (s:={ s with toks:=s.toks+1 }) I.ns fun h' hn2 hs2=>?_
 obtain⟨oD,esD,epD,hoD,hdD,hcD⟩:=hn2.count (PySem.Within.cons name v hw);refine ZA (wpAny_lookBehind hoD (by rw[hdD];exact pastItsLine_dict (Zf hcD (by rw[Zn];lia))) ?_);exact ZB (h _ ⟨(hs2.2 _ (Ne.symm I.ne)).trans I.obj,hn2,I.ne⟩ hs2)
theorem U5 {R:Result->Shared->Prop} {vs:List Value} {kw:List (Str × Value)} (X:K.In s.heap) (hm:PySem.W.makesIn K C=true)
 (hi:PySem.W.findIn K (.ref C) "__init__" = some (some (.ref f))) (hf:PySem.W.typeIn K (.ref f)=some (.type "function"))
 (h:codeAny (model prog w) (A.under (.builtin "type.__call__" ⟨.ref C::vs,kw⟩)) (.call (.ref f) ⟨.ref (s.heap.objs.size+1)::vs,kw⟩) (PySem.W.InitBack (s.heap.objs.size+1) R)
   { s with heap:=(s.heap.push PySem.W.emptyDict).push (PySem.W.instObj C s.heap.objs.size) }) :
 codeAny (model prog w) A (.call (.ref C) ⟨vs,kw⟩) R s:=by
 obtain⟨hh,g,d,t,os⟩:=s;exact PySem.W.make_core (PySem.W.makes_of X hm) (PySem.W.looks_findIn X hi) (fun self=>PySem.W.bind_fn X self hf) (.inl rfl) h
end
def Al(f:Str)(v:V):List (Str × V)->List (Str × V)
 | []=>[(f,v)]
 | (g,x)::r=>if g=f then (g,v)::r else (g,x)::Al f v r
theorem Ho(f g:Str)(v:V):∀fs:List (Str × V),(Al f v fs).lookup g=if g=f then some v else fs.lookup g
 | []=>by
  show List.lookup g [(f,v)]=_
  by_cases h:g=f
  ·have hb:(g == f)=true:=beq_iff_eq.mpr h;simp only[List.lookup,hb,if_pos h]
  ·have hb:(g == f)=false:=beq_eq_false_iff_ne.mpr h;simp only[List.lookup,hb,if_neg h]
 | (k,x)::r=>by
  have ih:=Ho f g v r;rw[show Al f v ((k,x)::r)=(if k=f then (k,v)::r else (k,x)::Al f v r) from rfl]
  by_cases hk:k=f
  ·rw[if_pos hk]
   by_cases h:g=k
   ·have hb:(g == k)=true:=beq_iff_eq.mpr h;simp only[List.lookup,hb,if_pos (h.trans hk)]
   ·have hb:(g == k)=false:=beq_eq_false_iff_ne.mpr h;simp only[List.lookup,hb,if_neg (fun e:g=f=>h (e.trans hk.symm))]
  ·rw[if_neg hk]
   by_cases h:g=k
   ·have hb:(g == k)=true:=beq_iff_eq.mpr h;simp only[List.lookup,hb,if_neg (fun e:g=f=>hk (h.symm.trans e))]
   ·have hb:(g == k)=false:=beq_eq_false_iff_ne.mpr h;simp only[List.lookup,hb];exact ih
theorem JL(f:Str)(v:V):∀fs:List (Str × V),f∈(Al f v fs).map (·.1)/\∀g,g∈fs.map (·.1)->g∈(Al f v fs).map (·.1)
 | []=>⟨by simp[Al],fun g h=>by simp at h⟩
 | (k,x)::r=>by
  obtain⟨i1,i2⟩:=JL f v r;rw[show Al f v ((k,x)::r)=(if k=f then (k,v)::r else (k,x)::Al f v r) from rfl]
  by_cases hk:k=f
  ·rw[if_pos hk];subst hk;exact⟨by simp,fun g h=>by simpa using h⟩
  ·rw[if_neg hk];refine⟨?_,fun g h=>?_⟩
   ·rw[Zi];exact Za _ i1
   ·rw[Zi]at h ⊢
    rcases ZF.mp h with e | e
    ·exact ZF.mpr (.inl e)
    ·exact Za _ (i2 g e)
theorem KR(f:Str)(v:V):∀fs:List (Str × V),(Al f v fs).length<=fs.length+1
 | []=>by simp[Al]
 | (k,x)::r=>by
  have ih:=KR f v r;rw[show Al f v ((k,x)::r)=(if k=f then (k,v)::r else (k,x)::Al f v r) from rfl]
  by_cases hk:k=f
  ·rw[if_pos hk,Zn,Zn];lia
  ·rw[if_neg hk,Zn,Zn];lia
theorem RelO.some_of{o:Option Value}(r:RelO (some v) o):∃u,o=some u/\RelV v u:=by
 cases o with
 | none=>exact(show False from r).elim
 | some u=>exact⟨u,rfl,r⟩
theorem RelO.none_of{o:Option Value}(r:RelO none o):o=none:=by
 cases o with
 | none=>rfl
 | some u=>exact(show False from r).elim
theorem K1(r:RelV v u):PySem.W.handedIn u=true:=by
 cases v with
 | non=>cases (show u=Value.none from r);rfl
 | bl b=>cases (show u=Value.bool b from r);rfl
 | int i=>obtain⟨t,e⟩:=(show ∃t,u=Value.int i t from r);cases e;rfl
 | str x=>obtain⟨t,e⟩:=(show ∃t,u=Value.str x t from r);cases e;rfl
 | byt b=>obtain⟨t,e⟩:=(show ∃t,u=Value.bytes b t from r);cases e;rfl
 | flt b=>obtain⟨t,e⟩:=(show ∃t,u=Value.float b t from r);cases e;rfl
 | ref a=>cases (show u=Value.ref a from r);rfl
 | ty n=>cases (show u=Value.type n from r);rfl
section
variable {P:Program}{w:World}{H H':Hp}{h h':Heap}{a C dx:Addr}{fs fs':List (Str × V)}
theorem Ek(hok:HOk P w H h)(e:H a=some (.ins C dx fs)):∃mA,ObjM h a dx C mA/\(∀f,RelO (fs.lookup f) (mA f))/\PySem.Within mA (fs.map (·.1))/\fs.length<=1000/\H dx=some (.own a):=by
 obtain⟨d,z,ne,ob,mA,n,r,q⟩:=(show ObjOk P w H h a (.ins C dx fs) from hok a _ e);exact⟨mA,⟨ob,n,ne⟩,r,q,z,d⟩
end
structure Cls(K:W.Frag)(C:Addr):Prop where
 pg:PySem.W.plainGet K C Str.empty=true
 hd:PySem.W.hasDictIn K C=true
 po:PySem.W.plainOver K C=true
 sa:PySem.W.findIn K (.ref C) "__setattr__" = some (some (.builtin "object.__setattr__"))
theorem Cls.get(c:Cls K C)(f:Str):PySem.W.plainGet K C f=true:=c.pg
def NoAttr(K:W.Frag)(C:Addr)(f:Str):Prop:=PySem.W.findIn K (.ref C) f=some none
theorem NoAttr.taker{f:Str}(n:NoAttr K C f):PySem.W.takerIn K C f=some none:=by
 unfold PySem.W.takerIn;rw[show PySem.W.findIn K (.ref C) f=some none from n];rfl
structure Con(K:W.Frag)(C:Addr)(f:Str)(v:V)(u:Value):Prop where
 at_:PySem.W.findIn K (.ref C) f=some (some u)
 rel:RelV v u
 get:PySem.W.specialIn K u "__get__" = some none
 cp:PySem.W.copiedNames.contains f=false
structure Meth(K:W.Frag)(C:Addr)(m:Str)(f:Addr):Prop where
 at_:PySem.W.findIn K (.ref C) m=some (some (.ref f))
 fn:PySem.W.isFn K (.ref f)=true
 kp:PySem.W.keepIn K (.ref f)=true
section
variable {X:Cx}{pins:List (Addr × Obj)}{σ:St}{H:Hp}{s:Shared}{a C dx:Addr}{fs:List (Str × V)}{f:Str}{v:V}{A:Around}{E:Value->Shared->Prop}
theorem VE {b:Bool} (I:Inv X pins σ H s) (e:H a=some (.ins C dx fs)) (c:Cls X.K C) (n:NoAttr X.K C f) (l:fs.lookup f=some v)
 (h:∀u s',Inv X pins σ H s'->RelV v u->Q u s'):wpAny (model X.prog X.w) A (getAttr (.ref a) f b) Q E s:=by
 obtain⟨mA,O,r,_,_,_⟩:=Ek I.hok e;obtain⟨u,hu,ru⟩:=RelO.some_of (v:=v) (o:=mA f) (by rw[<- l];exact r f);exact V8 I.kIn O (c.get f) c.hd n hu (K1 ru) (h u _ (I.tok _) ru)
theorem My {m:Str} {g:Addr} {pl:Sem Bool} {Q:Value × List Value->Shared->Prop} (I:Inv X pins σ H s) (e:H a=some (.ins C dx fs)) (c:Cls X.K C) (k:Meth X.K C m g) (l:fs.lookup m=none)
 (h:Q (.ref g,[.ref a]) s):wpAny (model X.prog X.w) A (getMethod (.ref a) m pl) Q E s:=by
 obtain⟨mA,O,r,_,_,_⟩:=Ek I.hok e;have hn:mA m=none:=RelO.none_of (by rw[<- l];exact r m);exact UJ I.kIn O (c.get m) k.at_ k.fn hn h
theorem Px {y:V} {Q:Unit->Shared->Prop} (I:Inv X pins σ H s) (e:H a=some (.ins C dx fs)) (c:Cls X.K C) (n:NoAttr X.K C f) (hl:fs.length < 1000) (ry:RelV y u)
 (h:∀s',Inv X pins σ (upd H a (.ins C dx (Al f y fs))) s'->Q () s'):wpAny (model X.prog X.w) A (setAttr (.ref a) f u) Q E s:=by
 obtain⟨mA,O,r,wi,_,ho⟩:=Ek I.hok e;have hz:(fs.map (·.1)).length<=sizeLine:=by rw[ZC,sizeLine_eq];lia
 refine Sb I.kIn O c.sa c.po n.taker c.hd wi hz fun h' O' sb=>h _ ?_
 have hd:∃o,h'.get? dx=some o:=let ⟨o,_,_,e',_⟩:=O'.ns;⟨o,e'⟩;refine I.write (x:=a) (e:=dx) (by rw[e];exact True.intro) (.inr ho) (fun b q hb z=>(sb.2 b hb).trans z) hd ?_;refine⟨by rw[AI O.ne];exact ho,?_,O.ne,O'.obj,_,O'.ns,fun g=>?_,fun g hg=>?_⟩
 ·have:=KR f y fs;lia
 ·show RelO ((Al f y fs).lookup g) (if g=f then some u else mA g);rw[Ho]
  by_cases q:g=f
  ·rw[if_pos q,if_pos q];exact ry
  ·rw[if_neg q,if_neg q];exact r g
 ·by_cases q:g=f
  ·rw[q];exact(JL f y fs).1
  ·refine(JL f y fs).2 g (wi g fun z=>hg ?_)
   show(if g=f then some u else mA g)=none
   rw[if_neg q];exact z
theorem Inv.made(I:Inv X pins σ H s):Inv X pins σ (upd (upd H s.heap.objs.size (.own (s.heap.objs.size+1))) (s.heap.objs.size+1) (.ins C s.heap.objs.size []))
 { s with heap:=(s.heap.push PySem.W.emptyDict).push (PySem.W.instObj C s.heap.objs.size) }:=by
 have e1:(s.heap.push PySem.W.emptyDict).get? s.heap.objs.size=some PySem.W.emptyDict:=ZN s.heap rfl
 have e2:((s.heap.push PySem.W.emptyDict).push (PySem.W.instObj C s.heap.objs.size)).get? (s.heap.objs.size+1)=some (PySem.W.instObj C s.heap.objs.size):=by
  have:=ZN (s.heap.push PySem.W.emptyDict) (o:=PySem.W.instObj C s.heap.objs.size) rfl
  rwa [Z0]at this
 have e3:(s.heap.push PySem.W.emptyDict).Ns s.heap.objs.size (fun _=>none):=⟨PySem.W.emptyDict,#[],_,e1,rfl,(fun e he=>absurd he (by simp)),fun _=>rfl⟩;have I1:=I.laid (a:=s.heap.objs.size) (o:=.own (s.heap.objs.size+1)) (h':=s.heap.push PySem.W.emptyDict) (t':=s.toks) (fun b u q=>ZH _ q) (ZD _) ⟨_,e1⟩;refine I1.laid (a:=s.heap.objs.size+1) (o:=.ins C s.heap.objs.size []) (t':=s.toks) (fun b u q=>ZH _ q) (ZBe (Z0 _ _)) ?_;have ne:s.heap.objs.size≠s.heap.objs.size+1:=ZK (ZBV _);refine⟨by rw[AI ne,AD],ZX _,ne,e2,fun _=>none,(Heap.Ns1.of_empty e3).at fun o q=>ZH _ q,fun _=>True.intro,fun y hy=>absurd rfl hy⟩
theorem NT {prog:Program} {env:Env} {e:Expr} {f:Str} (hb:attributeBase e f env (eval e env)=eval e env)
 (h:wpAny (model prog w) A (eval e env) (fun o s₁=>wpAny (model prog w) A (getAttr o f true) Q E s₁) E s):wpAny (model prog w) A (eval (.Attribute e f pos) env) Q E s :=
 Attribute_any_ h (by rw[arm_eval_Attribute,hb])
end
section
variable {X:Cx}{o e value:Expr}{f:Str}{pos pos' tpos:Pos}{ta tv:TE}
end
section
variable {X:Cx}{pins:List (Addr × Obj)}{σ:St}{H:Hp}{s:Shared}{A:Around}{E:Value->Shared->Prop}{Q:Value->Shared->Prop}{c:Value}{b:Bool}
inductive TyOf (K:W.Frag) (H:Hp):V->Value->Prop where
 | non:TyOf K H .non (.type "NoneType")
 | bl (x:Bool):TyOf K H (.bl x) (.type "bool")
 | int (i:Int):TyOf K H (.int i) (.type "int")
 | str (x:Str):TyOf K H (.str x) (.type "str")
 | flt (x:UInt64):TyOf K H (.flt x) (.type "float")
 | lst {a:Addr} {xs:List V} (e:H a=some (.lst xs)):TyOf K H (.ref a) (.type "list")
 | frz {a:Addr} {o:Obj} {xs:List V} (e:H a=some (.frz o (.lst xs))):TyOf K H (.ref a) (.type "list")
 | tup {a:Addr} {xs:List V} (e:H a=some (.tup xs)):TyOf K H (.ref a) (.type "tuple")
 | dK {a:Addr} {kvs:List (Key × V)} (e:H a=some (.dK kvs)):TyOf K H (.ref a) (.type "dict")
 | dT {a:Addr} {kvs:List (List Key × V)} (e:H a=some (.dT kvs)):TyOf K H (.ref a) (.type "dict")
 | ins {a C dx:Addr} {fs:List (Str × V)} (e:H a=some (.ins C dx fs)) (cl:Cls K C) (ha:PySem.W.findIn K (.ref C) "__class__" = some (some (.builtin "object.__class__")))
  (hn:PySem.W.specialIn K (.builtin "object.__class__") "__get__" = some (some (.builtin "getset_descriptor.__get__"))) (htk:PySem.W.takesIn K (.builtin "object.__class__")=some true)
  (hm:PySem.W.mroIn K C (.type "object")=some true):TyOf K H (.ref a) (.ref C)
theorem Rp{x:V}{t:Value}(I:Inv X pins σ H s)(rx:RelV x u)(ty:TyOf X.K H x t)(e:PySem.W.kitOne X.K t c=some b)(h:∀tk,Q (.bool b) { s with toks:=tk }) :
 wpAny (model X.prog X.w) A (call (.builtin "isinstance") [u,c]) Q E s:=by
 cases ty with
 | non=>cases (show u=Value.none from rx);exact PySem.W.kia_one PySem.W.kitx_none I.kIn True.intro e (fun z=>nomatch z) h
 | bl y=>cases (show u=Value.bool y from rx);exact PySem.W.kia_one PySem.W.kitx_bool I.kIn True.intro e (fun z=>nomatch z) h
 | int i=>obtain⟨t,q⟩:=(show ∃t,u=Value.int i t from rx);cases q;exact PySem.W.kia_one PySem.W.kitx_int I.kIn True.intro e (fun z=>nomatch z) h
 | str y=>obtain⟨t,q⟩:=(show ∃t,u=Value.str y t from rx);cases q;exact PySem.W.kia_one PySem.W.kitx_str I.kIn True.intro e (fun z=>nomatch z) h
 | flt y=>obtain⟨t,q⟩:=(show ∃t,u=Value.float y t from rx);cases q;exact PySem.W.kia_one PySem.W.kitx_float I.kIn True.intro e (fun z=>nomatch z) h
 | @lst a xs ea =>
  cases (show u=Value.ref a from rx);obtain⟨_,_,n,_,h1⟩:=(show ObjOk X.prog X.w H s.heap a (.lst xs) from I.hok a _ ea);exact PySem.W.kia_one PySem.W.kitx_list I.kIn ⟨_,h1,rfl⟩ e (fun z=>nomatch z) h
 | @frz a ob xs ea =>
  cases (show u=Value.ref a from rx);obtain⟨_,_,_,n,_,h1⟩:=(show ObjOk X.prog X.w H s.heap a (.frz ob (.lst xs)) from I.hok a _ ea);exact PySem.W.kia_one PySem.W.kitx_list I.kIn ⟨_,h1,rfl⟩ e (fun z=>nomatch z) h
 | @tup a xs ea =>
  cases (show u=Value.ref a from rx);obtain⟨_,_,_,p⟩:=(show ObjOk X.prog X.w H s.heap a (.tup xs) from I.hok a _ ea);obtain⟨o,h1,h2,_⟩:=p;exact PySem.W.kia_one PySem.W.kitx_tuple I.kIn ⟨o,h1,h2⟩ e (fun z=>nomatch z) h
 | @dK a kvs ea =>
  cases (show u=Value.ref a from rx);obtain⟨_,_,vs,_,p⟩:=(show ObjOk X.prog X.w H s.heap a (.dK kvs) from I.hok a _ ea);obtain⟨o,es,ep,h1,h2,_⟩:=p;exact PySem.W.kia_one PySem.W.kitx_dict I.kIn ⟨o,h1,h2.1⟩ e (fun z=>nomatch z) h
 | @dT a kvs ea =>
  cases (show u=Value.ref a from rx);obtain⟨_,_,xs,_,o,es,ep,h1,h2,_⟩:=(show ObjOk X.prog X.w H s.heap a (.dT kvs) from I.hok a _ ea);exact PySem.W.kia_one PySem.W.kitx_dict I.kIn ⟨o,h1,h2.1⟩ e (fun z=>nomatch z) h
 | @ins a C dx fs ea cl ha hn htk hm =>
  cases (show u=Value.ref a from rx);obtain⟨mA,O,_⟩:=Ek I.hok ea;obtain⟨od,J,_⟩:=O.look;exact PySem.W.kia_one (PySem.W.kitx_own (cl.get _) cl.hd ha hn htk hm) I.kIn J e (fun z=>nomatch z) h
end
structure Room(k:Nat)(A:Around):Prop where
 hd:A.handled=none
 dp:A.depth+3 * k+5 < recursionLimit
 un:A.units+16 * k+200 < cLine
 gd:A.guards=some []
theorem Room.mono{j:Nat}(r:Room k A)(h:j<=k):Room j A:=⟨r.hd,by have:=r.dp;lia,by have:=r.un;lia,r.gd⟩
theorem Room.deeper(r:Room (k+1) A)(env:Env):Room k (A.deeper env) :=
 ⟨r.hd,by have:=r.dp;show A.depth+1+3 * k+5 < _;lia,by have:=r.un;show A.units+3+16 * k+200 < _;lia,r.gd⟩
theorem Room.in1(r:Room (k+1) A):Room k A.in1 :=
 ⟨r.hd,by have:=r.dp;show A.depth+3 * k+5 < _;lia,by have:=r.un;show A.units+1+16 * k+200 < _;lia,r.gd⟩
theorem Ru{kw:List (Str × Value)}:(A.under (.builtin "type.__call__" ⟨.ref C::us,kw⟩)).depth=A.depth+1:=by
 first | rfl | simp[Around.under,Code.weight,Code.isCreation,Code.isGuard,Code.isCaller,Code.frames,Code.isFrame,guardIds]
theorem OH{kw:List (Str × Value)}:(A.under (.builtin "type.__call__" ⟨.ref C::us,kw⟩)).units=A.units+1:=by
 first | rfl | simp[Around.under,Code.cUnits,Code.frames,Code.isFrame]
theorem Room.make(r:Room (k+1) A)(C:Addr)(us:List Value)(kw:List (Str × Value)):Room k (A.under (.builtin "type.__call__" ⟨.ref C::us,kw⟩)) :=
 ⟨r.hd,by have:=r.dp;rw[Ru];lia,by have:=r.un;rw[OH];lia,by first | exact r.gd | (simpa [Around.under,Code.guards,Code.isGuard,guardIds,pushGuards] using r.gd)⟩
theorem Room.depth(r:Room k A):A.depth < recursionLimit:=by have:=r.dp;lia
def FS:TA:=fun _ H Q=>Q [] H
def HA(ta:TE)(tr:TA):TA:=fun σ H Q=>ta σ H fun x H1=>tr σ H1 fun xs H2=>Q (x::xs) H2
section
variable {X:Cx}{e:Expr}{es:List Expr}{te:TE}{t:TA}{pos:Pos}
theorem AB:PA X [] FS:=fun _ _ _ _ H Q I h=>Calls.spliced_nil ⟨[],H,I,.nil,h⟩
theorem AA(ha:PE X e te)(hr:PA X es t)(hs:starEach (e::es) X.env=(false,eval e X.env)::starEach es X.env:=by rfl):PA X (e::es) (HA te t):=by
 intro pos pins s σ H Q I h;rw[hs];show wpAny _ _ (spliced ((false,eval e X.env)::backTo pos (starEach es X.env))) _ _ s;refine Calls.spliced_cons (thn (ha pins s σ H _ I h) fun u s1 ⟨x,H1,I1,r1,q1⟩=>?_);exact thn (hr pos pins s1 σ H1 _ I1 q1) fun us s2 ⟨xs,H2,I2,r2,q2⟩=>⟨x::xs,H2,I2,.cons r1 r2,q2⟩
def Ka(t:TA):TE:=fun σ H Q=>t σ H fun xs H1=>xs.length<=sizeLine/\∀p,H1 p=none->Q (.ref p) (upd H1 p (.tup xs))
def Lu(t:TA):TE:=fun σ H Q=>t σ H fun xs H1=>xs.length<=sizeLine/\∀p,H1 p=none->Q (.ref p) (upd H1 p (.lst xs))
theorem A5{x1}(h:PA X es t):PE X (.Tuple es x1 pos) (Ka t):=by
 intro pins s σ H Q I hq;refine wpAny_Tuple_spliced (thn (h pos pins s σ H _ I hq) fun us s1 ⟨xs,H1,I1,r,z,q⟩=>⟨by rw[<- r.length];exact z,?_⟩);have hf:H1 s1.heap.objs.size=none:=I1.hok.fresh (ZD _);refine⟨.ref s1.heap.objs.size,upd H1 s1.heap.objs.size (.tup xs),I1.laid (t':=s1.toks) (fun b u e=>ZH _ e) (ZD _) ?_,rfl,q _ hf⟩;exact⟨z,us,r,⟨_,ZN _ rfl,rfl,⟨_,rfl⟩,rfl⟩⟩
theorem BG(h:PA X es t):PE X (.List es pos) (Lu t):=by
 intro pins s σ H Q I hq;refine wpAny_List_spliced (thn (h pos pins s σ H _ I hq) fun us s1 ⟨xs,H1,I1,r,z,q⟩=>⟨by rw[<- r.length];exact z,?_⟩);have hf:H1 s1.heap.objs.size=none:=I1.hok.fresh (ZD _);refine⟨.ref s1.heap.objs.size,upd H1 s1.heap.objs.size (.lst xs),I1.laid (t':=s1.toks) (fun b u e=>ZH _ e) (ZD _) ?_,rfl,q _ hf⟩;exact⟨z,us,0,r,ZN _ rfl⟩
end
abbrev Sp:=List V->Hp->VK->XK->Prop
abbrev CXT:=List Env->Hp->Shared->XK->Value->Shared->Prop
structure Env0(P:Program)(w:World)(K:W.Frag)(mg:Str->Option Value)(base:Heap)(A:Around)(outer:List Env)(s:Shared)(H:Hp):Prop where
 frames:A.frames=some outer
 mod:Mod K mg base
 bs:∀b o,base.get? b=some o->s.heap.get? b=some o/\H b=none
 bsz:base.objs.size<=s.heap.objs.size
 funs:s.heap.FunFrames base outer
 frf:∀b∈frs outer,H b=none
 hok:HOk P w H s.heap
 bare:AllBare s.gens
def CE(outer:List Env)(P:Program)(w:World)(H:Hp)(s:Shared)(Q:VK)(u:Value)(s':Shared):Prop :=
 ∃v H',s'.os=s.os/\AllBare s'.gens/\Un (frs outer) [] H H' s.heap s'.heap/\HOk P w H' s'.heap/\RelV v u/\Q v H'
def CR(CX:CXT)(outer:List Env)(P:Program)(w:World)(H:Hp)(s:Shared)(Q:VK)(E:XK)(r:Result)(s':Shared):Prop :=
 match r with
 | .ok (.ret u)=>CE outer P w H s Q u s'
 | .ok _=>False
 | .error e=>CX outer H s E e s'
structure FnOk(P:Program)(w:World)(K:W.Frag)(mg:Str->Option Value)(base:Heap)(CX:CXT)(k:Nat)(f:Addr)(fd:FuncData)(ps:List Str)(sp:Sp):Prop where
 len:∀vs H Q E,sp vs H Q E->vs.length=ps.length
 run:∀(A:Around) (outer:List Env) (s:Shared) (H:Hp) (args:Args) (us:List Value) (vs:List V) (Q:VK) (E:XK),Room k A->Env0 P w K mg base A outer s H->BindsTo s fd args (ps.zip us)->Vals vs us->sp vs H Q E ->
  codeAny (model P w) A (.call (.ref f) args) (CR CX outer P w H s Q E) s
theorem FnOk.imp {CX:CXT} {f:Addr} {fd:FuncData} {ps:List Str} {sp sp':Sp} (F:FnOk P w K mg base CX k f fd ps sp)
 (h:∀vs H Q E,sp' vs H Q E->sp vs H Q E):FnOk P w K mg base CX k f fd ps sp' :=
 ⟨fun vs H Q E q=>F.len vs H Q E (h _ _ _ _ q),fun A outer s H args us vs Q E hr he hb hv hs=>F.run A outer s H args us vs Q E hr he hb hv (h _ _ _ _ hs)⟩
theorem Env0.make{outer:List Env}(e:Env0 P w K mg base A outer s H)(C:Addr)(us:List Value)(kw:List (Str × Value)) :
 Env0 P w K mg base (A.under (.builtin "type.__call__" ⟨.ref C::us,kw⟩)) outer s H:=⟨by first | exact e.frames | (simpa [Around.under,Code.envs,Code.isFrame,pushEnvs] using e.frames),e.mod,e.bs,e.bsz,e.funs,e.frf,e.hok,e.bare⟩
theorem Env0.in1{outer:List Env}(e:Env0 P w K mg base A outer s H) :
 Env0 P w K mg base A.in1 outer s H:=⟨e.frames,e.mod,e.bs,e.bsz,e.funs,e.frf,e.hok,e.bare⟩
section
variable {X:Cx}{pins:List (Addr × Obj)}{σ:St}{H:Hp}{s s':Shared}
theorem Inv.env0(I:Inv X pins σ H s):Env0 X.prog X.w X.K X.mg X.base X.A X.stack s H :=
 ⟨I.ok.frames,I.ok.mod,I.bs,Zf I.ok.bsz I.sz,I.stack,I.stkFree,I.hok,I.bare⟩
theorem Inv.after{Q:VK}(I:Inv X pins σ H s)(h:CE X.stack X.prog X.w H s Q u s'):EP X pins σ Q u s':=by
 obtain⟨v,H',os,bare,un,hok,r,q⟩:=h;obtain⟨hh,g,d,t,os'⟩:=s';obtain rfl:os'=s.os:=os;exact⟨v,H',I.call (h':=hh) (g':=g) (d':=d) (t':=t) (ch:=[]) un hok bare (fun b z=>absurd z (by simp)),r,q⟩
end
def Kj(sp:Sp)(dvs:List V)(E:XK)(t:TA):TE:=fun σ H Q=>t σ H fun vs H1=>sp (vs++dvs) H1 Q E
def HL(C:Addr)(m:Str)(sp:Sp)(dvs:List V)(E:XK)(ta:TE)(t:TA):TE:=fun σ H Q=>ta σ H fun x H1=>∃a dx fs,x=.ref a/\H1 a=some (.ins C dx fs)/\fs.lookup m=none /\
 t σ H1 fun vs H2=>sp (x::(vs++dvs)) H2 Q E
def WD(C:Addr)(sp:Sp)(dvs:List V)(E:XK)(t:TA):TE:=fun σ H Q=>t σ H fun vs H1=>∀x dx,H1 x=none->H1 dx=none->dx≠x ->
 sp (.ref x::(vs++dvs)) (upd (upd H1 dx (.own x)) x (.ins C dx [])) (fun v H2=>v=.non/\Q (.ref x) H2) E
def Binds(K:W.Frag)(fd:FuncData)(ps:List Str)(ds:List Value):Prop :=
 ∀(s:Shared) (us:List Value),K.In s.heap->(us++ds).length=ps.length->BindsTo s fd ⟨us,[]⟩ (ps.zip (us++ds))
theorem Binds.all{fd:FuncData}{ps:List Str}(h:∀us:List Value,us.length=ps.length->bindArgs fd ⟨us,[]⟩=pure (ps.zip us)):Binds K fd ps []:=fun s us _ hl=>by
 rw[Zt]at hl ⊢;exact .of_eq (h us hl)
def Cw(CX:CXT)(X:Cx)(E:XK):Prop:=∀(pins:List (Addr × Obj)) (σ:St) (H:Hp) (s:Shared) (e:Value) (s':Shared),Inv X pins σ H s->CX X.stack H s E e s'->X.xe e s'
section
variable {X:Cx}{CX:CXT}{k:Nat}{f C:Addr}{fd:FuncData}{ps:List Str}{sp:Sp}{dvs:List V}{ds:List Value}{E:XK}{x m:Str}{p pos apos:Pos}{e o:Expr}{es:List Expr}{ta:TE}{t:TA}
theorem Ji {Q:VK} {vs:List V} (F:FnOk X.prog X.w X.K X.mg X.base CX k f fd ps sp) (hr:Room k X.A) (hb:Binds X.K fd ps ds) (hd:Vals dvs ds) (hx:Cw CX X E)
 (I:Inv X pins σ H s) (r:Vals vs us) (h:sp (vs++dvs) H Q E):wpAny (model X.prog X.w) X.A (call (.ref f) us) (EP X pins σ Q) X.xe s:=by
 have r2:Vals (vs++dvs) (us++ds):=r.append hd;have hl:(us++ds).length=ps.length:=by rw[<- r2.length];exact F.len _ _ _ _ h
 refine wpAny_call (ZBJ (F.run X.A X.stack s H ⟨us,[]⟩ (us++ds) (vs++dvs) Q E hr I.env0 (hb s us I.kIn hl) r2 h) fun r s' hq=>?_);cases r with
 | error e=>exact hx pins σ H s e s' I hq
 | ok fl =>
  cases fl with
  | ret u=>exact I.after hq
  | next=>exact False.elim hq
  | brk=>exact False.elim hq
  | cont=>exact False.elim hq
theorem AJ (F:FnOk X.prog X.w X.K X.mg X.base CX k f fd ps sp) (hr:Room k X.A) (hg:Gl X x) (hm:X.mg x=some (.ref f)) (hk:PySem.W.keepIn X.K (.ref f)=true) (hb:Binds X.K fd ps ds) (hd:Vals dvs ds) (hx:Cw CX X E)
 (ha:PA X (e::es) t) (hdb:(x == ("__debug__" : Str))=false:=by decide) (he:starEach (e::es) X.env=(false,eval e X.env)::starEach es X.env:=by rfl) (hpl:(backTo pos (starEach es X.env)).any (·.1)=false:=by rfl) :
 PE X (.Call (.Name x p) (e::es) [] pos) (Kj sp dvs E t):=by
 intro pins s σ H Q I h;refine wpAny_Call_Name_kw (Dj I hg hm ?_ hdb);refine PySem.W.callWith_K (h₀:=X.base) I.ok.mod.kin hk (thn (ha pos pins s σ H _ I h) fun us s1 ⟨vs,H1,I1,r,q⟩=>⟨I1.kIn,?_⟩) he hpl;exact Ji F hr hb hd hx I1 r q
theorem A3 {pl:Sem Bool} (he:PE X o ta) (c:Cls X.K C) (hm:Meth X.K C m f) (F:FnOk X.prog X.w X.K X.mg X.base CX k f fd ps sp) (hr:Room k X.A) (hb:Binds X.K fd ps ds) (hd:Vals dvs ds) (hx:Cw CX X E) (ha:PA X (e::es) t)
 (hst:starEach (e::es) X.env=(false,eval e X.env)::starEach es X.env:=by rfl) (hpl:(backTo pos (starEach es X.env)).any (·.1)=false:=by rfl)
 (ht:eval (.Call (.Attribute o m apos) (e::es) [] pos) X.env=(do
   let ov <- eval o X.env
   standAt apos.atName
   let (f,first) <- holding [ov] (getMethod ov m pl)
   callWith pos f first (backTo pos (starEach (e::es) X.env)) (backToKw pos (keywordEach [] X.env))):=by rfl) :
 PE X (.Call (.Attribute o m apos) (e::es) [] pos) (HL C m sp dvs E ta t):=by
 intro pins s σ H Q I h;refine PySem.W.methodCall_KW (pl:=pl) (thn (he pins s σ H _ I h) fun u s1 ⟨x,H1,I1,rx,a,dx,fs,ex,ea,l,q⟩=>?_) ht;subst ex;obtain rfl:u=Value.ref a:=rx;refine My I1 ea c hm l ?_;refine PySem.W.callWith_K (first:=[.ref a]) (h₀:=X.base) I.ok.mod.kin hm.kp (thn (ha pos pins s1 σ H1 _ I1 q) fun us s2 ⟨vs,H2,I2,r,q2⟩=>⟨I2.kIn,?_⟩) hst hpl;exact Ji (us:=.ref a::us) (vs:=.ref a::vs) F hr hb hd hx I2 (.cons rfl r) q2
theorem Qp {pl:Sem Bool} (he:PE X o ta) (c:Cls X.K C) (hm:Meth X.K C m f) (F:FnOk X.prog X.w X.K X.mg X.base CX k f fd ps sp) (hr:Room k X.A) (hb:Binds X.K fd ps ds) (hd:Vals dvs ds) (hx:Cw CX X E)
 (ht:eval (.Call (.Attribute o m apos) [] [] pos) X.env=(do
   let ov <- eval o X.env
   standAt apos.atName
   let (f,first) <- holding [ov] (getMethod ov m pl)
   callWith pos f first (backTo pos (starEach [] X.env)) (backToKw pos (keywordEach [] X.env))):=by rfl) :
 PE X (.Call (.Attribute o m apos) [] [] pos) (HL C m sp dvs E ta FS):=by
 intro pins s σ H Q I h;refine PySem.W.methodCall_KW (pl:=pl) (thn (he pins s σ H _ I h) fun u s1 ⟨x,H1,I1,rx,a,dx,fs,ex,ea,l,q⟩=>?_) ht;subst ex;obtain rfl:u=Value.ref a:=rx;refine My I1 ea c hm l ?_;exact PySem.W.callWith_K0 (first:=[.ref a]) I1.kIn hm.kp (Ji (us:=[.ref a]) (vs:=[.ref a]) F hr hb hd hx I1 (.cons rfl .nil) q)
structure Mk(K:W.Frag)(C f:Addr):Prop where
 makes:PySem.W.makesIn K C=true
 init:PySem.W.findIn K (.ref C) "__init__" = some (some (.ref f))
 fn:PySem.W.isFn K (.ref f)=true
 kp:PySem.W.keepIn K (.ref C)=true
theorem UE {Q:VK} {vs:List V} (M:Mk X.K C f) (F:FnOk X.prog X.w X.K X.mg X.base CX k f fd ps sp) (hr:Room (k+1) X.A) (hb:Binds X.K fd ps ds) (hd:Vals dvs ds)
 (hx:Cw CX X E) (I:Inv X pins σ H s) (r:Vals vs us)
 (h:∀x dx,H x=none->H dx=none->dx≠x->sp (.ref x::(vs++dvs)) (upd (upd H dx (.own x)) x (.ins C dx [])) (fun v H2=>v=.non/\Q (.ref x) H2) E) :
 wpAny (model X.prog X.w) X.A (call (.ref C) us) (EP X pins σ Q) X.xe s:=by
 have hq:=h (s.heap.objs.size+1) s.heap.objs.size (I.hok.fresh (ZBf _)) (I.hok.fresh (ZD _)) (ZK (ZBV _));have I2:=Inv.made (C:=C) I;have r2:Vals (V.ref (s.heap.objs.size+1)::(vs++dvs)) (Value.ref (s.heap.objs.size+1)::(us++ds)):=.cons rfl (r.append hd)
 have hl:(Value.ref (s.heap.objs.size+1)::us++ds).length=ps.length:=by
  have e:=r2.length;rw[F.len _ _ _ _ hq]at e;exact e.symm
 refine wpAny_call (U5 (f:=f) I.kIn M.makes M.init (beq_iff_eq.mp M.fn) (ZBJ (F.run _ X.stack _ _ ⟨Value.ref (s.heap.objs.size+1)::us,[]⟩ (Value.ref (s.heap.objs.size+1)::(us++ds)) _ _ E (hr.make C us [])
  (I2.env0.make C us []) (hb _ (Value.ref (s.heap.objs.size+1)::us) I2.kIn hl) r2 hq) fun r s' hq'=>?_))
 cases r with
 | error e=>exact hx pins σ _ _ e s' I2 hq'
 | ok fl =>
  cases fl with
  | ret u =>
   obtain⟨v,H',I3,rv,ev,q3⟩:=I2.after hq';subst ev;exact⟨rv,⟨V.ref (s.heap.objs.size+1),H',I3,rfl,q3⟩⟩
  | next=>exact False.elim hq'
  | brk=>exact False.elim hq'
  | cont=>exact False.elim hq'
theorem U0 (M:Mk X.K C f) (F:FnOk X.prog X.w X.K X.mg X.base CX k f fd ps sp) (hr:Room (k+1) X.A) (hg:Gl X x) (hm:X.mg x=some (.ref C)) (hb:Binds X.K fd ps ds) (hd:Vals dvs ds) (hx:Cw CX X E)
 (ha:PA X (e::es) t) (hdb:(x == ("__debug__" : Str))=false:=by decide) (he:starEach (e::es) X.env=(false,eval e X.env)::starEach es X.env:=by rfl) (hpl:(backTo pos (starEach es X.env)).any (·.1)=false:=by rfl) :
 PE X (.Call (.Name x p) (e::es) [] pos) (WD C sp dvs E t):=by
 intro pins s σ H Q I h;refine wpAny_Call_Name_kw (Dj I hg hm ?_ hdb);refine PySem.W.callWith_K (h₀:=X.base) I.ok.mod.kin M.kp (thn (ha pos pins s σ H _ I h) fun us s1 ⟨vs,H1,I1,r,q⟩=>⟨I1.kIn,?_⟩) he hpl;exact UE M F hr hb hd hx I1 r q
end
section
variable {X:Cx}{CX:CXT}{k:Nat}{f C:Addr}{fd:FuncData}{ps ks:List Str}{sp:Sp}{E:XK}{x m:Str}{p pos apos kpos:Pos}{e o:Expr}{es:List Expr}{kws:List Keyword}{te ta:TE}{t tk:TA}{nm:Option Str}
structure KBinds(K:W.Frag)(fd:FuncData)(ps ks:List Str)(g:List Value->List Value->List Value)(gV:List V->List V->List V):Prop where
 to:∀(s:Shared) (us ws:List Value),K.In s.heap->(g us ws).length=ps.length->BindsTo s fd ⟨us,ks.zip ws⟩ (ps.zip (g us ws))
 rel:∀{vs:List V} {us:List Value} {zs:List V} {ws:List Value},Vals vs us->Vals zs ws->Vals (gV vs zs) (g us ws)
variable {g:List Value->List Value->List Value}{gV:List V->List V->List V}
end
structure FnScope(N P:List Str)(sc:Scope):Prop where
 kind:sc.kind=.function
 co:sc.isCoroutine=false
 gen:sc.isGenerator=false
 nd:N.Nodup
 pre:N.take P.length=P
 par:∀x∈P,sc.names.lookup x=some .local\/sc.names.lookup x=some .cell
 nofree:∀y∈sc.names,y.2≠.free
theorem Ms{kindOf:Str->Option NameKind}:∀{binds:List (Str × Value)} {m:Str->Option Value},(∀v,(x,v)∉binds)->bindL kindOf binds m x=m x
 | [],_,_=>rfl
 | (n,v)::r,m,h=>by
  unfold bindL;rw[Ms fun w hw=>h w (Za _ hw)];split
  ·have:x≠n:=by rintro rfl;exact h v Zl
   simp[this]
  ·rfl
theorem N4{kindOf:Str->Option NameKind}:∀{binds:List (Str × Value)} {m:Str->Option Value},(∀v,(x,v)∉binds)->bindC kindOf binds m x=m x
 | [],_,_=>rfl
 | (n,v)::r,m,h=>by
  unfold bindC;rw[N4 fun w hw=>h w (Za _ hw)];split
  ·rfl
  ·have:x≠n:=by rintro rfl;exact h v Zl
   simp[this]
theorem Lh{kindOf:Str->Option NameKind}{v:Value}:∀{P:List Str} {vs:List Value} {i:Nat} {m:Str->Option Value},P.Nodup->P[i]? = some x->vs[i]? = some v->kindOf x=some .local ->
 bindL kindOf (P.zip vs) m x=some v
 | [],_,_,_,_,h,_,_=>by simp at h
 | _::_,[],_,_,_,_,h,_=>by simp at h
 | p::P,w::vs,0,m,nd,h1,h2,hk=>by
  simp at h1 h2;subst h1;subst h2;show bindL kindOf ((p,w)::P.zip vs) m p=_;unfold bindL;rw[Ms fun v hv=>(ZBl.mp nd).1 (List.of_mem_zip hv).1,if_pos hk];simp
 | p::P,w::vs,i+1,m,nd,h1,h2,hk=>by
  show bindL kindOf ((p,w)::P.zip vs) m x=_;unfold bindL;exact Lh (i:=i) (ZBl.mp nd).2 (by simpa using h1) (by simpa using h2) hk
theorem KZ{kindOf:Str->Option NameKind}{v:Value}:∀{P:List Str} {vs:List Value} {i:Nat} {m:Str->Option Value},P.Nodup->P[i]? = some x->vs[i]? = some v->kindOf x≠some .local ->
 bindC kindOf (P.zip vs) m x=some v
 | [],_,_,_,_,h,_,_=>by simp at h
 | _::_,[],_,_,_,_,h,_=>by simp at h
 | p::P,w::vs,0,m,nd,h1,h2,hk=>by
  simp at h1 h2;subst h1;subst h2;show bindC kindOf ((p,w)::P.zip vs) m p=_;unfold bindC;rw[N4 fun v hv=>(ZBl.mp nd).1 (List.of_mem_zip hv).1,if_neg hk];simp
 | p::P,w::vs,i+1,m,nd,h1,h2,hk=>by
  show bindC kindOf ((p,w)::P.zip vs) m x=_;unfold bindC;exact KZ (i:=i) (ZBl.mp nd).2 (by simpa using h1) (by simpa using h2) hk
def CV(N:List Str)(vs:List V):St:=vs.map some++List.replicate (N.length - vs.length) none
def By(CX:CXT)(P:Program)(w:World)(K:W.Frag)(mg:Str->Option Value)(base:Heap)(N:List Str)(qual:Str)(scope:Scope)(f:Addr)(cd:Value)(A:Around)(outer:List Env)(s:Shared)(H:Hp)(E:XK):Cx where
 prog:=P
 w:=w
 K:=K
 mg:=mg
 base:=base
 A:=A.deeper (envOfC qual scope s.heap.objs.size f cd)
 N:=N
 s₀:=s
 H₀:=H
 env:=envOfC qual scope s.heap.objs.size f cd
 outer:=outer
 stack:=envOfC qual scope s.heap.objs.size f cd::outer
 ex:=[]
 calm:=true
 fn:=fun _=>true
 pn:=[]
 xe:=fun e s'=>wpAny (model P w) (A.deeper (envOfC qual scope s.heap.objs.size f cd)) (leaving (envOfC qual scope s.heap.objs.size f cd) e) (fun _ s''=>CX outer H s E e s'') (fun e' s''=>CX outer H s E e' s'') s'
theorem K9{sc:Scope}{n:Nat}(h:sc.names.lookup x=some .cell):∃c,(cellsFrom n sc.names []).lookup x=some c:=by
 have q:=PySem.W.cellsFrom_some sc.names n [] (.inl h);exact Option.isSome_iff_exists.mp q
theorem Oc {CX:CXT} {N ps:List Str} {qual:Str} {scope:Scope} {f:Addr} {cd:Value} {outer:List Env} {s1:Shared} {E:XK} {vs:List V}
 (S:FnScope N ps scope) (hd:A.handled=none) (e0:Env0 P w K mg base A outer s H) (hl:vs.length=ps.length) (r:Vals vs us)
 (x:InCallC s s.heap.objs.size (bindL (envOfC qual scope s.heap.objs.size f cd).kindOf (ps.zip us) fun _=>none) (cellsFrom (s.heap.objs.size+1) scope.names []) (bindC (envOfC qual scope s.heap.objs.size f cd).kindOf (ps.zip us) fun _=>none) s1) :
 Inv (By CX P w K mg base N qual scope f cd A outer s H E) [] (CV N vs) H s1:=by
 have hpl:ps.length<=N.length:=by have:=congrArg List.length S.pre;rw[Ze]at this;lia
 obtain⟨h1,tk,rfl,hk⟩:=x.done;have noA:∀b:Addr,b∉(By CX P w K mg base N qual scope f cd A outer s H E).ex:=fun b z=>absurd (show b∈([]:List Addr) from z) (by simp)
 refine⟨⟨e0.mod,S.kind,rfl,rfl,ZD _,fun y z c h1 h2=>?_,fun y hy=>?_,fun y c _ h=>?_,fun _=>hd,Around.frames_deeper e0.frames,.inr ⟨rfl,rfl⟩,fun b z=>absurd z (noA b),e0.bs,e0.bsz,fun b _ _=>noA b,fun b z=>absurd z (noA b),e0.funs,e0.frf⟩,
  rfl,e0.bare,Un.kept hk,⟨_,x.toInCall.ns,fun i y v h1 h2 h3=>?_⟩,fun y c h=>⟨_,x.cell y c h⟩,e0.hok.fresh (ZD _),fun y c h=>?_,fun p hp=>absurd (show p∈([]:List (Addr × Obj)) from hp) (by simp),e0.hok.kept hk,?_⟩
 ·exact name_of_addr x.apart (PySem.mem_of_lookup h1) (PySem.mem_of_lookup h2)
 ·have hy:scope.names.lookup y=some .cell\/scope.names.lookup y=some .free:=hy
  rcases hy with hy | hy
  ·exact K9 hy
  ·exact absurd rfl (S.nofree _ (PySem.mem_of_lookup hy))
 ·exact Zs (x.above y c (PySem.mem_of_lookup h))
 ·have hi:i < vs.length:=by
   unfold CV at h2
   by_cases hi:i < vs.length
   ·exact hi
   ·rw[ZBF (by simpa using hi)]at h2;rw[List.getElem?_replicate]at h2;split at h2 <;> cases h2
  have ha:vs[i]? = some v:=by
   unfold CV at h2;rw[ZBO (by simpa using hi),ZR]at h2;cases e:vs[i]? with
   | none=>rw[e]at h2;cases h2
   | some a=>rw[e]at h2;cases h2;rfl
  obtain⟨u,hu,rv⟩:=r.get ha
  have hp:ps[i]? = some y:=by
   rw[<- S.pre,List.getElem?_take_of_lt (by lia)];exact h1
  have ndP:ps.Nodup:=by rw[<- S.pre];exact S.nd.sublist (List.take_sublist _ _)
  refine⟨u,rv,?_⟩
  rcases S.par y (Z9 hp) with k | k
  ·exact .inl ⟨k,Lh ndP hp hu k⟩
  ·obtain⟨c,e⟩:=K9 (n:=s.heap.objs.size+1) k;refine .inr ⟨.inl k,c,e,?_⟩;have q:=x.cell y c e;rw[KZ ndP hp hu (by show scope.names.lookup y≠_;rw[k];decide)]at q;exact q
 ·exact e0.hok.fresh (Zs (x.above y c (PySem.mem_of_lookup h)))
 ·unfold CV;show _=N.length;rw[ZL,ZC,ZBw];lia
theorem Hx {CX:CXT} {f:Addr} {name qual:Str} {params:Arguments} {body:List Stmt} {scope:Scope} {dV kV doc pm cdv ct oc:Value} {an od:Option Addr}
 {osl:Array (Option Value)} {N ps:List Str} {sp:Sp} (lk:K.lookup f=some ⟨oc,od,.func (PySem.W.fnOf name qual params body scope dV kV doc pm an cdv ct),osl⟩) (hcd:PySem.W.codeIn K cdv qual=true) (S:FnScope N ps scope)
 (len:∀vs H Q E,sp vs H Q E->vs.length=ps.length)
 (hbody:∀(A:Around) (outer:List Env) (s:Shared) (H:Hp) (vs:List V) (Q:VK) (E:XK),Room k (A.deeper (envOfC qual scope s.heap.objs.size f cdv))->sp vs H Q E ->
   ∃t,PSs (By CX P w K mg base N qual scope f cdv A outer s H E) body t/\t { nx:=fun _ H'=>Q .non H',rt:=Q } (CV N vs) H) :
 FnOk P w K mg base CX (k+1) f (PySem.W.fnOf name qual params body scope dV kV doc pm an cdv ct) ps sp:=by
 refine⟨len,fun A outer s H args us vs Q E hr e0 hb r hsp=>?_⟩;have hl:=len _ _ _ _ hsp;have KX:K.In s.heap:=e0.mod.kin.keeps fun b o e=>(e0.bs b o e).1
 have lim:s.heap.NoLimit:=e0.mod.nolimit.keeps fun b o e=>(e0.bs b o e).1
 have hkind:∀y∈ps.zip us,scope.names.lookup y.1=some .local\/(scope.names.lookup y.1=some .cell/\((cellsFrom (s.heap.objs.size+1) scope.names []).lookup y.1).isSome=true):=fun⟨n,v⟩ hy=>by
  rcases S.par n (List.of_mem_zip hy).1 with q | q
  ·exact .inl q
  ·exact .inr ⟨q,PySem.W.cellsFrom_some _ _ _ (.inl q)⟩
 refine codeAny_call_function hr.depth (KX _ _ lk) rfl S.co S.gen rfl (PySem.W.codeRec_of KX hcd) (hb _ _ _ _ ?_);refine wpAny_newFunctionEnv_cells S.kind hkind fun env he s1 x=>?_
 subst he;refine⟨lim.keeps x.toInCall.keep,codeAny_func ?_⟩;obtain⟨t,ht,hq⟩:=hbody A outer s H vs Q E (hr.deeper _) hsp;have I:Inv (By CX P w K mg base N qual scope f cdv A outer s H E) [] (CV N vs) H s1:=Oc S hr.hd e0 hl r x;refine ZZ (ht [] s1 (CV N vs) H _ I hq) (fun fl s' hs=>?_) fun e s' hs=>hs
 have fin:∀{σ':St} {H':Hp} {v:V} {u:Value},Inv (By CX P w K mg base N qual scope f cdv A outer s H E) [] σ' H' s'->RelV v u->Q v H'->CE outer P w H s Q u s' :=
  fun {σ' H' v u} J rv q=>⟨v,H',J.os,J.bare,J.base,J.hok,rv,q⟩
 cases fl with
 | ret u =>
  obtain⟨v,σ',H',J,rv,q⟩:=hs;exact fin J rv q
 | next =>
  obtain⟨σ',H',J,q⟩:=hs;exact fin (v:=V.non) (u:=Value.none) J rfl q
 | brk =>
  obtain⟨_,_,_,q⟩:=hs;exact False.elim q
 | cont =>
  obtain⟨_,_,_,q⟩:=hs;exact False.elim q
section
variable {X:Cx}{x:Str}{p pos:Pos}{e:Expr}{es:List Expr}{t:TA}{id T:String}{r:List V->Hp->VK->Prop}
def tCB(r:List V->Hp->VK->Prop)(t:TA):TE:=fun σ H Q=>t σ H fun vs H1=>r vs H1 Q
theorem AU (hc:CallR X (.builtin id) r) (hg:Gl X x) (hm:X.mg x=none) (hv:bootBuiltins x=some (.builtin id)) (ha:PA X (e::es) t) (hn:x ≠ "__name__":=by decide) (hdb:(x == ("__debug__" : Str))=false:=by decide)
 (he:starEach (e::es) X.env=(false,eval e X.env)::starEach es X.env:=by rfl) (hpl:(backTo pos (starEach es X.env)).any (·.1)=false:=by rfl):PE X (.Call (.Name x p) (e::es) [] pos) (tCB r t):=by
 intro pins s σ H Q I h;refine wpAny_Call_Name_kw (Ct I hg hm hv ?_ hn hdb);exact PyProof.Rows.callWith_builtin1 (thn (ha pos pins s σ H _ I h) fun us s1 ⟨vs,H1,I1,r1,q1⟩=>hc pins s1 σ H1 vs us Q I1 r1 q1) he hpl
theorem As (hc:CallR X (.type T) r) (hg:Gl X x) (hm:X.mg x=none) (hv:bootBuiltins x=some (.type T)) (ha:PA X (e::es) t) (hn:x ≠ "__name__":=by decide) (hdb:(x == ("__debug__" : Str))=false:=by decide)
 (he:starEach (e::es) X.env=(false,eval e X.env)::starEach es X.env:=by rfl) (hpl:(backTo pos (starEach es X.env)).any (·.1)=false:=by rfl):PE X (.Call (.Name x p) (e::es) [] pos) (tCB r t):=by
 intro pins s σ H Q I h;refine wpAny_Call_Name_kw (Ct I hg hm hv ?_ hn hdb);exact PyProof.Rows.callWith_type1 (thn (ha pos pins s σ H _ I h) fun us s1 ⟨vs,H1,I1,r1,q1⟩=>hc pins s1 σ H1 vs us Q I1 r1 q1) he hpl
end
end L2
namespace HT
open PySem PyProof.Rows
section
open PySem.SeqAt
open PySem.AutoSeq1 (wpAny_loadPart')
open PySem.MeetsSeq PySem.MeetsSeq2 PySem.MeetsSeq3
end
section
variable {prog:Program}{w:World}{A:Around}{E:Value->Shared->Prop}{s:Shared}
theorem cat_tup {t b:Addr} {vs ws:List Value} {Q:Value->Shared->Prop} (ht:IsTup s.heap t vs.toArray) (hb:IsTup s.heap b ws.toArray) (hv:vs≠[])
 (h1:ws=[]->Q (.ref t) s) (h2:ws≠[]->Q (.ref s.heap.objs.size) { s with heap:=s.heap.push { cls:=.type "tuple",data:=.seq (vs++ws).toArray } })
 (hsz:vs.length+ws.length<=sizeLine):wpAny (model prog w) A (binaryOp .Add (.ref t) (.ref b)) Q E s:=by
 obtain⟨⟨cls,dd,data,sl⟩,ho,hc,n,hd⟩:=id ht;obtain⟨⟨cls2,dd2,data2,sl2⟩,ho2,hc2,n2,hd2⟩:=id hb;simp only at hc hd hc2 hd2;subst hc hd hc2 hd2;have e:vs.toArray++ws.toArray=(vs++ws).toArray:=by simp
 by_cases hw:ws=[]
 ·exact concat_meets ⟨_,ho,rfl⟩ ⟨_,ho2,rfl⟩ noFill_tuple_add seq_tuple_add PySem.F.slot_tuple_add PySem.F.entry_tuple_add (PySem.F.args_tuple_add_2 _ _)
   (tuple_addW1 t b vs.toArray ws.toArray n n2 dd dd2 sl sl2 (by simpa using hv) (by simp[hw])) ⟨ho,ho2,h1 hw⟩
 ·refine concat_meets ⟨_,ho,rfl⟩ ⟨_,ho2,rfl⟩ noFill_tuple_add seq_tuple_add PySem.F.slot_tuple_add PySem.F.entry_tuple_add (PySem.F.args_tuple_add_2 _ _)
   (tuple_addW2 t b vs.toArray ws.toArray n n2 dd dd2 sl sl2 (by simpa using hv) (by simpa using hw) (by rw[ZI,ZI];exact hsz)) ⟨ho,ho2,?_⟩
  rw[e];exact h2 hw
def sIx(n d:Nat):Option Int->Nat
 | none=>d
 | some v=>if v < 0 then (v+(n:Int)).toNat else min v.toNat n
theorem sIx_none(n d:Nat):sIx n d none=d:=rfl
theorem sIx_nat(n d k:Nat):sIx n d (some (k:Int))=min k n:=by
 show(if (k:Int) < 0 then ((k:Int)+(n:Int)).toNat else min (k:Int).toNat n)=min k n
 rw[if_neg (by lia),Zc]
theorem UG(n d:Nat)(hd:d<=n)(o:Option Int):sIx n d o<=n:=by
 cases o with
 | none=>exact hd
 | some v =>
  show(if v < 0 then (v+(n:Int)).toNat else min v.toNat n)<=n
  by_cases hv:v < 0
  ·rw[if_pos hv];lia
  ·rw[if_neg hv];exact Nat.min_le_right _ _
theorem Jz(v:Int)(n d:Nat):(if v < 0 then max (v+(n:Int)) 0 else min v (n:Int))=((sIx n d (some v):Nat):Int):=by
 show(if v < 0 then max (v+(n:Int)) 0 else min v (n:Int))=(((if v < 0 then (v+(n:Int)).toNat else min v.toNat n):Nat):Int)
 by_cases hv:v < 0
 ·simp only[if_pos hv];lia
 ·simp only[if_neg hv];lia
theorem TN(lo hi:Option Int)(n:Nat):Builtin.Slice.sliceAdjust lo hi 1 (n:Int)=(((sIx n 0 lo:Nat):Int),((sIx n n hi:Nat):Int)):=by
 have h1:¬((1:Int) < 0):=by lia
 unfold Builtin.Slice.sliceAdjust;simp only[h1,if_false];refine Prod.ext ?_ ?_
 ·cases lo with
  | none=>rfl
  | some v=>exact Jz v n 0
 ·cases hi with
  | none=>rfl
  | some v=>exact Jz v n n
theorem QV(i j:Nat):Builtin.Slice.slicePlaces (i:Int) (j:Int) 1=j - i:=by
 unfold Builtin.Slice.slicePlaces;have h1:(1:Int) > 0:=by lia
 simp only[h1,if_true,Int.ediv_one];split <;> lia
theorem LY{v:Value}{o:Option Int}{Q:Option Int->Shared->Prop}(p:IsPart v o)(h:Q o s):wpAny (model prog w) A (Builtin.Slice.slicePartIndex v) Q E s:=by
 cases p with
 | none=>exact slicePart_none h
 | int i t=>exact slicePart_int h
theorem NY {sl:Addr} {vl vu:Value} {lo hi:Option Int} {n:Nat} {Q:Int × Int × Nat->Shared->Prop} (hs:s.heap.IsSliceOf sl vl vu .none) (pl:IsPart vl lo) (pu:IsPart vu hi)
 (h:Q (((sIx n 0 lo:Nat):Int),1,sIx n n hi - sIx n 0 lo) s):wpAny (model prog w) A (Builtin.Slice.sliceApplied (.ref sl) (pure (n:Int))) Q E s:=by
 obtain⟨os,hos,hcs,hds⟩:=id hs;unfold Builtin.Slice.sliceApplied Builtin.Slice.sliceFields;refine ZA (ZA (ZBA hos hds (x:=vl) rfl (ZA (ZBA hos hds (x:=vu) rfl (ZA (ZBA hos hds (x:=.none) rfl (ZB ?_)))))));refine ZA (slicePart_none ?_);show wpAny _ _ (if ((1:Int) == 0)=true then _ else _) _ _ s;rw[if_neg (by decide)];refine ZA (LY pl (ZA (LY pu (ZA (ZB ?_)))));show wpAny _ _ (match Builtin.Slice.sliceAdjust lo hi 1 (n:Int) with | (lo,hi)=>pure (lo,(1:Int),Builtin.Slice.slicePlaces lo hi 1)) _ _ s;rw[TN lo hi n];show wpAny _ _ (pure (((sIx n 0 lo:Nat):Int),(1:Int),Builtin.Slice.slicePlaces ((sIx n 0 lo:Nat):Int) ((sIx n n hi:Nat):Int) 1)) _ _ s;rw[QV];exact ZB h
theorem Pr(xs:Array Value)(i k:Nat):((List.range k).filterMap fun(m:Nat)=>xs[((i:Int)+(m:Int) * 1).toNat]?).toArray=((xs.toList.drop i).take k).toArray:=by
 have e:(fun(m:Nat)=>xs[((i:Int)+(m:Int) * 1).toNat]?)=fun m=>xs[i+m]?:=by
  funext m
  have:((i:Int)+(m:Int) * 1).toNat=i+m:=by lia
  rw[this]
 rw[e]
 have:=pick_run xs i k
 rw[List.filterMap_map]at this;have e2:((fun x=>xs[x]?) ∘ fun x=>i+x)=fun m=>xs[i+m]?:=rfl
 rw[e2]at this;rw[this]
theorem getItem_tuple_cut {t sl:Addr} {items:Array Value} {vl vu:Value} {lo hi:Option Int} {Q:Value->Shared->Prop} (ht:IsTup s.heap t items) (hs:s.heap.IsSliceOf sl vl vu .none) (pl:IsPart vl lo) (pu:IsPart vu hi)
 (hw:¬(sIx items.size 0 lo=0/\sIx items.size items.size hi=items.size))
 (h:Q (.ref s.heap.objs.size) { s with heap:=s.heap.push { cls:=.type "tuple",data:=.seq ((items.toList.drop (sIx items.size 0 lo)).take (sIx items.size items.size hi - sIx items.size 0 lo)).toArray } })
 (hsz:items.size<=sizeLine):wpAny (model prog w) A (getItem (.ref t) (.ref sl)) Q E s:=by
 have htake:sizeOk (.seq ((items.toList.drop (sIx items.size 0 lo)).take (sIx items.size items.size hi - sIx items.size 0 lo)).toArray):=by
  show((items.toList.drop (sIx items.size 0 lo)).take (sIx items.size items.size hi - sIx items.size 0 lo)).toArray.size<=sizeLine
  rw[ZI,Ze,ZBK,Zg];lia
 have hj:sIx items.size items.size hi<=items.size:=UG _ _ (ZD _) hi;obtain⟨os,hos,hcs,hds⟩:=id hs;have hTs:s.TypeIs (.ref sl) "slice":=⟨os,hos,hcs⟩;unfold getItem
 try with_reducible refine Zh ?_
 first | refine ZA (ZB ?_) | skip
 refine ZA (wpAny_sequenceKey ht.typeIs (by decide) ?_)
 refine ZA (wpAny_callSpecial?_slot (name:=Str.ofString "__getitem__") ht.typeIs PyProof.Rows.slot_tuple_getitem
  (Z1 PyProof.Rows.slot_tuple_getitem ht.typeIs entry_tuple_getitem ?_ (args_tuple_getitem _ _)))
 show wpAny _ _ (Builtin.Tuple.tupleItemsOf (.ref t) >>= _) _ _ s;refine ZA (tupleItemsOf_ ht ?_);refine ZA (wpAny_typeOf hTs ?_);rw[if_pos (by decide)];refine ZA (NY hs pl pu ?_)
 have hno:¬((((sIx items.size 0 lo:Nat):Int) == 0 && (1:Int) == 1 && (sIx items.size items.size hi - sIx items.size 0 lo) == items.size)=true):=by
  intro q;rw[Zb,Zb]at q;have q1:((sIx items.size 0 lo:Nat):Int)=0:=eq_of_beq q.1.1;have q2:sIx items.size items.size hi - sIx items.size 0 lo=items.size:=eq_of_beq q.2;exact hw ⟨by lia,by lia⟩
 show wpAny _ _ (if (((sIx items.size 0 lo:Nat):Int) == 0 && (1:Int) == 1 && (sIx items.size items.size hi - sIx items.size 0 lo) == items.size)=true then _ else _) _ _ s;rw[if_neg hno,Pr]
 first
  | exact ZA (m:=Builtin.Tuple.tupleExact _) (Zr (ZB ⟨_,rfl,ZB h⟩) htake)
  | exact ZA (m:=Builtin.Tuple.tupleExact _) (Zr (ZA (ZB (ZB ⟨_,rfl,ZB h⟩))) htake)
  | exact ZA (ZA (m:=Builtin.Tuple.tupleExact _) (Zr (ZB (ZB ⟨_,rfl,ZB h⟩)) htake))
  | exact ZA (ZA (m:=Builtin.Tuple.tupleExact _) (Zr (ZB ⟨_,rfl,ZB h⟩) htake))
end
end HT
namespace L2
open PySem PySem.Spec PyProof.Rows
variable {x:V}
abbrev TO:=St->Hp->(Option Int->Hp->Prop)->Prop
def PO(X:Cx)(e:Option Expr)(t:TO):Prop :=
 ∀(pins:List (Addr × Obj)) (s:Shared) (σ:St) (H:Hp) (Q:Option Int->Hp->Prop),Inv X pins σ H s->t σ H Q ->
  wpAny (model X.prog X.w) X.A (evalPart e X.env) (fun u s'=>∃o H',Inv X pins σ H' s'/\IsPart u o/\Q o H') X.xe s
def LS:TO:=fun _ H Q=>Q none H
def Li(t:TE):TO:=fun σ H Q=>t σ H fun x H1=>∃i,x=.int i/\Q (some i) H1
theorem EH{ns:List Int}:∀{us:List Value},Vals (ns.map V.int) us->IntsAre us ns:=by
 induction ns with
 | nil=>intro us r;rw[List.map_nil]at r;cases r;exact .nil
 | cons n ns ih =>
  intro us r;rw[Zi]at r;cases r with
  | cons r1 r2 =>
   obtain⟨t,e⟩:=r1;subst e;exact .cons n t (ih r2)
section
variable {X:Cx}{e:Expr}{te:TE}{lo hi:Option Expr}{tl th:TO}{pos p2:Pos}
theorem Fh:PO X none LS:=by
 intro pins s σ H Q I h;rw[evalPart_none];exact ZB ⟨none,H,I,.none,h⟩
theorem FJ(h:PE X e te):PO X (some e) (Li te):=by
 intro pins s σ H Q I hw;rw[evalPart_some];refine thn (h pins s σ H _ I hw) fun u s1 ⟨x,H1,I1,r1,q1⟩=>?_
 obtain⟨i,rfl,q⟩:=q1;obtain⟨t,rfl⟩:=r1;exact⟨some i,H1,I1,.int i t,q⟩
def SlR(X:Cx)(r:V->Option Int->Option Int->Hp->VK->Prop):Prop :=
 ∀(pins:List (Addr × Obj)) (s:Shared) (σ:St) (H:Hp) (x:V) (v vl vu:Value) (lo hi:Option Int) (sl:Addr) (Q:VK),Inv X pins σ H s->RelV x v->s.heap.IsSliceOf sl vl vu .none->IsPart vl lo->IsPart vu hi->r x lo hi H Q ->
  ∃T id,typeLookup (.type T) "__getitem__" = pure (some (.builtin id))/\s.TypeIs v T/\wpAny (model X.prog X.w) X.A (getItem v (.ref sl)) (EP X pins σ Q) X.xe s
def tSl(r:V->Option Int->Option Int->Hp->VK->Prop)(te:TE)(tl th:TO):TE:=fun σ H Q=>te σ H fun x H1=>tl σ H1 fun l H2=>th σ H2 fun u H3=>r x l u H3 Q
theorem Mp{r:V->Option Int->Option Int->Hp->VK->Prop}(hr:SlR X r)(he:PE X e te)(hl:PO X lo tl)(hu:PO X hi th):PE X (.Subscript e (.Slice lo hi none p2) pos) (tSl r te tl th):=by
 intro pins s σ H Q I h;refine Subscript_ (thn (he pins s σ H _ I h) fun v s1 ⟨x,H1,I1,r1,q1⟩=>?_);refine wpAny_Slice (thn (hl pins s1 σ H1 _ I1 q1) fun vl s2 ⟨l,H2,I2,pl,q2⟩=>thn (hu pins s2 σ H2 _ I2 q2) fun vu s3 ⟨u,H3,I3,pu,q3⟩=>?_);rw[evalPart_none];refine ZB ?_;have I4:Inv X pins σ H3 { s3 with heap:=s3.heap.push { cls:=.type "slice",data:=.fields #[vl,vu,.none] } }:=I3.kept (t':=s3.toks) fun b ob q=>ZH _ q
 obtain⟨T,id,hT,ht,hg⟩:=hr pins { s3 with heap:=s3.heap.push { cls:=.type "slice",data:=.fields #[vl,vu,.none] } } σ H3 x v vl vu l u s3.heap.objs.size Q I4 r1 (Heap.IsSliceOf.new ..) pl pu q3;show wpAny (model X.prog X.w) X.A (subscriptTail e (.Slice lo hi none p2) v (.ref s3.heap.objs.size)) (EP X pins σ Q) X.xe { s3 with heap:=s3.heap.push { cls:=.type "slice",data:=.fields #[vl,vu,.none] } };exact tail_any (ops:=[.ref s3.heap.objs.size,v]) ht hT hg (by with_unfolding_all rfl)
def BO(xs:List V)(lo hi:Option Int):List V:=(xs.drop (HT.sIx xs.length 0 lo)).take (HT.sIx xs.length xs.length hi - HT.sIx xs.length 0 lo)
theorem Nc(xs:List V)(lo hi:Option Int):(BO xs lo hi).length<=xs.length:=by
 unfold BO;rw[Ze,ZBK];lia
def Qj(K:W.Frag):V->Option Int->Option Int->Hp->VK->Prop:=fun x lo hi H Q=>∃a xs,x=.ref a/\SqT K H a xs /\
 ¬(HT.sIx xs.length 0 lo=0/\HT.sIx xs.length xs.length hi=xs.length)/\∀p,H p=none->Q (.ref p) (upd H p (.tup (BO xs lo hi)))
theorem NA:SlR X (Qj X.K):=by
 intro pins s σ H x v vl vu lo hi sl Q I rx hs pl pu h;obtain⟨a,xs,rfl,hx,hw,q⟩:=h;cases rx;obtain⟨its,r,ht,hz⟩:=I.tuple hx;have hlen:its.toArray.size=xs.length:=by rw[ZI];exact r.length.symm
 refine⟨"tuple",_,PyProof.Rows.slot_tuple_getitem.lookup,ht.typeIs,?_⟩;refine HT.getItem_tuple_cut ht hs pl pu (by rw[hlen];exact hw) ?_ (by rw[hlen];exact hz);rw[hlen];refine⟨.ref s.heap.objs.size,_,I.laid (t':=s.toks) (o:=.tup (BO xs lo hi)) (fun b ob q=>ZH _ q) (ZD _) ?_,rfl,q _ (I.hok.fresh (ZD _))⟩;exact⟨Zf (Nc xs lo hi) hz,_,(r.drop (HT.sIx xs.length 0 lo)).take (HT.sIx xs.length xs.length hi - HT.sIx xs.length 0 lo),IsTupN.new _ _⟩
def J9(K:W.Frag):R2:=fun x y H Q=>∃a b xs ys,x=.ref a/\y=.ref b/\SqT K H a xs/\SqT K H b ys/\xs≠[]/\xs.length+ys.length<=sizeLine /\
 (ys=[]->Q (.ref a) H)/\(ys≠[]->∀p,H p=none->Q (.ref p) (upd H p (.tup (xs++ys))))
theorem Vals.nil_iff{xs:List V}{us:List Value}(r:Vals xs us):us=[] ↔ xs=[]:=by
 cases r with
 | nil=>simp
 | cons _ _=>simp
theorem NW:OpR X (binaryOp .Add) (J9 X.K):=by
 intro pins s σ H x y v u Q I rx ry h;obtain⟨a,b,xs,ys,rfl,rfl,ha,hb,hx,hz,q1,q2⟩:=h;cases rx;cases ry;obtain⟨its,r1,p1,_⟩:=I.tuple ha;obtain⟨its2,r2,p2,_⟩:=I.tuple hb;refine HT.cat_tup p1 p2 (fun z=>hx (r1.nil_iff.mp z)) (fun z=>⟨.ref a,H,I,rfl,q1 (r2.nil_iff.mp z)⟩) (fun z=>?_) (by rw[<- r1.length,<- r2.length];exact hz);refine⟨.ref s.heap.objs.size,_,I.laid (t':=s.toks) (o:=.tup (xs++ys)) (fun b ob q=>ZH _ q) (ZD _) ?_,rfl,q2 (fun w=>z (r2.nil_iff.mpr w)) _ (I.hok.fresh (ZD _))⟩;exact⟨by rw[ZL];exact hz,_,r1.append r2,IsTupN.new _ _⟩
end
def ixN(n:Nat)(i:Int):Option Nat:=if 0<=i then (if i < n then some i.toNat else none) else if -(n:Int)<=i then some (i+n).toNat else none
def atI{α:Type}(xs:List α)(i:Int):Option α:=(ixN xs.length i).bind fun j=>xs[j]?
theorem Jm{n:Nat}{i:Int}{j:Nat}(h:ixN n i=some j):seqIndex? i n=some j/\j < n /\ -(n:Int)<=i/\i < n:=by
 unfold ixN at h
 by_cases h0:0<=i
 ·rw[if_pos h0]at h
  by_cases h1:i < n
  ·rw[if_pos h1]at h;have e:i.toNat=j:=ZV h;exact⟨by rw[seqIndex_of h0 h1,e],by lia,by lia,h1⟩
  ·rw[if_neg h1]at h;cases h
 ·rw[if_neg h0]at h
  by_cases h1 : -(n:Int)<=i
  ·rw[if_pos h1]at h;have e:(i+n).toNat=j:=ZV h;exact⟨by rw[seqIndex_neg (by lia) h1,e],by lia,h1,by lia⟩
  ·rw[if_neg h1]at h;cases h
theorem JH{α:Type}{xs:List α}{i:Int}{v:α}(h:atI xs i=some v):∃j,seqIndex? i xs.length=some j/\xs[j]? = some v/\j < xs.length /\ -(xs.length:Int)<=i/\i < xs.length:=by
 unfold atI at h;cases e:ixN xs.length i with
 | none=>rw[e]at h;cases h
 | some j =>
  rw[e]at h;obtain⟨h1,h2,h3,h4⟩:=Jm e;exact⟨j,h1,h,h2,h3,h4⟩
def Ik(b:Expr):Prop:=∀o i,subscripted b false o i=operate [o,i] (getItem o i)
def IxR(X:Cx)(r:R2):Prop :=
 ∀(value slice:Expr) (pins:List (Addr × Obj)) (s:Shared) (σ:St) (H:Hp) (x y:V) (v u:Value) (Q:VK),Inv X pins σ H s->RelV x v->RelV y u->r x y H Q ->
  subscripted slice false v u=operate [v,u] (getItem v u)->wpAny (model X.prog X.w) X.A (subscriptTail value slice v u) (EP X pins σ Q) X.xe s
def MtR(X:Cx)(id:String)(r:V->List V->Hp->VK->Prop):Prop :=
 ∀(pins:List (Addr × Obj)) (s:Shared) (σ:St) (H:Hp) (x:V) (xs:List V) (v:Value) (us:List Value) (Q:VK),Inv X pins σ H s->RelV x v->Vals xs us->r x xs H Q ->
  wpAny (model X.prog X.w) X.A (call (.builtin id) (v::us)) (EP X pins σ Q) X.xe s
section
variable {X:Cx}{a b:Expr}{ta tb:TE}{pos:Pos}
theorem IxR.or{r r':R2}(h:IxR X r)(h':IxR X r'):IxR X (fun x y H Q=>r x y H Q\/r' x y H Q):=by
 intro value slice pins s σ H x y v u Q I rx ry q hs
 rcases q with q | q
 ·exact h value slice pins s σ H x y v u Q I rx ry q hs
 ·exact h' value slice pins s σ H x y v u Q I rx ry q hs
theorem O7{r:R2}(hr:IxR X r)(ha:PE X a ta)(hb:PE X b tb)(hs:Ik b):PE X (.Subscript a b pos) (tOp r ta tb):=by
 intro pins s σ H Q I h;exact Subscript_ (HF ha hb I h fun v u s2 x y H2 I2 rx ry q=>hr a b pins s2 σ H2 x y v u Q I2 rx ry q (hs _ _))
def NQ(K:W.Frag):R2:=fun x y H Q=>∃p xs i v,x=.ref p/\y=.int i/\SqL K H p xs/\atI xs i=some v/\Q v H
def Np(K:W.Frag):R2:=fun x y H Q=>∃p xs i v,x=.ref p/\y=.int i/\SqT K H p xs/\atI xs i=some v/\Q v H
def MD:R2:=fun x y H Q=>∃z i c,x=.str z/\y=.int i/\z.length<=sizeLine/\atI z.cps.toList i=some c/\Q (.str ⟨#[c]⟩) H
theorem ix_list:IxR X (NQ X.K):=by
 intro value slice pins s σ H x y v u Q I rx ry h hs;obtain⟨p,xs,i,z,rfl,rfl,hq,he,q⟩:=h;cases rx;obtain⟨t,rfl⟩:=ry;obtain⟨its,r,pl,hz⟩:=I.list hq;obtain⟨j,h1,h2,h3,h4,h5⟩:=JH he;obtain⟨w,ew,rw'⟩:=r.get h2;have hl:=r.length;have hn:=Da;have fin:EP X pins σ Q w s:=⟨z,H,I,rw',q⟩
 by_cases h0:0<=i
 ·have hj:i.toNat=j:=by
   rw[seqIndex_of h0 h5]at h1;exact ZV h1
  exact item_listR pl.isList h0 (by lia) (by rw[hj];simpa using ew) fin hs
 ·have hj:(i+(its.toArray.size:Int)).toNat=j:=by
   rw[seqIndex_neg (by lia) h4]at h1;rw[ZI,<- hl];exact ZV h1
  exact subscriptTail_builtinR (x:=w) pl.isList.typeIs slot_list_getitem.lookup
   (wpAny_getItem_list_neg (Q:=fun r s'=>r=w/\EP X pins σ Q r s') pl.isList (by lia) (by rw[ZI] <;> lia) (by lia) (by rw[hj];simpa using ew) ⟨rfl,fin⟩) hs
theorem ix_tup:IxR X (Np X.K):=by
 intro value slice pins s σ H x y v u Q I rx ry h hs;obtain⟨p,xs,i,z,rfl,rfl,hq,he,q⟩:=h;cases rx;obtain⟨t,rfl⟩:=ry;obtain⟨its,r,pl,hz⟩:=I.tuple hq;obtain⟨j,h1,h2,h3,h4,h5⟩:=JH he;obtain⟨w,ew,rw'⟩:=r.get h2;have hl:=r.length;have hn:=Da;have fin:EP X pins σ Q w s:=⟨z,H,I,rw',q⟩
 exact subscriptTail_builtinR (x:=w) pl.typeIs slot_tuple_getitem.lookup
  (getItem_tuple (j:=j) (Q:=fun r s'=>r=w/\EP X pins σ Q r s') pl (by lia) (by lia) (by rw[ZI,<- hl];exact h1) (by simpa using ew) ⟨rfl,fin⟩) hs
theorem Uw:IxR X MD:=by
 intro value slice pins s σ H x y v u Q I rx ry h hs;obtain⟨z,i,c,rfl,rfl,hz,he,q⟩:=h;obtain⟨t,rfl⟩:=rx;obtain⟨t',rfl⟩:=ry;obtain⟨j,h1,h2,h3,h4,h5⟩:=JH he;have hl:z.cps.toList.length=z.length:=by simp[Str.length]
 rw[hl]at h1 h4 h5;have hn:=Da
 exact tail_any (typeIs_str s z t) slot_str_getitem.lookup (getItem_str (c:=c) (by
  have e1:decide (i < -(2 ^ 63:Int))=false:=Zy (by lia);have e2:decide (i ≥ 2 ^ 63)=false:=Zy (by lia);rw[e1,e2,Bool.or_false]) (by rw[h1];simpa using h2) ⟨.str ⟨#[c]⟩,H,I.tok _,⟨_,rfl⟩,q⟩) hs
def rIx(K:W.Frag):R2:=fun x y H Q=>NQ K x y H Q\/Np K x y H Q\/MD x y H Q
theorem ix_seq:IxR X (rIx X.K):=ix_list.or (ix_tup.or Uw)
theorem Oq(its:List Value)(n j:Nat)(u:Value):Obj.mapSeq (·.setIfInBounds j u) { cls:=.type "list",data:=.seq its.toArray n } = { cls:=.type "list",data:=.seq (its.set j u).toArray n }:=by
 simp[Obj.mapSeq]
theorem Inv.lst{pins:List (Addr × Obj)}{σ:St}{H:Hp}{s:Shared}{p:Addr}{xs:List V}(I:Inv X pins σ H s)(h:H p=some (.lst xs)) :
 ∃(its:List Value) (n:Nat),Vals xs its/\s.heap.get? p=some { cls:=.type "list",data:=.seq its.toArray n } /\ xs.length<=sizeLine:=by
 obtain⟨z,its,n,r,e⟩:=I.hok p _ h;exact⟨its,n,r,e,z⟩
theorem Inv.lstUpd {pins:List (Addr × Obj)} {σ:St} {H:Hp} {s:Shared} {p:Addr} {xs ys:List V} {its its':List Value} {n n':Nat} {f:Obj->Obj} (I:Inv X pins σ H s) (h:H p=some (.lst xs))
 (ho:s.heap.get? p=some { cls:=.type "list",data:=.seq its.toArray n }) (hf:f { cls:=.type "list",data:=.seq its.toArray n } = { cls:=.type "list",data:=.seq its'.toArray n' }) (r:Vals ys its') (hz:ys.length<=sizeLine) (t:Nat) :
 Inv X pins σ (upd H p (.lst ys)) { s with heap:=s.heap.update p f,toks:=t }:=by
 have e:(s.heap.update p f).get? p=some { cls:=.type "list",data:=.seq its'.toArray n' }:=by
  rw[ZBP f ho (by rw[hf] <;> rfl),hf]
 refine I.write (x:=p) (e:=p) (by rw[h];trivial) (.inl rfl) (fun b u hb q=>(Z5 _ _ (Ne.symm hb)).trans q) ⟨_,e⟩ ?_;exact⟨hz,its',n',r,e⟩
def RX:V->V->V->Hp->(Hp->Prop)->Prop:=fun o i v H Q=>∃p xs k j,o=.ref p/\i=.int k/\H p=some (.lst xs)/\ixN xs.length k=some j/\Q (upd H p (.lst (xs.set j v)))
theorem P0:II X RX:=by
 intro pins s σ H o i v ov iv u Q I ro ri rv h;obtain⟨p,xs,k,j,rfl,rfl,hp,hj,q⟩:=h;cases ro;obtain⟨t,rfl⟩:=ri;obtain⟨its,n,r,ho,hz⟩:=I.lst hp;obtain⟨h1,h2,h3,h4⟩:=Jm hj;have hl:=r.length;have hn:=Da
 have I':Inv X pins σ (upd H p (.lst (xs.set j v))) { s with heap:=s.heap.update p (Obj.mapSeq (·.setIfInBounds j u)) } :=
  I.lstUpd hp ho (Oq its n j u) (r.set rv j) (by rw[ZBW];exact hz) s.toks
 by_cases h0:0<=k
 ·have hk:k.toNat=j:=by
   rw[seqIndex_of h0 h4]at h1;exact ZV h1
  exact PySem.W.ki_setAt ho h0 (by lia) (by rw[ZI,<- hl];exact h4) (by rw[hk];exact⟨_,I',q⟩)
 ·have hk:(k+(its.toArray.size:Int)).toNat=j:=by
   rw[seqIndex_neg (by lia) h3]at h1;rw[ZI,<- hl];exact ZV h1
  exact PySem.W.ki_setBack ho (by lia) (by rw[ZI,<- hl];exact h3) (by lia) (by rw[hk];exact⟨_,I',q⟩)
theorem Qb(lo hi:Option Int)(n:Nat):(sliceBounds lo hi none n).1=((HT.sIx n 0 lo:Nat):Int)/\(sliceBounds lo hi none n).2.1=((HT.sIx n n hi:Nat):Int)/\(sliceBounds lo hi none n).2.2=1:=by
 refine⟨?_,?_,rfl⟩
 ·cases lo with
  | none=>simp[sliceBounds,HT.sIx]
  | some i =>
   simp only[sliceBounds,HT.sIx,Option.getD_none,show(1:Int) > 0 by decide,if_true]
   by_cases h:i < 0
   ·simp only[h,if_true] <;> lia
   ·simp only[h,if_false] <;> lia
 ·cases hi with
  | none=>simp[sliceBounds,HT.sIx]
  | some i =>
   simp only[sliceBounds,HT.sIx,Option.getD_none,show(1:Int) > 0 by decide,if_true]
   by_cases h:i < 0
   ·simp only[h,if_true] <;> lia
   ·simp only[h,if_false] <;> lia
theorem Vg(its:List Value)(lo hi:Option Int):slicePick its.toArray lo hi none=((its.drop (HT.sIx its.length 0 lo)).take (HT.sIx its.length its.length hi - HT.sIx its.length 0 lo)).toArray:=by
 obtain⟨h1,h2,h3⟩:=Qb lo hi its.toArray.size;unfold slicePick;rw[h1,h2,h3];simp only[sliceRange_one,pick_run,ZI] <;> rfl
def OY(K:W.Frag):V->Option Int->Option Int->Hp->VK->Prop:=fun x lo hi H Q=>∃a xs,x=.ref a/\SqL K H a xs/\∀p,H p=none->Q (.ref p) (upd H p (.lst (BO xs lo hi)))
theorem Ow:SlR X (OY X.K):=by
 intro pins s σ H x v vl vu lo hi sl Q I rx hs pl pu h;obtain⟨a,xs,rfl,hx,q⟩:=h;cases rx;obtain⟨its,r,ht,hz⟩:=I.list hx;have hlen:=r.length;refine⟨"list",_,slot_list_getitem.lookup,ht.isList.typeIs,?_⟩;refine wpAny_getItem_list_slice ht.isList hs pl pu .none (by simp) ?_ (by rw[ZI] <;> lia);rw[Vg,<- hlen];refine⟨.ref s.heap.objs.size,_,I.laid (t':=s.toks) (o:=.lst (BO xs lo hi)) (fun b ob q=>ZH _ q) (ZD _) ?_,rfl,q _ (I.hok.fresh (ZD _))⟩;exact⟨Zf (Nc xs lo hi) hz,_,0,(r.drop (HT.sIx xs.length 0 lo)).take (HT.sIx xs.length xs.length hi - HT.sIx xs.length 0 lo),ZN _ rfl⟩
def BY:V->Bool
 | .non=>true
 | .bl _=>true
 | .int _=>true
 | .str _=>true
 | _=>false
def eqV:V->V->Bool
 | .non,.non=>true
 | .bl a,.bl b=>a == b
 | .bl a,.int b=>(if a then 1 else 0) == b
 | .int a,.bl b=>a == (if b then 1 else 0)
 | .int a,.int b=>a == b
 | .str a,.str b=>a == b
 | _,_=>false
theorem T5{A:Around}{s:Shared}{y:V}{u v:Value}(ry:RelV y u)(rx:RelV x v)(fy:BY y=true)(fx:BY x=true):SeqAt.EqAt A s u v (eqV y x):=by
 cases y with
 | non =>
  cases ry;cases x with
  | non=>cases rx;exact SeqAt.EqAt.same _
  | bl b=>cases rx;exact SeqAt.EqAt.none_bool b
  | int b=>obtain⟨t,rfl⟩:=rx;exact SeqAt.EqAt.none_int b t
  | str b=>obtain⟨t,rfl⟩:=rx;exact SeqAt.EqAt.none_str b t
  | _=>exact absurd (show false=true from fx) Zq
 | bl a =>
  cases ry;cases x with
  | non=>cases rx;exact SeqAt.EqAt.bool_none a
  | bl b=>cases rx;exact SeqAt.EqAt.bool_bool a b
  | int b=>obtain⟨t,rfl⟩:=rx;exact SeqAt.EqAt.bool_int a b t
  | str b=>obtain⟨t,rfl⟩:=rx;exact SeqAt.EqAt.bool_str a b t
  | _=>exact absurd (show false=true from fx) Zq
 | int a =>
  obtain⟨t',rfl⟩:=ry;cases x with
  | non=>cases rx;exact SeqAt.EqAt.int_none a t'
  | bl b=>cases rx;exact SeqAt.EqAt.int_bool a t' b
  | int b=>obtain⟨t,rfl⟩:=rx;exact SeqAt.EqAt.int_int a t' b t
  | str b=>obtain⟨t,rfl⟩:=rx;exact SeqAt.EqAt.int_str a t' b t
  | _=>exact absurd (show false=true from fx) Zq
 | str a =>
  obtain⟨t',rfl⟩:=ry;cases x with
  | non=>cases rx;exact SeqAt.EqAt.str_none a t'
  | bl b=>cases rx;exact SeqAt.EqAt.str_bool a t' b
  | int b=>obtain⟨t,rfl⟩:=rx;exact SeqAt.EqAt.str_int a t' b t
  | str b=>obtain⟨t,rfl⟩:=rx;exact SeqAt.EqAt.str_str a t' b t
  | _=>exact absurd (show false=true from fx) Zq
 | _=>exact absurd (show false=true from fy) Zq
def eqU(x:V)(u:Value):Bool:=match u with
 | .none=>eqV .non x
 | .bool b=>eqV (.bl b) x
 | .int i _=>eqV (.int i) x
 | .str z _=>eqV (.str z) x
 | _=>false
theorem JA{y:V}{u:Value}(r:RelV y u)(f:BY y=true):eqU x u=eqV y x:=by
 cases y with
 | non=>cases r;rfl
 | bl b=>cases r;rfl
 | int i=>obtain⟨t,rfl⟩:=r;rfl
 | str z=>obtain⟨t,rfl⟩:=r;rfl
 | _=>exact absurd (show false=true from f) Zq
theorem Ed:∀{xs:List V} {us:List Value},Vals xs us->xs.all BY=true->us.any (eqU x)=xs.any fun y=>eqV y x
 | _,_,.nil,_=>rfl
 | y::xs,u::us,.cons r t,f=>by
  rw[List.all_cons,Zb]at f;rw[ZBG,ZBG,JA r f.1,Ed t f.2]
theorem Du{A:Around}{s:Shared}{v:Value}(rx:RelV x v)(fx:BY x=true):∀{xs:List V} {us:List Value},Vals xs us->xs.all BY=true->∀u∈us,SeqAt.EqAt A s u v (eqU x u)
 | _,_,.nil,_=>fun u hu=>by cases hu
 | y::xs,u::us,.cons r t,f=>fun u' hu=>by
  rw[List.all_cons,Zb]at f
  rcases ZF.mp hu with rfl | hu
  ·rw[JA r f.1];exact T5 r rx f.1 fx
  ·exact Du rx fx t f.2 u' hu
def inV(x:V)(xs:List V):Bool:=xs.any fun y=>eqV y x
def rIn(K:W.Frag)(neg:Bool):R2:=fun x y H Q=>∃p xs,y=.ref p/\(SqL K H p xs\/SqT K H p xs)/\BY x=true/\xs.all BY=true/\Q (.bl (if neg then !inV x xs else inV x xs)) H
theorem To:OpR X (compareOp .In) (rIn X.K false):=by
 intro pins s σ H x y v u Q I rx ry h;obtain⟨p,xs,rfl,hq,fx,fs,q⟩:=h;cases ry
 rcases hq with hq | hq
 ·obtain⟨its,r,pl,hz⟩:=I.list hq;refine SeqAt.in_listAt (eqU x) pl.isList (fun w hw=>Du rx fx r fs w (by simpa using hw)) ⟨.bl _,H,I,rfl,?_⟩;rw[show its.toArray.any (eqU x)=its.any (eqU x) by simp,Ed r fs];exact q
 ·obtain⟨its,r,pl,hz⟩:=I.tuple hq;refine SeqAt.in_tupleAt (eqU x) pl (fun w hw=>Du rx fx r fs w (by simpa using hw)) ⟨.bl _,H,I,rfl,?_⟩;rw[show its.toArray.any (eqU x)=its.any (eqU x) by simp,Ed r fs];exact q
theorem Pi:OpR X (compareOp .NotIn) (rIn X.K true):=by
 intro pins s σ H x y v u Q I rx ry h;obtain⟨p,xs,rfl,hq,fx,fs,q⟩:=h;cases ry
 rcases hq with hq | hq
 ·obtain⟨its,r,pl,hz⟩:=I.list hq;refine SeqAt.notIn_listAt (eqU x) pl.isList (fun w hw=>Du rx fx r fs w (by simpa using hw)) ⟨.bl _,H,I,rfl,?_⟩;rw[show its.toArray.any (eqU x)=its.any (eqU x) by simp,Ed r fs];exact q
 ·obtain⟨its,r,pl,hz⟩:=I.tuple hq;refine SeqAt.notIn_tupleAt (eqU x) pl (fun w hw=>Du rx fx r fs w (by simpa using hw)) ⟨.bl _,H,I,rfl,?_⟩;rw[show its.toArray.any (eqU x)=its.any (eqU x) by simp,Ed r fs];exact q
theorem call_list_of:CallR X (.type "list") (fun xs H Q=>∃p ys,xs=[.ref p]/\(SqL X.K H p ys\/SqT X.K H p ys)/\∀l,H l=none->Q (.ref l) (upd H l (.lst ys))):=by
 intro pins s σ H xs us Q I r h;obtain⟨p,ys,rfl,hq,q⟩:=h;obtain⟨u,rfl,rx⟩:=Bb r;cases rx
 have fin:∀(its:List Value),Vals ys its->ys.length<=sizeLine->∀(h':Heap) (c':Nat),(∀b o',s.heap.get? b=some o'->h'.get? b=some o') ->
  h'.get? s.heap.objs.size=some { cls:=.type "list",dict:=none,data:=.seq its.toArray c',slots:=#[] } -> EP X pins σ Q (.ref s.heap.objs.size) { s with heap:=h' }:=fun its r' hz h' c' kp e =>
  ⟨.ref s.heap.objs.size,_,I.laid (t':=s.toks) kp (ZD _) (show ObjOk X.prog X.w _ h' _ (.lst ys) from⟨hz,its,c',r',e⟩),rfl,q _ (I.hok.fresh (ZD _))⟩
 rcases hq with hq | hq
 ·obtain⟨its,r',pl,hz⟩:=I.list hq;have hlen:=r'.length;obtain⟨o,ho,hc,n,hd⟩:=pl.isList;exact call_list_seq p (.inl rfl) ho hc hd (fun h' c' kp e=>fin its r' hz h' c' kp e) (by simp only[ZI] <;> lia)
 ·obtain⟨its,r',pl,hz⟩:=I.tuple hq;have hlen:=r'.length;obtain⟨o,ho,hc,n,hd⟩:=pl;exact call_list_seq p (.inr rfl) ho hc hd (fun h' c' kp e=>fin its r' hz h' c' kp e) (by simp only[ZI] <;> lia)
theorem call_tuple_of:CallR X (.type "tuple") (fun xs H Q=>∃p ys,xs=[.ref p]/\((SqL X.K H p ys/\∀l,H l=none->Q (.ref l) (upd H l (.tup ys)))\/(SqT X.K H p ys/\Q (.ref p) H))):=by
 intro pins s σ H xs us Q I r h;obtain⟨p,ys,rfl,h⟩:=h;obtain⟨u,rfl,rx⟩:=Bb r;cases rx
 rcases h with ⟨hq,q⟩ | ⟨hq,q⟩
 ·obtain⟨its,r',pl,hz⟩:=I.list hq;have hlen:=r'.length;refine call_tuple_list pl.isList (fun h' kp=>?_) (by simp only[ZI] <;> lia);have I1:Inv X pins σ H { s with heap:=h' }:=I.kept (t':=s.toks) kp
  have I2:Inv X pins σ (upd H h'.objs.size (.tup ys)) { s with heap:=h'.push { cls:=.type "tuple",data:=.seq its.toArray } } :=
   I1.laid (t':=s.toks) (fun b o e=>ZH _ e) (ZD _) (show ObjOk X.prog X.w _ _ _ (.tup ys) from⟨hz,its,r',IsTupN.new _ _⟩)
  exact⟨.ref h'.objs.size,_,I2,rfl,q _ (I1.hok.fresh (ZD _))⟩
 ·obtain⟨its,r',pl,hz⟩:=I.tuple hq;exact call_tuple_same pl ⟨.ref p,H,I,rfl,q⟩
def tyV(K:W.Frag)(T:String)(x:V)(H:Hp):Prop:=match x with
 | .str _=>T = "str"
 | .int _=>T = "int"
 | .ref p=>(T = "list" /\ ∃xs,SqL K H p xs)\/(T = "tuple" /\ ∃o,K.lookup p=some o/\o.cls=.type "tuple" /\ o.dict=none) \/
  (T = "dict" /\ ((∃kvs,H p=some (.dK kvs))\/∃kvs,H p=some (.dT kvs)))\/(T = "set" /\ ∃S n,H p=some (.set S n))
 | _=>False
theorem Km{pins:List (Addr × Obj)}{σ:St}{H:Hp}{s:Shared}{T:String}{v:Value}(I:Inv X pins σ H s)(r:RelV x v)(ty:tyV X.K T x H) :
 s.TypeIs v T/\∀a,v=.ref a->∃ob,s.heap.get? a=some ob/\ob.dict=none:=by
 cases x with
 | str z =>
  obtain⟨t,rfl⟩:=r;cases (show T = "str" from ty);exact⟨typeIs_str s z t,fun _ e=>nomatch e⟩
 | int i =>
  obtain⟨t,rfl⟩:=r;cases (show T = "int" from ty);exact⟨typeIs_int s i t,fun _ e=>nomatch e⟩
 | ref p =>
  cases r
  rcases ty with ⟨rfl,xs,hq⟩ | ⟨rfl,o,hk,hc,hd⟩ | ⟨rfl,hk⟩ | ⟨rfl,S,n,hk⟩
  ·obtain⟨its,_,pl,_⟩:=I.list hq;refine⟨pl.isList.typeIs,fun a e=>?_⟩;cases e;obtain⟨o,n,e,c,hd,_⟩:=pl;exact⟨o,e,hd⟩
  ·refine⟨⟨o,I.kIn p o hk,hc⟩,fun a e=>?_⟩;cases e;exact⟨o,I.kIn _ o hk,hd⟩
  ·have z:∃o,s.heap.get? p=some o/\o.ExactDict:=by
    rcases hk with ⟨kvs,hk⟩ | ⟨kvs,hk⟩
    ·obtain⟨_,_,_,_,o,_,_,e,ex,_⟩:=I.hok p _ hk;exact⟨o,e,ex⟩
    ·obtain⟨_,_,_,_,o,_,_,e,ex,_⟩:=I.hok p _ hk;exact⟨o,e,ex⟩
   obtain⟨o,e,ex⟩:=z;refine⟨⟨o,e,ex.1⟩,fun a e2=>?_⟩;cases e2;exact⟨o,e,ex.2.1⟩
  ·obtain⟨o,_,_,_,e,ex,_⟩:=I.hok p _ hk;refine⟨⟨o,e,ex.1⟩,fun a e2=>?_⟩;cases e2;exact⟨o,e,ex.2.1⟩
 | _=>exact False.elim ty
def Ju(K:W.Frag)(T:String)(r:V->List V->Hp->VK->Prop)(to:TE):TE:=fun σ H Q=>to σ H fun x H1=>tyV K T x H1/\r x [] H1 Q
def tBM(K:W.Frag)(T:String)(r:V->List V->Hp->VK->Prop)(to:TE)(t:TA):TE:=fun σ H Q=>to σ H fun x H1=>tyV K T x H1/\t σ H1 fun xs H2=>r x xs H2 Q
variable {o e:Expr}{es:List Expr}{to:TE}{t:TA}{name:Str}{apos cpos:Pos}{T id:String}{r:V->List V->Hp->VK->Prop}
theorem V6 (pa:PlainAttrs T) (slot:Slot T name id) (hty:typeOf (.builtin id)=pure (.type "method_descriptor")) (hm:MtR X id r) (ho:PE X o to)
 (hbase:attributeBase o name X.env (eval o X.env)=eval o X.env:=by rfl) (hline:(apos.endLine == cpos.line)=true:=by rfl):PE X (.Call (.Attribute o name apos) [] [] cpos) (Ju X.K T r to):=by
 intro pins s σ H Q I h;refine wpAny_Call_method0_late hbase hline (thn (ho pins s σ H _ I h) fun v s1 ⟨x,H1,I1,r1,ty,q1⟩=>?_);obtain⟨h1,h2⟩:=Km I1 r1 ty;exact⟨T,id,pa,slot,hty,h1,h2,Calls.callWith_builtin rfl (PySem.evalArgs_none (hm pins s1 σ H1 x [] v [] Q I1 r1 .nil q1))⟩
theorem Fl (pa:PlainAttrs T) (slot:Slot T name id) (hty:typeOf (.builtin id)=pure (.type "method_descriptor")) (hm:MtR X id r) (ho:PE X o to) (ha:PA X (e::es) t)
 (hbase:attributeBase o name X.env (eval o X.env)=eval o X.env:=by rfl)
 (hfew:((backTo cpos (starEach (e::es) X.env)).all (fun x=>!x.1) && (backToKw cpos (keywordEach [] X.env)).all (fun x=>x.1.isSome)
   && decide ((e::es).length+([]:List Keyword).length+(if ([]:List Keyword).isEmpty then 0 else 1) < 30))=true:=by rfl)
 (hline:(apos.endLine == cpos.line)=true:=by rfl) (hs:starEach (e::es) X.env=(false,eval e X.env)::starEach es X.env:=by rfl) (hplain:(backTo cpos (starEach es X.env)).any (·.1)=false:=by rfl) :
 PE X (.Call (.Attribute o name apos) (e::es) [] cpos) (tBM X.K T r to t):=by
 intro pins s σ H Q I h;refine wpAny_Call_method_late hbase hfew hline rfl (thn (ho pins s σ H _ I h) fun v s1 ⟨x,H1,I1,r1,ty,q1⟩=>?_);obtain⟨h1,h2⟩:=Km I1 r1 ty;refine⟨T,id,pa,slot,hty,h1,h2,?_⟩;have hA:=ha cpos pins s1 σ H1 _ I1 q1;rw[hs]at hA ⊢;refine Calls.callWith_builtin (by show(false || (backTo cpos (starEach es X.env)).any (·.1))=false;rw[hplain] <;> rfl) (Calls.evalArgs_plain ?_);exact thn hA fun us s2 ⟨vs,H2,I2,r2,q2⟩=>hm pins s2 σ H2 x vs v us Q I2 r1 r2 q2
end
def MtM(X:Cx)(id:String)(r:V->List V->Hp->VK->Prop):Prop :=
 ∀(pins:List (Addr × Obj)) (s:Shared) (σ:St) (H:Hp) (x:V) (xs:List V) (v:Value) (us:List Value) (Q:VK),Inv X pins σ H s->RelV x v->Vals xs us->r x xs H Q ->
  wpAny (model X.prog X.w) X.A (call (.builtin id) (v::us)) (EP X pins σ Q) X.xe s
theorem Vals.one:∀{x:V} {us:List Value},Vals [x] us->∃u,us=[u]/\RelV x u
 | _,_,.cons r .nil=>⟨_,rfl,r⟩
theorem Vals.zero:∀{us:List Value},Vals [] us->us=[]
 | _,.nil=>rfl
theorem Vals.reverse{xs:List V}{us:List Value}(h:Vals xs us):Vals xs.reverse us.reverse:=by
 induction h with
 | nil=>exact .nil
 | cons r t ih=>rw[ZBx,ZBx];exact Vals.append ih (.cons r .nil)
theorem Vals.rep{xs:List V}{us:List Value}(h:Vals xs us):∀k:Nat,Vals (List.replicate k xs).flatten (List.replicate k us).flatten
 | 0=>.nil
 | k+1=>by
  rw[ZBy,ZBy,List.flatten_cons,List.flatten_cons];exact Vals.append h (Vals.rep h k)
theorem M3(its:List Value):∀(k:Nat) (acc:List Value),
 List.foldl (fun x1 x2=>x1++x2) acc.toArray (List.replicate k its.toArray)=(acc++(List.replicate k its).flatten).toArray
 | 0,acc=>by simp
 | k+1,acc=>by
  have e:acc.toArray++its.toArray=(acc++its).toArray:=by simp
  have e2:(acc++its)++(List.replicate k its).flatten=acc++(List.replicate (k+1) its).flatten:=by
   rw[ZBy,List.flatten_cons,Z2]
  rw[<- e2,<- M3 its k (acc++its),<- e,ZBy,List.foldl_cons]
section
variable {X:Cx}{pins:List (Addr × Obj)}{σ:St}{H:Hp}{s:Shared}{l b:Addr}{xs ys zs:List V}
theorem Inv.lset {its its':List Value} {n:Nat} {f:Array Value->Array Value} {t':Nat} (I:Inv X pins σ H s) (hH:H l=some (.lst xs))
 (e:s.heap.get? l=some { cls:=.type "list",data:=.seq its.toArray n }) (hf:f its.toArray=its'.toArray) (hv:Vals ys its') (hz:ys.length<=sizeLine) :
 Inv X pins σ (upd H l (.lst ys)) { s with heap:=s.heap.update l (Obj.mapSeq f),toks:=t' }:=by
 have q:=PySem.IsL.update e f;rw[hf]at q;refine I.write (x:=l) (e:=l) (by rw[hH];exact trivial) (.inl rfl) (fun b' u hb hu=>(Z5 s.heap (Obj.mapSeq f) (Ne.symm hb)).trans hu) ⟨_,q⟩ ?_;exact⟨hz,its',_,hv,q⟩
theorem Inv.lnew{its:List Value}{t':Nat}(I:Inv X pins σ H s)(hv:Vals ys its)(hz:ys.length<=sizeLine) :
 Inv X pins σ (upd H s.heap.objs.size (.lst ys)) { s with heap:=s.heap.push { cls:=.type "list",data:=.seq its.toArray },toks:=t' } :=
 I.laid (fun _ _ q=>ZH _ q) (ZD _) ⟨hz,its,0,hv,ZN _ rfl⟩
theorem Inv.fresh(I:Inv X pins σ H s):H s.heap.objs.size=none:=I.hok.fresh (ZD _)
theorem Inv.lstM(I:Inv X pins σ H s)(hH:H l=some (.lst xs)):xs.length<=sizeLine/\∃(its:List Value) (n:Nat),Vals xs its/\xs.length=its.length/\s.heap.get? l=some { cls:=.type "list",data:=.seq its.toArray n }:=by
 obtain⟨z,its,n,r,e⟩:=I.hok l _ hH;exact⟨z,its,n,r,r.length,e⟩
theorem VM{n:Nat}(h:n<=sizeLine):Builtin.List.listTooLong n=false:=by
 unfold Builtin.List.listTooLong;exact Zy (by lia)
end
section
variable {X:Cx}
def WV:V->List V->Hp->VK->Prop:=fun x vs H Q=>∃l xs y,x=.ref l/\vs=[y]/\H l=some (.lst xs)/\xs.length < sizeLine/\Q .non (upd H l (.lst (xs++[y])))
theorem UY:MtM X "list.append" WV:=by
 intro pins s σ H x vs v us Q I rx rv h;obtain⟨l,xs,y,rfl,rfl,hH,hz,q⟩:=h;cases rx;obtain⟨u,rfl,ru⟩:=rv.one;obtain⟨z,its,n,r,hl,e⟩:=I.lstM hH;refine call_meets F.slot_list_append ⟨_,e,rfl⟩ F.entry_list_append (F.args_list_append_2 _ _) (PySem.list_append l its.toArray n u (by rw[ZI];lia)) ⟨e,?_⟩;refine⟨.non,_,I.lset (its':=its++[u]) hH e (by simp) (r.append (.cons ru .nil)) ?_,rfl,q⟩;rw[ZL,List.length_singleton];lia
def JG:R2:=fun x y H Q=>∃l b xs zs,x=.ref l/\y=.ref b/\H l=some (.lst xs)/\H b=some (.lst zs)/\xs.length+zs.length<=sizeLine/\∀p,H p=none->Q (.ref p) (upd H p (.lst (xs++zs)))
theorem Jq:OpR X (binaryOp .Add) JG:=by
 intro pins s σ H x y v u Q I rx ry h;obtain⟨l,b,xs,zs,rfl,rfl,hH,hB,hz,q⟩:=h;cases rx;cases ry;obtain⟨z,its,n,r,hl,e⟩:=I.lstM hH;obtain⟨z2,its2,n2,r2,hl2,e2⟩:=I.lstM hB;refine PySem.P.add_list e e2 ?_ (by rw[ZI,ZI];lia);have ea:its.toArray++its2.toArray=(its++its2).toArray:=by simp
 rw[ea];exact⟨.ref _,_,I.lnew (t':=s.toks) (r.append r2) (by rw[ZL];lia),rfl,q _ I.fresh⟩
def MY:R2:=fun x y H Q=>∃l k xs,x=.ref l/\y=.int k/\H l=some (.lst xs) /\ -(2 ^ 63)<=k/\k < 2 ^ 63/\xs.length * k.toNat<=sizeLine /\
 ∀p,H p=none->Q (.ref p) (upd H p (.lst (List.replicate k.toNat xs).flatten))
theorem T4{α:Type}(xs:List α)(k:Nat):(List.replicate k xs).flatten.length=k * xs.length:=by
 induction k with
 | zero=>simp
 | succ k ih=>rw[ZBy,List.flatten_cons,ZL,ih,Nat.succ_mul,Nat.add_comm]
theorem VU:OpR X (binaryOp .Mult) MY:=by
 intro pins s σ H x y v u Q I rx ry h;obtain⟨l,k,xs,rfl,rfl,hH,h1,h2,hz,q⟩:=h;cases rx;obtain⟨t,rfl⟩:=ry;obtain⟨z,its,n,r,hl,e⟩:=I.lstM hH;have hlen:its.toArray.size * k.toNat<=sizeLine:=by rw[ZI,<- hl];exact hz
 have hcap:¬its.toArray.size * k.toNat > (2 ^ 63 - 1) / 8:=by
  have:(sizeLine:Nat)<=(2 ^ 63 - 1) / 8:=by decide
  lia
 have hfit:¬(!Builtin.List.listFitsIndex k)=true:=by
  rw[fitsIndex_both h1 h2];exact Zq
 have hlong:¬Builtin.List.listTooLong (its.toArray.size * k.toNat)=true:=by
  rw[VM hlen];exact Zq
 have hnew:List.foldl (fun x1 x2=>x1++x2) #[] (List.replicate (if its.toArray.isEmpty=true then 0 else k.toNat) its.toArray)=(List.replicate k.toNat its).flatten.toArray:=by
  have f0:∀m:Nat,List.foldl (fun x1 x2=>x1++x2) #[] (List.replicate m its.toArray)=(List.replicate m its).flatten.toArray:=fun m=>by
   have:=M3 its m []
   rw[List.nil_append]at this;exact this
  rw[f0];cases its with
  | nil=>simp
  | cons a r'=>rw[if_neg (by simp)]
 refine wpAny_binaryOp_repeat_ref (T:="list") (U:="int") (by decide) ⟨_,e,rfl⟩ (fun s'=>typeIs_int s' k t) noFill_list_mul F.fills_int_mul F.slot_int_rmul repeat_list F.slot_int_index.lookup
  (call_meets F.slot_int_rmul (typeIs_int s k t) F.entry_int_rmul (F.args_int_rmul_2 _ _) (int___rmul___int_list k t l its.toArray n)
    ⟨e,rfl,⟨_,e,rfl⟩,call_meets F.slot_list_mul ⟨_,e,rfl⟩ F.entry_list_mul (F.args_list_mul_2 _ _) (AutoListH.list___mul___list_int_3 l its.toArray n k t hfit hcap hlong) ⟨e,?_⟩⟩)
 rw[hnew];exact⟨.ref _,_,I.lnew (t':=s.toks) (r.rep k.toNat) (by rw[T4,Nat.mul_comm];exact hz),rfl,q _ I.fresh⟩
end
section
variable {prog:Program}{w:World}{A:Around}{E:Value->Shared->Prop}{s:Shared}
end
section
variable {X:Cx}
end
end L2
namespace Att
open PySem PySem.W PySem.Calls PyProof.Rows
theorem Ov{P:Params}{h:Heap}:∀(ns:List Int) (vs:List Value),WellAll P h vs (ns.map WData.int)->IntsAre vs ns:=by
 intro ns
 induction ns with
 | nil =>
  intro vs w;rw[List.map_nil]at w;cases w;exact .nil
 | cons n ns ih =>
  intro vs w;rw[Zi]at w;cases w with
  | cons a b =>
   cases a;exact .cons _ _ (ih _ b)
theorem QA {l:OpenLaw} {n:Nat} (hn:l.most=some n) {P:Params} {h:Heap} {args:List WData} {vals:List Value}
 (hpre:l.row.toRowW.claim.pre args=true) (hwl:WellAll P h vals args) :
 ∃a vs ns,vals=[Value.ref a]/\args=[WData.list (ns.map WData.int)]/\h.get? a=some { cls:=.type "list",data:=.seq vs.toArray } /\ IntsAre vs ns/\ns.length<=n:=by
 have hsh:WShape.hasAll [] args [.list .int]=true:=(pre_splitW hpre).1;have hc:l.pre.holds [] { args:=args } = true:=(pre_splitW hpre).2;obtain⟨d,r,rfl,h1,h2⟩:=hasAllW_cons hsh;obtain rfl:=hasAllW_nil h2;obtain⟨xs,rfl,h3⟩:=hasW_list h1;obtain⟨ns,rfl⟩:=items_int h3
 have hlen:ns.length<=n:=by
  unfold OpenLaw.pre at hc
  have h4:(WTm.not (.lt (.lit (.int (n:Int))) (.len (.arg 0)))).holds [] { args:=[.list (ns.map .int)] } = true:=by
   have h4:=(holds_andW hc).1;rw[hn]at h4;exact h4
  have h5:=condW_of h4 (w_not (w_lt w_lit (w_len_list (w_arg rfl))));rw[ZC]at h5;refine Nat.le_of_not_lt fun q=>?_
  have q':(n:Int) < ((ns.length:Nat):Int):=by lia
  first
   | (rw[ZO q']at h5;exact absurd h5 (by decide))
   | (simp at h5;lia)
 cases hwl with
 | cons w1 w2 =>
  cases w2;cases w1 with
  | list ho hall=>exact⟨_,_,ns,rfl,rfl,ho,Ov ns _ hall,hlen⟩
theorem UZ(l:OpenLaw)(args:List WData):l.row.toRowW.claim.post args (.bool true) args=true :=
 postW_of (r:=l.row.toRowW) (X:=(true == true))
  (show WShape.has [] (.bool true) .bool=true by first | rfl | decide | simp[WShape.has,WShape.arms,WShape.armsAll])
  (show(WTm.eq .res (.lit (.bool true))).value [] { args:=args,res:=some (.bool true),after:=args } = some (.bool (true == true)) from w_eq_bool (w_res rfl) w_lit) rfl
theorem attach_call {l:OpenLaw} {n:Nat} {q:Program} {loose:List Str} {XP:(Str->Option Value)->Heap->Prop} {YP:World->Heap->Prop} {d:DefRec}
 (hn:l.most=some n) (hdf:d.params.defaults=[])
 (call:∀(w:World) (s₀ s₁:Shared) (mg mb:Str->Option Value) (fa:Addr) (o:Obj) (pm cd doc:Value) (a:Addr) (vs:List Value) (ns:List Int),
   Ground q loose [] XP w s₀ mg mb s₁.heap->YP w s₁.heap ->
   s₁.heap.get? fa=some o->o.data=.func (docDef d.name d.params d.body d.scope pm cd doc)->s₁.heap.CodeRec cd d.name->mg d.name=some (.ref fa) ->
   s₁.heap.get? a=some { cls:=.type "list",data:=.seq vs.toArray } -> IntsAre vs ns->ns.length<=n->s₁.gens = #[] ->
   codeAny (model l.prog w) callerA (.call (.ref fa) ⟨[.ref a],[]⟩) (fun r s'=>r=.ok (.ret (.bool true))/\OldK s₁.heap s'.heap/\s'.os=s₁.os/\AllBare s'.gens) s₁) :
 WalkO q loose XP YP l.row.toRowW d [] (fun f vs=>PySem.call f vs):=by
 intro w s₀ s₁ mg mb G Y fa o pm cd doc dV kV ho hd hcd hD hmg hg args vals as hpre hlay hrd hwl hlo;obtain rfl:dV=.none:=Dflts.none hD hdf;obtain rfl:kV=.none:=Dflts.noKw hD;obtain⟨a,vs,ns,rfl,rfl,hobj,hints,hlen⟩:=QA hn hpre hwl;refine enter_call (ZBJ (call w s₀ s₁ mg mb fa o pm cd doc a vs ns G Y ho (fd_plain hd) hcd hmg hobj hints hlen hg) fun r s' hq=>?_);obtain⟨rfl,h2,h3,h4⟩:=hq;exact⟨.inl ⟨.bool true,.bool true,[],rfl,fun _=>rfl,.bool true,UZ l _,fun _=>⟨List.Pairwise.nil,fun _ hm=>(nomatch hm)⟩⟩,h2,h3,h4⟩
section
variable {prog:Program}{w:World}{A:Around}{E:Value->Shared->Prop}{s:Shared}{K:Frag}
def Ey(h:Heap):Heap:={ h with objs:=#[] }
theorem LL(h:Heap)(b:Addr):(Ey h).get? b=none:=by
 cases e:(Ey h).get? b with
 | none=>rfl
 | some o=>exact absurd (ZG e) (ZBQ _)
theorem V9{h:Heap}{L:Addr}{m:Str->Option Value}(n:h.Ns L m):Fr (Ey h) L h m :=
 ⟨n,fun b o e=>(by rw[LL]at e;cases e),ZX _⟩
end
end Att
namespace L2
open PySem PySem.Spec PyProof.Rows
variable {X:Cx}{x:Str}{i n own:Nat}{H H':Hp}{a b l p:Addr}{K:W.Frag}{xs:List V}{pos:Pos}{σ σc:St}{v y:V}{r:R2}{ds:List Dv}{A:Around}{Q:VK}{o:HO}{ns:List Int}{ta te:TE}{es:List Expr}{s:Shared}{u:Value}{P:Program}{w:World}{kvs:List (List Key × V)}
theorem MF:∀{vs:List Value} {ns:List Int},IntsAre vs ns->Vals (ns.map V.int) vs
 | _,_,.nil=>.nil
 | _,_,.cons n t h=>.cons ⟨t,rfl⟩ (MF h)
def Bq(s:Stmt)(j:Nat):Stmt:=match s with
 | .ClassDef _ _ _ body _ _ _ _ _ _ _=>body.getD j (.Pass ⟨0,0,0,0⟩)
 | _=>.Pass ⟨0,0,0,0⟩
def Bh(s:Stmt):Arguments:=match s with
 | .FunctionDef _ a _ _ _ _ _ _ _ _=>a
 | _=>{ posonlyargs:=[],args:=[],vararg:=none,kwonlyargs:=[],kw_defaults:=[],kwarg:=none,defaults:=[] }
def BM(s:Stmt):List Stmt:=match s with
 | .FunctionDef _ _ b _ _ _ _ _ _ _=>b
 | _=>[]
def AK(s:Stmt):Scope:=match s with
 | .FunctionDef _ _ _ _ _ _ sc _ _ _=>sc
 | _=>{ kind:=.function,names:=[],isGenerator:=false,isCoroutine:=false }
abbrev CX0:CXT:=fun _ _ _ _ _ _=>False
abbrev E0:XK:=fun _ _ _=>False
theorem AG:Cw CX0 X E0:=fun _ _ _ _ _ _ _ h=>h.elim
structure Fun(K:W.Frag)(x qual:Str)(st:Stmt)(f:Addr)(fd:FuncData):Prop where
 ex:∃(oc:Value) (od:Option Addr) (kV doc pm:Value) (an:Option Addr) (cdv ct:Value) (osl:Array (Option Value)),
  fd=PySem.W.fnOf x qual (Bh st) (BM st) (AK st) .none kV doc pm an cdv ct/\K.lookup f=some ⟨oc,od,.func fd,osl⟩/\PySem.W.codeIn K cdv qual=true
 kp:PySem.W.keepIn K (.ref f)=true
section
variable {P:Program}{w:World}{K:W.Frag}{mg:Str->Option Value}{base:Heap}
theorem Fun.ok {qual:Str} {st:Stmt} {f:Addr} {fd:FuncData} {N ps:List Str} {k:Nat} {sp:Sp} (F:Fun K x qual st f fd) (S:FnScope N ps (AK st)) (len:∀vs H Q E,sp vs H Q E->vs.length=ps.length)
 (hbody:∀(cdv:Value) (A:Around) (outer:List Env) (s:Shared) (H:Hp) (vs:List V) (Q:VK) (E:XK),Room k (A.deeper (envOfC qual (AK st) s.heap.objs.size f cdv))->sp vs H Q E ->
   ∃t,PSs (By CX0 P w K mg base N qual (AK st) f cdv A outer s H E).nox (BM st) t/\t { nx:=fun _ H'=>Q .non H',rt:=Q } (CV N vs) H):FnOk P w K mg base CX0 (k+1) f fd ps sp:=by
 obtain⟨oc,od,kV,doc,pm,an,cdv,ct,osl,rfl,lk,hcd⟩:=F.ex;refine Hx lk hcd S len fun A outer s H vs Q E hr hsp=>?_
 obtain⟨t,h,q⟩:=hbody cdv A outer s H vs Q E hr hsp;exact⟨t,h.nox,q⟩
theorem Fun.binds {qual:Str} {st:Stmt} {f:Addr} {fd:FuncData} {ps:List Str} (F:Fun K x qual st f fd)
 (h:∀(kV doc pm:Value) (an:Option Addr) (cdv ct:Value) (us:List Value),us.length=ps.length->bindArgs (PySem.W.fnOf x qual (Bh st) (BM st) (AK st) .none kV doc pm an cdv ct) ⟨us,[]⟩=pure (ps.zip us)):Binds K fd ps []:=by
 obtain⟨oc,od,kV,doc,pm,an,cdv,ct,osl,rfl,lk,hcd⟩:=F.ex;exact .all (h kV doc pm an cdv ct)
theorem C1 {qual:Str} {st:Stmt} {f:Addr} {oc:Value} {od an:Option Addr} {osl:Array (Option Value)} {kV doc pm cdv ct:Value} (l:K.lookup f=some ⟨oc,od,.func (PySem.W.fnOf x qual (Bh st) (BM st) (AK st) .none kV doc pm an cdv ct),osl⟩)
 (c:PySem.W.codeIn K cdv qual=true) (k:PySem.W.keepIn K (.ref f)=true):Fun K x qual st f (PySem.W.fnOf x qual (Bh st) (BM st) (AK st) .none kV doc pm an cdv ct):=⟨⟨oc,od,kV,doc,pm,an,cdv,ct,osl,rfl,l,c⟩,k⟩
end
theorem Af(h:n<=1000):n < sizeLine:=Nat.lt_of_le_of_lt h (by decide)
section
variable {X:Cx}
end
theorem Ag{c A B:Prop}[Decidable c](h1:c->A)(h2:¬c->B):if c then A else B:=by
 by_cases h:c
 ·rw[if_pos h];exact h1 h
 ·rw[if_neg h];exact h2 h
def Same(H H':Hp):Prop:=∀b o,H b=some o->H' b=some o
theorem Same.refl(H:Hp):Same H H:=fun _ _ h=>h
theorem Same.trans{H1 H2:Hp}(a:Same H H1)(b:Same H1 H2):Same H H2:=fun c o h=>b c o (a c o h)
theorem Same.free(e:Same H H')(h:H' l=Option.none):H l=Option.none:=by
 cases q:H l with
 | none=>rfl
 | some o =>
  rw[e l o q]at h;cases h
theorem Same.seq(e:Same H H')(h:SqL K H a xs):SqL K H' a xs:=by
 rcases h with (h | ⟨o,h⟩) | h
 ·exact .inl (.inl (e _ _ h))
 ·exact .inl (.inr ⟨o,e _ _ h⟩)
 ·exact .inr h
theorem DY:∀(names:List (Str × NameKind)) (n:Nat) (acc:List (Str × Addr)),cellsFrom n names acc=cellsFrom n names []++acc
 | [],_,_=>rfl
 | (name,kind)::r,n,acc=>by
  unfold cellsFrom;split
  ·rw[DY r (n+1) ((name,n)::acc),DY r (n+1) [(name,n)],Z2];rfl
  ·exact DY r n acc
theorem cellsFrom_kind:∀(names:List (Str × NameKind)) (n:Nat) (acc:List (Str × Addr)) (x:Str) (c:Addr),(x,c)∈cellsFrom n names acc->(x,c)∈acc\/(x,NameKind.cell)∈names
 | [],_,_,_,_,h=>.inl h
 | (name,kind)::r,n,acc,x,c,h=>by
  unfold cellsFrom at h;split at h
  ·rename_i hk
   rcases cellsFrom_kind r _ _ x c h with h | h
   ·rcases ZF.mp h with e | h
    ·cases e
     have:kind=.cell:=by simpa using hk
     subst this;exact .inr Zl
    ·exact .inl h
   ·exact .inr (Za _ h)
  ·rcases cellsFrom_kind r _ _ x c h with h | h
   ·exact .inl h
   ·exact .inr (Za _ h)
theorem Ex{α:Type}:∀(l r:List (Str × α)),(l++r).lookup x=(match l.lookup x with | some c=>some c | none=>r.lookup x)
 | [],r=>rfl
 | (k,v)::l,r=>by
  show List.lookup x ((k,v)::(l++r))=_;rw[Z3,Z3];cases x == k with
  | true=>rfl
  | false=>exact Ex l r
theorem NZ{α:Type}:∀{l:List (Str × α)},(∀c,(x,c)∉l)->l.lookup x=none
 | [],_=>rfl
 | (k,v)::l,h=>by
  rw[Z3];cases hb:x == k with
  | true =>
   have:x=k:=by simpa using hb
   subst this;exact absurd Zl (h v)
  | false=>exact NZ fun c hc=>h c (Za _ hc)
def BE(cells:List (Str × Addr)):List (Str × NameKind)->List (Str × Addr)->List (Str × Addr)
 | [],acc=>acc
 | (n,k)::r,acc=>if k == .free then BE cells r ((n,(cells.lookup n).getD 0)::acc) else BE cells r acc
theorem NI{scope:Scope}{env:Env}(h:∀y∈scope.names,y.2=.free->∃c,env.cells.lookup y.1=some c):closureFor scope env=pure (BE env.cells scope.names []):=by
 have all:∀(names:List (Str × NameKind)) (acc:List (Str × Addr)),(∀y∈names,y.2=.free->∃c,env.cells.lookup y.1=some c) ->
  (forIn names acc fun(x:Str × NameKind) cs=>(if (x.2 == NameKind.free)=true then (do let a <- cellOf env x.1;pure (ForInStep.yield ((x.1,a)::cs))) else pure (ForInStep.yield cs):Sem (ForInStep (List (Str × Addr)))))=(pure (BE env.cells names acc):Sem _):=by
  intro names
  induction names with
  | nil=>intro acc _;rfl
  | cons y r ih =>
   intro acc hy;obtain⟨n,k⟩:=y;rw[List.forIn_cons];have hr:∀y∈r,y.2=.free->∃c,env.cells.lookup y.1=some c:=fun y hm=>hy y (Za _ hm)
   unfold BE
   by_cases hk:(k == NameKind.free)=true
   ·obtain⟨c,e⟩:=hy (n,k) Zl (by simpa using hk);rw[if_pos hk,if_pos hk];have e2:cellOf env n=pure c:=by unfold cellOf;rw[show env.cells.lookup n=some c from e]
    rw[e2];rw[show env.cells.lookup n=some c from e];exact ih _ hr
   ·rw[if_neg hk,if_neg hk];exact ih _ hr
 have q:=all scope.names [] h;unfold closureFor;refine Eq.trans ?_ (congrArg (fun t=>t >>= pure) q |>.trans (by rfl))
 congr 1
theorem clOf_mem{cells:List (Str × Addr)}:∀(names:List (Str × NameKind)) (acc:List (Str × Addr)) (x:Str) (c:Addr),(∀y∈names,y.2=.free->∃c,cells.lookup y.1=some c)->(x,c)∈BE cells names acc->(x,c)∈acc\/((x,NameKind.free)∈names/\cells.lookup x=some c)
 | [],_,_,_,_,h=>.inl h
 | (n,k)::r,acc,x,c,hy,h=>by
  have hr:∀y∈r,y.2=.free->∃c,cells.lookup y.1=some c:=fun y hm=>hy y (Za _ hm)
  unfold BE at h;split at h
  ·rename_i hk;have hk':k=.free:=by simpa using hk
   subst hk';obtain⟨d,e⟩:=hy (n,.free) Zl rfl
   rcases clOf_mem r _ x c hr h with h | ⟨h,h'⟩
   ·rcases ZF.mp h with e' | h
    ·obtain⟨e1,e2⟩:=Prod.mk.inj e';rw[show cells.lookup n=some d from e]at e2;subst e1;exact .inr ⟨Zl,by rw[e2];exact e⟩
    ·exact .inl h
   ·exact .inr ⟨Za _ h,h'⟩
  ·rcases clOf_mem r _ x c hr h with h | ⟨h,h'⟩
   ·exact .inl h
   ·exact .inr ⟨Za _ h,h'⟩
theorem JT{cells:List (Str × Addr)}:∀(names:List (Str × NameKind)) (acc:List (Str × Addr)),(∃c,(x,c)∈acc)->∃c,(x,c)∈BE cells names acc
 | [],_,h=>h
 | (n,k)::r,acc,⟨c,h⟩=>by
  unfold BE;split
  ·exact JT r _ ⟨c,Za _ h⟩
  ·exact JT r _ ⟨c,h⟩
theorem Ib{cells:List (Str × Addr)}:∀(names:List (Str × NameKind)) (acc:List (Str × Addr)),(x,NameKind.free)∈names->∃c,(x,c)∈BE cells names acc
 | (n,k)::r,acc,h=>by
  unfold BE
  rcases ZF.mp h with e | h
  ·cases e;rw[if_pos (by decide)];exact JT r _ ⟨_,Zl⟩
  ·split
   ·exact Ib r _ h
   ·exact Ib r _ h
theorem J6{α:Type}:∀{l:List (Str × α)},(∃c,(x,c)∈l)->∃c,l.lookup x=some c
 | (k,v)::l,⟨c,h⟩=>by
  rw[Z3];cases hb:x == k with
  | true=>exact⟨v,rfl⟩
  | false =>
   rcases ZF.mp h with e | h
   ·cases e;simp at hb
   ·exact J6 ⟨c,h⟩
def EA(scope sc:Scope):Scope :=
 { scope with names:=scope.names.map fun(n,k)=>if (k == .free && sc.kind == .function && sc.names.lookup n == some .cell) then (n,.cell) else (n,k) }
structure CompScope(scope sc:Scope):Prop where
 kind:scope.kind=.function
 nd:(scope.names.map (·.1)).Nodup
 fr:∀y∈scope.names,y.2=.free->sc.names.lookup y.1=some .cell\/sc.names.lookup y.1=some .free
theorem C9{α:Type}:∀{l:List (Str × α)} {x:Str} {c:α},(l.map (·.1)).Nodup->(x,c)∈l->l.lookup x=some c
 | (k,v)::l,x,c,nd,h=>by
  obtain⟨n1,n2⟩:=ZBl.mp (show(k::l.map (·.1)).Nodup from nd);rw[Z3]
  rcases ZF.mp h with e | h
  ·cases e;simp
  ·have hne:¬x=k:=fun e=>n1 (by rw[<- e];exact ZP.mpr ⟨(x,c),h,rfl⟩)
   have:(x == k)=false:=by simpa using hne
   rw[this];exact C9 n2 h
theorem Mb{scope sc:Scope}:(EA scope sc).names.lookup x=(scope.names.lookup x).map fun k=>if (k == .free && sc.kind == .function && sc.names.lookup x == some .cell) then NameKind.cell else k:=by
 show(scope.names.map _).lookup x=_
 generalize scope.names=names
 induction names with
 | nil=>rfl
 | cons y r ih =>
  obtain⟨n,k⟩:=y;rw[Zi]
  by_cases hc:(k == .free && sc.kind == .function && sc.names.lookup n == some .cell)=true
  ·show List.lookup x ((if (k == .free && sc.kind == .function && sc.names.lookup n == some .cell)=true then (n,NameKind.cell) else (n,k))::_)=_;rw[if_pos hc,Z3,Z3];cases hb:x == n with
   | true =>
    have hx:x=n:=by simpa using hb
    subst hx;show some NameKind.cell=some (if _ then _ else _);rw[if_pos hc]
   | false=>exact ih
  ·show List.lookup x ((if (k == .free && sc.kind == .function && sc.names.lookup n == some .cell)=true then (n,NameKind.cell) else (n,k))::_)=_;rw[if_neg hc,Z3,Z3];cases hb:x == n with
   | true =>
    have hx:x=n:=by simpa using hb
    subst hx;show some k=some (if _ then _ else _);rw[if_neg hc]
   | false=>exact ih
structure CArgs where
 pins:List (Addr × Obj)
 cells:List (Str × Addr)
 s:Shared
 H:Hp
 fp:List Addr
 C:Addr
def Cx.comp(X:Cx)(scope:Scope)(N':List Str)(c:CArgs):Cx where
 prog:=X.prog
 w:=X.w
 K:=X.K
 mg:=X.mg
 base:=X.base
 A:=X.A
 N:=N'
 s₀:=c.s
 H₀:=c.H
 env:=compEnvC scope c.cells c.C X.env
 outer:=X.stack
 stack:=X.stack
 ex:=c.fp
 fn:=fun x=>scope.names.lookup x == some .cell
 calm:=X.calm
 pn:=X.pn++c.pins
 xe:=fun _ _=>False
def cSt(own:Nat)(ix:List Nat)(σ:St):St:=List.replicate own none++ix.map fun i=>(σ[i]?).join
section
variable {X:Cx}{pins:List (Addr × Obj)}{σ:St}{H:Hp}{s s4:Shared}{fp:List Addr}{scope:Scope}{N':List Str}{own:Nat}{ix:List Nat}
theorem P9 (I:Inv X pins σ H s) (f2:∀b∈fp,A9 X pins H b) (hob:∀b∈fp,∃o,s.heap.get? b=some o) (S:CompScope scope X.env.scope)
 (hlen:N'.length=own+ix.length) (hN:(N'.drop own).map some=ix.map (X.N[·]?)) (hfr:∀x∈N'.drop own,scope.names.lookup x=some .free)
 {C:Addr} (hC:s.heap.objs.size < C) (k4:∀b o,s.heap.get? b=some o->s4.heap.get? b=some o) (os4:s4.os=s.os) (g4:s4.gens=s.gens)
 (n4:∃m,s4.heap.Ns C m) (own4:∀x c,(x,c)∈cellsFrom (C+1) scope.names []->s4.heap.IsCell c none/\C+1<=c)
 (apart:(cellsFrom (C+1) scope.names []).Pairwise fun x y=>x.2≠y.2) :
 Inv (X.comp scope N' ⟨pins,cellsFrom (C+1) scope.names (BE X.env.cells scope.names []),s,H,fp,C⟩) [] (cSt own ix σ) H s4:=by
 have hfree:∀y∈scope.names,y.2=.free->∃c,X.env.cells.lookup y.1=some c:=fun y hy h=>I.ok.has y.1 (S.fr y hy h)
 -- a cell of the block
 have cases:∀x c,(cellsFrom (C+1) scope.names (BE X.env.cells scope.names [])).lookup x=some c ->
  ((x,c)∈cellsFrom (C+1) scope.names []/\scope.names.lookup x=some .cell)\/((x,NameKind.free)∈scope.names/\X.env.cells.lookup x=some c):=fun x c h=>by
  rw[DY,Ex]at h;cases e:(cellsFrom (C+1) scope.names []).lookup x with
  | some d =>
   rw[e]at h;cases h;have m:=mem_of_lookup e
   rcases cellsFrom_kind _ _ _ _ _ m with z | z
   ·exact absurd z (by simp)
   ·exact .inl ⟨m,C9 S.nd z⟩
  | none =>
   rw[e]at h
   rcases clOf_mem _ _ _ _ hfree (mem_of_lookup h) with z | z
   ·exact absurd z (by simp)
   ·exact .inr z
 have oldlt:∀x c,X.env.cells.lookup x=some c->c < s.heap.objs.size:=fun x c e=>let ⟨v,q⟩:=I.cell x c e;q.lt
 have kin:∀x,(EA scope X.env.scope).names.lookup x=some .cell\/(EA scope X.env.scope).names.lookup x=some .free->(scope.names.lookup x=some .cell\/scope.names.lookup x=some .free):=fun x h=>by
  rw[Mb]at h;cases e:scope.names.lookup x with
  | none=>rw[e]at h;simp at h
  | some k =>
   rw[e]at h;cases k with
   | cell=>exact .inl rfl
   | free=>exact .inr rfl
   | _=>exact absurd h (by simp)
 have hCn:∀b o,s.heap.get? b=some o->b≠C:=fun b o e z=>by have:=ZG e;rw[z]at this;exact Zd _ (ZBL this hC)
 have lk:∀x,(x,NameKind.free)∈scope.names->∀c,X.env.cells.lookup x=some c->(cellsFrom (C+1) scope.names (BE X.env.cells scope.names [])).lookup x=some c:=fun x hx c hc=>by
  have hl:scope.names.lookup x=some .free:=C9 S.nd hx;rw[DY,Ex,NZ (l:=cellsFrom (C+1) scope.names []) fun d hd=>?_]
  ·obtain⟨d,hd⟩:=J6 (Ib (cells:=X.env.cells) scope.names [] hx)
   rcases clOf_mem _ _ _ _ hfree (mem_of_lookup hd) with z | ⟨_,z⟩
   ·exact absurd z (by simp)
   ·rw[hc]at z;cases z;exact hd
  ·rcases cellsFrom_kind _ _ _ _ _ hd with z | z
   ·exact absurd z (by simp)
   ·rw[C9 S.nd z]at hl;cases hl
 refine⟨⟨I.ok.mod,S.kind,I.ok.glob,I.ok.blt,Zs hC,fun x y c hx hy=>?_,fun x hx=>?_,fun x c hf hx=>?_,I.ok.hd,I.ok.frames,.inl rfl,fun b hb=>⟨?_,fun x c hx=>?_⟩,fun b o e=>I.bs b o e,Zf I.ok.bsz I.sz,fun b o e hb=>?_,fun b hb z=>?_,I.stack,I.stkFree⟩,
  os4,by rw[g4];exact I.bare,Un.kept k4,?_,fun x c hx=>?_,?_,fun x c hx=>?_,fun p hp=>?_,I.hok.kept k4,?_⟩
 ·-- inj
  rcases cases x c hx with ⟨m1,_⟩ | ⟨_,m1⟩ <;> rcases cases y c hy with ⟨m2,_⟩ | ⟨_,m2⟩
  ·exact name_of_addr apart m1 m2
  ·exact absurd (ZT (ZBL (oldlt y c m2) hC) (ZBm (own4 x c m1).2)) (Zd _)
  ·exact absurd (ZT (ZBL (oldlt x c m1) hC) (ZBm (own4 y c m2).2)) (Zd _)
  ·exact I.ok.inj x y c m1 m2
 ·-- has
  rcases kin x hx with h | h
  ·have q:=PySem.W.cellsFrom_some scope.names (C+1) (BE X.env.cells scope.names []) (.inl h);exact Option.isSome_iff_exists.mp q
  ·obtain⟨c,e⟩:=hfree (x,.free) (mem_of_lookup h) rfl;exact⟨c,lk x (mem_of_lookup h) c e⟩
 ·-- cab
  rcases cases x c hx with ⟨m1,_⟩ | ⟨m1,_⟩
  ·exact Zs (ZT hC (ZBm (own4 x c m1).2))
  ·have hl:=C9 S.nd m1;have hf':(scope.names.lookup x == some NameKind.cell)=true:=hf;rw[hl]at hf';cases hf'
 ·obtain⟨o,e⟩:=hob b hb;exact hCn b o e
 ·intro z;obtain⟨o,e⟩:=hob b hb;have hlt:=ZG e
  rcases cases x c hx with ⟨m1,_⟩ | ⟨_,m1⟩
  ·subst z;exact absurd (ZT (ZBL hlt hC) (ZBm (own4 x c m1).2)) (Zd _)
  ·exact(f2 b hb).2.2.2.2.1 x c m1 z
 ·-- noex
  have e1:=(I.ok.bs b o e).1
  rcases(f2 b hb).2.2.2.1 with z | z
  ·exact I.ok.noex b o e z
  ·exact absurd (ZT (ZG e1) z) (Zd _)
 ·-- exfs
  rcases ZF.mp (I.stkSub b z) with e | z
  ·exact(f2 b hb).2.1 e
  ·exact(f2 b hb).2.2.1 z
 ·-- loc
  obtain⟨m,hm⟩:=n4;obtain⟨m0,hn0,hl0⟩:=I.loc;refine⟨m,hm,fun i x v h1 h2 h3=>?_⟩;have h1:N'[i]? = some x:=h1;unfold cSt at h2
  by_cases hi:i < own
  ·rw[ZBO (by simpa using hi),List.getElem?_replicate]at h2;split at h2 <;> cases h2
  ·rw[ZBF (by simpa using hi),ZBw,ZR]at h2;obtain⟨j,hj⟩:∃j,i=own+j:=⟨i - own,by lia⟩;subst hj;rw[Nat.add_sub_cancel_left]at h2;cases e:ix[j]? with
   | none=>rw[e]at h2;cases h2
   | some q =>
    rw[e]at h2;have h2:some (σ[q]?).join=some (some v):=h2;have h2:(σ[q]?).join=some v:=ZV h2
    have hσ:σ[q]? = some (some v):=by
     cases eq:σ[q]? with
     | none=>rw[eq]at h2;cases h2
     | some z=>rw[eq]at h2;simp at h2;rw[h2]
    have hx:(N'.drop own)[j]? = some x:=by rw[List.getElem?_drop];exact h1
    have hNq:X.N[q]? = some x:=by
     have:=congrArg (·[j]?) hN
     simp only[ZR,hx,e,ZBg]at this;exact(ZV this).symm
    have hfx:=hfr x (Z9 hx);have hmem:=mem_of_lookup hfx;have kx:=S.fr (x,.free) hmem rfl;have vis:Vis X.env.scope x:=.inr kx;obtain⟨u,r,l⟩:=hl0 q x v hNq hσ vis;refine⟨u,r,?_⟩
    rcases l with ⟨k,_⟩ | ⟨k,c,hc,z⟩
    ·exfalso;have k':X.env.scope.names.lookup x=some .local:=k
     rcases kx with kx | kx
     ·rw[show X.env.scope.names.lookup x=some .cell from kx]at k';cases k'
     ·rw[show X.env.scope.names.lookup x=some .free from kx]at k';cases k'
    ·refine .inr ⟨?_,c,lk x hmem c hc,z.keeps k4⟩
     show(EA scope X.env.scope).names.lookup x=some .cell\/(EA scope X.env.scope).names.lookup x=some .free
     rw[Mb,hfx]
     by_cases hc:(NameKind.free == .free && X.env.scope.kind == .function && X.env.scope.names.lookup x == some .cell)=true
     ·exact .inl (by rw[ZBg,if_pos hc])
     ·exact .inr (by rw[ZBg,if_neg hc])
 ·rcases cases x c hx with ⟨m1,_⟩ | ⟨_,m1⟩
  ·exact⟨_,(own4 x c m1).1⟩
  ·obtain⟨v,q⟩:=I.cell x c m1;exact⟨v,q.keeps k4⟩
 ·exact I.hok.fresh (Zs hC)
 ·rcases cases x c hx with ⟨m1,_⟩ | ⟨_,m1⟩
  ·exact I.hok.fresh (Zs (ZT hC (ZBm (own4 x c m1).2)))
  ·exact I.freeC x c m1
 ·have hp:p∈X.pn++pins:=by
   have:p∈(X.pn++pins)++[]:=hp
   rwa [Zt]at this
  obtain⟨e,n,ne,nf,d⟩:=I.pin p hp;refine⟨k4 _ _ e,n,hCn _ _ e,fun z=>?_,d⟩
  rcases ZF.mp (I.stkSub _ z) with q | q
  ·exact ne q
  ·exact nf q
 ·unfold cSt;rw[ZL,ZBw,ZC];exact hlen.symm
end
section
variable {prog:Program}{w:World}{A:Around}{R:Result->Shared->Prop}{s:Shared}
theorem VW {elt target iter:Expr} {ifs:List Expr} {scope:Scope} {it acc:Value} {env:Env} (I:Nat->Shared->Prop)
 (turn:∀n s,I n s->wpAny (model prog w) A (pyNext it) (fun r s₁=>match r with
   | none=>R (.ok .next) s₁
   | some v=>wpAny (model prog w) A (letOwnedTupleGo target it v) (fun _ s₁'=>wpAny (model prog w) A (assign target env v) (fun _ s₂ =>
    wpAny (model prog w) A (forIn ifs true fun c r=>if r=true then do let ok <- isTrue c env (eval c env);pure (ForInStep.yield ok) else pure (ForInStep.yield r)) (fun ok s₃ =>
     if ok=true then wpAny (model prog w) A (eval elt env) (fun x s₄ =>
      wpAny (model prog w) A (call (.builtin "list.append") [acc,x]) (fun _ s₅=>∃m,m < n/\I m s₅) (fun _ _=>False) s₄) (fun _ _=>False) s₃
     else ∃m,m < n/\I m s₃) (fun _ _=>False) s₂) (fun _ _=>False) s₁') (fun _ _=>False) s₁) (fun _ _=>False) s)
 (n:Nat) (h:I n s) :
 codeAny (model prog w) A (.compLoop (.ListComp elt [⟨target,iter,ifs,0⟩] scope pos) 0 it acc env) R s:=by
 refine codeAny_loop rfl I (fun n s hI=>?_) n h;show wpAny _ A ((compTurn (.ListComp elt [⟨target,iter,ifs,0⟩] scope pos) 0 it acc env).onRaise (fun x=>do noteFrame x env;theTreesLotGoes x)) _ _ s;refine wpAny_noted ?_;rw[compTurn_list];refine ZA (ZBN (ZA (ZZ (turn n s hI) (fun r s₁ h₁=>?_) fun _ _ h'=>h'.elim)));cases r with
 | none=>exact ZB h₁
 | some v =>
  refine ZA (ZZ h₁ (fun _ s₁' h₁'=>?_) fun _ _ h'=>h'.elim);refine ZA (ZZ h₁' (fun _ s₂ h₂=>ZA (ZZ h₂ (fun ok s₃ h₃=>?_) fun _ _ h'=>h'.elim)) fun _ _ h'=>h'.elim);cases ok with
  | false=>exact ZB ⟨rfl,h₃⟩
  | true =>
   exact ZA (ZA (ZZ h₃ (fun x s₄ h₄=>ZA (ZZ h₄ (fun _ s₅ h₅=>ZB (ZB ⟨rfl,h₅⟩)) fun _ _ h'=>h'.elim)) fun _ _ h'=>h'.elim))
end
def PTs(X:Cx)(ifs:List Expr)(t:TT):Prop :=
 ∀(pins:List (Addr × Obj)) (s:Shared) (σ:St) (H:Hp) (Q:Bool->Hp->Prop),Inv X pins σ H s->t σ H Q ->
  wpAny (model X.prog X.w) X.A (forIn ifs true fun c r=>if r=true then do let ok <- isTrue c X.env (eval c X.env);pure (ForInStep.yield ok) else pure (ForInStep.yield r)) (TP X pins σ Q) X.xe s
def Qd:TT:=fun _ H Q=>Q true H
theorem Ar:PTs X [] Qd:=fun _ _ _ H _ I h=>wpAny_tests_nil ⟨H,I,h⟩
theorem DC{c:Expr}{t:TT}(h:PT X c t):PTs X [c] t:=fun pins s σ H Q I hq=>wpAny_tests_one (h pins s σ H Q I hq)
def Cv(own:Nat)(g:TG):Prop:=∀x σ H Q,g x σ H Q->g x σ H fun σ' H'=>(σ'.length=σ.length/\∀i,own<=i->σ'[i]? = σ[i]?)/\Q σ' H'
def Ej(own:Nat)(g:TGs):Prop:=∀x σ H Q,g x σ H Q->g x σ H fun σ' H'=>(σ'.length=σ.length/\∀i,own<=i->σ'[i]? = σ[i]?)/\Q σ' H'
theorem Ah(h:i < own):Cv own (AT i):=fun x σ H Q q =>
 ⟨⟨by simp,fun j hj=>by rw[ZB4 (by lia)]⟩,q⟩
theorem E6:Ej own GS:=fun x σ H Q ⟨e,q⟩=>⟨e,⟨rfl,fun _ _=>rfl⟩,q⟩
def DG(g:TG):Prop:=∀x σ H (Q Q':St->Hp->Prop),(∀σ H,Q σ H->Q' σ H)->g x σ H Q->g x σ H Q'
def EI(g:TGs):Prop:=∀x σ H (Q Q':St->Hp->Prop),(∀σ H,Q σ H->Q' σ H)->g x σ H Q->g x σ H Q'
theorem Bp:DG (AT i):=fun _ _ _ _ _ h q=>h _ _ q
theorem Cb:EI GS:=fun _ _ _ _ _ h ⟨e,q⟩=>⟨e,h _ _ q⟩
theorem EZ{t:TG}{u:TGs}(h1:DG t)(h2:EI u):EI (Ii t u):=fun _ _ _ _ _ h ⟨v,r,e,q⟩=>⟨v,r,e,h1 _ _ _ _ _ (fun _ _ q=>h2 _ _ _ _ _ h q) q⟩
theorem Ck{t:TG}{u:TGs}(m:DG t)(mu:EI u)(h1:Cv own t)(h2:Ej own u):Ej own (Ii t u):=fun x σ H Q ⟨v,r,e,q⟩ =>
 ⟨v,r,e,m _ _ _ _ _ (fun σ' H' ⟨⟨e1,e2⟩,q⟩=>mu _ _ _ _ _ (fun σ'' H'' ⟨⟨e3,e4⟩,q⟩=>⟨⟨e3.trans e1,fun i hi=>(e4 i hi).trans (e2 i hi)⟩,q⟩) (h2 r σ' H' Q q)) (h1 v σ H _ q)⟩
theorem FR{t:TGs}(h:Ej own t):Cv own (HQ K n t):=fun x σ H Q ⟨a,xs,e,s,l,q⟩=>⟨a,xs,e,s,l,h _ _ _ _ q⟩
theorem V5{ix:List Nat}(h:(cSt own ix σ)[i]? = some (some v)):own<=i:=by
 unfold cSt at h
 by_cases hi:i < own
 ·rw[ZBO (by simpa using hi),List.getElem?_replicate]at h;split at h <;> cases h
 ·lia
def Co(J:It)(g:TG)(tc:TT)(te:TE)(σc:St)(Q:VK)(H1:Hp):Prop :=
 ∃W:Nat->Nat->List V->Hp->Prop,(∃m,W 0 m [] H1)/\∀i m ys H,W i m ys H ->
  (J.stop i H/\∀p,H p=none->Q (.ref p) (upd H p (.lst ys))) \/
  (J.go i H/\ys.length < sizeLine/\∃N:List V->Hp->Prop,(∀ys' H',N ys' H'->∃m',m' < m/\W (i+1) m' ys' H')/\∀x H',J.yld i H x H'->g x σc H' fun σ4 H4=>tc σ4 H4 fun b H5 =>
    if b=true then te σ4 H5 fun y H6=>N (ys++[y]) H6 else N ys H5)
def EW(wi:TI)(own:Nat)(ix:List Nat)(g:TG)(tc:TT)(te:TE):TE:=fun σ H Q=>wi σ H fun J H1=>Co J g tc te (cSt own ix σ) Q H1
section
variable {X:Cx}{pins:List (Addr × Obj)}{σ:St}{H:Hp}{s:Shared}{fp:List Addr}{it:Addr}{tn:Nat->Heap->Prop}{J:It}{tg iter elt:Expr}{ifs:List Expr}{scope:Scope}{pos:Pos}{N':List Str}{own:Nat}{ix:List Nat}{g:TG}{tc:TT}{te:TE}{Q:VK}{E:Value->Shared->Prop}
theorem Lb (I:Inv X pins σ H s) (T:Turn X.prog X.w X.K tg J fp it tn) (st:tn 0 s.heap) (f2:∀b∈fp,A9 X pins H b) (hc:X.calm=true) (S:CompScope scope X.env.scope)
 (hlen:N'.length=own+ix.length) (hN:(N'.drop own).map some=ix.map (X.N[·]?)) (hfr:∀x∈N'.drop own,scope.names.lookup x=some .free)
 (hg:∀c,PG (X.comp scope N' c) tg g) (hgo:Cv own g) (ht:∀c,PTs (X.comp scope N' c) ifs tc) (he:∀c,PE (X.comp scope N' c) elt te)
 (hq:Co J g tc te (cSt own ix σ) Q H) {RR:Value->Addr->Result->Shared->Prop}
 (fin:∀(D C:Addr) (s':Shared) (H':Hp) (ys:List V) (its:List Value) (n:Nat),s'.os=s.os->AllBare s'.gens->Un (frs X.stack) fp H H' s.heap s'.heap->HOk X.prog X.w H' s'.heap->(∃m,s'.heap.Ns C m)->H' C=none->s.heap.objs.size<=C ->
   H' D=none->s.heap.objs.size<=D->D≠C->s'.heap.get? D=some { cls:=.type "list",data:=.seq its.toArray n } -> Vals ys its->ys.length<=sizeLine->(∀p,H' p=none->Q (.ref p) (upd H' p (.lst ys)))->RR (.ref D) C (.ok .next) s') :
 wpAny (model X.prog X.w) X.A (newList []) (fun acc s₃=>wpAny (model X.prog X.w) X.A (newFunctionEnv scope X.env.globals (BE X.env.cells scope.names []) [] X.env.qual none .none (some X.env)) (fun cenv s₄ =>
  codeAny (model X.prog X.w) X.A (.compStart (.ListComp elt [⟨tg,iter,ifs,0⟩] scope pos) 0 (.ref it) acc { cenv with scope:=relabel scope X.env }) (RR acc cenv.locals) s₄) E s₃) E s:=by
 obtain⟨W,⟨m0,w0⟩,turn⟩:=hq;have hob:∀b∈fp,∃o,s.heap.get? b=some o:=fun b hb=>let ⟨o,e,_⟩:=T.obj 0 _ st b hb;⟨o,e⟩
 refine Zr ?_;generalize hH1:s.heap.push { cls:=.type "list",dict:=none,data:=.seq ([]:List Value).toArray } = h1;have hs1:h1.objs.size=s.heap.objs.size+1:=by rw[<- hH1,Z0]
 have k1:∀b o,s.heap.get? b=some o->h1.get? b=some o:=fun b o e=>by rw[<- hH1];exact ZH _ e
 have d1:h1.get? s.heap.objs.size=some { cls:=.type "list",data:=.seq ([]:List Value).toArray }:=by rw[<- hH1];exact ZN _ rfl
 simp only[newFunctionEnv,Option.isSome_some,if_true];refine ZA (wpAny_alloc ?_);generalize hH2:(({ s with heap:=h1 }:Shared).heap.push { cls:=.type "dict",data:=.dict #[] })=h2;have hH2':h1.push { cls:=.type "dict",data:=.dict #[] } = h2:=hH2;have hs2:h2.objs.size=h1.objs.size+1:=by rw[<- hH2',Z0]
 have k2:∀b o,h1.get? b=some o->h2.get? b=some o:=fun b o e=>by rw[<- hH2'];exact ZH _ e
 have n2:h2.Ns h1.objs.size (fun _=>none):=by rw[<- hH2'];exact Heap.Ns.new h1 (.type "dict")
 refine ZA (wpAny_layCells _ (fun name kind cells=>by cases hkc:kind == NameKind.cell <;> simp[hkc]) _ _ _ _ ?_);have ok:=cellsFrom_ok scope.names h2 (h1.objs.size+1) [] ⟨fun _ _ hm=>(nomatch hm),List.Pairwise.nil⟩ (by rw[hs2];exact ZD _);rw[hs2]at ok;show wpAny _ _ (forIn ([]:List (Str × Value)) PUnit.unit _ >>= _) _ _ _;rw[List.forIn_nil];refine ZA (ZB (ZB ?_));show codeAny _ _ (.compStart _ 0 (.ref it) (.ref s.heap.objs.size) (compEnvC scope (cellsFrom h2.objs.size scope.names (BE X.env.cells scope.names [])) h1.objs.size X.env)) (RR (.ref s.heap.objs.size) h1.objs.size) { s with heap:=pushCells h2 scope.names };rw[hs2];generalize hH3:pushCells h2 scope.names=h3 at ok ⊢;have k3:∀b o,h2.get? b=some o->h3.get? b=some o:=fun b o e=>by rw[<- hH3];exact pushCells_keeps _ _ b o e
 have kk:∀b o,s.heap.get? b=some o->h3.get? b=some o:=fun b o e=>k3 b o (k2 b o (k1 b o e))
 have d3:h3.get? s.heap.objs.size=some { cls:=.type "list",data:=.seq ([]:List Value).toArray }:=k3 _ _ (k2 _ _ d1);have hC:s.heap.objs.size < h1.objs.size:=by rw[hs1];exact ZBV _
 have I3:Inv (X.comp scope N' ⟨pins,cellsFrom (h1.objs.size+1) scope.names (BE X.env.cells scope.names []),s,H,fp,h1.objs.size⟩) [] (cSt own ix σ) H { s with heap:=h3 } :=
  P9 (s4:={ s with heap:=h3 }) I f2 hob S hlen hN hfr hC kk rfl rfl ⟨_,n2.keeps k3⟩ (fun x c hm=>ok.empty x c hm) ok.apart
 generalize hcs:cellsFrom (h1.objs.size+1) scope.names (BE X.env.cells scope.names [])=cs at I3 ⊢;generalize hCC:h1.objs.size=C at *;generalize hDD:s.heap.objs.size=D at *;have hY:=I3.ok
 -- what is fixed of the records
 have sD:D≠C/\(∀x c,cs.lookup x=some c->c≠D)/\D∉frs X.stack/\∀p∈X.pn++pins,p.1≠D:=by
  refine⟨ZK hC,fun x c e z=>?_,fun z=>?_,fun p hp z=>?_⟩
  ·subst z;have e':=e;rw[<- hcs,DY,Ex]at e';cases q:(cellsFrom (C+1) scope.names []).lookup x with
   | some d =>
    rw[q]at e';cases e'
    have:=(ok.empty x c (mem_of_lookup q)).2
    exact absurd (ZT hC (ZBm this)) (Zd _)
   | none =>
    rw[q]at e';have hfree:∀y∈scope.names,y.2=.free->∃c,X.env.cells.lookup y.1=some c:=fun y hy h=>I.ok.has y.1 (S.fr y hy h)
    rcases clOf_mem _ _ _ _ hfree (mem_of_lookup e') with z | ⟨_,z⟩
    ·exact absurd z (by simp)
    ·obtain⟨v,q⟩:=I.cell x c z
     have:=q.lt
     rw[hDD]at this;exact Zd _ this
  ·exact(I3.nofs (a:=D) (by exact absurd z (by
    intro z';obtain⟨_,o,ho,_⟩:=(show s.heap.FunFrames X.base X.stack from I.stack).mem z'
    have:=ZG ho
    rw[hDD]at this;exact Zd _ this))) z
  ·have:=ZG (I.pin p hp).1
   rw[z,hDD]at this;exact Zd _ this
 have stat:∀{H':Hp},(∀b∈fp,H' b=none)->∀b∈fp,A9 (X.comp scope N' ⟨pins,cs,s,H,fp,C⟩) [] H' b:=fun {H'} hn b hb=>by
  refine⟨hn b hb,(hY.exf b hb).1,hY.exfs b hb,.inl hb,(hY.exf b hb).2,fun p hp=>?_⟩;have hp:p∈(X.pn++pins)++[]:=hp;rw[Zt]at hp;exact(f2 b hb).2.2.2.2.2 p hp
 have statD:∀{H':Hp},H' D=none->A9 (X.comp scope N' ⟨pins,cs,s,H,fp,C⟩) [] H' D:=fun {H'} hn=>by
  refine⟨hn,sD.1,sD.2.2.1,.inr (ZBe hDD),sD.2.1,fun p hp=>?_⟩;have hp:p∈(X.pn++pins)++[]:=hp;rw[Zt]at hp;exact sD.2.2.2 p hp
 have loop:codeAny (model X.prog X.w) X.A (.compLoop (.ListComp elt [⟨tg,iter,ifs,0⟩] scope pos) 0 (.ref it) (.ref D) (compEnvC scope cs C X.env)) (RR (.ref D) C) { s with heap:=h3 }:=by
  refine VW (fun n s'=>∃(i:Nat) (H':Hp) (ys:List V) (its:List Value) (k:Nat),Inv (X.comp scope N' ⟨pins,cs,s,H,fp,C⟩) [] (cSt own ix σ) H' s'/\tn i s'.heap/\(∀b∈fp,H' b=none)/\H' D=none /\
   s'.heap.get? D=some { cls:=.type "list",data:=.seq its.toArray k } /\ Vals ys its/\ys.length<=sizeLine/\W i n ys H') ?_ m0
   ⟨0,H,[],[],0,I3,T.keep _ _ _ st fun b _ o e=>kk b o e,fun b hb=>(f2 b hb).1,I.hok.fresh (ZBe hDD),d3,.nil,ZX _,w0⟩
  rintro n s4 ⟨i,H4,ys,its,k,I4,st4,fr4,dn4,d4,rv4,z4,w4⟩
  rcases turn i n ys H4 w4 with ⟨stop,qn⟩ | ⟨go,zl,N,hN2,step⟩
  ·have ID:=I4.pinned (fp:=[D]) (fun b hb=>by rw[ZJ.mp hb];exact statD dn4) (fun b hb=>by rw[ZJ.mp hb];exact⟨_,d4,fun v z=>nomatch z⟩)
   have nD:∀b∈fp,b≠D:=fun b hb z=>by
    obtain⟨o,e⟩:=hob b hb
    have:=ZG e
    rw[z,hDD]at this;exact Zd _ this
   have stat':∀b∈fp,A9 (X.comp scope N' ⟨pins,cs,s,H,fp,C⟩) ([]++B5 [D] s4.heap) H4 b:=fun b hb=>by
    obtain⟨q1,q2,q3,q4,q5,q6⟩:=stat fr4 b hb;refine⟨q1,q2,q3,q4,q5,fun p hp=>?_⟩
    rcases ZW.mp hp with z | z
    ·exact q6 p (Zz _ z)
    ·have:=(Gx (by simpa using z:p∈B5 [D] s4.heap)).1
     rw[ZJ.mp this];exact fun z=>nD b hb z.symm
   refine thn (T.done (X.comp scope N' ⟨pins,cs,s,H,fp,C⟩) rfl rfl rfl hc i _ s4 _ H4 (fun _ _=>False) ID stat' st4 stop) fun r s5 ⟨hr,I5⟩=>?_
   subst hr;obtain⟨m,hm,_⟩:=I5.loc;refine fin D C s5 H4 ys its k I5.os I5.bare I5.base I5.hok ⟨m,hm⟩ I5.free (Zs hC) dn4 (ZD _) sD.1 ?_ rv4 z4 qn
   ·exact(I5.pin (D,_) (ZU _ (ZU _ (CT (ZJ.mpr rfl) d4)))).1
  ·have nD:∀b∈fp,b≠D:=fun b hb z=>by
    obtain⟨o,e⟩:=hob b hb
    have:=ZG e
    rw[z,hDD]at this;exact Zd _ this
   have ID:=I4.pinned (fp:=[D]) (fun b hb=>by rw[ZJ.mp hb];exact statD dn4) (fun b hb=>by rw[ZJ.mp hb];exact⟨_,d4,fun v z=>nomatch z⟩)
   have statP:∀{H':Hp},(∀b∈fp,H' b=none)->∀b∈fp,A9 (X.comp scope N' ⟨pins,cs,s,H,fp,C⟩) ([]++B5 [D] s4.heap) H' b:=fun {H'} hn b hb=>by
    obtain⟨q1,q2,q3,q4,q5,q6⟩:=stat hn b hb;refine⟨q1,q2,q3,q4,q5,fun p hp=>?_⟩
    rcases ZW.mp hp with z | z
    ·exact q6 p (Zz _ z)
    ·have:=(Gx (by simpa using z:p∈B5 [D] s4.heap)).1
     rw[ZJ.mp this];exact fun z=>nD b hb z.symm
   refine thn (T.item (X.comp scope N' ⟨pins,cs,s,H,fp,C⟩) rfl rfl rfl hc i _ s4 _ H4 (fun _ _=>False) ID (statP fr4) st4 go) fun r s5 ⟨u,hr,h5⟩=>?_
   subst hr;refine thn h5 fun _ s6 ⟨x,H6,I6,r6,y6,st6,fr6⟩=>?_
   have I6':=I6.pinned (statP fr6) (T.obj _ _ st6);refine thn (hg _ _ s6 _ H6 x u _ I6' r6 (hgo _ _ _ _ (step x H6 y6))) fun _ s7 ⟨σ7,H7,I7,⟨e7,k7⟩,q7⟩=>?_
   have I7':Inv (X.comp scope N' ⟨pins,cs,s,H,fp,C⟩) ([]++B5 [D] s4.heap++B5 fp s6.heap) σ7 H7 s7:=I7;refine thn (ht _ _ s7 σ7 H7 _ I7' q7) fun b s8 ⟨H8,I8,q8⟩=>?_
   -- what is kept through the turn
   have back:∀{s9:Shared} {H9:Hp},Inv (X.comp scope N' ⟨pins,cs,s,H,fp,C⟩) ([]++B5 [D] s4.heap++B5 fp s6.heap) σ7 H9 s9 ->
    Inv (X.comp scope N' ⟨pins,cs,s,H,fp,C⟩) [] (cSt own ix σ) H9 s9/\tn (i+1) s9.heap/\(∀b∈fp,H9 b=none)/\H9 D=none/\s9.heap.get? D=some { cls:=.type "list",data:=.seq its.toArray k }:=fun {s9 H9} I9=>by
    have pD:=I9.pin (D,_) (ZU _ (Zz _ (ZU _ (CT (ZJ.mpr rfl) d4))));refine⟨I9.unpinned.unpinned.weak (by rw[e7]) fun j v hj=>?_,T.keep _ _ _ st6 fun b hb o e=>(I9.pin (b,o) (ZU _ (ZU _ (CT hb e)))).1,fun b hb=>?_,pD.2.1,pD.1⟩
    ·rw[k7 j (V5 hj)];exact hj
    ·obtain⟨o,e,_⟩:=T.obj _ _ st6 b hb;exact(I9.pin (b,o) (ZU _ (ZU _ (CT hb e)))).2.1
   cases b with
   | false =>
    rw[if_neg Zq]at q8;obtain⟨m',hm,w8⟩:=hN2 _ _ q8;obtain⟨b1,b2,b3,b4,b5⟩:=back I8;exact⟨m',hm,i+1,H8,ys,its,k,b1,b2,b3,b4,b5,rv4,z4,w8⟩
   | true =>
    rw[if_pos rfl]at q8;rw[if_pos rfl];refine thn (he _ _ s8 σ7 H8 _ I8 q8) fun yv s9 ⟨y,H9,I9,r9,q9⟩=>?_
    obtain⟨m',hm,w9⟩:=hN2 _ _ q9;obtain⟨b1,b2,b3,b4,b5⟩:=back I9;have hl:=rv4.length;refine call_meets F.slot_list_append ⟨_,b5,rfl⟩ F.entry_list_append (F.args_list_append_2 _ _) (PySem.list_append D its.toArray k yv (by rw[ZI];lia)) ⟨b5,?_⟩;have up:=PySem.IsL.update b5 (fun a=>a.push yv);have keep:∀b o,b≠D->s9.heap.get? b=some o->(s9.heap.update D (Obj.mapSeq fun a=>a.push yv)).get? b=some o:=fun b o hb q=>(Z5 _ _ (Ne.symm hb)).trans q
    obtain⟨f0,f1,f2',f3,f4,f5⟩:=statD b4;refine⟨m',hm,i+1,H9,ys++[y],its++[yv],(if ((its.toArray.push yv).size == its.toArray.size)=true then k else k+1),b1.turned (t':=s9.toks) keep b4 f1 f3 f4 f5,?_,b3,b4,?_,rv4.append (.cons r9 .nil),?_,w9⟩
    ·exact T.keep _ _ _ b2 fun b hb o e=>keep b o (nD b hb) e
    ·have e2:(its.toArray.push yv)=(its++[yv]).toArray:=by simp
     rw[<- e2];exact up
    ·rw[ZL,List.length_singleton];lia
 exact codeAny_compStart_list loop (T.self X.A 0 _ _ _ (T.keep _ _ _ st fun b _ o e=>kk b o e) loop)
end
section
variable {X:Cx}{pins:List (Addr × Obj)}{σ:St}{H:Hp}{s:Shared}{fp:List Addr}{it:Addr}{tn:Nat->Heap->Prop}{J:It}{tg iter elt:Expr}{ifs:List Expr}{scope:Scope}{pos:Pos}{N':List Str}{own:Nat}{ix:List Nat}{g:TG}{tc:TT}{te:TE}{wi:TI}{E:Value->Shared->Prop}
theorem K6 {s':Shared} {D:Addr} {ys:List V} {its:List Value} (I:Inv X pins σ H s) (f2:∀b∈fp,A9 X pins H b) (ho:s'.os=s.os) (hg:AllBare s'.gens) (u:Un (frs X.stack) fp H H' s.heap s'.heap) (hok:HOk X.prog X.w H' s'.heap)
 (dn:H' D=none) (ds:s.heap.objs.size<=D) (d:s'.heap.get? D=some { cls:=.type "list",data:=.seq its.toArray n }) (rv:Vals ys its) (z:ys.length<=sizeLine):Inv X pins σ (upd H' D (.lst ys)) s':=by
 have nD:∀b o,s.heap.get? b=some o->b≠D:=fun b o e q=>by rw[q,ZBU ds]at e;cases e
 have nH:∀b o,H' b=some o->b≠D:=fun b o e q=>by rw[q,dn]at e;cases e
 refine I.call' (ch:=fp) ho ⟨u.keep,u.slot,fun b o e q hx=>?_,u.there,fun b xs e=>?_,fun b o v e=>?_,fun b ps e=>?_⟩ (fun b o e=>?_) hg fun b hb=>?_
 ·rw[AI (nD b o e)];exact u.free b o e q hx
 ·have:=u.tups b xs e
  rw[AI (nH _ _ this)];exact this
 ·have:=u.frzs b o v e
  rw[AI (nH _ _ this)];exact this
 ·obtain⟨more,q⟩:=u.tbls b ps e;exact⟨more,by rw[AI (nH _ _ q)];exact q⟩
 ·by_cases hb:b=D
  ·subst hb;rw[AD]at e;cases e;exact⟨z,its,n,rv,d⟩
  ·rw[AI hb]at e;exact(hok b o e).stay (fun _ _ _ q=>q) (fun c q=>by rw[AI (nH _ _ q)];exact q) fun c xs q=>by rw[AI (nH _ _ q)];exact q
 ·obtain⟨q1,q2,q3,q4,q5,q6⟩:=f2 b hb;exact⟨q4,q2,q5,q6⟩
theorem Inv.dictGone{s':Shared}{h':Heap}{C:Addr}{σ':St}(I:Inv X pins σ H s)(J:Inv X pins σ' H' s')(hC:s.heap.objs.size<=C)(hn:H' C=none)(k:Heap.SameBut C s'.heap h'):Inv X pins σ' H' { s' with heap:=h' }:=by
 have hC0:=ZBU hC;refine J.turned (t':=s'.toks) (fun b o hb e=>(k.2 b hb).trans e) hn (fun z=>?_) (.inr (Zf I.sz hC)) (fun x c e z=>?_) fun p hp z=>?_
 ·obtain⟨m,⟨o,_,_,ho,_⟩,_⟩:=I.loc;rw[<- z,hC0]at ho;cases ho
 ·obtain⟨v,o,ho,_⟩:=I.cell x c e;rw[z,hC0]at ho;cases ho
 ·have:=(I.pin p hp).1
  rw[z,hC0]at this;cases this
theorem So (hc:X.calm=true) (hi:PI X tg iter wi) (S:CompScope scope X.env.scope)
 (hlen:N'.length=own+ix.length) (hN:(N'.drop own).map some=ix.map (X.N[·]?)) (hfr:∀x∈N'.drop own,scope.names.lookup x=some .free)
 (hg:∀c,PG (X.comp scope N' c) tg g) (hgo:Cv own g) (ht:∀c,PTs (X.comp scope N' c) ifs tc) (he:∀c,PE (X.comp scope N' c) elt te)
 (hs:∀x,foldedSetIterable iter X.env x=pure x:=by intro _;rfl):PE X (.ListComp elt [⟨tg,iter,ifs,0⟩] scope pos) (EW wi own ix g tc te):=by
 intro pins s σ H Q I h;rw[eval_ListComp];have hfree:∀y∈scope.names,y.2=.free->∃c,X.env.cells.lookup y.1=some c:=fun y hy h=>I.ok.has y.1 (S.fr y hy h)
 refine wpAny_comprehension_free (use:=none) rfl hs (NI hfree) S.kind (fun y hy hl=>C9 S.nd (by rw[<- hl];exact hy)) ?_;refine thn (hi pins s σ H _ I h) fun v s1 h1=>thn h1 fun itv s2 h2=>?_
 obtain⟨it,fp,tn,J,H2,e,I2,T,st2,f2,q2⟩:=h2;subst e;refine Lb (RR:=fun acc C=>compPost (model X.prog X.w) X.A X.xe none (EP X pins σ Q) acc C) I2 T st2 f2 hc S hlen hN hfr hg hgo ht he q2 ?_;intro D C s' H' ys its n ho hgn u hok hm hC hCs hD hDs hDC d rv z q;obtain⟨m,hm⟩:=hm;have I3:=K6 I2 f2 ho hgn u hok hD hDs d rv z;refine⟨m,hm,fun h' hs'=>?_⟩;exact⟨.ref D,_,I2.dictGone I3 hCs (by rw[AI (Ne.symm hDC)];exact hC) hs',rfl,q D hD⟩
theorem Vp {y:Str} {py spos:Pos} (hc:X.calm=true) (hnd:X.N.Nodup) (hiy:X.N[i]? = some y) (hy:X.env.scope.names.lookup y=some .local) (hi:PI X tg iter wi) (S:CompScope scope X.env.scope)
 (hlen:N'.length=own+ix.length) (hN:(N'.drop own).map some=ix.map (X.N[·]?)) (hfr:∀x∈N'.drop own,scope.names.lookup x=some .free)
 (hg:∀c,PG (X.comp scope N' c) tg g) (hgo:Cv own g) (ht:∀c,PTs (X.comp scope N' c) ifs tc) (he:∀c,PE (X.comp scope N' c) elt te)
 (hsw:swapsWith (.ListComp elt [⟨tg,iter,ifs,0⟩] scope pos) (some (.Name y py)) spos.line X.env=pure true)
 (hs:∀x,foldedSetIterable iter X.env x=pure x:=by intro _;rfl):PS X (.Assign [.Name y py] (.ListComp elt [⟨tg,iter,ifs,0⟩] scope pos) spos) (D3 (EW wi own ix g tc te) (AT i)):=by
 intro pins s σ H D I h;rw[exec_Assign_Name_used _ _ _ _ hsw];refine ZA (ZBN (ZA ?_));show wpAny _ _ (do let _ <- comprehension (.ListComp elt [⟨tg,iter,ifs,0⟩] scope pos) scope X.env _ (newList []) false (eval iter X.env) (some (assign (.Name y py) X.env))) _ _ s;have hfree:∀y∈scope.names,y.2=.free->∃c,X.env.cells.lookup y.1=some c:=fun y hy h=>I.ok.has y.1 (S.fr y hy h)
 refine ZA (ZZ (wpAny_comprehension_free (use:=some (assign (.Name y py) X.env)) (Q:=fun _ s'=>SP X pins D .next s') rfl hs (NI hfree) S.kind (fun y hy hl=>C9 S.nd (by rw[<- hl];exact hy)) ?_) (fun _ s' hq=>ZB (ZB hq)) fun _ _ e=>e);refine thn (hi pins s σ H _ I h) fun v s1 h1=>thn h1 fun itv s2 h2=>?_
 obtain⟨it,fp,tn,J,H2,e,I2,T,st2,f2,q2⟩:=h2;subst e;refine Lb (RR:=fun acc C=>compPost (model X.prog X.w) X.A X.xe (some (assign (.Name y py) X.env)) (fun _ s'=>SP X pins D .next s') acc C) I2 T st2 f2 hc S hlen hN hfr hg hgo ht he q2 ?_;intro d C s' H' ys its n ho hgn u hok hm hC hCs hD hDs hDC hd rv z q;obtain⟨m,hm⟩:=hm;have I3:=K6 I2 f2 ho hgn u hok hD hDs hd rv z;show wpAny _ _ (assign (.Name y py) X.env (.ref d)) _ _ s';have hCn:(upd H' d (.lst ys)) C=none:=by rw[AI (Ne.symm hDC)];exact hC
 refine wpAny_assign_Name (LN I3 hnd hiy (.inl hy) (v:=.ref d) rfl (fun s3 I4 ⟨a,sb,ha⟩=>?_) (.inr hy))
 have ha':a≠C:=fun e=>by
  have hC0:=ZBU hCs
  rcases ha with z | z
  ·obtain⟨m,⟨o,_,_,ho,_⟩,_⟩:=I2.loc;rw[<- z,e,hC0]at ho;cases ho
  ·obtain⟨v,o,ho,_⟩:=I2.cell y a z;rw[e,hC0]at ho;cases ho
 refine⟨m,hm.sameBut sb (Ne.symm ha'),fun h' hs'=>?_⟩;exact⟨_,_,I2.dictGone I4 hCs hCn hs',q d hD⟩
end
section
variable {X:Cx}
theorem PE.imp{e:Expr}{t t':TE}(h:PE X e t)(f:∀σ H Q,t' σ H Q->t σ H Q):PE X e t':=fun pins s σ H Q I q=>h pins s σ H Q I (f σ H Q q)
theorem OpR.imp{f:Value->Value->Sem Value}{r':R2}(h:OpR X f r)(g:∀x y H Q,r' x y H Q->r x y H Q):OpR X f r':=fun pins s σ H x y v u Q I rx ry q=>h pins s σ H x y v u Q I rx ry (g _ _ _ _ q)
theorem CallR.imp{f:Value}{r r':List V->Hp->VK->Prop}(h:CallR X f r)(g:∀x H Q,r' x H Q->r x H Q):CallR X f r':=fun pins s σ H xs us Q I r q=>h pins s σ H xs us Q I r (g _ _ _ q)
def GD(i:Nat):TE:=fun σ H Q=>match σ[i]? with
 | some (some v)=>Q v H
 | _=>False
theorem vv (i:Nat) (hN:X.N[i]? = some x:=by rfl) (hv:Vis X.env.scope x:=by first | exact Or.inl rfl | exact Or.inr (Or.inl rfl) | exact Or.inr (Or.inr rfl)) (hd:(x == ("__debug__" : Str))=false:=by decide)
 (hcd:(x == ("__classdict__" : Str))=false:=by decide):PE X (.Name x pos) (GD i):=(Sn hN hv hd hcd).imp fun σ H Q q=>by
 unfold GD at q;split at q
 ·rename_i v e;exact⟨v,e,q⟩
 ·exact q.elim
def okMul(i j:Int):Prop:=(i.natAbs < 2 ^ 4096/\j.natAbs < 2 ^ 4096)\/(-(2 ^ 64) < i/\i < 2 ^ 64)\/(-(2 ^ 64) < j/\j < 2 ^ 64)
theorem MT{i:Int}(h:i.natAbs < 2 ^ 4096):Builtin.Int.intBits i<=2 ^ 20:=by
 unfold Builtin.Int.intBits;split
 ·exact ZX _
 ·rename_i hz
  have hne:i.natAbs≠0:=by
   have:¬i=0:=by simpa using hz
   lia
  have:=(Nat.log2_lt hne).mpr h
  have e:(2:Nat) ^ 20=1048576:=by decide
  lia
theorem okMul.ok{i j:Int}(h:okMul i j):IntMulOk i j:=by
 rcases h with ⟨h1,h2⟩ | h | h
 ·exact .of_bits (MT h1) (MT h2)
 ·exact CMul.ok (.inl h)
 ·exact CMul.ok (.inr h)
def okDiv(j:Int):Prop:=0 < j/\j < 2 ^ 4096
theorem okDiv.ok{i j:Int}(h:okDiv j):Builtin.divisionGoesByPylong i j=false:=by
 refine PyProof.noPylong_of_log2 ?_;obtain⟨h1,h2⟩:=h;have hne:j.natAbs≠0:=by lia
 have h3:j.natAbs < 2 ^ 4096:=by
  have e:((j.natAbs:Int))=j:=by lia
  have h2':((j.natAbs:Nat):Int) < ((2 ^ 4096:Nat):Int):=by rw[e,Int.natCast_pow];exact h2
  exact Int.ofNat_lt.mp h2'
 have:=(Nat.log2_lt hne).mpr h3
 lia
def Db(K:W.Frag):R2:=fun x y H Q=>match x,y with
 | .int i,.int j=>Q (.int (i+j)) H
 | .str a,.str b=>a.length+b.length<=sizeLine/\Q (.str (a++b)) H
 | .ref a,.ref b=>JG (.ref a) (.ref b) H Q\/J9 K (.ref a) (.ref b) H Q
 | _,_=>False
theorem Ox:OpR X (binaryOp .Add) (Db X.K):=by
 intro pins s σ H x y v u Q I rx ry q
 cases x <;> cases y <;> first
  | exact False.elim q
  | exact KU pins s σ H _ _ v u Q I rx ry ⟨_,_,rfl,rfl,q⟩
  | exact TH pins s σ H _ _ v u Q I rx ry ⟨_,_,rfl,rfl,q.1,q.2⟩
  | (rcases q with q | q
     ·exact Jq pins s σ H _ _ v u Q I rx ry q
     ·exact NW pins s σ H _ _ v u Q I rx ry q)
def Ic:R2:=fun x y H Q=>match x,y with
 | .int i,.int j=>Q (.int (i - j)) H
 | _,_=>False
theorem E5:OpR X (binaryOp .Sub) Ic:=by
 intro pins s σ H x y v u Q I rx ry q
 cases x <;> cases y <;> first
  | exact False.elim q
  | exact RC pins s σ H _ _ v u Q I rx ry ⟨_,_,rfl,rfl,q⟩
def JW:R2:=fun x y H Q=>match x,y with
 | .int i,.int j=>okMul i j/\Q (.int (i * j)) H
 | .ref a,.int k=>MY (.ref a) (.int k) H Q
 | _,_=>False
theorem CP:OpR X (binaryOp .Mult) JW:=by
 have hI:OpR X (binaryOp .Mult) (rI okMul fun i j=>.int (i * j)):=opI fun _ _ _ _ _ _ _ hc q=>mul_int q hc.ok
 intro pins s σ H x y v u Q I rx ry q
 cases x <;> cases y <;> first
  | exact False.elim q
  | exact hI pins s σ H _ _ v u Q I rx ry ⟨_,_,rfl,rfl,q.1,q.2⟩
  | exact VU pins s σ H _ _ v u Q I rx ry q
def GR:R2:=fun x y H Q=>match x,y with
 | .int i,.int j=>okDiv j/\Q (.int (i / j)) H
 | _,_=>False
theorem Ea:OpR X (binaryOp .FloorDiv) GR:=by
 have hI:OpR X (binaryOp .FloorDiv) (rI (fun _ j=>okDiv j) fun i j=>.int (i / j)):=opI fun i j _ _ _ _ _ hc q=>by
  refine floordiv_int (by have:=hc.1;lia) ?_ (.inl hc.ok);rw[Int.fdiv_eq_ediv_of_nonneg i (by have:=hc.1;lia)];exact q
 intro pins s σ H x y v u Q I rx ry q
 cases x <;> cases y <;> first
  | exact False.elim q
  | exact hI pins s σ H _ _ v u Q I rx ry ⟨_,_,rfl,rfl,q.1,q.2⟩
def Jb:R2:=fun x y H Q=>match x,y with
 | .int i,.int j=>0 < j/\Q (.int (i % j)) H
 | _,_=>False
theorem Cu:OpR X (binaryOp .Mod) Jb:=by
 intro pins s σ H x y v u Q I rx ry q
 cases x <;> cases y <;> first
  | exact False.elim q
  | exact OK pins s σ H _ _ v u Q I rx ry ⟨_,_,rfl,rfl,q.1,q.2⟩
def Jk:R2:=fun x y H Q=>match x,y with
 | .int i,.int j=>Ff i j/\Q (.int (i ^ j.toNat)) H
 | _,_=>False
theorem MJ:OpR X (binaryOp .Pow) Jk:=by
 intro pins s σ H x y v u Q I rx ry q
 cases x <;> cases y <;> first
  | exact False.elim q
  | exact WC pins s σ H _ _ v u Q I rx ry ⟨_,_,rfl,rfl,q.1,q.2⟩
def Nx(f:Int->Int->Int):R2:=fun x y H Q=>match x,y with
 | .int i,.int j=>Q (.int (f i j)) H
 | _,_=>False
theorem FU:OpR X (binaryOp .BitAnd) (Nx Builtin.bitAnd):=by
 intro pins s σ H x y v u Q I rx ry q
 cases x <;> cases y <;> first
  | exact False.elim q
  | exact SI pins s σ H _ _ v u Q I rx ry ⟨_,_,rfl,rfl,q⟩
def Sh:R2:=fun x y H Q=>match x,y with
 | .int i,.int j=>0<=j/\Q (.int (i / 2 ^ j.toNat)) H
 | _,_=>False
theorem PL:OpR X (binaryOp .RShift) Sh:=by
 intro pins s σ H x y v u Q I rx ry q
 cases x <;> cases y <;> first
  | exact False.elim q
  | exact Sw pins s σ H _ _ v u Q I rx ry ⟨_,_,rfl,rfl,q.1,q.2⟩
def HC:R2:=fun x y H Q=>match x,y with
 | .int i,.int j=>Ff i j/\Q (.int (i * 2 ^ j.toNat)) H
 | _,_=>False
theorem Nt:OpR X (binaryOp .LShift) HC:=by
 intro pins s σ H x y v u Q I rx ry q
 cases x <;> cases y <;> first
  | exact False.elim q
  | exact UB pins s σ H _ _ v u Q I rx ry ⟨_,_,rfl,rfl,q.1,q.2⟩
def Hq:V->Hp->VK->Prop:=fun x H Q=>match x with
 | .int i=>Q (.int (-i)) H
 | _=>False
theorem RH:UnR X (unaryOp .USub) Hq:=by
 intro pins s σ H x v Q I rx q
 cases x <;> first
  | exact False.elim q
  | exact OW pins s σ H _ v Q I rx ⟨_,rfl,q⟩
def DV(p:Int->Int->Bool):R2:=fun x y H Q=>match x,y with
 | .int i,.int j=>Q (.bl (p i j)) H
 | _,_=>False
theorem CQ:OpR X (compareOp .Lt) (DV fun i j=>decide (i < j)):=by
 intro pins s σ H x y v u Q I rx ry q
 cases x <;> cases y <;> first
  | exact False.elim q
  | exact Uh pins s σ H _ _ v u Q I rx ry ⟨_,_,rfl,rfl,q⟩
theorem Ob:OpR X (compareOp .LtE) (DV fun i j=>decide (i<=j)):=by
 intro pins s σ H x y v u Q I rx ry q
 cases x <;> cases y <;> first
  | exact False.elim q
  | exact Te pins s σ H _ _ v u Q I rx ry ⟨_,_,rfl,rfl,q⟩
theorem C6:OpR X (compareOp .Gt) (DV fun i j=>decide (j < i)):=by
 intro pins s σ H x y v u Q I rx ry q
 cases x <;> cases y <;> first
  | exact False.elim q
  | exact Qt pins s σ H _ _ v u Q I rx ry ⟨_,_,rfl,rfl,q⟩
theorem Hn:OpR X (compareOp .GtE) (DV fun i j=>decide (j<=i)):=by
 intro pins s σ H x y v u Q I rx ry q
 cases x <;> cases y <;> first
  | exact False.elim q
  | exact UP pins s σ H _ _ v u Q I rx ry ⟨_,_,rfl,rfl,q⟩
end
inductive Dv where
 | non | bl (b:Bool) | int (i:Int) | str (x:Str) | tup (ds:List Dv) | lst (ds:List Dv)
mutual
def Rep(K:W.Frag)(H:Hp):Dv->V->Prop
 | .non,v=>v=.non
 | .bl b,v=>v=.bl b
 | .int i,v=>v=.int i
 | .str x,v=>v=.str x
 | .tup ds,v=>∃a xs,v=.ref a/\SqT K H a xs/\Reps K H ds xs
 | .lst ds,v=>∃a xs,v=.ref a/\SqL K H a xs/\Reps K H ds xs
def Reps(K:W.Frag)(H:Hp):List Dv->List V->Prop
 | [],xs=>xs=[]
 | d::ds,xs=>∃x r,xs=x::r/\Rep K H d x/\Reps K H ds r
end
mutual
def eqD:Dv->Dv->Bool
 | .non,.non=>true
 | .bl a,.bl b=>a == b
 | .bl a,.int b=>(if a then 1 else 0) == b
 | .int a,.bl b=>a == (if b then 1 else 0)
 | .int a,.int b=>a == b
 | .str a,.str b=>a == b
 | .tup ds,.tup es=>BF ds es
 | .lst ds,.lst es=>BF ds es
 | _,_=>false
def BF:List Dv->List Dv->Bool
 | [],[]=>true
 | d::ds,e::es=>eqD d e && BF ds es
 | _,_=>false
end
mutual
def Ac:Dv->Nat
 | .tup ds=>A8 ds+1
 | .lst ds=>A8 ds+1
 | _=>0
def A8:List Dv->Nat
 | []=>0
 | d::ds=>max (Ac d) (A8 ds)
end
theorem Kl(ds es:List Dv):eqD (.tup ds) (.tup es)=BF ds es:=by rw[eqD]
theorem EF(ds es:List Dv):eqD (.lst ds) (.lst es)=BF ds es:=by rw[eqD]
theorem Reps.length:∀{ds:List Dv} {xs:List V},Reps K H ds xs->ds.length=xs.length
 | [],xs,h=>by unfold Reps at h;subst h;rfl
 | d::ds,xs,h=>by
  unfold Reps at h;obtain⟨x,r,rfl,_,h⟩:=h;rw[Zn,Zn,Reps.length h]
theorem Reps.get:∀{ds:List Dv} {xs:List V} {i:Nat} {d:Dv},Reps K H ds xs->ds[i]? = some d->∃x,xs[i]? = some x/\Rep K H d x
 | [],_,_,_,_,e=>by simp at e
 | d::ds,xs,0,_,h,e=>by
  unfold Reps at h;obtain⟨x,r,rfl,h1,_⟩:=h;simp at e;subst e;exact⟨x,rfl,h1⟩
 | d::ds,xs,i+1,_,h,e=>by
  unfold Reps at h;obtain⟨x,r,rfl,_,h⟩:=h;obtain⟨y,h1,h2⟩:=Reps.get (i:=i) h (by simpa using e);exact⟨y,by simpa using h1,h2⟩
theorem M0{d:Dv}(h:ds[i]? = some d):Ac d<=A8 ds:=by
 induction ds generalizing i with
 | nil=>simp at h
 | cons e es ih =>
  unfold A8;cases i with
  | zero=>simp at h;subst h;lia
  | succ i=>have:=ih (i:=i) (by simpa using h);lia
theorem GN:∀(ds es:List Dv),ds.length=es.length->BF ds es=(List.range ds.length).all fun i=>match ds[i]?,es[i]? with | some d,some e=>eqD d e | _,_=>false
 | [],[],_=>by unfold BF;rfl
 | d::ds,e::es,h=>by
  unfold BF;rw[Zn,List.range_succ_eq_map,List.all_cons,List.all_map,GN ds es (by simpa using h)]
  congr 1
 | [],e::es,h=>by simp at h
 | d::ds,[],h=>by simp at h
theorem G7:∀(ds es:List Dv),ds.length≠es.length->BF ds es=false
 | [],[],h=>absurd rfl h
 | [],_::_,_=>by unfold BF;rfl
 | _::_,[],_=>by unfold BF;rfl
 | d::ds,e::es,h=>by unfold BF;rw[G7 ds es (fun z=>h (by simp[z])),Bool.and_false]
mutual
theorem GU:∀d:Dv,eqD d d=true
 | .non=>by unfold eqD;rfl
 | .bl b=>by unfold eqD;simp
 | .int i=>by unfold eqD;simp
 | .str x=>by unfold eqD;simp
 | .tup ds=>by unfold eqD;exact GB ds
 | .lst ds=>by unfold eqD;exact GB ds
theorem GB:∀ds:List Dv,BF ds ds=true
 | []=>by unfold BF;rfl
 | d::ds=>by unfold BF;rw[GU d,GB ds];rfl
end
section
variable {X:Cx}{pins:List (Addr × Obj)}{σ:St}{H:Hp}{s:Shared}
theorem MV{ys:List V}(I:Inv X pins σ H s)(h:SqL X.K H a xs)(h':SqT X.K H a ys):False:=by
 obtain⟨its,_,⟨o,n,e,c,_⟩,_⟩:=I.list h;obtain⟨its',_,⟨o',e',c',_⟩,_⟩:=I.tuple h';rw[e]at e';cases e';rw[c]at c';exact absurd c' (by decide)
mutual
theorem Fz(I:Inv X pins σ H s):∀(d e:Dv) (x:V),Rep X.K H d x->Rep X.K H e x->d=e
 | .non,e,x,h,h'=>by
  unfold Rep at h;subst h;cases e <;> unfold Rep at h' <;> first | rfl | (obtain⟨a,xs,q,_⟩:=h';cases q;done) | (cases h';done)
 | .bl b,e,x,h,h'=>by
  unfold Rep at h;subst h;cases e <;> unfold Rep at h' <;> first | (obtain⟨a,xs,q,_⟩:=h';cases q;done) | (cases h';rfl) | (cases h';done)
 | .int b,e,x,h,h'=>by
  unfold Rep at h;subst h;cases e <;> unfold Rep at h' <;> first | (obtain⟨a,xs,q,_⟩:=h';cases q;done) | (cases h';rfl) | (cases h';done)
 | .str b,e,x,h,h'=>by
  unfold Rep at h;subst h;cases e <;> unfold Rep at h' <;> first | (obtain⟨a,xs,q,_⟩:=h';cases q;done) | (cases h';rfl) | (cases h';done)
 | .tup ds,e,x,h,h'=>by
  unfold Rep at h;obtain⟨a,xs,rfl,hs,hr⟩:=h;cases e with
  | tup es =>
   unfold Rep at h';obtain⟨b,ys,q,hs',hr'⟩:=h';cases q;rw[I.tuple_inj hs' hs]at hr';rw[G9 I ds es xs hr hr']
  | lst es =>
   unfold Rep at h';obtain⟨b,ys,q,hs',hr'⟩:=h';cases q;exact(MV I hs' hs).elim
  | _=>unfold Rep at h';cases h'
 | .lst ds,e,x,h,h'=>by
  unfold Rep at h;obtain⟨a,xs,rfl,hs,hr⟩:=h;cases e with
  | lst es =>
   unfold Rep at h';obtain⟨b,ys,q,hs',hr'⟩:=h';cases q;rw[I.list_inj hs' hs]at hr';rw[G9 I ds es xs hr hr']
  | tup es =>
   unfold Rep at h';obtain⟨b,ys,q,hs',hr'⟩:=h';cases q;exact(MV I hs hs').elim
  | _=>unfold Rep at h';cases h'
theorem G9(I:Inv X pins σ H s):∀(ds es:List Dv) (xs:List V),Reps X.K H ds xs->Reps X.K H es xs->ds=es
 | [],es,xs,h,h'=>by
  unfold Reps at h;subst h;cases es with
  | nil=>rfl
  | cons e es=>unfold Reps at h';obtain⟨x,r,q,_⟩:=h';cases q
 | d::ds,es,xs,h,h'=>by
  unfold Reps at h;obtain⟨x,r,rfl,h1,h2⟩:=h;cases es with
  | nil=>unfold Reps at h';cases h'
  | cons e es =>
   unfold Reps at h';obtain⟨y,r',q,h3,h4⟩:=h';cases q;rw[Fz I d e _ h1 h3,G9 I ds es _ h2 h4]
end
abbrev Eq3(A:Around)(s:Shared)(u v:Value)(b:Bool):Prop:=SeqAt.EqAt A s u v b/\SeqAt.RcAt A s u v b/\SeqAt.RcNeAt A s u v (!b)
theorem Qf {ys:List V} {es:List Dv} (I:Inv X pins σ H s) (hu:A.units < cLine) (ha:SqT X.K H a xs) (hb:SqT X.K H b ys) (hd:Reps X.K H ds xs) (he:Reps X.K H es ys)
 (ih:∀(i:Nat) (d e:Dv) (x y:V) (u v:Value),ds[i]? = some d->es[i]? = some e->xs[i]? = some x->ys[i]? = some y->RelV x u->RelV y v->SeqAt.EqAt A.in1 s u v (eqD d e)):Eq3 A s (.ref a) (.ref b) (eqD (.tup ds) (.tup es)):=by
 obtain⟨its,r1,p1,_⟩:=I.tuple ha;obtain⟨its2,r2,p2,_⟩:=I.tuple hb;have l1:=hd.length;have l2:=he.length;have l3:=r1.length;have l4:=r2.length
 have hitem:∀j (h1:j < its.toArray.size) (h2:j < its2.toArray.size),SeqAt.EqAt A.in1 s its.toArray[j] its2.toArray[j] (match ds[j]?,es[j]? with | some d,some e=>eqD d e | _,_=>false):=fun j h1 h2=>by
  rw[ZI]at h1 h2;have e1:ds[j]? = some ds[j]:=ZE (by lia);have e2:es[j]? = some es[j]:=ZE (by lia);have e3:xs[j]? = some xs[j]:=ZE (by lia);have e4:ys[j]? = some ys[j]:=ZE (by lia);obtain⟨u,q1,q2⟩:=r1.get e3;obtain⟨v,q3,q4⟩:=r2.get e4;rw[e1,e2];have z1:its.toArray[j]=u:=by rw[ZBz];rw[ZE h1]at q1;exact ZV q1
  have z2:its2.toArray[j]=v:=by rw[ZBz];rw[ZE h2]at q3;exact ZV q3
  rw[z1,z2];exact ih j _ _ _ _ _ _ e1 e2 e3 e4 q2 q4
 have val:((List.range (min its.toArray.size its2.toArray.size)).all (fun j=>match ds[j]?,es[j]? with | some d,some e=>eqD d e | _,_=>false) && its.toArray.size == its2.toArray.size)=eqD (.tup ds) (.tup es):=by
  rw[ZI,ZI,<- l3,<- l4,<- l1,<- l2,Kl]
  by_cases h:ds.length=es.length
  ·rw[h,Nat.min_self,<- h,GN ds es h];simp
  ·rw[G7 ds es h]
   have:(ds.length == es.length)=false:=by simpa using h
   rw[this,Bool.and_false]
 have R:=SeqAt.RcAt.tuples (A:=A) p1 p2 hu hitem;have N:=SeqAt.RcNeAt.tuples (A:=A) p1 p2 hu hitem;rw[val]at R N;refine⟨?_,R,N⟩
 by_cases hab:a=b
 ·subst hab
  have e:ds=es:=by
   have:=Fz I (.tup ds) (.tup es) (.ref a) (by unfold Rep;exact⟨a,xs,rfl,ha,hd⟩) (by unfold Rep;exact⟨a,ys,rfl,hb,he⟩)
   cases this;rfl
  subst e;rw[GU];exact SeqAt.EqAt.same _
 ·exact .of_refs hab R
theorem Uz {ys:List V} {es:List Dv} (I:Inv X pins σ H s) (hu:A.units < cLine) (ha:SqL X.K H a xs) (hb:SqL X.K H b ys) (hd:Reps X.K H ds xs) (he:Reps X.K H es ys)
 (ih:∀(i:Nat) (d e:Dv) (x y:V) (u v:Value),ds[i]? = some d->es[i]? = some e->xs[i]? = some x->ys[i]? = some y->RelV x u->RelV y v->SeqAt.EqAt A.in1 s u v (eqD d e)):Eq3 A s (.ref a) (.ref b) (eqD (.lst ds) (.lst es)):=by
 obtain⟨its,r1,p1,_⟩:=I.list ha;obtain⟨its2,r2,p2,_⟩:=I.list hb;have l1:=hd.length;have l2:=he.length;have l3:=r1.length;have l4:=r2.length
 have hitem:∀j (h1:j < its.toArray.size) (h2:j < its2.toArray.size),SeqAt.EqAt A.in1 s its.toArray[j] its2.toArray[j] (match ds[j]?,es[j]? with | some d,some e=>eqD d e | _,_=>false):=fun j h1 h2=>by
  rw[ZI]at h1 h2;have e1:ds[j]? = some ds[j]:=ZE (by lia);have e2:es[j]? = some es[j]:=ZE (by lia);have e3:xs[j]? = some xs[j]:=ZE (by lia);have e4:ys[j]? = some ys[j]:=ZE (by lia);obtain⟨u,q1,q2⟩:=r1.get e3;obtain⟨v,q3,q4⟩:=r2.get e4;rw[e1,e2];have z1:its.toArray[j]=u:=by rw[ZBz];rw[ZE h1]at q1;exact ZV q1
  have z2:its2.toArray[j]=v:=by rw[ZBz];rw[ZE h2]at q3;exact ZV q3
  rw[z1,z2];exact ih j _ _ _ _ _ _ e1 e2 e3 e4 q2 q4
 have RN:SeqAt.RcAt A s (.ref a) (.ref b) (eqD (.lst ds) (.lst es))/\SeqAt.RcNeAt A s (.ref a) (.ref b) (!eqD (.lst ds) (.lst es)):=by
  by_cases h:ds.length=es.length
  ·have hsz:its.toArray.size=its2.toArray.size:=by rw[ZI,ZI];lia
   have val:(List.range its.toArray.size).all (fun j=>match ds[j]?,es[j]? with | some d,some e=>eqD d e | _,_=>false)=eqD (.lst ds) (.lst es):=by
    rw[EF,ZI,<- l3,<- l1,GN ds es h]
   have R:=SeqAt.RcAt.lists (A:=A) p1.isList p2.isList hsz hu hitem;have N:=SeqAt.RcNeAt.lists (A:=A) p1.isList p2.isList hsz hu hitem;rw[val]at R N;exact⟨R,N⟩
  ·have hsz:(its.toArray.size != its2.toArray.size)=true:=by rw[ZI,ZI];simp;lia
   have val:eqD (.lst ds) (.lst es)=false:=by rw[EF];exact G7 ds es h
   rw[val];exact⟨SeqAt.RcAt.lists_lengths p1.isList p2.isList hsz hu,SeqAt.RcNeAt.lists_lengths p1.isList p2.isList hsz hu⟩
 refine⟨?_,RN.1,RN.2⟩
 by_cases hab:a=b
 ·subst hab
  have e:ds=es:=by
   have:=Fz I (.lst ds) (.lst es) (.ref a) (by unfold Rep;exact⟨a,xs,rfl,ha,hd⟩) (by unfold Rep;exact⟨a,ys,rfl,hb,he⟩)
   cases this;rfl
  subst e;rw[GU];exact SeqAt.EqAt.same _
 ·exact .of_refs hab RN.1
theorem Gb(I:Inv X pins σ H s):∀(n:Nat) (A:Around) (d e:Dv) (x y:V) (u v:Value),Ac d<=n->A.units+n < cLine->Rep X.K H d x->Rep X.K H e y->RelV x u->RelV y v->Eq3 A s u v (eqD d e):=by
 intro n
 induction n with
 | zero =>
  intro A d e x y u v hd hu hx hy ru rv;have hu':A.units < cLine:=by lia
  cases d with
  | tup ds=>unfold Ac at hd;lia
  | lst ds=>unfold Ac at hd;lia
  | non =>
   unfold Rep at hx;subst hx;cases ru;cases e <;> unfold Rep at hy
   case non=>subst hy;cases rv;exact⟨SeqAt.EqAt.same _,SeqAt.RcAt.none_none,SeqAt.RcNeAt.none_none⟩
   case bl=>subst hy;cases rv;exact⟨.none_bool _,.none_bool _,.none_bool _⟩
   case int=>subst hy;obtain⟨t,rfl⟩:=rv;exact⟨.none_int _ _,.none_int _ _,.none_int _ _⟩
   case str=>subst hy;obtain⟨t,rfl⟩:=rv;exact⟨.none_str _ _,.none_str _ _,.none_str _ _⟩
   case tup=>obtain⟨a,xs,rfl,ha,_⟩:=hy;cases rv;obtain⟨its,_,p,_⟩:=I.tuple ha;exact⟨.none_tuple p hu',.none_tuple p hu',.none_tuple p hu'⟩
   case lst=>obtain⟨a,xs,rfl,ha,_⟩:=hy;cases rv;obtain⟨its,_,p,_⟩:=I.list ha;exact⟨.none_list p.isList hu',.none_list p.isList hu',.none_list p.isList hu'⟩
  | bl c =>
   unfold Rep at hx;subst hx;cases ru;cases e <;> unfold Rep at hy
   case non=>subst hy;cases rv;exact⟨.bool_none _,.bool_none _,.bool_none _⟩
   case bl=>subst hy;cases rv;unfold eqD;exact⟨.bool_bool _ _,.bool_bool _ _,.bool_bool _ _⟩
   case int=>subst hy;obtain⟨t,rfl⟩:=rv;unfold eqD;exact⟨.bool_int _ _ _,.bool_int _ _ _,.bool_int _ _ _⟩
   case str=>subst hy;obtain⟨t,rfl⟩:=rv;exact⟨.bool_str _ _ _,.bool_str _ _ _,.bool_str _ _ _⟩
   case tup=>obtain⟨a,xs,rfl,ha,_⟩:=hy;cases rv;obtain⟨its,_,p,_⟩:=I.tuple ha;exact⟨.bool_tuple _ p hu',.bool_tuple _ p hu',.bool_tuple _ p hu'⟩
   case lst=>obtain⟨a,xs,rfl,ha,_⟩:=hy;cases rv;obtain⟨its,_,p,_⟩:=I.list ha;exact⟨.bool_list _ p.isList hu',.bool_list _ p.isList hu',.bool_list _ p.isList hu'⟩
  | int c =>
   unfold Rep at hx;subst hx;obtain⟨t0,rfl⟩:=ru;cases e <;> unfold Rep at hy
   case non=>subst hy;cases rv;exact⟨.int_none _ _,.int_none _ _,.int_none _ _⟩
   case bl=>subst hy;cases rv;unfold eqD;exact⟨.int_bool _ _ _,.int_bool _ _ _,.int_bool _ _ _⟩
   case int=>subst hy;obtain⟨t,rfl⟩:=rv;unfold eqD;exact⟨.int_int _ _ _ _,.int_int _ _ _ _,.int_int _ _ _ _⟩
   case str=>subst hy;obtain⟨t,rfl⟩:=rv;exact⟨.int_str _ _ _ _,.int_str _ _ _ _,.int_str _ _ _ _⟩
   case tup=>obtain⟨a,xs,rfl,ha,_⟩:=hy;cases rv;obtain⟨its,_,p,_⟩:=I.tuple ha;exact⟨.int_tuple _ _ p hu',.int_tuple _ _ p hu',.int_tuple _ _ p hu'⟩
   case lst=>obtain⟨a,xs,rfl,ha,_⟩:=hy;cases rv;obtain⟨its,_,p,_⟩:=I.list ha;exact⟨.int_list _ _ p.isList hu',.int_list _ _ p.isList hu',.int_list _ _ p.isList hu'⟩
  | str c =>
   unfold Rep at hx;subst hx;obtain⟨t0,rfl⟩:=ru;cases e <;> unfold Rep at hy
   case non=>subst hy;cases rv;exact⟨.str_none _ _,.str_none _ _,.str_none _ _⟩
   case bl=>subst hy;cases rv;exact⟨.str_bool _ _ _,.str_bool _ _ _,.str_bool _ _ _⟩
   case int=>subst hy;obtain⟨t,rfl⟩:=rv;exact⟨.str_int _ _ _ _,.str_int _ _ _ _,.str_int _ _ _ _⟩
   case str=>subst hy;obtain⟨t,rfl⟩:=rv;unfold eqD;exact⟨.str_str _ _ _ _,.str_str _ _ _ _,.str_str _ _ _ _⟩
   case tup=>obtain⟨a,xs,rfl,ha,_⟩:=hy;cases rv;obtain⟨its,_,p,_⟩:=I.tuple ha;exact⟨.str_tuple _ _ p hu',.str_tuple _ _ p hu',.str_tuple _ _ p hu'⟩
   case lst=>obtain⟨a,xs,rfl,ha,_⟩:=hy;cases rv;obtain⟨its,_,p,_⟩:=I.list ha;exact⟨.str_list _ _ p.isList hu',.str_list _ _ p.isList hu',.str_list _ _ p.isList hu'⟩
 | succ n ih =>
  intro A d e x y u v hd hu hx hy ru rv;have hu':A.units < cLine:=by lia
  have hin:A.in1.units+n < cLine:=by show A.units+1+n < cLine;lia
  cases d with
  | tup ds =>
   unfold Ac at hd;unfold Rep at hx;obtain⟨a,xs,rfl,ha,hr⟩:=hx;cases ru;cases e <;> unfold Rep at hy
   case tup es =>
    obtain⟨b,ys,rfl,hb,hr'⟩:=hy;cases rv;refine Qf I hu' ha hb hr hr' fun i d e x y u v e1 e2 e3 e4 ru rv=>?_
    obtain⟨x',q1,q2⟩:=hr.get e1;obtain⟨y',q3,q4⟩:=hr'.get e2;rw[e3]at q1;cases q1;rw[e4]at q3;cases q3;exact(ih A.in1 d e x y u v (by have:=M0 e1;lia) hin q2 q4 ru rv).1
   case non=>subst hy;cases rv;obtain⟨its,_,p,_⟩:=I.tuple ha;exact⟨.tuple_none p hu',.tuple_none p hu',.tuple_none p hu'⟩
   case bl=>subst hy;cases rv;obtain⟨its,_,p,_⟩:=I.tuple ha;exact⟨.tuple_bool _ p hu',.tuple_bool _ p hu',.tuple_bool _ p hu'⟩
   case int=>subst hy;obtain⟨t,rfl⟩:=rv;obtain⟨its,_,p,_⟩:=I.tuple ha;exact⟨.tuple_int _ _ p hu',.tuple_int _ _ p hu',.tuple_int _ _ p hu'⟩
   case str=>subst hy;obtain⟨t,rfl⟩:=rv;obtain⟨its,_,p,_⟩:=I.tuple ha;exact⟨.tuple_str _ _ p hu',.tuple_str _ _ p hu',.tuple_str _ _ p hu'⟩
   case lst=>obtain⟨b,ys,rfl,hb,_⟩:=hy;cases rv;obtain⟨its,_,p,_⟩:=I.tuple ha;obtain⟨its2,_,p2,_⟩:=I.list hb;exact⟨.tuple_list p p2.isList hu',.tuple_list p p2.isList hu',.tuple_list p p2.isList hu'⟩
  | lst ds =>
   unfold Ac at hd;unfold Rep at hx;obtain⟨a,xs,rfl,ha,hr⟩:=hx;cases ru;cases e <;> unfold Rep at hy
   case lst es =>
    obtain⟨b,ys,rfl,hb,hr'⟩:=hy;cases rv;refine Uz I hu' ha hb hr hr' fun i d e x y u v e1 e2 e3 e4 ru rv=>?_
    obtain⟨x',q1,q2⟩:=hr.get e1;obtain⟨y',q3,q4⟩:=hr'.get e2;rw[e3]at q1;cases q1;rw[e4]at q3;cases q3;exact(ih A.in1 d e x y u v (by have:=M0 e1;lia) hin q2 q4 ru rv).1
   case non=>subst hy;cases rv;obtain⟨its,_,p,_⟩:=I.list ha;exact⟨.list_none p.isList hu',.list_none p.isList hu',.list_none p.isList hu'⟩
   case bl=>subst hy;cases rv;obtain⟨its,_,p,_⟩:=I.list ha;exact⟨.list_bool _ p.isList hu',.list_bool _ p.isList hu',.list_bool _ p.isList hu'⟩
   case int=>subst hy;obtain⟨t,rfl⟩:=rv;obtain⟨its,_,p,_⟩:=I.list ha;exact⟨.list_int _ _ p.isList hu',.list_int _ _ p.isList hu',.list_int _ _ p.isList hu'⟩
   case str=>subst hy;obtain⟨t,rfl⟩:=rv;obtain⟨its,_,p,_⟩:=I.list ha;exact⟨.list_str _ _ p.isList hu',.list_str _ _ p.isList hu',.list_str _ _ p.isList hu'⟩
   case tup=>obtain⟨b,ys,rfl,hb,_⟩:=hy;cases rv;obtain⟨its,_,p,_⟩:=I.list ha;obtain⟨its2,_,p2,_⟩:=I.tuple hb;exact⟨.list_tuple p.isList p2 hu',.list_tuple p.isList p2 hu',.list_tuple p.isList p2 hu'⟩
  | non=>exact ih A .non e x y u v (by unfold Ac;lia) (by lia) hx hy ru rv
  | bl c=>exact ih A (.bl c) e x y u v (by unfold Ac;lia) (by lia) hx hy ru rv
  | int c=>exact ih A (.int c) e x y u v (by unfold Ac;lia) (by lia) hx hy ru rv
  | str c=>exact ih A (.str c) e x y u v (by unfold Ac;lia) (by lia) hx hy ru rv
end
section
variable {X:Cx}
def mEq(neg:Bool)(K:W.Frag):R2:=fun x y H Q=>match x,y with
 | .non,.non=>Q (.bl (neg ^^ true)) H
 | .bl a,.bl b=>Q (.bl (neg ^^ (a == b))) H
 | .int a,.int b=>Q (.bl (neg ^^ (a == b))) H
 | .str a,.str b=>Q (.bl (neg ^^ (a == b))) H
 | x,y=>∃d e,Rep K H d x/\Rep K H e y/\Ac d<=60/\Q (.bl (neg ^^ eqD d e)) H
theorem UL(hu:X.A.units+60 < cLine):OpR X (compareOp .Eq) (fun x y H Q=>∃d e,Rep X.K H d x/\Rep X.K H e y/\Ac d<=60/\Q (.bl (eqD d e)) H):=by
 intro pins s σ H x y v u Q I rx ry h;obtain⟨d,e,h1,h2,h3,q⟩:=h;exact(Gb I 60 X.A d e x y v u h3 hu h1 h2 rx ry).2.1 X.prog X.w _ _ ⟨.bl _,H,I,rfl,q⟩
theorem om_neAll(hu:X.A.units+60 < cLine):OpR X (compareOp .NotEq) (fun x y H Q=>∃d e,Rep X.K H d x/\Rep X.K H e y/\Ac d<=60/\Q (.bl (!eqD d e)) H):=by
 intro pins s σ H x y v u Q I rx ry h;obtain⟨d,e,h1,h2,h3,q⟩:=h;exact(Gb I 60 X.A d e x y v u h3 hu h1 h2 rx ry).2.2 X.prog X.w _ _ ⟨.bl _,H,I,rfl,q⟩
theorem MI{neg:Bool}{x:V}(h:mEq neg K x y H Q):∃d e,Rep K H d x/\Rep K H e y/\Ac d<=60/\Q (.bl (neg ^^ eqD d e)) H:=by
 unfold mEq at h;split at h
 ·exact⟨.non,.non,by unfold Rep;rfl,by unfold Rep;rfl,by unfold Ac;lia,by unfold eqD;exact h⟩
 ·rename_i a b;exact⟨.bl a,.bl b,by unfold Rep;rfl,by unfold Rep;rfl,by unfold Ac;lia,by unfold eqD;exact h⟩
 ·rename_i a b;exact⟨.int a,.int b,by unfold Rep;rfl,by unfold Rep;rfl,by unfold Ac;lia,by unfold eqD;exact h⟩
 ·rename_i a b;exact⟨.str a,.str b,by unfold Rep;rfl,by unfold Rep;rfl,by unfold Ac;lia,by unfold eqD;exact h⟩
 ·exact h
theorem VY(hu:X.A.units+60 < cLine):OpR X (compareOp .Eq) (mEq false X.K):=(UL hu).imp fun x y H Q h=>by
 obtain⟨d,e,h1,h2,h3,q⟩:=MI h;exact⟨d,e,h1,h2,h3,by rw[Z6]at q;exact q⟩
theorem U2(hu:X.A.units+60 < cLine):OpR X (compareOp .NotEq) (mEq true X.K):=(om_neAll hu).imp fun x y H Q h=>by
 obtain⟨d,e,h1,h2,h3,q⟩:=MI h;exact⟨d,e,h1,h2,h3,by rw[Bool.true_xor]at q;exact q⟩
end
section
variable {X:Cx}{a b c e:Expr}{es:List Expr}{ta tb tc te:TE}{tA tB':TT}{t:TA}{pos p:Pos}{x:Str}
def isB(v:V)(Q:Bool->Prop):Prop:=match v with
 | .bl c=>Q c
 | _=>False
theorem C0{Q:Bool->Prop}(h:isB v Q):∃c,v=.bl c/\Q c:=by
 cases v <;> first | exact False.elim h | exact⟨_,rfl,h⟩
def Ak(t:TE):Prop:=∀σ H (Q Q':VK),(∀v H,Q v H->Q' v H)->t σ H Q->t σ H Q'
def uB(t:TE):TT:=fun σ H Q=>t σ H fun x H1=>isB x fun c=>Q c H1
theorem AW{op:CmpOp}(ho:OpR X (compareOp op) r)(ha:PE X a ta)(hb:PE X b tb)(hm:behindInMarks op b=false:=by first | exact IB _ (by decide) (by decide) | rfl):PT X (.Compare a [op] [b] pos) (uB (tOp r ta tb)):=by
 intro pins s σ H Q I h
 refine wpAny_isTrue_Compare1 (thn (ha pins s σ H _ I h) fun v s1 ⟨x,H1,I1,r1,q1⟩=>thn (hb pins s1 σ H1 _ I1 q1) fun u s2 ⟨y,H2,I2,r2,q2⟩ =>
  thn (ho pins s2 σ H2 x y v u _ I2 r1 r2 q2) fun c s3 ⟨z,H3,I3,r3,q⟩=>?_) hm
 obtain⟨k,e,q3⟩:=C0 q;subst e;cases r3;exact ZBM ⟨H3,I3,q3⟩
theorem Bm{op:CmpOp}(ho:OpR X (compareOp op) r)(ha:PE X a ta)(hb:PE X b tb)(hm:behindInMarks op b=false:=by first | exact IB _ (by decide) (by decide) | rfl):PE X (.Compare a [op] [b] pos) (tOp r ta tb):=OL ho ha hb hm
theorem Ba(h:PE X e te)(he:∀whole,isTrue e X.env whole=(do let v <- whole;standAt e.pos;holding [v] (truthy v)):=by intro _;rfl):PT X e (uB te):=by
 intro pins s σ H Q I hq;refine isTrue_plain (thn (h pins s σ H _ I hq) fun v s1 ⟨x,H1,I1,r1,q1⟩=>?_) (he _);obtain⟨k,e,q⟩:=C0 q1;subst e;cases r1;exact ZBM ⟨H1,I1,q⟩
def Sv(r r':R2)(ta tb tc:TE):TE:=fun σ H Q=>ta σ H fun x H1=>tb σ H1 fun y H2=>r x y H2 fun z H3=>isB z fun k =>
 (if k=true then tc σ H3 fun w' H4=>r' y w' H4 Q else Q (.bl false) H3)
theorem Va {op op':CmpOp} {r':R2} (ho:OpR X (compareOp op) r) (ho':OpR X (compareOp op') r') (ha:PE X a ta) (hb:PE X b tb) (hc:PE X c tc)
 (hm:lastMarks [op,op'] [b,c]=false:=by with_unfolding_all rfl):PT X (.Compare a [op,op'] [b,c] pos) (uB (Sv r r' ta tb tc)):=by
 intro pins s σ H Q I h
 refine isTrue_chain (thn (ha pins s σ H _ I h) fun v s1 ⟨x,H1,I1,r1,q1⟩=>test_link (thn (hb pins s1 σ H1 _ I1 q1) fun u s2 ⟨y,H2,I2,r2,q2⟩ =>
  thn (ho pins s2 σ H2 x y v u _ I2 r1 r2 q2) fun d s3 ⟨z,H3,I3,r3,q⟩=>?_)) hm
 obtain⟨k,e,q3⟩:=C0 q;subst e;cases r3;refine ZBM ?_;cases k with
 | false =>
  have q3:Q false H3:=q3;exact ite_ff ⟨H3,I3,q3⟩
 | true =>
  refine ite_tt (test_last (thn (hc pins s3 σ H3 _ I3 q3) fun w' s4 ⟨z',H4,I4,r4,q4⟩=>thn (ho' pins s4 σ H4 y z' u w' _ I4 r2 r4 q4) fun d' s5 ⟨z2,H5,I5,r5,q5⟩=>?_));obtain⟨k2,e2,q5⟩:=C0 q5;subst e2;cases r5;exact ZBM ⟨H5,I5,q5⟩
def U6(ta tb:TE):TE:=fun σ H Q=>ta σ H fun x H1=>isB x fun c=>if c=true then tb σ H1 Q else Q (.bl false) H1
def vOr(ta tb:TE):TE:=fun σ H Q=>ta σ H fun x H1=>isB x fun c=>if c=true then Q (.bl true) H1 else tb σ H1 Q
def Lf(ta:TE):TE:=fun σ H Q=>ta σ H fun x H1=>isB x fun c=>Q (.bl (!c)) H1
theorem Ry(ha:PE X a ta)(hb:PE X (.BoolOp .And (b::es) pos) tb):PE X (.BoolOp .And (a::b::es) pos) (U6 ta tb):=by
 have ha':PE X a (fun σ H Q=>ta σ H fun x H1=>isB x fun c=>Q (.bl c) H1):=fun pins s σ H Q I h=>thn (ha pins s σ H _ I h) fun v s1 ⟨x,H1,I1,r1,q1⟩=>by
  obtain⟨c,e,q⟩:=C0 q1;subst e;exact⟨.bl c,H1,I1,r1,q⟩
 have h:=Rw (pos:=pos) ha' hb
 exact h.imp fun σ H Q q=>by
  show ta σ H fun x H1=>isB x fun c=>∃c',V.bl c=.bl c'/\if c'=true then tb σ H1 Q else Q (.bl false) H1
  have e:(fun(x:V) (H1:Hp)=>isB x fun c=>∃c',V.bl c=.bl c'/\if c'=true then tb σ H1 Q else Q (.bl false) H1)=fun x H1=>isB x fun c=>if c=true then tb σ H1 Q else Q (.bl false) H1:=by
   funext x H1
   cases x <;> first | rfl | (apply propext;constructor;(rintro⟨c',e,h⟩;cases e;exact h);(intro h;exact⟨_,rfl,h⟩))
  rw[e];exact q
theorem Pg(ha:PE X a ta)(hb:PE X (.BoolOp .Or (b::es) pos) tb):PE X (.BoolOp .Or (a::b::es) pos) (vOr ta tb):=by
 have ha':PE X a (fun σ H Q=>ta σ H fun x H1=>isB x fun c=>Q (.bl c) H1):=fun pins s σ H Q I h=>thn (ha pins s σ H _ I h) fun v s1 ⟨x,H1,I1,r1,q1⟩=>by
  obtain⟨c,e,q⟩:=C0 q1;subst e;exact⟨.bl c,H1,I1,r1,q⟩
 have h:=Qq (pos:=pos) ha' hb
 exact h.imp fun σ H Q q=>by
  show ta σ H fun x H1=>isB x fun c=>∃c',V.bl c=.bl c'/\if c'=true then Q (.bl true) H1 else tb σ H1 Q
  have e:(fun(x:V) (H1:Hp)=>isB x fun c=>∃c',V.bl c=.bl c'/\if c'=true then Q (.bl true) H1 else tb σ H1 Q)=fun x H1=>isB x fun c=>if c=true then Q (.bl true) H1 else tb σ H1 Q:=by
   funext x H1
   cases x <;> first | rfl | (apply propext;constructor;(rintro⟨c',e,h⟩;cases e;exact h);(intro h;exact⟨_,rfl,h⟩))
  rw[e];exact q
theorem KL(ha:PE X a ta):PE X (.UnaryOp .Not a pos) (Lf ta):=by
 have ha':PE X a (fun σ H Q=>ta σ H fun x H1=>isB x fun c=>Q (.bl c) H1):=fun pins s σ H Q I h=>thn (ha pins s σ H _ I h) fun v s1 ⟨x,H1,I1,r1,q1⟩=>by
  obtain⟨c,e,q⟩:=C0 q1;subst e;exact⟨.bl c,H1,I1,r1,q⟩
 have h:=O2 (pos:=pos) ha'
 exact h.imp fun σ H Q q=>by
  show ta σ H fun x H1=>isB x fun c=>∃c',V.bl c=.bl c'/\Q (.bl (!c')) H1
  have e:(fun(x:V) (H1:Hp)=>isB x fun c=>∃c',V.bl c=.bl c'/\Q (.bl (!c')) H1)=fun x H1=>isB x fun c=>Q (.bl (!c)) H1:=by
   funext x H1
   cases x <;> first | rfl | (apply propext;constructor;(rintro⟨c',e,h⟩;cases e;exact h);(intro h;exact⟨_,rfl,h⟩))
  rw[e];exact q
def SqA(K:W.Frag)(H:Hp)(p:Addr)(xs:List V):Prop:=SqL K H p xs\/SqT K H p xs
def mIx(K:W.Frag):R2:=fun x y H Q=>match x,y with
 | .ref p,.int i=>∃xs v,SqA K H p xs/\atI xs i=some v/\Q v H
 | .str z,.int i=>∃c,z.length<=sizeLine/\atI z.cps.toList i=some c/\Q (.str ⟨#[c]⟩) H
 | _,_=>False
theorem IxR.imp{r':R2}(h:IxR X r)(g:∀x y H Q,r' x y H Q->r x y H Q):IxR X r':=fun a b pins s σ H x y v u Q I rx ry q z=>h a b pins s σ H x y v u Q I rx ry (g _ _ _ _ q) z
theorem PC:IxR X (mIx X.K):=ix_seq.imp fun x y H Q q=>by
 cases x <;> cases y <;> first
  | exact False.elim q
  | (obtain⟨xs,v,h | h,e,q⟩:=q
     ·exact .inl ⟨_,xs,_,v,rfl,rfl,h,e,q⟩
     ·exact .inr (.inl ⟨_,xs,_,v,rfl,rfl,h,e,q⟩))
  | (obtain⟨c,hz,e,q⟩:=q
     exact .inr (.inr ⟨_,_,c,rfl,rfl,hz,e,q⟩))
theorem OR(ha:PE X a ta)(hb:PE X b tb)(hs:Ik b:=by intro _ _;rfl):PE X (.Subscript a b pos) (tOp (mIx X.K) ta tb):=O7 PC ha hb hs
def FN(K:W.Frag):List V->Hp->VK->Prop:=fun xs H Q=>match xs with
 | [x]=>∃n,MP K x H n/\Q (.int n) H
 | _=>False
theorem RG:CallR X (.builtin "len") (FN X.K):=call_len.imp fun xs H Q q=>by
 match xs,q with
 | [x],⟨n,h,q⟩=>exact⟨x,n,rfl,h,q⟩
def Hv:List V->Hp->VK->Prop:=fun xs H Q=>match xs with
 | [.int i,.int j]=>Q (.int (min i j)) H
 | _=>False
theorem Sc(hc:X.calm=true):CallR X (.builtin "min") Hv:=(Vq hc).imp fun xs H Q q=>by
 match xs,q with
 | [.int i,.int j],q =>
  refine⟨i,j,rfl,?_⟩;have e:(if j < i then j else i)=min i j:=by split <;> lia
  rw[e];exact q
def Ix:List V->Hp->VK->Prop:=fun xs H Q=>match xs with
 | [.int i]=>Q (.int i) H
 | [.bl k]=>Q (.int (if k then 1 else 0)) H
 | _=>False
theorem Hk:CallR X (.type "int") Ix:=call_int1.imp fun xs H Q q=>by
 match xs,q with
 | [.int i],q=>exact .inl ⟨i,rfl,q⟩
 | [.bl k],q=>exact .inr ⟨k,rfl,q⟩
def FB(K:W.Frag):List V->Hp->VK->Prop:=fun xs H Q=>match xs with
 | [.ref p]=>∃ys,(SqL K H p ys/\∀l,H l=none->Q (.ref l) (upd H l (.tup ys)))\/(SqT K H p ys/\Q (.ref p) H)
 | _=>False
theorem WB:CallR X (.type "tuple") (FB X.K):=call_tuple_of.imp fun xs H Q q=>by
 match xs,q with
 | [.ref p],⟨ys,q⟩=>exact⟨p,ys,rfl,q⟩
def Md(K:W.Frag):List V->Hp->VK->Prop:=fun xs H Q=>match xs with
 | [.ref p]=>∃ys,SqA K H p ys/\∀l,H l=none->Q (.ref l) (upd H l (.lst ys))
 | _=>False
theorem Sk:CallR X (.type "list") (Md X.K):=call_list_of.imp fun xs H Q q=>by
 match xs,q with
 | [.ref p],⟨ys,h,q⟩=>exact⟨p,ys,rfl,h,q⟩
def Ll(K:W.Frag)(T:String)(x:V)(H:Hp)(b:Bool):Prop:=match x with
 | .non=>b=(T == "NoneType")
 | .bl _=>b=(T == "bool" || T == "int")
 | .int _=>b=(T == "int")
 | .str _=>b=(T == "str")
 | .ref a=>(∃xs,(H a=some (.lst xs)\/∃o,H a=some (.frz o (.lst xs)))/\b=(T == "list"))\/(∃xs,H a=some (.tup xs)/\b=(T == "tuple"))\/((∃kvs,H a=some (.dK kvs))/\b=(T == "dict"))\/((∃kvs,H a=some (.dT kvs))/\b=(T == "dict"))
 | _=>False
def kinds:List String:=["int","bool","str","tuple","list","dict"]
theorem Rk(K:W.Frag):∀T∈kinds,PySem.W.kitOne K (.type "NoneType") (.type T)=some (T == "NoneType")/\PySem.W.kitOne K (.type "bool") (.type T)=some (T == "bool" || T == "int") /\
 PySem.W.kitOne K (.type "int") (.type T)=some (T == "int")/\PySem.W.kitOne K (.type "str") (.type T)=some (T == "str")/\PySem.W.kitOne K (.type "list") (.type T)=some (T == "list") /\
 PySem.W.kitOne K (.type "tuple") (.type T)=some (T == "tuple")/\PySem.W.kitOne K (.type "dict") (.type T)=some (T == "dict"):=by
 intro T h;unfold kinds at h
 rcases ZF.mp h with rfl | h
 ·exact⟨rfl,rfl,rfl,rfl,rfl,rfl,rfl⟩
 rcases ZF.mp h with rfl | h
 ·exact⟨rfl,rfl,rfl,rfl,rfl,rfl,rfl⟩
 rcases ZF.mp h with rfl | h
 ·exact⟨rfl,rfl,rfl,rfl,rfl,rfl,rfl⟩
 rcases ZF.mp h with rfl | h
 ·exact⟨rfl,rfl,rfl,rfl,rfl,rfl,rfl⟩
 rcases ZF.mp h with rfl | h
 ·exact⟨rfl,rfl,rfl,rfl,rfl,rfl,rfl⟩
 rcases ZF.mp h with rfl | h
 ·exact⟨rfl,rfl,rfl,rfl,rfl,rfl,rfl⟩
 ·exact absurd h (by simp)
theorem Uo{T:String}{k:Bool}(hT:T∈kinds)(h:Ll K T v H k):∃ty,TyOf K H v ty/\PySem.W.kitOne K ty (.type T)=some k:=by
 obtain⟨k1,k2,k3,k4,k5,k6,k7⟩:=Rk K T hT;cases v with
 | non=>cases (show k=_ from h);exact⟨_,.non,k1⟩
 | bl _=>cases (show k=_ from h);exact⟨_,.bl _,k2⟩
 | int _=>cases (show k=_ from h);exact⟨_,.int _,k3⟩
 | str _=>cases (show k=_ from h);exact⟨_,.str _,k4⟩
 | ref q =>
  rcases h with ⟨xs,h | ⟨o,h⟩,e⟩ | ⟨xs,h,e⟩ | ⟨⟨kvs,h⟩,e⟩ | ⟨⟨kvs,h⟩,e⟩
  ·subst e;exact⟨_,.lst h,k5⟩
  ·subst e;exact⟨_,.frz h,k5⟩
  ·subst e;exact⟨_,.tup h,k6⟩
  ·subst e;exact⟨_,.dK h,k7⟩
  ·subst e;exact⟨_,.dT h,k7⟩
 | _=>exact False.elim h
def SN(K:W.Frag):List V->Hp->VK->Prop:=fun xs H Q=>match xs with
 | [x,.ty T]=>T∈kinds/\∃k,Ll K T x H k/\Q (.bl k) H
 | _=>False
theorem NS:CallR X (.builtin "isinstance") (SN X.K):=by
 intro pins s σ H xs us Q I r q
 match xs,q with
 | [x,.ty T],q =>
  obtain⟨hT,k,h,q⟩:=q;obtain⟨u,w',rfl,ru,rw'⟩:=EQ r;cases rw';obtain⟨ty,h1,h2⟩:=Uo hT h;exact Rp I ru h1 h2 fun tk=>⟨.bl k,H,I.tok _,rfl,q⟩
end
def FH(scope sc:Scope):Bool :=
 decide (scope.kind=.function) && decide (scope.names.map (·.1)).Nodup && scope.names.all fun y=>!(y.2 == .free) || (sc.names.lookup y.1 == some .cell || sc.names.lookup y.1 == some .free)
theorem CompScope.of{scope sc:Scope}(h:FH scope sc=true):CompScope scope sc:=by
 unfold FH at h;rw[Zb,Zb]at h;obtain⟨⟨h1,h2⟩,h3⟩:=h;refine⟨ZQ h1,ZQ h2,fun y hy hf=>?_⟩
 have:=ZBn.mp h3 y hy
 rw[hf]at this
 rcases(Bool.or_eq_true _ _).mp this with z | z
 ·exact absurd z (by decide)
 ·rcases(Bool.or_eq_true _ _).mp z with z | z
  ·exact .inl (by simpa using z)
  ·exact .inr (by simpa using z)
section
variable {X:Cx}{tg iter elt:Expr}{ifs:List Expr}{scope:Scope}{pos:Pos}{N':List Str}{own:Nat}{ix:List Nat}{g:TG}{tc:TT}{te:TE}{wi:TI}
theorem frB{l:List Str}(h:(l.all fun x=>scope.names.lookup x == some .free)=true):∀x∈l,scope.names.lookup x=some .free:=fun x hx=>by
 have:=ZBn.mp h x hx
 simpa using this
theorem Aq (hc:X.calm=true) (hi:PI X tg iter wi) (S:FH scope X.env.scope=true)
 (hlen:N'.length=own+ix.length) (hN:(N'.drop own).map some=ix.map (X.N[·]?)) (hfr:((N'.drop own).all fun x=>scope.names.lookup x == some .free)=true)
 (hg:∀c,PG (X.comp scope N' c) tg g) (hgo:Cv own g) (ht:∀c,PTs (X.comp scope N' c) ifs tc) (he:∀c,PE (X.comp scope N' c) elt te)
 (hs:∀x,foldedSetIterable iter X.env x=pure x:=by intro _;rfl):PE X (.ListComp elt [⟨tg,iter,ifs,0⟩] scope pos) (EW wi own ix g tc te) :=
 So hc hi (.of S) hlen hN (frB hfr) hg hgo ht he hs
theorem Df {i:Nat} {y:Str} {py spos:Pos} (hc:X.calm=true) (hnd:X.N.Nodup) (hiy:X.N[i]? = some y) (hy:X.env.scope.names.lookup y=some .local) (hi:PI X tg iter wi) (S:FH scope X.env.scope=true)
 (hlen:N'.length=own+ix.length) (hN:(N'.drop own).map some=ix.map (X.N[·]?)) (hfr:((N'.drop own).all fun x=>scope.names.lookup x == some .free)=true)
 (hg:∀c,PG (X.comp scope N' c) tg g) (hgo:Cv own g) (ht:∀c,PTs (X.comp scope N' c) ifs tc) (he:∀c,PE (X.comp scope N' c) elt te)
 (hsw:swapsWith (.ListComp elt [⟨tg,iter,ifs,0⟩] scope pos) (some (.Name y py)) spos.line X.env=pure true)
 (hs:∀x,foldedSetIterable iter X.env x=pure x:=by intro _;rfl):PS X (.Assign [.Name y py] (.ListComp elt [⟨tg,iter,ifs,0⟩] scope pos) spos) (D3 (EW wi own ix g tc te) (AT i)) :=
 Vp hc hnd hiy hy hi (.of S) hlen hN (frB hfr) hg hgo ht he hsw hs
def JJ(K:W.Frag)(tl:TE):TI:=fun σ H R=>tl σ H fun x H1=>match x with
 | .ref a=>((∃xs,SqL K H1 a xs)/\R (Itl K a) H1)\/((∃xs,SqT K H1 a xs)/\R (Itt K a) H1)
 | _=>False
theorem R0{l:Expr}{tl:TE}(hl:PE X l tl):PI X tg l (JJ X.K tl):=by
 intro pins s σ H R I h;refine thn (hl pins s σ H _ I h) fun v s1 ⟨x,H1,I1,r1,q1⟩=>?_
 cases x with
 | ref a =>
  cases r1
  rcases q1 with ⟨⟨xs,hq⟩,q⟩ | ⟨⟨xs,hq⟩,q⟩
  ·obtain⟨its,rv,p,hz⟩:=I1.list hq;refine wpAny_pyIter_list p.isList ?_;refine⟨s1.heap.objs.size,[s1.heap.objs.size],_,_,H1,rfl,I1.kept (t':=s1.toks) fun b o e=>ZH _ e,SS a _,⟨_,ZN _ rfl,rfl,rfl⟩,fun b hb=>?_,q⟩;have e:b=s1.heap.objs.size:=by simpa using hb
   subst e;exact I1.fpOk (ZD _) (I1.hok.fresh (ZD _))
  ·obtain⟨its,rv,p,hz⟩:=I1.tuple hq;refine wpAny_pyIter_tuple (show s1.heap.IsTuple a its.toArray from p) ?_;refine⟨s1.heap.objs.size,[s1.heap.objs.size],_,_,H1,rfl,I1.kept (t':=s1.toks) fun b o e=>ZH _ e,Rc a _,⟨_,ZN _ rfl,rfl,rfl⟩,fun b hb=>?_,q⟩;have e:b=s1.heap.objs.size:=by simpa using hb
   subst e;exact I1.fpOk (ZD _) (I1.hok.fresh (ZD _))
 | _=>exact False.elim q1
def IM:D4:=fun o i v H Q=>match o,i with
 | .ref p,.int k=>∃xs j,H p=some (.lst xs)/\ixN xs.length k=some j/\Q (upd H p (.lst (xs.set j v)))
 | _,_=>False
theorem Dq:II X IM:=by
 intro pins s σ H o i v ov iv u Q I ro ri rv h
 cases o <;> cases i <;> first
  | exact False.elim h
  | (obtain⟨xs,j,h1,h2,q⟩:=h
     exact P0 pins s σ H _ _ v ov iv u Q I ro ri rv ⟨_,xs,_,j,rfl,rfl,h1,h2,q⟩)
theorem DJ (Pv:Nat->List V->Hp->Prop) (h0:Pv 0 [] H) (hl:∀i ys H,i<=xs.length->Pv i ys H->SqL K H a xs) (hz:∀i ys H,i < xs.length->Pv i ys H->ys.length < sizeLine)
 (hs:∀i x ys H,xs[i]? = some x->Pv i ys H->g x σc H fun σ2 H2=>tc σ2 H2 fun b H3=>if b=true then te σ2 H3 fun y H4=>Pv (i+1) (ys++[y]) H4 else Pv (i+1) ys H3)
 (hd:∀ys H,Pv xs.length ys H->∀p,H p=none->Q (.ref p) (upd H p (.lst ys))):Co (Itl K a) g tc te σc Q H:=by
 refine⟨fun i m ys H=>m=xs.length - i/\i<=xs.length/\Pv i ys H,⟨xs.length,by simp,ZX _,h0⟩,?_⟩;rintro i m ys H ⟨rfl,hi,p⟩;have q:=hl i ys H hi p
 by_cases hlt:i < xs.length
 ·refine .inr ⟨⟨xs,xs[i],q,by simp[hlt]⟩,hz i ys H hlt p,Pv (i+1),fun ys' H' p'=>⟨xs.length - (i+1),by lia,rfl,hlt,p'⟩,fun x H' y=>?_⟩;obtain⟨e,y⟩:=y;subst e;exact hs i x ys _ (y xs q) p
 ·have e:i=xs.length:=by lia
  subst e;exact .inl ⟨⟨xs,q,ZD _⟩,hd ys H p⟩
theorem CG (Pv:Nat->List V->Hp->Prop) (h0:Pv 0 [] H) (hl:∀i ys H,i<=xs.length->Pv i ys H->SqT K H a xs) (hz:∀i ys H,i < xs.length->Pv i ys H->ys.length < sizeLine)
 (hs:∀i x ys H,xs[i]? = some x->Pv i ys H->g x σc H fun σ2 H2=>tc σ2 H2 fun b H3=>if b=true then te σ2 H3 fun y H4=>Pv (i+1) (ys++[y]) H4 else Pv (i+1) ys H3)
 (hd:∀ys H,Pv xs.length ys H->∀p,H p=none->Q (.ref p) (upd H p (.lst ys))):Co (Itt K a) g tc te σc Q H:=by
 refine⟨fun i m ys H=>m=xs.length - i/\i<=xs.length/\Pv i ys H,⟨xs.length,by simp,ZX _,h0⟩,?_⟩;rintro i m ys H ⟨rfl,hi,p⟩;have q:=hl i ys H hi p
 by_cases hlt:i < xs.length
 ·refine .inr ⟨⟨xs,xs[i],q,by simp[hlt]⟩,hz i ys H hlt p,Pv (i+1),fun ys' H' p'=>⟨xs.length - (i+1),by lia,rfl,hlt,p'⟩,fun x H' y=>?_⟩;obtain⟨e,y⟩:=y;subst e;exact hs i x ys _ (y xs q) p
 ·have e:i=xs.length:=by lia
  subst e;exact .inl ⟨⟨xs,q,ZD _⟩,hd ys H p⟩
theorem BQ {lo:Int} (Pv:Nat->List V->Hp->Prop) (h0:Pv 0 [] H) (hz:∀i ys H,i < n->Pv i ys H->ys.length < sizeLine)
 (hs:∀i ys H,i < n->Pv i ys H->g (.int (lo+i)) σc H fun σ2 H2=>tc σ2 H2 fun b H3=>if b=true then te σ2 H3 fun y H4=>Pv (i+1) (ys++[y]) H4 else Pv (i+1) ys H3)
 (hd:∀ys H,Pv n ys H->∀p,H p=none->Q (.ref p) (upd H p (.lst ys))):Co (Itr lo n) g tc te σc Q H:=by
 refine⟨fun i m ys H=>m=n - i/\i<=n/\Pv i ys H,⟨n,by simp,ZX _,h0⟩,?_⟩;rintro i m ys H ⟨rfl,hi,p⟩
 by_cases hlt:i < n
 ·refine .inr ⟨hlt,hz i ys H hlt p,Pv (i+1),fun ys' H' p'=>⟨n - (i+1),by lia,rfl,hlt,p'⟩,fun x H' y=>?_⟩;obtain⟨e,y⟩:=y;subst e y;exact hs i ys _ hlt p
 ·have e:i=n:=by lia
  subst e;exact .inl ⟨ZD _,hd ys H p⟩
def LD(c:TT)(tb:TS):TS:=fun D σ H=>∃W:Nat->St->Hp->Prop,(∃m,W m σ H)/\∀m σ H,W m σ H ->
 c σ H fun b H1=>if b=true then tb { D with nx:=fun σ' H'=>∃m',m' < m/\W m' σ' H',ct:=fun σ' H'=>∃m',m' < m/\W m' σ' H',bk:=D.nx } σ H1 else D.nx σ H1
theorem GH{c:Expr}{body:List Stmt}{tc:TT}{tb:TS}(hp:PassesOwn (model X.prog X.w) X.A X.env X.xe)(hc:PT X c tc)(hb:PSs X body tb):PS X (.While c body [] pos) (LD tc tb):=by
 intro pins s σ H D I h;obtain⟨W,⟨m0,w0⟩,turn⟩:=h;refine wpAny_While (codeAny_whileLoop (fun n s'=>∃σ' H',Inv X pins σ' H' s'/\W n σ' H') ?_ m0 ⟨σ,H,I,w0⟩);rintro n s1 ⟨σ1,H1,I1,w1⟩;refine wpAny_passesOwn hp (thn (hc pins s1 σ1 H1 _ I1 (turn n σ1 H1 w1)) fun b s2 ⟨H2,I2,q2⟩=>?_);cases b with
 | true =>
  rw[if_pos rfl]at q2;rw[if_pos rfl];refine wpAny_passesOwn hp (thn (hb pins s2 σ1 H2 _ I2 q2) fun f s3 q3=>?_);cases f with
  | next =>
   obtain⟨σ3,H3,I3,m',hm,w3⟩:=q3;exact⟨m',hm,σ3,H3,I3,w3⟩
  | cont =>
   obtain⟨σ3,H3,I3,m',hm,w3⟩:=q3;exact⟨m',hm,σ3,H3,I3,w3⟩
  | brk=>exact q3
  | ret v=>exact q3
 | false =>
  rw[if_neg Zq]at q2;rw[if_neg Zq];exact wpAny_execs_nil ⟨σ1,H2,I2,q2⟩
end
theorem Aa{k:Nat}(hr:Room k A):A.units+60 < cLine:=by have:=hr.un;lia
def Frm(t:Addr)(H H':Hp):Prop:=∀b o,b≠t->H b=some o->H' b=some o
theorem Frm.refl{t:Addr}:Frm t H H:=fun _ _ _ h=>h
theorem Frm.trans{t:Addr}{H1 H2:Hp}(a:Frm t H H1)(b:Frm t H1 H2):Frm t H H2:=fun c o n h=>b c o n (a c o n h)
theorem Frm.upd{t:Addr}(h:H p=none):Frm t H (upd H p o):=fun b u _ e=>by rw[AI (BW e h)];exact e
theorem Frm.updT{t:Addr}:Frm t H (L2.upd H t o):=fun b u n e=>by rw[AI n];exact e
theorem Same.upd(h:H p=none):Same H (L2.upd H p o):=fun b u e=>by rw[AI (BW e h)];exact e
theorem Same.frm{t:Addr}(h:Same H H'):Frm t H H':=fun b o _ e=>h b o e
theorem NE(h:SqL K H a xs)(k:∀o,H a=some o->H' a=some o):SqL K H' a xs:=by
 rcases h with (h | ⟨o,h⟩) | h
 ·exact .inl (.inl (k _ h))
 ·exact .inl (.inr ⟨o,k _ h⟩)
 ·exact .inr h
theorem FI(h:SqT K H a xs)(k:∀o,H a=some o->H' a=some o):SqT K H' a xs:=by
 rcases h with (h | ⟨o,h⟩) | h
 ·exact .inl (.inl (k _ h))
 ·exact .inl (.inr ⟨o,k _ h⟩)
 ·exact .inr h
def ScrAt(K:W.Frag)(H:Hp)(t a:Addr)(ns:List Int):Prop :=
 (Rd H a (.lst (ns.map V.int))/\a≠t)\/∃(o:Obj) (its:Array Value) (n:Nat),K.lookup a=some o/\o.cls=.type "list" /\ o.dict=none/\o.data=.seq its n/\its.size<=sizeLine/\Vals (ns.map V.int) its.toList
theorem ScrAt.stay{t:Addr}(h:ScrAt K H t a ns)(k:∀o,a≠t->H a=some o->H' a=some o):ScrAt K H' t a ns:=by
 rcases h with ⟨h | ⟨o,h⟩,n⟩ | h
 ·exact .inl ⟨.inl (k _ n h),n⟩
 ·exact .inl ⟨.inr ⟨o,k _ n h⟩,n⟩
 ·exact .inr h
theorem ScrAt.of{t:Addr}(h:SqL K H a (ns.map V.int))(ht:H t=none):ScrAt K H t a ns:=by
 rcases h with h | h
 ·refine .inl ⟨h,fun e=>?_⟩;subst e
  rcases h with h | ⟨o,h⟩ <;> rw[ht]at h <;> cases h
 ·exact .inr h
structure Tape(K:W.Frag)(H:Hp)(t a:Addr)(ns:List Int):Prop where
 at_:∃i r c:Int,0<=i/\0<=r/\H t=some (.lst [.ref a,.int i,.int r,.int c])
 scr:ScrAt K H t a ns
theorem Tape.frm{t:Addr}(T:Tape K H t a ns)(h:Frm t H H')(ht:H' t=H t):Tape K H' t a ns :=
 ⟨by rw[ht];exact T.at_,T.scr.stay fun o n e=>h a o n e⟩
theorem Tape.free{t:Addr}(T:Tape K H' t a ns)(h:Frm t H H')(hp:H' p=none):H p=none:=by
 cases e:H p with
 | none=>rfl
 | some o =>
  by_cases hpt:p=t
  ·subst hpt;obtain⟨i,r,c,_,_,h3⟩:=T.at_;rw[h3]at hp;cases hp
  ·rw[h p o hpt e]at hp;cases hp
theorem A2{i:Int}(h:i=(n:Int))(hx:xs[n]? = some v):atI xs i=some v:=by
 subst h;have hn:n < xs.length:=(Zm.mp hx).1;unfold atI ixN;rw[if_pos (ZB5 n),if_pos (by lia)];simpa using hx
theorem UX{i:Int}(h0:0<=i)(h1:i < ns.length):∃z,atI (ns.map V.int) i=some (.int z):=by
 obtain⟨n,rfl⟩:=Int.eq_ofNat_of_zero_le h0;have hn:n < ns.length:=by lia
 exact⟨ns[n],A2 rfl (by rw[ZR,ZE hn];rfl)⟩
theorem Ax{j:Int}(h1:0 < j)(h2:j<=2 ^ 1000):okDiv j:=⟨h1,Int.lt_of_le_of_lt h2 (by decide)⟩
theorem Ce(h:n<=1000):n<=sizeLine:=Zs (Af h)
theorem smq(h:Nat.ble n 1000=true):n<=sizeLine:=Ce (Nat.le_of_ble_eq_true h)
def Bt(t:TT):Prop:=∀σ H (Q Q':Bool->Hp->Prop),(∀b H,Q b H->Q' b H)->t σ H Q->t σ H Q'
def CC(t:TA):Prop:=∀σ H (Q Q':List V->Hp->Prop),(∀b H,Q b H->Q' b H)->t σ H Q->t σ H Q'
def Bd(r:R2):Prop:=∀x y H (Q Q':VK),(∀v H,Q v H->Q' v H)->r x y H Q->r x y H Q'
def KI(r:V->Hp->VK->Prop):Prop:=∀x H (Q Q':VK),(∀v H,Q v H->Q' v H)->r x H Q->r x H Q'
def CK(r:List V->Hp->VK->Prop):Prop:=∀xs H (Q Q':VK),(∀v H,Q v H->Q' v H)->r xs H Q->r xs H Q'
def E1(r:V->List V->Hp->VK->Prop):Prop:=∀x xs H (Q Q':VK),(∀v H,Q v H->Q' v H)->r x xs H Q->r x xs H Q'
def Ai(sp:Sp):Prop:=∀vs H (Q Q':VK) E,(∀v H,Q v H->Q' v H)->sp vs H Q E->sp vs H Q' E
def EE(t:TI):Prop:=∀σ H (Q Q':It->Hp->Prop),(∀J H,Q J H->Q' J H)->t σ H Q->t σ H Q'
def K5(t:D4):Prop:=∀o i v H (Q Q':Hp->Prop),(∀H,Q H->Q' H)->t o i v H Q->t o i v H Q'
structure Ends.le(D D':Ends):Prop where
 nx:∀σ H,D.nx σ H->D'.nx σ H
 rt:∀v H,D.rt v H->D'.rt v H
 bk:∀σ H,D.bk σ H->D'.bk σ H
 ct:∀σ H,D.ct σ H->D'.ct σ H
def BS(t:TS):Prop:=∀D D' σ H,Ends.le D D'->t D σ H->t D' σ H
theorem VB:Ak (GD i):=fun σ H Q Q' h q=>by
 unfold GD at *;split at q
 ·exact h _ _ q
 ·exact q.elim
theorem Vo:Ak (tC v):=fun _ _ _ _ h q=>h _ _ q
theorem QQ{tb:TE}(hr:Bd r)(ha:Ak ta)(hb:Ak tb):Ak (tOp r ta tb):=fun σ H Q Q' h q=>ha _ _ _ _ (fun _ _ q=>hb _ _ _ _ (fun _ _ q=>hr _ _ _ _ _ h q) q) q
theorem UN{r:V->Hp->VK->Prop}(hr:KI r)(ha:Ak ta):Ak (tUn r ta):=fun σ H Q Q' h q=>ha _ _ _ _ (fun _ _ q=>hr _ _ _ _ h q) q
theorem Oi{K}:Bd (Db K):=fun x y H Q Q' h q=>by
 unfold Db at *;split at q
 ·exact h _ _ q
 ·exact⟨q.1,h _ _ q.2⟩
 ·rcases q with ⟨l,b,xs,zs,e1,e2,h1,h2,h3,q⟩ | ⟨a,b,xs,ys,e1,e2,h1,h2,h3,h4,q1,q2⟩
  ·exact .inl ⟨l,b,xs,zs,e1,e2,h1,h2,h3,fun p hp=>h _ _ (q p hp)⟩
  ·exact .inr ⟨a,b,xs,ys,e1,e2,h1,h2,h3,h4,fun e=>h _ _ (q1 e),fun e p hp=>h _ _ (q2 e p hp)⟩
 ·exact q.elim
theorem PZ:Bd Ic:=fun x y H Q Q' h q=>by unfold Ic at *;split at q <;> first | exact h _ _ q | exact q.elim
theorem VS:Bd JW:=fun x y H Q Q' h q=>by
 unfold JW at *;split at q
 ·exact⟨q.1,h _ _ q.2⟩
 ·obtain⟨l,k,xs,e1,e2,h1,h2,h3,h4,q⟩:=q;exact⟨l,k,xs,e1,e2,h1,h2,h3,h4,fun p hp=>h _ _ (q p hp)⟩
 ·exact q.elim
theorem Wa:Bd GR:=fun x y H Q Q' h q=>by unfold GR at *;split at q <;> first | exact⟨q.1,h _ _ q.2⟩ | exact q.elim
theorem QW:Bd Jb:=fun x y H Q Q' h q=>by unfold Jb at *;split at q <;> first | exact⟨q.1,h _ _ q.2⟩ | exact q.elim
theorem SA:Bd Jk:=fun x y H Q Q' h q=>by unfold Jk at *;split at q <;> first | exact⟨q.1,h _ _ q.2⟩ | exact q.elim
theorem VN:Bd HC:=fun x y H Q Q' h q=>by unfold HC at *;split at q <;> first | exact⟨q.1,h _ _ q.2⟩ | exact q.elim
theorem QM:KI Hq:=fun x H Q Q' h q=>by unfold Hq at *;split at q <;> first | exact h _ _ q | exact q.elim
theorem Vt{p}:Bd (DV p):=fun x y H Q Q' h q=>by unfold DV at *;split at q <;> first | exact h _ _ q | exact q.elim
theorem Pe{n K}:Bd (mEq n K):=fun x y H Q Q' h q=>by
 unfold mEq at *;split at q <;> first | exact h _ _ q | (obtain⟨d,e,h1,h2,h3,q⟩:=q;exact⟨d,e,h1,h2,h3,h _ _ q⟩)
theorem Oj{K}:Bd (mIx K):=fun x y H Q Q' h q=>by
 unfold mIx at *;split at q
 ·obtain⟨xs,v,h1,h2,q⟩:=q;exact⟨xs,v,h1,h2,h _ _ q⟩
 ·obtain⟨c,h1,h2,q⟩:=q;exact⟨c,h1,h2,h _ _ q⟩
 ·exact q.elim
theorem LX{Q Q':Bool->Prop}(h:∀b,Q b->Q' b)(q:isB v Q):isB v Q':=by
 cases v <;> first | exact h _ q | exact q
theorem Pq{t:TE}(h:Ak t):Bt (uB t):=fun σ H Q Q' k q=>h _ _ _ _ (fun _ _ q=>LX (fun b q=>k b _ q) q) q
theorem VP(ha:Ak ta):Ak (Lf ta):=fun σ H Q Q' h q=>ha _ _ _ _ (fun _ _ q=>LX (fun b q=>h _ _ q) q) q
theorem N6{t:TT}{tb:TE}(ht:Bt t)(ha:Ak ta)(hb:Ak tb):Ak (tIf t ta tb):=fun σ H Q Q' h q=>ht _ _ _ _ (fun b _ q=>by
 cases b with
 | true=>exact ha _ _ _ _ h q
 | false=>exact hb _ _ _ _ h q) q
theorem Of{t u:TT}(ht:Bt t)(hu:Bt u):Bt (NB t u):=fun σ H Q Q' h q=>ht _ _ _ _ (fun b _ q=>by
 cases b with
 | true=>exact hu _ _ _ _ h q
 | false=>exact h _ _ q) q
theorem WS{t u:TT}(ht:Bt t)(hu:Bt u):Bt (tOr t u):=fun σ H Q Q' h q=>ht _ _ _ _ (fun b _ q=>by
 cases b with
 | true=>exact h _ _ q
 | false=>exact hu _ _ _ _ h q) q
theorem OG{t:TT}(ht:Bt t):Bt (K3 t):=fun σ H Q Q' h q=>ht _ _ _ _ (fun b _ q=>h _ _ q) q
theorem OI:CC FS:=fun _ _ _ _ h q=>h _ _ q
theorem PR{t:TA}(ha:Ak ta)(ht:CC t):CC (HA ta t):=fun σ H Q Q' h q=>ha _ _ _ _ (fun _ _ q=>ht _ _ _ _ (fun _ _ q=>h _ _ q) q) q
theorem SE{r}{t:TA}(hr:CK r)(ht:CC t):Ak (tCB r t):=fun σ H Q Q' h q=>ht _ _ _ _ (fun _ _ q=>hr _ _ _ _ h q) q
theorem Ve{sp dvs E}{t:TA}(hs:Ai sp)(ht:CC t):Ak (Kj sp dvs E t):=fun σ H Q Q' h q=>ht _ _ _ _ (fun _ _ q=>hs _ _ _ _ _ h q) q
theorem R9{t:TA}(ht:CC t):Ak (Ka t):=fun σ H Q Q' h q=>ht _ _ _ _ (fun _ _ q=>⟨q.1,fun p hp=>h _ _ (q.2 p hp)⟩) q
theorem T8{t:TA}(ht:CC t):Ak (Lu t):=fun σ H Q Q' h q=>ht _ _ _ _ (fun _ _ q=>⟨q.1,fun p hp=>h _ _ (q.2 p hp)⟩) q
theorem P8{wi own ix g tc te}(hi:EE wi):Ak (EW wi own ix g tc te):=fun σ H Q Q' h q=>hi _ _ _ _ (fun J H1 q=>by
 obtain⟨W,w0,turn⟩:=q;refine⟨W,w0,fun i m ys H w=>?_⟩
 rcases turn i m ys H w with ⟨a,b⟩ | r
 ·exact .inl ⟨a,fun p hp=>h _ _ (b p hp)⟩
 ·exact .inr r) q
theorem QR{K}:CK (FN K):=fun xs H Q Q' h q=>by unfold FN at *;split at q <;> first | (obtain⟨n,a,q⟩:=q;exact⟨n,a,h _ _ q⟩) | exact q.elim
theorem Od:CK Hv:=fun xs H Q Q' h q=>by unfold Hv at *;split at q <;> first | exact h _ _ q | exact q.elim
theorem PU:CK Ix:=fun xs H Q Q' h q=>by unfold Ix at *;split at q <;> first | exact h _ _ q | exact q.elim
theorem Us{K}:CK (FB K):=fun xs H Q Q' h q=>by
 unfold FB at *;split at q
 ·obtain⟨ys,⟨a,q⟩ | ⟨a,q⟩⟩:=q
  ·exact⟨ys,.inl ⟨a,fun l hl=>h _ _ (q l hl)⟩⟩
  ·exact⟨ys,.inr ⟨a,h _ _ q⟩⟩
 ·exact q.elim
theorem PV{K}{tl:TE}(h:Ak tl):EE (JJ K tl):=fun σ H Q Q' k q=>h _ _ _ _ (fun v H1 q=>by
 cases v <;> first | exact q.elim | (rcases q with ⟨a,q⟩ | ⟨a,q⟩
                                     ·exact .inl ⟨a,k _ _ q⟩
                                     ·exact .inr ⟨a,k _ _ q⟩)) q
theorem Vy{ta:TA}(h:CC ta):EE (NH ta):=fun σ H Q Q' k q=>h _ _ _ _ (fun _ _ ⟨j,e,a,b,q⟩=>⟨j,e,a,b,k _ _ q⟩) q
theorem WU{ta:TA}(h:CC ta):EE (Nq ta):=fun σ H Q Q' k q=>h _ _ _ _ (fun _ _ ⟨i,j,e,a,q⟩=>⟨i,j,e,a,k _ _ q⟩) q
theorem P4:K5 IM:=fun o i v H Q Q' h q=>by
 unfold IM at *;split at q
 ·obtain⟨xs,j,a,b,q⟩:=q;exact⟨xs,j,a,b,h _ q⟩
 ·exact q.elim
theorem Sy{to ti:TE}{t:D4}(h1:Ak to)(h2:Ak ti)(h3:K5 t):DG (KQ to ti t):=fun v σ H Q Q' h q=>h1 _ _ _ _ (fun _ _ q=>h2 _ _ _ _ (fun _ _ q=>h3 _ _ _ _ _ _ (fun H q=>h _ _ q) q) q) q
theorem Tn:BS CW:=fun D D' σ H h q=>h.nx _ _ q
theorem OB{t u:TS}(h1:BS t)(h2:BS u):BS (GK t u):=fun D D' σ H h q=>h1 { D with nx:=u D } { D' with nx:=u D' } σ H ⟨fun σ H q=>h2 D D' σ H h q,h.rt,h.bk,h.ct⟩ q
theorem Pa{g:TG}(h1:Ak te)(h2:DG g):BS (D3 te g):=fun D D' σ H h q=>h1 _ _ _ _ (fun _ _ q=>h2 _ _ _ _ _ h.nx q) q
theorem Qy(h1:Ak te):BS (Mq te):=fun D D' σ H h q=>h1 _ _ _ _ h.rt q
theorem Rr(h1:Ak te):BS (HD te):=fun D D' σ H h q=>h1 _ _ _ _ (fun _ _ q=>h.nx _ _ q) q
theorem QD{c:TT}{t u:TS}(hc:Bt c)(h1:BS t)(h2:BS u):BS (LO c t u):=fun D D' σ H h q=>hc _ _ _ _ (fun b _ q=>by
 cases b with
 | true=>exact h1 _ _ _ _ h q
 | false=>exact h2 _ _ _ _ h q) q
theorem WW{c:TT}{tb:TS}(hc:Bt c)(h1:BS tb):BS (LD c tb):=fun D D' σ H h q=>by
 obtain⟨W,w0,turn⟩:=q;refine⟨W,w0,fun m σ H w=>hc _ _ _ _ (fun b H1 q=>?_) (turn m σ H w)⟩;cases b with
 | true=>exact h1 { D with nx:=fun σ' H'=>∃m',m' < m/\W m' σ' H',ct:=fun σ' H'=>∃m',m' < m/\W m' σ' H',bk:=D.nx } _ _ _ ⟨fun _ _ q=>q,h.rt,h.nx,fun _ _ q=>q⟩ q
 | false=>exact h.nx _ _ q
theorem TD{wi:TI}{g:TG}{tb:TS}(hi:EE wi)(hg:DG g)(h1:BS tb):BS (Lc wi g tb):=fun D D' σ H h q=>hi _ _ _ _ (fun J H1 q=>by
 obtain⟨W,w0,turn⟩:=q;refine⟨W,w0,fun i m σ H w=>?_⟩
 rcases turn i m σ H w with ⟨a,b⟩ | ⟨a,N,hN,step⟩
 ·exact .inl ⟨a,h.nx _ _ b⟩
 ·exact .inr ⟨a,N,hN,fun x H' y=>hg _ _ _ _ _ (fun σ2 H2 q=>h1 { D with nx:=N,ct:=N,bk:=D.nx } _ _ _ ⟨fun _ _ q=>q,h.rt,h.nx,fun _ _ q=>q⟩ q) (step x H' y)⟩) q
theorem Ad{t u:TS}{D:Ends}(J:St->Hp->Prop)(h1:t { D with nx:=J } σ H)(h2:∀σ' H',J σ' H'->u D σ' H')(hm:BS t):GK t u D σ H :=
 hm { D with nx:=J } { D with nx:=u D } σ H ⟨h2,fun _ _ q=>q,fun _ _ q=>q,fun _ _ q=>q⟩ h1
section
variable {X:Cx}{K:W.Frag}{a b c e l tg:Expr}{es:List Expr}{ta tb tc te tl:TE}{pos p:Pos}
theorem BB(hK:X.K=K:=by rfl):OpR X (binaryOp .Add) (Db K):=hK ▸ Ox
theorem kEq(hu:X.A.units+60 < cLine)(hK:X.K=K:=by rfl):OpR X (compareOp .Eq) (mEq false K):=hK ▸ VY hu
theorem kNe(hu:X.A.units+60 < cLine)(hK:X.K=K:=by rfl):OpR X (compareOp .NotEq) (mEq true K):=hK ▸ U2 hu
theorem kIx(ha:PE X a ta)(hb:PE X b tb)(hs:Ik b:=by intro _ _;rfl)(hK:X.K=K:=by rfl):PE X (.Subscript a b pos) (tOp (mIx K) ta tb):=hK ▸ OR ha hb hs
theorem Ay(hK:X.K=K:=by rfl):CallR X (.builtin "len") (FN K):=hK ▸ RG
theorem A7(hK:X.K=K:=by rfl):CallR X (.type "tuple") (FB K):=hK ▸ WB
theorem Kq(hK:X.K=K:=by rfl):CallR X (.type "list") (Md K):=hK ▸ Sk
theorem BA(hl:PE X l tl)(hK:X.K=K:=by rfl):PI X tg l (JJ K tl):=hK ▸ R0 hl
theorem FQ {k:Nat} {t:TGs} (hc:X.calm=true) (h:PGs X es t)
 (hn:(assignEach es X.env).length=n:=by rfl) (hst:(assignEach es X.env).findIdx? (·.1)=none:=by rfl) (hK:X.K=K:=by rfl):PG X (.Tuple es k pos) (HQ K n t):=hK ▸ K2 hc h hn hst
end
theorem Inv.turnedNew {pins:List (Addr × Obj)} {h':Heap} {ch:List Addr} {T:Addr} (I:Inv X pins σ H s) (hf:∀b∈ch,A9 X pins H b) (hT:s.heap.objs.size<=T)
 (k:∀b u,b∉ch->s.heap.get? b=some u->h'.get? b=some u) (new:ObjOk X.prog X.w (upd H T o) h' T o) (th:∀b∈ch,∃u,h'.get? b=some u):Inv X pins σ (upd H T o) { s with heap:=h' }:=by
 have hTn:H T=none:=I.hok.fresh hT;have nT:∀b u,H b=some u->b≠T:=fun b u e z=>by rw[z,hTn]at e;cases e
 have nc:∀b u,H b=some u->b∉ch:=fun b u e z=>by rw[(hf b z).1]at e;cases e
 refine I.step (g':=s.gens) (d':=s.drawn) (t':=s.toks) (ch:=ch) (fun b hb=>?_) (fun b u _ _ hc e _=>k b u hc e) (fun b u _ _ hc e _=>⟨u.slots,k b u hc e⟩) (fun b u hc e n=>?_) (fun b u hc e=>⟨u,k b u hc e⟩)
  (fun b xs e=>by rw[AI (nT _ _ e)];exact e) (fun b u v e=>by rw[AI (nT _ _ e)];exact e) (fun b ps e=>⟨#[],by rw[AI (nT _ _ e),e];simp⟩) (fun m hm=>?_) (fun b u e=>?_) I.bare
 ·obtain⟨q1,q2,q3,q4,q5,q6⟩:=hf b hb;exact⟨q4,q2,q5,q6⟩
 ·rw[AI (ZK (ZT (ZG e) hT))];exact n
 ·obtain⟨u,es,ep,ho,r⟩:=hm;exact⟨u,es,ep,k _ u (fun z=>(hf _ z).2.1 rfl) ho,r⟩
 ·by_cases hb:b=T
  ·subst hb;rw[AD]at e;cases e;exact new
  ·rw[AI hb]at e;refine(I.hok b u e).stay (fun c v hc q=>k c v ?_ q) (fun c q=>by rw[AI (nT _ _ q)];exact q) fun c xs q=>by rw[AI (nT _ _ q)];exact q
   rcases hc with z | z
   ·rw[z];exact nc b u e
   ·exact nc c _ z
section
variable {X:Cx}
end
section
variable {X:Cx}{K:W.Frag}{o e:Expr}{es:List Expr}{to:TE}{t:TA}{apos cpos:Pos}
def Ee:V->List V->Hp->VK->Prop:=fun x vs H Q=>match x,vs with
 | .ref l,[y]=>∃xs,H l=some (.lst xs)/\xs.length < sizeLine/\Q .non (upd H l (.lst (xs++[y])))
 | _,_=>False
theorem WH:MtR X "list.append" Ee:=by
 intro pins s σ H x vs v us Q I rx rv q
 match x,vs,q with
 | .ref l,[y],⟨xs,h1,h2,q⟩=>exact UY pins s σ H _ _ v us Q I rx rv ⟨l,xs,y,rfl,rfl,h1,h2,q⟩
theorem Eh (ho:PE X o to) (ha:PA X [e] t) (hbase:attributeBase o "append" X.env (eval o X.env)=eval o X.env:=by rfl)
 (hfew:((backTo cpos (starEach [e] X.env)).all (fun x=>!x.1) && (backToKw cpos (keywordEach [] X.env)).all (fun x=>x.1.isSome)
   && decide ([e].length+([]:List Keyword).length+(if ([]:List Keyword).isEmpty then 0 else 1) < 30))=true:=by rfl)
 (hline:(apos.endLine == cpos.line)=true:=by rfl) (hs:starEach [e] X.env=(false,eval e X.env)::starEach [] X.env:=by rfl) (hplain:(backTo cpos (starEach [] X.env)).any (·.1)=false:=by rfl) (hK:X.K=K:=by rfl) :
 PE X (.Call (.Attribute o "append" apos) [e] [] cpos) (tBM K "list" Ee to t):=hK ▸ Fl PySem.F.plainAttrs_list PySem.F.slot_list_append PySem.F.type_list_append WH ho ha hbase hfew hline hs hplain
def Mn(K:W.Frag):V->List V->Hp->VK->Prop:=fun x vs H Q=>match x,vs with
 | .ref l,[y]=>∃(xs:List V) (j:Nat) (z:V),SqL K H l xs/\BY y=true/\xs.all BY=true/\xs[j]? = some z/\eqV z y=true/\(∀(m:Nat) (v:V),m < j->xs[m]? = some v->eqV v y=false)/\Q (.int j) H
 | _,_=>False
theorem SV:MtR X "list.index" (Mn X.K):=by
 intro pins s σ H x vs v us Q I rx rv q
 match x,vs,q with
 | .ref l,[y],⟨xs,j,z,h1,h2,h3,h4,h5,h6,q⟩ =>
 cases rx;obtain⟨u,rfl,ru⟩:=rv.one;obtain⟨its,r,pl,hz⟩:=I.list h1;obtain⟨⟨cls,dd,data,sl⟩,n,ho,hc,hd,hs⟩:=id pl;simp only at hc hs;subst hc hs;have hj:j < xs.length:=(Zm.mp h4).1;have hlen:=r.length;have flat:∀(m:Nat) (v:V),xs[m]? = some v->BY v=true:=fun m v e=>ZBn.mp h3 v (Z9 e)
 have val:∀(m:Nat) (hm:m < its.toArray.size) (v:V),xs[m]? = some v->eqU y its.toArray[m]=eqV v y:=fun m hm v e=>by
  obtain⟨w',q1,q2⟩:=r.get e
  have e2:its.toArray[m]=w':=by
   rw[ZBz];rw[ZE (by simpa using hm)]at q1;exact ZV q1
  rw[e2];exact JA q2 (flat m v e)
 have line:=Da;refine call_meets F.slot_list_index ⟨_,ho,rfl⟩ F.entry_list_index (F.args_list_index_2 _ _) (SeqAt.list_indexAt l its.toArray n dd sl u (eqU y) j (by simp;lia) (by lia) ?_ ?_) ⟨ho,fun w hw=>Du ru h2 r h3 w (by simpa using hw),?_⟩
 ·rw[val j (by simp;lia) z h4];exact h5
 ·intro m hm hmj
  have:m < xs.length:=by simp at hm;lia
  rw[val m hm _ (ZE this)];exact h6 m _ hmj (ZE this)
 ·exact⟨.int _,H,I.tok _,⟨_,rfl⟩,q⟩
theorem Ul (ho:PE X o to) (ha:PA X [e] t) (hbase:attributeBase o "index" X.env (eval o X.env)=eval o X.env:=by rfl)
 (hfew:((backTo cpos (starEach [e] X.env)).all (fun x=>!x.1) && (backToKw cpos (keywordEach [] X.env)).all (fun x=>x.1.isSome)
   && decide ([e].length+([]:List Keyword).length+(if ([]:List Keyword).isEmpty then 0 else 1) < 30))=true:=by rfl)
 (hline:(apos.endLine == cpos.line)=true:=by rfl) (hs:starEach [e] X.env=(false,eval e X.env)::starEach [] X.env:=by rfl) (hplain:(backTo cpos (starEach [] X.env)).any (·.1)=false:=by rfl) (hK:X.K=K:=by rfl) :
 PE X (.Call (.Attribute o "index" apos) [e] [] cpos) (tBM K "list" (Mn K) to t):=hK ▸ Fl PySem.F.plainAttrs_list PySem.F.slot_list_index PySem.F.type_list_index SV ho ha hbase hfew hline hs hplain
theorem Rl{T:String}{r:V->List V->Hp->VK->Prop}(h1:Ak to)(h2:CC t)(h3:E1 r):Ak (tBM K T r to t):=fun σ H Q Q' h q=>h1 _ _ _ _ (fun _ _ q=>⟨q.1,h2 _ _ _ _ (fun _ _ q=>h3 _ _ _ _ _ h q) q.2⟩) q
theorem Th:E1 Ee:=fun x xs H Q Q' h q=>by
 unfold Ee at *;split at q
 ·obtain⟨ys,a,b,q⟩:=q;exact⟨ys,a,b,h _ _ q⟩
 ·exact q.elim
def NV(K:W.Frag):List V->Hp->VK->Prop:=fun xs H Q=>match xs with
 | [.ref l]=>∃ns:List Int,SqL K H l (ns.map V.int)/\Q (.int ns.sum) H
 | _=>False
theorem VC(hc:X.calm=true):CallR X (.builtin "sum") (NV X.K):=by
 intro pins s σ H xs us Q I r q
 match xs,q with
 | [.ref l],q =>
 obtain⟨ns,hl,q⟩:=q;obtain⟨u,rfl,ru⟩:=Bb r;cases ru;obtain⟨its,rv,pl,hz⟩:=I.list hl;have hi:IntsAre its ns:=by simpa using EH rv
 obtain⟨zs,hzs⟩:=(hi.allInts).items;have e:(numsOf its).sum=ns.sum:=by rw[hi.numsOf]
 have pl':=pl.isList;rw[hzs]at pl';refine sum_intListG (I.ok.hd hc) pl' fun h' tk t' hk=>?_
 refine⟨.int _,H,I.kept hk,⟨t',rfl⟩,?_⟩
 have e2:preSum (numAt zs) zs.size=ns.sum:=by
  rw[preSum_eq,ZBX (by simp),<- e];rw[show its=its.toArray.toList by simp,hzs,nums_intItems]
 rw[e2];exact q
theorem QI(hc:X.calm=true)(hK:X.K=K:=by rfl):CallR X (.builtin "sum") (NV K):=hK ▸ VC hc
end
section
variable {prog:Program}{w:World}{A:Around}{E:Value->Shared->Prop}{s:Shared}
theorem Le{it t:Addr}{items:Array Value}(hne:t≠it):∀(n i:Nat) (s:Shared) (Q:List Value->Shared->Prop),s.heap.IsListIter it t i->s.heap.IsList t items->i+n<=items.size ->
 (∀h',h'.IsListIter it t (i+n)->Heap.SameBut it s.heap h'->Q ((items.toList.drop i).take n) { s with heap:=h' })->wpAny (model prog w) A (draw (.ref it) n) Q E s
 | 0,i,s,Q,hit,_,_,hQ=>by
  show wpAny _ _ (pure []) Q E s;exact ZB (by simpa using hQ s.heap hit (Heap.SameBut.refl ..))
 | n+1,i,s,Q,hit,ht,hle,hQ=>by
  have hlt:i < items.size:=by lia
  show wpAny _ _ (pyNext (.ref it) >>= _) Q E s;refine ZA (wpAny_pyNext_list_item hit ht (x:=items[i]) (by simp[hlt]) fun h₁ hit₁ hs₁=>?_);refine ZA (Zh (Le hne n (i+1) _ _ hit₁ (ht.extBut hs₁.extBut hne) (by lia) fun h₂ hit₂ hs₂=>ZB ?_));have hd:items.toList.drop i=items[i]::items.toList.drop (i+1):=by simp[List.drop_eq_getElem_cons,hlt]
  have:=hQ h₂ (by rw[show i+(n+1)=i+1+n by lia];exact hit₂) (hs₁.trans hs₂)
  rw[hd,List.take_succ_cons]at this;exact this
theorem P1 {t:Addr} {items:Array Value} {Q:List Value->Shared->Prop} (hh:A.handled=none) (ht:s.heap.IsList t items)
 (hQ:∀h',Heap.ExtBut s.heap.objs.size s.heap h'->Q items.toList { s with heap:=h' }):wpAny (model prog w) A (unpackItems (.ref t) items.size none) Q E s:=by
 have hlt:t≠s.heap.objs.size:=by obtain⟨o,ho,_⟩:=ht;exact ZK (ZG ho)
 unfold unpackItems;refine ZA ?_
 ·unfold notIterableAtAll;refine ZA (wpAny_specialOf ht.typeIs slot_list_iter.lookup ?_);refine ZB ?_;simp only[ZB6,if_false];refine ZA (Zh (wpAny_pyIter_list ht ?_));refine ZA (Zh (Le hlt items.size 0 _ _ ⟨_,ZN _ rfl,rfl,rfl⟩ (ht.at fun o e=>ZH _ e) (by lia) fun h₁ hit₁ hs₁=>?_))
  have hall:List.take items.size (List.drop 0 items.toList)=items.toList:=by
   rw[List.drop_zero];exact ZBX (by simp)
  rw[hall];rw[if_neg (by simp)];have ht₁:h₁.IsList t items:=(Heap.IsList.at ht fun o e=>ZH _ e).extBut hs₁.extBut hlt;refine ZA (Zh (wpAny_pyNext_list_end hh hit₁ ht₁ (by simp) fun h₂ he₂=>?_));simp only[Option.isSome_none,ZB6,if_false];refine ZB (hQ h₂ fun b o hb e=>he₂ b o hb (hs₁.extBut b o hb (ZH _ e)))
theorem Wc {env:Env} {elts:List Expr} {x1} {t:Addr} {items:Array Value} {Q:Unit->Shared->Prop} (hh:A.handled=none) (ht:s.heap.IsList t items)
 (hn:(assignEach elts env).length=items.size) (hstar:(assignEach elts env).findIdx? (·.1)=none)
 (h:∀h',Heap.ExtBut s.heap.objs.size s.heap h'->wpAny (model prog w) A (assignInOrder ((assignEach elts env).map (·.2)) items.toList) Q E { s with heap:=h' }) :
 wpAny (model prog w) A (assign (.Tuple elts x1 pos) env (.ref t)) Q E s:=by
 rw[assign_Tuple];refine ZA (ZBN ?_);unfold unpack;rw[hn,hstar];exact ZA (Zh (P1 hh ht h))
end
section
variable {X:Cx}{K:W.Frag}{pos p2:Pos}{e:Expr}{lo hi:Option Expr}{te:TE}{tl th:TO}
def KO(K:W.Frag)(n:Nat)(t:TGs):TG:=fun v σ H Q=>match v with
 | .ref a=>∃xs,SqA K H a xs/\xs.length=n/\t xs σ H Q
 | _=>False
theorem Mu {k:Nat} {t:TGs} (hc:X.calm=true) (h:PGs X es t)
 (hn:(assignEach es X.env).length=n:=by rfl) (hst:(assignEach es X.env).findIdx? (·.1)=none:=by rfl) (hK:X.K=K:=by rfl):PG X (.Tuple es k pos) (KO K n t):=by
 subst hK;intro pins s σ H v u Q I r hw;cases v with
 | ref a =>
  obtain⟨xs,hq | hq,hl,hw⟩:=hw
  ·cases r;obtain⟨its,rv,ht,hz⟩:=I.list hq;refine Wc (I.ok.hd hc) ht.isList (by simp[hn,<- hl,rv.length]) hst fun h' hx=>?_
   have I1:Inv X pins σ H { s with heap:=h' }:=I.kept (t':=s.toks) fun b o e=>hx b o (ZK (ZG e)) e
   exact h pins _ σ H xs _ Q I1 (by simpa using rv) hw
  ·exact K2 hc h hn hst pins s σ H _ u Q I r ⟨a,xs,rfl,hq,hl,hw⟩
 | _=>exact False.elim hw
theorem N9{t:TGs}(h:EI t):DG (KO K n t):=fun v _ _ _ _ k q=>by
 cases v <;> first | exact False.elim q | (obtain⟨xs,s,l,q⟩:=q;exact⟨xs,s,l,h _ _ _ _ _ k q⟩)
def Nr(K:W.Frag):V->Option Int->Option Int->Hp->VK->Prop:=fun x lo hi H Q=>match x with
 | .ref a=>∃xs,(SqL K H a xs/\∀p,H p=none->Q (.ref p) (upd H p (.lst (BO xs lo hi)))) \/
  (SqT K H a xs/\¬(HT.sIx xs.length 0 lo=0/\HT.sIx xs.length xs.length hi=xs.length)/\∀p,H p=none->Q (.ref p) (upd H p (.tup (BO xs lo hi))))
 | _=>False
theorem QO:SlR X (Nr X.K):=by
 intro pins s σ H x v vl vu lo hi sl Q I rx hs pl pu q;cases x with
 | ref a =>
  obtain⟨xs,⟨h,q⟩ | ⟨h,h2,q⟩⟩:=q
  ·exact Ow pins s σ H _ v vl vu lo hi sl Q I rx hs pl pu ⟨a,xs,rfl,h,q⟩
  ·exact NA pins s σ H _ v vl vu lo hi sl Q I rx hs pl pu ⟨a,xs,rfl,h,h2,q⟩
 | _=>exact False.elim q
theorem QB(he:PE X e te)(hl:PO X lo tl)(hu:PO X hi th)(hK:X.K=K:=by rfl):PE X (.Subscript e (.Slice lo hi none p2) pos) (tSl (Nr K) te tl th):=hK ▸ Mp QO he hl hu
def FF(t:TO):Prop:=∀σ H (Q Q':Option Int->Hp->Prop),(∀b H,Q b H->Q' b H)->t σ H Q->t σ H Q'
theorem Sx:FF LS:=fun _ _ _ _ h q=>h _ _ q
theorem RF(h:Ak te):FF (Li te):=fun σ H Q Q' k q=>h _ _ _ _ (fun _ _ ⟨i,e,q⟩=>⟨i,e,k _ _ q⟩) q
end
theorem Vh(h:SqT K H a xs)(s:Same H H'):SqT K H' a xs:=FI h fun o e=>s a o e
mutual
theorem Rep.same(s:Same H H'):∀(d:Dv) (v:V),Rep K H d v->Rep K H' d v
 | .non,v,h=>by unfold Rep at *;exact h
 | .bl b,v,h=>by unfold Rep at *;exact h
 | .int i,v,h=>by unfold Rep at *;exact h
 | .str x,v,h=>by unfold Rep at *;exact h
 | .tup ds,v,h=>by
  unfold Rep at *;obtain⟨a,xs,e,h1,h2⟩:=h;exact⟨a,xs,e,Vh h1 s,Reps.same s ds xs h2⟩
 | .lst ds,v,h=>by
  unfold Rep at *;obtain⟨a,xs,e,h1,h2⟩:=h;exact⟨a,xs,e,NE h1 fun o e=>s a o e,Reps.same s ds xs h2⟩
theorem Reps.same(s:Same H H'):∀(ds:List Dv) (xs:List V),Reps K H ds xs->Reps K H' ds xs
 | [],xs,h=>by unfold Reps at *;exact h
 | d::ds,xs,h=>by
  unfold Reps at *;obtain⟨x,r,e,h1,h2⟩:=h;exact⟨x,r,e,Rep.same s d x h1,Reps.same s ds r h2⟩
end
mutual
def A4:Dv->Bool
 | .tup ds=>Ab ds
 | .lst _=>false
 | _=>true
def Ab:List Dv->Bool
 | []=>true
 | d::ds=>A4 d && Ab ds
end
mutual
theorem Rep.frm{t:Addr}(s:Frm t H H')(ht:∃zs,H t=some (.lst zs)):∀(d:Dv) (v:V),A4 d=true->Rep K H d v->Rep K H' d v
 | .non,v,_,h=>by unfold Rep at *;exact h
 | .bl b,v,_,h=>by unfold Rep at *;exact h
 | .int i,v,_,h=>by unfold Rep at *;exact h
 | .str x,v,_,h=>by unfold Rep at *;exact h
 | .tup ds,v,hd,h=>by
  unfold A4 at hd;unfold Rep at *;obtain⟨a,xs,e,h1,h2⟩:=h;refine⟨a,xs,e,?_,Reps.frm s ht ds xs hd h2⟩;obtain⟨zs,hz⟩:=ht
  rcases h1 with (h1 | ⟨o,h1⟩) | h1
  ·exact .inl (.inl (s a _ (fun q=>by rw[q,hz]at h1;cases h1) h1))
  ·exact .inl (.inr ⟨o,s a _ (fun q=>by rw[q,hz]at h1;cases h1) h1⟩)
  ·exact .inr h1
 | .lst ds,v,hd,h=>by unfold A4 at hd;cases hd
theorem Reps.frm{t:Addr}(s:Frm t H H')(ht:∃zs,H t=some (.lst zs)):∀(ds:List Dv) (xs:List V),Ab ds=true->Reps K H ds xs->Reps K H' ds xs
 | [],xs,_,h=>by unfold Reps at *;exact h
 | d::ds,xs,hd,h=>by
  unfold Ab at hd;rw[Zb]at hd;unfold Reps at *;obtain⟨x,r,e,h1,h2⟩:=h;exact⟨x,r,e,Rep.frm s ht d x hd.1 h1,Reps.frm s ht ds r hd.2 h2⟩
end
theorem Tape.lst{K:W.Frag}{H:Hp}{t a:Addr}{ns:List Int}(T:Tape K H t a ns):∃zs,H t=some (.lst zs):=by
 obtain⟨i,r,c,_,_,h⟩:=T.at_;exact⟨_,h⟩
theorem BD(h:H p=some (.tup xs))(r:Reps K H ds xs):Rep K H (.tup ds) (.ref p):=by unfold Rep;exact⟨p,xs,rfl,.of h,r⟩
theorem AV:Reps K H [] []:=by unfold Reps;rfl
theorem AN{d:Dv}{x:V}(h:Rep K H d x)(r:Reps K H ds xs):Reps K H (d::ds) (x::xs):=by unfold Reps;exact⟨x,xs,rfl,h,r⟩
theorem Ln:Rep K H (.str x) (.str x):=by unfold Rep;rfl
theorem Bo{x:Int}:Rep K H (.int x) (.int x):=by unfold Rep;rfl
theorem SB{x:Bool}:Rep K H (.bl x) (.bl x):=by unfold Rep;rfl
theorem Reps.append:∀{ds es:List Dv} {xs ys:List V},Reps K H ds xs->Reps K H es ys->Reps K H (ds++es) (xs++ys)
 | [],es,xs,ys,h,h'=>by unfold Reps at h;subst h;exact h'
 | d::ds,es,xs,ys,h,h'=>by
  unfold Reps at h;obtain⟨x,r,rfl,h1,h2⟩:=h;exact AN h1 (Reps.append h2 h')
section
variable {κ:Type}[DecidableEq κ]
def valV(kvs:List (κ × V))(k:κ):Option V:=(kvs.find? fun kv=>decide (kv.1=k)).map (·.2)
def BC(kvs:List (κ × V))(k:κ)(v:V):List (κ × V) :=
 if (kvs.any fun kv=>decide (kv.1=k))=true then kvs.map (fun kv=>if kv.1=k then (kv.1,v) else kv) else kvs++[(k,v)]
def Lm(kvs:List (κ × V))(k:κ):List (κ × V):=kvs.filter fun kv=>decide (kv.1≠k)
theorem B6{p:κ × V}{r:List (κ × V)}{k:κ}(e:p.1=k):valV (p::r) k=some p.2:=by simp[valV,ZBo,e]
theorem B4{p:κ × V}{r:List (κ × V)}{k:κ}(e:¬p.1=k):valV (p::r) k=valV r k:=by simp[valV,ZBo,e]
theorem Fb(k:κ):∀kvs:List (κ × V),(kvs.any fun kv=>decide (kv.1=k))=(valV kvs k).isSome
 | []=>rfl
 | p::r=>by
  rw[ZBG]
  by_cases e:p.1=k
  ·simp only[B6 e,ZO e,Bool.true_or,Option.isSome_some]
  ·rw[B4 e,Zy e,Bool.false_or];exact Fb k r
theorem Mc(k j:κ)(y:V):∀kvs:List (κ × V),valV (kvs.map fun kv=>if kv.1=k then (kv.1,y) else kv) j=(valV kvs j).map fun x=>if j=k then y else x
 | []=>rfl
 | p::r=>by
  have ih:=Mc k j y r;rw[Zi]
  by_cases h:p.1=k
  ·rw[if_pos h]
   by_cases e:p.1=j
   ·rw[B6 (p:=(p.1,y)) e,B6 e,ZBg,if_pos (e.symm.trans h)]
   ·rw[B4 (p:=(p.1,y)) e,B4 e,ih]
  ·rw[if_neg h]
   by_cases e:p.1=j
   ·rw[B6 (p:=p) e,B6 e,ZBg,if_neg (fun z=>h (e.trans z))]
   ·rw[B4 (p:=p) e,B4 e,ih]
theorem K4(k j:κ)(y:V):∀kvs:List (κ × V),valV kvs k=none->valV (kvs++[(k,y)]) j=if j=k then some y else valV kvs j
 | [],_=>by
  by_cases e:k=j
  ·rw[if_pos e.symm];exact B6 (p:=(k,y)) e
  ·rw[if_neg (fun z=>e z.symm)];exact B4 (p:=(k,y)) e
 | p::r,hn=>by
  rw[List.cons_append];have hk:¬p.1=k:=fun z=>by rw[B6 z]at hn;cases hn
  rw[B4 hk]at hn;have ih:=K4 k j y r hn
  by_cases e:p.1=j
  ·rw[B6 e,B6 e,if_neg (fun z=>hk (e.trans z))]
  ·rw[B4 e,B4 e,ih]
theorem KA(kvs:List (κ × V))(k j:κ)(y:V):valV (BC kvs k y) j=if j=k then some y else valV kvs j:=by
 unfold BC
 by_cases a:(kvs.any fun kv=>decide (kv.1=k))=true
 ·rw[if_pos a,Mc];rw[Fb]at a
  by_cases e:j=k
  ·obtain⟨x,hx⟩:=Option.isSome_iff_exists.mp a;rw[if_pos e,e,hx,ZBg,if_pos rfl]
  ·rw[if_neg e];cases valV kvs j with
   | none=>rfl
   | some x=>rw[ZBg,if_neg e]
 ·rw[if_neg a];refine K4 k j y kvs ?_;rw[Fb]at a;cases q:valV kvs k with
  | none=>rfl
  | some x=>rw[q]at a;exact(a rfl).elim
theorem Lw(kvs:List (κ × V))(k:κ)(v:V):(BC kvs k v).length<=kvs.length+1:=by
 unfold BC;split
 ·rw[ZC];lia
 ·rw[ZL,Zn,List.length_nil];lia
theorem RelO.isSome_eq{o:Option V}{u:Option Value}(r:RelO o u):o.isSome=u.isSome:=by
 cases o with
 | none=>cases u with
  | none=>rfl
  | some _=>exact(show False from r).elim
 | some _=>cases u with
  | none=>exact(show False from r).elim
  | some _=>rfl
theorem KV.val{kvs:List (κ × V)}{vs:List (κ × Value)}(r:KV kvs vs)(k:κ):RelO (valV kvs k) (valueAt vs k):=by
 unfold KV at r
 induction r with
 | nil=>exact True.intro
 | @cons p q ps qs h t ih =>
  obtain⟨h1,h2⟩:=h
  by_cases e:p.1=k
  ·have e':q.1=k:=h1.symm.trans e;have b:valueAt (q::qs) k=some q.2:=by simp[valueAt,ZBo,e']
   rw[B6 e,b];exact h2
  ·have e':¬q.1=k:=fun z=>e (h1.trans z)
   have b:valueAt (q::qs) k=valueAt qs k:=by simp[valueAt,ZBo,e']
   rw[B4 e,b];exact ih
theorem KV.any{kvs:List (κ × V)}{vs:List (κ × Value)}(r:KV kvs vs)(k:κ):(kvs.any fun kv=>decide (kv.1=k))=vs.any fun kv=>decide (kv.1=k):=by
 unfold KV at r
 induction r with
 | nil=>rfl
 | cons h t ih=>rw[ZBG,ZBG,ih,h.1]
theorem KV.repl{kvs:List (κ × V)}{vs:List (κ × Value)}(r:KV kvs vs)(k:κ)(ry:RelV y u) :
 KV (kvs.map fun kv=>if kv.1=k then (kv.1,y) else kv) (vs.map fun kv=>if kv.1=k then (kv.1,u) else kv):=by
 unfold KV at r ⊢
 induction r with
 | nil=>exact .nil
 | @cons p q ps qs h t ih =>
  rw[Zi,Zi];refine .cons ?_ ih;obtain⟨h1,h2⟩:=h
  by_cases e:p.1=k
  ·rw[if_pos e,if_pos (h1.symm.trans e)];exact⟨h1,ry⟩
  ·rw[if_neg e,if_neg (fun z=>e (h1.trans z))];exact⟨h1,h2⟩
theorem KV.put{kvs:List (κ × V)}{vs:List (κ × Value)}(r:KV kvs vs)(k:κ)(ry:RelV y u):KV (BC kvs k y) (stored vs k u):=by
 unfold BC stored;rw[r.any k]
 by_cases e:(vs.any fun kv=>decide (kv.1=k))=true
 ·rw[if_pos e,if_pos e];exact r.repl k ry
 ·rw[if_neg e,if_neg e];exact Paired.snoc r ⟨rfl,ry⟩
theorem KV.drop{kvs:List (κ × V)}{vs:List (κ × Value)}(r:KV kvs vs)(k:κ):KV (Lm kvs k) (without vs k):=by
 unfold KV at r ⊢;unfold Lm without
 induction r with
 | nil=>exact .nil
 | @cons p q ps qs h t ih =>
  obtain⟨h1,h2⟩:=h;rw[ZBY,ZBY]
  by_cases e:p.1=k
  ·have a:¬decide (p.1≠k)=true:=by simp[e]
   have b:¬decide (q.1≠k)=true:=by simp[h1.symm.trans e]
   rw[if_neg a,if_neg b];exact ih
  ·have e':¬q.1=k:=fun z=>e (h1.trans z)
   have a:decide (p.1≠k)=true:=by simp[e]
   have b:decide (q.1≠k)=true:=by simp[e']
   rw[if_pos a,if_pos b];exact .cons ⟨h1,h2⟩ ih
theorem KV.length{kvs:List (κ × V)}{vs:List (κ × Value)}(r:KV kvs vs):kvs.length=vs.length:=Paired.length r
end
theorem Fd{k:Key}(r:RelV (kV k) u):(BN P w).is k u=true:=by
 cases k with
 | inl i=>obtain⟨t,e⟩:=(show ∃t,u=Value.int i t from r);subst e;exact WX P w i t
 | inr x=>obtain⟨t,e⟩:=(show ∃t,u=Value.str x t from r);subst e;exact SH P w x t
theorem LF:∀{ks:List Key} {us:List Value},Vals (ks.map kV) us->ItemsAre (BN P w) ks us
 | [],_,r=>by rw[List.map_nil]at r;cases r;exact .nil
 | k::ks,_,r=>by
  rw[Zi]at r;cases r with
  | cons h t=>exact .cons (Fd h) (LF t)
abbrev KT(H:Hp):List (List Key × V)->List (List Key × Addr × Value)->Prop:=Paired fun p q=>p.1=q.1/\H q.2.1=some (.tup (p.1.map kV))/\RelV p.2 q.2.2
theorem KT.val{xs:List (List Key × Addr × Value)}(r:KT H kvs xs)(k:List Key):RelO (valV kvs k) ((atKey xs k).map (·.2)):=by
 induction r with
 | nil=>exact True.intro
 | @cons p q ps qs h t ih =>
  obtain⟨h1,_,h2⟩:=h
  by_cases e:p.1=k
  ·have e':q.1=k:=h1.symm.trans e;have b:atKey (q::qs) k=some q.2:=by simp[atKey,ZBo,e']
   rw[B6 e,b];exact h2
  ·have e':¬q.1=k:=fun z=>e (h1.trans z)
   have b:atKey (q::qs) k=atKey qs k:=by simp[atKey,ZBo,e']
   rw[B4 e,b];exact ih
theorem KT.repl{xs:List (List Key × Addr × Value)}(r:KT H kvs xs)(k:List Key)(ry:RelV y u) :
 KT H (kvs.map fun kv=>if kv.1=k then (kv.1,y) else kv) (xs.map (putAt k u)):=by
 induction r with
 | nil=>exact .nil
 | @cons p q ps qs h t ih =>
  rw[Zi,Zi];refine .cons ?_ ih;obtain⟨h1,h2,h3⟩:=h;unfold putAt
  by_cases e:p.1=k
  ·rw[if_pos e,if_pos (h1.symm.trans e)];exact⟨h1,h2,ry⟩
  ·rw[if_neg e,if_neg (fun z=>e (h1.trans z))];exact⟨h1,h2,h3⟩
theorem KT.put{xs:List (List Key × Addr × Value)}(r:KT H kvs xs)(k:List Key)(hb:H b=some (.tup (k.map kV)))(ry:RelV y u) :
 KT H (BC kvs k y) (storedH xs k b u):=by
 have e:(kvs.any fun kv=>decide (kv.1=k))=(atKey xs k).isSome:=by
  rw[Fb,(r.val k).isSome_eq,Option.isSome_map]
 unfold BC storedH;rw[e]
 by_cases q:(atKey xs k).isSome=true
 ·rw[if_pos q,if_pos q];exact r.repl k ry
 ·rw[if_neg q,if_neg q];exact Paired.snoc r ⟨rfl,hb,ry⟩
theorem KT.keeps{xs:List (List Key × Addr × Value)}(r:KT H kvs xs)(ht:∀b ys,H b=some (.tup ys)->H' b=some (.tup ys)):KT H' kvs xs :=
 Paired.mapP r fun _ _ z=>⟨z.1,ht _ _ z.2.1,z.2.2⟩
section
variable {P:Program}{w:World}{H:Hp}{h:Heap}{a:Addr}
theorem MM{u:HO}(ok:HOk P w H h)(e:Rd H a u):ObjOk P w H h a u:=e.ok ok
theorem FV{kvs:List (Key × V)}(ok:HOk P w H h)(e:Rd H a (.dK kvs)):kvs.length<=sizeLine/\(a == sysModules)=false/\∃vs,KV kvs vs/\h.DictOf (BN P w) a vs :=
 show ObjOk P w H h a (.dK kvs) from MM ok e
theorem Vl{kvs:List (Key × V)}(ok:HOk P w H h)(e:H a=some (.dK kvs)):kvs.length<=sizeLine/\(a == sysModules)=false/\∃vs,KV kvs vs/\h.DictOf (BN P w) a vs:=FV ok (.inl e)
theorem Fu{ks:List Key}(ok:HOk P w H h)(e:H a=some (.tup (ks.map kV))):(tupleKind (BN P w)).is h ks a:=by
 obtain⟨_,its,r,o,h1,h2,⟨n,h3⟩,_⟩:=(show ObjOk P w H h a (.tup (ks.map kV)) from ok a _ e);exact⟨o,its.toArray,n,h1,h2,h3,by simpa using LF r⟩
theorem FG(ok:HOk P w H h)(e:Rd H a (.dT kvs)):kvs.length<=sizeLine/\(a == sysModules)=false /\
 ∃xs,KT H kvs xs/\h.DictOfH (tupleKind (BN P w)) a xs:=by
 obtain⟨z,y,xs,r,o,es,ep,h1,h2,h3,h4,h5⟩:=(show ObjOk P w H h a (.dT kvs) from MM ok e);refine⟨z,y,xs,r,o,es,ep,h1,h2,h3,h4,fun x hx=>?_,h5⟩
 have all:∀{l:List (List Key × V)} {m:List (List Key × Addr × Value)},KT H l m->∀x∈m,(tupleKind (BN P w)).is h x.1 x.2.1:=by
  intro l m q
  induction q with
  | nil=>intro x hx;exact nomatch hx
  | @cons p q ps qs hq t ih =>
   intro x hx
   rcases ZF.mp hx with e | hx
   ·subst e;exact Fu ok (by rw[<- hq.1];exact hq.2.1)
   ·exact ih x hx
 exact all r x hx
theorem RD(ok:HOk P w H h)(e:H a=some (.dT kvs)):kvs.length<=sizeLine/\(a == sysModules)=false /\
 ∃xs,KT H kvs xs/\h.DictOfH (tupleKind (BN P w)) a xs:=FG ok (.inl e)
end
def DGet(H:Hp)(a:Addr)(y:V)(r:Option V):Prop :=
 (∃kvs k,Rd H a (.dK kvs)/\y=kV k/\r=valV kvs k)\/∃kvs k b,Rd H a (.dT kvs)/\y=.ref b/\H b=some (.tup (k.map kV))/\r=valV kvs k
def DPut(H:Hp)(a:Addr)(y v:V)(H':Hp):Prop :=
 (∃kvs k,H a=some (.dK kvs)/\y=kV k/\kvs.length < sizeLine/\H'=upd H a (.dK (BC kvs k v))) \/
 ∃kvs k b,H a=some (.dT kvs)/\y=.ref b/\H b=some (.tup (k.map kV))/\kvs.length < sizeLine/\H'=upd H a (.dT (BC kvs k v))
theorem DGet.k{kvs:List (Key × V)}{k:Key}(e:H a=some (.dK kvs)):DGet H a (kV k) (valV kvs k):=.inl ⟨kvs,k,.inl e,rfl,rfl⟩
theorem DGet.t{k:List Key}(e:H a=some (.dT kvs))(eb:H b=some (.tup (k.map kV))):DGet H a (.ref b) (valV kvs k):=.inr ⟨kvs,k,b,.inl e,rfl,eb,rfl⟩
theorem DPut.k{kvs:List (Key × V)}{k:Key}(e:H a=some (.dK kvs))(hl:kvs.length < sizeLine):DPut H a (kV k) v (upd H a (.dK (BC kvs k v))):=.inl ⟨kvs,k,e,rfl,hl,rfl⟩
theorem DPut.t{k:List Key}(e:H a=some (.dT kvs))(eb:H b=some (.tup (k.map kV)))(hl:kvs.length < sizeLine) :
 DPut H a (.ref b) v (upd H a (.dT (BC kvs k v))):=.inr ⟨kvs,k,b,e,rfl,eb,hl,rfl⟩
section
variable {X:Cx}{pins:List (Addr × Obj)}{σ:St}{H:Hp}{s:Shared}{a:Addr}{y v:V}{u r:Value}{o:Option V}{A:Around}{E:Value->Shared->Prop}
theorem Inv.big(I:Inv X pins σ H s):sysModules < s.heap.objs.size:=by
 have h:mainGlobals < s.heap.objs.size:=(I.mod.glob.keeps I.bk).lt;exact ZBL (by decide) h
theorem Oy{Q:Value->Shared->Prop}(hu:A.units+1 < cLine)(I:Inv X pins σ H s)(g:DGet H a y (some v))(ry:RelV y u)(h:∀w' s',Inv X pins σ H s'->RelV v w'->Q w' s') :
 wpAny (model X.prog X.w) A (getItem (.ref a) u) Q E s:=by
 rcases g with ⟨kvs,k,e,ey,l⟩ | ⟨kvs,k,b,e,ey,eb,l⟩
 ·subst ey;obtain⟨z,hd,vs,rel,dd⟩:=FV I.hok e;obtain⟨w',hw,rw'⟩:=RelO.some_of (v:=v) (o:=valueAt vs k) (by rw[l];exact rel.val k);exact wpAny_getItem_of (Fd ry) dd.mapOf hw (h w' _ (I.tok _) rw')
 ·subst ey;cases (show u=Value.ref b from ry);obtain⟨z,hd,xs,rel,dd⟩:=FG I.hok e;obtain⟨w',hw,rw'⟩:=RelO.some_of (v:=v) (o:=(atKey xs k).map (·.2)) (by rw[l];exact rel.val k);obtain⟨p,hp,hp2⟩:=ZB7.mp hw;refine wpAny_getItem_heap (tupleKind_room_in1 hu) (Fu I.hok eb) dd hp ?_;rw[hp2];exact h w' _ (I.tok _) rw'
theorem TC{Q:Value->Shared->Prop}(hu:A.units+1 < cLine)(I:Inv X pins σ H s)(g:DGet H a y o)(ry:RelV y u)(h:∀s',Inv X pins σ H s'->Q (.bool (!o.isSome)) s') :
 wpAny (model X.prog X.w) A (compareOp .NotIn u (.ref a)) Q E s:=by
 rcases g with ⟨kvs,k,e,ey,l⟩ | ⟨kvs,k,b,e,ey,eb,l⟩
 ·subst ey;obtain⟨z,hd,vs,rel,dd⟩:=FV I.hok e;refine wpAny_notIn_of (Fd ry) hd dd.mapOf ?_;rw[<- (rel.val k).isSome_eq,<- l];exact h _ (I.tok _)
 ·subst ey;cases (show u=Value.ref b from ry);obtain⟨z,hd,xs,rel,dd⟩:=FG I.hok e;refine wpAny_notIn_heap (tupleKind_room_in1 hu) (Fu I.hok eb) hd dd ?_;have q:=(rel.val k).isSome_eq;rw[Option.isSome_map]at q;rw[<- q,<- l];exact h _ (I.tok _)
theorem Ke{h':Heap}{t':Nat}{ob:HO}(I:Inv X pins σ H s)(mu:Mut (H a))(hs:Heap.SameBut a s.heap h')(he:∃q,h'.get? a=some q)(new:ObjOk X.prog X.w (upd H a ob) h' a ob) :
 Inv X pins σ (upd H a ob) { s with heap:=h',toks:=t' } :=
 I.write (x:=a) (e:=a) mu (.inl rfl) (fun b q hb z=>(hs.2 b hb).trans z) he new
theorem O6{h':Heap}{kvs:List (Key × V)}{vs:List (Key × Value)}(z:kvs.length<=sizeLine)(hd:(a == sysModules)=false)(rel:KV kvs vs)(dd:h'.DictOf (BN P w) a vs) :
 ObjOk P w H' h' a (.dK kvs):=⟨z,hd,vs,rel,dd⟩
theorem O4{Q:Unit->Shared->Prop}(hu:A.units+1 < cLine)(I:Inv X pins σ H s)(g:DPut H a y v H')(ry:RelV y u)(rv:RelV v r)(h:∀s',Inv X pins σ H' s'->Q () s') :
 wpAny (model X.prog X.w) A (setItem (.ref a) u r) Q E s:=by
 rcases g with ⟨kvs,k,e,ey,l,eH⟩ | ⟨kvs,k,b,e,ey,eb,l,eH⟩
 ·subst ey eH;obtain⟨z,hd,vs,rel,dd⟩:=Vl I.hok e;have hz:vs.length<=sizeLine:=by rw[<- rel.length];exact z
  have hl:(BC kvs k v).length<=sizeLine:=by have:=Lw kvs k v;lia
  refine wpAny_setItem_pairs (hsz:=hz) (Fd ry) dd fun h' dd' hs=>h _ ?_
  have he:∃q,h'.get? a=some q:=let ⟨q,_,_,hq,_⟩:=dd';⟨q,hq⟩;exact Ke I (by rw[e];exact True.intro) hs he (O6 hl hd (rel.put k rv) dd')
 ·subst ey eH;cases (show u=Value.ref b from ry);obtain⟨z,hd,xs,rel,dd⟩:=RD I.hok e;have hz:xs.length<=sizeLine:=by rw[<- Paired.length rel];exact z
  have hl:(BC kvs k v).length<=sizeLine:=by have:=Lw kvs k v;lia
  refine wpAny_setItem_heap (hsz:=hz) (tupleKind_room_in1 hu) (Fu I.hok eb) dd fun h' dd' hs=>h _ ?_
  obtain⟨q,es,ep,hq,h2,h3,h4,_,h5⟩:=dd';refine Ke I (by rw[e];exact True.intro) hs ⟨q,hq⟩ ⟨hl,hd,_,(rel.put k eb rv).keeps fun c ys ec=>?_,q,es,ep,hq,h2,h3,h4,h5⟩;rw[AI (Av ec e (fun z=>nomatch z))];exact ec
end
section
variable {X:Cx}{pins:List (Addr × Obj)}{σ:St}{H:Hp}{s:Shared}{a:Addr}{kvs:List (Key × V)}{k:Key}{u:Value}{A:Around}{E:Value->Shared->Prop}
end
def J2(i:Expr):Prop:=∀ov iv,subscripted i false ov iv=operate [ov,iv] (getItem ov iv)
theorem QJ {prog:Program} {E:Value->Shared->Prop} {env:Env} {value slice:Expr} {T id:String} {Q:Value->Shared->Prop}
 (hl:typeLookup (.type T) "__getitem__" = pure (some (.builtin id))) (hs:J2 slice)
 (h:wpAny (model prog w) A (eval value env) (fun o s₁=>wpAny (model prog w) A (eval slice env) (fun i s₂=>s₂.TypeIs o T/\wpAny (model prog w) A (getItem o i) Q E s₂) E s₁) E s) :
 wpAny (model prog w) A (eval (.Subscript value slice pos) env) Q E s:=by
 refine Subscript_ (ZZ h (fun o s₁ h₁=>ZZ h₁ (fun i s₂ h₂=>?_) fun _ _ x=>x) fun _ _ x=>x);obtain⟨hT,h₂⟩:=h₂;unfold subscriptTail;refine ZA ?_;rw[getitemInPython_of_ne hT.not_modules];refine ZA (wpAny_specialOf hT hl ?_)
 have fin:wpAny (model prog w) A (subscripted slice false o i) (fun r s₃=>wpAny (model prog w) A (letTemporaryGo value o r >>= fun _=>pure r) Q E s₃) E s₂:=by
  rw[hs o i];exact wpAny_operating (ZZ h₂ (fun r s₃ h₃=>ZA (wpAny_letTemporaryGo (ZB h₃))) fun _ _ x=>x)
 first
  | exact ZB (ZA fin)
  | exact ZA (ZB (ZA fin))
  | exact ZA fin
theorem WG{pins:List (Addr × Obj)}{o:Option V}(I:Inv X pins σ H s)(g:DGet H a y o):s.TypeIs (.ref a) "dict":=by
 rcases g with ⟨kvs,k,e,_,_⟩ | ⟨kvs,k,b,e,_,_,_⟩
 ·obtain⟨_,_,vs,_,dd⟩:=FV I.hok e;exact dd.typeIs
 ·obtain⟨_,_,xs,_,dd⟩:=FG I.hok e;exact dd.typeIs
def Tm(td ty:TE):TE:=fun σ H Q=>td σ H fun x H1=>ty σ H1 fun y H2=>∃a v,x=.ref a/\DGet H2 a y (some v)/\Q v H2
def K7(td ty tv:TE):TS:=fun D σ H=>tv σ H fun v H1=>td σ H1 fun x H2=>ty σ H2 fun y H3=>∃a H4,x=.ref a/\DPut H3 a y v H4/\D.nx σ H4
section
variable {X:Cx}{o i e value:Expr}{pos pos' tpos:Pos}{td ty tv:TE}
theorem Jy(hu:X.A.units+1 < cLine)(ho:PE X o td)(hi:PE X i ty)(hs:J2 i):PE X (.Subscript o i pos) (Tm td ty):=by
 intro pins s σ H Q I h;refine QJ PySem.F.slot_dict_getitem.lookup hs (thn (ho pins s σ H _ I h) fun u s1 ⟨x,H1,I1,rx,q1⟩=>thn (hi pins s1 σ H1 _ I1 q1) fun iv s2 ⟨y,H2,I2,ry,a,v,ex,g,q2⟩=>?_);subst ex;obtain rfl:u=Value.ref a:=rx;exact⟨WG I2 g,Oy hu I2 g ry fun w' s3 I3 rw'=>⟨v,H2,I3,rw',q2⟩⟩
theorem JI(hu:X.A.units+1 < cLine)(ho:PE X o td)(hi:PE X i ty)(hv:PE X value tv)(hs:swapsWith value (some (.Subscript o i pos')) pos.line X.env=pure false) :
 PS X (.Assign [.Subscript o i pos'] value pos) (K7 td ty tv):=by
 intro pins s σ H D I h;refine wpAny_Assign_Subscript (thn (hv pins s σ H _ I h) fun r s1 ⟨v,H1,I1,rv,q1⟩=>thn (ho pins s1 σ H1 _ I1 q1) fun u s2 ⟨x,H2,I2,rx,q2⟩=>thn (hi pins s2 σ H2 _ I2 q2) fun iv s3 ⟨y,H3,I3,ry,a,H4,ex,g,q3⟩=>?_) hs;subst ex;obtain rfl:u=Value.ref a:=rx;exact O4 hu I3 g ry rv fun s4 I4=>⟨σ,H4,I4,q3⟩
end
theorem OX(h:Heap)(hb:sysModules < h.objs.size):ObjOk P w H (h.push { cls:=.type "dict",data:=.dict #[] }) h.objs.size (.dK []) :=
 ⟨ZX _,beq_eq_false_iff_ne.mpr (Ne.symm (ZK hb)),[],.nil,Heap.DictOf.new h⟩
theorem OQ(h:Heap)(hb:sysModules < h.objs.size):ObjOk P w H (h.push { cls:=.type "dict",data:=.dict #[] }) h.objs.size (.dT []) :=
 ⟨ZX _,beq_eq_false_iff_ne.mpr (Ne.symm (ZK hb)),[],.nil,_,#[],0,ZN _ rfl,⟨rfl,rfl,rfl⟩,rfl,rfl,List.nodup_nil⟩
def OF:TE:=fun _ H Q=>∀p,H p=none->Q (.ref p) (upd H p (.dK []))
def Ku:TE:=fun _ H Q=>∀p,H p=none->Q (.ref p) (upd H p (.dT []))
section
variable {X:Cx}{pos:Pos}
theorem Kn:PE X (.Dict [] [] pos) OF:=fun pins s σ H Q I h =>
 wpAny_Dict_empty ⟨.ref s.heap.objs.size,_,I.laid (a:=s.heap.objs.size) (o:=.dK []) (t':=s.toks) (fun _ _ q=>ZH _ q) (ZD _) (OX s.heap I.big),rfl,h _ (I.hok.fresh (ZD _))⟩
theorem O5:PE X (.Dict [] [] pos) Ku:=fun pins s σ H Q I h =>
 wpAny_Dict_empty ⟨.ref s.heap.objs.size,_,I.laid (a:=s.heap.objs.size) (o:=.dT []) (t':=s.toks) (fun _ _ q=>ZH _ q) (ZD _) (OQ s.heap I.big),rfl,h _ (I.hok.fresh (ZD _))⟩
end
structure M1(X:Cx)(o:Expr)(m:Str)(apos:Pos)(e:Expr)(cpos:Pos):Prop where
 base:attributeBase o m X.env (eval o X.env)=eval o X.env
 few:((backTo cpos (starEach [e] X.env)).all (fun x=>!x.1) && (backToKw cpos (keywordEach [] X.env)).all (fun x=>x.1.isSome)
  && decide (([e]:List Expr).length+([]:List Keyword).length+(if ([]:List Keyword).isEmpty then 0 else 1) < 30))=true
 line:(apos.endLine == cpos.line)=true
 trees:backTo cpos (starEach [e] X.env)=[(false,eval e X.env)]
structure M2(X:Cx)(o:Expr)(m:Str)(apos:Pos)(e f:Expr)(cpos:Pos):Prop where
 base:attributeBase o m X.env (eval o X.env)=eval o X.env
 few:((backTo cpos (starEach [e,f] X.env)).all (fun x=>!x.1) && (backToKw cpos (keywordEach [] X.env)).all (fun x=>x.1.isSome)
  && decide (([e,f]:List Expr).length+([]:List Keyword).length+(if ([]:List Keyword).isEmpty then 0 else 1) < 30))=true
 line:(apos.endLine == cpos.line)=true
 trees:backTo cpos (starEach [e,f] X.env)=[(false,eval e X.env),(false,eval f X.env)]
section
variable {X:Cx}{pins:List (Addr × Obj)}{σ:St}{H:Hp}{s:Shared}{a:Addr}{y d:V}{u r:Value}{o:Option V}{A:Around}{E:Value->Shared->Prop}
end
section
variable {X:Cx}{o e f:Expr}{apos cpos:Pos}{td ty tx:TE}
end
section
variable {X:Cx}{pins:List (Addr × Obj)}{σ:St}{H:Hp}{s:Shared}{a:Addr}{kvs:List (Key × V)}{A:Around}{E:Value->Shared->Prop}
end
section
variable {X:Cx}{pins:List (Addr × Obj)}{σ:St}{H:Hp}{s:Shared}{a:Addr}{y:V}{u:Value}{A:Around}{E:Value->Shared->Prop}
end
theorem UA{M:Model}{E:Value->Shared->Prop}{b:Bool}{Q:Int->Shared->Prop}(h:Q (if b=true then 1 else 0) s):wpAny M A (Builtin.Int.intOfSelf (.bool b)) Q E s:=by
 unfold Builtin.Int.intOfSelf;exact ZB h
theorem Sz{prog:Program}{E:Value->Shared->Prop}{b:Bool}{Q:Int->Shared->Prop}(h:Q (if b=true then 1 else 0) { s with toks:=s.toks+1 }):wpAny (model prog w) A (pyHash (.bool b)) Q E s:=by
 show wpAny _ _ (pyHashByItsType (.bool b)) _ _ _;refine PySem.W.pyHash_slot (T:="bool") rfl PySem.F.slot_bool_hash PySem.F.entry_int_hash (PySem.F.args_int_hash_1 _) rfl (.inl rfl) ?_;unfold Builtin.«int.__hash__» Builtin.Int.intSlot0;refine ZA (ZA ?_);show wpAny _ _ (pure (Value.bool b,[])) _ _ _;refine ZB (ZA (UA (ZB ?_)));cases b with
 | true=>exact ZA (wpAny_mkInt (ZB ⟨_,_,rfl,h⟩))
 | false=>exact ZA (wpAny_mkInt (ZB ⟨_,_,rfl,h⟩))
def Ja:Bool->Value->Bool
 | b,.bool c=>b == c
 | _,_=>false
theorem Cy{b:Bool}{v:Value}(h:Ja b v=true):v=.bool b:=by
 unfold Ja at h;split at h
 ·rw[beq_iff_eq.mp h]
 ·cases h
def Wb(prog:Program)(w:World):PySem.KeyKind prog w Bool where
 is:=Ja
 hash:=fun b=>if b=true then 1 else 0
 inj:=fun v a b ha hb=>by
  have e1:=Cy ha;have e2:=Cy hb;rw[e1]at e2;injection e2
 byValue:=fun k v h=>by rw[Cy h];rfl
 pyHash:=fun hv h=>by rw[Cy hv];exact Sz h
 eqBool:=fun {A E s a b u v Q} hu hv h=>by
  rw[Cy hu,Cy hv];refine SeqAt.EqAt.bool_bool a b _ _ _ _ ?_;have e:(a == b)=decide (a=b):=by cases a <;> cases b <;> rfl
  rw[e];exact h
 «strs»:=fun k x t v h=>by
  have:=Cy h
  cases this
section
variable {P:Program}{w:World}{H:Hp}{h:Heap}{a:Addr}
end
section
variable {X:Cx}{o i e value:Expr}{pos pos' tpos:Pos}{td ty tv:TE}
end
section
variable {X:Cx}{P:Program}{w:World}{o i:Expr}{pos:Pos}{td ty:TE}
end
section
variable {X:Cx}{K:W.Frag}{o:Expr}{to:TE}{apos cpos:Pos}
def Kw:V->List V->Hp->VK->Prop:=fun x vs H Q=>match x,vs with
 | .int i,[]=>Q (.int (Builtin.Int.intBits i:Nat)) H
 | _,_=>False
theorem VL:MtR X "int.bit_length" Kw:=by
 intro pins s σ H x vs v us Q I rx rv q
 match x,vs,q with
 | .int i,[],q =>
  cases rv;obtain⟨t,rfl⟩:=(show ∃t,v=Value.int i t from rx);exact PyProof.Rows.call_int_bit_length ⟨.int (Builtin.Int.intBits i:Nat),H,I.tok _,⟨_,rfl⟩,q⟩
theorem WM(ho:PE X o to)(hbase:attributeBase o "bit_length" X.env (eval o X.env)=eval o X.env:=by rfl)(hline:(apos.endLine == cpos.line)=true:=by rfl)(hK:X.K=K:=by rfl) :
 PE X (.Call (.Attribute o "bit_length" apos) [] [] cpos) (Ju K "int" Kw to):=hK ▸ V6 PySem.F.plainAttrs_int PySem.F.slot_int_bit_length PySem.F.type_int_bit_length VL ho hbase hline
end
def Ite(K:W.Frag)(l:Addr):It :=
 ⟨fun i H=>∃xs x,SqL K H l xs/\xs[i]? = some x,
  fun i H v H'=>∃p x,H p=none/\v=.ref p/\H'=upd H p (.tup [.int i,x])/\∀xs,SqL K H l xs->xs[i]? = some x,
  fun i H=>∃xs,SqL K H l xs/\xs.length<=i⟩
theorem RU{kt:Nat}{tpos:Pos}{e it:Addr}(hne:e≠it) :
 Turn P w K (.Tuple es kt tpos) (Ite K l) [e,it] e (fun i h=>(∃old,IsEnum h e it (i:Int) old)/\h.IsListIter it l i) where
 mem:=by simp
 obj:=fun i h st b hb=>by
  obtain⟨⟨old,hz⟩,⟨o1,e1,c1,d1⟩⟩:=st;simp only[ZF,ZBB,or_false]at hb
  rcases hb with rfl | rfl
  ·exact⟨_,hz,fun v q=>nomatch q⟩
  ·exact⟨o1,e1,fun v q=>by rw[d1]at q;cases q⟩
 keep:=fun i h h' ⟨⟨old,hz⟩,h1⟩ k=>⟨⟨old,k e (by simp) _ hz⟩,h1.at fun o q=>k it (by simp) o q⟩
 item:=by
  intro X hP hw hK hc i pins s σ H E I hf st hg;subst hP hw hK;obtain⟨xs,x,hq1,hx⟩:=hg;obtain⟨⟨old,hz⟩,h1⟩:=st;obtain⟨its,rv,p,_⟩:=I.list hq1;obtain⟨u,hu,ru⟩:=rv.get hx;refine wpAny_pyNext_enum_item hz h1 p.isList (x:=u) (by simpa using hu) hne fun h' z1 z2 z3 z4 z5=>?_
  refine⟨_,rfl,?_⟩
  have z5':∀b v,b∉[e,it]->s.heap.get? b=some v->h'.get? b=some v:=fun b v hb q=>by
   simp only[ZF,ZBB,or_false,not_or]at hb;exact z5 b v hb.1 hb.2 q
  have I1:Inv X pins σ (upd H s.heap.objs.size (.tup [.int i,x])) { s with heap:=h' }:=by
   refine I.turnedNew (ch:=[e,it]) (fun b hb=>hf b hb) (ZD _) z5' ?_ fun b hb=>?_
   ·exact⟨smq rfl,[.int i s.toks,u],.cons ⟨_,rfl⟩ (.cons ru .nil),⟨_,z3,rfl,⟨_,rfl⟩,rfl⟩⟩
   ·simp only[ZF,ZBB,or_false]at hb
    rcases hb with rfl | rfl
    ·exact⟨_,z1⟩
    ·obtain⟨o,q,_⟩:=z2;exact⟨o,q⟩
  refine wpAny_letOwnedTupleGo_enum (s:={ s with heap:=h',toks:=s.toks+1 }) z1 fun h'' z8 z9=>?_
  have hfz:=hf e (by simp)
  have neT:∀b,b∈[e,it]->b≠s.heap.objs.size:=fun b hb q=>by
   have st':∃o,s.heap.get? b=some o:=by
    simp only[ZF,ZBB,or_false]at hb
    rcases hb with rfl | rfl
    ·exact⟨_,hz⟩
    ·obtain⟨o,q,_⟩:=h1;exact⟨o,q⟩
   obtain⟨o,ho⟩:=st'
   have:=ZG ho
   rw[q]at this;exact Zd _ this
  have hTH:∀b∈[e,it],upd H s.heap.objs.size (.tup [.int i,x]) b=none:=fun b hb=>by rw[AI (neT b hb)];exact(hf b hb).1
  have I2:Inv X pins σ (upd H s.heap.objs.size (.tup [.int i,x])) { s with heap:=h'',toks:=s.toks+1 } :=
   I1.turned (t':=s.toks+1) (fun b o hb q=>(z9.2 b hb).trans q) (hTH e (by simp)) hfz.2.1 hfz.2.2.2.1 hfz.2.2.2.2.1 hfz.2.2.2.2.2
  have up:∀b o,b≠e->h'.get? b=some o->h''.get? b=some o:=fun b o hb q=>(z9.2 b hb).trans q
  exact⟨.ref s.heap.objs.size,_,I2,rfl,⟨_,x,I.hok.fresh (ZD _),rfl,rfl,fun xs' h=>by rw[I.list_inj h hq1];exact hx⟩,⟨⟨_,z8⟩,z2.at fun o q=>up _ o (Ne.symm hne) q⟩,hTH⟩
 done:=by
  intro X hP hw hK hc i pins s σ H E I hf st hg;subst hP hw hK;obtain⟨xs,hq1,hl⟩:=hg;obtain⟨⟨old,hz⟩,h1⟩:=st;obtain⟨its,rv,p,_⟩:=I.list hq1;have e1:=rv.length;refine wpAny_pyNext_enum_end (I.ok.hd hc) hz h1 p.isList (by simp;lia) fun h' z7=>⟨rfl,?_⟩
  obtain⟨f0,f1,f2,f3,f4,f5⟩:=hf it (by simp);exact I.turned (t':=s.toks) (fun b o hb q=>z7 b o hb q) f0 f1 f3 f4 f5
 self:=fun _ _ _ _ _ st h=>wpAny_pyIter_enum st.1.choose_spec h
section
variable {X:Cx}
def Ss(K:W.Frag)(ta:TA):TI:=fun σ H R=>ta σ H fun vs H1=>match vs with
 | [.ref a]=>(∃xs,SqL K H1 a xs)/\R (Ite K a) H1
 | _=>False
theorem Ql {a:Expr} {ta:TA} {p:Pos} {kt:Nat} {tpos:Pos} (hg:Gl X "enumerate") (hm:X.mg "enumerate" = none) (ha:PA X [a] ta)
 (hs:starEach [a] X.env=[(false,eval a X.env)]:=by rfl) (hK:X.K=K:=by rfl) :
 PI X (.Tuple es kt tpos) (.Call (.Name "enumerate" p) [a] [] pos) (Ss K ta):=by
 subst hK;intro pins s σ H R I h;refine Call_ (Ct I hg hm (by rfl:bootBuiltins "enumerate" = some (.type "enumerate")) (PyProof.Rows.callWith_type1 (thn (ha pos pins s σ H _ I h) fun us s1 ⟨vs,H1,I1,r1,q1⟩=>?_) (by rw[hs];rfl) (by rfl)))
 match vs,q1,r1 with
 | [.ref l1],⟨⟨xs,hx⟩,q⟩,r1 =>
 cases r1 with
 | cons r rr =>
 cases rr;cases r;obtain⟨its,rv,p1,_⟩:=I1.list hx;refine call_enumerate_list p1.isList fun h' z1 z2 z3 z4=>?_
 refine wpAny_pyIter_enum (s:={ s1 with heap:=h' }) z1 ?_;have I2:Inv X pins σ H1 { s1 with heap:=h' }:=I1.kept (t':=s1.toks) z4;refine⟨_,_,_,_,H1,rfl,I2,RU (l:=l1) (it:=s1.heap.objs.size) (ZBd (ZBV _)),⟨⟨_,z1⟩,z2⟩,fun b hb=>?_,q⟩;refine I1.fpOk ?_ (I1.hok.fresh ?_)
 all_goals
  simp only[ZF,ZBB,or_false]at hb
  rcases hb with rfl | rfl
  ·exact ZBf _
  ·exact ZD _
theorem Ti {g:TG} {tc:TT} (Pv:Nat->List V->Hp->Prop) (h0:Pv 0 [] H) (hl:∀i zs H,i<=xs.length->Pv i zs H->SqL K H l xs) (hz:∀i zs H,i < xs.length->Pv i zs H->zs.length < sizeLine)
 (hs:∀i x zs H p,xs[i]? = some x->Pv i zs H->H p=none->g (.ref p) σc (upd H p (.tup [.int (i:Nat),x])) fun σ2 H2=>tc σ2 H2 fun b H3=>if b=true then te σ2 H3 fun v H4=>Pv (i+1) (zs++[v]) H4 else Pv (i+1) zs H3)
 (hd:∀zs H,Pv xs.length zs H->∀p,H p=none->Q (.ref p) (upd H p (.lst zs))):Co (Ite K l) g tc te σc Q H:=by
 refine⟨fun i m zs H=>m=xs.length - i/\i<=xs.length/\Pv i zs H,⟨xs.length,by simp,ZX _,h0⟩,?_⟩;rintro i m zs H ⟨rfl,hi,p⟩;have q1:=hl i zs H hi p
 by_cases hlt:i < xs.length
 ·refine .inr ⟨⟨xs,xs[i],q1,by simp[hlt]⟩,hz i zs H hlt p,Pv (i+1),fun zs' H' p'=>⟨xs.length - (i+1),by lia,rfl,hlt,p'⟩,?_⟩;rintro v H' ⟨pp,x,hp,rfl,rfl,k1⟩;exact hs i x zs H pp (k1 xs q1) p hp
 ·have e:i=xs.length:=by lia
  subst e;exact .inl ⟨⟨xs,q1,ZD _⟩,hd zs H p⟩
end
def TyS(K:W.Frag)(H:Hp)(x:V)(t:String):Prop:=match x with
 | .int _=>t = "int"
 | .bl _=>t = "bool"
 | .ref a=>(t = "tuple" /\ ∃xs,SqT K H a xs)\/(t = "list" /\ ∃xs,SqL K H a xs)
 | _=>False
def Dt(t T:String):Bool:=t == T || (t == "bool" && T == "int")
section
variable {X:Cx}{K:W.Frag}
theorem Rs{pins:List (Addr × Obj)}{x:V}{t:String}(I:Inv X pins σ H s)(rx:RelV x u)(h:TyS X.K H x t) :
 (t = "int" \/ t = "bool" \/ t = "tuple" \/ t = "list")/\u≠Value.builtin "__main__.__loader__#opaque" /\ ∃Hh:Heap->Prop,PySem.W.KitX X.K u (.type t) Hh/\Hh s.heap:=by
 cases x with
 | int i =>
  obtain⟨k,rfl⟩:=(show ∃t,u=Value.int i t from rx);cases (show t = "int" from h);exact⟨.inl rfl,(fun z=>nomatch z),_,PySem.W.kitx_int,True.intro⟩
 | bl b =>
  cases (show u=Value.bool b from rx);cases (show t = "bool" from h);exact⟨.inr (.inl rfl),(fun z=>nomatch z),_,PySem.W.kitx_bool,True.intro⟩
 | ref a =>
  cases (show u=Value.ref a from rx)
  rcases h with ⟨rfl,xs,hq⟩ | ⟨rfl,xs,hq⟩
  ·obtain⟨its,rv,p,_⟩:=I.tuple hq;obtain⟨o,h1,h2,_⟩:=p;exact⟨.inr (.inr (.inl rfl)),(fun z=>nomatch z),_,PySem.W.kitx_tuple,⟨o,h1,h2⟩⟩
  ·obtain⟨its,rv,p,_⟩:=I.list hq;obtain⟨o,n,h1,h2,_⟩:=p;exact⟨.inr (.inr (.inr rfl)),(fun z=>nomatch z),_,PySem.W.kitx_list,⟨o,h1,h2⟩⟩
 | _=>exact False.elim h
end
mutual
def pyD:Dv->PyData
 | .non=>.none
 | .bl b=>.bool b
 | .int i=>.int i
 | .str x=>.str x
 | .tup ds=>.tuple (BH ds)
 | .lst ds=>.list (BH ds)
def BH:List Dv->List PyData
 | []=>[]
 | d::ds=>pyD d::BH ds
end
def Ci(i:Int):Bool:=decide (i.natAbs.log2 < 1900)
mutual
theorem Lp:∀d:Dv,(pyD d).depth=Ac d
 | .non=>by simp[pyD,Ac,PyData.depth]
 | .bl _=>by simp[pyD,Ac,PyData.depth]
 | .int _=>by simp[pyD,Ac,PyData.depth]
 | .str _=>by simp[pyD,Ac,PyData.depth]
 | .tup ds=>by simp[pyD,Ac,PyData.depth,Gj ds]
 | .lst ds=>by simp[pyD,Ac,PyData.depth,Gj ds]
theorem Gj:∀ds:List Dv,PyData.depthAll (BH ds)=A8 ds
 | []=>by simp[BH,A8,PyData.depthAll]
 | d::ds=>by simp[BH,A8,PyData.depthAll,Lp d,Gj ds]
end
mutual
theorem KS:∀d:Dv,(pyD d).hasDict=false
 | .non=>by simp[pyD,PyData.hasDict]
 | .bl _=>by simp[pyD,PyData.hasDict]
 | .int _=>by simp[pyD,PyData.hasDict]
 | .str _=>by simp[pyD,PyData.hasDict]
 | .tup ds=>by simp[pyD,PyData.hasDict,GX ds]
 | .lst ds=>by simp[pyD,PyData.hasDict,GX ds]
theorem GX:∀ds:List Dv,PyData.hasDictAll (BH ds)=false
 | []=>by simp[BH,PyData.hasDictAll]
 | d::ds=>by simp[BH,PyData.hasDictAll,KS d,GX ds]
end
def Bf(d:Dv):Str:=(pyD d).shown
section
variable {X:Cx}{pins:List (Addr × Obj)}{σ:St}{H:Hp}{s:Shared}
mutual
theorem LJ(I:Inv X pins σ H s):∀(d:Dv) (x:V) (u:Value),Rep X.K H d x->RelV x u->∃as,Reads s.heap u (pyD d) as
 | .non,x,u,h,r=>by unfold Rep at h;subst h;cases r;exact⟨_,by rw[pyD];exact .none⟩
 | .bl b,x,u,h,r=>by unfold Rep at h;subst h;cases r;exact⟨_,by rw[pyD];exact .bool b⟩
 | .int i,x,u,h,r=>by unfold Rep at h;subst h;obtain⟨t,rfl⟩:=r;exact⟨_,by rw[pyD];exact .int i t⟩
 | .str y,x,u,h,r=>by unfold Rep at h;subst h;obtain⟨t,rfl⟩:=r;exact⟨_,by rw[pyD];exact .str y t⟩
 | .tup ds,x,u,h,r=>by
  unfold Rep at h;obtain⟨a,xs,rfl,hs,hr⟩:=h;cases r;obtain⟨its,rv,⟨o,h1,h2,n,h3⟩,_⟩:=I.tuple hs;obtain⟨as,ha⟩:=Ga I ds xs its hr rv;exact⟨as,by rw[pyD];exact .tuple h1 h2 h3 ha⟩
 | .lst ds,x,u,h,r=>by
  unfold Rep at h;obtain⟨a,xs,rfl,hs,hr⟩:=h;cases r;obtain⟨its,rv,p,_⟩:=I.list hs;obtain⟨o,h1,h2,n,h3⟩:=p.isList;obtain⟨as,ha⟩:=Ga I ds xs its hr rv;exact⟨_,by rw[pyD];exact .list h1 h2 h3 ha⟩
theorem Ga(I:Inv X pins σ H s):∀(ds:List Dv) (xs:List V) (us:List Value),Reps X.K H ds xs->Vals xs us->∃as,ReadsAll s.heap us (BH ds) as
 | [],xs,us,h,r=>by unfold Reps at h;subst h;cases r;exact⟨_,by rw[BH];exact .nil⟩
 | d::ds,xs,us,h,r=>by
  unfold Reps at h;obtain⟨x,l,rfl,h1,h2⟩:=h;cases r with
  | cons r1 r2 =>
  obtain⟨as,ha⟩:=LJ I d x _ h1 r1;obtain⟨bs,hb⟩:=Ga I ds l _ h2 r2;exact⟨_,by rw[BH];exact .cons ha hb⟩
end
end
section
variable {X:Cx}{K:W.Frag}
end
open AutoSeq1 (wpAny_loadPart')
section
variable {prog:Program}{w:World}{A:Around}{E:Value->Shared->Prop}{s:Shared}
theorem OE {j tp:Addr} {k:Nat} {its:Array Value} {z:Value} {Q:Value->Shared->Prop} (hj:s.heap.IsTupleIter j tp k) (hp:s.heap.IsTuple tp its) (hz:its[k]? = some z)
 (q:∀h',h'.IsTupleIter j tp (k+1)->Heap.SameBut j s.heap h'->Q z { s with heap:=h' }):wpAny (model prog w) A (Builtin.SmallTypes.nextOf (.ref j)) Q E s:=by
 obtain⟨ob,g1,g2,g3⟩:=id hj;obtain⟨ol,k1,_,nl,k3⟩:=hp;unfold Builtin.SmallTypes.nextOf;refine ZA (wpAny_callSpecial?_slot (name:=Str.ofString "__next__") hj.typeIs F.slot_tuple_iterator_next (Z1 F.slot_tuple_iterator_next hj.typeIs F.entry_tuple_iterator_next ?_ (F.args_tuple_iterator_next_1 _)));show wpAny _ _ (field (.ref j) 0 >>= _) _ _ s;refine ZA (ZBA g1 g3 (x:=.ref tp) rfl ?_);show wpAny _ _ (if (Value.ref tp == Value.none)=true then _ else _) _ _ s;rw[if_neg (c:=(Value.ref tp == Value.none)=true) (fun z=>Zq z)];show wpAny _ _ (field (.ref j) 1 >>= _) _ _ s;refine ZA (ZBA g1 g3 (x:=.int k 0) rfl ?_);show wpAny _ _ (seqItems? (.ref tp) >>= _) _ _ s;refine ZA (wpAny_seqItems k1 k3 ?_);simp only[Zc,hz];refine ZA (ZBH g1 g3 (by simp) (ZB ⟨z,rfl,ZB (q _ ?_ (Z4 ..))⟩));refine⟨_,ZBP _ g1 (Obj.isFreed_of_fields (Obj.data_mapFields g3 _)),(Obj.cls_mapFields ..).trans g2,?_⟩;rw[Obj.data_mapFields g3];simp[rawInt]
theorem Nk {j tp:Addr} {k:Nat} {its:Array Value} {Q:Value->Shared->Prop} (hh:A.handled=none) (hj:s.heap.IsTupleIter j tp k) (hp:s.heap.IsTuple tp its) (hz:its[k]? = none)
 (q:∀h' e,Heap.ExtBut j s.heap h'->(∃o,h'.get? e=some o/\o.cls=.type "StopIteration")->E (.ref e) { s with heap:=h' }):wpAny (model prog w) A (Builtin.SmallTypes.nextOf (.ref j)) Q E s:=by
 obtain⟨ob,g1,g2,g3⟩:=id hj;obtain⟨ol,k1,_,nl,k3⟩:=hp;unfold Builtin.SmallTypes.nextOf;refine ZA (wpAny_callSpecial?_slot (name:=Str.ofString "__next__") hj.typeIs F.slot_tuple_iterator_next (Z1 F.slot_tuple_iterator_next hj.typeIs F.entry_tuple_iterator_next ?_ (F.args_tuple_iterator_next_1 _)));show wpAny _ _ (field (.ref j) 0 >>= _) _ _ s;refine ZA (ZBA g1 g3 (x:=.ref tp) rfl ?_);show wpAny _ _ (if (Value.ref tp == Value.none)=true then _ else _) _ _ s;rw[if_neg (c:=(Value.ref tp == Value.none)=true) (fun z=>Zq z)];show wpAny _ _ (field (.ref j) 1 >>= _) _ _ s;refine ZA (ZBA g1 g3 (x:=.int k 0) rfl ?_);show wpAny _ _ (seqItems? (.ref tp) >>= _) _ _ s;refine ZA (wpAny_seqItems k1 k3 ?_);simp only[Zc,hz];refine ZA (wpAny_rule (ZA (ZBH g1 g3 (by simp) ?_)));show wpAny _ _ (newExc (.type "StopIteration") [] >>= fun z=>_) _ _ _;refine ZA ?_;simp only[newExc,newTuple];refine ZA (Zr (hd:=by size_fits) ?_);refine ZA (m:=firstArgMember _ _) (wpAny_of_eq (a:=Value.none) (by first | (simp only[firstArgMember];rfl) | rfl) ?_);refine Zr (hd:=by size_fits) ?_;simp only[raiseNew];refine ZA (wpAny_handled ?_)
 first | rw[hh] | rw[show A.in1.handled=none from hh]
 refine ZA (ZB (wpAny_throw ?_));exact q _ _ (((Z4 ..).extBut.push _).push _) ⟨_,ZN _ rfl,rfl⟩
theorem Ug(hh:A.handled=none)(j tp:Addr)(hne:tp≠j)(its:Array Value) :
 Draws prog w A j [j,tp] its.size (fun k v=>its[k]? = some v) (fun k h=>h.IsTupleIter j tp k/\h.IsTuple tp its) where
 live:=fun _ _ st=>by obtain⟨⟨o,ho,_⟩,_⟩:=st;exact⟨o,ho⟩
 frame:=fun _ _ _ st hk=>by
  obtain⟨st1,o,h1,h2⟩:=st;exact⟨st1.at fun o e=>hk j (by simp) o e,o,hk tp (by simp) o h1,h2⟩
 item:=fun k s Q E hi st hQ=>by
  refine OE st.1 st.2 (z:=its[k]) (by simp[hi]) fun h' h1 h2=>?_
  exact hQ _ h' s.toks (by simp[hi]) ⟨h1,st.2.extBut h2.extBut hne⟩ h2
 done:=fun s Q E st hE=>Nk hh st.1 st.2 (by simp) hE
theorem Qo(tp:Addr)(its:Array Value)(n:Nat)(dct:Option Addr)(sl:Array (Option Value)) :
 Meets (Builtin.«enumerate.__new__» ⟨[.type "enumerate",.ref tp],[]⟩) (fun _ R s=>s.heap.get? tp=some { cls:=.type "tuple",dict:=dct,data:=.seq its n,slots:=sl } /\
  R (.ok (.ret (.ref (s.heap.push { cls:=.type "tuple_iterator",data:=.fields #[.ref tp,.int 0 0] }).objs.size)))
   { s with heap:=(s.heap.push { cls:=.type "tuple_iterator",data:=.fields #[.ref tp,.int 0 0] }).push { cls:=.type "enumerate",data:=.fields #[.none,.bool false,.ref s.heap.objs.size,rawInt 0,.none,.none] } }) :=
 .of_wp fun prog w A R s h=>by
  obtain⟨hp,g,d,tk,os⟩:=s;obtain⟨hl,h⟩:=h;have hsub:=sub_enumerate;have ht:Heap.IsTuple (Shared.heap ⟨hp,g,d,tk,os⟩) tp its:=⟨_,hl,rfl,n,rfl⟩
  wp_walk using wpAny_loadPart' hl
  refine wpAny_stack_any fun st=>ZB ?_
  split
  ·rename_i c _ _ _ _ _;cases (c == Value.type "enumerate") <;> (wp_walk using wpAny_loadPart' hl,wpAny_pyIter_tuple ht;exact⟨_,rfl,h⟩)
  ·wp_walk using wpAny_loadPart' hl,wpAny_pyIter_tuple ht
   exact⟨_,rfl,h⟩
theorem PJ {tp:Addr} {its:Array Value} {Q:Value->Shared->Prop} (ht:s.heap.IsTuple tp its)
 (h:∀h',IsEnum h' (s.heap.objs.size+1) s.heap.objs.size 0 .none->h'.IsTupleIter s.heap.objs.size tp 0->(∀b o,s.heap.get? b=some o->h'.get? b=some o)->Q (.ref (s.heap.objs.size+1)) { s with heap:=h' }) :
 wpAny (model prog w) A (call (.type "enumerate") [.ref tp]) Q E s:=by
 obtain⟨⟨c,dct,dt,sl⟩,hl,hc,n,hd⟩:=ht;cases (show c=.type "tuple" from hc);cases (show dt=.seq its n from hd);refine callType_new F.called_enumerate (by decide) (F.typeCall_enumerate_1 _) (F.newCall_enumerate_1 _) (fun obj=>F.args_object_init_2 obj _) F.entry_enumerate_new (Qo tp its n dct sl) ⟨hl,?_⟩;have z1:(s.heap.push { cls:=.type "tuple_iterator",data:=.fields #[.ref tp,.int 0 0] }).objs.size=s.heap.objs.size+1:=Z0 ..;show _/\_;rw[z1];have z2:=ZN (s.heap.push { cls:=.type "tuple_iterator",data:=.fields #[.ref tp,.int 0 0] }) (o:={ cls:=.type "enumerate",data:=.fields #[.none,.bool false,.ref s.heap.objs.size,rawInt 0,.none,.none] }) rfl;rw[z1]at z2;have z3:IsEnum _ (s.heap.objs.size+1) s.heap.objs.size 0 .none:=z2;exact⟨⟨_,z2,rfl⟩,h _ z3 ⟨_,ZH _ (ZN _ rfl),rfl,rfl⟩ fun b o x=>ZH _ (ZH _ x)⟩
end
def HE(K:W.Frag)(l:Addr):It :=
 ⟨fun i H=>∃xs x,SqT K H l xs/\xs[i]? = some x,
  fun i H v H'=>∃p x,H p=none/\v=.ref p/\H'=upd H p (.tup [.int i,x])/\∀xs,SqT K H l xs->xs[i]? = some x,
  fun i H=>∃xs,SqT K H l xs/\xs.length<=i⟩
theorem RP{kt:Nat}{tpos:Pos}{e it:Addr}(hne:e≠it) :
 Turn P w K (.Tuple es kt tpos) (HE K l) [e,it] e (fun i h=>(∃old,IsEnum h e it (i:Int) old)/\h.IsTupleIter it l i) where
 mem:=by simp
 obj:=fun i h st b hb=>by
  obtain⟨⟨old,hz⟩,⟨o1,e1,c1,d1⟩⟩:=st;simp only[ZF,ZBB,or_false]at hb
  rcases hb with rfl | rfl
  ·exact⟨_,hz,fun v q=>nomatch q⟩
  ·exact⟨o1,e1,fun v q=>by rw[d1]at q;cases q⟩
 keep:=fun i h h' ⟨⟨old,hz⟩,h1⟩ k=>⟨⟨old,k e (by simp) _ hz⟩,h1.at fun o q=>k it (by simp) o q⟩
 item:=by
  intro X hP hw hK hc i pins s σ H E I hf st hg;subst hP hw hK;obtain⟨xs,x,hq1,hx⟩:=hg;obtain⟨⟨old,hz⟩,h1⟩:=st;obtain⟨its,rv,p,_⟩:=I.tuple hq1;obtain⟨u,hu,ru⟩:=rv.get hx;have hp:s.heap.IsTuple l its.toArray:=p;have le:l≠e:=fun q=>by obtain⟨o,g1,g2,_⟩:=hp;rw[q]at g1;rw[show s.heap.get? e=_ from hz]at g1;cases g1;exact absurd (show Value.type "enumerate" = Value.type "tuple" from g2) (by decide)
  have li:l≠it:=fun q=>by obtain⟨o,g1,g2,_⟩:=hp;obtain⟨o',g3,g4,_⟩:=h1;rw[q,g3]at g1;cases g1;rw[g4]at g2;exact absurd g2 (by decide)
  refine wpAny_pyNext_enum_itemD (Ug (A:=X.A.in1) (show X.A.in1.handled=none from I.ok.hd hc) it l li its.toArray) hz ⟨h1,hp⟩ ?_ hne (by simp[hne,Ne.symm le]) fun y h' tk py z1 z2' z3 z4 z5=>?_
  ·have:=(Zm.mp hu).1
   simpa using this
  obtain⟨z2,_⟩:=z2'
  have ey:y=u:=by
   have:its.toArray[i]? = some u:=by simpa using hu
   rw[this]at py;exact(ZV py).symm
  subst ey;refine⟨_,rfl,?_⟩
  have z5':∀b v,b∉[e,it]->s.heap.get? b=some v->h'.get? b=some v:=fun b v hb q=>by
   simp only[ZF,ZBB,or_false,not_or]at hb;exact z5 b v hb.1 hb.2 q
  have I1:Inv X pins σ (upd H s.heap.objs.size (.tup [.int i,x])) { s with heap:=h' }:=by
   refine I.turnedNew (ch:=[e,it]) (fun b hb=>hf b hb) (ZD _) z5' ?_ fun b hb=>?_
   ·exact⟨smq rfl,[.int i tk,y],.cons ⟨_,rfl⟩ (.cons ru .nil),⟨_,z3,rfl,⟨_,rfl⟩,rfl⟩⟩
   ·simp only[ZF,ZBB,or_false]at hb
    rcases hb with rfl | rfl
    ·exact⟨_,z1⟩
    ·obtain⟨o,q,_⟩:=z2;exact⟨o,q⟩
  refine wpAny_letOwnedTupleGo_enum (s:={ s with heap:=h',toks:=tk+1 }) z1 fun h'' z8 z9=>?_
  have hfz:=hf e (by simp)
  have neT:∀b,b∈[e,it]->b≠s.heap.objs.size:=fun b hb q=>by
   have st':∃o,s.heap.get? b=some o:=by
    simp only[ZF,ZBB,or_false]at hb
    rcases hb with rfl | rfl
    ·exact⟨_,hz⟩
    ·obtain⟨o,q,_⟩:=h1;exact⟨o,q⟩
   obtain⟨o,ho⟩:=st'
   have:=ZG ho
   rw[q]at this;exact Zd _ this
  have hTH:∀b∈[e,it],upd H s.heap.objs.size (.tup [.int i,x]) b=none:=fun b hb=>by rw[AI (neT b hb)];exact(hf b hb).1
  have I2:Inv X pins σ (upd H s.heap.objs.size (.tup [.int i,x])) { s with heap:=h'',toks:=tk+1 } :=
   I1.turned (t':=tk+1) (fun b o hb q=>(z9.2 b hb).trans q) (hTH e (by simp)) hfz.2.1 hfz.2.2.2.1 hfz.2.2.2.2.1 hfz.2.2.2.2.2
  have up:∀b o,b≠e->h'.get? b=some o->h''.get? b=some o:=fun b o hb q=>(z9.2 b hb).trans q
  exact⟨.ref s.heap.objs.size,_,I2,rfl,⟨_,x,I.hok.fresh (ZD _),rfl,rfl,fun xs' h=>by rw[I.tuple_inj h hq1];exact hx⟩,⟨⟨_,z8⟩,z2.at fun o q=>up _ o (Ne.symm hne) q⟩,hTH⟩
 done:=by
  intro X hP hw hK hc i pins s σ H E I hf st hg;subst hP hw hK;obtain⟨xs,hq1,hl⟩:=hg;obtain⟨⟨old,hz⟩,h1⟩:=st;obtain⟨its,rv,p,_⟩:=I.tuple hq1;have e1:=rv.length;have hp:s.heap.IsTuple l its.toArray:=p;have hT:s.TypeIs (.ref e) "enumerate":=⟨_,hz,rfl⟩;unfold pyNext;refine ZA (wpAny_attempt (wpAny_callSpecial?_slot (name:=Str.ofString "__next__") hT F.slot_enumerate_next (Z1 F.slot_enumerate_next hT F.entry_enumerate_next ?_ (F.args_enumerate_next_1 _))));show wpAny _ _ (field (.ref e) 2 >>= fun z=>_) _ _ _;refine ZA (ZBA hz rfl (x:=.ref it) rfl ?_);refine ZA (Nk (by first | exact I.ok.hd hc | simpa using I.ok.hd hc) h1 hp (by simp;lia) fun h' x z7 hx'=>?_);obtain⟨o,ho,hcl⟩:=hx';refine ZA (wpAny_isInstance (T:="StopIteration") (b:=true) ⟨o,ho,hcl⟩ isSubtype_stop (ZB ⟨rfl,?_⟩));obtain⟨f0,f1,f2,f3,f4,f5⟩:=hf it (by simp);exact I.turned (t':=s.toks) (fun b o hb q=>z7 b o hb q) f0 f1 f3 f4 f5
 self:=fun _ _ _ _ _ st h=>wpAny_pyIter_enum st.1.choose_spec h
section
variable {X:Cx}
def T7(K:W.Frag)(ta:TA):TI:=fun σ H R=>ta σ H fun vs H1=>match vs with
 | [.ref a]=>(∃xs,SqT K H1 a xs)/\R (HE K a) H1
 | _=>False
theorem MW {a:Expr} {ta:TA} {p:Pos} {kt:Nat} {tpos:Pos} (hg:Gl X "enumerate") (hm:X.mg "enumerate" = none) (ha:PA X [a] ta)
 (hs:starEach [a] X.env=[(false,eval a X.env)]:=by rfl) (hK:X.K=K:=by rfl) :
 PI X (.Tuple es kt tpos) (.Call (.Name "enumerate" p) [a] [] pos) (T7 K ta):=by
 subst hK;intro pins s σ H R I h;refine Call_ (Ct I hg hm (by rfl:bootBuiltins "enumerate" = some (.type "enumerate")) (PyProof.Rows.callWith_type1 (thn (ha pos pins s σ H _ I h) fun us s1 ⟨vs,H1,I1,r1,q1⟩=>?_) (by rw[hs];rfl) (by rfl)))
 match vs,q1,r1 with
 | [.ref l1],⟨⟨xs,hx⟩,q⟩,r1 =>
 cases r1 with
 | cons r rr =>
 cases rr;cases r;obtain⟨its,rv,p1,_⟩:=I1.tuple hx;refine PJ (its:=its.toArray) p1 fun h' z1 z2 z4=>?_
 refine wpAny_pyIter_enum (s:={ s1 with heap:=h' }) z1 ?_;have I2:Inv X pins σ H1 { s1 with heap:=h' }:=I1.kept (t':=s1.toks) z4;refine⟨_,_,_,_,H1,rfl,I2,RP (l:=l1) (it:=s1.heap.objs.size) (ZBd (ZBV _)),⟨⟨_,z1⟩,z2⟩,fun b hb=>?_,q⟩;refine I1.fpOk ?_ (I1.hok.fresh ?_)
 all_goals
  simp only[ZF,ZBB,or_false]at hb
  rcases hb with rfl | rfl
  ·exact ZBf _
  ·exact ZD _
theorem Ni {g:TG} {tc:TT} (Pv:Nat->List V->Hp->Prop) (h0:Pv 0 [] H) (hl:∀i zs H,i<=xs.length->Pv i zs H->SqT K H l xs) (hz:∀i zs H,i < xs.length->Pv i zs H->zs.length < sizeLine)
 (hs:∀i x zs H p,xs[i]? = some x->Pv i zs H->H p=none->g (.ref p) σc (upd H p (.tup [.int (i:Nat),x])) fun σ2 H2=>tc σ2 H2 fun b H3=>if b=true then te σ2 H3 fun v H4=>Pv (i+1) (zs++[v]) H4 else Pv (i+1) zs H3)
 (hd:∀zs H,Pv xs.length zs H->∀p,H p=none->Q (.ref p) (upd H p (.lst zs))):Co (HE K l) g tc te σc Q H:=by
 refine⟨fun i m zs H=>m=xs.length - i/\i<=xs.length/\Pv i zs H,⟨xs.length,by simp,ZX _,h0⟩,?_⟩;rintro i m zs H ⟨rfl,hi,p⟩;have q1:=hl i zs H hi p
 by_cases hlt:i < xs.length
 ·refine .inr ⟨⟨xs,xs[i],q1,by simp[hlt]⟩,hz i zs H hlt p,Pv (i+1),fun zs' H' p'=>⟨xs.length - (i+1),by lia,rfl,hlt,p'⟩,?_⟩;rintro v H' ⟨pp,x,hp,rfl,rfl,k1⟩;exact hs i x zs H pp (k1 xs q1) p hp
 ·have e:i=xs.length:=by lia
  subst e;exact .inl ⟨⟨xs,q1,ZD _⟩,hd zs H p⟩
end
structure Feed(H:Hp)(t:Addr):Prop where
 at_:∃a b k c:Int,0<=a/\H t=some (.lst [.int a,.int b,.int k,.int c])
theorem Feed.free{t:Addr}(F:Feed H' t)(h:Frm t H H')(hp:H' p=none):H p=none:=by
 cases e:H p with
 | none=>rfl
 | some o =>
  by_cases hpt:p=t
  ·subst hpt;obtain⟨a,b,k,c,_,h3⟩:=F.at_;rw[h3]at hp;cases hp
  ·rw[h p o hpt e]at hp;cases hp
theorem Gs(a b:Nat):Builtin.bitAnd (a:Int) (b:Int)=((a &&& b:Nat):Int):=by
 unfold Builtin.bitAnd;rw[ZO (ZB5 a),ZO (ZB5 b)];rfl
def iL(xs:List Nat):List V:=xs.map fun i=>V.int (i:Nat)
def iD(xs:List Nat):List Dv:=xs.map fun i=>Dv.int (i:Nat)
theorem Aj(xs:List Nat):(iL xs).length=xs.length:=by unfold iL;rw[ZC]
theorem Bc(xs ys:List Nat):iL (xs++ys)=iL xs++iL ys:=by unfold iL;rw[ZM]
theorem B1{xs:List Nat}(h:(iL xs)[i]? = some v):∃x,xs[i]? = some x/\x∈xs/\v=.int (x:Nat):=by
 unfold iL at h;rw[ZR]at h;cases e:xs[i]? with
 | none=>rw[e]at h;cases h
 | some x=>rw[e]at h;exact⟨x,rfl,Z9 e,(ZV h).symm⟩
theorem B7:∀xs:List Nat,Reps K H (iD xs) (iL xs)
 | []=>by unfold iD iL Reps;rfl
 | x::xs=>by
  show Reps K H (Dv.int (x:Nat)::iD xs) (V.int (x:Nat)::iL xs);unfold Reps;exact⟨_,_,rfl,by unfold Rep;rfl,B7 xs⟩
theorem Dg:∀xs:List Nat,A8 (iD xs)=0
 | []=>by unfold iD;simp[A8]
 | x::xs=>by
  show A8 (Dv.int (x:Nat)::iD xs)=_;unfold A8;rw[Dg xs];unfold Ac;rfl
theorem PH{H0:Hp}{t:Addr}(s:Same H0 H)(ht:H0 t=none):Same H0 (upd H t o):=fun b u e=>by
 rw[AI (BW e ht)];exact s b u e
theorem Same.sqT(e:Same H H')(h:SqT K H a xs):SqT K H' a xs:=FI h (fun o k=>e _ _ k)
theorem Same.sqL(e:Same H H')(h:SqL K H a xs):SqL K H' a xs:=NE h (fun o k=>e _ _ k)
def Kx(f:Nat->Int):Nat->Int
 | 0=>0
 | n+1=>Kx f n+f n
def chi:Nat->Nat->Nat->Int
 | 0,_,_=>1
 | n+1,a,b=>(if a % 2=1/\b % 2=1 then -1 else 1) * chi n (a / 2) (b / 2)
def hs(v:Nat->Int)(s k:Nat):Int:=Kx (fun j=>chi s (k % 2 ^ s) j * v (k / 2 ^ s * 2 ^ s+j)) (2 ^ s)
def MU:Nat->Nat->Nat
 | 0,_=>0
 | f+1,x=>x % 2+MU f (x / 2)
@[irreducible] def We(x:Nat):Nat:=MU 64 x
def GC(q:Nat × Int):Dv:=.tup [.int q.1,.int q.2]
def Eb(m:Nat)(ts:List (Nat × Int)):Dv:=.tup [.int m,.tup (ts.map GC)]
structure SumAt(K:W.Frag)(H:Hp)(v:V)(m:Nat)(ts:List (Nat × Int)):Prop where
 at_:∃(a b:Addr) (vs:List V),v=.ref a/\SqT K H a [.int m,.ref b]/\SqT K H b vs/\Reps K H (ts.map GC) vs
theorem SumAt.of{m:Nat}{ts:List (Nat × Int)}(h:Rep K H (Eb m ts) v):SumAt K H v m ts:=by
 unfold Eb Rep at h;obtain⟨a,xs,rfl,ha,hr⟩:=h;unfold Reps at hr;obtain⟨x,r,rfl,h1,hr⟩:=hr;unfold Rep at h1;subst h1;unfold Reps at hr;obtain⟨x,r,rfl,h2,hr⟩:=hr;unfold Reps at hr;subst hr;unfold Rep at h2;obtain⟨b,vs,rfl,hb,hr⟩:=h2;exact⟨a,b,vs,rfl,ha,hb,hr⟩
theorem SumAt.rep{m:Nat}{ts:List (Nat × Int)}(h:SumAt K H v m ts):Rep K H (Eb m ts) v:=by
 obtain⟨a,b,vs,rfl,ha,hb,hr⟩:=h.at_;unfold Eb Rep;refine⟨a,_,rfl,ha,AN Bo (AN ?_ AV)⟩;unfold Rep;exact⟨b,vs,rfl,hb,hr⟩
def gB(bs:List Bool)(i:Nat):Bool:=bs.getD i false
theorem VV{bs:List Bool}(h:i < bs.length):gB bs i=bs[i]:=by unfold gB;rw[ZY,ZE h];rfl
theorem LC{bs:List Bool}(h:i < bs.length):atI (bs.map V.bl) ((i:Nat):Int)=some (.bl (gB bs i)):=by
 rw[VV h];exact A2 rfl (by rw[ZR,ZE h];rfl)
theorem KF:∀ts:List (Nat × Int),Ab (ts.map GC)=true
 | []=>by unfold Ab;rfl
 | q::ts=>by
  rw[Zi];unfold Ab;rw[KF ts];unfold GC A4 Ab A4 Ab A4 Ab;rfl
theorem Feed.lst{H:Hp}{t:Addr}(F:Feed H t):∃zs,H t=some (.lst zs):=by
 obtain⟨a,b,k,c,_,h⟩:=F.at_;exact⟨_,h⟩
theorem SumAt.frm{t:Addr}{m:Nat}{ts:List (Nat × Int)}(S:SumAt K H v m ts)(F:Feed H t)(f:Frm t H H'):SumAt K H' v m ts:=by
 refine .of (Rep.frm f F.lst _ _ ?_ S.rep);have e:=KF ts;simp[Eb,A4,Ab,e]
section
variable {X:Cx}{K:W.Frag}
end
def Nb(x:Int)(k:Nat):Prop:=x.natAbs < 2 ^ k
theorem Nb.mul{x y:Int}{a b:Nat}(hx:Nb x a)(hy:Nb y b):Nb (x * y) (a+b):=by
 unfold Nb at *;rw[Int.natAbs_mul,Nat.pow_add];exact Nat.mul_lt_mul'' hx hy
theorem Nb.up{x:Int}{a b:Nat}(hx:Nb x a)(h:a<=b):Nb x b:=ZT hx (Zj (by decide) h)
theorem Nb.pow{x:Int}{a:Nat}(hx:Nb x a):∀i,Nb (x ^ i) (a * i+1)
 | 0=>by unfold Nb;rw[Int.pow_zero];show 1 < 2 ^ (a * 0+1);rw[Nat.mul_zero];decide
 | i+1=>by
  rw[Int.pow_succ]
  have:=(hx.pow i).mul hx
  rw[show a * (i+1)+1=a * i+1+a by rw[Nat.mul_succ];lia];exact this
theorem Nb.okMul{x y:Int}(hx:Nb x 4000)(hy:Nb y 4000):okMul x y:=.inl ⟨hx.up (by decide),hy.up (by decide)⟩
def EY(H:Hp)(Q:VK)(xs:List V):Prop:=∀p H',H p=none->Same H H'->H' p=some (.lst xs)->Q (.ref p) H'
theorem B3{Q':VK}(h:∀v H,Q v H->Q' v H)(q:EY H Q xs):EY H Q' xs:=fun p H' a b c=>h _ _ (q p H' a b c)
theorem Om(f:Nat->Bool)(n:Nat):((List.range (n+1)).map f).map V.bl=((List.range n).map f).map V.bl++[V.bl (f n)]:=by
 rw[ZBR,ZM,ZM];rfl
theorem Rm{td ty tv:TE}(h1:Ak td)(h2:Ak ty)(h3:Ak tv):BS (K7 td ty tv):=fun D D' σ H h q=>h3 _ _ _ _ (fun _ _ q=>h1 _ _ _ _ (fun _ _ q=>h2 _ _ _ _ (fun _ _ ⟨a,H4,e,g,q⟩=>⟨a,H4,e,g,h.nx _ _ q⟩) q) q) q
theorem DU(h:A.units+60 < cLine):A.units+1 < cLine:=by lia
end L2
namespace HT
open PySem PyProof.Rows
section
variable {prog:Program}{w:World}{A:Around}{E:Value->Shared->Prop}{s:Shared}
end
end HT
namespace L2
open PySem PySem.Spec PyProof.Rows
variable {H:Hp}{d t:Addr}{N:Nat}{K:W.Frag}
section
variable {X:Cx}{K:W.Frag}{e sx:Expr}{te ts:TE}{lo hi:Option Expr}{tl th:TO}{pos p2:Pos}
def mIs(neg:Bool):R2:=fun x y H Q=>match x,y with
 | .bl a,.bl b=>Q (.bl (neg ^^ (a == b))) H
 | x,.non=>Q (.bl (neg ^^ decide (x=.non))) H
 | _,_=>False
theorem JY:OpR X (compareOp .IsNot) (mIs true):=by
 intro pins s σ H x y v u Q I rx ry h;unfold mIs at h;split at h
 ·cases rx;cases ry;rename_i a b;exact wpAny_of_eq (show compareOp .IsNot (.bool a) (.bool b)=pure (.bool (!(a == b))) by cases a <;> cases b <;> rfl) ⟨.bl (!(a == b)),H,I,rfl,by rw[Bool.true_xor]at h;exact h⟩
 ·exact Vm pins s σ H _ _ v u Q I rx ry ⟨rfl,by rw[Bool.true_xor]at h;exact h⟩
 ·exact h.elim
theorem Uc{neg:Bool}:Bd (mIs neg):=fun x y H Q Q' h q=>by
 unfold mIs at *;split at q
 ·exact h _ _ q
 ·exact h _ _ q
 ·exact q.elim
end
structure GFeed(H:Hp)(t:Addr)(N:Nat):Prop where
 at_:∃(l:Addr) (i g c:Int) (ns:List Int),0<=i/\0<=g/\0<=c/\c<=N/\H t=some (.lst [.ref l,.int i,.int g,.int c])/\l≠t/\H l=some (.lst (ns.map V.int))/\ns.length≠0
theorem GFeed.same{H':Hp}(F:GFeed H t N)(h:Same H H'):GFeed H' t N:=by
 obtain⟨l,i,g,c,ns,h1,h2,h3,h4,h5,h6,h7,h8⟩:=F.at_;exact⟨l,i,g,c,ns,h1,h2,h3,h4,h _ _ h5,h6,h _ _ h7,h8⟩
theorem GFeed.upd{p:Addr}{o:HO}(F:GFeed H t N)(h:H p=none):GFeed (L2.upd H p o) t N:=F.same (Same.upd h)
theorem GFeed.mono{N':Nat}(F:GFeed H t N)(h:N<=N'):GFeed H t N':=by
 obtain⟨l,i,g,c,ns,h1,h2,h3,h4,h5⟩:=F.at_;exact⟨l,i,g,c,ns,h1,h2,h3,by lia,h5⟩
theorem GFeed.lst{H:Hp}{t:Addr}{N:Nat}(F:GFeed H t N):∃zs,H t=some (.lst zs):=by
 obtain⟨l,i,g,c,ns,h1,h2,h3,h4,h5,_⟩:=F.at_;exact⟨_,h5⟩
theorem GFeed.neT{p:Addr}(F:GFeed H t N)(hp:H p=none):p≠t:=fun e=>by
 obtain⟨zs,h⟩:=F.lst;rw[e,h]at hp;cases hp
theorem GFeed.free{H':Hp}{p:Addr}(F:GFeed H' t N)(h:Frm t H H')(hp:H' p=none):H p=none:=by
 cases e:H p with
 | none=>rfl
 | some o =>
  by_cases hpt:p=t
  ·subst hpt;obtain⟨zs,h3⟩:=F.lst;rw[h3]at hp;cases hp
  ·rw[h p o hpt e]at hp;cases hp
def ED:Sp:=fun vs H Q _=>match vs with
 | [.ref t,.int m]=>∃N,GFeed H t N/\N<=1000000000/\okDiv m/\∀d H',0<=d->d < m->GFeed H' t (N+1)->(∀b,b≠t->H' b=H b)->Q (.int d) H'
 | _=>False
theorem SR:Ai ED:=fun vs H Q Q' E h q=>by
 unfold ED at *;split at q
 ·obtain⟨N,h1,h2,h3,q⟩:=q;exact⟨N,h1,h2,h3,fun d H' a b c e=>h _ _ (q d H' a b c e)⟩
 ·exact q.elim
def Jd(K:W.Frag):Sp:=fun vs H Q _=>match vs with
 | [.ref a]=>∃ns:List Int,SqL K H a (ns.map V.int)/\∀t H',H t=none->Same H H'->GFeed H' t 0->Q (.ref t) H'
 | _=>False
theorem FY:∀ns:List Int,Reps K H (ns.map Dv.int) (ns.map V.int)
 | []=>AV
 | n::ns=>AN Bo (FY ns)
theorem Lq:∀ns:List Int,A8 (ns.map Dv.int)=0
 | []=>by rw[List.map_nil];unfold A8;rfl
 | n::ns=>by rw[Zi];unfold A8;rw[Lq ns];unfold Ac;rfl
def tyD:Dv->String
 | .non=>"NoneType"
 | .bl _=>"bool"
 | .int _=>"int"
 | .str _=>"str"
 | .tup _=>"tuple"
 | .lst _=>"list"
def FK(K:W.Frag):List V->Hp->VK->Prop:=fun xs H Q=>match xs with
 | [x,.ty T]=>T∈kinds/\∃d,Rep K H d x/\Q (.bl (Dt (tyD d) T)) H
 | _=>False
theorem V1{t T:String}(ht:t = "int" \/ t = "bool" \/ t = "tuple" \/ t = "list")(hT:T∈kinds):PySem.W.kitOne K (.type t) (.type T)=some (Dt t T):=by
 unfold kinds at hT;simp only[ZF,ZBB,or_false]at hT
 rcases ht with rfl | rfl | rfl | rfl <;> rcases hT with rfl | rfl | rfl | rfl | rfl | rfl <;> rfl
theorem Tq{X:Cx}:CallR X (.builtin "isinstance") (FK X.K):=by
 intro pins s σ H xs us Q I r q
 match xs,q with
 | [x,.ty T],q =>
  obtain⟨hT,d,h,q⟩:=q
  have go:∀t,TyS X.K H x t->Q (.bl (Dt t T)) H->wpAny (model X.prog X.w) X.A (call (.builtin "isinstance") us) (EP X pins σ Q) X.xe s:=fun t ht hq=>by
   obtain⟨u,w',rfl,ru,rw'⟩:=EQ r;cases rw';obtain⟨ht,hn,Hh,k,hh⟩:=Rs I ru ht;exact PySem.W.kia_one k I.kIn hh (V1 ht hT) hn fun tk=>⟨.bl (Dt t T),H,I.tok _,rfl,hq⟩
  have hT':=hT;unfold kinds at hT';simp only[ZF,ZBB,or_false]at hT';cases d with
  | non =>
   unfold Rep at h;subst h;refine NS pins s σ H _ us Q I r ⟨hT,_,rfl,?_⟩;have e:(T == "NoneType")=Dt (tyD .non) T:=by rcases hT' with rfl | rfl | rfl | rfl | rfl | rfl <;> rfl
   rw[e];exact q
  | str z =>
   unfold Rep at h;subst h;refine NS pins s σ H _ us Q I r ⟨hT,_,rfl,?_⟩;have e:(T == "str")=Dt (tyD (.str z)) T:=by rcases hT' with rfl | rfl | rfl | rfl | rfl | rfl <;> rfl
   rw[e];exact q
  | bl b=>unfold Rep at h;subst h;exact go _ rfl q
  | int i=>unfold Rep at h;subst h;exact go _ rfl q
  | tup ds=>unfold Rep at h;obtain⟨a,xs,rfl,hs,_⟩:=h;exact go _ (.inl ⟨rfl,xs,hs⟩) q
  | lst ds=>unfold Rep at h;obtain⟨a,xs,rfl,hs,_⟩:=h;exact go _ (.inr ⟨rfl,xs,hs⟩) q
theorem Dh{X:Cx}(hK:X.K=K:=by rfl):CallR X (.builtin "isinstance") (FK K):=hK ▸ Tq
theorem On:CK (FK K):=fun xs H Q Q' h q=>by
 unfold FK at *;split at q
 ·obtain⟨a,t,b,q⟩:=q;exact⟨a,t,b,h _ _ q⟩
 ·exact q.elim
theorem Bv:∀bs:List Bool,Reps K H (bs.map Dv.bl) (bs.map V.bl)
 | []=>AV
 | b::bs=>AN SB (Bv bs)
theorem Ch{ds:List Dv}{v:V}(h:Rep K H (.tup ds) v):∃a xs,v=.ref a/\SqT K H a xs/\Reps K H ds xs:=by unfold Rep at h;exact h
theorem A0{p:Addr}{xs:List V}{ds:List Dv}(h:SqT K H p xs)(r:Reps K H ds xs):Rep K H (.tup ds) (.ref p):=by unfold Rep;exact⟨p,xs,rfl,h,r⟩
theorem LK:∀ds es:List Dv,Ab (ds++es)=(Ab ds && Ab es)
 | [],es=>by rw[List.nil_append];simp[Ab]
 | d::ds,es=>by
  rw[List.cons_append]
  show(A4 d && Ab (ds++es))=(A4 d && Ab ds && Ab es)
  rw[LK ds es,Bool.and_assoc]
theorem Ht:∀bs:List Bool,Ab (bs.map Dv.bl)=true
 | []=>rfl
 | b::bs=>by
  show(true && Ab (bs.map Dv.bl))=true
  rw[Ht bs];rfl
section
variable {X:Cx}{pins:List (Addr × Obj)}{σ:St}{H:Hp}{s:Shared}
theorem Inv.hold{kvs:List (Key × V)}(I:Inv X pins σ H s)(h:H d=some (.dK kvs)):∃o,s.heap.get? d=some o/\Inv X pins σ (upd H d (.frz o (.dK kvs))) s:=by
 obtain⟨hl,hs,vs,r,dd⟩:=(show ObjOk X.prog X.w H s.heap d (.dK kvs) from I.hok d _ h);obtain⟨o,es,ep,ho,rest⟩:=id dd;refine⟨o,ho,?_⟩
 have:=I.write (x:=d) (e:=d) (o:=.frz o (.dK kvs)) (h':=s.heap) (t':=s.toks) (by rw[h];exact True.intro) (.inl rfl) (fun b u _ q=>q) ⟨o,ho⟩ ⟨ho,hl,hs,vs,r,dd⟩
 exact this
theorem Inv.held{o:Obj}{kvs:List (Key × V)}(I:Inv X pins σ H s)(h:H d=some (.frz o (.dK kvs))):s.heap.get? d=some o/\(d == sysModules)=false/\kvs.length<=sizeLine/\∃vs,KV kvs vs/\s.heap.DictOf (BN X.prog X.w) d vs:=by
 obtain⟨ho,hl,hs,vs,r,dd⟩:=(show ObjOk X.prog X.w H s.heap d (.frz o (.dK kvs)) from I.hok d _ h);exact⟨ho,hs,hl,vs,r,dd⟩
theorem KV.get{kvs:List (Key × V)}{vs:List (Key × Value)}(r:KV kvs vs):∀{i:Nat} {q:Key × V},kvs[i]? = some q->∃v,vs[i]? = some (q.1,v)/\RelV q.2 v:=by
 induction r with
 | nil=>intro i q e;simp at e
 | @cons a b l1 l2 h t ih =>
  intro i q e;cases i with
  | zero =>
   simp at e;subst e;obtain⟨b1,b2⟩:=b;obtain⟨h1,h2⟩:=h;exact⟨b2,by simp;exact h1.symm,h2⟩
  | succ i =>
   obtain⟨v,h1,h2⟩:=ih (i:=i) (q:=q) (by simpa using e);exact⟨v,by simpa using h1,h2⟩
theorem KV.len{kvs:List (Key × V)}{vs:List (Key × Value)}(r:KV kvs vs):kvs.length=vs.length:=Paired.length r
theorem VT{k:Key}{u:Value}(h:DB k u=true):RelV (kV k) u:=by
 rcases keyIs_shape h with ⟨i,t,rfl,rfl⟩ | ⟨x,t,rfl,rfl⟩
 ·exact⟨t,rfl⟩
 ·exact⟨t,rfl⟩
end
def Itm(d:Addr)(o:Obj):It :=
 ⟨fun i H=>∃kvs q,H d=some (.frz o (.dK kvs))/\kvs[i]? = some q,
  fun i H v H'=>∃p kvs q,H d=some (.frz o (.dK kvs))/\kvs[i]? = some q/\H p=none/\v=.ref p/\H'=upd H p (.tup [kV q.1,q.2]),
  fun i H=>∃kvs,H d=some (.frz o (.dK kvs))/\kvs.length<=i⟩
theorem Gg{P:Program}{w:World}{h:Heap}{o:Obj}{es:Array DictEntry}{ep:Nat}{vs:List (Key × Value)}(ho:h.get? d=some o)(hd:o.data=.dict es ep)(dd:h.DictOf (BN P w) d vs):h.DictAt (BN P w) d vs ep/\es.size=vs.length:=by
 obtain⟨o',es',ep',h1,h2,h3,h4,h5,h6⟩:=dd;rw[ho]at h1;cases h1;rw[hd]at h3;cases h3;exact⟨⟨o,es,ho,h2,hd,h4,h5,h6⟩,by rw[<- h5.length];simp⟩
theorem P7:entryFor table "dict_itemiterator.__iter__" = some Builtin.«dict_keyiterator.__iter__» :=
 entryFor_alias (id':="dict_keyiterator.__iter__") (by kernel_rfl) (by first | rfl | decide +kernel) (by decide +kernel) (by kernel_rfl)
theorem Um{prog:Program}{w:World}{A:Around}{E:Value->Shared->Prop}{s:Shared}{it:Addr}{i n ep:Nat}{ok ov:Value}{Q:Value->Shared->Prop}(hz:IsItemIter s.heap it d i n ep ok ov)(h:Q (.ref it) s):wpAny (model prog w) A (pyIter (.ref it)) Q E s:=by
 have hT:s.TypeIs (.ref it) "dict_itemiterator":=⟨_,hz,rfl⟩;refine wpAny_pyIter_slot hT F.slot_dict_itemiterator_iter (Z1 F.slot_dict_itemiterator_iter hT P7 ?_ (F.args_dict_itemiterator_iter_1 _));show wpAny _ _ (ret (.ref it)) _ _ s;exact ZB ⟨_,rfl,"dict_itemiterator",_,hT,F.slot_dict_itemiterator_next.lookup,h⟩
theorem QY{P:Program}{w:World}{ts:List Expr}{kt:Nat}{tpos:Pos}{it:Addr}{o:Obj}{es:Array DictEntry}{ep:Nat}(hdat:o.data=.dict es ep) :
 Turn P w K (.Tuple ts kt tpos) (Itm d o) [it] it (fun i h=>∃ok ov,IsItemIter h it d i es.size ep ok ov) where
 mem:=by simp
 obj:=fun i h st b hb=>by
  obtain⟨ok,ov,hz⟩:=st;obtain rfl:b=it:=by simpa using hb
  exact⟨_,hz,fun v q=>nomatch q⟩
 keep:=fun i h h' ⟨ok,ov,hz⟩ k=>⟨ok,ov,k it (by simp) _ hz⟩
 item:=by
  intro X hP hw hK hc i pins s σ H E I hf st hg;subst hP hw hK;obtain⟨kvs,q,hq1,hx⟩:=hg;obtain⟨ok,ov,hz⟩:=st;obtain⟨ho,hs,hl,vs,rv,dd⟩:=I.held hq1;obtain⟨da,hsz⟩:=Gg ho hdat dd;obtain⟨u,hu,ru⟩:=rv.get hx;rw[hsz]at hz;refine wpAny_pyNext_items_item hz da hu fun key h' z0 z1 z2 z3 z4=>?_
  refine⟨_,rfl,?_⟩;have z4':∀b v,b∉[it]->s.heap.get? b=some v->h'.get? b=some v:=fun b v hb q=>z4 b v (by simpa using hb) q
  have I1:Inv X pins σ (upd H s.heap.objs.size (.tup [kV q.1,q.2])) { s with heap:=h' }:=by
   refine I.turnedNew (ch:=[it]) (fun b hb=>hf b hb) (ZD _) z4' ?_ fun b hb=>?_
   ·exact⟨smq rfl,[key,u],.cons (VT z0) (.cons ru .nil),⟨_,z2,rfl,⟨_,rfl⟩,rfl⟩⟩
   ·obtain rfl:b=it:=by simpa using hb
    exact⟨_,z1⟩
  refine wpAny_letOwnedTupleGo_items (s:={ s with heap:=h' }) z1 fun h'' z8 z9=>?_
  have hfz:=hf it (by simp)
  have neT:it≠s.heap.objs.size:=fun q=>by
   have:=ZG hz
   rw[q]at this;exact Zd _ this
  have hTH:∀b∈[it],upd H s.heap.objs.size (.tup [kV q.1,q.2]) b=none:=fun b hb=>by
   obtain rfl:b=it:=by simpa using hb
   rw[AI neT];exact hfz.1
  have I2:Inv X pins σ (upd H s.heap.objs.size (.tup [kV q.1,q.2])) { s with heap:=h'' } :=
   I1.turned (t':=s.toks) (fun b o hb q=>(z9.2 b hb).trans q) (hTH it (by simp)) hfz.2.1 hfz.2.2.2.1 hfz.2.2.2.2.1 hfz.2.2.2.2.2
  rw[<- hsz]at z8;exact⟨.ref s.heap.objs.size,_,I2,rfl,⟨_,kvs,q,hq1,hx,I.hok.fresh (ZD _),rfl,rfl⟩,⟨_,_,z8⟩,hTH⟩
 done:=by
  intro X hP hw hK hc i pins s σ H E I hf st hg;subst hP hw hK;obtain⟨kvs,hq1,hl⟩:=hg;obtain⟨ok,ov,hz⟩:=st;obtain⟨ho,hs,hl',vs,rv,dd⟩:=I.held hq1;obtain⟨da,hsz⟩:=Gg ho hdat dd;have e1:=rv.len;rw[hsz]at hz;refine wpAny_pyNext_items_end (I.ok.hd hc) hz da (by simp;lia) fun h' z7=>⟨rfl,?_⟩
  obtain⟨f0,f1,f2,f3,f4,f5⟩:=hf it (by simp);exact I.turned (t':=s.toks) (fun b o hb q=>z7 b o hb q) f0 f1 f3 f4 f5
 self:=fun A i s Q E st h=>by
  obtain⟨ok,ov,hz⟩:=st;exact Um hz h
def Kc(x:V)(H:Hp)(R:Addr->Obj->Hp->Prop):Prop:=match x with
 | .ref d=>(∃kvs,H d=some (.dK kvs)/\∀o,R d o (upd H d (.frz o (.dK kvs))))\/∃kvs o,H d=some (.frz o (.dK kvs))/\R d o H
 | _=>False
theorem QC{X:Cx}{pins:List (Addr × Obj)}{σ:St}{s:Shared}{x:V}{v:Value}{R:Addr->Obj->Hp->Prop}(I:Inv X pins σ H s)(r:RelV x v)(h:Kc x H R) :
 ∃d kvs o H2,v=.ref d/\Inv X pins σ H2 s/\H2 d=some (.frz o (.dK kvs))/\R d o H2:=by
 cases x with
 | ref d =>
  cases r
  rcases h with ⟨kvs,e,q⟩ | ⟨kvs,o,e,q⟩
  ·obtain⟨o,ho,I2⟩:=I.hold e;exact⟨d,kvs,o,_,rfl,I2,AD,q o⟩
  ·exact⟨d,kvs,o,H,rfl,I,e,q⟩
 | _=>exact False.elim h
def WI(to:TE):TI:=fun σ H R=>to σ H fun x H1=>Kc x H1 fun d o H2=>R (Itm d o) H2
section
variable {X:Cx}{K:W.Frag}{tg oe:Expr}{to:TE}{ts:List Expr}{kt:Nat}{tpos apos cpos:Pos}
theorem Qk(ho:PE X oe to)(hbase:attributeBase oe "items" X.env (eval oe X.env)=eval oe X.env:=by rfl)(hline:(apos.endLine == cpos.line)=true:=by rfl) :
 PI X (.Tuple ts kt tpos) (.Call (.Attribute oe "items" apos) [] [] cpos) (WI to):=by
 intro pins s σ H R I h;refine wpAny_Call_method0_late hbase hline (thn (ho pins s σ H _ I h) fun v s1 ⟨x,H1,I1,r1,q1⟩=>?_);obtain⟨d,kvs,o,H2,rfl,I2,hd2,q⟩:=QC I1 r1 q1;obtain⟨ho',hs,hl,vs,rv,dd⟩:=I2.held hd2;obtain⟨o',es,ep,e1,e2,e3,_⟩:=id dd;rw[ho']at e1;cases e1;refine⟨"dict","dict.items",PySem.F.plainAttrs_dict,PySem.F.slot_dict_items,PySem.F.type_dict_items,dd.typeIs,fun a ea=>?_,Calls.callWith_builtin rfl (PySem.evalArgs_none ?_)⟩
 ·cases ea;exact⟨o,ho',e2.2.1⟩
 refine call_meetsIn PySem.F.slot_dict_items dd.typeIs PySem.F.entry_dict_items (PySem.F.args_dict_items_1 _) (meets_dict_items (BN X.prog X.w) d hs) ⟨⟨vs,dd⟩,?_⟩;have I3:Inv X pins σ H2 { s1 with heap:=s1.heap.push { cls:=.type "dict_items",data:=.fields #[.ref d] } }:=I2.kept (t':=s1.toks) fun b u e=>ZH _ e
 have hv:(s1.heap.push { cls:=.type "dict_items",data:=.fields #[.ref d] }).IsItemsView s1.heap.objs.size d:=⟨_,ZN _ rfl,rfl,rfl⟩;obtain⟨ho3,_,_,vs3,rv3,dd3⟩:=I3.held hd2;obtain⟨da,hsz⟩:=Gg ho3 e3 dd3;refine wpAny_pyIter_items (s:={ s1 with heap:=s1.heap.push { cls:=.type "dict_items",data:=.fields #[.ref d] } }) hv da ?_;generalize s1.heap.push { cls:=.type "dict_items",data:=.fields #[.ref d] } = h3 at *;refine⟨h3.objs.size,[h3.objs.size],_,_,H2,rfl,I3.kept (t':=s1.toks) fun b o e=>ZH _ e,QY e3,⟨.none,.none,?_⟩,fun b hb=>?_,q⟩
 ·rw[hsz];exact ZN _ rfl
 ·obtain rfl:b=h3.objs.size:=by simpa using hb
  exact I3.fpOk (ZD _) (I3.hok.fresh (ZD _))
end
end L2
namespace L2
open PySem PyProof.Rows
section
variable {prog:Program}{w:World}{A:Around}{E:Value->Shared->Prop}{s:Shared}
end
section
variable {X:Cx}
end
end L2
namespace L2
open PySem PySem.Spec PyProof.Rows
end L2
namespace L2
open PySem PySem.Spec PyProof.Rows PySem.W
open Att (Ey LL V9)
def CdO(a:Addr)(q:Str):HO:=.ext fun h=>h.CodeRec (.ref a) q
theorem ON{P:Program}{w:World}{H:Hp}{h:Heap}{a:Addr}{q:Str}(r:h.CodeRec (.ref a) q):ObjOk P w H h a (CdO a q):=by
 refine⟨r,?_,fun h1 h2 p k=>?_⟩
 ·obtain⟨c,o,vs,t,e,g,_⟩:=r;cases e;exact⟨o,g⟩
 ·obtain⟨c,o,vs,t,e,g,z⟩:=p;cases e;exact⟨_,o,vs,t,rfl,k o g,z⟩
def Lam(Pt:Addr)(pos:Pos)(q:Str)(H:Hp):Prop :=
 ∃ps:Array Value,H Pt=some (.tbl ps)/\TriplesOk ps.toList/\(codeAmong pos ps.toList=none\/∃c',codeAmong pos ps.toList=some (.ref c')/\H c'=some (CdO c' q))
def Grow(Pt:Addr)(H H':Hp):Prop:=∀b o,b≠Pt->H b=some o->H' b=some o
theorem Grow.refl(Pt:Addr)(H:Hp):Grow Pt H H:=fun _ _ _ e=>e
theorem Grow.trans{Pt:Addr}{H H1 H2:Hp}(a:Grow Pt H H1)(b:Grow Pt H1 H2):Grow Pt H H2:=fun c o n e=>b c o n (a c o n e)
theorem Lam.same{Pt:Addr}{pos:Pos}{q:Str}{H H':Hp}(l:Lam Pt pos q H)(h:Same H H'):Lam Pt pos q H':=by
 obtain⟨ps,a,b,c⟩:=l;refine⟨ps,h _ _ a,b,?_⟩
 rcases c with c | ⟨c',c,d⟩
 ·exact .inl c
 ·exact .inr ⟨c',c,h _ _ d⟩
theorem UC{K:W.Frag}{Pt:Addr}{ps:Array Value}{H H':Hp}{a:Addr}{xs:List V}(s:Grow Pt H H')(hz:H Pt=some (.tbl ps))(h1:SqT K H a xs):SqT K H' a xs:=by
 rcases h1 with (h1 | ⟨o,h1⟩) | h1
 ·exact .inl (.inl (s a _ (fun q=>by rw[q,hz]at h1;cases h1) h1))
 ·exact .inl (.inr ⟨o,s a _ (fun q=>by rw[q,hz]at h1;cases h1) h1⟩)
 ·exact .inr h1
def BMn(mg:Str->Option Value)(h:Heap):Prop:=∃bm ob,mg "__builtins__" = some (.ref bm)/\bm≠builtinsNs/\h.get? bm=some ob/\ob.cls=.type "module" /\ ob.dict=some builtinsNs/\ob.data=.plain
section
variable {X:Cx}{pins:List (Addr × Obj)}{σ:List (Option V)}{H:Hp}{s:Shared}{h':Heap}
theorem Inv.grow {Pt c':Addr} {ps more:Array Value} {t':Nat} {q:Str} (I:Inv X pins σ H s) (hP:H Pt=some (.tbl ps)) (hx:Heap.ExtBut Pt s.heap h') (hP':h'.get? Pt=some (tabObj (ps++more)))
 (hc:s.heap.objs.size<=c') (hr:h'.CodeRec (.ref c') q):Inv X pins σ (upd (upd H Pt (.tbl (ps++more))) c' (CdO c' q)) { s with heap:=h',toks:=t' }:=by
 have hcn:H c'=none:=I.hok.fresh hc;have hcP:c'≠Pt:=fun z=>by rw[z,hP]at hcn;cases hcn
 have hn:∀b,H b=none->b≠Pt:=fun b e z=>by rw[z,hP]at e;cases e
 have hs:∀b u,H b=some u->b≠c':=fun b u e z=>by rw[z,hcn]at e;cases e
 have up:∀b,b≠c'->b≠Pt->upd (upd H Pt (.tbl (ps++more))) c' (CdO c' q) b=H b:=fun b n1 n2=>by rw[AI n1,AI n2]
 refine I.un ⟨fun b o e n _ _=>hx b o (hn b n) e,fun b o e n _ _=>⟨o.slots,hx b o (hn b n) e⟩,fun b o e n _=>?_,fun b o e _=>?_,fun b xs e=>?_,fun b o u e=>?_,fun b qs e=>?_⟩ fun b u e=>?_
 ·rw[up b (ZK (ZT (ZG e) hc)) (hn b n)];exact n
 ·by_cases z:b=Pt
  ·subst z;exact⟨_,hP'⟩
  ·exact⟨o,hx b o z e⟩
 ·have z:b≠Pt:=fun z=>by rw[z,hP]at e;cases e
  rw[up b (hs b _ e) z];exact e
 ·have z:b≠Pt:=fun z=>by rw[z,hP]at e;cases e
  rw[up b (hs b _ e) z];exact e
 ·by_cases z:b=Pt
  ·subst z;rw[hP]at e;cases e;exact⟨more,by rw[AI (Ne.symm hcP),AD]⟩
  ·exact⟨#[],by rw[up b (hs b _ e) z,e];simp⟩
 ·by_cases z:b=c'
  ·subst z;rw[AD]at e;cases e;exact ON hr
  ·rw[AI z]at e
   by_cases y:b=Pt
   ·subst y;rw[AD]at e;cases e;exact hP'
   ·rw[AI y]at e;refine(I.hok b u e).stay (fun c v hc' r=>hx c v ?_ r) (fun c r=>?_) fun c xs r=>?_
    ·rcases hc' with k | k
     ·rw[k];exact y
     ·rintro rfl;rw[hP]at k;cases k
    ·rw[up c (hs c _ r) (fun k=>by rw[k,hP]at r;cases r)];exact r
    ·rw[up c (hs c _ r) (fun k=>by rw[k,hP]at r;cases r)];exact r
end
section
variable {prog:Program}{w:World}{A:Around}{s:Shared}
end
section
variable {X:Cx}{Pt c:Addr}{e:Expr}{te:TE}{p pos kpos lpos np cp sp:Pos}{x qual:Str}{params:Arguments}{scope:Scope}{kd:Nat}{i:Int}{K:W.Frag}
end
theorem TZ {P:Program} {w:World} {K:W.Frag} {mg mb:Str->Option Value} {CX:CXT} {k:Nat} {fa a:Addr} {fd:FuncData} {x:Str} {sp:Sp} {s₁:Shared} {vs:List Value} {ns:List Int} {ts:List (Addr × Addr)}
 (KX:K.In s₁.heap) (hns:s₁.heap.Ns mainGlobals mg) (hb:s₁.heap.Ns builtinsNs mb) (hbb:∀x:Str,x ≠ "__name__" -> mb x=bootBuiltins x) (hlim:s₁.heap.NoLimit) (hg:s₁.gens = #[])
 (ha:s₁.heap.get? a=some { cls:=.type "list",data:=.seq vs.toArray }) (hi:IntsAre vs ns) (hl:ns.length<=sizeLine) (hr:Room k callerA) (hbm:BMn mg s₁.heap) (hT:TabsAt ts s₁.heap) (hnt:noTabs K=true)
 (F:∀base:Heap,K.In base->base.Ns mainGlobals mg->BMn mg base->FnOk P w K mg base CX k fa fd [x] sp) (hbind:∀(s:Shared) (u:Value),BindsTo s fd ⟨[u],[]⟩ [(x,u)])
 (hsp:∀H:Hp,(∀q∈ts,H q.2=some (.tbl #[]))->SqL K H a (ns.map V.int)->sp [.ref a] H (fun v _=>v=.bl true) fun _ _ _=>False)
 (hCX:∀H e s',CX [] H s₁ (fun _ _ _=>False) e s'->False) :
 codeAny (model P w) callerA (.call (.ref fa) ⟨[.ref a],[]⟩) (fun r s'=>r=.ok (.ret (.bool true))/\OldK s₁.heap s'.heap/\s'.os=s₁.os/\AllBare s'.gens) s₁:=by
 have rv:=MF hi;have lenV:=hi.length
 have tabK:∀b,b∈ts.map (·.2)->K.lookup b=none:=fun b hb'=>by
  obtain⟨q,hq,rfl⟩:=ZP.mp hb';cases e:K.lookup q.2 with
  | none=>rfl
  | some o =>
   have e1:=KX _ _ e;rw[(hT q hq).2]at e1;cases e1;have h2:=ZBn.mp hnt (q.2,tabObj #[]) (mem_of_lookupK e);exact absurd (show false=true from h2) Zq
 have tabO:∀b,b∈ts.map (·.2)->s₁.heap.get? b=some (tabObj #[]):=fun b hb'=>by
  obtain⟨q,hq,rfl⟩:=ZP.mp hb';exact(hT q hq).2
 have core:∀H:Hp,(∀b,H b=none\/(∃o xs,H b=some (.frz o (.lst xs)))\/(b∈ts.map (·.2)/\H b=some (.tbl #[])))->(∀q∈ts,H q.2=some (.tbl #[]))->SqL K H a (ns.map V.int)->HOk P w H s₁.heap->(∀b,H b≠none->b=a\/b∈ts.map (·.2))->(H a≠none->K.lookup a=none) ->
  codeAny (model P w) callerA (.call (.ref fa) ⟨[.ref a],[]⟩) (fun r s'=>r=.ok (.ret (.bool true))/\OldK s₁.heap s'.heap/\s'.os=s₁.os/\AllBare s'.gens) s₁:=by
  intro H hO hTs hS hok hA hK;have base_of:∀{b:Addr} {o:Obj},s₁.heap.get? b=some o->H b=none->(CF s₁.heap H).get? b=some o:=fun e n=>N5 e n
  have noA:∀{b:Addr} {o:Obj},s₁.heap.get? b=some o->(∀as n,o.data≠.seq as n)->(∀as,o.data≠.fields as)->H b=none:=fun {b o} e d d2=>by
   cases q:H b with
   | none=>rfl
   | some u =>
    rcases hA b (by rw[q];simp) with e' | e'
    ·subst e';rw[ha]at e;cases e;exact absurd rfl (d _ _)
    ·rw[tabO b e']at e;cases e;exact absurd rfl (d2 _)
  have nsK:∀{b:Addr} {m:Str->Option Value},s₁.heap.Ns b m->(CF s₁.heap H).Ns b m:=fun {b m} ⟨o,es,ep,e,d,r⟩=>⟨o,es,ep,base_of e (noA e (fun _ _=>by rw[d];simp) (fun _=>by rw[d];simp)),d,r⟩
  have hKb:K.In (CF s₁.heap H):=fun b o e=>base_of (KX b o e) (by
   cases q:H b with
   | none=>rfl
   | some u =>
    rcases hA b (by rw[q];simp) with e' | e'
    ·subst e';rw[hK (by rw[q];simp)]at e;cases e
    ·rw[tabK b e']at e;cases e)
  have hM:Mod K mg (CF s₁.heap H):=⟨hKb,nsK hns,⟨mb,nsK hb,hbb⟩,let ⟨mc,h1,h2⟩:=hlim;⟨mc,nsK h1,h2⟩⟩
  have hBb:BMn mg (CF s₁.heap H):=by
   obtain⟨bm,ob,b1,b2,b3,b4,b5,b6⟩:=hbm;exact⟨bm,ob,b1,b2,base_of b3 (noA b3 (fun _ _=>by rw[b6];simp) (fun _=>by rw[b6];simp)),b4,b5,b6⟩
  have e0:Env0 P w K mg (CF s₁.heap H) callerA [] s₁ H:=⟨rfl,hM,fun b o e=>KB e,ZBe (Kz _ _),trivial,fun b hb=>absurd (show b∈([]:List Addr) from hb) (by simp),hok,.of_eq hg⟩;refine ZBJ ((F _ hKb (nsK hns) hBb).run callerA [] s₁ H ⟨[.ref a],[]⟩ [.ref a] [.ref a] _ _ hr e0 (hbind s₁ (.ref a)) (.cons rfl .nil) (hsp H hTs hS)) fun r s' h=>?_
  cases r with
  | error e=>exact(hCX H e s' h).elim
  | ok fl =>
   cases fl with
   | next=>exact False.elim h
   | brk=>exact False.elim h
   | cont=>exact False.elim h
   | ret u =>
    obtain⟨v,H',os,bare,un,hok',r',q⟩:=h;have q':v=.bl true:=q;subst q';obtain rfl:u=Value.bool true:=r'
    have kk:∀b o,s₁.heap.get? b=some o->b∉ts.map (·.2)->s'.heap.get? b=some o:=fun b o e nb=>by
     cases q:H b with
     | none=>exact un.keep b o e q (by intro z;exact absurd (show b∈([]:List Addr) from z) (by simp)) (by simp)
     | some u =>
      rcases hO b with z | ⟨ob,xs,z⟩ | ⟨z,_⟩
      ·rw[q]at z;cases z
      ·have z2:=un.frzs b ob _ z;obtain⟨e1,_⟩:=hok b _ z;obtain⟨e2,_⟩:=hok' b _ z2;rw[e]at e1;cases e1;exact e2
      ·exact absurd z nb
    have tt:∀b,b∈ts.map (·.2)->∃more,s'.heap.get? b=some (tabObj more):=fun b hb'=>by
     obtain⟨q,hq,rfl⟩:=ZP.mp hb';obtain⟨more,e⟩:=un.tbls _ _ (hTs q hq);exact⟨_,hok' _ _ e⟩
    refine⟨rfl,⟨fun b o e=>?_,fun b o e=>?_⟩,os,bare⟩
    ·by_cases z:b∈ts.map (·.2)
     ·obtain⟨more,e2⟩:=tt b z;have e3:=tabO b z;rw[e]at e3;cases e3;obtain⟨q,hq,rfl⟩:=ZP.mp z;refine .inr (.inl ⟨((hT q hq).1.tab (hT q hq).2).isCodeTable,rfl,#[],more,rfl,by rw[e2];simp⟩)
     ·exact .inl (kk b o e z)
    ·by_cases z:b∈ts.map (·.2)
     ·obtain⟨more,e2⟩:=tt b z;exact⟨_,e2⟩
     ·exact⟨o,kk b o e z⟩
 have aT:a∉ts.map (·.2):=fun z=>by
  have e:=tabO a z;rw[ha]at e;cases e
 have tm:∀q∈ts,q.2∈ts.map (·.2):=fun q hq=>List.mem_map_of_mem hq
 cases hk:K.lookup a with
 | some o =>
  have e:=KX a o hk;rw[ha]at e;cases e;refine core (fun b=>if b∈ts.map (·.2) then some (.tbl #[]) else none) (fun b=>?_) (fun q hq=>if_pos (tm q hq)) (.inr ⟨_,vs.toArray,_,hk,rfl,rfl,rfl,by rw[ZI,lenV];exact hl,by simpa using rv⟩) (fun b u z=>?_) (fun b z=>?_) fun z=>absurd (if_neg aT) z
  ·by_cases z:b∈ts.map (·.2)
   ·exact .inr (.inr ⟨z,if_pos z⟩)
   ·exact .inl (if_neg z)
  ·by_cases y:b∈ts.map (·.2)
   ·have z':=(if_pos y).symm.trans z;cases z';exact tabO b y
   ·have z':=(if_neg y).symm.trans z;cases z'
  ·by_cases y:b∈ts.map (·.2)
   ·exact .inr y
   ·exact absurd (if_neg y) z
 | none =>
  refine core (fun b=>if b=a then some (.frz { cls:=.type "list",data:=.seq vs.toArray } (.lst (ns.map V.int))) else if b∈ts.map (·.2) then some (.tbl #[]) else none) (fun b=>?_) (fun q hq=>?_) (.inl (.inr ⟨{ cls:=.type "list",data:=.seq vs.toArray },if_pos rfl⟩)) (fun b u z=>?_) (fun b z=>?_) fun _=>hk
  ·by_cases hb:b=a
   ·exact .inr (.inl ⟨_,_,if_pos hb⟩)
   ·by_cases y:b∈ts.map (·.2)
    ·exact .inr (.inr ⟨y,(if_neg hb).trans (if_pos y)⟩)
    ·exact .inl ((if_neg hb).trans (if_neg y))
  ·have hb:q.2≠a:=fun z=>aT (z ▸ tm q hq)
   exact(if_neg hb).trans (if_pos (tm q hq))
  ·by_cases hb:b=a
   ·have z':=(if_pos hb).symm.trans z;cases z';subst hb;exact⟨ha,by rw[ZC];exact hl,vs,_,rv,ha⟩
   ·by_cases y:b∈ts.map (·.2)
    ·have z':=((if_neg hb).trans (if_pos y)).symm.trans z;cases z';exact tabO b y
    ·have z':=((if_neg hb).trans (if_neg y)).symm.trans z;cases z'
  ·by_cases hb:b=a
   ·exact .inl hb
   ·by_cases y:b∈ts.map (·.2)
    ·exact .inr y
    ·exact absurd ((if_neg hb).trans (if_neg y)) z
theorem walk_ofT {l:PySem.W.OpenLaw} {n k:Nat} {q:Program} {loose:List Str} {XP:(Str->Option Value)->Heap->Prop} {YP:World->Heap->Prop} {d:DefRec} {K:Params->W.Frag} {sp:World->List Addr->Sp} {x:Str}
 (hn:l.most=some n) (hn2:n<=sizeLine) (hdf:d.params.defaults=[]) (hr:Room k callerA)
 (hY:∀(w:World) (h:Heap),YP w h->(K w.params).In h)
 (F:∀(w:World) (mg:Str->Option Value) (fa:Addr) (h:Heap),YP w h->(K w.params).In h->h.Ns mainGlobals mg->mg d.name=some (.ref fa) ->
   ∃(fd:FuncData) (ts:List (Addr × Addr)),TabsAt ts h/\noTabs (K w.params)=true/\(∀(s:Shared) (u:Value),BindsTo s fd ⟨[u],[]⟩ [(x,u)]) /\
    ∀base:Heap,(K w.params).In base->base.Ns mainGlobals mg->BMn mg base->FnOk l.prog w (K w.params) mg base CX0 k fa fd [x] (sp w (ts.map (·.2))))
 (hsp:∀(w:World) (H:Hp) (a:Addr) (ns:List Int) (ts:List Addr),ns.length<=n->(∀Pt∈ts,H Pt=some (.tbl #[]))->SqL (K w.params) H a (ns.map V.int)->sp w ts [.ref a] H (fun v _=>v=.bl true) fun _ _ _=>False) :
 PySem.W.WalkO q loose XP YP l.row.toRowW d [] (fun f vs=>PySem.call f vs):=by
 refine Att.attach_call hn hdf fun w s₀ s₁ mg mb fa o pm cd doc a vs ns G Y ho hd hcd hmg hobj hints hlen hg=>?_
 have KX:=hY w _ Y;obtain⟨fd,ts,hT,hnt,hb,hF⟩:=F w mg fa _ Y KX G.T.g hmg
 exact TZ KX G.T.g G.T.b G.T.builtins G.T.nolimit hg hobj hints (Zf hlen hn2) hr G.T.bmain hT hnt hF hb (fun H hO hS=>hsp w H a ns _ hlen (fun Pt hP=>by
  obtain⟨q,hq,rfl⟩:=ZP.mp hP;exact hO q hq) hS) fun H e s' z=>z
theorem Fun.okC {P:Program} {w:World} {K:W.Frag} {mg:Str->Option Value} {base:Heap} {x qual:Str} {st:Stmt} {f c:Addr} {fd:FuncData} {N ps:List Str} {k:Nat} {sp:Sp} (F:Fun K x qual st f fd) (hc:fd.code=.ref c) (S:FnScope N ps (AK st)) (len:∀vs H Q E,sp vs H Q E->vs.length=ps.length)
 (hbody:∀(A:Around) (outer:List Env) (s:Shared) (H:Hp) (vs:List V) (Q:VK) (E:XK),Room k (A.deeper (envOfC qual (AK st) s.heap.objs.size f (.ref c)))->sp vs H Q E ->
   ∃t,PSs (By CX0 P w K mg base N qual (AK st) f (.ref c) A outer s H E).nox (BM st) t/\t { nx:=fun _ H'=>Q .non H',rt:=Q } (CV N vs) H):FnOk P w K mg base CX0 (k+1) f fd ps sp:=by
 obtain⟨oc,od,kV,doc,pm,an,cdv,ct,osl,rfl,lk,hcd⟩:=F.ex;cases hc;refine Hx lk hcd S len fun A outer s H vs Q E hr hsp=>?_
 obtain⟨t,h,q⟩:=hbody A outer s H vs Q E hr hsp;exact⟨t,h.nox,q⟩
end L2
namespace L2
open PySem
def FX(K:W.Frag)(ts:List Addr):Sp:=fun vs H Q _=>∃(a:Addr) (ns:List Int),vs=[.ref a]/\SqL K H a (ns.map V.int)/\ns.length<=63/\(∀Pt∈ts,H Pt=some (.tbl #[]))/\∀H',Q (.bl true) H'
theorem V3{Pt:Addr}{pos:Pos}{q:Str}{H:Hp}(h:H Pt=some (.tbl #[])):Lam Pt pos q H:=⟨#[],h,trivial,.inl rfl⟩
end L2
namespace L2
open PySem PySem.Spec PyProof.Rows
section
variable {X:Cx}{tg oe:Expr}{to:TE}{apos cpos:Pos}
end
def mIn(K:W.Frag)(neg:Bool):R2:=fun x y H Q=>match y with
 | .ref p=>∃xs,(SqL K H p xs\/SqT K H p xs)/\BY x=true/\xs.all BY=true/\Q (.bl (neg ^^ inV x xs)) H
 | _=>False
section
variable {X:Cx}{K:W.Frag}
theorem kIn(hK:X.K=K:=by rfl):OpR X (compareOp .In) (mIn K false):=by
 subst hK;intro pins s σ H x y v u Q I rx ry h;cases y with
 | ref p =>
  obtain⟨xs,h1,h2,h3,q⟩:=h;exact To pins s σ H x _ v u Q I rx ry ⟨p,xs,rfl,h1,h2,h3,by simpa using q⟩
 | _=>exact False.elim h
theorem NR(hK:X.K=K:=by rfl):OpR X (compareOp .NotIn) (mIn K true):=by
 subst hK;intro pins s σ H x y v u Q I rx ry h;cases y with
 | ref p =>
  obtain⟨xs,h1,h2,h3,q⟩:=h;exact Pi pins s σ H x _ v u Q I rx ry ⟨p,xs,rfl,h1,h2,h3,by simpa using q⟩
 | _=>exact False.elim h
end
section
variable {X:Cx}{K:W.Frag}
def MA(K:W.Frag):List V->Hp->VK->Prop:=fun xs H Q=>match xs with
 | [.ref l]=>∃bs:List Bool,SqL K H l (bs.map V.bl)/\Q (.bl (bs.any id)) H
 | _=>False
theorem Ot(hc:X.calm=true):CallR X (.builtin "any") (MA X.K):=by
 intro pins s σ H xs us Q I r q
 match xs,q with
 | [.ref l],q =>
 obtain⟨bs,hl,q⟩:=q;obtain⟨u,rfl,ru⟩:=Bb r;cases ru;obtain⟨its,rv,pl,hz⟩:=I.list hl;have hlen:=rv.length;rw[ZC]at hlen;obtain⟨o1,n1,g1,_⟩:=id pl;have hlt:=ZG g1;refine call_any_walk (wpAny_pyIter_list pl.isList ?_);have hne:l≠s.heap.objs.size:=ZK hlt;refine⟨_,_,_,_,_,_,fun i=>bs.getD i false,rfl,Walks.list (A:=X.A.in1) (I.ok.hd hc) s.heap.objs.size l hne its.toArray,?_,?_,fun h' tk hk=>?_⟩
 ·exact⟨⟨_,ZN _ rfl,rfl,rfl⟩,(show s.heap.IsList l its.toArray from pl.isList).at fun o e=>ZH _ e⟩
 ·intro i v s' Q' E' hv hq;have hv:its.toArray[i]? = some v:=hv
  have hi:i < its.length:=by
   have:=(ZB0.mp hv).1
   simpa using this
  have hb:(bs.map V.bl)[i]? = some (.bl bs[i]):=by rw[ZR,ZE (by lia)];rfl
  obtain⟨w',q1,q2⟩:=rv.get hb;have e:v=w':=by simp at hv;rw[q1]at hv;exact(ZV hv).symm
  subst e;cases q2;refine ZBM ?_;have e2:bs.getD i false=bs[i]:=by rw[ZY,ZE (by lia)];rfl
  have hq:Q' (bs.getD i false) s':=hq;rw[e2]at hq;exact hq
 ·refine⟨.bl _,H,I.kept (fun b o e=>hk b o ?_ (ZH _ e)),rfl,?_⟩
  ·simp only[ZJ];exact ZK (ZG e)
  ·have e:(List.range its.toArray.size).any (fun i=>bs.getD i false)=bs.any id:=by
    rw[ZI,<- hlen];rw[Z7,ZBh,ZBh];constructor
    ·rintro⟨i,hi,e⟩;have hi':=Zk.mp hi;rw[ZY,ZE hi']at e;exact⟨_,Zo hi',e⟩
    ·rintro⟨b,hb,e⟩;obtain⟨i,hi,rfl⟩:=List.mem_iff_getElem.mp hb;refine⟨i,Zk.mpr hi,?_⟩;rw[ZY,ZE hi];exact e
   rw[e];exact q
theorem RI(hc:X.calm=true)(hK:X.K=K:=by rfl):CallR X (.builtin "any") (MA K):=hK ▸ Ot hc
end
end L2
namespace L2
variable {α:Type}
theorem on1{P:List α->Prop}(h:∀a,P [a]):∀us:List α,us.length=1->P us
 | [a],_=>h a
theorem on2{P:List α->Prop}(h:∀a b,P [a,b]):∀us:List α,us.length=2->P us
 | [a,b],_=>h a b
theorem on3{P:List α->Prop}(h:∀a b c,P [a,b,c]):∀us:List α,us.length=3->P us
 | [a,b,c],_=>h a b c
theorem on4{P:List α->Prop}(h:∀a b c d,P [a,b,c,d]):∀us:List α,us.length=4->P us
 | [a,b,c,d],_=>h a b c d
theorem on5{P:List α->Prop}(h:∀a b c d e,P [a,b,c,d,e]):∀us:List α,us.length=5->P us
 | [a,b,c,d,e],_=>h a b c d e
open PySem in
theorem star_lst{xs es:List PySem.Expr}{p:Pos}{env:Env}:starEach (.List xs p::es) env=(false,eval (.List xs p) env)::starEach es env:=by rfl
end L2
namespace L2
open PySem
def Lg:Expr->Bool
 | .ListComp ..=>true
 | .SetComp ..=>true
 | .DictComp ..=>true
 | _=>false
theorem Pz{e:Expr}{t:Option Expr}{l:Nat}{env:Env}(h:Lg e=false):swapsWith e t l env=pure false:=by
 cases e <;> first | rfl | cases h
theorem OD{X:Cx}{pos:Pos}{i:Nat}{x:Str}{e:Expr}{te:TE}{pos':Pos}(hN:X.N.Nodup)(hi:X.N[i]? = some x)(hx:Loc X.env.scope x)(he:PE X e te)(hs:Lg e=false)(hf:X.fn x=true\/X.env.scope.names.lookup x=some .local) :
 PS X (.Assign [.Name x pos'] e pos) (D3 te (AT i)):=AQ hN hi hx he (Pz hs) hf
end L2
namespace L2
open PySem PyProof.Rows
section
variable {prog:Program}{w:World}{A:Around}{E:Value->Shared->Prop}{s:Shared}
end
section
variable {X:Cx}
end
abbrev Vz(h:Heap)(z TI TO:Addr)(f0 bb:Value):Prop :=
 h.get? z=some { cls:=.type "zip",dict:=none,data:=.fields #[f0,bb,.bool false,.ref TI,.ref TO],slots:=#[] }
section
variable {prog:Program}{w:World}{A:Around}{E:Value->Shared->Prop}{s:Shared}
end
section
variable {prog:Program}{w:World}{A:Around}{E:Value->Shared->Prop}{s:Shared}
structure ZS(z TI TO i1 i2 l1 l2 T0:Addr)(xs ys:Array Value)(i:Nat)(h:Heap):Prop where
 zp:(i=0/\IsZip h z TI TO .none)\/(0 < i/\(∃b,Vz h z TI TO (rawInt T0) b)/\∃a b,IsPair h T0 a b)
 ti:IsPair h TI (.ref i1) (.ref i2)
 to:∃a b,IsPair h TO a b
 a1:h.IsTupleIter i1 l1 i
 a2:h.IsTupleIter i2 l2 i
 t1:h.IsTuple l1 xs
 t2:h.IsTuple l2 ys
theorem ZS.keep {z TI TO i1 i2 l1 l2 T0 S:Addr} {xs ys:Array Value} {i c:Nat} {h h':Heap} {acc:Array Value} (Z:ZS z TI TO i1 i2 l1 l2 T0 xs ys i h) (hS:h.get? S=some { cls:=.type "list",dict:=none,data:=.seq acc c,slots:=#[] })
 (k:∀b o,b≠S->h.get? b=some o->h'.get? b=some o):ZS z TI TO i1 i2 l1 l2 T0 xs ys i h':=by
 have kk:∀b o,h.get? b=some o->o.cls≠.type "list" -> h'.get? b=some o:=fun b o e n=>k b o (fun q=>by subst q;rw[hS]at e;cases e;exact n rfl) e
 obtain⟨zp,ti,⟨a,b,to⟩,⟨o1,e1,c1,d1⟩,⟨o2,e2,c2,d2⟩,⟨p1,x1,y1,w1⟩,⟨p2,x2,y2,w2⟩⟩:=Z;refine⟨?_,kk _ _ ti (by simp),⟨a,b,kk _ _ to (by simp)⟩,⟨o1,kk _ _ e1 (by rw[c1];simp),c1,d1⟩,⟨o2,kk _ _ e2 (by rw[c2];simp),c2,d2⟩,⟨p1,kk _ _ x1 (by rw[y1];simp),y1,w1⟩,⟨p2,kk _ _ x2 (by rw[y2];simp),y2,w2⟩⟩
 rcases zp with ⟨e,q⟩ | ⟨e,⟨b,q⟩,⟨x,y,r⟩⟩
 ·exact .inl ⟨e,kk _ _ q (by simp)⟩
 ·exact .inr ⟨e,⟨b,kk _ _ q (by simp)⟩,⟨x,y,kk _ _ r (by simp)⟩⟩
end
section
variable {prog:Program}{w:World}{A:Around}{R:Result->Shared->Prop}
end
section
variable {prog:Program}{w:World}{A:Around}{R:Result->Shared->Prop}{s:Shared}
end
section
variable {prog:Program}{w:World}{A:Around}{E:Value->Shared->Prop}{s:Shared}
end
section
variable {X:Cx}
end
end L2
namespace L2
open PySem
def ins:Nat->Nat->Nat->Nat
 | 0,b,q=>2 * q+b
 | i+1,b,q=>2 * ins i b (q / 2)+q % 2
end L2
namespace L2
open PySem PyProof.Rows
section
variable {prog:Program}{w:World}{A:Around}{E:Value->Shared->Prop}{s:Shared}
end
section
variable {prog:Program}{w:World}{K:Type}[DecidableEq K]{knd:KeyKind prog w K}{A:Around}{R:Result->Shared->Prop}
end
section
variable {prog:Program}{w:World}{K:Type}[DecidableEq K]{knd:KeyKind prog w K}{A:Around}{E:Value->Shared->Prop}{s:Shared}
end
section
variable {X:Cx}
end
abbrev EnB(h:Heap)(e it:Addr)(i:Int)(f0 bb old:Value):Prop :=
 h.get? e=some { cls:=.type "enumerate",dict:=none,data:=.fields #[f0,bb,.ref it,rawInt i,.none,old],slots:=#[] }
section
variable {prog:Program}{w:World}{A:Around}{E:Value->Shared->Prop}{s:Shared}
end
section
variable {prog:Program}{w:World}{A:Around}{E:Value->Shared->Prop}{s:Shared}
def ES(e it:Addr)(i:Nat)(h:Heap):Prop:=(∃old,IsEnum h e it i old)\/∃(T0:Addr) (bb old a b:Value),EnB h e it i (rawInt T0) bb old/\IsPair h T0 a b
end
section
variable {prog:Program}{w:World}{K:Type}[DecidableEq K]{knd:KeyKind prog w K}{A:Around}{R:Result->Shared->Prop}
theorem ES.keep{e it d:Addr}{i:Nat}{h h':Heap}{od:Obj}(Z:ES e it i h)(hd:h.get? d=some od)(hc:od.cls=.type "dict")(k:∀b o,b≠d->h.get? b=some o->h'.get? b=some o):ES e it i h':=by
 have kk:∀b o,h.get? b=some o->o.cls≠.type "dict" -> h'.get? b=some o:=fun b o e n=>k b o (fun q=>by subst q;rw[hd]at e;cases e;exact n hc) e
 rcases Z with ⟨old,q⟩ | ⟨T0,bb,old,a,b,q,hT⟩
 ·exact .inl ⟨old,kk _ _ q (by simp)⟩
 ·exact .inr ⟨T0,bb,old,a,b,kk _ _ q (by simp),kk _ _ hT (by simp)⟩
end
section
variable {prog:Program}{w:World}{K:Type}[DecidableEq K]{knd:KeyKind prog w K}{A:Around}{E:Value->Shared->Prop}{s:Shared}
end
section
variable {X:Cx}
end
section
variable {X:Cx}
end
theorem QG:∀{ns:List Int} {us:List Value},IntsAre us ns->Vals (ns.map V.int) us:=by
 intro ns us h
 induction h with
 | nil=>exact .nil
 | cons _ _ _ ih=>exact .cons ⟨_,rfl⟩ ih
section
variable {X:Cx}{K:W.Frag}
end
def Fm:V->List V->Hp->VK->Prop:=fun x vs H Q=>match x,vs with
 | .ref l,[.int i,y]=>∃xs,H l=some (.lst xs)/\0<=i/\i<=xs.length/\xs.length < 1000/\Q .non (upd H l (.lst (xs.take i.toNat++y::xs.drop i.toNat)))
 | _,_=>False
theorem Mz:∀{xs:List V} {us:List Value} {y:V} {u:Value} (k:Nat),Vals xs us->RelV y u->Vals (xs.take k++y::xs.drop k) (us.take k++u::us.drop k)
 | _,_,_,_,0,r,ry=>by simpa using Paired.cons ry r
 | _,_,_,_,k+1,.nil,ry=>by simpa using Paired.cons ry .nil
 | _,_,_,_,k+1,.cons r t,ry=>by simpa using Paired.cons r (Mz k t ry)
section
variable {X:Cx}{K:W.Frag}{o e e2:Expr}{to:TE}{t:TA}{apos cpos:Pos}
theorem UW:MtR X "list.insert" Fm:=by
 intro pins s σ H x vs v us Q I rx rv q
 match x,vs,q with
 | .ref l,[.int i,y],⟨xs,hH,h1,h2,h3,q⟩ =>
 cases rx;obtain⟨u1,u,rfl,⟨tk,rfl⟩,ru⟩:=EQ rv;obtain⟨z,its,n,r,hl,e⟩:=I.lstM hH;have hi63:i < 2 ^ 63:=by lia
 have hfit:¬(!Builtin.List.listFitsIndex i)=true:=by
  rw[fitsIndex_both (by lia) hi63];exact Zq
 refine call_meets F.slot_list_insert ⟨_,e,rfl⟩ F.entry_list_insert (F.args_list_insert_3 _ _ _) (AutoListH.list_insert_list_int_val_1 l its.toArray n i tk u hfit (by rw[ZI];lia)) ⟨e,?_⟩;refine⟨.non,_,I.lset (its':=its.take i.toNat++u::its.drop i.toNat) hH e ?_ (Mz i.toNat r ru) ?_,rfl,q⟩
 ·have hm:min i.toNat its.length=i.toNat:=by lia
  show(have k:=if i < 0 then (i+((its.toArray.size:Nat):Int)).toNat else min i.toNat its.toArray.size;(its.toArray.extract 0 k).push u++its.toArray.extract k)=_
  rw[if_neg (by lia),ZI,hm];apply Array.toList_inj.mp;simp;exact ZBX (by rw[ZBK];exact ZD _)
 ·rw[ZL,Zn,Ze,ZBK];exact Ce (by lia)
theorem QP (ho:PE X o to) (ha:PA X [e,e2] t) (hbase:attributeBase o "insert" X.env (eval o X.env)=eval o X.env:=by rfl)
 (hfew:((backTo cpos (starEach [e,e2] X.env)).all (fun x=>!x.1) && (backToKw cpos (keywordEach [] X.env)).all (fun x=>x.1.isSome)
   && decide ([e,e2].length+([]:List Keyword).length+(if ([]:List Keyword).isEmpty then 0 else 1) < 30))=true:=by rfl)
 (hline:(apos.endLine == cpos.line)=true:=by rfl) (hs:starEach [e,e2] X.env=(false,eval e X.env)::starEach [e2] X.env:=by rfl) (hplain:(backTo cpos (starEach [e2] X.env)).any (·.1)=false:=by rfl) (hK:X.K=K:=by rfl) :
 PE X (.Call (.Attribute o "insert" apos) [e,e2] [] cpos) (tBM K "list" Fm to t):=hK ▸ Fl PySem.F.plainAttrs_list PySem.F.slot_list_insert PySem.F.type_list_insert UW ho ha hbase hfew hline hs hplain
theorem Rx:E1 Fm:=fun x xs H Q Q' h q=>by
 unfold Fm at *;split at q
 ·obtain⟨ys,a,b,c,d,q⟩:=q;exact⟨ys,a,b,c,d,h _ _ q⟩
 ·exact q.elim
end
end L2
namespace L2
open PySem PySem.Spec PyProof.Rows
mutual
def Be:Dv->Bool
 | .non=>true
 | .bl _=>true
 | .int i=>Ci i
 | .str x=>x.cps.toList.all fun c=>decide (c < 16 ^ 8)
 | .tup ds=>Di ds
 | .lst ds=>Di ds
def Di:List Dv->Bool
 | []=>true
 | d::ds=>Be d && Di ds
end
mutual
def BX:Dv->Nat
 | .str x=>x.cps.size
 | .tup ds=>Dl ds
 | .lst ds=>Dl ds
 | _=>0
def Dl:List Dv->Nat
 | []=>0
 | d::ds=>BX d+1+Dl ds
end
mutual
theorem Mf:∀d:Dv,(pyD d).bulk=BX d
 | .non=>by simp[pyD,PyData.bulk,BX]
 | .bl _=>by simp[pyD,PyData.bulk,BX]
 | .int _=>by simp[pyD,PyData.bulk,BX]
 | .str _=>by simp[pyD,PyData.bulk,BX]
 | .tup ds=>by simp[pyD,PyData.bulk,BX,JU ds]
 | .lst ds=>by simp[pyD,PyData.bulk,BX,JU ds]
theorem JU:∀ds:List Dv,PyData.bulkAll (BH ds)=Dl ds
 | []=>by simp[BH,PyData.bulkAll,Dl]
 | d::ds=>by simp[BH,PyData.bulkAll,Dl,Mf d,JU ds]
end
mutual
theorem HB:∀d:Dv,Be d=true->(pyD d).showable=true/\(pyD d).leavesShort 1921=true
 | .non,_=>by simp[pyD,PyData.showable,PyData.leavesShort]
 | .bl _,_=>by simp[pyD,PyData.showable,PyData.leavesShort]
 | .int i,h=>by
  have h1:i.natAbs.log2 < 1900:=by simpa [Be,Ci] using h
  have h2:i.natAbs.log2 < 1920:=by lia
  refine⟨by simpa [pyD,PyData.showable] using h2,?_⟩;simp only[pyD,PyData.leavesShort,decide_eq_true_eq,PyData.shown];exact ZO (PyProof.Rows.int_text_len_1921 h2)
 | .str x,h=>by
  refine⟨by simp[pyD,PyData.showable],?_⟩;unfold Be at h;unfold pyD PyData.leavesShort;exact h
 | .tup ds,h=>by
  have h':=IS ds (by simpa [Be] using h);simpa [pyD,PyData.showable,PyData.leavesShort] using h'
 | .lst ds,h=>by
  have h':=IS ds (by simpa [Be] using h);simpa [pyD,PyData.showable,PyData.leavesShort] using h'
theorem IS:∀ds:List Dv,Di ds=true->PyData.showableAll (BH ds)=true/\PyData.leavesShortAll 1921 (BH ds)=true
 | [],_=>by simp[BH,PyData.showableAll,PyData.leavesShortAll]
 | d::ds,h=>by
  have h':Be d=true/\Di ds=true:=by simpa [Di] using h
  have h1:=HB d h'.1;have h2:=IS ds h'.2;simp[BH,PyData.showableAll,PyData.leavesShortAll,h1,h2]
end
theorem VJ{d:Dv}(h:Be d=true)(hb:BX d<=8000):(Bf d).length<=sizeLine:=by
 have h1:=PyData.shown_le_bulk 1921 (by decide) (pyD d) (HB d h).2;rw[Mf d]at h1;have e:sizeLine=16777216:=by decide
 unfold Bf;rw[e];lia
def FZ(K:W.Frag):List V->Hp->VK->Prop:=fun xs H Q=>match xs with
 | [x]=>∃d,Rep K H d x/\Be d=true/\BX d<=8000/\Ac d<=60/\Q (.str (Bf d)) H
 | _=>False
section
variable {X:Cx}{K:W.Frag}
theorem Sr(hg:X.A.guards=some [])(hu:X.A.units+62 < cLine):CallR X (.builtin "repr") (FZ X.K):=by
 intro pins s σ H xs us Q I r q
 match xs,q with
 | [x],q =>
  obtain⟨d,hd,hn,hb,hp,q⟩:=q;cases r with
  | cons r1 r2 =>
  cases r2;rename_i u;have fits:=VJ hn hb;have shw:=(HB d hn).1
  have done:∀(h':Heap) (t tk:Nat),(∀b o,s.heap.get? b=some o->h'.get? b=some o)->EP X pins σ Q (.str (Bf d) t) { s with heap:=h',toks:=tk }:=fun h' t tk hk =>
   ⟨.str (Bf d),H,I.kept (t':=tk) hk,⟨t,rfl⟩,q⟩
  obtain⟨as,hr⟩:=LJ I d x u hd r1;cases hx:u with
  | ref a =>
   rw[hx]at hr;refine PySem.repr_of_reads' hr shw (PyData.noDict_hsm (KS d)) hg ?_ (fun _ _ e=>e) (fun h' t tk hk=>done h' t tk hk) fits;rw[Lp];lia
  | none =>
   rw[hx]at hr;generalize hp:pyD d=p at hr;cases hr;have e:Bf d=("None" : Str):=by unfold Bf;rw[hp,PyData.shown_none]
   refine PySem.P.repr_of_none ?_;rw[<- e];exact done s.heap _ _ (fun _ _ e=>e)
  | bool b =>
   rw[hx]at hr;generalize hp:pyD d=p at hr;cases hr;have e:Bf d=((if b then "True" else "False" : Str)):=by unfold Bf;rw[hp,PyData.shown_bool]
   refine PySem.P.repr_of_bool ?_;rw[<- e];exact done s.heap _ _ (fun _ _ e=>e)
  | int i t =>
   rw[hx]at hr;generalize hp:pyD d=p at hr;cases hr;have e:Bf d=((toString i:String):Str):=by unfold Bf;rw[hp,PyData.shown_int]
   rw[hp]at shw;refine PySem.P.repr_of_int (by simpa [PyData.showable] using shw) ?_;rw[<- e];exact done s.heap _ _ (fun _ _ e=>e)
  | str y t =>
   rw[hx]at hr;generalize hp:pyD d=p at hr;cases hr;have e:Bf d=reprText y:=by unfold Bf;rw[hp];rfl
   refine PySem.P.repr_of_str ?_ (by rw[<- e];exact fits);rw[<- e];exact done s.heap _ _ (fun _ _ e=>e)
  | _=>rw[hx]at hr;cases hr
theorem Fw{k:Nat}(hr:Room k X.A)(hK:X.K=K:=by rfl):CallR X (.builtin "repr") (FZ K):=hK ▸ Sr hr.gd (by have:=hr.un;lia)
end
theorem QU{K}:CK (FZ K):=fun xs H Q Q' h q=>by
 unfold FZ at *;split at q
 ·obtain⟨d,a,b,c,e,q⟩:=q;exact⟨d,a,b,c,e,h _ _ q⟩
 ·exact q.elim
end L2
namespace L2
open PySem PyProof.Rows
section
variable {X:Cx}
end
section
variable {X:Cx}
end
section
variable {X:Cx}{K:W.Frag}
end
end L2
namespace HT
open PySem PyProof.Rows
section
variable {prog:Program}{w:World}{A:Around}{E:Value->Shared->Prop}{s:Shared}
theorem getItem_tuple_whole {t sl:Addr} {items:Array Value} {vl vu:Value} {lo hi:Option Int} {Q:Value->Shared->Prop} (ht:IsTup s.heap t items) (hs:s.heap.IsSliceOf sl vl vu .none) (pl:IsPart vl lo) (pu:IsPart vu hi)
 (hw:sIx items.size 0 lo=0/\sIx items.size items.size hi=items.size)
 (h:Q (.ref t) s):wpAny (model prog w) A (getItem (.ref t) (.ref sl)) Q E s:=by
 obtain⟨os,hos,hcs,hds⟩:=id hs;have hTs:s.TypeIs (.ref sl) "slice":=⟨os,hos,hcs⟩;unfold getItem
 try with_reducible refine Zh ?_
 first | refine ZA (ZB ?_) | skip
 refine ZA (wpAny_sequenceKey ht.typeIs (by decide) ?_)
 refine ZA (wpAny_callSpecial?_slot (name:=Str.ofString "__getitem__") ht.typeIs PyProof.Rows.slot_tuple_getitem
  (Z1 PyProof.Rows.slot_tuple_getitem ht.typeIs entry_tuple_getitem ?_ (args_tuple_getitem _ _)))
 show wpAny _ _ (Builtin.Tuple.tupleItemsOf (.ref t) >>= _) _ _ s;refine ZA (tupleItemsOf_ ht ?_);refine ZA (wpAny_typeOf hTs ?_);rw[if_pos (by decide)];refine ZA (NY hs pl pu ?_);rw[hw.1,hw.2];show wpAny _ _ (if (((0:Nat):Int) == 0 && (1:Int) == 1 && (items.size - 0) == items.size)=true then _ else _) _ _ s;have hyes:(((0:Nat):Int) == 0 && (1:Int) == 1 && (items.size - 0) == items.size)=true:=by simp
 rw[if_pos hyes];unfold Builtin.Tuple.tupleIsExact;refine ZA (ZA (wpAny_typeOf ht.typeIs (ZB ?_)));rw[if_pos (by decide)];refine ZA (wpAny_rule ?_)
 first
  | exact ZA (ZB ⟨_,rfl,ZB h⟩)
  | exact ZB ⟨_,rfl,ZB h⟩
  | exact ZA (ZB (ZB ⟨_,rfl,ZB h⟩))
  | exact ZA (ZA (ZB (ZB ⟨_,rfl,ZB h⟩)))
end
end HT
namespace L2
open PySem PySem.Spec PyProof.Rows
section
variable {X:Cx}{K:W.Frag}{e sx:Expr}{te ts:TE}{lo hi:Option Expr}{tl th:TO}{pos p2:Pos}
def IQ(K:W.Frag):V->Option Int->Option Int->Hp->VK->Prop:=fun x lo hi H Q=>match x with
 | .ref a=>∃xs,SqT K H a xs/\∀p H',Same H H'->SqT K H' p (BO xs lo hi)->Q (.ref p) H'
 | _=>False
theorem WQ:SlR X (IQ X.K):=by
 intro pins s σ H x v vl vu lo hi sl Q I rx hs pl pu q;cases x with
 | ref a =>
  obtain⟨xs,hx,q⟩:=q
  by_cases hw:HT.sIx xs.length 0 lo=0/\HT.sIx xs.length xs.length hi=xs.length
  ·cases rx;obtain⟨its,r,ht,hz⟩:=I.tuple hx;have hlen:its.toArray.size=xs.length:=by rw[ZI];exact r.length.symm
   refine⟨"tuple",_,PyProof.Rows.slot_tuple_getitem.lookup,ht.typeIs,?_⟩;refine HT.getItem_tuple_whole ht hs pl pu (by rw[hlen];exact hw) ⟨.ref a,H,I,rfl,q a H (fun _ _ h=>h) ?_⟩
   have:BO xs lo hi=xs:=by
    unfold BO;rw[hw.1,hw.2,List.drop_zero,ZBX (by lia)]
   rw[this];exact hx
  ·exact NA pins s σ H _ v vl vu lo hi sl Q I rx hs pl pu ⟨a,xs,rfl,hx,hw,fun p hp=>q p _ (Same.upd hp) (.of AD)⟩
 | _=>exact False.elim q
theorem IK(he:PE X e te)(hl:PO X lo tl)(hu:PO X hi th)(hK:X.K=K:=by rfl):PE X (.Subscript e (.Slice lo hi none p2) pos) (tSl (IQ K) te tl th):=hK ▸ Mp WQ he hl hu
theorem WA(h:Ak te)(h1:FF tl)(h2:FF th):Ak (tSl (IQ K) te tl th):=fun σ H Q Q' k q=>h _ _ _ _ (fun v _ q=>h1 _ _ _ _ (fun _ _ q=>h2 _ _ _ _ (fun _ _ q=>by
 cases v <;> first | exact False.elim q | (obtain⟨xs,a,q⟩:=q;exact⟨xs,a,fun p H' s r=>k _ _ (q p H' s r)⟩)) q) q) q
end
end L2
namespace HT
open PySem PyProof.Rows
section
variable {prog:Program}{w:World}{A:Around}{E:Value->Shared->Prop}{s:Shared}
theorem cat_none{t b:Addr}{ws:List Value}{Q:Value->Shared->Prop}(ht:IsTup s.heap t #[])(hb:IsTup s.heap b ws.toArray)(h:Q (.ref b) s) :
 wpAny (model prog w) A (binaryOp .Add (.ref t) (.ref b)) Q E s:=by
 obtain⟨⟨cls,dd,data,sl⟩,ho,hc,n,hd⟩:=id ht;obtain⟨⟨cls2,dd2,data2,sl2⟩,ho2,hc2,n2,hd2⟩:=id hb;simp only at hc hd hc2 hd2;subst hc hd hc2 hd2
 exact concat_meets ⟨_,ho,rfl⟩ ⟨_,ho2,rfl⟩ noFill_tuple_add seq_tuple_add PySem.F.slot_tuple_add PySem.F.entry_tuple_add (PySem.F.args_tuple_add_2 _ _)
  (tuple_addW0 t b #[] ws.toArray n n2 dd dd2 sl sl2 rfl) ⟨ho,ho2,h⟩
end
end HT
namespace L2
open PySem PySem.Spec PyProof.Rows
section
variable {X:Cx}{K:W.Frag}
def Is(K:W.Frag):R2:=fun x y H Q=>match x,y with
 | .int i,.int j=>Q (.int (i+j)) H
 | .ref a,.ref b=>JG (.ref a) (.ref b) H Q\/∃xs ys,SqT K H a xs/\SqT K H b ys/\xs.length+ys.length<=sizeLine/\∀p H',Same H H'->SqT K H' p (xs++ys)->Q (.ref p) H'
 | _,_=>False
theorem O9:OpR X (binaryOp .Add) (Is X.K):=by
 intro pins s σ H x y v u Q I rx ry q
 cases x <;> cases y <;> first
  | exact False.elim q
  | exact KU pins s σ H _ _ v u Q I rx ry ⟨_,_,rfl,rfl,q⟩
  | skip
 rename_i a b
 rcases q with q | ⟨xs,ys,ha,hb,hz,q⟩
 ·exact Jq pins s σ H _ _ v u Q I rx ry q
 by_cases hx:xs=[]
 ·subst hx;cases rx;cases ry;obtain⟨its,r1,p1,_⟩:=I.tuple ha;obtain⟨its2,r2,p2,_⟩:=I.tuple hb;cases r1;exact HT.cat_none p1 p2 ⟨.ref b,H,I,rfl,q b H (fun _ _ h=>h) hb⟩
 ·exact NW pins s σ H _ _ v u Q I rx ry ⟨a,b,xs,ys,rfl,rfl,ha,hb,hx,hz,fun e=>q a H (fun _ _ h=>h) (by rw[e,Zt];exact ha),fun _ p hp=>q p _ (Same.upd hp) (.of AD)⟩
theorem Dp(hK:X.K=K:=by rfl):OpR X (binaryOp .Add) (Is K):=hK ▸ O9
theorem Tg:Bd (Is K):=fun x y H Q Q' m q=>by
 cases x <;> cases y <;> first
  | exact False.elim q
  | exact m _ _ q
  | skip
 rcases q with ⟨l,b,xs,zs,h1,h2,h3,h4,h5,q⟩ | ⟨xs,ys,ha,hb,hz,q⟩
 ·exact .inl ⟨l,b,xs,zs,h1,h2,h3,h4,h5,fun p hp=>m _ _ (q p hp)⟩
 ·exact .inr ⟨xs,ys,ha,hb,hz,fun p H' a b=>m _ _ (q p H' a b)⟩
end
section
variable {X:Cx}{K:W.Frag}
def Ks(K:W.Frag):List V->Hp->VK->Prop:=fun xs H Q=>match xs with
 | [.ref l]=>∃ns:List Int,SqL K H l (ns.map V.int)/\0 < ns.length/\∀M,M∈ns->(∀a∈ns,M<=a)->Q (.int M) H
 | _=>False
theorem Ur(hc:X.calm=true):CallR X (.builtin "min") (Ks X.K):=by
 intro pins s σ H xs us Q I r q
 match xs,q with
 | [.ref l],q =>
 obtain⟨ns,hl,hne,q⟩:=q;obtain⟨u,rfl,ru⟩:=Bb r;cases ru;obtain⟨its,rv,pl,hz⟩:=I.list hl;have hi:IntsAre its ns:=by simpa using EH rv
 obtain⟨zs,hzs⟩:=(hi.allInts).items;have pl':=pl.isList;rw[hzs]at pl'
 have hns:ns=zs.toList.map (·.1):=by
  rw[<- hi.numsOf,<- nums_intItems,<- hzs]
 have hsz:0 < zs.size:=by
  rw[hns,ZC,Zg]at hne;exact hne
 refine min_intList (I.ok.hd hc) pl' hsz fun v h' tk hv hk=>?_
 obtain⟨t,rfl⟩:=intItems_at hv;obtain⟨h1,h2⟩:=argBest_lt (numAt zs) (zs.size - 1);refine⟨.int _,H,I.kept hk,⟨t,rfl⟩,q _ ?_ fun a ha=>?_⟩
 ·rw[hns,numAt_eq];exact getD_mem (by rw[ZC,Zg];lia)
 ·rw[hns]at ha;obtain⟨j,hj,rfl⟩:=mem_getD ha;rw[ZC,Zg]at hj;rw[<- numAt_eq];exact h2 j (by lia)
theorem Ko(hc:X.calm=true)(hK:X.K=K:=by rfl):CallR X (.builtin "min") (Ks K):=hK ▸ Ur hc
end
section
variable {X:Cx}{K:W.Frag}{e sx:Expr}{te ts:TE}{lo hi:Option Expr}{tl th:TO}{pos p2:Pos}
end
abbrev BV:=List (List Bool × Addr × V)
abbrev BVr:BV->List (List Bool × Addr × Value)->Prop:=Paired fun p q=>p.1=q.1/\p.2.1=q.2.1/\RelV p.2.2 q.2.2
def dV(P:Program)(w:World)(a:Addr)(kvs:BV):HO:=.ext fun h=>∃xs o es ep,BVr kvs xs/\h.get? a=some o/\o.ExactDict/\o.data=.dict es ep/\es.toList=xs.map (entryOfKey (tupleKind (Wb P w)))/\(xs.map (·.1)).Nodup/\xs.length<=sizeLine/\(a == sysModules)=false
section
variable {P:Program}{w:World}{H:Hp}{h:Heap}{a:Addr}
end
section
variable {X:Cx}{o i e f value:Expr}{pos pos' tpos apos cpos:Pos}{td ty tx tv:TE}
end
section
variable {X:Cx}{P:Program}{w:World}{o i e f:Expr}{pos apos cpos:Pos}{td ty tx:TE}
end
section
variable {prog:Program}{w:World}{A:Around}{E:Value->Shared->Prop}{s:Shared}{d it:Addr}{o:Obj}{es:Array DictEntry}{ep i:Nat}
end
section
variable {X:Cx}{pins:List (Addr × Obj)}{σ:St}{H:Hp}{s:Shared}
theorem BVr.get{kvs:BV}{xs:List (List Bool × Addr × Value)}(r:BVr kvs xs):∀{i:Nat} {q:List Bool × Addr × V},kvs[i]? = some q->∃x,xs[i]? = some x/\x.2.1=q.2.1:=by
 induction r with
 | nil=>intro i q e;simp at e
 | @cons a b l1 l2 h t ih =>
  intro i q e;cases i with
  | zero =>
   simp at e;subst e;exact⟨b,by simp,h.2.1.symm⟩
  | succ i =>
   obtain⟨v,h1,h2⟩:=ih (i:=i) (q:=q) (by simpa using e);exact⟨v,by simpa using h1,h2⟩
end
section
variable {X:Cx}{K:W.Frag}
end
section
variable {X:Cx}{K:W.Frag}
def Eu(K:W.Frag):List V->Hp->VK->Prop:=fun xs H Q=>match xs with
 | [.ref l]=>∃ns:List Int,SqL K H l (ns.map V.int)/\0 < ns.length/\∀M,M∈ns->(∀a∈ns,a<=M)->Q (.int M) H
 | _=>False
theorem Pf(hc:X.calm=true):CallR X (.builtin "max") (Eu X.K):=by
 intro pins s σ H xs us Q I r q
 match xs,q with
 | [.ref l],q =>
 obtain⟨ns,hl,hne,q⟩:=q;obtain⟨u,rfl,ru⟩:=Bb r;cases ru;obtain⟨its,rv,pl,hz⟩:=I.list hl;have hi:IntsAre its ns:=by simpa using EH rv
 obtain⟨zs,hzs⟩:=(hi.allInts).items;have pl':=pl.isList;rw[hzs]at pl'
 have hns:ns=zs.toList.map (·.1):=by
  rw[<- hi.numsOf,<- nums_intItems,<- hzs]
 have hsz:0 < zs.size:=by
  rw[hns,ZC,Zg]at hne;exact hne
 refine max_intList (I.ok.hd hc) pl' hsz fun v h' tk hv hk=>?_
 obtain⟨t,rfl⟩:=intItems_at hv;obtain⟨h1,h2⟩:=argBest_gt (numAt zs) (zs.size - 1);refine⟨.int _,H,I.kept hk,⟨t,rfl⟩,q _ ?_ fun a ha=>?_⟩
 ·rw[hns,numAt_eq];exact getD_mem (by rw[ZC,Zg];lia)
 ·rw[hns]at ha;obtain⟨j,hj,rfl⟩:=mem_getD ha;rw[ZC,Zg]at hj;rw[<- numAt_eq];exact h2 j (by lia)
theorem KW(hc:X.calm=true)(hK:X.K=K:=by rfl):CallR X (.builtin "max") (Eu K):=hK ▸ Pf hc
theorem Oe:CK (Eu K):=fun xs H Q Q' h q=>by
 unfold Eu at *;split at q
 ·obtain⟨ns,a,b,q⟩:=q;exact⟨ns,a,b,fun M x y=>h _ _ (q M x y)⟩
 ·exact q.elim
end
def EG(K:W.Frag)(neg:Bool):R2:=fun x y H Q=>match y with
 | .ref p=>∃(xs:List V) (ds:List Dv) (d:Dv),SqA K H p xs/\Reps K H ds xs/\Rep K H d x/\(∀e∈ds,Ac e<=50)/\Q (.bl (neg ^^ ds.any fun e=>eqD e d)) H
 | _=>False
theorem UO{x y:V}{u:Value}(h1:RelV x u)(h2:RelV y u):x=y:=by
 cases x <;> cases y <;> simp only[RelV]at h1 h2 <;> (first | (obtain⟨t,rfl⟩:=h1) | subst h1) <;> (first | (obtain⟨t',e⟩:=h2;cases e;done) | (obtain⟨t',e⟩:=h2;cases e;rfl) | (cases h2;done) | (cases h2;rfl))
open Classical in
noncomputable def BU(K:W.Frag)(H:Hp)(u:Value):Dv:=if h:∃d x,RelV x u/\Rep K H d x then h.choose else .non
section
variable {X:Cx}{K:W.Frag}{pins:List (Addr × Obj)}{σ:St}{H:Hp}{s:Shared}
theorem Nj(I:Inv X pins σ H s){d:Dv}{x:V}{u:Value}(r:RelV x u)(h:Rep X.K H d x):BU X.K H u=d:=by
 have hx:∃d x,RelV x u/\Rep X.K H d x:=⟨d,x,r,h⟩;unfold BU;rw[dif_pos hx];obtain⟨y,r',h'⟩:=hx.choose_spec;obtain rfl:=UO r r';exact Fz I _ _ _ h' h
theorem EB(I:Inv X pins σ H s){d:Dv}:∀{ds:List Dv} {xs:List V} {us:List Value},Reps X.K H ds xs->Vals xs us->us.any (fun u=>eqD (BU X.K H u) d)=ds.any fun e=>eqD e d
 | [],_,_,h,r=>by
  unfold Reps at h;subst h;cases r;rfl
 | e::ds,xs,us,h,r=>by
  unfold Reps at h;obtain⟨x,l,rfl,h1,h2⟩:=h;cases r with
  | cons r1 r2=>rw[ZBG,ZBG,EB I h2 r2,Nj I r1 h1]
theorem ME{d:Dv}:∀{ds:List Dv} {xs:List V} {us:List Value},Reps K H ds xs->Vals xs us->∀u∈us,∃e∈ds,∃x,RelV x u/\Rep K H e x
 | [],_,_,h,r=>by
  unfold Reps at h;subst h;cases r;intro u hu;cases hu
 | e::ds,xs,us,h,r=>by
  unfold Reps at h;obtain⟨x,l,rfl,h1,h2⟩:=h;cases r with
  | cons r1 r2 =>
   intro u hu
   rcases ZF.mp hu with rfl | hu
   ·exact⟨e,Zl,x,r1,h1⟩
   ·obtain⟨e',h3,h4⟩:=ME (d:=d) h2 r2 u hu;exact⟨e',Za _ h3,h4⟩
theorem Fo(hu:X.A.units+60 < cLine)(I:Inv X pins σ H s){d:Dv}{x:V}{v:Value}{ds:List Dv}{xs:List V}{us:List Value}(rx:RelV x v)(hx:Rep X.K H d x)(hR:Reps X.K H ds xs)(r:Vals xs us)(hd:∀e∈ds,Ac e<=50):∀y,y∈us->SeqAt.EqAt X.A.in1 s y v (eqD (BU X.K H y) d):=by
 intro y hy;obtain⟨e,he,z,r1,h1⟩:=ME (d:=d) hR r y hy;rw[Nj I r1 h1];exact(Gb I 50 X.A.in1 e d z x y v (hd e he) (by show X.A.units+1+50 < cLine;lia) h1 hx r1 rx).1
theorem Qu(hu:X.A.units+60 < cLine):OpR X (compareOp .In) (EG X.K false):=by
 intro pins s σ H x y v u Q I rx ry h;cases y <;> first | exact False.elim h | skip
 obtain⟨xs,ds,d,hq,hR,hx,hd,q⟩:=h;cases ry
 rcases hq with hq | hq
 ·obtain⟨its,r,pl,hz⟩:=I.list hq;refine SeqAt.in_listAt (fun y=>eqD (BU X.K H y) d) pl.isList (fun w hw=>Fo hu I rx hx hR r hd w (by simpa using hw)) ⟨.bl _,H,I,rfl,?_⟩;rw[show its.toArray.any (fun y=>eqD (BU X.K H y) d)=its.any (fun y=>eqD (BU X.K H y) d) by simp,EB I hR r];simpa using q
 ·obtain⟨its,r,pl,hz⟩:=I.tuple hq;refine SeqAt.in_tupleAt (fun y=>eqD (BU X.K H y) d) pl (fun w hw=>Fo hu I rx hx hR r hd w (by simpa using hw)) ⟨.bl _,H,I,rfl,?_⟩;rw[show its.toArray.any (fun y=>eqD (BU X.K H y) d)=its.any (fun y=>eqD (BU X.K H y) d) by simp,EB I hR r];simpa using q
theorem N7(hu:X.A.units+60 < cLine):OpR X (compareOp .NotIn) (EG X.K true):=by
 intro pins s σ H x y v u Q I rx ry h;cases y <;> first | exact False.elim h | skip
 obtain⟨xs,ds,d,hq,hR,hx,hd,q⟩:=h;cases ry
 rcases hq with hq | hq
 ·obtain⟨its,r,pl,hz⟩:=I.list hq;refine SeqAt.notIn_listAt (fun y=>eqD (BU X.K H y) d) pl.isList (fun w hw=>Fo hu I rx hx hR r hd w (by simpa using hw)) ⟨.bl _,H,I,rfl,?_⟩;rw[show its.toArray.any (fun y=>eqD (BU X.K H y) d)=its.any (fun y=>eqD (BU X.K H y) d) by simp,EB I hR r];simpa using q
 ·obtain⟨its,r,pl,hz⟩:=I.tuple hq;refine SeqAt.notIn_tupleAt (fun y=>eqD (BU X.K H y) d) pl (fun w hw=>Fo hu I rx hx hR r hd w (by simpa using hw)) ⟨.bl _,H,I,rfl,?_⟩;rw[show its.toArray.any (fun y=>eqD (BU X.K H y) d)=its.any (fun y=>eqD (BU X.K H y) d) by simp,EB I hR r];simpa using q
theorem Pp(hu:X.A.units+60 < cLine)(hK:X.K=K:=by rfl):OpR X (compareOp .In) (EG K false):=hK ▸ Qu hu
theorem MQ(hu:X.A.units+60 < cLine)(hK:X.K=K:=by rfl):OpR X (compareOp .NotIn) (EG K true):=hK ▸ N7 hu
theorem S8{neg:Bool}:Bd (EG K neg):=fun x y H Q Q' h q=>by
 cases y with
 | ref p=>obtain⟨xs,ds,d,h1,h2,h3,h4,q⟩:=q;exact⟨xs,ds,d,h1,h2,h3,h4,h _ _ q⟩
 | _=>exact False.elim q
end
structure GFd(H:Hp)(t l:Addr)(N:Nat):Prop where
 at_:∃(i g c:Int) (ns:List Int),0<=i/\0<=g/\0<=c/\c<=N/\H t=some (.lst [.ref l,.int i,.int g,.int c])/\l≠t/\H l=some (.lst (ns.map V.int))/\ns.length≠0
theorem GFeed.told{H:Hp}{t:Addr}{N:Nat}(F:GFeed H t N):∃l,GFd H t l N:=by
 obtain⟨l,i,g,c,ns,h⟩:=F.at_;exact⟨l,i,g,c,ns,h⟩
theorem GFd.feed{H:Hp}{t l:Addr}{N:Nat}(F:GFd H t l N):GFeed H t N:=by
 obtain⟨i,g,c,ns,h⟩:=F.at_;exact⟨l,i,g,c,ns,h⟩
theorem GFd.same{H H':Hp}{t l:Addr}{N:Nat}(F:GFd H t l N)(h:Same H H'):GFd H' t l N:=by
 obtain⟨i,g,c,ns,h1,h2,h3,h4,h5,h6,h7,h8⟩:=F.at_;exact⟨i,g,c,ns,h1,h2,h3,h4,h _ _ h5,h6,h _ _ h7,h8⟩
theorem GFd.upd{H:Hp}{t l p:Addr}{o:HO}{N:Nat}(F:GFd H t l N)(h:H p=none):GFd (L2.upd H p o) t l N:=F.same (Same.upd h)
theorem GFd.ne{H:Hp}{t l p:Addr}{N:Nat}(F:GFd H t l N)(h:H p=none):p≠t/\p≠l:=by
 obtain⟨i,g,c,ns,h1,h2,h3,h4,h5,h6,h7,h8⟩:=F.at_;exact⟨fun e=>(by rw[e,h5]at h;exact nomatch h),fun e=>(by rw[e,h7]at h;exact nomatch h)⟩
theorem GFd.put{H:Hp}{t l p:Addr}{o:HO}{N:Nat}(F:GFd H t l N)(h:p≠t/\p≠l):GFd (L2.upd H p o) t l N:=by
 obtain⟨i,g,c,ns,h1,h2,h3,h4,h5,h6,h7,h8⟩:=F.at_;exact⟨i,g,c,ns,h1,h2,h3,h4,by rw[AI (Ne.symm h.1)];exact h5,h6,by rw[AI (Ne.symm h.2)];exact h7,h8⟩
theorem GFeed.put{H:Hp}{t p:Addr}{o:HO}{N:Nat}{xs:List V}(F:GFeed H t N)(hp:p≠t)(hx:H p=some (.lst xs))(hn:∀ns:List Int,ns.length≠0->xs≠ns.map V.int):GFeed (L2.upd H p o) t N:=by
 obtain⟨l,i,g,c,ns,h1,h2,h3,h4,h5,h6,h7,h8⟩:=F.at_
 have:p≠l:=fun e=>by
  rw[e,h7]at hx;cases hx;exact hn ns h8 rfl
 exact⟨l,i,g,c,ns,h1,h2,h3,h4,by rw[AI (Ne.symm hp)];exact h5,h6,by rw[AI (Ne.symm this)];exact h7,h8⟩
def Ds:Sp:=fun vs H Q _=>match vs with
 | [.ref t,.int m]=>∃l N,GFd H t l N/\N<=1000000000/\okDiv m/\∀d H',0<=d->d < m->GFd H' t l (N+1)->(∀b,b≠t->H' b=H b)->Q (.int d) H'
 | _=>False
theorem Sm:Ai Ds:=fun vs H Q Q' E h q=>by
 unfold Ds at *;split at q
 ·obtain⟨l,N,h1,h2,h3,q⟩:=q;exact⟨l,N,h1,h2,h3,fun d H' a b c e=>h _ _ (q d H' a b c e)⟩
 ·exact q.elim
theorem Qm(vs:List V)(H:Hp)(Q:VK)(E:XK)(h:ED vs H Q E):Ds vs H Q E:=by
 unfold ED at h;unfold Ds;split at h
 ·obtain⟨N,F,h2,h3,q⟩:=h;obtain⟨l,F⟩:=F.told;exact⟨l,N,F,h2,h3,fun d H' a b c e=>q d H' a b c.feed e⟩
 ·exact h.elim
inductive Dw where
 | non | bl (b:Bool) | int (i:Int) | str (x:Str) | tup (ds:List Dw) | lst (ds:List Dw) | emp
def RZ(a:Addr)(xs:List V):Heap->Prop:=fun h=>a≠sysModules/\∃(its:List Value) (n:Nat),Vals xs its/\h.get? a=some { cls:=.type "list",data:=.seq its.toArray n }
mutual
def RepW(K:W.Frag)(H:Hp):Dw->V->Prop
 | .non,v=>v=.non
 | .bl b,v=>v=.bl b
 | .int i,v=>v=.int i
 | .str x,v=>v=.str x
 | .tup ds,v=>∃a xs,v=.ref a/\SqT K H a xs/\RepsW K H ds xs
 | .lst ds,v=>∃a xs,v=.ref a/\H a=some (.ext (RZ a xs))/\RepsW K H ds xs
 | .emp,v=>∃a,v=.ref a/\H a=some (.dK [])
def RepsW(K:W.Frag)(H:Hp):List Dw->List V->Prop
 | [],xs=>xs=[]
 | d::ds,xs=>∃x r,xs=x::r/\RepW K H d x/\RepsW K H ds r
end
theorem RepsW.length{K:W.Frag}{H:Hp}:∀{ds:List Dw} {xs:List V},RepsW K H ds xs->ds.length=xs.length
 | [],xs,h=>by unfold RepsW at h;subst h;rfl
 | d::ds,xs,h=>by
  unfold RepsW at h;obtain⟨x,r,rfl,_,h⟩:=h;rw[Zn,Zn,RepsW.length h]
theorem RepsW.get{K:W.Frag}{H:Hp}:∀{ds:List Dw} {xs:List V} {i:Nat} {d:Dw},RepsW K H ds xs->ds[i]? = some d->∃x,xs[i]? = some x/\RepW K H d x
 | [],_,_,_,_,e=>by simp at e
 | d::ds,xs,0,_,h,e=>by
  unfold RepsW at h;obtain⟨x,r,rfl,h1,_⟩:=h;simp at e;subst e;exact⟨x,rfl,h1⟩
 | d::ds,xs,i+1,_,h,e=>by
  unfold RepsW at h;obtain⟨x,r,rfl,_,h⟩:=h;obtain⟨y,h1,h2⟩:=RepsW.get (i:=i) h (by simpa using e);exact⟨y,by simpa using h1,h2⟩
theorem Ec{K:W.Frag}{H:Hp}:RepsW K H [] []:=by unfold RepsW;rfl
theorem HX{K:W.Frag}{H:Hp}{d:Dw}{ds:List Dw}{x:V}{xs:List V}(h:RepW K H d x)(r:RepsW K H ds xs):RepsW K H (d::ds) (x::xs):=by unfold RepsW;exact⟨x,xs,rfl,h,r⟩
theorem RepsW.append{K:W.Frag}{H:Hp}:∀{ds es:List Dw} {xs ys:List V},RepsW K H ds xs->RepsW K H es ys->RepsW K H (ds++es) (xs++ys)
 | [],es,xs,ys,h,h'=>by unfold RepsW at h;subst h;exact h'
 | d::ds,es,xs,ys,h,h'=>by
  unfold RepsW at h;obtain⟨x,r,rfl,h1,h2⟩:=h;exact HX h1 (RepsW.append h2 h')
theorem RepsW.take{K:W.Frag}{H:Hp}:∀(k:Nat) {ds:List Dw} {xs:List V},RepsW K H ds xs->RepsW K H (ds.take k) (xs.take k)
 | 0,_,_,_=>by simpa using Ec
 | k+1,[],xs,h=>by unfold RepsW at h;subst h;simpa using Ec
 | k+1,d::ds,xs,h=>by
  unfold RepsW at h;obtain⟨x,r,rfl,h1,h2⟩:=h;simpa using HX h1 (RepsW.take k h2)
theorem RepsW.drop{K:W.Frag}{H:Hp}:∀(k:Nat) {ds:List Dw} {xs:List V},RepsW K H ds xs->RepsW K H (ds.drop k) (xs.drop k)
 | 0,_,_,h=>by simpa using h
 | k+1,[],xs,h=>by unfold RepsW at h;subst h;simpa using Ec
 | k+1,d::ds,xs,h=>by
  unfold RepsW at h;obtain⟨x,r,rfl,h1,h2⟩:=h;simpa using RepsW.drop k h2
theorem RepsW.reverse{K:W.Frag}{H:Hp}:∀{ds:List Dw} {xs:List V},RepsW K H ds xs->RepsW K H ds.reverse xs.reverse
 | [],xs,h=>by unfold RepsW at h;subst h;simpa using Ec
 | d::ds,xs,h=>by
  unfold RepsW at h;obtain⟨x,r,rfl,h1,h2⟩:=h;rw[ZBx,ZBx];exact RepsW.append (RepsW.reverse h2) (HX h1 Ec)
mutual
theorem RepW.frm{K:W.Frag}{H H':Hp}{t:Addr}(s:Frm t H H')(ht:∃zs,H t=some (.lst zs)):∀(d:Dw) (v:V),RepW K H d v->RepW K H' d v
 | .non,v,h=>by unfold RepW at *;exact h
 | .bl b,v,h=>by unfold RepW at *;exact h
 | .int i,v,h=>by unfold RepW at *;exact h
 | .str x,v,h=>by unfold RepW at *;exact h
 | .emp,v,h=>by
  unfold RepW at *;obtain⟨a,e,h⟩:=h;obtain⟨zs,hz⟩:=ht;exact⟨a,e,s a _ (fun q=>by rw[q,hz]at h;cases h) h⟩
 | .tup ds,v,h=>by
  unfold RepW at *;obtain⟨a,xs,e,h1,h2⟩:=h;refine⟨a,xs,e,?_,RepsW.frm s ht ds xs h2⟩;obtain⟨zs,hz⟩:=ht
  rcases h1 with (h1 | ⟨o,h1⟩) | h1
  ·exact .inl (.inl (s a _ (fun q=>by rw[q,hz]at h1;cases h1) h1))
  ·exact .inl (.inr ⟨o,s a _ (fun q=>by rw[q,hz]at h1;cases h1) h1⟩)
  ·exact .inr h1
 | .lst ds,v,h=>by
  unfold RepW at *;obtain⟨a,xs,e,h1,h2⟩:=h;obtain⟨zs,hz⟩:=id ht;exact⟨a,xs,e,s a _ (fun q=>by rw[q,hz]at h1;cases h1) h1,RepsW.frm s ht ds xs h2⟩
theorem RepsW.frm{K:W.Frag}{H H':Hp}{t:Addr}(s:Frm t H H')(ht:∃zs,H t=some (.lst zs)):∀(ds:List Dw) (xs:List V),RepsW K H ds xs->RepsW K H' ds xs
 | [],xs,h=>by unfold RepsW at *;exact h
 | d::ds,xs,h=>by
  unfold RepsW at *;obtain⟨x,r,e,h1,h2⟩:=h;exact⟨x,r,e,RepW.frm s ht d x h1,RepsW.frm s ht ds r h2⟩
end
section
variable {X:Cx}{K:W.Frag}{es:List Expr}{t:TA}{pos:Pos}
end
mutual
def NK:Dw->Nat
 | .tup ds=>IX ds+1
 | .lst ds=>IX ds+1
 | .emp=>1
 | _=>0
def IX:List Dw->Nat
 | []=>0
 | d::ds=>max (NK d) (IX ds)
end
mutual
def Mi:Dw->Nat
 | .str x=>x.cps.size
 | .tup ds=>JK ds
 | .lst ds=>JK ds
 | _=>0
def JK:List Dw->Nat
 | []=>0
 | d::ds=>Mi d+1+JK ds
end
section
variable {X:Cx}{pins:List (Addr × Obj)}{σ:St}{H:Hp}{s:Shared}
end
section
variable {X:Cx}{K:W.Frag}
def Nw(K:W.Frag):R2:=fun x y H Q=>match x,y with
 | .int a,.int b=>Q (.bl (!(a == b))) H
 | .ref a,.ref b=>∃xs,((SqT K H a xs/\SqT K H b [])\/(SqL K H a xs/\SqL K H b []))/\Q (.bl (!xs.isEmpty)) H
 | _,_=>False
theorem Rj(hu:X.A.units+60 < cLine):OpR X (compareOp .NotEq) (Nw X.K):=by
 intro pins s σ H x y v u Q I rx ry q;have hu':X.A.units < cLine:=by lia
 cases x <;> cases y <;> first | exact False.elim q | skip
 ·rename_i a b;exact om_neAll hu pins s σ H _ _ v u Q I rx ry ⟨.int a,.int b,by unfold Rep;rfl,by unfold Rep;rfl,by unfold Ac;lia,by unfold eqD;exact q⟩
 rename_i a b;cases rx;cases ry;obtain⟨xs,hq,q⟩:=q
 rcases hq with ⟨ha,hb⟩ | ⟨ha,hb⟩
 ·obtain⟨its,r1,p1,_⟩:=I.tuple ha;obtain⟨its2,r2,p2,_⟩:=I.tuple hb;cases r2;have N:=SeqAt.RcNeAt.tuples (A:=X.A) (e:=fun _=>false) p1 p2 hu' (fun j h1 h2=>absurd h2 (by simp));refine N X.prog X.w _ _ ⟨.bl _,H,I,rfl,?_⟩;cases r1 <;> simpa using q
 ·obtain⟨its,r1,p1,_⟩:=I.list ha;obtain⟨its2,r2,p2,_⟩:=I.list hb;cases r2;cases r1 with
  | nil =>
   have N:=SeqAt.RcNeAt.lists (A:=X.A) (e:=fun _=>false) p1.isList p2.isList rfl hu' (fun j h1 h2=>absurd h2 (by simp));refine N X.prog X.w _ _ ⟨.bl _,H,I,rfl,?_⟩;simpa using q
  | cons r t =>
   have N:=SeqAt.RcNeAt.lists_lengths (A:=X.A) p1.isList p2.isList (by simp) hu';refine N X.prog X.w _ _ ⟨.bl _,H,I,rfl,?_⟩;simpa using q
theorem WJ(hu:X.A.units+60 < cLine)(hK:X.K=K:=by rfl):OpR X (compareOp .NotEq) (Nw K):=hK ▸ Rj hu
end
mutual
def okW(n:Nat):Dw->Bool
 | .int i=>decide (i.natAbs<=n)
 | .str x=>x.cps.toList.all fun c=>decide (c < 16 ^ 8)
 | .tup ds=>JE n ds
 | .lst ds=>JE n ds
 | _=>true
def JE(n:Nat):List Dw->Bool
 | []=>true
 | d::ds=>okW n d && JE n ds
end
structure Fit(n D B:Nat)(d:Dw):Prop where
 ok:okW n d=true
 dep:NK d<=D
 bulk:Mi d<=B
theorem G8(val:Nat->Int):∀i,(firstMet val i).Nodup
 | 0=>by rw[firstMet_zero];exact List.nodup_nil
 | i+1=>by
  rw[firstMet_succ];unfold step_dedup;have ih:=G8 val i;split
  ·exact ih
  ·rename_i h;rw[List.nodup_append];refine⟨ih,by simp,?_⟩;intro a ha b hb e;rw[ZJ.mp hb]at e;exact h (ZBh.mpr ⟨a,ha,by rw[e];simp⟩)
theorem Jx(ns:List Int)(k:Int):k∈firstMet (fun i=>ns.getD i 0) ns.length ↔ k∈ns:=by
 have h:=firstMet_any (fun i=>ns.getD i 0) ns.length k
 have e:(List.range ns.length).map (fun i=>ns.getD i 0)=ns:=by
  apply List.ext_getElem
  ·simp
  ·intro i h1 h2;simp;rw[ZE h2];rfl
 rw[e]at h;have a1:∀l:List Int,l.any (· == k)=true ↔ k∈l:=fun l=>by simp
 rw[<- a1,<- a1,h]
def D5(ds:List Int):HO:=.set (fun k=>ds.any (· == k)) ds.length
def FP(K:W.Frag):List V->Hp->VK->Prop:=fun xs H Q=>match xs with
 | [.ref p]=>∃ns:List Int,SqL K H p (ns.map V.int)/\ns.length<=1000/\∀(ds:List Int) q,ds.Nodup->(∀k,k∈ds ↔ k∈ns)->H q=none->Q (.ref q) (upd H q (D5 ds))
 | _=>False
section
variable {X:Cx}{K:W.Frag}
theorem WO(hh:X.calm=true):CallR X (.type "set") (FP X.K):=by
 intro pins s σ H xs us Q I r h
 match xs,h with
 | [.ref p],h =>
 obtain⟨ns,hq,hn,q⟩:=h;obtain⟨u,rfl,rx⟩:=Bb r;cases rx;obtain⟨its,rv,pl,hz⟩:=I.list hq;have hi:IntsAre its ns:=by simpa using EH rv
 have hlen:its.length=ns.length:=by rw[<- rv.length,ZC]
 refine call_set_list (ns:=ns) (I.ok.hd hh) pl.isList (by simpa using hi) (by rw[ZI,hlen];show ns.length+1 < 4096;lia) fun h' tk hs hk=>?_
 have hsz:its.toArray.size=ns.length:=by rw[ZI,hlen]
 rw[hsz]at hs;refine⟨.ref s.heap.objs.size,_,I.laid (t':=tk) (o:=D5 (firstMet (fun i=>ns.getD i 0) ns.length)) (fun b o e=>hk b o (ZG e) e) (ZD _) hs,rfl,q _ _ (G8 _ _) (Jx ns) (I.hok.fresh (ZD _))⟩
theorem J7(hh:X.calm=true)(hK:X.K=K:=by rfl):CallR X (.type "set") (FP K):=hK ▸ WO hh
theorem Uy:CK (FP K):=fun xs H Q Q' h q=>by
 unfold FP at *;split at q
 ·obtain⟨ns,a,b,q⟩:=q;exact⟨ns,a,b,fun ds p x1 x2 x3=>h _ _ (q ds p x1 x2 x3)⟩
 ·exact q.elim
def Ij:List V->Hp->VK->Prop:=fun xs H Q=>match xs with
 | [.ref p]=>∃ds:List Int,H p=some (D5 ds)/\Q (.int ds.length) H
 | _=>False
theorem NM:CallR X (.builtin "len") Ij:=by
 intro pins s σ H xs us Q I r h
 match xs,h with
 | [.ref p],h =>
 obtain⟨ds,hq,q⟩:=h;obtain⟨u,rfl,rx⟩:=Bb r;cases rx;obtain⟨o,es,ep,t,h1,h2,h3,_,_,h6,h7,h8⟩:=(show ObjOk X.prog X.w H s.heap p (D5 ds) from I.hok p _ hq);refine call_len_set h1 h2 h3 h7 (Int.lt_trans (Int.ofNat_lt.mpr h6) (by decide)) ⟨.int ds.length,H,I.tok _,⟨_,by rw[h8]⟩,q⟩
theorem O0:CK Ij:=fun xs H Q Q' h q=>by
 unfold Ij at *;split at q
 ·obtain⟨ds,a,q⟩:=q;exact⟨ds,a,h _ _ q⟩
 ·exact q.elim
end
def Ris(xs:Array Nat):Prop:=xs.toList.Pairwise (· < ·)
theorem Ris.lt{xs:Array Nat}(h:Ris xs){i k:Nat}(hik:i < k)(hk:k < xs.size)(j:Nat):xs.getD i j < xs.getD k j:=by
 have hi:i < xs.size:=ZBL hik hk
 have:=List.pairwise_iff_getElem.mp h i k (by simpa using hi) (by simpa using hk) hik
 simpa [Array.getD,hi,hk] using this
theorem Iz{xs:Array Nat}{j:Nat}(h:Ris xs):∀(f lo hi:Nat),hi - lo<=f->lo<=hi->hi<=xs.size->(∀i,i < lo->xs.getD i j < j)->(∀i,hi<=i->i < xs.size->j<=xs.getD i j) ->
 SetTable.below.go xs j f lo hi<=xs.size/\(∀i,i < SetTable.below.go xs j f lo hi->xs.getD i j < j)/\∀i,SetTable.below.go xs j f lo hi<=i->i < xs.size->j<=xs.getD i j
 | 0,lo,hi,h1,h2,h3,h4,h5=>by
  have e:lo=hi:=by lia
  subst e;exact⟨h3,h4,h5⟩
 | f+1,lo,hi,h1,h2,h3,h4,h5=>by
  unfold SetTable.below.go
  by_cases hl:lo < hi
  ·rw[if_pos hl];dsimp only;have hm:(lo+hi) / 2 < xs.size:=by lia
   by_cases hx:xs.getD ((lo+hi) / 2) j < j
   ·rw[if_pos hx];refine Iz h f _ _ (by lia) (by lia) h3 (fun i hi'=>?_) h5
    rcases Zu i ((lo+hi) / 2) with z | z
    ·exact ZBL (h.lt z hm j) hx
    ·have:i=(lo+hi) / 2:=by lia
     rw[this];exact hx
   ·rw[if_neg hx];refine Iz h f _ _ (by lia) (by lia) (by lia) h4 (fun i hi' hs=>?_)
    rcases Zu ((lo+hi) / 2) i with z | z
    ·have:=h.lt z hs j;lia
    ·have:i=(lo+hi) / 2:=by lia
     rw[this];lia
  ·rw[if_neg hl];have e:lo=hi:=by lia
   subst e;exact⟨h3,h4,h5⟩
theorem JB{xs:Array Nat}(h:Ris xs)(j:Nat):SetTable.below xs j<=xs.size/\(∀i,i < SetTable.below xs j->xs.getD i j < j)/\∀i,SetTable.below xs j<=i->i < xs.size->j<=xs.getD i j :=
 Iz h _ _ _ (by lia) (by lia) (ZD _) (fun i z=>by lia) (fun i z y=>by lia)
theorem Rq{xs:Array Nat}(h:Ris xs){k:Nat}(hk:k < xs.size):SetTable.below xs (xs.getD k 0+1)=k+1:=by
 obtain⟨a,b,c⟩:=JB h (xs.getD k 0+1);generalize SetTable.below xs (xs.getD k 0+1)=r at a b c;have e0:∀i z,i < xs.size->xs.getD i z=xs.getD i 0:=fun i z hi=>by simp[Array.getD,hi]
 rcases Z8 r (k+1) with z | z | z
 ·have:=c k (by lia) hk
  rw[e0 k (xs.getD k 0+1) hk]at this;lia
 ·exact z
 ·have h1:=b (k+1) z;have hs:k+1 < xs.size:=by lia
  have h2:=h.lt (ZBV k) hs 0;rw[e0 (k+1) (xs.getD k 0+1) hs]at h1
  have:xs.getD k 0 < xs.getD (k+1) 0:=h2
  lia
theorem Ta{xs:Array Nat}(h:Ris xs):SetTable.below xs 0=0:=by
 obtain⟨a,b,c⟩:=JB h 0
 rcases Nat.eq_zero_or_pos (SetTable.below xs 0) with z | z
 ·exact z
 ·have:=b 0 z;lia
theorem Vr{xs:Array Nat}(h:Ris xs){j:Nat}(hn:xs[SetTable.below xs j]? ≠ some j):Ris (SetTable.insertAt xs (SetTable.below xs j) j):=by
 obtain⟨a,b,c⟩:=JB h j;generalize SetTable.below xs j=r at a b c hn;unfold Ris;rw[SetTable.toList_insertAt,ZBp,ZB8];have g:∀i,i < xs.size->xs.toList[i]? = some (xs.getD i j):=fun i hi=>by simp[Array.getD,hi]
 have lo:∀x∈xs.toList.take r,x < j:=fun x hx=>by
  obtain⟨i,hi,e⟩:=ZBC hx;rw[Ze]at hi;rw[List.getElem_take]at e;have hi2:i < xs.size:=by have:=(Nat.lt_min.mp hi).2;simpa using this
  have:=g i hi2
  rw[ZE (by simpa using hi2),e]at this;cases this;exact b i (Nat.lt_min.mp hi).1
 have hi:∀x∈xs.toList.drop r,j < x:=fun x hx=>by
  obtain⟨i,hi,e⟩:=ZBC hx;rw[ZBK]at hi;rw[List.getElem_drop]at e
  have hi2:r+i < xs.size:=by have:xs.toList.length=xs.size:=by simp
                             lia
  have e1:=g (r+i) hi2;rw[ZE (by simpa using hi2),e]at e1;have e2:=c (r+i) (Nat.le_add_right _ _) hi2;have e3:x=xs.getD (r+i) j:=ZV e1
  rcases Nat.eq_zero_or_pos i with z | z
  ·subst z
   have:x≠j:=fun q=>hn (by rw[<- ZB1,g r hi2];rw[<- q];exact congrArg some (by rw[e3]at q;rw[e3];exact(by rw[q]:xs.getD (r+0) j=xs.getD (r+0) j) ▸ (by simp[Array.getD,show r < xs.size from hi2])))
   lia
  ·have h1:=h.lt (show r < r+i by lia) hi2 j;have h2:=c r (ZD _) (by lia);lia
 refine⟨ZBq (List.take_sublist _ _) h,⟨hi,ZBq (List.drop_sublist _ _) h⟩,fun x hx y hy=>?_⟩
 rcases ZF.mp hy with rfl | hy2
 ·exact lo x hx
 ·exact ZBL (lo x hx) (hi y hy2)
theorem Lk(t:SetTable)(p:SetTable.Probe):(t.advance p).dummy=p.dummy:=by
 unfold SetTable.advance;split <;> rfl
def EN(t:SetTable)(j:Nat):Prop:=t.place[SetTable.below t.place j]? ≠ some j
theorem Kd{t:SetTable}{j:Nat}(h:∀i,t.slot j≠.live i):EN t j:=fun e=>h _ (by unfold SetTable.slot;dsimp only;rw[if_pos (by rw[e];exact beq_self_eq_true _)])
theorem probe_go{t:SetTable}{g:Nat->Int}{h:Int}{j:Nat}{d:Option Nat}:∀(f:Nat) (p:SetTable.Probe),(∀x,p.dummy=some x->EN t x)->SetTable.probe.go t g h f p=some (.empty j d)->EN t j/\∀x,d=some x->EN t x
 | 0,p,hp,e=>by unfold SetTable.probe.go at e;cases e
 | f+1,p,hp,e=>by
  unfold SetTable.probe.go at e;split at e
  ·rename_i hs;cases e;exact⟨Kd (fun i z=>by rw[hs]at z;cases z),hp⟩
  ·rename_i hs;refine probe_go f _ (fun x hx=>?_) e;rw[Lk]at hx;cases hx;exact Kd fun i z=>by rw[hs]at z;cases z
  ·split at e
   ·cases e
   ·exact probe_go f _ (fun x hx=>hp x (by rw[Lk]at hx;exact hx)) e
theorem S9{t:SetTable}{h:Int}{j:Nat}{b:Bool}(e:t.freeSlot h=some (j,b)):EN t j:=by
 unfold SetTable.freeSlot at e;split at e
 ·rename_i j' d hm;cases e;obtain⟨a,c⟩:=probe_go _ _ (fun x hx=>by cases hx) (show SetTable.probe.go t _ h _ (t.probeStart h)=_ from hm);cases d with
  | none=>exact a
  | some x=>exact c x rfl
 ·cases e
structure TabG(w:World)(t:SetTable):Prop where
 led:t.led = !w.params.followText "set-order"
 ris:Ris t.place
theorem QS(n:Nat):Ris (Array.range n):=by
 unfold Ris;rw[Array.toList_range];exact ZBr
theorem Vu(w:World):TabG w (.fresh 0 0 (!w.params.followText "set-order")):=⟨rfl,List.Pairwise.nil⟩
theorem En{w:World}{t:SetTable}(g:TabG w t)(n:Nat):TabG w (t.standIn n):=⟨g.led,QS n⟩
theorem tg_orStandIn{w:World}{t:SetTable}(g:TabG w t)(n:Nat):TabG w (t.orStandIn n):=by
 unfold SetTable.orStandIn;split
 ·exact g
 ·exact En g n
theorem Qi{w:World}{t:SetTable}(g:TabG w t)(es:Array (Int × Value))(h:Int)(x:Value):TabG w (layNew t es h x).2.1:=by
 unfold layNew;split
 ·rename_i j b e;exact tg_orStandIn (t:=(t.put j).1) ⟨g.led,Vr g.ris (S9 e)⟩ _
 ·exact En g _
theorem Tp{w:World}{t t':SetTable}(g:TabG w t){hs:Array Int}{n:Nat}{o:Array Nat}(e:t.relaid hs n=some (t',o)):TabG w t':=by
 unfold SetTable.relaid SetTable.laid at e;cases q:SetTable.layClean (SetTable.sizeAbove n - 1) hs with
 | none=>rw[q]at e;cases e
 | some ow =>
  rw[q]at e;cases e;refine⟨g.led,?_⟩;unfold Ris;dsimp only;rw[ZB2,List.pairwise_filterMap];refine List.Pairwise.imp (fun {a b} hab x hx y hy=>?_) ZBr;cases h1:ow.getD a none with
  | none=>rw[h1]at hx;cases hx
  | some u =>
   cases h2:ow.getD b none with
   | none=>rw[h2]at hy;cases hy
   | some v =>
    rw[h1]at hx;rw[h2]at hy;cases hx;cases hy;exact hab
theorem VD{w:World}{t:SetTable}(g:TabG w t)(es:Array (Int × Value))(n:Nat):TabG w (relayAll t es n).2.1:=by
 unfold relayAll;split
 ·rename_i t' o e;dsimp only;split
  ·exact Tp g e
  ·exact En g _
 ·exact En g _
theorem OO{w:World}{t:SetTable}(g:TabG w t)(b:Bool):TabG w { t with plain:=b }:=⟨g.led,g.ris⟩
def SetW(P:Program)(w:World)(h:Heap)(a:Addr)(S:Int->Bool)(n:Nat):Prop :=
 ∃o es ep t,h.get? a=some o/\o.ExactSet/\o.data=.set es ep t/\ElemsOf (intKind P w) es.toList/\(∀k,S k=true ↔ ∃e∈es.toList,(intKind P w).is k e.2=true)/\es.size < scanBound/\t.fits es.size=true/\es.size=n/\TabG w t
section
variable {P:Program}{w:World}{A:Around}{E:Value->Shared->Prop}{s:Shared}{a:Addr}
theorem SetW.at{h h':Heap}{S:Int->Bool}{n:Nat}(x:SetW P w h a S n)(k:∀o,h.get? a=some o->h'.get? a=some o):SetW P w h' a S n:=by
 obtain⟨o,es,ep,t,h1,r⟩:=x;exact⟨o,es,ep,t,k _ h1,r⟩
theorem SetW.of{h:Heap}{S:Int->Bool}{n:Nat}(x:SetW P w h a S n):h.SetOf (intKind P w) a S n:=by
 obtain⟨o,es,ep,t,h1,h2,h3,h4,h5,h6,h7,h8,_⟩:=x;exact⟨o,es,ep,t,h1,h2,h3,h4,h5,h6,h7,h8⟩
theorem Nz {h:Heap} {o:Obj} {es es':Array (Int × Value)} {ep:Nat} {t t':SetTable} {S:Int->Bool} (h1:h.get? a=some o) (h2:o.ExactSet) (h3:o.data=.set es ep t) (h4:ElemsOf (intKind P w) es'.toList)
 (h5:∀k,S k=true ↔ ∃e∈es'.toList,(intKind P w).is k e.2=true) (h6:es'.size < scanBound) (h7:t'.fits es'.size=true) (g:TabG w t') :
 (h.update a (Obj.putSet es' t')).get? a=some { o with data:=.set es' (ep+1) t' } /\ SetW P w (h.update a (Obj.putSet es' t')) a S es'.size :=
 have q:=SetOf_store (knd:=intKind P w) h1 h2 h3 h4 h5 h6 h7
 ⟨q.1,_,es',ep+1,t',q.1,h2,rfl,h4,h5,h6,h7,rfl,g⟩
theorem Su{b:Bool}{Q:Unit->Shared->Prop}{s₁:Shared}(q:Q () s₁):wpAny (model P w) A (match b with | true=>rule "set.scan.the-table-gave-way" | false=>pure ()) Q E s₁:=by
 cases b with
 | true=>exact wpAny_rule q
 | false=>exact ZB q
theorem MG {g:Bool->Sem Unit} (hg:∀(b:Bool) (s₁:Shared) (Q:Unit->Shared->Prop),Q () s₁->wpAny (model P w) A (g b) Q E s₁) {o:Obj} {es es1:Array (Int × Value)} {ep:Nat} {t t2:SetTable} {S:Int->Bool} {wd:Bool} {R:Option Bool->Shared->Prop}
 (h1:s.heap.get? a=some o) (h2:o.ExactSet) (h3:o.data=.set es ep t) (h4:ElemsOf (intKind P w) es1.toList) (h5:∀k,S k=true ↔ ∃e∈es1.toList,(intKind P w).is k e.2=true) (h6:es1.size < scanBound) (h7:t2.fits es1.size=true) (gd:TabG w t2)
 (fin:∀h',Heap.SameBut a s.heap h'->SetW P w h' a S es1.size->R (some true) { s with heap:=h' }) :
 wpAny (model P w) A (do
  storeSet a es1 t2
  if (!wd && t2.tooFull)=true then do
   g (relayAll t2 es1 (SetTable.grown es1.size)).2.2;storeSet a (relayAll t2 es1 (SetTable.grown es1.size)).1 (relayAll t2 es1 (SetTable.grown es1.size)).2.1
   pure (some true)
   else
    pure (some true)) R E s:=by
 obtain⟨k1,k2⟩:=Nz h1 h2 h3 h4 h5 h6 h7 gd;refine ZA (wpAny_storeSet_of h1 h3 ?_ (fits_of_scanBound h6));have sb:=Z4 s.heap a (Obj.putSet es1 t2);split
 ·have pm:=relayAll_perm t2 es1 (SetTable.grown es1.size);have ft:=relayAll_fits t2 es1 (SetTable.grown es1.size);have tg:=VD gd es1 (SetTable.grown es1.size);generalize relayAll t2 es1 (SetTable.grown es1.size)=V at pm ft tg ⊢;obtain⟨e2,t3,gv⟩:=V;dsimp only at pm ft tg ⊢;have z:e2.size=es1.size:=by rw[<- Zg,pm.length_eq,Zg]
  obtain⟨_,k4⟩:=Nz (S:=S) k1 h2 rfl (h4.perm pm) (fun k=>(h5 k).trans ⟨fun⟨e,x,y⟩=>⟨e,pm.mem_iff.mpr x,y⟩,fun⟨e,x,y⟩=>⟨e,pm.mem_iff.mp x,y⟩⟩) (by rw[z];exact h6) ft tg;rw[z]at k4;exact ZA (hg _ _ _ (ZA (wpAny_storeSet_of k1 rfl (ZB (fin _ (sb.trans (Z4 _ a _)) k4)) (fits_of_scanBound (by rw[z];exact h6)))))
 ·exact ZB (fin _ sb k2)
theorem PM {S:Int->Bool} {n:Nat} {k:Int} {x:Value} {Q:Bool->Shared->Prop} (hk:(intKind P w).is k x=true) (hx:x.scannable=true) (hS:SetW P w s.heap a S n) (hn:n+1 < scanBound)
 (fin:∀h',Heap.SameBut a s.heap h'->SetW P w h' a (fun k'=>S k' || decide (k'=k)) (if S k then n else n+1)->Q (!S k) { s with heap:=h' }) :
 wpAny (model P w) A (setAddHashed a x ((intKind P w).hash k)) Q E s:=by
 obtain⟨o,es,ep,t,h1,h2,h3,h4,h5,h6,h7,h8,gd⟩:=hS;unfold setAddHashed setAddHashedIn;refine Zh (ZA (wpAny_setState_of h1 h3 h7 ?_));dsimp only;rw[byScan_of hx h6 h4];simp only[↓reduceIte];unfold setAddByScan;refine ZA (ZA (wpAny_rule (ZA (wpAny_setScan_of hk h1 h3 h7 h4 ?_))));cases hr:List.findIdx? (fun e=>(intKind P w).is k e.2) es.toList with
 | some j =>
  dsimp only;obtain⟨hj,hp,_⟩:=List.findIdx?_eq_some_iff_getElem.mp hr;have sk:S k=true:=(h5 k).mpr ⟨es.toList[j],Zo hj,hp⟩
  have q:=fin s.heap (Heap.SameBut.refl a s.heap) ⟨o,es,ep,t,h1,h2,h3,h4,(fun k'=>by
   rw[Bool.or_eq_true,decide_eq_true_eq,<- h5 k'];exact⟨fun z=>z.elim id (fun e=>e ▸ sk),.inl⟩),h6,h7,(by rw[sk];exact h8),gd⟩
  rw[sk]at q;exact ZB (ZB q)
 | none =>
  dsimp only
  have sk:S k=false:=by
   cases z:S k with
   | false=>rfl
   | true =>
    obtain⟨e,he,hp⟩:=(h5 k).mp z
    have:=List.findIdx?_eq_none_iff.mp hr e he;rw[hp]at this;cases this
  have pm:=layNew_perm t es ((intKind P w).hash k) x;have ft:=layNew_fits t es ((intKind P w).hash k) x;have tg:=Qi gd es ((intKind P w).hash k) x;generalize layNew t es ((intKind P w).hash k) x=V at pm ft tg ⊢;obtain⟨e1,t1,wd,gv⟩:=V;dsimp only at pm ft tg ⊢;rw[Array.toList_push]at pm;have z1:e1.size=n+1:=by rw[<- Zg,pm.length_eq,ZL,Zg,h8];rfl
  have c1:ElemsOf (intKind P w) e1.toList:=(h4.push hk hx).perm pm;have c2:∀k',(S k' || decide (k'=k))=true ↔ ∃e∈e1.toList,(intKind P w).is k' e.2=true:=mem_push_iff hk h5 pm
  have en:∀h',Heap.SameBut a s.heap h'->SetW P w h' a (fun k'=>S k' || decide (k'=k)) e1.size->Q true { s with heap:=h' }:=fun h' sb q=>by
   have r:=fin h' sb;rw[sk]at r;rw[z1]at q;exact r q
  have gw:∀(b:Bool) (s₁:Shared) (Q':Unit->Shared->Prop),Q' () s₁->wpAny (model P w) A (match b with | true=>rule "set.scan.the-table-gave-way" | false=>pure ()) Q' E s₁:=fun b s₁ Q' q=>Su q
  refine ZA (gw _ _ _ ?_);split
  ·refine ZA ?_;rw[hashByValue_scannable 8 hx];refine ZB (MG gw h1 h2 h3 c1 c2 (by rw[z1];exact hn) ?_ ?_ fun h' sb q=>ZB (en h' sb q))
   ·split
    ·exact ft
    ·exact SetTable.fits_plain_off ft
   ·split
    ·exact tg
    ·exact OO tg _
  ·refine ZA (ZB ?_);simp only[↓reduceIte];exact MG gw h1 h2 h3 c1 c2 (by rw[z1];exact hn) ft tg fun h' sb q=>ZB (en h' sb q)
end
section
variable {P:Program}{w:World}{A:Around}{E:Value->Shared->Prop}{s:Shared}{a:Addr}
theorem SetW.congr{h:Heap}{S S':Int->Bool}{n n':Nat}(x:SetW P w h a S n)(e:∀k,S k=S' k)(en:n=n'):SetW P w h a S' n':=by
 obtain rfl:S=S':=funext e;subst en;exact x
def D9(P:Program)(w:World)(h:Heap)(a:Addr)(f:Nat->Int)(i:Nat):Prop:=SetW P w h a (fun k=>(firstMet f i).any (· == k)) (firstMet f i).length
theorem LR {R:Result->Shared->Prop} {I:Addr} {fp wr:List Addr} {G:Array GenState->Array GenState->Prop} {n:Nat} {Pv:Nat->Value->Prop} {St:Nat->Shared->Prop} (W:WalksS P w A.in1 I fp wr G n Pv St) (ha:a∉fp)
 (f:Nat->Int) (hf:∀i v,Pv i v->∃t,v=.int (f i) t) (hb:n+1 < scanBound):∀(k i:Nat) (s:Shared),n - i=k->i<=n->St i s->D9 P w s.heap a f i ->
  (∀s',Moved (a::wr) G s s'->D9 P w s'.heap a f n->R (.ok (.ret .none)) s')->codeAny (model P w) A (.builtin "set.update.loop" ⟨[.ref a,.ref I],[]⟩) R s
 | 0,i,s,hk,hi,st,hS,hR=>by
  obtain rfl:i=n:=by lia
  refine ZBS PyProof.Rows.F.entry_set_update_loop ?_;rw[ZBZ PyProof.Rows.F.plain_set_update_loop _];show wpAny _ A.in1 (pyNext (.ref I) >>= _) _ _ s;refine ZA (W.done s _ _ st fun s' hm=>ZB (hR s' (hm.mono fun b hb=>Za _ hb) (hS.at fun o e=>hm.heap a o (fun z=>ha (W.sub _ z)) e)))
 | k+1,i,s,hk,hi,st,hS,hR=>by
  have hlt:i < n:=by lia
  refine ZBS PyProof.Rows.F.entry_set_update_loop ?_;rw[ZBZ PyProof.Rows.F.plain_set_update_loop _];show wpAny _ A.in1 (pyNext (.ref I) >>= _) _ _ s;refine ZA (W.item i s _ _ hlt st fun v s' hP st' hm=>?_);obtain⟨t,rfl⟩:=hf i v hP;have hS':D9 P w s'.heap a f i:=hS.at fun o e=>hm.heap a o (fun z=>ha (W.sub _ z)) e
  show wpAny _ A.in1 (holding [Value.int (f i) t] (setAdd a (.int (f i) t)) >>= _) _ _ s';refine ZA (Zh ?_);unfold setAdd;refine Zh (ZA ((intKind P w).pyHash (k:=f i) (intKind_is _ _ _ _) ?_));refine PM (s:={ s' with toks:=s'.toks+1 }) (intKind_is _ _ _ _) rfl hS' (by have:=firstMet_length_le f i;lia) fun h' sb q=>?_
  refine ZB ⟨ZBT PyProof.Rows.F.plain_set_update_loop _,LR W ha f hf hb k (i+1) _ (by lia) hlt (W.frame _ s' _ _ st' (ZBf _) fun b hb' o e=>?_)
   (q.congr (fun k'=>by rw[firstMet_succ,step_any]) (by rw[firstMet_succ,step_length])) fun s'' hm2 hS2=>?_⟩
  ·rw[sb.2 b (fun z:b=a=>ha (by rw[<- z];exact hb'))];exact e
  ·refine hR s'' (Moved.trans W.gtrans ((hm.mono fun b hb=>Za _ hb).then_heap (ZBf _) fun b o hb' e=>?_) hm2) hS2;rw[sb.2 b (fun z:b=a=>hb' (by rw[z];exact Zl))];exact e
theorem RM:isSubtype (.type "tuple") (.type "set")=pure false:=by rw[isSubtype_type];kernel_rfl
theorem SC:isSubtype (.type "tuple") (.type "frozenset")=pure false:=by rw[isSubtype_type];kernel_rfl
theorem PB(v:Value){Q:Value->Shared->Prop}(h:Q (.ref s.heap.objs.size) { s with heap:=s.heap.push { cls:=.type "set",dict:=none,data:=.set #[] 0 (.fresh 0 0 (!w.params.followText "set-order")) } }) :
 codeAny (model P w) A (.call (.builtin "set.__new__") ⟨[.type "set",v],[]⟩) (wants Q E) s:=by
 refine codeAny_of_tree ?_;show wpAny _ A.in1 (do checkBuiltinCall "set.__new__" ⟨[.type "set",v],[]⟩;again (.builtin "set.__new__" ⟨[.type "set",v],[]⟩)) _ _ s;refine ZA (wpAny_of_eq (PySem.F.newCall_set_1 v) (ZB ⟨ZBT PySem.F.plain_set_new _,ZBS PySem.F.entry_set_new ?_⟩));rw[ZBZ PySem.F.plain_set_new _];unfold Builtin.«set.__new__» Builtin.Frozenset.newClass;have hsub:=PySem.sub_set_self;obtain⟨hp,g,d,tk,os⟩:=s;dsimp only;wp_walk;refine wpAny_askSetting (ZB ?_);dsimp only;simp only[newObj];exact ZA (wpAny_alloc (ZB (ZB h)))
set_option maxHeartbeats 6400000 in
theorem V2 {l:Addr} {its:Array Value} {ns:List Int} {Q:Value->Shared->Prop} (hh:A.handled=none) (hl:s.heap.IsTuple l its) (hi:IntsAre its.toList ns) (hb:its.size+1 < scanBound)
 (fin:∀(h':Heap) (tk:Nat),D9 P w h' s.heap.objs.size (fun i=>ns.getD i 0) its.size->(∀b o,b < s.heap.objs.size->s.heap.get? b=some o->h'.get? b=some o)->Q (.ref s.heap.objs.size) { s with heap:=h',toks:=tk }) :
 wpAny (model P w) A (call (.type "set") [.ref l]) Q E s:=by
 obtain⟨c,tl,hmro⟩:=PySem.F.called_set.mro;have hmade:=PySem.F.called_set.made;have hsub:=PySem.F.called_set.sub;refine wpAny_call (codeAny_of_tree ?_);show wpAny _ _ (callAny (.type "set") _) _ _ _;refine ZB ⟨Code.quiet_builtin _ (by decide +kernel),ZBS PySem.F.entry_type_call ?_⟩;rw[Around.under_plain (weight_type_call_type "set" [.ref l] []) rfl];have k1:=PySem.F.called_set.notType;have k2:=PySem.F.called_set.canCreate;have k3:=PySem.F.typeCall_set_1 (.ref l)
 (repeat (any_goals (first | assumption | wp_step)));refine ZBJ (PB (.ref l) (E:=E) (Q:=fun v s₁=>v=.ref s.heap.objs.size/\s₁ = { s with heap:=s.heap.push { cls:=.type "set",dict:=none,data:=.set #[] 0 (.fresh 0 0 (!w.params.followText "set-order")) } }) ⟨rfl,rfl⟩) fun r s₁ hr=>?_
 cases r with
 | error e=>exact hr
 | ok fl =>
  cases fl with
  | ret ob =>
   obtain⟨rfl,rfl⟩:=hr;generalize hled:(!w.params.followText "set-order")=led;have hS:(s.heap.push { cls:=.type "set",dict:=none,data:=.set #[] 0 (.fresh 0 0 led) }).get? s.heap.objs.size=some { cls:=.type "set",dict:=none,data:=.set #[] 0 (.fresh 0 0 led) }:=ZN _ rfl;have hT:Shared.TypeIs { s with heap:=s.heap.push { cls:=.type "set",dict:=none,data:=.set #[] 0 (.fresh 0 0 led) } } (.ref s.heap.objs.size) "set":=⟨_,hS,rfl⟩;have k4:=PySem.F.called_set.init.lookup;have k5:=PySem.F.called_set.init.bind (.ref s.heap.objs.size)
   (repeat (any_goals (first | assumption | wp_step)));refine ZBJ (codeAny_call_builtin (R:=wants (fun r s₂=>r=.none/\∃h' tk,s₂ = { s with heap:=h',toks:=tk } /\ D9 P w h' s.heap.objs.size (fun i=>ns.getD i 0) its.size /\
    (∀b o,b < s.heap.objs.size->s.heap.get? b=some o->h'.get? b=some o)) E) PySem.F.called_set.init.plain PySem.F.entry_set_init (check_set_init_1 hT ?_)) fun r₂ s₂ hr₂=>?_
   ·obtain⟨ol,hol,hcl,nl,hdl⟩:=hl;obtain⟨ocls,odict,odata,oslots⟩:=ol;simp only at hcl hdl;subst hcl;subst hdl;have hol':(s.heap.push { cls:=.type "set",dict:=none,data:=.set #[] 0 (.fresh 0 0 led) }).get? l=some { cls:=.type "tuple",dict:=odict,data:=.seq its nl,slots:=oslots }:=ZH _ hol;have s1:=RM;have s2:=SC;have s3:(Value.type "tuple" == Value.type "dict")=false:=by decide
    have hl1:(s.heap.push { cls:=.type "set",dict:=none,data:=.set #[] 0 (.fresh 0 0 led) }).IsTuple l its:=⟨_,hol',rfl,nl,rfl⟩;unfold Builtin.«set.__init__» noKeywords Builtin.Frozenset.updateFrom;generalize hPI:pyIter=PI
    wp_walk
    subst hPI;refine wpAny_pyIter_tuple hl1 (ZA (wpAny_runValue ?_))
    have hlS:l < s.heap.objs.size:=ZG hol;have z1:l≠(s.heap.push { cls:=.type "set",dict:=none,data:=.set #[] 0 (.fresh 0 0 led) }).objs.size:=by
     rw[Z0];exact(ZK (Nat.lt_succ_of_lt hlS))
    have z2:s.heap.objs.size∉[(s.heap.push { cls:=.type "set",dict:=none,data:=.set #[] 0 (.fresh 0 0 led) }).objs.size,l]:=by
     rw[Z0];simp only[ZF,ZJ,ZBa,or_false,not_or];exact⟨ZK (ZBV _),ZBd hlS⟩
    refine LR ((Walks.tuple (A:=A.in1.in1.in1) (by simp[hh]) _ l z1 its).toS) z2 (fun i=>ns.getD i 0) (fun i v hv=>PyProof.Rows.IntsAre.int_at hi i v (by rw[ZB1];exact hv)) hb (its.size - 0) 0 _ (by lia) (ZX _)
     ⟨⟨_,ZN _ rfl,rfl,rfl⟩,(hl1.push _)⟩ ?b0 ?bR
    case b0 =>
     refine⟨_,#[],0,_,ZH _ hS,⟨rfl,rfl,rfl⟩,rfl,fun e he=>by simp at he,fun k=>by simp[firstMet],by decide,by rfl,rfl,?_⟩;rw[<- hled];exact Vu w
    case bR =>
     intro s' hm hS';obtain⟨h',g',d',tk',os'⟩:=s';obtain rfl:g'=s.gens:=hm.gens;obtain rfl:d'=s.drawn:=hm.drawn;obtain rfl:os'=s.os:=hm.os;refine ZB ?_;show wpAny _ _ (ret Value.none) _ _ _;refine ZB ⟨rfl,h',tk',rfl,hS',fun b o hb e=>hm.heap b o ?_ (ZH _ (ZH _ e))⟩;rw[Z0];simp only[ZF,ZJ,ZBa,or_false,not_or];exact⟨ZK hb,ZK (Nat.lt_succ_of_lt hb)⟩
   ·cases r₂ with
    | error e=>exact hr₂
    | ok fl₂ =>
     cases fl₂ with
     | ret r =>
      obtain⟨rfl,h',tk,rfl,hS',hk'⟩:=hr₂;repeat (any_goals (first | assumption | wp_step))
      exact fin _ _ hS' hk'
     | _=>exact hr₂.elim
  | _=>exact hr.elim
end
namespace F
theorem slot_set_iterator_next:Slot "set_iterator" "__next__" "set_iterator.__next__" :=
 .of (owner:="set_iterator") (n:="__next__") (by rw[typeLookup_type,builtinLookup_eq_fast];kernel_rfl) (by decide +kernel) (by decide +kernel) (by decide +kernel) (by first | exact .inl (by decide +kernel) | exact .inr (by decide +kernel)) (by rw[isSubtype_type];kernel_rfl)
theorem slot_set_iterator_iter:Slot "set_iterator" "__iter__" "set_iterator.__iter__" :=
 .of (owner:="set_iterator") (n:="__iter__") (by rw[typeLookup_type,builtinLookup_eq_fast];kernel_rfl) (by decide +kernel) (by decide +kernel) (by decide +kernel) (by first | exact .inl (by decide +kernel) | exact .inr (by decide +kernel)) (by rw[isSubtype_type];kernel_rfl)
theorem entry_set_iterator_next:entryFor table "set_iterator.__next__" = some Builtin.«set_iterator.__next__»:=entryFor_of_tree (by kernel_rfl)
theorem entry_set_iterator_iter:entryFor table "set_iterator.__iter__" = some Builtin.«dict_keyiterator.__iter__»:=entryFor_alias (id':="dict_keyiterator.__iter__") (by kernel_rfl) (by first | rfl | decide +kernel | (unfold String.splitOn;simp +decide [String.splitOnAux])) (by decide +kernel) (by kernel_rfl)
theorem entry_set_iter:entryFor table "set.__iter__" = some Builtin.«frozenset.__iter__»:=entryFor_alias (id':="frozenset.__iter__") (by kernel_rfl) rfl (by decide +kernel) (by kernel_rfl)
theorem args_set_iterator_next(a:Value):argsOk "set_iterator.__next__" ⟨[a],[]⟩:=by unfold argsOk;kernel_rfl
theorem args_set_iterator_iter(a:Value):argsOk "set_iterator.__iter__" ⟨[a],[]⟩:=by unfold argsOk;kernel_rfl
end F
theorem SK{M:Model}{A:Around}{E:Value->Shared->Prop}{s:Shared}{src:Source}{n:Nat}{Q:Nat->Shared->Prop}(hn:n≠0)(h:∀i d,i < n->Q i { s with drawn:=d }):wpAny M A (choose src n) Q E s :=
 fun _ _ _=>⟨hn,h _ _ (Nat.mod_lt _ (Nat.pos_of_ne_zero hn))⟩
theorem Nn{α:Type}{l:List α}{i:Nat}(h:i < l.length):(l[i]::l.eraseIdx i).Perm l:=by
 rw[List.eraseIdx_eq_take_drop_succ];have e:l=l.take i++l[i]::l.drop (i+1):=by rw[<- List.drop_eq_getElem_cons h,ZB9]
 exact List.perm_middle.symm.trans (e ▸ .rfl)
theorem Nm{M:Model}{A:Around}{E:Value->Shared->Prop}{α:Type}:∀(n:Nat) (xs:List α) (s:Shared) (Q:List α->Shared->Prop),xs.length=n->(∀ys d,ys.Perm xs->Q ys { s with drawn:=d })->wpAny M A (drawOrder n xs) Q E s
 | 0,xs,s,Q,hl,h=>by
  obtain rfl:xs=[]:=List.length_eq_zero_iff.mp hl;unfold drawOrder;exact ZB (h [] s.drawn .nil)
 | n+1,[],s,Q,hl,h=>by cases hl
 | n+1,x0::r,s,Q,hl,h=>by
  unfold drawOrder;refine ZA (SK (by simp) fun i d hi=>?_);obtain⟨x,hx⟩:∃x,(x0::r)[i]? = some x:=⟨_,ZE hi⟩;rw[hx];dsimp only;refine ZA (Nm n _ _ _ (by rw[List.length_eraseIdx];simp only[hi,if_true];lia) fun ys d2 hp=>ZB ?_);refine h _ d2 ?_;have e:(x0::r)[i]=x:=by rw[ZE hi]at hx;exact ZV hx
  exact(List.Perm.cons x hp).trans (e ▸ Nn hi)
theorem MC{α:Type}(nx:Nat->Nat):∀(f k:Nat) (l:List α) (out:Array α),l.length=f->(pickOrder.go nx f k l out).toList.Perm (out.toList++l)
 | 0,k,l,out,hl=>by
  obtain rfl:l=[]:=List.length_eq_zero_iff.mp hl;unfold pickOrder.go;rw[Zt]
 | f+1,k,l,out,hl=>by
  unfold pickOrder.go;have hi:nx k % l.length < l.length:=Nat.mod_lt _ (by lia);rw[ZE hi];dsimp only;refine(MC nx f (k+1) _ _ (by rw[List.length_eraseIdx];simp only[hi,if_true];lia)).trans ?_;rw[Array.toList_push,Z2];exact List.Perm.append_left _ (Nn hi)
theorem GY{α:Type}(nx:Nat->Nat)(xs:Array α):(pickOrder nx xs).toList.Perm xs.toList:=by
 have:=MC nx xs.size 0 xs.toList #[] (by simp)
 rw[List.nil_append]at this;exact this
def IsSetIter(h:Heap)(I:Addr)(f:Value)(i:Nat)(a:Addr)(n ep:Nat):Prop:=∃o,h.get? I=some o/\o.cls=.type "set_iterator" /\ o.data=.fields #[f,.int i 0,.ref a,.int n 0,.int ep 0]
theorem IsSetIter.typeIs{s:Shared}{I a:Addr}{f:Value}{i n ep:Nat}(x:IsSetIter s.heap I f i a n ep):s.TypeIs (.ref I) "set_iterator":=let ⟨o,ho,hc,_⟩:=x;⟨o,ho,hc⟩
theorem IsSetIter.at{h h':Heap}{I a:Addr}{f:Value}{i n ep:Nat}(x:IsSetIter h I f i a n ep)(e:∀o,h.get? I=some o->h'.get? I=some o):IsSetIter h' I f i a n ep:=let ⟨o,ho,r⟩:=x;⟨o,e _ ho,r⟩
section
variable {P:Program}{w:World}{A:Around}{E:Value->Shared->Prop}{s:Shared}{a I:Addr}
theorem Fs{h:Heap}{o:Obj}{vs:Array Value}(ho:h.get? I=some o)(hd:o.data=.fields vs)(k:Nat)(x:Value):∃o',(h.update I (Obj.mapFields (·.setIfInBounds k x))).get? I=some o'/\o'.cls=o.cls/\o'.data=.fields (vs.setIfInBounds k x) :=
 ⟨_,ZBP _ ho (Obj.isFreed_of_fields (Obj.data_mapFields hd _)),Obj.cls_mapFields ..,Obj.data_mapFields hd _⟩
theorem Kh {o:Obj} {es:Array (Int × Value)} {ep i slot nx:Nat} {t:SetTable} {x:Value} {Q:Option Value->Shared->Prop} (hit:IsSetIter s.heap I (.int slot 0) i a es.size ep) (h1:s.heap.get? a=some o) (h3:o.data=.set es ep t) (h7:t.fits es.size=true)
 (hn:∀(A:Around) (E:Value->Shared->Prop) (Q:Option (Value × Nat)->Shared->Prop),Q (some (x,nx)) s->wpAny (model P w) A (setNext a slot i ep) Q E s)
 (hQ:∀h',IsSetIter h' I (.int nx 0) (i+1) a es.size ep->Heap.SameBut I s.heap h'->Q (some x) { s with heap:=h' }):wpAny (model P w) A (pyNext (.ref I)) Q E s:=by
 obtain⟨oi,ho,hc,hd⟩:=id hit;unfold pyNext;refine ZA (wpAny_attempt (wpAny_callSpecial?_slot (name:=Str.ofString "__next__") hit.typeIs F.slot_set_iterator_next (Z1 F.slot_set_iterator_next hit.typeIs F.entry_set_iterator_next ?_ (F.args_set_iterator_next _))));show wpAny _ _ (fieldsOf (.ref I) >>= _) _ _ s;refine ZA (wpAny_fieldsOf ho hd ?_);dsimp only;refine ZA (wpAny_setEntries_of h1 h3 h7 ?_);refine Zv (fun hab=>absurd hab (by simp)) (fun _=>?_);refine ZA (hn _ _ _ ?_);dsimp only;obtain⟨o1,ho1,hc1,hd1⟩:=Fs ho hd 0 (rawInt nx);refine ZA (ZBH ho hd (by simp) (ZA (ZBH ho1 hd1 (by simp) (ZB ⟨x,rfl,ZB (hQ _ ?_ ((Z4 ..).trans (Z4 ..)))⟩))));obtain⟨o2,ho2,hc2,hd2⟩:=Fs ho1 hd1 1 (rawInt (i+1));exact⟨o2,ho2,hc2.trans (hc1.trans hc),by rw[hd2];simp[rawInt]⟩
theorem N0 {o:Obj} {es:Array (Int × Value)} {ep i slot:Nat} {t:SetTable} {Q:Option Value->Shared->Prop} (hh:A.handled=none) (hit:IsSetIter s.heap I (.int slot 0) i a es.size ep) (h1:s.heap.get? a=some o) (h3:o.data=.set es ep t) (h7:t.fits es.size=true)
 (hn:∀(A:Around) (E:Value->Shared->Prop) (Q:Option (Value × Nat)->Shared->Prop),Q none s->wpAny (model P w) A (setNext a slot i ep) Q E s)
 (hQ:∀h',Heap.ExtBut I s.heap h'->Q none { s with heap:=h' }):wpAny (model P w) A (pyNext (.ref I)) Q E s:=by
 obtain⟨oi,ho,hc,hd⟩:=id hit;unfold pyNext;refine ZA (wpAny_attempt (wpAny_callSpecial?_slot (name:=Str.ofString "__next__") hit.typeIs F.slot_set_iterator_next (Z1 F.slot_set_iterator_next hit.typeIs F.entry_set_iterator_next ?_ (F.args_set_iterator_next _))));show wpAny _ _ (fieldsOf (.ref I) >>= _) _ _ s;refine ZA (wpAny_fieldsOf ho hd ?_);dsimp only;refine ZA (wpAny_setEntries_of h1 h3 h7 ?_);refine Zv (fun hab=>absurd hab (by simp)) (fun _=>?_);refine ZA (hn _ _ _ ?_);dsimp only;refine ZA (ZBH ho hd (by simp) ?_);show wpAny _ _ (newExc (.type "StopIteration") [] >>= _) _ _ _;refine ZA ?_;simp only[newExc,newTuple];refine ZA (Zr (ZA (m:=firstArgMember _ _) (wpAny_of_eq (a:=Value.none) (by first | rfl | (simp only[firstArgMember];rfl)) (Zr ?_ (by size_fits)))) (by size_fits));simp only[raiseNew];refine ZA (wpAny_handled ?_);first | rw[show A.in1.handled=none from hh] | rw[hh]
 refine ZA (ZB (wpAny_throw ?st));refine ZA (wpAny_isInstance (T:="StopIteration") (b:=true) ⟨_,ZN _ rfl,rfl⟩ isSubtype_stop ?_);exact ZB (hQ _ ((((Z4 ..)).extBut.push _).push _))
theorem Rg {o ot:Obj} {es:Array (Int × Value)} {ep i tp nt:Nat} {t:SetTable} {ps:Array Value} {p:Nat} {x:Int × Value} {Q:Option Value->Shared->Prop} (hit:IsSetIter s.heap I (.ref tp) i a es.size ep) (h1:s.heap.get? a=some o) (h3:o.data=.set es ep t) (h7:t.fits es.size=true)
 (ht:s.heap.get? tp=some ot) (hdt:ot.data=.seq ps nt) (hp:ps[i]? = some (.int p 0)) (hx:es[p]? = some x)
 (hQ:∀h',IsSetIter h' I (.ref tp) (i+1) a es.size ep->Heap.SameBut I s.heap h'->Q (some x.2) { s with heap:=h' }):wpAny (model P w) A (pyNext (.ref I)) Q E s:=by
 obtain⟨oi,ho,hc,hd⟩:=id hit;unfold pyNext;refine ZA (wpAny_attempt (wpAny_callSpecial?_slot (name:=Str.ofString "__next__") hit.typeIs F.slot_set_iterator_next (Z1 F.slot_set_iterator_next hit.typeIs F.entry_set_iterator_next ?_ (F.args_set_iterator_next _))));show wpAny _ _ (fieldsOf (.ref I) >>= _) _ _ s;refine ZA (wpAny_fieldsOf ho hd ?_);dsimp only;refine ZA (wpAny_setEntries_of h1 h3 h7 ?_);refine Zv (fun hab=>absurd hab (by simp)) (fun _=>?_);refine ZA (wpAny_seqItems ht hdt ?_);simp only[Zc,hp];unfold setNextDrawn;refine ZA (ZA (wpAny_setState_of h1 h3 h7 ?_));dsimp only;refine Zv (fun hab=>absurd hab (by simp)) (fun _=>?_);rw[hx];refine ZB (ZA (ZBH ho hd (by simp) (ZB ⟨x.2,rfl,ZB (hQ _ ?_ (Z4 ..))⟩)));obtain⟨o2,ho2,hc2,hd2⟩:=Fs ho hd 1 (rawInt (i+1));exact⟨o2,ho2,hc2.trans hc,by rw[hd2];simp[rawInt]⟩
theorem VH {o ot:Obj} {es:Array (Int × Value)} {ep i tp nt:Nat} {t:SetTable} {ps:Array Value} {Q:Option Value->Shared->Prop} (hh:A.handled=none) (hit:IsSetIter s.heap I (.ref tp) i a es.size ep) (h1:s.heap.get? a=some o) (h3:o.data=.set es ep t) (h7:t.fits es.size=true)
 (ht:s.heap.get? tp=some ot) (hdt:ot.data=.seq ps nt) (hp:ps[i]? = none)
 (hQ:∀h',Heap.ExtBut I s.heap h'->Q none { s with heap:=h' }):wpAny (model P w) A (pyNext (.ref I)) Q E s:=by
 obtain⟨oi,ho,hc,hd⟩:=id hit;unfold pyNext;refine ZA (wpAny_attempt (wpAny_callSpecial?_slot (name:=Str.ofString "__next__") hit.typeIs F.slot_set_iterator_next (Z1 F.slot_set_iterator_next hit.typeIs F.entry_set_iterator_next ?_ (F.args_set_iterator_next _))));show wpAny _ _ (fieldsOf (.ref I) >>= _) _ _ s;refine ZA (wpAny_fieldsOf ho hd ?_);dsimp only;refine ZA (wpAny_setEntries_of h1 h3 h7 ?_);refine Zv (fun hab=>absurd hab (by simp)) (fun _=>?_);refine ZA (wpAny_seqItems ht hdt ?_);simp only[Zc,hp];obtain⟨o1,ho1,hc1,hd1⟩:=Fs ho hd 0 (rawInt 0);refine ZA (ZBH ho hd (by simp) (ZA (ZBH ho1 hd1 (by simp) ?_)));show wpAny _ _ (newExc (.type "StopIteration") [] >>= _) _ _ _;refine ZA ?_;simp only[newExc,newTuple];refine ZA (Zr (ZA (m:=firstArgMember _ _) (wpAny_of_eq (a:=Value.none) (by first | rfl | (simp only[firstArgMember];rfl)) (Zr ?_ (by size_fits)))) (by size_fits));simp only[raiseNew];refine ZA (wpAny_handled ?_);first | rw[show A.in1.handled=none from hh] | rw[hh]
 refine ZA (ZB (wpAny_throw ?st));refine ZA (wpAny_isInstance (T:="StopIteration") (b:=true) ⟨_,ZN _ rfl,rfl⟩ isSubtype_stop ?_);exact ZB (hQ _ ((((Z4 ..).trans (Z4 ..)).extBut.push _).push _))
theorem Gi{f:Value}{i n ep:Nat}{Q:Value->Shared->Prop}(hit:IsSetIter s.heap I f i a n ep)(h:Q (.ref I) s):wpAny (model P w) A (pyIter (.ref I)) Q E s:=by
 refine wpAny_pyIter_slot hit.typeIs F.slot_set_iterator_iter (Z1 F.slot_set_iterator_iter hit.typeIs F.entry_set_iterator_iter ?_ (F.args_set_iterator_iter _));show wpAny _ _ (ret (.ref I)) _ _ s;exact ZB ⟨_,rfl,"set_iterator",_,hit.typeIs,F.slot_set_iterator_next.lookup,h⟩
end
section
variable {P:Program}{w:World}{A:Around}{E:Value->Shared->Prop}{s:Shared}{a I:Addr}
theorem MK{l:List (Int × Value)}(h:ElemsOf (intKind P w) l){e:Int × Value}(he:e∈l):∃t,e.2=.int (numOf e.2) t:=by
 obtain⟨⟨k,hk,_⟩,_⟩:=h e he;obtain⟨t,et⟩:=Value.isInt_shape (show Value.isInt k e.2=true from hk);exact⟨t,by rw[et];rfl⟩
theorem Gp{l:List (Int × Value)}(h:ElemsOf (intKind P w) l)(k:Int):k∈l.map (fun(e:Int × Value)=>numOf e.2) ↔ ∃e∈l,(intKind P w).is k e.2=true:=by
 rw[ZP];constructor
 ·rintro⟨e,he,rfl⟩;obtain⟨t,et⟩:=MK h he;exact⟨e,he,by rw[et];exact intKind_is _ _ _ _⟩
 ·rintro⟨e,he,hk⟩;obtain⟨t,et⟩:=Value.isInt_shape (show Value.isInt k e.2=true from hk);exact⟨e,he,by rw[et];rfl⟩
theorem Eo{Q:Bool->Shared->Prop}(h:Q (w.params.followText "set-order") s):wpAny (model P w) A setsByText Q E s:=by
 unfold setsByText;exact ZA (wpAny_askSetting (ZB h))
theorem Mt {o:Obj} {es:Array (Int × Value)} {ep i:Nat} {t:SetTable} (hx:w.params.followText "set-order" = true) (h1:s.heap.get? a=some o) (h3:o.data=.set es ep t) (h7:t.fits es.size=true) {Q:Option (Value × Nat)->Shared->Prop}
 (h:Q (((pickOrder (w.params.setOrder a ep) es)[i]?).map fun e=>(e.2,0)) s):wpAny (model P w) A (setNext a 0 i ep) Q E s:=by
 unfold setNext;refine ZA (wpAny_setState_of h1 h3 h7 ?_);dsimp only;refine ZA (Eo ?_);rw[hx];simp only[↓reduceIte];refine Zv (fun hab=>absurd hab (by simp)) (fun _=>?_);unfold setWalk;refine ZA (ZA (wpAny_setState_of h1 h3 h7 ?_));dsimp only;refine ZA (Eo ?_);rw[hx];simp only[↓reduceIte];exact ZA (wpAny_askSetting (ZB (ZB h)))
theorem LZ {o:Obj} {es:Array (Int × Value)} {ep i sl:Nat} {t:SetTable} (hx:w.params.followText "set-order" = false) (h1:s.heap.get? a=some o) (h3:o.data=.set es ep t) (h7:t.fits es.size=true) (hl:t.led=true) (hd:(!t.plain && decide (es.size > 1))=false)
 {k:Nat} (hk:SetTable.below t.place sl=k) {Q:Option (Value × Nat)->Shared->Prop}
 (h:Q (match es[k]?,t.place[k]? with | some (_,x),some j=>some (x,j+1) | _,_=>none) s):wpAny (model P w) A (setNext a sl i ep) Q E s:=by
 unfold setNext;refine ZA (wpAny_setState_of h1 h3 h7 ?_);dsimp only;refine ZA (Eo ?_);rw[hx];refine Zv (fun hab=>absurd hab (by simp)) (fun _=>?_);refine Zv (fun hab=>absurd (show(!t.plain && decide (es.size > 1))=true from hab) (by rw[hd];simp)) (fun _=>?_);refine ZA ?_;show wpAny _ _ (if (!t.led && !es.isEmpty)=true then unsupported "set:maker-not-led" else pure ()) _ _ _;refine Zv (fun hab=>absurd hab (by rw[hl];simp)) (fun _=>ZB ?_);subst hk;exact ZB h
def Ei(L:List (Int × Value))(i:Nat)(v:Value):Prop:=∃t,v=.int ((L.map fun(e:Int × Value)=>numOf e.2).getD i 0) t
theorem JR{L:List (Int × Value)}(h:ElemsOf (intKind P w) L){i:Nat}{e:Int × Value}(he:L[i]? = some e):Ei L i e.2:=by
 obtain⟨t,et⟩:=MK h (Z9 he);refine⟨t,?_⟩;rw[ZY,ZR,he];exact et
theorem TR{o:Obj}{es:Array (Int × Value)}{ep:Nat}{t:SetTable}(hh:A.handled=none)(hne:a≠I)(hx:w.params.followText "set-order" = true)(h3:o.data=.set es ep t)(h4:ElemsOf (intKind P w) es.toList)(h7:t.fits es.size=true) :
 Walks P w A I [I,a] [I] es.size (Ei (pickOrder (w.params.setOrder a ep) es).toList) (fun i h=>IsSetIter h I (.int 0 0) i a es.size ep/\h.get? a=some o) where
 sub:=fun b hb=>by simp at hb;simp[hb]
 frame:=fun _ _ _ st hk=>⟨st.1.at fun o e=>hk I (by simp) o e,hk a (by simp) _ st.2⟩
 item:=fun i s Q E hi st hQ=>by
  have pm:=GY (w.params.setOrder a ep) es;have hl:i < (pickOrder (w.params.setOrder a ep) es).size:=by rw[<- Zg,pm.length_eq,Zg];exact hi
  refine Kh (slot:=0) (nx:=0) (x:=(pickOrder (w.params.setOrder a ep) es)[i].2) st.1 st.2 h3 h7 (fun A E Q q=>Mt hx st.2 h3 h7 (by rw[ZBb hl];exact q)) fun h' hit' sb=>?_
  exact hQ _ h' s.toks (JR (h4.perm pm) (by rw[ZB1,ZBb hl])) ⟨hit',(sb.2 a hne).trans st.2⟩ fun b o hb e=>sb.extBut b o (fun h=>hb (by simp[h])) e
 done:=fun s Q E st hQ=>by
  have pm:=GY (w.params.setOrder a ep) es;refine N0 (slot:=0) hh st.1 st.2 h3 h7 (fun A E Q q=>Mt hx st.2 h3 h7 ?_) fun h' he'=>hQ h' s.toks fun b o hb e=>he' b o (fun h=>hb (by simp[h])) e
  rw[Array.getElem?_eq_none (by rw[<- Zg,pm.length_eq,Zg];exact ZD _)];exact q
 self:=fun _ _ _ _ st hQ=>Gi st.1 hQ
def FO(t:SetTable)(i:Nat):Nat:=match i with | 0=>0 | k+1=>t.place.getD k 0+1
theorem Lz{t:SetTable}(g:Ris t.place){i:Nat}(h:i<=t.place.size):SetTable.below t.place (FO t i)=i:=by
 cases i with
 | zero=>exact Ta g
 | succ k=>exact Rq g h
theorem VF{o:Obj}{es:Array (Int × Value)}{ep:Nat}{t:SetTable}(hh:A.handled=none)(hne:a≠I)(hx:w.params.followText "set-order" = false)(hd:(!t.plain && decide (es.size > 1))=false)(h3:o.data=.set es ep t)(h4:ElemsOf (intKind P w) es.toList)(h7:t.fits es.size=true)(g:TabG w t) :
 Walks P w A I [I,a] [I] es.size (Ei es.toList) (fun i h=>IsSetIter h I (.int (FO t i) 0) i a es.size ep/\h.get? a=some o) where
 sub:=fun b hb=>by simp at hb;simp[hb]
 frame:=fun _ _ _ st hk=>⟨st.1.at fun o e=>hk I (by simp) o e,hk a (by simp) _ st.2⟩
 item:=fun i s Q E hi st hQ=>by
  have hz:t.place.size=es.size:=by have:=h7;unfold SetTable.fits at this;simp at this;exact this.1
  have hl:t.led=true:=by rw[g.led,hx];rfl
  refine Kh (nx:=FO t (i+1)) (x:=es[i].2) st.1 st.2 h3 h7 (fun A E Q q=>LZ hx st.2 h3 h7 hl hd (Lz g.ris (by lia)) ?_) fun h' hit' sb=>?_
  ·rw[ZBb hi,ZBb (show i < t.place.size by lia)];have e:FO t (i+1)=t.place[i]+1:=by show t.place.getD i 0+1=_;simp[Array.getD,show i < t.place.size by lia]
   rw[e]at q;exact q
  ·exact hQ _ h' s.toks (JR h4 (by rw[ZB1,ZBb hi])) ⟨hit',(sb.2 a hne).trans st.2⟩ fun b o hb e=>sb.extBut b o (fun h=>hb (by simp[h])) e
 done:=fun s Q E st hQ=>by
  have hz:t.place.size=es.size:=by have:=h7;unfold SetTable.fits at this;simp at this;exact this.1
  have hl:t.led=true:=by rw[g.led,hx];rfl
  refine N0 hh st.1 st.2 h3 h7 (fun A E Q q=>LZ hx st.2 h3 h7 hl hd (Lz g.ris (by lia)) ?_) fun h' he'=>hQ h' s.toks fun b o hb e=>he' b o (fun h=>hb (by simp[h])) e
  rw[Array.getElem?_eq_none (ZD _)];exact q
 self:=fun _ _ _ _ st hQ=>Gi st.1 hQ
theorem NJ{α:Type}(es:Array α):∀(l:List Nat),(∀x∈l,x < es.size)->∀i:Nat,(l.filterMap (es[·]?))[i]? = (l[i]?).bind (es[·]?)
 | [],_,i=>by simp
 | x::r,hx,i=>by
  have hx0:x < es.size:=hx x Zl;rw[ZBk,ZBb hx0];cases i with
  | zero=>simp[hx0]
  | succ j=>simpa using NJ es r (fun y hy=>hx y (Za _ hy)) j
theorem Qs {o ot:Obj} {es:Array (Int × Value)} {ep tp nt:Nat} {t:SetTable} {ps:List Nat} (hh:A.handled=none) (hne:a≠I) (hnt:tp≠I) (h3:o.data=.set es ep t) (h4:ElemsOf (intKind P w) es.toList) (h7:t.fits es.size=true)
 (hdt:ot.data=.seq (ps.map fun(i:Nat)=>rawInt i).toArray nt) (hp:ps.Perm (List.range es.size)) :
 Walks P w A I [I,a,tp] [I] es.size (Ei (ps.filterMap (es[·]?))) (fun i h=>IsSetIter h I (.ref tp) i a es.size ep/\h.get? a=some o/\h.get? tp=some ot) where
 sub:=fun b hb=>by simp at hb;simp[hb]
 frame:=fun _ _ _ st hk=>⟨st.1.at fun o e=>hk I (by simp) o e,hk a (by simp) _ st.2.1,hk tp (by simp) _ st.2.2⟩
 item:=fun i s Q E hi st hQ=>by
  have hl:ps.length=es.size:=by rw[hp.length_eq,Zw]
  have hi':i < ps.length:=by lia
  have hpi:ps[i] < es.size:=Zk.mp (hp.mem_iff.mp (Zo hi'));have pm:(ps.filterMap (es[·]?)).Perm es.toList:=(hp.filterMap _).trans (by rw[filterMap_getElem?_range]);refine Rg (p:=ps[i]) (x:=es[ps[i]]) st.1 st.2.1 h3 h7 st.2.2 hdt (by simp[hi',rawInt]) (ZBb hpi) fun h' hit' sb=>?_
  exact hQ _ h' s.toks (JR (h4.perm pm) (by rw[NJ es ps (fun x hx=>Zk.mp (hp.mem_iff.mp hx)) i,ZE hi'];exact ZBb hpi)) ⟨hit',(sb.2 a hne).trans st.2.1,(sb.2 tp hnt).trans st.2.2⟩ fun b o hb e=>sb.extBut b o (fun h=>hb (by simp[h])) e
 done:=fun s Q E st hQ=>by
  have hl:ps.length=es.size:=by rw[hp.length_eq,Zw]
  exact VH hh st.1 st.2.1 h3 h7 st.2.2 hdt (by simp[hl]) fun h' he'=>hQ h' s.toks fun b o hb e=>he' b o (fun h=>hb (by simp[h])) e
 self:=fun _ _ _ _ st hQ=>Gi st.1 hQ
theorem OV {S:Int->Bool} {n:Nat} {Q:Value->Shared->Prop} (hS:SetW P w s.heap a S n)
 (fin:∀(h':Heap) d (I:Addr) (fp:List Addr) (St:Nat->Heap->Prop) (ms:List Int),ms.length=n->(∀k,k∈ms ↔ S k=true)->(∀b o,s.heap.get? b=some o->h'.get? b=some o)->s.heap.objs.size<=I->(∀b∈fp,b=a\/s.heap.objs.size<=b) ->
   (∀A:Around,A.handled=none->Walks P w A I fp [I] n (fun i v=>∃t,v=.int (ms.getD i 0) t) St)->St 0 h'->Q (.ref I) { s with heap:=h',drawn:=d }):wpAny (model P w) A (pyIter (.ref a)) Q E s:=by
 obtain⟨o,es,ep,t,h1,h2,h3,h4,h5,h6,h7,h8,g⟩:=hS;have hT:s.TypeIs (.ref a) "set":=⟨o,h1,h2.1⟩;have hlt:=ZG h1;subst h8;refine wpAny_pyIter_slot hT PySem.F.slot_set_iter (Z1 PySem.F.slot_set_iter hT F.entry_set_iter ?_ (PySem.F.args_set_iter_1 _));show wpAny _ _ (Builtin.Frozenset.sizeOf a >>= _) _ _ s;refine ZA (ZA (wpAny_setEntries_of h1 h3 h7 (ZB ?_)));show wpAny _ _ (setDrawn a >>= _) _ _ s;unfold setDrawn;refine ZA (ZA (wpAny_setState_of h1 h3 h7 ?_));dsimp only;refine ZA (Eo (ZB ?_));cases hx:w.params.followText "set-order" with
 | true =>
  refine Zv (fun hab=>absurd hab (by simp)) (fun _=>?_);refine ZA (ZB (ZA (wpAny_setEpoch_of h1 h3 h7 ?_)));have pm:=GY (w.params.setOrder a ep) es;refine ZA (Zr (ZB ⟨_,rfl,"set_iterator",_,⟨_,ZN _ rfl,rfl⟩,F.slot_set_iterator_next.lookup,?_⟩))
  refine fin _ s.drawn s.heap.objs.size [s.heap.objs.size,a] _ ((pickOrder (w.params.setOrder a ep) es).toList.map fun(e:Int × Value)=>numOf e.2) (by rw[ZC,pm.length_eq,Zg]) (fun k=>by rw[Gp (h4.perm pm),h5 k];exact⟨fun⟨e,x,y⟩=>⟨e,pm.mem_iff.mp x,y⟩,fun⟨e,x,y⟩=>⟨e,pm.mem_iff.mpr x,y⟩⟩) (fun b o e=>ZH _ e) (ZD _)
   (fun b hb=>by simp at hb;rcases hb with rfl | rfl <;> simp) (fun A hh=>TR hh (ZK hlt) hx h3 h4 h7) ⟨⟨_,ZN _ rfl,rfl,rfl⟩,ZH _ h1⟩
 | false =>
  by_cases hd:(!t.plain && decide (es.size > 1))=true
  ·refine Zv (fun _=>?_) (fun hab=>absurd (show(!false && (!t.plain && decide (es.size > 1)))=true by rw[hd];rfl) hab);refine ZA (Nm es.size (List.range es.size) _ _ (by simp) fun ps d hp=>?_);refine ZA (wpAny_newTuple ?_ (by rw[ZC,hp.length_eq,Zw];exact fits_of_scanBound h6));refine ZA (wpAny_setEpoch_of (ZH _ h1) h3 h7 ?_);have pm:(ps.filterMap (es[·]?)).Perm es.toList:=(hp.filterMap _).trans (by rw[filterMap_getElem?_range]);refine ZA (Zr (ZB ⟨_,rfl,"set_iterator",_,⟨_,ZN _ rfl,rfl⟩,F.slot_set_iterator_next.lookup,?_⟩))
   refine fin _ d (s.heap.push { cls:=.type "tuple",data:=.seq (ps.map fun(i:Nat)=>rawInt i).toArray }).objs.size [(s.heap.push { cls:=.type "tuple",data:=.seq (ps.map fun(i:Nat)=>rawInt i).toArray }).objs.size,a,s.heap.objs.size] _ ((ps.filterMap (es[·]?)).map fun(e:Int × Value)=>numOf e.2) (by rw[ZC,pm.length_eq,Zg])
    (fun k=>by rw[Gp (h4.perm pm),h5 k];exact⟨fun⟨e,x,y⟩=>⟨e,pm.mem_iff.mp x,y⟩,fun⟨e,x,y⟩=>⟨e,pm.mem_iff.mpr x,y⟩⟩) (fun b o e=>ZH _ (ZH _ e)) (by rw[Z0];exact ZBf _)
    (fun b hb=>by rw[Z0]at hb;simp at hb;rcases hb with rfl | rfl | rfl <;> simp) (fun A hh=>Qs hh (by rw[Z0];exact ZK (Nat.lt_succ_of_lt hlt)) (by rw[Z0];exact ZK (ZBV _)) h3 h4 h7 rfl hp)
    ⟨⟨_,ZN _ rfl,rfl,rfl⟩,ZH _ (ZH _ h1),ZH _ (ZN _ rfl)⟩
  ·have hd':(!t.plain && decide (es.size > 1))=false:=by simpa using hd
   refine Zv (fun hab=>absurd (show(!t.plain && decide (es.size > 1))=true from hab) (by rw[hd'];simp)) (fun _=>?_);refine ZA (ZB (ZA (wpAny_setEpoch_of h1 h3 h7 ?_)));refine ZA (Zr (ZB ⟨_,rfl,"set_iterator",_,⟨_,ZN _ rfl,rfl⟩,F.slot_set_iterator_next.lookup,?_⟩))
   refine fin _ s.drawn s.heap.objs.size [s.heap.objs.size,a] _ (es.toList.map fun(e:Int × Value)=>numOf e.2) (by rw[ZC,Zg]) (fun k=>by rw[Gp h4,h5 k]) (fun b o e=>ZH _ e) (ZD _)
    (fun b hb=>by simp at hb;rcases hb with rfl | rfl <;> simp) (fun A hh=>VF hh (ZK hlt) hx hd' h3 h4 h7 g) ⟨⟨_,ZN _ rfl,rfl,rfl⟩,ZH _ h1⟩
end
end L2
namespace L2
open PySem PySem.Spec PyProof.Rows PySem.W PySem.Calls
section
variable {P:Program}{w:World}{A:Around}{E:Value->Shared->Prop}{s:Shared}{a I:Addr}
theorem Uk{Q:Bool->Shared->Prop}(hT:s.TypeIs (.ref a) "set")(h:Q false s):wpAny (model P w) A (Builtin.List.listLengthHint (.ref a)) Q E s:=by
 unfold Builtin.List.listLengthHint;refine ZA (wpAny_specialOf hT PySem.F.slot_set_len.lookup ?_);generalize hid:("set.__len__" : String)=id0
 wp_delta
 rw[show splitId id0=some ("set","__len__") from by subst hid;decide +kernel];subst hid;refine ZA (wpAny_isInstance (T:="set") (b:=true) hT (by rw[isSubtype_type];kernel_rfl) ?_);refine Zv (fun hab=>absurd hab (by decide)) (fun _=>Zv (fun _=>ZA (wpAny_typeOf hT (ZB h))) (fun hab=>absurd (by decide +kernel) hab))
theorem Qn {R:Result->Shared->Prop} {S:Int->Bool} {n:Nat} {l:Addr} {c0:Nat} (hh:A.handled=none) (hS:SetW P w s.heap a S n) (hn:n<=sizeLine) (hl:s.heap.get? l=some { cls:=.type "list",data:=.seq #[] c0 }) (res:Value)
 (fin:∀(h':Heap) d tk (acc:Array Value) (c:Nat) (ms:List Int),ms.length=n->(∀k,k∈ms ↔ S k=true)->(∀b o,b≠l->s.heap.get? b=some o->h'.get? b=some o)->h'.get? l=some { cls:=.type "list",dict:=none,data:=.seq acc c,slots:=#[] } ->
   ItemsOf (fun i v=>∃t,v=.int (ms.getD i 0) t) acc n->R (.ok (.ret res)) { s with heap:=h',drawn:=d,toks:=tk }) :
 wpAny (model P w) A.in1 (Builtin.List.listExtendWith (.ref l) (.ref a) res)
  (fun fin s'=>match fin with | .done f=>R (.ok f) s' | .again c'=>c'.quiet=true/\codeAny (model P w) A c' R s') (fun e s'=>R (.error e) s') s:=by
 have hT:s.TypeIs (.ref a) "set":=hS.of.typeIs
 have hla:l≠a:=fun e=>by
  obtain⟨o,es,ep,t,h1,h2,_⟩:=hS;rw[<- e,hl]at h1;cases h1;exact absurd h2.1 (show ¬(Value.type "list" = Value.type "set") by decide)
 unfold Builtin.List.listExtendWith;refine ZA (wpAny_typeOf (T:="set") hT ?_);have e1:Builtin.List.listSameRef (.ref l) (.ref a)=false:=by simp[Builtin.List.listSameRef,hla]
 have e2:(Value.type "set" == Value.type "list")=false:=by decide
 have e3:(Value.type "set" == Value.type "tuple")=false:=by decide
 simp only[e1,e2,e3,Bool.or_false,ZB6,if_false];refine ZA (OV hS fun h1 d I fp St ms hm1 hm2 hk hI hfp W st=>?_)
 have hlf:l∉fp:=fun z=>by
  rcases hfp l z with q | q
  ·exact hla q
  ·exact absurd (ZG hl) (Nat.not_lt.mpr q)
 have key:∀(h2:Heap) (c1 tk:Nat),St 0 h2->(∀b o,b≠l->s.heap.get? b=some o->h2.get? b=some o)->h2.get? l=some { cls:=.type "list",data:=.seq #[] c1 } ->
  codeAny (model P w) A (.builtin "list.extend.loop" ⟨[.ref l,.ref I,res],[]⟩) R { s with heap:=h2,drawn:=d,toks:=tk }:=fun h2 c1 tk st2 hk2 hl2=>by
  refine codeAny_extend_loopS (W A.in1 hh).toS hn l hlf res n 0 _ #[] c1 rfl (ZX _) st2 hl2 (ItemsOf.nil _) fun s' acc c hm hs' hacc=>?_
  rw[Moved.eq_with hm];refine fin s'.heap d s'.toks acc c ms hm1 hm2 (fun b o hb e=>hm.heap b o (fun z=>?_) (hk2 b o hb e)) hs' hacc
  rcases ZF.mp z with q | q
  ·exact hb q
  ·rw[ZJ]at q;exact absurd (ZG e) (by rw[q];exact Nat.not_lt.mpr hI)
 have hl1:=hk _ _ hl;refine ZA (Zh (Uk (SetW.of (hS.at fun o e=>hk _ _ e)).typeIs ?_));refine Zv (fun _=>?_) (fun _=>ZB ⟨ZBT PySem.F.plain_extend_loop _,key _ c0 _ st (fun b o _ e=>hk b o e) hl1⟩);refine ZA (wpAny_rule (ZA ?_));show wpAny _ _ (updateSeq l (·.push .none) >>= fun _=>updateSeq l (·.pop)) _ _ _;have g1:=ZBP (Obj.mapSeq (·.push Value.none)) hl1 rfl;have g2:=ZBP (Obj.mapSeq (·.pop)) g1 rfl;refine ZA (wpAny_updateSeq hl1 rfl (wpAny_updateSeq (hz:=by seq_fits) g1 rfl (ZB ⟨ZBT PySem.F.plain_extend_loop _,key _ _ _ ?_ (fun b o hb e=>?_) g2⟩)))
 ·refine(W A hh).frame 0 _ _ st fun b hb o e=>?_
  have hbl:b≠l:=fun h=>hlf (h ▸ hb)
  exact(Z5 _ _ (Ne.symm hbl)).trans ((Z5 _ _ (Ne.symm hbl)).trans e)
 ·exact(Z5 _ _ (Ne.symm hb)).trans ((Z5 _ _ (Ne.symm hb)).trans (hk b o e))
theorem Ri {S:Int->Bool} {n:Nat} {R:List Value->Shared->Prop} (hh:A.handled=none) (hS:SetW P w s.heap a S n) (hn:n<=sizeLine)
 (fin:∀(h':Heap) d tk (acc:Array Value) (ms:List Int),ms.length=n->(∀k,k∈ms ↔ S k=true)->(∀b o,s.heap.get? b=some o->h'.get? b=some o)->s.heap.objs.size < h'.objs.size->ItemsOf (fun i v=>∃t,v=.int (ms.getD i 0) t) acc n->R acc.toList { s with heap:=h',drawn:=d,toks:=tk }) :
 wpAny (model P w) A (collect (.ref a)) R E s:=by
 unfold collect;refine ZA (wpAny_runValue (ZBS entry_proto_collect' ?_));rw[ZBZ PySem.F.plain_proto_collect _];show wpAny _ A.in1 (newList [] >>= fun l=>again (.builtin "list.__iadd__" ⟨[l,.ref a],[]⟩)) _ _ s;refine ZA (Zr (ZB ⟨ZBT PySem.F.plain_list_iadd _,ZBS entry_list_iadd' ?_⟩));rw[ZBZ PySem.F.plain_list_iadd _];have g1:(s.heap.push { cls:=.type "list",data:=.seq ([]:List Value).toArray }).get? s.heap.objs.size=some { cls:=.type "list",data:=.seq #[] }:=ZN _ rfl;show wpAny _ A.in1 (Builtin.List.listExtendWith (.ref s.heap.objs.size) (.ref a) (.ref s.heap.objs.size)) _ _ _
 refine ZZ (Qn (A:=A) (s:={ s with heap:=s.heap.push { cls:=.type "list",data:=.seq ([]:List Value).toArray } })
  (R:=fun(q:Result) (s':Shared)=>∃(h':Heap) (d:_) (tk:Nat) (acc:Array Value) (c:Nat) (ms:List Int),q=.ok (.ret (.ref s.heap.objs.size))/\s' = { s with heap:=h',drawn:=d,toks:=tk } /\ ms.length=n/\(∀k,k∈ms ↔ S k=true) /\
    (∀b o,s.heap.get? b=some o->h'.get? b=some o)/\h'.get? s.heap.objs.size=some { cls:=.type "list",dict:=none,data:=.seq acc c,slots:=#[] } /\ ItemsOf (fun i v=>∃t,v=.int (ms.getD i 0) t) acc n)
  hh (hS.at fun o e=>ZH _ e) hn g1 (.ref s.heap.objs.size) fun h' d tk acc c ms m1 m2 hk g2 hacc=>⟨h',d,tk,acc,c,ms,rfl,rfl,m1,m2,fun b o e=>hk b o (ZK (ZG e)) (ZH _ e),g2,hacc⟩) (fun fn s' x=>?_) fun e s' x=>?_
 ·cases fn with
  | done f =>
   obtain⟨h',d,tk,acc,c,ms,e,rfl,m1,m2,hk,g2,hacc⟩:=x;cases e;show wpAny _ A (load s.heap.objs.size >>= _) _ _ _;exact ZA (wpAny_load g2 (ZB (fin h' d tk acc ms m1 m2 hk (ZG g2) hacc)))
  | again c₁ =>
   refine⟨x.1,ZBJ x.2 fun q s₂ y=>?_⟩;obtain⟨h',d,tk,acc,c,ms,rfl,rfl,m1,m2,hk,g2,hacc⟩:=y;show wpAny _ A (load s.heap.objs.size >>= _) _ _ _;exact ZA (wpAny_load g2 (ZB (fin h' d tk acc ms m1 m2 hk (ZG g2) hacc)))
 ·obtain⟨_,_,_,_,_,_,e',_⟩:=x;cases e'
theorem UK{acc:Array Value}{ms:List Int}(h:ItemsOf (fun i v=>∃t,v=.int (ms.getD i 0) t) acc ms.length):IntsAre acc.toList ms:=by
 have e:acc.toList.map numOf=ms:=by
  apply List.ext_getElem
  ·rw[ZC,Zg,h.1]
  ·intro i h1 h2;rw[List.getElem_map];have h3:i < acc.size:=by rw[h.1];exact h2
   obtain⟨t,et⟩:=h.2 i acc[i] (by simp[h3]);rw[Array.getElem_toList,et];show ms.getD i 0=_;rw[ZY,ZE h2];rfl
 have:=intsAre_map acc.toList (fun v hv=>by
  obtain⟨i,hi,ei⟩:=ZBC hv;obtain⟨t,et⟩:=h.2 i v (by rw[<- ZB1,ZE hi,ei]);exact⟨_,t,et⟩)
 rw[e]at this;exact this
theorem SZ {S:Int->Bool} {n:Nat} {Q:Value->Shared->Prop} (hh:A.handled=none) (hS:SetW P w s.heap a S n) (h64:n < 64)
 (fin:∀(h':Heap) d tk (p:Addr) (ms:List Int) (out:Array Value) (e:Nat),ms.length=n->(∀k,k∈ms ↔ S k=true)->ms.Pairwise (· <= ·)->IntsAre out.toList ms->h'.get? p=some (seqObj "list" out e)->s.heap.objs.size<=p->(∀b o,s.heap.get? b=some o->h'.get? b=some o)->Q (.ref p) { s with heap:=h',drawn:=d,toks:=tk }) :
 wpAny (model P w) A (call (.builtin "sorted") [.ref a]) Q E s:=by
 have hz:n<=sizeLine:=Zf (Zs h64) (by decide);refine call_function_entry kind_sorted plain_sorted entry_sorted (args_sorted1 _) ?_;unfold Builtin.«sorted»;refine ZA (m:=checkCount "sorted" 1 1 _) (ZB (ZA (Ri (A:=A.in1) hh hS hz fun h' d tk acc ms m1 m2 hk hlt hacc=>?_)));subst m1;have hI:=UK hacc;have hl:acc.toList.length=ms.length:=by rw[Zg,hacc.1]
 refine ZA (wpAny_newList ?_ (by rw[hl];exact hz));have hoL:(h'.push (seqObj "list" acc.toList.toArray 0)).get? h'.objs.size=some (seqObj "list" acc.toList.toArray 0):=ZN _ rfl;refine ZA (Zh (Z1 slot_list_sort ⟨_,hoL,rfl⟩ entry_list_sort (list_sort_tree hoL hI (by lia) fun out ns' a1 a2 a3=>⟨_,rfl,?_⟩) (args_list_sort _)));obtain⟨e,he⟩:=sortedHeap_at (out:=out) hoL;refine ZB ⟨_,rfl,fin _ d tk h'.objs.size ns' out e (a2.length_eq) (fun k=>by rw[a2.mem_iff];exact m2 k) a3 a1 he (Zs hlt) fun b o q=>?_⟩;have hb:=hk b o q;have hlt2:=ZG hb;rw[sortedHeap_old (ZK hlt2) (by rw[Z0];exact Nat.lt_succ_of_lt hlt2)];exact ZH _ hb
end
end L2
namespace L2
open PySem PySem.Spec PyProof.Rows
def CZ(P:Program)(w:World)(a:Addr)(ds:List Int):Heap->Prop:=fun h=>SetW P w h a (fun k=>ds.any (· == k)) ds.length
theorem QT{P:Program}{w:World}{H:Hp}{h:Heap}{a:Addr}{ds:List Int}(x:CZ P w a ds h):ObjOk P w H h a (.ext (CZ P w a ds)) :=
 ⟨x,(by obtain⟨o,_,_,_,e,_⟩:=x;exact⟨o,e⟩),fun h1 h2 y k=>SetW.at y k⟩
def KD(K:W.Frag)(P:Program)(w:World):List V->Hp->VK->Prop:=fun xs H Q=>match xs with
 | [.ref p]=>∃ns:List Int,SqT K H p (ns.map V.int)/\ns.length<=1000/\∀(ds:List Int) q,ds.Nodup->(∀k,k∈ds ↔ k∈ns)->H q=none->Q (.ref q) (upd H q (.ext (CZ P w q ds)))
 | _=>False
def MN(P:Program)(w:World):List V->Hp->VK->Prop:=fun xs H Q=>match xs with
 | [.ref p]=>∃ds:List Int,H p=some (.ext (CZ P w p ds))/\ds.length < 64/\∀(ms:List Int) q,ms.length=ds.length->(∀k,k∈ms ↔ k∈ds)->ms.Pairwise (· <= ·)->H q=none->Q (.ref q) (upd H q (.lst (ms.map V.int)))
 | _=>False
section
variable {X:Cx}{K:W.Frag}{P:Program}{w:World}
theorem Inv.drew{pins:List (Addr × Obj)}{σ:List (Option V)}{H:Hp}{s:Shared}(I:Inv X pins σ H s)(d:Drawn):Inv X pins σ H { s with drawn:=d }:=⟨I.ok,I.os,I.bare,I.base,I.loc,I.cell,I.free,I.freeC,I.pin,I.hok,I.len⟩
theorem UQ(hh:X.calm=true):CallR X (.type "set") (KD X.K X.prog X.w):=by
 intro pins s σ H xs us Q I r h
 match xs,h with
 | [.ref p],h =>
 obtain⟨ns,hq,hn,q⟩:=h;obtain⟨u,rfl,rx⟩:=Bb r;cases rx;obtain⟨its,rv,pl,hz⟩:=I.tuple hq;have hi:IntsAre its ns:=by simpa using EH rv
 have hlen:its.length=ns.length:=by rw[<- rv.length,ZC]
 refine V2 (ns:=ns) (I.ok.hd hh) pl (by simpa using hi) (by rw[ZI,hlen];show ns.length+1 < 4096;lia) fun h' tk hs hk=>?_
 have hsz:its.toArray.size=ns.length:=by rw[ZI,hlen]
 rw[hsz]at hs;exact⟨.ref s.heap.objs.size,_,I.laid (t':=tk) (o:=.ext (CZ X.prog X.w s.heap.objs.size (firstMet (fun i=>ns.getD i 0) ns.length))) (fun b o e=>hk b o (ZG e) e) (ZD _) (QT hs),rfl,q _ _ (G8 _ _) (Jx ns) (I.hok.fresh (ZD _))⟩
theorem OM(hh:X.calm=true)(hK:X.K=K:=by rfl)(hP:X.prog=P:=by rfl)(hw:X.w=w:=by rfl):CallR X (.type "set") (KD K P w):=by subst hK hP hw;exact UQ hh
theorem Ol(hh:X.calm=true):CallR X (.builtin "sorted") (MN X.prog X.w):=by
 intro pins s σ H xs us Q I r h
 match xs,h with
 | [.ref p],h =>
 obtain⟨ds,hq,hn,q⟩:=h;obtain⟨u,rfl,rx⟩:=Bb r;cases rx;obtain⟨hs,_⟩:=(show ObjOk X.prog X.w H s.heap p (.ext (CZ X.prog X.w p ds)) from I.hok p _ hq);refine SZ (I.ok.hd hh) hs hn fun h' d tk b ms out e m1 m2 m3 hi hb hp hk=>?_
 refine⟨.ref b,_,(I.laid (t':=tk) (o:=.lst (ms.map V.int)) (fun b o e=>hk b o e) hp ?_).drew d,rfl,q ms _ m1 (fun k=>(m2 k).trans (by simp)) m3 (I.hok.fresh hp)⟩;exact⟨by rw[ZC,m1];exact Zf (Zs hn) (by decide),out.toList,e,QG hi,hb⟩
theorem Re(hh:X.calm=true)(hP:X.prog=P:=by rfl)(hw:X.w=w:=by rfl):CallR X (.builtin "sorted") (MN P w):=by subst hP hw;exact Ol hh
def Mw(C:Addr)(ta:TE)(f:Str):TE:=fun σ H Q=>ta σ H fun x H1=>match x with
 | .ref a=>∃dx fs v,H1 a=some (.ins C dx fs)/\fs.lookup f=some v/\Q v H1
 | _=>False
def RJ(C:Addr)(ta tv:TE)(f:Str):TS:=fun D σ H=>tv σ H fun y H1=>ta σ H1 fun x H2=>match x with
 | .ref a=>∃dx fs,H2 a=some (.ins C dx fs)/\fs.length < 1000/\D.nx σ (upd H2 a (.ins C dx (Al f y fs)))
 | _=>False
variable {C:Addr}{f:Str}{e o value:Expr}{ta tv td ty:TE}{pos pos':Pos}
theorem B8(c:Cls K C)(n:NoAttr K C f)(he:PE X e ta)(hK:X.K=K:=by rfl)(hb:attributeBase e f X.env (eval e X.env)=eval e X.env:=by rfl):PE X (.Attribute e f pos) (Mw C ta f):=by
 subst hK;intro pins s σ H Q I h;refine NT hb (thn (he pins s σ H _ I h) fun u s1 ⟨x,H1,I1,rx,q⟩=>?_)
 match x,q with
 | .ref a,⟨dx,fs,v,ea,l,q⟩ =>
 obtain rfl:u=Value.ref a:=rx;exact VE I1 ea c n l fun u' s2 I2 ru=>⟨v,H1,I2,ru,q⟩
theorem FC(c:Cls K C)(n:NoAttr K C f)(ha:PE X o ta)(hv:PE X value tv)(hK:X.K=K:=by rfl)(hs:swapsWith value (some (.Attribute o f pos')) pos.line X.env=pure false:=by rfl):PS X (.Assign [.Attribute o f pos'] value pos) (RJ C ta tv f):=by
 subst hK;intro pins s σ H D I h;refine plainObj_wpAny_Assign_Attribute (thn (hv pins s σ H _ I h) fun u s1 ⟨y,H1,I1,ry,q⟩=>thn (ha pins s1 σ H1 _ I1 q) fun ov s2 ⟨x,H2,I2,rx,q2⟩=>?_) hs
 match x,q2 with
 | .ref a,⟨dx,fs,ea,l,q2⟩ =>
 obtain rfl:ov=Value.ref a:=rx;exact Px I2 ea c n l ry fun s3 I3=>⟨σ,_,I3,q2⟩
theorem QX(h:Ak ta):Ak (Mw C ta f):=fun σ H Q Q' k q=>h _ _ _ _ (fun v H1 q=>by
 cases v <;> first | exact q.elim | (obtain⟨dx,fs,v,a,b,q⟩:=q;exact⟨dx,fs,v,a,b,k _ _ q⟩)) q
theorem SG{m:Str}{sp:Sp}{dvs:List V}{E:XK}{t:TA}(hs:Ai sp)(h1:Ak ta)(h2:CC t):Ak (HL C m sp dvs E ta t):=fun σ H Q Q' h q =>
 h1 _ _ _ _ (fun v H1 ⟨a,dx,fs,e1,e2,e3,q⟩=>⟨a,dx,fs,e1,e2,e3,h2 _ _ _ _ (fun _ _ q=>hs _ _ _ _ _ h q) q⟩) q
def Ge(neg:Bool):R2:=fun y x H Q=>match x with
 | .ref a=>∃o,DGet H a y o/\Q (.bl (xor neg o.isSome)) H
 | _=>False
theorem Hy(hu:X.A.units+60 < cLine):OpR X (compareOp .NotIn) (Ge true):=by
 intro pins s σ H y x v u Q I ry rx q
 match x,q with
 | .ref a,⟨o,g,q⟩ =>
 obtain rfl:u=Value.ref a:=rx;exact TC (DU hu) I g ry fun s3 I3=>⟨.bl (!o.isSome),H,I3,rfl,(by cases o <;> exact q)⟩
theorem Tt{b:Bool}:Bd (Ge b):=fun x y H Q Q' h q=>by
 unfold Ge at *;split at q
 ·obtain⟨o,a,q⟩:=q;exact⟨o,a,h _ _ q⟩
 ·exact q.elim
end
theorem SD:Ak Ku:=fun σ H Q Q' h q p hp=>h _ _ (q p hp)
end L2
namespace L2
open PySem PySem.Spec PyProof.Rows PySem.W
end L2
namespace L2
open PySem PySem.Spec PyProof.Rows PySem.W PySem.Calls
section
variable {P:Program}{w:World}{A:Around}{E:Value->Shared->Prop}{s:Shared}
def PairAt(h:Heap)(v:Value)(k x:Int):Prop:=∃a t u,v=.ref a/\h.get? a=some { cls:=.type "tuple",data:=.seq #[.int k t,.int x u] }
theorem PairAt.keep{h h':Heap}{v:Value}{k x:Int}(p:PairAt h v k x)(e:∀b o,o.cls=.type "tuple" -> h.get? b=some o->h'.get? b=some o):PairAt h' v k x:=by
 obtain⟨a,t,u,rfl,ha⟩:=p;exact⟨a,t,u,rfl,e _ _ rfl ha⟩
end
end L2
namespace L2
open PySem PySem.Spec PyProof.Rows PySem.W
section
variable {P:Program}{w:World}{A:Around}{E:Value->Shared->Prop}{s:Shared}
end
section
variable {X:Cx}
end
section
variable {X:Cx}{k:Nat}{f:Addr}{fd:FuncData}{ps:List Str}{sp:Sp}{x:Str}{p pos:Pos}{e:Expr}{es:List Expr}{t:TA}{tn:TE}
end
section
variable {X:Cx}{pins:List (Addr × Obj)}{σ:St}{H:Hp}{s:Shared}
theorem Inv.pin1(I:Inv X pins σ H s){a:Addr}{o:Obj}(ha:s.heap.get? a=some o)(n:H a=none)(h1:a≠X.env.locals)(h2:a∉X.fs)(h3:∀v,o.data≠.cell v):Inv X ((a,o)::pins) σ H s:=by
 refine⟨I.ok,I.os,I.bare,I.base,I.loc,I.cell,I.free,I.freeC,fun p hp=>?_,I.hok,I.len⟩
 rcases ZW.mp hp with z | z
 ·exact I.pin p (Zz _ z)
 ·rcases ZF.mp z with rfl | z
  ·exact⟨ha,n,h1,h2,h3⟩
  ·exact I.pin p (ZU _ z)
theorem Inv.unpin1{q:Addr × Obj}(I:Inv X (q::pins) σ H s):Inv X pins σ H s:=by
 refine⟨I.ok,I.os,I.bare,I.base,I.loc,I.cell,I.free,I.freeC,fun p hp=>?_,I.hok,I.len⟩
 rcases ZW.mp hp with z | z
 ·exact I.pin p (Zz _ z)
 ·exact I.pin p (ZU _ (Za _ z))
def JN(X:Cx)(H:Hp):Hp:=fun b=>if b∈frs X.stack then some (.tup []) else H b
def Ca(X:Cx)(H:Hp)(s:Shared):Heap:=CF s.heap (JN X H)
theorem Em{b:Addr}{o:Obj}(e:s.heap.get? b=some o)(n:H b=none)(f:b∉frs X.stack):(Ca X H s).get? b=some o:=N5 e (by unfold JN;rw[if_neg f];exact n)
theorem IH{b:Addr}{o:Obj}(e:(Ca X H s).get? b=some o):s.heap.get? b=some o/\H b=none/\b∉frs X.stack:=by
 obtain⟨h1,h2⟩:=KB e;unfold JN at h2
 by_cases f:b∈frs X.stack
 ·rw[if_pos f]at h2;cases h2
 ·rw[if_neg f]at h2;exact⟨h1,h2,f⟩
theorem Ki{h base base':Heap}:∀{l:List Env},h.FunFrames base l->(∀b∈frs l,base'.get? b=none)->h.FunFrames base' l
 | [],_,_=>trivial
 | env::l,⟨a,⟨L,o,e1,_,e3,e4⟩,r⟩,hb=>by
  refine⟨a,⟨L,o,e1,hb L ?_,e3,e4⟩,Ki r fun b hb'=>hb b ?_⟩
  ·rw[frs,ZBk,e1];exact Zl ..
  ·rw[frs,ZBk,e1];exact Za _ hb'
theorem MH(I:Inv X pins σ H s):∀b o,X.base.get? b=some o->(Ca X H s).get? b=some o:=fun b o e =>
 Em (I.bs b o e).1 (I.bs b o e).2 fun z=>by
  have:=(I.stack.mem z).1
  rw[e]at this;cases this
theorem Ro(I:Inv X pins σ H s):Env0 X.prog X.w X.K X.mg (Ca X H s) X.A X.stack s H:=by
 have sub:=MH I;refine⟨I.ok.frames,⟨I.ok.mod.kin.keeps sub,I.ok.mod.glob.keeps sub,let ⟨mb,h1,h2⟩:=I.ok.mod.blt;⟨mb,h1.keeps sub,h2⟩,I.ok.mod.nolimit.keeps sub⟩,fun b o e=>⟨(IH e).1,(IH e).2.1⟩,ZBe (Kz _ _),Ki I.stack fun b hb=>?_,I.stkFree,I.hok,I.bare⟩;cases e:(Ca X H s).get? b with
 | none=>rfl
 | some o=>exact absurd hb (IH e).2.2
end
section
variable {X:Cx}{Pt c f:Addr}{fd:FuncData}{ps:List Str}{k i:Nat}{kn a:Str}{kp pos lpos:Pos}{params:Arguments}{body:Expr}{scope:Scope}{e:Expr}{es:List Expr}{t:TA}{qual:Str}{spK:Addr->Addr->V->Sp}
end
def EU(c':Addr)(qual:Str)(spB:V->Hp->VK->Prop):Sp:=fun vs H Q _=>match vs with
 | [v]=>H c'=some (CdO c' qual)/\spB v H Q
 | _=>False
end L2
namespace L2
open PySem PyProof.Rows
section
variable {X:Cx}{K:W.Frag}{o e:Expr}{to:TE}{t:TA}{apos cpos:Pos}
end
end L2
namespace L2
open PySem PySem.Spec PyProof.Rows PySem.SeqAt
section
variable {X:Cx}{K:W.Frag}
end
end L2
namespace L2
open PySem PySem.Spec PyProof.Rows
section
variable {X:Cx}{K:W.Frag}
end
section
variable {X:Cx}{K:W.Frag}{e:Expr}{te:TE}{p pos kpos cp:Pos}{kd:Nat}{i:Int}
end
end L2
namespace L2
open PySem PyProof.Rows
def D6(K:W.Frag):V->List V->Hp->VK->Prop:=fun x vs H Q=>match x,vs with
 | .ref l,[.ref b]=>∃xs ys,H l=some (.lst xs)/\SqL K H b ys/\b≠l/\xs.length+ys.length<=16000000/\Q .non (upd H l (.lst (xs++ys)))
 | _,_=>False
section
variable {X:Cx}{K:W.Frag}{o e:Expr}{to:TE}{t:TA}{apos cpos:Pos}
theorem SL:MtR X "list.extend" (D6 X.K):=by
 intro pins s σ H x vs v us Q I rx rv q
 match x,vs,q with
 | .ref l,[.ref b],⟨xs,ys,hH,hb,hne,h3,q⟩ =>
 cases rx;obtain⟨u,rfl,ru⟩:=Bb rv;cases ru;obtain⟨z,its,n,r,hl,e⟩:=I.lstM hH;obtain⟨its2,r2,pl2,hz2⟩:=I.list hb;obtain⟨o2,e2,c2,n2,d2⟩:=pl2.isList;have l1:=r.length;have l2:=r2.length;have hlb:l≠b:=Ne.symm hne;refine Z1 F.slot_list_extend ⟨_,e,rfl⟩ F.entry_list_extend ?_ (F.args_list_extend_2 _ _);show wpAny _ _ (Builtin.List.listExtendWith (.ref l) (.ref b) .none) _ _ s;unfold Builtin.List.listExtendWith;refine ZA (wpAny_typeOf (T:="list") ⟨o2,e2,c2⟩ ?_);have h1:Builtin.List.listSameRef (.ref l) (.ref b)=false:=by simp[Builtin.List.listSameRef,hlb]
 have h2:(Value.type "list" == Value.type "list")=true:=by decide
 simp only[h1,h2,Bool.true_or,if_true];refine ZA (listItems_at e2 d2 (ZA (listItems_at e rfl ?_)))
 rw[if_neg (by
  rw[Zb];rintro⟨_,q⟩;unfold Builtin.List.listTooLong at q;simp[sizeLine_eq]at q;lia)]
 refine ZA (listUpdate_at e rfl ?_ (by rw[ZI,sizeLine_eq];lia) (by rw[Array.size_append,ZI,ZI,sizeLine_eq];lia));refine ZB ⟨_,rfl,?_⟩;exact⟨.non,_,I.lset (its':=its++its2) hH e (by simp) (r.append r2) (by rw[ZL,sizeLine_eq];lia),rfl,q⟩
theorem Vc (ho:PE X o to) (ha:PA X [e] t) (hbase:attributeBase o "extend" X.env (eval o X.env)=eval o X.env:=by rfl)
 (hfew:((backTo cpos (starEach [e] X.env)).all (fun x=>!x.1) && (backToKw cpos (keywordEach [] X.env)).all (fun x=>x.1.isSome)
   && decide ([e].length+([]:List Keyword).length+(if ([]:List Keyword).isEmpty then 0 else 1) < 30))=true:=by rfl)
 (hline:(apos.endLine == cpos.line)=true:=by rfl) (hs:starEach [e] X.env=(false,eval e X.env)::starEach [] X.env:=by rfl) (hplain:(backTo cpos (starEach [] X.env)).any (·.1)=false:=by rfl) (hK:X.K=K:=by rfl) :
 PE X (.Call (.Attribute o "extend" apos) [e] [] cpos) (tBM K "list" (D6 K) to t):=hK ▸ Fl PySem.F.plainAttrs_list PySem.F.slot_list_extend PySem.F.type_list_extend SL ho ha hbase hfew hline hs hplain
theorem WN:E1 (D6 K):=fun x xs H Q Q' h q=>by
 unfold D6 at *;split at q
 ·obtain⟨a,b,c,d,n,e,q⟩:=q;exact⟨a,b,c,d,n,e,h _ _ q⟩
 ·exact q.elim
end
theorem Ub {d:Addr} {o:Obj} {kvs:List (Key × V)} {g:TG} {tc:TT} {te:TE} {σc:St} {Q:VK} {H:Hp} (Pv:Nat->List V->Hp->Prop) (h0:Pv 0 [] H) (hl:∀i ys H,i<=kvs.length->Pv i ys H->H d=some (.frz o (.dK kvs))) (hz:∀i ys H,i < kvs.length->Pv i ys H->ys.length < sizeLine)
 (hs:∀i r p ys H,kvs[i]? = some r->Pv i ys H->H p=none->g (.ref p) σc (upd H p (.tup [kV r.1,r.2])) fun σ2 H2=>tc σ2 H2 fun b H3=>if b=true then te σ2 H3 fun y H4=>Pv (i+1) (ys++[y]) H4 else Pv (i+1) ys H3)
 (hd:∀ys H,Pv kvs.length ys H->∀p,H p=none->Q (.ref p) (upd H p (.lst ys))):Co (Itm d o) g tc te σc Q H:=by
 refine⟨fun i m ys H=>m=kvs.length - i/\i<=kvs.length/\Pv i ys H,⟨kvs.length,by simp,ZX _,h0⟩,?_⟩;rintro i m ys H ⟨rfl,hi,p⟩;have q:=hl i ys H hi p
 by_cases hlt:i < kvs.length
 ·refine .inr ⟨⟨kvs,kvs[i],q,by simp[hlt]⟩,hz i ys H hlt p,Pv (i+1),fun ys' H' p'=>⟨kvs.length - (i+1),by lia,rfl,hlt,p'⟩,fun x H' y=>?_⟩;obtain⟨pp,kvs',r,e1,e2,e3,rfl,rfl⟩:=y;rw[q]at e1;cases e1;exact hs i r pp ys H e2 p e3
 ·have e:i=kvs.length:=by lia
  subst e;exact .inl ⟨⟨kvs,q,ZD _⟩,hd ys H p⟩
end L2
namespace L2
open PySem PySem.Spec PyProof.Rows
section
variable {X:Cx}{K:W.Frag}{e:Expr}{te:TE}{lo hi:Option Expr}{tl th:TO}{pos p2:Pos}
end
end L2
namespace L2
open PySem
section
variable {X:Cx}{pins:List (Addr × Obj)}{σ:St}{H:Hp}{s:Shared}{a:Addr}
variable {kvs:List (Key × V)}{i:Expr}{pos pos' apos:Pos}{ty:TE}{x:Str}{P:Program}{w:World}{K:W.Frag}{o:Expr}{td:TE}
end
end L2
namespace L2
open PySem Builtin Builtin.Str
section
variable {X:Cx}{a:Addr}{kvs:List (Key × V)}{o e:Expr}{ty to:TE}{t:TA}{apos cpos:Pos}{P:Program}{w:World}{K:W.Frag}
end
end L2
namespace L2
open PySem PyProof.Rows
section
variable {prog:Program}{w:World}{A:Around}{E:Value->Shared->Prop}{s:Shared}
structure Cmp(prog:Program)(w:World)(A:Around)(E:Value->Shared->Prop)(s:Shared)(kd:SortKind)(El:Keyed->Prop)(κ:Keyed->Int):Prop where
 lt:∀(x y:Keyed) (st:SortSt) (Q:Option Bool->SortSt->Prop),El x->El y->kindOf st=kd->Q (some (decide (κ x < κ y))) st->wpS (model prog w) A E s (lt' x y) Q st
variable {kd:SortKind}{El:Keyed->Prop}{κ:Keyed->Int}
end
section
variable {κ:Keyed->Int}
def Srt(κ:Keyed->Int)(l:List Keyed):Prop:=l.Pairwise fun x y=>κ x<=κ y
structure Mg(κ:Keyed->Int)(la lb o:List Keyed)(i j:Nat):Prop where
 il:i<=la.length
 jl:j<=lb.length
 perm:(o++(la.drop i++lb.drop j)).Perm (la++lb)
 srt:Srt κ o
 le:∀x∈o,∀y∈la.drop i++lb.drop j,κ x<=κ y
variable {la lb o:List Keyed}{i j n:Nat}
theorem FW{a b:List Keyed}(h1:Srt κ a)(h2:Srt κ b)(h:∀x∈a,∀y∈b,κ x<=κ y):Srt κ (a++b):=ZBp.mpr ⟨h1,h2,h⟩
theorem Mg.a(m:Mg κ la lb o i j)(ha:Srt κ la)(hn:i+n<=la.length)(h:∀x∈(la.drop i).take n,∀y∈lb.drop j,κ x<=κ y):Mg κ la lb (o++(la.drop i).take n) (i+n) j:=by
 have hd:la.drop i=(la.drop i).take n++la.drop (i+n):=by
  rw[<- List.drop_drop,ZB9]
 have hs:Srt κ (la.drop i):=ZBq (List.drop_sublist _ _) ha;have hs2:=hs;rw[hd]at hs2;obtain⟨s1,s2,s3⟩:=ZBp.mp hs2;refine⟨hn,m.jl,?_,FW m.srt s1 fun x hx y hy=>m.le x hx y (Zz _ (List.mem_of_mem_take hy)),fun x hx y hy=>?_⟩
 ·have:=m.perm
  rw[hd]at this;rw[Z2];rw[Z2]at this;exact this
 ·rcases ZW.mp hx with hx | hx
  ·refine m.le x hx y ?_
   rcases ZW.mp hy with hy | hy
   ·rw[hd];exact Zz _ (ZU _ hy)
   ·exact ZU _ hy
  ·rcases ZW.mp hy with hy | hy
   ·exact s3 x hx y hy
   ·exact h x hx y hy
theorem Mg.b(m:Mg κ la lb o i j)(hb:Srt κ lb)(hn:j+n<=lb.length)(h:∀x∈(lb.drop j).take n,∀y∈la.drop i,κ x<=κ y):Mg κ la lb (o++(lb.drop j).take n) i (j+n):=by
 have hd:lb.drop j=(lb.drop j).take n++lb.drop (j+n):=by
  rw[<- List.drop_drop,ZB9]
 have hs2:Srt κ (lb.drop j):=ZBq (List.drop_sublist _ _) hb;rw[hd]at hs2;obtain⟨s1,s2,s3⟩:=ZBp.mp hs2;refine⟨m.il,hn,?_,FW m.srt s1 fun x hx y hy=>m.le x hx y (ZU _ (List.mem_of_mem_take hy)),fun x hx y hy=>?_⟩
 ·have h1:=m.perm;rw[hd]at h1;refine List.Perm.trans ?_ h1;rw[Z2];refine List.Perm.append_left _ ?_;rw[<- Z2,<- Z2];exact List.Perm.append_right _ List.perm_append_comm
 ·rcases ZW.mp hx with hx | hx
  ·refine m.le x hx y ?_
   rcases ZW.mp hy with hy | hy
   ·exact Zz _ hy
   ·rw[hd];exact ZU _ (ZU _ hy)
  ·rcases ZW.mp hy with hy | hy
   ·exact h x hx y hy
   ·exact s3 x hx y hy
end
structure Sg(st st':SortSt):Prop where
 k:kindOf st'=kindOf st
 a:arrOf st'=arrOf st
 p:pendingOf st'=pendingOf st
 f:failedOf st'=failedOf st
theorem Sg.trans{a b c:SortSt}(x:Sg a b)(y:Sg b c):Sg a c:=⟨y.k.trans x.k,y.a.trans x.a,y.p.trans x.p,y.f.trans x.f⟩
section
variable {prog:Program}{w:World}{A:Around}{E:Value->Shared->Prop}{s:Shared}{kd:SortKind}{El:Keyed->Prop}{κ:Keyed->Int}
end
section
variable {κ:Keyed->Int}
structure Hg(κ:Keyed->Int)(la lb o:List Keyed)(na nb:Nat):Prop where
 il:na<=la.length
 jl:nb<=lb.length
 perm:(la.take na++lb.take nb++o.reverse).Perm (la++lb)
 srt:Srt κ o.reverse
 le:∀y∈la.take na++lb.take nb,∀x∈o,κ y<=κ x
variable {la lb o:List Keyed}{na nb n:Nat}
theorem MR{l:List Keyed}(h:n<=na):l.take na=l.take n++(l.take na).drop n:=by
 have:=ZB9 n (l.take na)
 rw[List.take_take,Nat.min_eq_left h]at this;exact this.symm
theorem Hg.a(m:Hg κ la lb o na nb)(ha:Srt κ la)(hn:n<=na)(h:∀x∈(la.take na).drop n,∀y∈lb.take nb,κ y<=κ x):Hg κ la lb (o++((la.take na).drop n).reverse) n nb:=by
 have hd:=MR (l:=la) hn;have hs2:Srt κ (la.take na):=ZBq (List.take_sublist _ _) ha;rw[hd]at hs2;obtain⟨s1,s2,s3⟩:=ZBp.mp hs2;have ml:=m.le;have mp:=m.perm;generalize (la.take na).drop n=D at *;rw[hd]at ml mp;refine⟨Zf hn m.il,m.jl,?_,?_,fun y hy x hx=>?_⟩
 ·rw[ZCA,ZCB];refine List.Perm.trans ?_ mp;rw[<- Z2];refine List.Perm.append_right _ ?_;rw[Z2,Z2];exact List.Perm.append_left _ List.perm_append_comm
 ·rw[ZCA,ZCB];exact FW s2 m.srt fun x hx y hy=>ml x (by simp[hx]) y (ZB3.mp hy)
 ·rcases ZW.mp hx with hx | hx
  ·refine ml y ?_ x hx
   rcases ZW.mp hy with hy | hy
   ·simp[hy]
   ·simp[hy]
  ·replace hx:=ZB3.mp hx
   rcases ZW.mp hy with hy | hy
   ·exact s3 y hy x hx
   ·exact h x hx y hy
theorem Hg.b(m:Hg κ la lb o na nb)(hb:Srt κ lb)(hn:n<=nb)(h:∀x∈(lb.take nb).drop n,∀y∈la.take na,κ y<=κ x):Hg κ la lb (o++((lb.take nb).drop n).reverse) na n:=by
 have hd:=MR (l:=lb) hn;have hs2:Srt κ (lb.take nb):=ZBq (List.take_sublist _ _) hb;rw[hd]at hs2;obtain⟨s1,s2,s3⟩:=ZBp.mp hs2;have ml:=m.le;have mp:=m.perm;generalize (lb.take nb).drop n=D at *;rw[hd]at ml mp;refine⟨m.il,Zf hn m.jl,?_,?_,fun y hy x hx=>?_⟩
 ·rw[ZCA,ZCB];simpa [Z2] using mp
 ·rw[ZCA,ZCB];exact FW s2 m.srt fun x hx y hy=>ml x (by simp[hx]) y (ZB3.mp hy)
 ·rcases ZW.mp hx with hx | hx
  ·refine ml y ?_ x hx
   rcases ZW.mp hy with hy | hy
   ·simp[hy]
   ·simp[hy]
  ·replace hx:=ZB3.mp hx
   rcases ZW.mp hy with hy | hy
   ·exact h x hx y hy
   ·exact s3 y hy x hx
end
section
variable {prog:Program}{w:World}{A:Around}{E:Value->Shared->Prop}{s:Shared}{kd:SortKind}{El:Keyed->Prop}{κ:Keyed->Int}
end
section
variable {prog:Program}{w:World}{A:Around}{E:Value->Shared->Prop}{s:Shared}{kd:SortKind}{El:Keyed->Prop}{κ:Keyed->Int}
end
section
variable {prog:Program}{w:World}{A:Around}{E:Value->Shared->Prop}{s:Shared}{kd:SortKind}{El:Keyed->Prop}{κ:Keyed->Int}
def Kf(κ:Keyed->Int)(xs:Array Keyed)(i:Nat):Int:=match xs[i]? with
 | some p=>κ p
 | none=>0
structure Bs(kd:SortKind)(a₀:Array Keyed)(lo:Nat)(pe:Array (Nat × Nat × Nat))(st:SortSt):Prop where
 perm:(arrOf st).Perm a₀
 kind:kindOf st=kd
 failed:failedOf st=none
 pend:pendingOf st=pe
 low:∀i,i < lo->(arrOf st)[i]? = a₀[i]?
variable {a₀:Array Keyed}{lo:Nat}{pe:Array (Nat × Nat × Nat)}
theorem Bs.size{st:SortSt}(h:Bs kd a₀ lo pe st):(arrOf st).size=a₀.size:=h.perm.size_eq
theorem Bs.at{st:SortSt}(h:Bs kd a₀ lo pe st)(h0:∀x∈a₀.toList,El x){i:Nat}(hi:i < a₀.size):∃x,(arrOf st)[i]? = some x/\El x/\Kf κ (arrOf st) i=κ x:=by
 have hi':i < (arrOf st).size:=by rw[h.size];exact hi
 have hm:(arrOf st)[i]∈a₀.toList:=(Array.perm_iff_toList_perm.mp h.perm).mem_iff.mp (by simp);have e:(arrOf st)[i]? = some (arrOf st)[i]:=getElem?_pos _ i hi';exact⟨_,e,h0 _ hm,by unfold Kf;rw[e]⟩
end
section
variable {prog:Program}{w:World}{A:Around}{E:Value->Shared->Prop}{s:Shared}{kd:SortKind}{El:Keyed->Prop}{κ:Keyed->Int}{a₀:Array Keyed}
structure Dn(kd:SortKind)(κ:Keyed->Int)(a₀:Array Keyed)(st:SortSt):Prop where
 perm:(arrOf st).toList.Perm a₀.toList
 kind:kindOf st=kd
 failed:failedOf st=none
 pend:(pendingOf st).size<=1
 srt:Srt κ (arrOf st).toList
structure Tw(kd:SortKind)(κ:Keyed->Int)(a₀:Array Keyed)(n1 n2 pw:Nat)(st:SortSt):Prop where
 perm:(arrOf st).toList.Perm a₀.toList
 kind:kindOf st=kd
 failed:failedOf st=none
 pend:pendingOf st = #[(0,n1,pw),(n1,n2,0)]
 l1:0 < n1
 l2:0 < n2
 len:n1+n2=a₀.size
 s1:Srt κ ((arrOf st).toList.take n1)
 s2:Srt κ ((arrOf st).toList.drop n1)
end
section
variable {prog:Program}{w:World}{A:Around}{E:Value->Shared->Prop}{s:Shared}
end
end L2
namespace L2
open PySem PySem.Spec PyProof.Rows PySem.W
section
variable {P:Program}{w:World}{A:Around}{E:Value->Shared->Prop}{s:Shared}{a:Addr}
end
section
variable {X:Cx}{K:W.Frag}{P:Program}{w:World}
end
end L2
namespace L2
open PySem PySem.Spec PyProof.Rows PySem.W PySem.Calls
section
variable {P:Program}{w:World}{A:Around}{E:Value->Shared->Prop}{s:Shared}
def PairV(h:Heap)(v:Value)(k:Int):Prop:=∃a t y o n,v=.ref a/\h.get? a=some o/\o.cls=.type "tuple" /\ o.data=.seq #[.int k t,y] n
theorem PairV.keep{h h':Heap}{v:Value}{k:Int}(p:PairV h v k)(e:∀b o,o.cls=.type "tuple" -> h.get? b=some o->h'.get? b=some o):PairV h' v k:=by
 obtain⟨a,t,u,o,n,rfl,ha,hc,hd⟩:=p;exact⟨a,t,u,o,n,rfl,e _ _ hc ha,hc,hd⟩
end
end L2
namespace L2
open PySem PySem.Spec PyProof.Rows PySem.W
section
variable {P:Program}{w:World}{A:Around}{E:Value->Shared->Prop}{s:Shared}
end
section
variable {X:Cx}
end
section
variable {X:Cx}
end
section
variable {X:Cx}
end
end L2
namespace L2
open PySem PyProof.Rows
section
variable {prog:Program}{w:World}{A:Around}{E:Value->Shared->Prop}{s:Shared}
end
section
variable {prog:Program}{w:World}{K:Type}[DecidableEq K]{knd:KeyKind prog w K}{A:Around}{R:Result->Shared->Prop}
end
section
variable {prog:Program}{w:World}{K:Type}[DecidableEq K]{knd:KeyKind prog w K}{A:Around}{E:Value->Shared->Prop}{s:Shared}
end
section
variable {X:Cx}
end
end L2
namespace L2
open PySem PySem.Spec PyProof.Rows
section
variable {P:Program}{w:World}{A:Around}{E:Value->Shared->Prop}{s:Shared}{a:Addr}
end
section
variable {X:Cx}{K:W.Frag}{P:Program}{w:World}
end
section
variable {X:Cx}{K:W.Frag}{e sx:Expr}{te ts:TE}{pos p2:Pos}
end
section
variable {X:Cx}
end
end L2
namespace L2
end L2
namespace L2
open PySem PySem.Spec PyProof.Rows
variable {base h:Heap}{x:Addr}{cls:Value}{od:Option Addr}{Q:Unit->Shared->Prop}{t:Option (Addr × Value)}
def ExA(h:Heap)(x:Addr)(cls:Value)(od:Option Addr)(t:Option (Addr × Value)):Prop :=
 ∃oe vs,h.get? x=some oe/\oe.cls=cls/\oe.dict=od/\oe.data=.fields vs/\match t with
  | none=>vs[1]? = some .none
  | some (T,fl)=>vs[1]? = some (.ref T)/\T≠x/\∃oT ts,h.get? T=some oT/\oT.data=.fields ts/\ts[3]? = some fl
def Sl(fs ch:List Addr)(h h':Heap):Prop:=∀b o,h.get? b=some o->b∉ch->(b∉fs->h'.get? b=some o)/\∃sl,h'.get? b=some { o with slots:=sl }
theorem Sl.trans{fs ch:List Addr}{h1 h2:Heap}(a:Sl fs ch h h1)(b:Sl fs ch h1 h2):Sl fs ch h h2:=fun x o e n=>by
 obtain⟨h3,sl,h4⟩:=a x o e n;obtain⟨_,sl2,h6⟩:=b x _ h4 n;exact⟨fun nf=>(b x o (h3 nf) n).1 nf,sl2,h6⟩
section
variable {M:Model}{A:Around}{E:Value->Shared->Prop}{s:Shared}
theorem Vf(h:Heap)(a:Addr)(f:Obj->Obj):(h.update a f).objs.size=h.objs.size:=by
 have:=(Z4 h a f).1
 exact this
theorem NN {env:Env} {outer:List Env} {L:Addr} {head:Value} {oe:Obj} {vs:Array Value} {hadNext:Bool} 
 (hfr:A.frames=some (env::outer)) (hl:s.heap.FunFrames base (env::outer)) (hf:env.frame=some L) (he:s.heap.get? x=some oe) (hc:oe.cls=cls) (ho:oe.dict=od) (hd:oe.data=.fields vs) (hsz:1 < vs.size)
 (k:∀h' T,ExA h' x cls od (some (T,rawInt L))->s.heap.get? T=none->Sl (frs (env::outer)) [x] s.heap h'->Q () { s with heap:=h' }) :
 wpAny M A (do let a <- frameOf env;let pl <- entryPlaceOf L hadNext;let b <- EntryCells.newEntry head a .none (rawInt L) .none pl;setField (.ref x) 1 b) Q E s:=by
 have hxf:x∉frs (env::outer):=fun hm=>by
  obtain⟨_,o,h1,h2⟩:=hl.mem hm;rw[he]at h1;cases h1;exact h2 vs hd
 refine ZA (wpAny_frameOf_fun hfr hl hf fun g1 sg=>ZA (wpAny_entryPlaceOf fun pl hpl=>?_));obtain⟨sz1,sm1,so1⟩:=sg;unfold EntryCells.newEntry newFields;refine ZA (Zr ?_ (hpl.sizeOk5 _ _ _ _ _));have e1:g1.get? x=some oe:=by rw[sm1 x hxf];exact he
 generalize hob:({ cls:=.type "traceback",dict:=none,data:=.fields ([head,.ref L,.none,rawInt L,.none]++(if pl.isEmpty then List.replicate 6 Value.none else pl)).toArray }:Obj)=ob;have e2:=ZH ob e1;refine ZBH e2 hd hsz ?_;have nT:g1.objs.size≠x:=ZBd (ZG e1);have obf:ob.isFreed=false:=by rw[<- hob];rfl
 have eT:=ZN g1 obf;have d3:=Obj.data_mapFields hd (·.setIfInBounds 1 (Value.ref g1.objs.size));refine k _ g1.objs.size ⟨_,_,ZBP _ e2 (Obj.isFreed_of_fields d3),(Obj.cls_mapFields ..).trans hc,?_,d3,by simp[hsz],nT,ob,_,?_,by rw[<- hob],?_⟩ (ZBU (by rw[sz1];exact ZD _)) fun b o hb hn=>?_
 ·obtain⟨c,d,dt,sl⟩:=oe;cases dt <;> first | (cases hd;done) | exact ho
 ·rw[Z5 _ _ (Ne.symm nT)];exact eT
 ·first | (simp;done) | (rcases hpl with rfl | ⟨_,_,_,_,_,_,_,rfl⟩ <;> simp)
 ·have nb:b≠x:=fun z=>hn (by rw[z];exact ZJ.mpr rfl)
  refine⟨fun nf=>?_,?_⟩
  ·rw[Z5 _ _ (Ne.symm nb)];exact ZH _ (by rw[sm1 b nf];exact hb)
  ·obtain⟨sl,e5⟩:=so1 b o hb;exact⟨sl,by rw[Z5 _ _ (Ne.symm nb)];exact ZH _ e5⟩
theorem SW {env:Env} {outer:List Env} {L:Addr} 
 (hfr:A.frames=some (env::outer)) (hl:s.heap.FunFrames base (env::outer)) (hf:env.frame=some L) (he:ExA s.heap x cls od t) (ht:t=none\/∃T,t=some (T,.none))
 (k:∀h' T,ExA h' x cls od (some (T,rawInt L))->s.heap.get? T=none->Sl (frs (env::outer)) (x::(t.map (·.1)).toList) s.heap h'->Q () { s with heap:=h' }):wpAny M A (noteFrame (.ref x) env) Q E s:=by
 obtain⟨oe,vs,e1,e2,e3,e4,e5⟩:=he;unfold noteFrame;simp only[hf]
 rcases ht with rfl | ⟨T0,rfl⟩
 ·refine ZA (ZBA e1 e4 e5 ?_);rw[if_neg (by decide)];exact NN hfr hl hf e1 e2 e3 e4 (ZB0.mp e5).1 k
 ·obtain⟨e5,nT,oT,ts,g1,g2,g3⟩:=e5;refine ZA (ZBA e1 e4 e5 ?_);rw[if_pos (by simp)];refine ZA (ZBA g1 g2 g3 ?_);rw[if_neg (by simp[rawInt])];refine ZA (ZBH g1 g2 (ZB0.mp g3).1 ?_);have ot:∀b,b≠T0->(s.heap.update T0 (Obj.mapFields (·.setIfInBounds 3 Value.none))).get? b=s.heap.get? b:=fun b hb=>Z5 _ _ (Ne.symm hb)
  have nf:∀b o,s.heap.get? b=some o->(∀vs,o.data≠.fields vs)->b≠T0:=fun b o hb h z=>by
   rw[z,g1]at hb;cases hb;exact h ts g2
  refine NN hfr (hl.of_keeps fun b o hb h=>⟨o,by rw[ot b (nf b o hb h)];exact hb,rfl⟩) hf (by rw[ot x (Ne.symm nT)];exact e1) e2 e3 e4 (ZB0.mp e5).1 fun h' T a1 a2 a3=>k h' T a1 ?_ fun b o hb hn=>?_
  ·cases q:s.heap.get? T with
   | none=>rfl
   | some o =>
    by_cases z:T=T0
    ·have hf3:=Obj.data_mapFields g2 (·.setIfInBounds 3 Value.none)
     have:=ZBP (Obj.mapFields (·.setIfInBounds 3 Value.none)) g1 (Obj.isFreed_of_fields hf3)
     rw[z]at a2;rw[this]at a2;cases a2
    ·rw[ot T z,q]at a2;cases a2
  ·have n1:b≠x:=fun z=>hn (by rw[z];exact Zl)
   have n2:b≠T0:=fun z=>hn (by rw[z];exact Za _ (ZJ.mpr rfl))
   exact a3 b o (by rw[ot b n2];exact hb) (fun z=>n1 (ZJ.mp z))
theorem LU {T:Addr} {fl:Value} (he:ExA s.heap x cls od (some (T,fl)))
 (k:∀h',ExA h' x cls od (some (T,.none))->(∀b,b≠T->h'.get? b=s.heap.get? b)->h'.objs.size=s.heap.objs.size->Q () { s with heap:=h' }):wpAny M A (setFlight (.ref x) none) Q E s:=by
 obtain⟨oe,vs,e1,e2,e3,e4,e5,nT,oT,ts,g1,g2,g3⟩:=he;have z3:3 < ts.size:=(ZB0.mp g3).1;unfold setFlight;refine ZA (ZBA e1 e4 e5 ?_);rw[if_pos (by simp)];refine ZBH g1 g2 z3 (k _ ⟨oe,vs,?_,e2,e3,e4,e5,nT,_,_,ZBP _ g1 (Obj.isFreed_of_fields (Obj.data_mapFields g2 _)),Obj.data_mapFields g2 _,by simp[z3]⟩ (fun b hb=>Z5 _ _ (Ne.symm hb)) (Vf ..));rw[Z5 _ _ nT];exact e1
theorem Jw {env:Env} {outer:List Env} {L:Addr} 
 (hfr:A.frames=some (env::outer)) (hl:s.heap.FunFrames base (env::outer)) (hf:env.frame=some L) (he:ExA s.heap x cls od t) (ht:t=none\/∃T,t=some (T,.none))
 (k:∀h' T,ExA h' x cls od (some (T,.none))->s.heap.get? T=none->Sl (frs (env::outer)) (x::(t.map (·.1)).toList) s.heap h'->Q () { s with heap:=h' }) :
 wpAny M A (noteFrame (.ref x) env) (fun _ s1=>wpAny M A (setFlight (.ref x) none) Q E s1) E s :=
 SW hfr hl hf he ht fun h1 T a1 a2 a3=>LU (s:={ s with heap:=h1 }) a1 fun h2 b1 b2 b3=>k h2 T b1 a2 fun b o hb hn=>by
  obtain⟨c1,sl,c2⟩:=a3 b o hb hn;have nT:b≠T:=fun z=>by rw[z,a2]at hb;cases hb
  exact⟨fun nf=>(b2 b nT).trans (c1 nf),sl,(b2 b nT).trans c2⟩
theorem M7 {env:Env} {outer:List Env} {L:Addr} 
 (hfr:A.frames=some (env::outer)) (hl:s.heap.FunFrames base (env::outer)) (hf:env.frame=some L) (he:ExA s.heap x cls od t) (ht:t=none\/∃T,t=some (T,.none))
 (k:∀h' T,ExA h' x cls od (some (T,.none))->s.heap.get? T=none->Sl (frs (env::outer)) (x::(t.map (·.1)).toList) s.heap h'->Q () { s with heap:=h' }):wpAny M A (leaving env (.ref x)) Q E s:=by
 unfold leaving;exact ZA (Jw hfr hl hf he ht k)
end
def CXE(P:Program)(w:World):CXT:=fun outer H s E e s'=>∃x cls od T H',e=.ref x/\s'.os=s.os/\AllBare s'.gens/\Un (frs outer) [] H H' s.heap s'.heap/\HOk P w H' s'.heap/\ExA s'.heap x cls od (some (T,.none))/\(s.heap.get? x=none/\s.heap.get? T=none)/\(H' x=none/\H' T=none)/\E cls od H'
theorem Fun.okE {P:Program} {w:World} {K:W.Frag} {mg:Str->Option Value} {x qual:Str} {st:Stmt} {f:Addr} {fd:FuncData} {N ps:List Str} {k:Nat} {sp:Sp} (F:Fun K x qual st f fd) (S:FnScope N ps (AK st)) (len:∀vs H Q E,sp vs H Q E->vs.length=ps.length)
 (hbody:∀(cdv:Value) (A:Around) (outer:List Env) (s:Shared) (H:Hp) (vs:List V) (Q:VK) (E:XK),Room k (A.deeper (envOfC qual (AK st) s.heap.objs.size f cdv))->sp vs H Q E ->
   ∃t,PSs (By (CXE P w) P w K mg base N qual (AK st) f cdv A outer s H E) (BM st) t/\t { nx:=fun _ H'=>Q .non H',rt:=Q } (CV N vs) H):FnOk P w K mg base (CXE P w) (k+1) f fd ps sp:=by
 obtain⟨oc,od,kV,doc,pm,an,cdv,ct,osl,rfl,lk,hcd⟩:=F.ex;exact Hx lk hcd S len fun A outer s H vs Q E hr hsp=>hbody cdv A outer s H vs Q E hr hsp
section
variable {X:Cx}{pins:List (Addr × Obj)}{σ:St}{H H':Hp}{s:Shared}{h':Heap}
theorem PS.nox{st:Stmt}{t:TS}(h:PS X.nox st t):PS X st t:=fun pins s σ H D I hw =>
 ZZ (h pins s σ H D (I.wish _) hw) (fun _ _ q=>q.unwish) fun _ _ z=>False.elim z
theorem ObjOk.is{P:Program}{w:World}{a:Addr}{o:HO}(x:ObjOk P w H h a o):∃u,h.get? a=some u:=by
 cases o with
 | lst xs=>obtain⟨_,_,_,_,e⟩:=x;exact⟨_,e⟩
 | tup xs=>obtain⟨_,_,_,o,e,_⟩:=x;exact⟨_,e⟩
 | dK kvs=>obtain⟨_,_,_,_,o,_,_,e,_⟩:=x;exact⟨_,e⟩
 | dT kvs=>obtain⟨_,_,_,_,o,_,_,e,_⟩:=x;exact⟨_,e⟩
 | set S n=>obtain⟨o,_,_,_,e,_⟩:=x;exact⟨_,e⟩
 | ins C dx fs=>obtain⟨_,_,_,e,_⟩:=x;exact⟨_,e⟩
 | own y=>exact x
 | xd fs=>obtain⟨_,⟨_,_,_,e,_⟩,_⟩:=x;exact⟨_,e⟩
 | rng lo hi=>obtain⟨_,_,_,e⟩:=x;exact⟨_,e⟩
 | frz ob u=>obtain⟨e,_⟩:=x;exact⟨_,e⟩
 | tbl ps=>exact⟨_,x⟩
 | met f y=>exact⟨_,x⟩
 | ext φ=>obtain⟨_,e,_⟩:=x;exact e
theorem EK{P:Program}{w:World}{a:Addr}(hok:HOk P w H h)(n:h.get? a=none):H a=none:=by
 cases e:H a with
 | none=>rfl
 | some o =>
  obtain⟨u,q⟩:=(hok a o e).is;rw[n]at q;cases q
end
abbrev Iv:List Value:=[.type "ValueError",.type "Exception",.type "BaseException",.type "object"]
section
variable {X:Cx}{C:Addr}{c:Str}{np cpos pos:Pos}{e:Expr}{es:List Expr}{ta:TA}{W:Hp->Prop}
end
def IU(x:Addr)(cls:Value)(od:Option Addr)(h:Heap):Prop:=∃oe vs,h.get? x=some oe/\oe.cls=cls/\oe.dict=od/\oe.data=.fields vs
abbrev CA(x:Addr)(cls:Value)(od:Option Addr):HO:=.ext (IU x cls od)
theorem Op{P:Program}{w:World}{H:Hp}(e:IU x cls od h):ObjOk P w H h x (CA x cls od) :=
 ⟨e,let ⟨oe,_,q,_⟩:=e;⟨oe,q⟩,fun _ _ ⟨oe,vs,q,r⟩ k=>⟨oe,vs,k oe q,r⟩⟩
theorem ExA.has(e:ExA h x cls od t):IU x cls od h:=let ⟨oe,vs,a,b,c,d,_⟩:=e;⟨oe,vs,a,b,c,d⟩
def Cx.hand(X:Cx)(e:Value):Cx:={ X with A:=X.A.mark (some e),calm:=false,xe:=fun _ _=>False }
section
variable {X:Cx}{pins:List (Addr × Obj)}{σ:St}{H H':Hp}{s s1:Shared}{h:Heap}
theorem Inv.hand(I:Inv X pins σ H s)(e:Value):Inv (X.hand e) pins σ H s :=
 ⟨⟨I.ok.mod,I.ok.kind,I.ok.glob,I.ok.blt,I.ok.above,I.ok.inj,I.ok.has,I.ok.cab,(fun z=>by cases z),I.ok.frames,I.ok.stk,I.ok.exf,I.ok.bs,I.ok.bsz,I.ok.noex,I.ok.exfs,I.ok.funs,I.ok.frf⟩,I.os,I.bare,I.base,I.loc,I.cell,I.free,I.freeC,I.pin,I.hok,I.len⟩
theorem Inv.unhand{e:Value}(J:Inv X pins σ H s){pins':List (Addr × Obj)}{σ':St}{H1:Hp}{s2:Shared}(I:Inv (X.hand e) pins' σ' H1 s2):Inv X pins' σ' H1 s2 :=
 ⟨J.ok,I.os,I.bare,I.base,I.loc,I.cell,I.free,I.freeC,I.pin,I.hok,I.len⟩
theorem Mr {T:Addr} (I:Inv X pins σ H s) (ho:s1.os=s.os) (hb:AllBare s1.gens) (u:Un (frs X.stack) [] H H' s.heap s1.heap) (hk:HOk X.prog X.w H' s1.heap)
 (nx:s.heap.get? x=none) (nT:s.heap.get? T=none) (fx:H' x=none) (fT:H' T=none) (c:Sl (frs X.stack) [x,T] s1.heap h) (ex:ExA h x cls od t):Inv X pins σ (upd H' x (CA x cls od)) { s1 with heap:=h }:=by
 have I1:Inv X pins σ H' s1:=I.call' ho u hk hb (ch:=[]) fun b z=>absurd z (by simp)
 have hxH:H x=none:=EK I.hok nx;have up:∀b,b≠x->upd H' x (CA x cls od) b=H' b:=fun b n=>AI n
 have nin:∀b o,s.heap.get? b=some o->b∉[x,T]:=fun b o e z=>by
  rcases ZF.mp z with rfl | z
  ·rw[nx]at e;cases e
  ·rw[ZJ.mp z,nT]at e;cases e
 refine I.call' (s':={ s1 with heap:=h }) (ch:=[]) ho ⟨fun b o e n nb hx=>?_,fun b o e n nb hx=>?_,fun b o e n hx=>?_,fun b o e hx=>?_,fun b xs e=>?_,fun b o v e=>?_,fun b ps e=>?_⟩ (fun b ob e=>?_) hb fun b z=>absurd z (by simp)
 ·exact(c b o (u.keep b o e n nb hx) (nin b o e)).1 nb
 ·obtain⟨sl,e1⟩:=u.slot b o e n nb hx;obtain⟨sl2,e2⟩:=(c b _ e1 (nin b o e)).2;exact⟨sl2,e2⟩
 ·rw[up b fun z=>by rw[z,nx]at e;cases e];exact u.free b o e n hx
 ·obtain⟨o1,e1⟩:=u.there b o e hx;obtain⟨sl2,e2⟩:=(c b _ e1 (nin b o e)).2;exact⟨_,e2⟩
 ·rw[up b fun z=>by rw[z,hxH]at e;cases e];exact u.tups b xs e
 ·rw[up b fun z=>by rw[z,hxH]at e;cases e];exact u.frzs b o v e
 ·rw[up b fun z=>by rw[z,hxH]at e;cases e];exact u.tbls b ps e
 ·by_cases z:b=x
  ·subst z;rw[AD]at e;cases e;exact Op ex.has
  ·rw[up b z]at e;have neq:∀c2 o2,H' c2=some o2->c2≠x:=fun c2 o2 q z=>by rw[z,fx]at q;cases q
   refine(hk b ob e).stay (fun c2 v hc q=>?_) (fun c2 q=>by rw[up c2 (neq _ _ q)];exact q) fun c2 xs q=>by rw[up c2 (neq _ _ q)];exact q
   obtain⟨o2,q2⟩:∃o2,H' c2=some o2:=by
    rcases hc with rfl | hc
    ·exact⟨_,e⟩
    ·exact⟨_,hc⟩
   refine(c c2 v q fun m=>?_).1 fun m=>?_
   ·rcases ZF.mp m with z2 | z2
    ·exact neq _ _ q2 z2
    ·rw[ZJ.mp z2,fT]at q2;cases q2
   ·rw[I1.stkFree c2 m]at q2;cases q2
theorem Ft {M:Model} {A:Around} {E:Value->Shared->Prop} {i:Nat} {x:Str} {pos:Pos} (I:Inv X pins σ H s) (hN:X.N.Nodup) (hi:X.N[i]? = some x) (hk:X.env.kindOf x=some .local)
 (h:∀s',Inv X pins (σ.set i none) H s'->Q () s'):wpAny M A (do bindName X.env x .none;unbindBehindTheSuite X.env x pos) Q E s:=by
 obtain⟨m,hn,hl⟩:=id I.loc;have hcls:(X.env.scope.kind == .class || (X.env.scope.kind == .module && X.env.locals != X.env.globals))=false:=by rw[I.ok.kind];rfl
 have hiσ:i < σ.length:=by rw[I.len];exact(Zm.mp hi).1
 have cne:=I.cne;refine wpAny_nameGoes_keeps hk hn hcls fun h' v hn' hs=>?_
 obtain⟨oL,_,_,hoL,_⟩:=id hn;refine h _ ⟨I.ok,I.os,I.bare,⟨fun b o e n hb hx=>?_,fun b o e n hb hx=>?_,I.base.free,fun b o e hx=>?_,I.base.tups,I.base.frzs,I.base.tbls⟩,⟨_,hn',fun j y v' e1 e2 e3=>?_⟩,fun y c e=>?_,I.free,I.freeC,fun p hp=>?_,fun b ob e=>?_,by simpa using I.len⟩
 ·exact(hs.2 b (ZK (ZT (ZG e) I.ok.above))).trans (I.base.keep b o e n hb hx)
 ·obtain⟨sl,e1⟩:=I.base.slot b o e n hb hx;exact⟨sl,(hs.2 b (ZK (ZT (ZG e) I.ok.above))).trans e1⟩
 ·obtain⟨o',e1⟩:=I.base.there b o e hx;exact⟨o',(hs.2 b (ZK (ZT (ZG e) I.ok.above))).trans e1⟩
 ·by_cases hj:j=i
  ·subst hj;rw[List.getElem?_set_self hiσ]at e2;cases e2
  ·rw[ZB4 (Ne.symm hj)]at e2;obtain⟨u',r',q⟩:=hl j y v' e1 e2 e3;refine⟨u',r',?_⟩
   rcases q with ⟨k,e⟩ | ⟨k,c,e,z⟩
   ·refine .inl ⟨k,?_⟩
    have:y≠x:=fun e=>hj (Hf hN e1 (e ▸ hi))
    simp[this,e]
   ·exact .inr ⟨k,c,e,z.sameBut hs (cne y c e)⟩
 ·obtain⟨w',z⟩:=I.cell y c e;exact⟨w',z.sameBut hs (cne y c e)⟩
 ·obtain⟨e,n,ne,nf,d⟩:=I.pin p hp;exact⟨(hs.2 p.1 ne).trans e,n,ne,nf,d⟩
 ·refine(I.hok b ob e).stay (fun c w' hc q=>(hs.2 c ?_).trans q) (fun _ q=>q) fun _ _ q=>q
  rintro rfl
  rcases hc with rfl | hc
  ·rw[I.free]at e;cases e
  ·rw[I.free]at hc;cases hc
end
abbrev TX:=St->Hp->VK->XK->Prop
def PX(X:Cx)(e:Expr)(t:TX):Prop :=
 ∀(pins:List (Addr × Obj)) (s:Shared) (σ:St) (H:Hp) (Q:VK) (E:XK),Inv X pins σ H s->t σ H Q E->wpAny (model X.prog X.w) X.A (eval e X.env) (EP X pins σ Q) (fun ev s'=>∃H1 s1,Inv X pins σ H1 s1/\CXE X.prog X.w X.stack H1 s1 E ev s') s
def Qe(sp:Sp)(dvs:List V)(t:TA):TX:=fun σ H Q E=>t σ H fun vs H1=>sp (vs++dvs) H1 Q E
def Ends.off(D:Ends)(j:Nat):Ends:={ nx:=fun σ H=>D.nx (σ.set j none) H,rt:=D.rt,bk:=fun σ H=>D.bk (σ.set j none) H,ct:=fun σ H=>D.ct (σ.set j none) H }
def OJ(K:W.Frag)(C:Addr)(i j:Nat)(tx:TX)(ts:TS):TS:=fun D σ H =>
 tx σ H (fun v H1=>D.nx (σ.set i (some v)) H1) fun cls od H1=>PySem.W.exmOne K cls (.ref C)=some true/\∀x,H1 x=none->ts (D.off j) (σ.set j (some (.ref x))) (upd H1 x (CA x cls od))
section
variable {X:Cx}{k:Nat}{f C:Addr}{fd:FuncData}{ps:List Str}{sp:Sp}{dvs:List V}{ds:List Value}{x c y n:Str}{p p1 p2 p3 pos:Pos}{e:Expr}{es:List Expr}{t:TA}{tx:TX}{ts:TS}{i j:Nat}{b:Stmt}{bs:List Stmt}
theorem Py (F:FnOk X.prog X.w X.K X.mg X.base (CXE X.prog X.w) k f fd ps sp) (hr:Room k X.A) (hg:Gl X x) (hm:X.mg x=some (.ref f)) (hk:PySem.W.keepIn X.K (.ref f)=true) (hb:Binds X.K fd ps ds) (hd:Vals dvs ds)
 (ha:PA X.nox (e::es) t) (hdb:(x == ("__debug__" : Str))=false:=by decide) (he:starEach (e::es) X.env=(false,eval e X.env)::starEach es X.env:=by rfl) (hpl:(backTo pos (starEach es X.env)).any (·.1)=false:=by rfl) :
 PX X (.Call (.Name x p) (e::es) [] pos) (Qe sp dvs t):=by
 intro pins s σ H Q E I h;refine wpAny_Call_Name_kw (Dj I hg hm ?_ hdb);refine PySem.W.callWith_K (h₀:=X.base) I.ok.mod.kin hk (ZZ (ha pos pins s σ H _ (I.wish _) h) (fun us s1 ⟨vs,H1,I1,r,q⟩=>⟨I1.kIn,?_⟩) fun _ _ z=>False.elim z) he hpl;have I1:=I1.unwish;have r2:Vals (vs++dvs) (us++ds):=r.append hd;have hl:(us++ds).length=ps.length:=by rw[<- r2.length];exact F.len _ _ _ _ q
 refine wpAny_call (ZBJ (F.run X.A X.stack s1 H1 ⟨us,[]⟩ (us++ds) (vs++dvs) Q E hr I1.env0 (hb s1 us I1.kIn hl) r2 q) fun r s' hq=>?_);cases r with
 | error ev=>exact⟨H1,s1,I1,hq⟩
 | ok fl =>
  cases fl with
  | ret u=>exact I1.after hq
  | next=>exact False.elim hq
  | brk=>exact False.elim hq
  | cont=>exact False.elim hq
theorem U9 (hN:X.N.Nodup) (hi:X.N[i]? = some x) (hx:Loc X.env.scope x) (hj:X.N[j]? = some n) (hn:X.env.kindOf n=some .local) (hstk:X.stack=X.env::X.outer) (hfr:X.env.frame=some X.env.locals) (hg:Gl X c) (hm:X.mg c=some (.ref C))
 (he:PX X e tx) (hs:∀a,PSs (X.hand (.ref a)) (b::bs) ts) (hsw:swapsWith e (some (.Name x p1)) p2.line X.env=pure false:=by rfl) (hf:X.fn x=true\/X.env.scope.names.lookup x=some .local:=by first | exact .inl rfl | exact .inr rfl | assumption)
 (hdb:(c == ("__debug__" : Str))=false:=by decide):PS X (.Try [.Assign [.Name x p1] e p2] [.ExceptHandler (some (.Name c p3)) (some n) (b::bs) p] [] [] pos) (OJ X.K C i j tx ts):=by
 intro pins s σ H D I h;refine wpAny_Try_except (wpAny_execs_cons (wpAny_Assign_Name (ZZ (he pins s σ H _ _ I h) (fun v s1 ⟨y,H1,I1,r1,q1⟩=>?_) fun ev s' ⟨H1,s1,I1,q⟩=>?_) hsw))
 ·exact Ez I1 hN hi hx r1 (fun s2 I2=>wpAny_execs_nil (wpAny_execs_nil ⟨_,H1,I2,q1⟩)) hf
 obtain⟨a,cls,od,T,H2,rfl,ho,hb,u,hk,ex,⟨n1,n2⟩,⟨f1,f2⟩,hex,ht⟩:=q;have J:Inv X pins σ H2 s':=I1.call' ho u hk hb (ch:=[]) fun b z=>absurd z (by simp)
 refine Jw (base:=X.base) (outer:=X.outer) (L:=X.env.locals) (by rw[J.ok.frames,hstk]) (by have:=J.stack;rwa [hstk]at this) hfr ex (.inr ⟨T,rfl⟩) fun h2 T2 a1 a2 a3=>?_
 rw[<- hstk]at a3;have I2:=Mr (h:=h2) I1 ho hb u hk n1 n2 f1 f2 a3 a1;refine wpAny_handleBy_cons (codeAny_handlers_test (Dj (I2.hand (.ref a)) hg hm ?_ hdb)) (by intro q;cases q);have hob:=a1;obtain⟨oe,vs,o1,o2,_⟩:=hob;subst o2;have LT:PySem.W.Looks (model X.prog X.w) h2 (typeOf (.ref a)) oe.cls:=(PySem.W.Looks.ld o1).andThen .now;refine(PySem.W.exm_one I2.kIn LT hex).here ?_;refine codeAny_handlers_suite_as (LU (s:={ s' with heap:=h2 }) a1 fun h3 b1 b2 b3=>?_)
 have I3:=Mr (h:=h3) I1 ho hb u hk n1 n2 f1 f2 (fun b o eb nb=>by
  have nT2:b≠T2:=fun z=>by rw[z,a2]at eb;cases eb
  obtain⟨c1,sl,c2⟩:=a3 b o eb nb;exact⟨fun nf=>(b2 b nT2).trans (c1 nf),sl,(b2 b nT2).trans c2⟩) b1
 refine Ez (X:=X.hand (.ref a)) (I3.hand (.ref a)) hN hj (.inl hn) (v:=.ref a) rfl (fun s4 I4=>?_) (.inr hn);refine ZZ (hs a pins s4 _ _ _ I4 (ht a f1)) (fun fl s5 q=>?_) fun _ _ z=>False.elim z
 cases fl with
 | next=>obtain⟨σ5,H5,I5,q⟩:=q;exact Ft (J.unhand I5) hN hj hn fun s6 I6=>⟨_,_,I6,q⟩
 | brk=>obtain⟨σ5,H5,I5,q⟩:=q;exact Ft (J.unhand I5) hN hj hn fun s6 I6=>⟨_,_,I6,q⟩
 | cont=>obtain⟨σ5,H5,I5,q⟩:=q;exact Ft (J.unhand I5) hN hj hn fun s6 I6=>⟨_,_,I6,q⟩
 | ret w=>obtain⟨v5,σ5,H5,I5,r5,q⟩:=q;exact Ft (J.unhand I5) hN hj hn fun s6 I6=>⟨v5,_,_,I6,r5,q⟩
end
structure ExcC(K:W.Frag)(C:Addr):Prop where
 ga:PySem.W.findIn K (.ref C) "__getattribute__" = some (some (.builtin "BaseException.__getattribute__"))
 nga:PySem.W.findIn K (.ref C) "__getattr__" = some none
 mro:PySem.W.mroIn K C (.type "BaseException")=some true
 obj:PySem.W.mroIn K C (.type "object")=some true
 cl:PySem.W.findIn K (.ref C) "__class__" = some (some (.builtin "object.__class__"))
 ge:PySem.W.specialIn K (.builtin "object.__class__") "__get__" = some (some (.builtin "getset_descriptor.__get__"))
 tk:PySem.W.takesIn K (.builtin "object.__class__")=some true
section
variable {prog:Program}{w:World}{A:Around}{E:Value->Shared->Prop}{h:Heap}{g:Array GenState}{d:Drawn}{t:Nat}{os:OsState}{K:W.Frag}{x C:Addr}{ox:Obj}{od:Option Obj}{name:Str}
theorem Oo{M:Model}{nameV:Value}(X:K.In h)(I:PySem.W.InstAt h x ox C od)(Z:ExcC K C)(hq:Q () ⟨h,g,d,t,os⟩):wpAny M A (checkBuiltinCall "BaseException.__getattribute__" ⟨[.ref x,nameV],[]⟩) Q E ⟨h,g,d,t,os⟩:=by
 have hk:builtinKind "BaseException.__getattribute__" = some .slot:=by decide +kernel
 have hsplit:splitId "BaseException.__getattribute__" = some ("BaseException","__getattribute__"):=by decide +kernel
 have ha:=F.args_bexc_ga (.ref x) nameV;have L:PySem.W.Looks M h (isInstance (.ref x) (.type "BaseException")) true:=(I.type (M:=M)).andThen (PySem.W.looks_mroIn X Z.mro);simp only[checkBuiltinCall,hk,hsplit];refine ZA (L.at ?_)
 repeat (first | assumption | wp_step)
theorem LA {tk:Tok} {fill expr:Bool} {Q:Value->Shared->Prop} (X:K.In h) (I:PySem.W.InstAt h x ox C od) (Z:ExcC K C)
 (hq:∀A':Around,wpAny (model prog w) A' (Builtin.«object.__getattribute__» ⟨[.ref x,.str name tk],[]⟩) (fun fin s'=>∃v,fin=.done (.ret v)/\PySem.W.handedIn v=true/\Q v s') (fun _ _=>False) ⟨h,g,d,t,os⟩) :
 wpAny (model prog w) A (getAttrBy (.ref x) (.str name tk) fill expr) Q E ⟨h,g,d,t,os⟩:=by
 have hx:=I.at_;have hc:=I.cls;have f3:=F.excAttr_ValueError.ga.bind (.ref x);have hx0:(expr && onTheHeap (Value.builtin "BaseException.__getattribute__"))=false:=by cases expr <;> rfl
 have hx2:(Value.builtin "BaseException.__getattribute__" == Value.builtin "object.__getattribute__")=false:=by decide +kernel
 have hx1:(onTheHeap (Value.ref C) && Value.builtin "BaseException.__getattribute__" == Value.builtin "object.__getattribute__")=false:=by rw[hx2];rfl
 have L1:=PySem.W.looks_findIn (M:=model prog w) X Z.ga;have L2:=PySem.W.looks_findIn (M:=model prog w) X Z.nga
 repeat (any_goals (first | assumption | (with_reducible refine wpAny_loadPart_at hx ?_;rw[hc]) | with_reducible refine L1.at ?_ | with_reducible refine L2.at ?_ | wp_step))
 refine codeAny_call_builtin F.excAttr_ValueError.ga.plain F.entry_bexc_ga (Oo X I Z (ZZ (hq _) (fun fin s' z=>?_) fun _ _ z=>False.elim z));obtain⟨v,rfl,hv,z⟩:=z
 repeat (any_goals (first | assumption | wp_step))
 show wpAny _ _ (handedOut v) _ _ _;rw[PySem.W.handedOut_of hv];exact ZB z
theorem PY{v:Value}{tk:Tok}{fill expr:Bool}{Q:Value->Shared->Prop}(X:K.In h)(I:PySem.W.InstAt h x ox C od)(Z:ExcC K C)(hf:PySem.W.findObj K C od name=some (.value v))(hv:PySem.W.handedIn v=true)(hq:Q v ⟨h,g,d,t,os⟩) :
 wpAny (model prog w) A (getAttrBy (.ref x) (.str name tk) fill expr) Q E ⟨h,g,d,t,os⟩:=by
 refine LA X I Z fun A'=>?_
 have L0:=I.type (M:=model prog w);have L3:=PySem.W.looks_find (M:=model prog w) X I hf;refine ZA (ZB (ZA (ZB (ZA (L0.at (ZA (L3.at ?_)))))));exact ZB ⟨v,rfl,hv,hq⟩
theorem WE{tk:Tok}{fill expr:Bool}{Q:Value->Shared->Prop}(X:K.In h)(I:PySem.W.InstAt h x ox C od)(Z:ExcC K C)(hq:Q (.ref C) ⟨h,g,d,t,os⟩) :
 wpAny (model prog w) A (getAttrBy (.ref x) (.str "__class__" tk) fill expr) Q E ⟨h,g,d,t,os⟩:=by
 refine LA X I Z fun A'=>?_
 have hf:PySem.W.findObj K C od "__class__" = some (.bind (.builtin "getset_descriptor.__get__") (.builtin "object.__class__")):=by
  have:=Z.obj
  unfold PySem.W.mroIn at this;obtain⟨cd,a,b⟩:=Option.bind_eq_some_iff.mp this;unfold PySem.W.findObj;rw[a,Z.cl];simp only[Option.bind_some,Z.ge,Z.tk]
 have L0:=I.type (M:=model prog w);have L3:=PySem.W.looks_find (M:=model prog w) X I hf;refine ZA (ZB (ZA (ZB (ZA (L0.at (ZA (L3.at ?_)))))));unfold Builtin.ObjectAttr.bindTo
 repeat (any_goals (first | assumption | wp_step))
 exact PySem.W.class_get (s:=⟨h,g,d,t,os⟩) X I Z.obj (ZB ⟨_,rfl,rfl,hq⟩)
theorem RV{Q:Option Value->Shared->Prop}{s:Shared}(X:K.In s.heap)(I:PySem.W.InstAt s.heap x ox C od)(Z:ExcC K C)(hq:Q (some (.ref C)) { s with toks:=s.toks+1 }):wpAny (model prog w) A (getAttr? (.ref x) "__class__") Q E s:=by
 obtain⟨h,g,d,t,os⟩:=s;unfold getAttr? getAttrBy?;refine ZA (wpAny_mkText (ZA (wpAny_attempt (WE X I Z ?_))));exact ZB hq
theorem Iy(Z:ExcC K C):PySem.W.KitX K (.ref x) (.ref C) (fun h=>∃ox od,PySem.W.InstAt h x ox C od) where
 ty:=fun _ _ _ ⟨_,_,I⟩=>I.type
 it:=fun _ _ X _=>by
  have:=Z.obj
  unfold PySem.W.mroIn at this;obtain⟨cd,hcD,_⟩:=Option.bind_eq_some_iff.mp this;unfold PySem.W.clsIn at hcD;split at hcD
  ·rename_i c' d' cd' sl' ho;intro A' Q' E' s' k q;unfold isType loadHead;exact ZA (wpAny_loadPart (k _ _ (X _ _ ho)) (ZB q))
  ·cases hcD
 ne:=fun h tp dd its n sl X htp=>by
  have:=Z.obj
  unfold PySem.W.mroIn at this;obtain⟨cd,hcD,_⟩:=Option.bind_eq_some_iff.mp this;refine Bool.eq_false_iff.mpr fun q=>?_
  have e:C=tp:=Value.ref.inj (beq_iff_eq.mp q);subst e;unfold PySem.W.clsIn at hcD;split at hcD
  ·rename_i c' d' cd' sl' ho;have z:=(X _ _ ho).symm.trans htp;cases z
  ·cases hcD
 ca:=fun X ⟨_,_,I⟩ k=>RV X I Z k
end
def ExcAt(H:Hp)(x C:Addr)(od:Option Addr):Prop:=H x=some (CA x (.ref C) od)/\∀d,od=some d->∃o,H d=some o
def IsC(K:W.Frag)(H:Hp)(t:Value)(b:Bool):V->Prop
 | .ty T=>PySem.W.kitOne K t (.type T)=some b
 | .ref p=>PySem.W.kitOne K t (.ref p)=some b\/∃rs:List Addr,H p=some (.tup (rs.map V.ref))/\PySem.W.kitAny K t (rs.map Value.ref)=some b
 | _=>False
def Kk(K:W.Frag):List V->Hp->VK->Prop:=fun xs H Q=>match xs with
 | [.ref x,c]=>∃C od b,ExcAt H x C od/\ExcC K C/\IsC K H (.ref C) b c/\Q (.bl b) H
 | _=>False
theorem N1:∀{rs:List Addr} {its:List Value},Vals (rs.map V.ref) its->its=rs.map Value.ref
 | [],_,.nil=>rfl
 | _::_,_,.cons r t=>by rw[N1 t,(show _=Value.ref _ from r)];rfl
section
variable {X:Cx}{K:W.Frag}{pins:List (Addr × Obj)}{σ:St}{H:Hp}{s:Shared}
theorem ExcAt.inst{C:Addr}(e:ExcAt H x C od)(I:Inv X pins σ H s):∃ox odo,PySem.W.InstAt s.heap x ox C odo:=by
 obtain⟨⟨oe,vs,e1,e2,e3,e4⟩,_⟩:=(show ObjOk X.prog X.w H s.heap x (CA x (.ref C) od) from I.hok x _ e.1);have hn:PySem.W.notCls oe=true:=by unfold PySem.W.notCls;rw[e4]
 cases od with
 | none=>exact⟨oe,none,e1,e2,hn,by rw[e3];trivial⟩
 | some dx =>
  obtain⟨fs,hd⟩:=e.2 dx rfl;obtain⟨u,q⟩:=(I.hok dx _ hd).is;exact⟨oe,some u,e1,e2,hn,by rw[e3];exact q⟩
theorem Qr:CallR X (.builtin "isinstance") (Kk X.K):=by
 intro pins s σ H xs us Q I r q
 match xs,q with
 | [.ref x,c],q =>
  obtain⟨C,od,b,h1,h2,h3,q⟩:=q;obtain⟨u,w',rfl,ru,rw'⟩:=EQ r;cases ru;have fin:∀tk,EP X pins σ Q (.bool b) { s with toks:=tk }:=fun tk=>⟨.bl b,H,I.tok _,rfl,q⟩
  match c,h3,rw' with
  | .ty T,h3,rw'=>cases rw';exact PySem.W.kia_one (Iy h2) I.kIn (h1.inst I) h3 (fun z=>nomatch z) fin
  | .ref p,h3,rw' =>
   cases rw'
   rcases h3 with h3 | ⟨rs,hp,h3⟩
   ·exact PySem.W.kia_one (Iy h2) I.kIn (h1.inst I) h3 (fun z=>nomatch z) fin
   ·obtain⟨_,its,rv,o,g1,g2,⟨n,g3⟩,_⟩:=(show ObjOk X.prog X.w H s.heap p (.tup (rs.map V.ref)) from I.hok p _ hp);rw[N1 rv]at g3;obtain⟨oc,od',da,sl⟩:=o;cases g2;cases g3;exact PySem.W.kia_tup (Iy h2) I.kIn (h1.inst I) g1 h3 (fun z=>nomatch z) fin
theorem DL(hK:X.K=K:=by rfl):CallR X (.builtin "isinstance") (Kk K):=hK ▸ Qr
end
section
variable {X:Cx}{K:W.Frag}
end
end L2
namespace L2
open PySem PySem.Spec PyProof.Rows PySem.W
end L2
namespace L2
open PySem PySem.Spec PyProof.Rows
def D1(K:W.Frag)(C fI:Addr):Bool:=match K.lookup C with
 | some ⟨.type "type",_,.cls cd,sl⟩=>(match cd.mro,sl.toList with
  | .ref C'::bm,[_,_,_,_,some (.builtin n),_]=>C' == C && n == "ValueError.__new__" && !cd.hasDel && cd.hasDict && PySem.W.tailIn K Iv bm && PySem.W.nsOkIn K cd.ns && PySem.W.nsIn K cd.ns "__init__" == some (some (.ref fI))
  | _,_=>false)
 | _=>false
theorem Ux{K:W.Frag}{h:Heap}{N:Addr}{mg:Str->Option Value}{n:Str}{v:Value}(X:K.In h)(G:h.Ns N mg)(e:PySem.W.nsIn K N n=some (some v)):mg n=some v:=by
 obtain⟨o,es,ep,ho,hd,_,hf⟩:=G;unfold PySem.W.nsIn at e;split at e
 ·rename_i c d es' n' sl q;have z:=X _ _ q;rw[ho]at z;cases z;cases hd;split at e
  ·rename_i en he;cases e;rw[<- hf];unfold nsFind findBy;rw[<- Array.find?_toList,he];rfl
  ·split at e <;> cases e
 ·cases e
theorem E3{K:W.Frag}{h:Heap}{C fI:Addr}(X:K.In h)(q:D1 K C fI=true):∃(nm qn:Str) (N:Addr) (bs bm:List Value) (sn:List Str) (sub:List Value) (ab:Bool) (col:Option Bool) (dd:Option Addr) (k0 k1 k2 k3 k5:Option Value) (mN:Str->Option Value),
 h.get? C=some (excClassObj nm qn C N bs bm true sn sub ab col dd k0 k1 k2 k3 k5 "ValueError.__new__")/\h.Ns N mN/\mN "__init__" = some (.ref fI)/\OwnTail h Iv bm/\∃cd,PySem.W.clsIn K C=some cd/\cd.mro=.ref C::bm/\cd.hasDict=true:=by
 unfold D1 at q;split at q
 case h_2=>cases q
 rename_i od cl sls hlk;split at q
 case h_2=>cases q
 rename_i C2 rest a0 a1 a2 a3 nid a5 hmro hslots;simp only[Zb,beq_iff_eq,Bool.not_eq_true']at q;obtain⟨⟨⟨⟨⟨⟨z1,z2⟩,z3⟩,z7⟩,z4⟩,z5⟩,z6⟩:=q;subst z1;subst z2;have hcd:PySem.W.clsIn K C2=some cl:=by unfold PySem.W.clsIn;rw[hlk]
 cases cl with
 | mk nm bs mro ns qn hd sn sub ab col del =>
  have m1:mro=.ref C2::rest:=hmro;have m2:del=false:=z3;have m4:hd=true:=z7;subst m1;subst m2;subst m4
  have m3:sls = #[a0,a1,a2,a3,some (.builtin "ValueError.__new__"),a5]:=by
   cases sls with
   | mk l=>exact congrArg Array.mk hslots
  subst m3;have G:h.Ns ns (h.nsMap ns):=.of_isNs (PySem.W.isNs_of_in X z5);exact⟨nm,qn,ns,bs,rest,sn,sub,ab,col,od,a0,a1,a2,a3,a5,h.nsMap ns,X _ _ hlk,G,Ux X G z6,PySem.W.tail_of_in X z4,_,hcd,rfl,rfl⟩
section
variable {prog:Program} {w:World} {A:Around} {E:Value->Shared->Prop} {h:Heap} {g:Array GenState} {d:Drawn} {t:Nat} {os:OsState}
 {nm q:Str} {C N:Addr} {bs bm bmB:List Value} {hdct:Bool} {sn:List Str} {sub:List Value} {ab:Bool} {col:Option Bool} {dd:Option Addr} {k0 k1 k2 k3 k5:Option Value} {B Bn newId nid initId inN:String} {bmN:List Value}
theorem Pc (Fn:ExcBaseFacts Bn newId inN bmN) (hBn:bmB.contains (.type Bn)=true) (F:ExcBaseFacts B nid initId bmB) (T:OwnTail h bmB bm) {mN:Str->Option Value} {rest:List Value} {fI:Addr} {oI:Obj} {Q:Fin->Shared->Prop}
 (hC:h.get? C=some (excClassObj nm q C N bs bm hdct sn sub ab col dd k0 k1 k2 k3 k5 newId)) (hn:h.Ns N mN) (hi:mN "__init__" = some (.ref fI)) (hfI:h.get? fI=some oI) (hfc:oI.cls=.type "function") (hrest:rest.length<=sizeLine)
 (hq:∀h' e,Heap.MadeExcOf h h' e (.ref C) rest->wpAny (model prog w) A (call (.ref fI) (.ref e::rest)) (fun r s'=>r=.none/\Q (.done (.ret (.ref e))) s') E ⟨h',g,d,t,os⟩) :
 wpAny (model prog w) A (Builtin.«type.__call__» ⟨.ref C::rest,[]⟩) Q E ⟨h,g,d,t,os⟩:=by
 repeat (first | with_reducible refine wpAny_loadPart_at hC ?_ | with_reducible refine wpAny_madeBy_exc hC ?_ | wp_step)
 refine codeAny_call_builtin_code (Code.quiet_builtin _ Fn.quiet) (wpAny_check_new_subU Fn hBn T hC ?_);refine codeAny_exc_new_subU Fn hBn F T hC ?_ hrest;show wpAny _ _ _ _ _ _;generalize ho1:({ cls:=.type "tuple",data:=.seq rest.toArray }:Obj)=o1;generalize ho2:({ cls:=.ref C,data:=.fields #[.ref h.objs.size,.none,.none,.none,.bool false,.none] }:Obj)=o2;have up:∀b o,h.get? b=some o->((h.push o1).push o2).get? b=some o:=fun b o e=>ZH _ (ZH _ e)
 have g2:((h.push o1).push o2).get? (h.objs.size+1)=some o2:=by
  have:=ZN (h.push o1) (o:=o2) (by rw[<- ho2];rfl)
  rwa [Z0]at this
 have g1:((h.push o1).push o2).get? h.objs.size=some o1:=ZH _ (ZN h (by rw[<- ho1];rfl));have c2:o2.cls=.ref C:=by rw[<- ho2]
 have hC1:=up _ _ hC;have hn1:((h.push o1).push o2).Ns N mN:=let ⟨o,es,ep,e,r⟩:=hn;⟨o,es,ep,up _ _ e,r⟩;have hcC:(Value.ref C::bm).contains (.ref C)=true:=by simp
 have T1:=T.keeps (h':=(h.push o1).push o2) up;unfold isInstance
 repeat (first | (with_reducible refine wpAny_loadPart_at g2 ?_;rw[c2]) | (with_reducible refine wpAny_isSubtype_exc hC1 ?_;rw[hcC]) | wp_step)
 show wpAny _ _ (typeLookup (.ref C) _) _ _ _;refine wpAny_typeLookup_tail hC1 hn1 T1 F.mroIs F.init.lookup ?_;rw[hi];refine Zh (ZA ?_);unfold bindSpecial;refine ZA (wpAny_typeOf (T:="function") ⟨_,up _ _ hfI,hfc⟩ ?_);rw[if_pos (by decide)];refine ZB (ZA (ZZ (hq _ (h.objs.size+1) ⟨up,ZBU (ZBf _),h.objs.size,by rw[g2,ho2],ZBU (ZD _),by rw[g1,ho1]⟩) (fun r s' hr=>?_) fun _ _ x=>x));obtain⟨rfl,hQ⟩:=hr
 wp_walk
 exact hQ
theorem Sa (Fn:ExcBaseFacts Bn newId inN bmN) (hBn:bmB.contains (.type Bn)=true) (F:ExcBaseFacts B nid initId bmB) (T:OwnTail h bmB bm) {mN:Str->Option Value} {rest:List Value} {fI:Addr} {oI:Obj} {Q:Value->Shared->Prop}
 (hC:h.get? C=some (excClassObj nm q C N bs bm hdct sn sub ab col dd k0 k1 k2 k3 k5 newId)) (hn:h.Ns N mN) (hi:mN "__init__" = some (.ref fI)) (hfI:h.get? fI=some oI) (hfc:oI.cls=.type "function") (hrest:rest.length<=sizeLine)
 (hq:∀h' e,Heap.MadeExcOf h h' e (.ref C) rest->wpAny (model prog w) (A.under (.builtin "type.__call__" ⟨.ref C::rest,[]⟩)) (call (.ref fI) (.ref e::rest)) (fun r s'=>r=.none/\Q (.ref e) s') E ⟨h',g,d,t,os⟩) :
 wpAny (model prog w) A (call (.ref C) rest) Q E ⟨h,g,d,t,os⟩:=by
 have f1:=tc_lookup;have f2:=tc_bind (.ref C);have hT:(⟨h,g,d,t,os⟩:Shared).TypeIs (.ref C) "type":=⟨_,hC,rfl⟩;refine wpAny_call (codeAny_of_tree ?_);show wpAny _ _ (callAny (.ref C) _) _ _ _
 repeat (any_goals (first | assumption | with_reducible refine wpAny_loadPart_at hC ?_ | wp_step))
 exact⟨rfl,codeAny_call_builtin_at (Code.quiet_builtin _ (by decide +kernel)) entry_typeCall (wpAny_check_type_call_sub hC (Pc Fn hBn F T hC hn hi hfI hfc hrest fun h' e hm=>hq h' e hm))⟩
theorem Og {M:Model} {env:Env} {s:Shared} {x:Sem Value} {Q:Flow->Shared->Prop} (hbase:bm.contains (.type "BaseException")=true) (hh:A.handled=none)
 (hx:wpAny M A x (fun v s1=>∃e oe,v=.ref e/\s1.heap.get? C=some (excClassObj nm q C N bs bm hdct sn sub ab col dd k0 k1 k2 k3 k5 newId)/\s1.heap.get? e=some oe/\oe.cls=.ref C/\(∃vs,oe.data=.fields vs/\vs[1]? = some .none)/\E (.ref e) s1) E s) :
 wpAny M A (raiseStmt env (some x) none) Q E s:=by
 have hcB:(Value.ref C::bm).contains (.type "BaseException")=true:=by rw[List.contains_cons,hbase,Bool.or_true]
 unfold raiseStmt;refine ZA (ZZ hx (fun v s1 h1=>?_) fun _ _ x=>x);obtain⟨e,oe,rfl,hC,he,hc,⟨vs,hv,h1⟩,hE⟩:=h1;obtain⟨hp,g,d,tk,os⟩:=s1;obtain⟨oc,od,oda,osl⟩:=oe;cases hc;cases hv
 repeat (first | with_reducible refine wpAny_loadPart_at he ?_ | with_reducible refine wpAny_loadPart_at hC ?_ | (with_reducible refine wpAny_isSubtype_exc hC ?_;rw[hcB]) | wp_step)
 rw[h1]
 repeat (first | with_reducible refine wpAny_loadPart_at he ?_ | wp_step)
 exact wpAny_raiseNew_none hh hE
end
section
variable {prog:Program}{w:World}{A:Around}{E:Value->Shared->Prop}{s:Shared}{env:Env}{K:W.Frag}{C fI:Addr}
theorem Rn {x:Str} {np cpos pos:Pos} {args:List Expr} {Q:Flow->Shared->Prop} {h0:Heap} (X0:K.In h0) (q:D1 K C fI=true) (hh:A.handled=none) (hplain:(backTo cpos (starEach args env)).any (·.1)=false)
 (hx:wpAny (model prog w) A (eval (.Name x np) env) (fun f s1=>f=.ref C/\wpAny (model prog w) A (evalArgs (.ref C) true (backTo cpos (starEach args env)) [])
   (fun a s2=>a.kw=[]/\a.pos.length<=sizeLine/\K.In s2.heap/\(∃oI,s2.heap.get? fI=some oI/\oI.cls=.type "function") /\
     ∀h' e,Heap.MadeExcOf s2.heap h' e (.ref C) a.pos->wpAny (model prog w) (A.under (.builtin "type.__call__" ⟨.ref C::a.pos,[]⟩)) (call (.ref fI) (.ref e::a.pos)) (fun r s3=>r=.none/\K.In s3.heap/\(∃oe vs,s3.heap.get? e=some oe/\oe.cls=.ref C/\oe.data=.fields vs/\vs[1]? = some .none)/\E (.ref e) s3) E { s2 with heap:=h' }) E s1) E s) :
 wpAny (model prog w) A (exec (.Raise (some (.Call (.Name x np) args [] cpos)) none pos) env) Q E s:=by
 obtain⟨nm,qn,N,bs,bm,sn,sub,ab,col,dd,k0,k1,k2,k3,k5,mN,hC0,hN0,hi0,TL0,cd,hcd,hmro,_⟩:=E3 X0 q
 have look:∀{h:Heap},K.In h->h.get? C=some (excClassObj nm qn C N bs bm true sn sub ab col dd k0 k1 k2 k3 k5 "ValueError.__new__"):=fun {h} X=>by
  obtain⟨nm',qn',N',bs',bm',sn',sub',ab',col',dd',k0',k1',k2',k3',k5',mN',hC',_,_,_,cd',hcd',hmro',_⟩:=E3 X q
  have e0:∃o,K.lookup C=some o:=by
   unfold D1 at q;split at q
   ·rename_i hlk;exact⟨_,hlk⟩
   ·cases q
  obtain⟨o,e0⟩:=e0;have e1:=X0 _ _ e0;rw[hC0]at e1;rw[X _ _ e0,<- e1]
 rw[arm_exec_Raise];have hbase:bm.contains (.type "BaseException")=true:=TL0.hasType (by decide);refine ZA (ZBN (Og (C:=C) (nm:=nm) (q:=qn) (N:=N) (bs:=bs) (bm:=bm) (hdct:=true) (sn:=sn) (sub:=sub) (ab:=ab) (col:=col) (dd:=dd) (k0:=k0) (k1:=k1) (k2:=k2) (k3:=k3) (k5:=k5) (newId:="ValueError.__new__") hbase hh (ZA (ZZ (wpAny_Call_ofName (ZZ hx (fun f s1 h1=>?_) fun _ _ x=>x)) (fun v s3 h3=>ZA (ZBN (ZB h3))) fun _ _ x=>x))));obtain⟨rfl,h1⟩:=h1;unfold callWith;refine ZA (Zh (ZZ h1 (fun a s2 h2=>ZA (ZBN ?_)) fun _ _ x=>x));obtain⟨apos,akw⟩:=a;obtain⟨hkw,hlen,X2,⟨oI,hfI,hfc⟩,h2⟩:=h2;obtain rfl:akw=[]:=hkw;obtain⟨nm',qn',N',bs',bm',sn',sub',ab',col',dd',k0',k1',k2',k3',k5',mN',hC',hN',hi',TL',_⟩:=E3 X2 q;obtain⟨hp,g,d,tk,os⟩:=s2;simp only[hplain];refine ZA (wpAny_keeperOf_exc hC' ?_);refine ZA (Sa F.excBase_ValueError (by decide) F.excBase_ValueError TL' hC' hN' hi' hfI hfc hlen fun h' e hm=>?_);refine ZZ (h2 h' e hm) (fun r s3 ⟨e1,X3,⟨oe,vs,g1,g2,g3,g4⟩,hE⟩=>⟨e1,ZA (Zh (wpAny_point (ZB ⟨e,oe,rfl,look X3,g1,g2,⟨vs,g3,g4⟩,hE⟩)))⟩) fun _ _ z=>z
end
end L2
namespace L2
open PySem PySem.Spec PyProof.Rows Builtin Builtin.ObjectAttr
theorem Tl{h:Heap}{l:List Value}(self:Value)(T:OwnTail h Iv l):refuseLoop self "__setattr__" l=pure ():=by
 induction T with
 | base=>exact PySem.F.store_ValueError.passes self
 | own _ _ _ _ ih=>rw[refuseLoop_ref];exact ih
structure ExcI(K:W.Frag)(C fI:Addr):Prop where
 ob:D1 K C fI=true
 xc:ExcC K C
 sa:PySem.W.findIn K (.ref C) "__setattr__" = some (some (.builtin "object.__setattr__"))
 fn:PySem.W.isFn K (.ref fI)=true
section
variable {prog:Program}{w:World}{A:Around}{E:Value->Shared->Prop}{s:Shared}{K:W.Frag}{x C fI:Addr}{name:Str}{v:Value}{mA:Str->Option Value}{ns:List Str}
theorem Nv {Q:Unit->Shared->Prop} (X:K.In s.heap) (Z:ExcI K C fI) (n:NoAttr K C name) (I:s.heap.Inst x C mA) (hw:Within mA ns) (hsz:ns.length<=1000)
 (hq:∀h' tk',h'.Inst x C (fun y=>if y=name then some v else mA y) ->
   (∀b o,b≠x->(∀o0 dx,s.heap.get? x=some o0->o0.dict=some dx->b≠dx)->s.heap.get? b=some o->h'.get? b=some o) ->
   (∀o0,s.heap.get? x=some o0->∃o1,h'.get? x=some o1/\o1.cls=o0.cls/\o1.data=o0.data/\(∀dx,o0.dict=some dx->o1=o0)/\(o0.dict=none->o1.dict=some s.heap.objs.size))->Q () { s with heap:=h',toks:=tk' }) :
 wpAny (model prog w) A (setAttr (.ref x) name v) Q E s:=by
 obtain⟨o,hx,hc,hnc,hd⟩:=I;obtain⟨nm,qn,N,bs,bm,sn,sub,ab,col,dd,k0,k1,k2,k3,k5,mN,hC,hN,hi,TL,cd,hcd,hmro,hdict⟩:=E3 X Z.ob
 have J:∃od,PySem.W.InstAt s.heap x o C od:=by
  have hn:PySem.W.notCls o=true:=by
   unfold PySem.W.notCls;split
   ·rename_i c e;exact absurd e (hnc c)
   ·rfl
  rcases hd with ⟨h1,_⟩ | ⟨dx,h1,_,⟨od,es,ep,e,r⟩⟩
  ·exact⟨none,hx,hc,hn,by rw[h1];trivial⟩
  ·exact⟨some od,hx,hc,hn,by rw[h1];exact e⟩
 obtain⟨od,J⟩:=J;refine PySem.W.set_plain X J Z.sa ?_;have SF:=PySem.F.store_object;have sub:PySem.W.Looks (model prog w) s.heap (isInstance (.ref x) (.type "object")) true:=J.type.andThen (PySem.W.looks_mroIn X Z.xc.obj);refine codeAny_call_builtin SF.slot.plain SF.entry (@PySem.W.check_slot (model prog w) _ _ { s with toks:=s.toks+1 } "object.__setattr__" "object" "__setattr__" (.ref x) [.str name s.toks,v] [] _ SF.kind SF.split sub (SF.args (.ref x) (.str name s.toks) v) ?_);have hm:PySem.W.Looks (model prog w) s.heap (mroOf (.ref C)) cd.mro:=(PySem.W.looks_clsIn X hcd).andThen .now;rw[PySem.W.osa_eq,refuse_eq];refine ZA (ZA (J.type.here (s:={ s with toks:=s.toks+1 }) (ZA (hm.here (s:={ s with toks:=s.toks+1 }) ?_))));rw[hmro,refuseLoop_ref,Tl _ TL];refine ZB (ZA (J.type.here (s:={ s with toks:=s.toks+1 }) (ZA ((PySem.W.looks_findIn X n).here (s:={ s with toks:=s.toks+1 }) (ZA (PySem.W.Looks.here (s:={ s with toks:=s.toks+1 }) (r:=none) .now ?_))))));refine ZA (ZB (ZA (ZA (wpAny_loadPart hx ?_))));rw[hc];refine ZA (PySem.W.Looks.here (s:={ s with toks:=s.toks+1 }) (PySem.W.looks_clsIn X hcd) ?_);rw[hdict];rw[if_neg (by decide)];dsimp only
 rcases hd with ⟨hdn,hmA⟩ | ⟨dx,hdx,hne,hns⟩
 ·rw[hdn];dsimp only;rw[if_neg (by simp[typeHasDict])];have hx1:(s.heap.push { cls:=.type "dict",data:=.dict #[] }).get? x=some o:=ZH _ hx;have hxs:x≠s.heap.objs.size:=ZK (ZG hx)
  have hgd:((s.heap.push { cls:=.type "dict",data:=.dict #[] }).update x fun o=>{ cls:=o.cls,dict:=some s.heap.objs.size,data:=o.data,slots:=o.slots }).get? s.heap.objs.size=some { cls:=.type "dict",data:=.dict #[] } :=
   (Heap.get?_update_ne _ _ _ _ hxs.symm).trans (Heap.get?_push_at rfl rfl)
  have hnd:((s.heap.push { cls:=.type "dict",data:=.dict #[] }).update x fun o=>{ cls:=o.cls,dict:=some s.heap.objs.size,data:=o.data,slots:=o.slots }).Ns s.heap.objs.size (fun _=>none) :=
   ⟨_,#[],_,hgd,rfl,fun e he=>absurd he (by simp),fun _=>rfl⟩
  split
  ·rename_i c hcd';exact absurd hcd' (hnc c)
  ·refine ZA (wpAny_alloc' ?_);refine ZA (wpAny_update' hx1 ?_);refine ZB ?_;show wpAny _ _ (storeInDict s.heap.objs.size (.str name s.toks) name v) _ _ _;unfold storeInDict newKeyGuard;refine ZA (ZB (ZA (wpAny_nsSet1 (Heap.Ns1.of_empty hnd) fun h' hn' hs=>?_)));obtain⟨oD,esD,epD,hoD,hdD,hcD⟩:=hn'.count (Within.cons name v Within.nil);refine ZA (wpAny_lookBehind hoD (by rw[hdD];exact pastItsLine_dict (Zf hcD (by rw[Zn,List.length_nil,sizeLine_eq];lia))) ?_)
   have hx':h'.get? x=some { cls:=o.cls,dict:=some s.heap.objs.size,data:=o.data,slots:=o.slots }:=by
    refine(hs.2 x hxs).trans (ZBP _ hx1 ?_);have hfr:=(Heap.get?_some_iff.mp hx).2;obtain⟨oc,od,odt,osl⟩:=o;cases odt <;> first | rfl | exact hfr
   refine ZB (hq h' _ ⟨{ cls:=o.cls,dict:=some s.heap.objs.size,data:=o.data,slots:=o.slots },hx',hc,hnc,.inr ⟨s.heap.objs.size,rfl,hxs.symm,?_⟩⟩ (fun b ob hbx _ hb=>?_)
    (fun o0 h0=>by obtain rfl:o=o0:=ZV (hx.symm.trans h0);exact⟨_,hx',rfl,rfl,(fun dx e=>by rw[hdn]at e;cases e),fun _=>rfl⟩))
   ·obtain⟨o',es,ep,e1,e2,e3,eu,e4⟩:=hn';exact⟨o',es,ep,e1,e2,e3,eu,fun y=>by rw[e4 y];by_cases hy:y=name <;> simp[hy,hmA]⟩
   ·exact(hs.2 b (ZK (ZG hb))).trans ((Heap.get?_update_ne _ _ _ _ hbx).trans (ZH _ hb))
 ·rw[hdx];refine ZB ?_;show wpAny _ _ (storeInDict dx (.str name s.toks) name v) _ _ _;unfold storeInDict newKeyGuard;refine ZA (ZB (ZA (wpAny_nsSet1 (s:={ s with toks:=s.toks+1 }) hns fun h' hn' hs=>?_)));obtain⟨oD,esD,epD,hoD,hdD,hcD⟩:=hn'.count (Within.cons name v hw);refine ZA (wpAny_lookBehind hoD (by rw[hdD];exact pastItsLine_dict (Zf hcD (by rw[Zn,sizeLine_eq];lia))) ?_)
  refine ZB (hq h' _ ⟨o,(hs.2 x hne.symm).trans hx,hc,hnc,.inr ⟨dx,hdx,hne,hn'⟩⟩ (fun b ob _ hbd hb=>(hs.2 b (hbd o dx hx hdx)).trans hb)
   (fun o0 h0=>by obtain rfl:o=o0:=ZV (hx.symm.trans h0);exact⟨o,(hs.2 x hne.symm).trans h0,rfl,rfl,(fun _ _=>rfl),fun e=>by rw[hdx]at e;cases e⟩))
end
end L2
namespace L2
open PySem PySem.Spec PyProof.Rows
abbrev ExN(x:Addr)(cls:Value)(od:Option Addr):HO:=.ext (fun h=>ExA h x cls od none)
def XdP(d:Addr)(fs:List (Str × V))(h:Heap):Prop:=∃mA,h.Ns1 d mA/\∀f,RelO (fs.lookup f) (mA f)
abbrev XdO(d:Addr)(fs:List (Str × V)):HO:=.ext (XdP d fs)
def del(H:Hp)(x:Addr):Hp:=fun b=>if b=x then none else H b
theorem E9{H:Hp}{x b:Addr}(h:b≠x):del H x b=H b:=if_neg h
theorem Mh{H:Hp}{x:Addr}:del H x x=none:=if_pos rfl
section
variable {P:Program}{w:World}{H H':Hp}{h h':Heap}{x d:Addr}{cls:Value}{od:Option Addr}{fs:List (Str × V)}
theorem Lj(e:ExA h x cls od none):ObjOk P w H h x (ExN x cls od) :=
 ⟨e,let ⟨oe,_,q,_⟩:=e;⟨oe,q⟩,fun _ _ ⟨oe,vs,q,r⟩ k=>⟨oe,vs,k oe q,r⟩⟩
theorem Jo(e:XdP d fs h):ObjOk P w H h d (XdO d fs) :=
 ⟨e,let ⟨_,⟨o,_,_,q,_⟩,_⟩:=e;⟨o,q⟩,fun _ _ ⟨mA,n,r⟩ k=>⟨mA,n.at k,r⟩⟩
theorem Pu{mA:Str->Option Value}(r:∀f,RelO (fs.lookup f) (mA f)):Within mA (fs.map (·.1)):=fun y hy=>by
 have z:=r y;cases e:fs.lookup y with
 | none=>rw[e]at z;exact absurd (RelO.none_of z) hy
 | some v=>exact ZP.mpr ⟨(y,v),mem_of_lookup e,rfl⟩
where mem_of_lookup:∀{fs:List (Str × V)} {y:Str} {v:V},fs.lookup y=some v->(y,v)∈fs
 | [],_,_,e=>by cases e
 | (k,u)::r,y,v,e=>by
  rw[Z3]at e;split at e
  ·rename_i h;cases e;rw[eq_of_beq h];exact Zl
  ·exact Za _ (mem_of_lookup e)
end
section
variable {X:Cx}{pins:List (Addr × Obj)}{σ:St}{H H':Hp}{s:Shared}{h':Heap}{x C fI:Addr}{K:W.Frag}
theorem Inv.laidN{a:Addr}{o:HO}{t':Nat}(I:Inv X pins σ H s)(k:∀b u,s.heap.get? b=some u->h'.get? b=some u)(nx:s.heap.get? a=none)(new:ObjOk X.prog X.w (upd H a o) h' a o):Inv X pins σ (upd H a o) { s with heap:=h',toks:=t' }:=by
 have hn:H a=none:=EK I.hok nx;have ne:∀b u,s.heap.get? b=some u->b≠a:=fun b u e z=>by rw[z,nx]at e;cases e
 have nh:∀b u,H b=some u->b≠a:=fun b u e z=>by rw[z,hn]at e;cases e
 refine I.un ⟨fun b u e _ _ _=>k b u e,fun b u e _ _ _=>⟨u.slots,k b u e⟩,fun b u e n _=>by rw[AI (ne b u e)];exact n,fun b u e _=>⟨u,k b u e⟩,fun b xs e=>by rw[AI (nh b _ e)];exact e,fun b u v e=>by rw[AI (nh b _ e)];exact e,fun b ps e=>⟨#[],by rw[AI (nh b _ e),e];simp⟩⟩ fun b u e=>?_
 by_cases z:b=a
 ·subst z;rw[AD]at e;cases e;exact new
 ·rw[AI z]at e;exact(I.hok b u e).stay (fun c v _ q=>k c v q) (fun c q=>by rw[AI (nh c _ q)];exact q) fun c xs q=>by rw[AI (nh c _ q)];exact q
theorem Sq {f:Str} {y:V} {u:Value} {A:Around} {E:Value->Shared->Prop} {Q:Unit->Shared->Prop} (I:Inv X pins σ H s) (Z:ExcI X.K C fI) (n:NoAttr X.K C f) (e:H x=some (ExN x (.ref C) none)) (ry:RelV y u)
 (hq:∀d s',H d=none->Inv X pins σ (upd (upd H x (ExN x (.ref C) (some d))) d (XdO d [(f,y)])) s'->Q () s'):wpAny (model X.prog X.w) A (setAttr (.ref x) f u) Q E s:=by
 obtain⟨⟨oe,vs,e1,e2,e3,e4,e5⟩,_⟩:=(show ObjOk X.prog X.w H s.heap x (ExN x (.ref C) none) from I.hok x _ e);refine Nv (mA:=fun _=>none) (ns:=[]) I.kIn Z n ⟨oe,e1,e2,(fun c z=>by rw[e4]at z;cases z),.inl ⟨e3,fun _=>rfl⟩⟩ (fun y z=>absurd rfl z) (ZX _) fun h' tk' I' hk hs=>?_
 obtain⟨o1,g1,g2,g3,_,g4⟩:=hs oe e1;have g4:=g4 e3;have hd:H s.heap.objs.size=none:=I.hok.fresh (ZD _);have nd:s.heap.get? s.heap.objs.size=none:=ZBU (ZD _);have xd:x≠s.heap.objs.size:=ZK (ZG e1);have keep:∀b o,b≠x->s.heap.get? b=some o->h'.get? b=some o:=fun b o nb q=>hk b o nb (fun o0 dx q0 q1=>by rw[e1]at q0;cases q0;rw[e3]at q1;cases q1) q
 have nH:∀b,b≠x->b≠s.heap.objs.size->(upd (upd H x (ExN x (.ref C) (some s.heap.objs.size))) s.heap.objs.size (XdO s.heap.objs.size [(f,y)])) b=H b:=fun b n1 n2=>by rw[AI n2,AI n1]
 have bd:∀b o,s.heap.get? b=some o->b≠s.heap.objs.size:=fun b o q=>ZK (ZG q)
 have bh:∀b o,H b=some o->b≠s.heap.objs.size:=fun b o q z=>by rw[z,hd]at q;cases q
 have XD:XdP s.heap.objs.size [(f,y)] h':=by
  obtain⟨o2,q1,_,_,q3⟩:=I';rw[g1]at q1;cases q1
  rcases q3 with ⟨q,_⟩ | ⟨dx,q,_,q4⟩
  ·rw[g4]at q;cases q
  ·rw[g4]at q;cases q;refine⟨_,q4,fun z=>?_⟩;show RelO (List.lookup z [(f,y)]) (if z=f then some u else none);rw[Z3]
   by_cases hz:z=f
   ·rw[hz,if_pos rfl,beq_self_eq_true];exact ry
   ·rw[if_neg hz,beq_eq_false_iff_ne.mpr hz];exact True.intro
 refine hq _ _ hd (I.un ⟨fun b o q nb _ _=>?_,fun b o q nb _ _=>⟨o.slots,?_⟩,fun b o q nb _=>?_,fun b o q _=>?_,fun b xs q=>?_,fun b o v q=>?_,fun b ps q=>⟨#[],?_⟩⟩ fun b o q=>?_)
 ·exact keep b o (fun z=>by rw[z,e]at nb;cases nb) q
 ·exact keep b o (fun z=>by rw[z,e]at nb;cases nb) q
 ·rw[nH b (fun z=>by rw[z,e]at nb;cases nb) (bd b o q)];exact nb
 ·by_cases z:b=x
  ·rw[z];exact⟨_,g1⟩
  ·exact⟨_,keep b o z q⟩
 ·rw[nH b (fun z=>by rw[z,e]at q;cases q) (bh b _ q)];exact q
 ·rw[nH b (fun z=>by rw[z,e]at q;cases q) (bh b _ q)];exact q
 ·rw[nH b (fun z=>by rw[z,e]at q;cases q) (bh b _ q),q];simp
 ·by_cases z:b=s.heap.objs.size
  ·subst z;rw[AD]at q;cases q;exact Jo XD
  ·rw[AI z]at q
   by_cases z2:b=x
   ·subst z2;rw[AD]at q;cases q;exact Lj ⟨o1,vs,g1,by rw[g2,e2],g4,by rw[g3,e4],e5⟩
   ·rw[AI z2]at q;refine(I.hok b o q).stay (fun c v hc r=>keep c v (fun z=>?_) r) (fun c r=>?_) fun c xs r=>?_
    ·rcases hc with hc | hc
     ·exact z2 (hc.symm.trans z)
     ·rw[z,e]at hc;cases hc
    ·rw[nH c (fun z=>by rw[z,e]at r;cases r) (bh c _ r)];exact r
    ·rw[nH c (fun z=>by rw[z,e]at r;cases r) (bh c _ r)];exact r
theorem SY {f:Str} {y:V} {u:Value} {d:Addr} {fs:List (Str × V)} {A:Around} {E:Value->Shared->Prop} {Q:Unit->Shared->Prop} (I:Inv X pins σ H s) (Z:ExcI X.K C fI) (n:NoAttr X.K C f) (e:H x=some (ExN x (.ref C) (some d))) (ed:H d=some (XdO d fs)) (hne:d≠x) (hl:fs.length<=1000) (ry:RelV y u)
 (hq:∀s',Inv X pins σ (upd H d (XdO d (Al f y fs))) s'->Q () s'):wpAny (model X.prog X.w) A (setAttr (.ref x) f u) Q E s:=by
 obtain⟨⟨oe,vs,e1,e2,e3,e4,e5⟩,_⟩:=(show ObjOk X.prog X.w H s.heap x (ExN x (.ref C) (some d)) from I.hok x _ e);obtain⟨⟨mA,n1,r1⟩,_⟩:=(show ObjOk X.prog X.w H s.heap d (XdO d fs) from I.hok d _ ed);refine Nv (mA:=mA) (ns:=fs.map (·.1)) I.kIn Z n ⟨oe,e1,e2,(fun c z=>by rw[e4]at z;cases z),.inr ⟨d,e3,hne,n1⟩⟩ (Pu r1) (by rw[ZC];exact hl) fun h' tk' I' hk hs=>?_
 obtain⟨o1,g1,g2,g3,g4,_⟩:=hs oe e1;have g4:=g4 d e3;subst g4;obtain⟨o2,q1,_,_,q3⟩:=I';rw[g1]at q1;cases q1
 have nn:h'.Ns1 d (fun y=>if y=f then some u else mA y):=by
  rcases q3 with ⟨q,_⟩ | ⟨dx,q,_,q4⟩
  ·rw[e3]at q;cases q
  ·rw[e3]at q;cases q;exact q4
 refine hq _ (I.write (x:=d) (e:=d) (by rw[ed];exact True.intro) (.inl rfl) (fun b v nb q=>?_) (let ⟨o,_,_,q,_⟩:=nn;⟨o,q⟩) (Jo ⟨_,nn,fun g=>?_⟩))
 ·by_cases z:b=x
  ·subst z;rw[e1]at q;cases q;exact g1
  ·exact hk b v z (fun o0 dx q0 q1=>by rw[e1]at q0;cases q0;rw[e3]at q1;cases q1;exact nb) q
 ·show RelO ((Al f y fs).lookup g) (if g=f then some u else mA g);rw[Ho]
  by_cases q:g=f
  ·rw[if_pos q,if_pos q];exact ry
  ·rw[if_neg q,if_neg q];exact r1 g
end
def Vs(C:Addr)(ta tv:TE)(f:Str):TS:=fun D σ H=>tv σ H fun y H1=>ta σ H1 fun v H2=>match v with
 | .ref x=>(H2 x=some (ExN x (.ref C) none)/\∀d,H2 d=none->D.nx σ (upd (upd H2 x (ExN x (.ref C) (some d))) d (XdO d [(f,y)])))\/∃d fs,H2 x=some (ExN x (.ref C) (some d))/\H2 d=some (XdO d fs)/\d≠x/\fs.length<=1000/\D.nx σ (upd H2 d (XdO d (Al f y fs)))
 | _=>False
def Ra(K:W.Frag)(ta:TE)(f:Str):TE:=fun σ H Q=>ta σ H fun v H1=>match v with
 | .ref x=>∃C d fs v,ExcAt H1 x C (some d)/\H1 d=some (XdO d fs)/\ExcC K C/\NoAttr K C f/\PySem.W.hasDictIn K C=true/\fs.lookup f=some v/\Q v H1
 | _=>False
def WP(C:Addr)(sp:Sp)(ta:TA)(W:St->Option Addr->Hp->Prop):TS:=fun _ σ H=>ta σ H fun vs H1=>vs.length<=1000/\∀x,H1 x=none->sp (.ref x::vs) (upd H1 x (ExN x (.ref C) none)) (fun v H2=>v=.non/\∃od,H2 x=some (ExN x (.ref C) od)/\W σ od (del H2 x)) E0
section
variable {X:Cx}{K:W.Frag}{C fI:Addr}{fd:FuncData}{ps:List Str}{sp:Sp}{k:Nat}{o e value:Expr}{es:List Expr}{f c:Str}{pos pos' np cpos:Pos}{ta tv:TE}{t:TA}{W:St->Option Addr->Hp->Prop}
theorem Ld(Z:ExcI K C fI)(n:NoAttr K C f)(ha:PE X o ta)(hv:PE X value tv)(hK:X.K=K:=by rfl)(hs:swapsWith value (some (.Attribute o f pos')) pos.line X.env=pure false:=by rfl):PS X (.Assign [.Attribute o f pos'] value pos) (Vs C ta tv f):=by
 subst hK;intro pins s σ H D I h;refine plainObj_wpAny_Assign_Attribute (thn (hv pins s σ H _ I h) fun u s1 ⟨y,H1,I1,ry,q⟩=>thn (ha pins s1 σ H1 _ I1 q) fun ov s2 ⟨x,H2,I2,rx,q2⟩=>?_) hs;cases x with
 | ref x =>
  obtain rfl:ov=Value.ref x:=rx
  rcases q2 with ⟨g1,q⟩ | ⟨d,fs,g1,g2,g3,g4,q⟩
  ·exact Sq I2 Z n g1 ry fun d s' hd I'=>⟨σ,_,I',q d hd⟩
  ·exact SY I2 Z n g1 g2 g3 g4 ry fun s' I'=>⟨σ,_,I',q⟩
 | _=>exact False.elim q2
theorem J3(he:PE X e ta)(hK:X.K=K:=by rfl)(hb:attributeBase e f X.env (eval e X.env)=eval e X.env:=by rfl):PE X (.Attribute e f pos) (Ra K ta f):=by
 subst hK;intro pins s σ H Q I h;refine NT hb (thn (he pins s σ H _ I h) fun u s1 ⟨x,H1,I1,rx,q⟩=>?_);cases x with
 | ref x =>
  obtain rfl:u=Value.ref x:=rx;obtain⟨C,d,fs,v,⟨g1,_⟩,g2,Z,n,hd,l,q⟩:=q;obtain⟨⟨oe,vs,e1,e2,e3,e4⟩,_⟩:=(show ObjOk X.prog X.w H1 s1.heap x (CA x (.ref C) (some d)) from I1.hok x _ g1);obtain⟨⟨mA,n1,r1⟩,_⟩:=(show ObjOk X.prog X.w H1 s1.heap d (XdO d fs) from I1.hok d _ g2);obtain⟨u',hu,ru⟩:=RelO.some_of (v:=v) (o:=mA f) (by rw[<- l];exact r1 f);obtain⟨od,ho,hl⟩:=Nh n1;have hn:PySem.W.notCls oe=true:=by unfold PySem.W.notCls;rw[e4]
  have J:PySem.W.InstAt s1.heap x oe C (some od):=⟨e1,e2,hn,by rw[e3];exact ho⟩;have ff:=PySem.W.findObj_own hd n rfl (by rw[hl,hu]);unfold getAttr;refine ZA (wpAny_mkText ?_);exact PY (v:=u') I1.kIn J Z ff (K1 ru) ⟨v,H1,I1.tok _,ru,q⟩
 | _=>exact False.elim q
theorem Oh (Z:ExcI K C fI) (F:FnOk X.prog X.w X.K X.mg X.base CX0 k fI fd ps sp) (hr:Room (k+1) X.A) (hb:Binds X.K fd ps [])
 (hx:∀(pins:List (Addr × Obj)) (σ:St) (H:Hp) (s:Shared) (x:Addr) (od:Option Addr),Inv X pins σ H s->H x=some (ExN x (.ref C) od)->X.s₀.heap.get? x=none->W σ od (del H x)->X.xe (.ref x) s)
 (hex:X.ex=[]) (hc:X.calm=true) (hg:Gl X c) (hm:X.mg c=some (.ref C)) (ha:PA X (e::es) t) (hK:X.K=K:=by rfl) (hdb:(c == ("__debug__" : Str))=false:=by decide)
 (he:starEach (e::es) X.env=(false,eval e X.env)::starEach es X.env:=by rfl) (hpl:(backTo cpos (starEach es X.env)).any (·.1)=false:=by rfl) :
 PS X (.Raise (some (.Call (.Name c np) (e::es) [] cpos)) none pos) (WP C sp t W):=by
 subst hK;intro pins s σ H D I h;refine Rn I.kIn Z.ob (I.ok.hd hc) (by rw[he];show(false || (backTo cpos (starEach es X.env)).any (·.1))=false;rw[hpl];rfl) (Dj I hg hm ⟨rfl,?_⟩ hdb);rw[he];refine PySem.Calls.evalArgs_plain ?_;have ha1:=ha cpos pins s σ H _ I h;rw[he]at ha1;refine thn ha1 fun us s1 ⟨vs,H1,I1,r,hl,q⟩=>⟨rfl,by rw[<- r.length];exact Ce hl,I1.kIn,?_,fun h1 x hm=>?_⟩
 ·have ft:=beq_iff_eq.mp Z.fn;unfold PySem.W.typeIn at ft;obtain⟨oI,l1,l2⟩:=ZB7.mp ft;exact⟨oI,I1.kIn _ _ l1,l2⟩
 obtain⟨tt,ht,htn,_⟩:=hm.there;have nH:H1 x=none:=EK I1.hok hm.new;have I2:Inv X pins σ (upd H1 x (ExN x (.ref C) none)) { s1 with heap:=h1,toks:=s1.toks }:=I1.laidN (a:=x) (fun b u e=>hm.keeps b u e) hm.new (Lj ⟨_,_,ht,rfl,rfl,rfl,rfl⟩);have hq:=q x nH;have r2:Vals (V.ref x::vs) (Value.ref x::us):=.cons rfl r
 have hl2:(Value.ref x::us++[]).length=ps.length:=by
  have e:=r2.length;rw[F.len _ _ _ _ hq]at e;rw[Zt];exact e.symm
 have hx0:X.s₀.heap.get? x=none:=by
  cases e:X.s₀.heap.get? x with
  | none=>rfl
  | some o =>
   obtain⟨o',e'⟩:=I1.base.there x o e (by rw[hex];simp);rw[hm.new]at e';cases e'
 have bb:=hb { s1 with heap:=h1,toks:=s1.toks } (Value.ref x::us) I2.kIn hl2;rw[Zt]at bb;refine wpAny_call (ZBJ (F.run _ X.stack _ _ ⟨Value.ref x::us,[]⟩ (Value.ref x::us) _ _ E0 (hr.make C us []) (I2.env0.make C us []) bb r2 hq) fun rr s' hq'=>?_);cases rr with
 | error ev=>exact False.elim hq'
 | ok fl =>
  cases fl with
  | ret u =>
   obtain⟨v,H',I3,rv,ev,od,g1,q3⟩:=I2.after hq';subst ev;obtain⟨⟨oe,vs',e1,e2,e3,e4,e5⟩,_⟩:=(show ObjOk X.prog X.w H' s'.heap x (ExN x (.ref C) od) from I3.hok x _ g1);exact⟨rv,I3.kIn,⟨oe,vs',e1,e2,e4,e5⟩,hx pins σ H' s' x od I3 g1 hx0 q3⟩
  | next=>exact False.elim hq'
  | brk=>exact False.elim hq'
  | cont=>exact False.elim hq'
end
section
variable {X:Cx}{pins:List (Addr × Obj)}{σ:St}{H H':Hp}{s:Shared}{h':Heap}{ch:List Addr}
theorem LI(I:Inv X pins σ H s)(hex:X.ex=[])(c:Sl (frs X.stack) ch s.heap h')(h0:∀b∈ch,X.s₀.heap.get? b=none)(hH:∀b,b∉ch->H' b=H b)(hn:∀b∈ch,H' b=none)(hc:∀b∈ch,H b=none\/∃φ,H b=some (.ext φ)) :
 Un X.fs [] X.H₀ H' X.s₀.heap h'/\HOk X.prog X.w H' h':=by
 have hx:∀b:Addr,b∉X.ex:=fun b z=>by rw[hex]at z;cases z
 have nl:∀b o,X.s₀.heap.get? b=some o->b≠X.env.locals:=fun b o e=>ZK (ZT (ZG e) I.ok.above)
 have nc:∀b o,X.s₀.heap.get? b=some o->b∉ch:=fun b o e z=>by rw[h0 b z]at e;cases e
 have tr:∀b o,H b=some o->(∀φ,o≠.ext φ)->b∉ch:=fun b o e n z=>by
  rcases hc b z with q | ⟨φ,q⟩
  ·rw[q]at e;cases e
  ·rw[q]at e;cases e;exact n φ rfl
 refine⟨⟨fun b o e n nb _=>?_,fun b o e n nb _=>?_,fun b o e n _=>?_,fun b o e _=>?_,fun b xs e=>?_,fun b o v e=>?_,fun b ps e=>?_⟩,fun a o e=>?_⟩
 ·exact(c b o (I.base.keep b o e n nb (hx b)) (nc b o e)).1 fun z=>(ZF.mp (I.stkSub b z)).elim (nl b o e) nb
 ·obtain⟨sl,e1⟩:=I.base.slot b o e n nb (hx b);obtain⟨sl2,e2⟩:=(c b _ e1 (nc b o e)).2;exact⟨sl2,e2⟩
 ·rw[hH b (nc b o e)];exact I.base.free b o e n (hx b)
 ·obtain⟨o1,e1⟩:=I.base.there b o e (hx b);obtain⟨sl2,e2⟩:=(c b _ e1 (nc b o e)).2;exact⟨_,e2⟩
 ·have q:=I.base.tups b xs e;rw[hH b (tr b _ q fun φ z=>by cases z)];exact q
 ·have q:=I.base.frzs b o v e;rw[hH b (tr b _ q fun φ z=>by cases z)];exact q
 ·obtain⟨m,q⟩:=I.base.tbls b ps e;exact⟨m,by rw[hH b (tr b _ q fun φ z=>by cases z)];exact q⟩
 ·have na:a∉ch:=fun z=>by rw[hn a z]at e;cases e
  rw[hH a na]at e;refine(I.hok a o e).stay (fun b u hb q=>(c b u q fun z=>?_).1 fun z=>?_) (fun b q=>?_) fun b xs q=>?_
  ·rcases hb with rfl | hb
   ·exact na z
   ·exact tr b _ hb (fun φ z=>by cases z) z
  ·have:=I.stkFree b z
   rcases hb with rfl | hb
   ·rw[e]at this;cases this
   ·rw[hb]at this;cases this
  ·rw[hH b (tr b _ q fun φ z=>by cases z)];exact q
  ·rw[hH b (tr b _ q fun φ z=>by cases z)];exact q
theorem EM(I:Inv X pins σ H s)(hex:X.ex=[]){b:Addr}(n:s.heap.get? b=none):X.s₀.heap.get? b=none:=by
 cases e:X.s₀.heap.get? b with
 | none=>rfl
 | some o =>
  obtain⟨o',e'⟩:=I.base.there b o e (by rw[hex];simp);rw[n]at e';cases e'
end
section
variable {P:Program}{w:World}{K:W.Frag}{mg:Str->Option Value}{base:Heap}{N:List Str}{qual:Str}{sc:Scope}{f:Addr}{cd:Value}{A:Around}{outer:List Env}{s0:Shared}{H0:Hp}{E:XK}
theorem Vd{pins:List (Addr × Obj)}{σ:St}{H:Hp}{s:Shared}{x C:Addr}{od:Option Addr}(I:Inv (By (CXE P w) P w K mg base N qual sc f cd A outer s0 H0 E) pins σ H s)(e:H x=some (ExN x (.ref C) od))(hx0:s0.heap.get? x=none)(q:E (.ref C) od (del H x)) :
 (By (CXE P w) P w K mg base N qual sc f cd A outer s0 H0 E).xe (.ref x) s:=by
 obtain⟨ex,_⟩:=(show ObjOk P w H s.heap x (ExN x (.ref C) od) from I.hok x _ e);refine M7 (base:=base) (L:=s0.heap.objs.size) (t:=none) I.ok.frames I.stack rfl ex (.inl rfl) fun h2 T a1 a2 a3=>?_
 have nT:=EM I rfl a2;obtain⟨u,hk⟩:=LI (H':=del H x) I rfl a3 (fun b z=>by rw[ZJ.mp z];exact hx0) (fun b z=>E9 fun r=>z (by rw[r];exact ZJ.mpr rfl)) (fun b z=>by rw[ZJ.mp z];exact Mh) (fun b z=>by rw[ZJ.mp z];exact .inr ⟨_,e⟩)
 have xT:T≠x:=fun z=>by
  obtain⟨_,_,g,_⟩:=ex;rw[<- z,a2]at g;cases g
 exact⟨x,_,od,T,del H x,rfl,I.os,I.bare,u,hk,a1,⟨hx0,nT⟩,⟨Mh,by rw[E9 xT];exact EK I.hok a2⟩,q⟩
theorem PN:Cw (CXE P w) (By (CXE P w) P w K mg base N qual sc f cd A outer s0 H0 E) E:=by
 intro pins σ H s ev s' I h;obtain⟨x,cls,od,T,H',rfl,ho,hb,u,hk,ex,⟨n1,n2⟩,⟨f1,f2⟩,hE⟩:=h;have J:Inv (By (CXE P w) P w K mg base N qual sc f cd A outer s0 H0 E) pins σ H' s':=I.call' ho u hk hb (ch:=[]) fun b z=>absurd z (by simp)
 refine M7 (base:=base) (L:=s0.heap.objs.size) (t:=some (T,.none)) J.ok.frames J.stack rfl ex (.inr ⟨T,rfl⟩) fun h2 T2 a1 a2 a3=>?_
 have two:∀b∈x::(Option.map (fun p:Addr × Value=>p.1) (some (T,Value.none))).toList,b=x\/b=T:=fun b z=>by
  rcases ZF.mp z with z | z
  ·exact .inl z
  ·exact .inr (ZJ.mp z)
 obtain⟨u2,hk2⟩:=LI (H':=H') J rfl a3 (fun b z=>by
  rcases two b z with rfl | rfl
  ·exact EM I rfl n1
  ·exact EM I rfl n2) (fun b z=>rfl) (fun b z=>by
  rcases two b z with rfl | rfl
  ·exact f1
  ·exact f2) (fun b z=>by
  rcases two b z with rfl | rfl
  ·exact .inl f1
  ·exact .inl f2)
 exact⟨x,cls,od,T2,H',rfl,J.os,J.bare,u2,hk2,a1,⟨EM I rfl n1,EM J rfl a2⟩,⟨f1,EK J.hok a2⟩,hE⟩
end
def GF(C:Addr)(f g:Str):Sp:=fun vs H Q _=>match vs with
 | [.ref x,y,z]=>H x=some (ExN x (.ref C) none)/\∀d,H d=none->Q .non (upd (upd (upd H x (ExN x (.ref C) (some d))) d (XdO d [(f,y)])) d (XdO d (Al g z [(f,y)])))
 | _=>False
abbrev XW:=Addr->Addr->Option Addr->St->Hp->Prop
abbrev TSX:=XW->St->Hp->Prop
section
variable {X:Cx}{K:W.Frag}{C fI:Addr}{fd:FuncData}{ps:List Str}{sp:Sp}{k:Nat}{e c:Expr}{es:List Expr}{cn n:Str}{pos np cpos p p3:Pos}{t:TA}{tc:TT}{ta tb:TSX}{sts rest:List Stmt}{b:Stmt}{bs:List Stmt}{ts:TS}{j:Nat}
end
end L2
namespace L2
open PySem PyProof.Rows
section
variable {prog:Program}{w:World}{A:Around}{E:Value->Shared->Prop}{s:Shared}{kd:SortKind}{El:Keyed->Prop}{κ:Keyed->Int}
variable {a₀:Array Keyed}{lo:Nat}{pe:Array (Nat × Nat × Nat)}
end
end L2
namespace L2
open PySem PySem.Spec PyProof.Rows PySem.W PySem.Calls
section
variable {P:Program}{w:World}{A:Around}{E:Value->Shared->Prop}{s:Shared}
end
section
variable {X:Cx}
end
section
variable {X:Cx}
end
end L2
namespace L2
open PySem PySem.Spec PyProof.Rows
section
variable {X:Cx}{K:W.Frag}
end
section
variable {X:Cx}{K:W.Frag}{o e:Expr}{apos cpos:Pos}{to:TE}{t:TA}
end
end L2
namespace L2
open PySem PyProof.Rows
section
variable {prog:Program}{w:World}{A:Around}{E:Value->Shared->Prop}{s:Shared}
end
section
variable {X:Cx}
end
end L2
namespace L2
open PySem PySem.Spec PyProof.Rows
end L2
namespace L2
open PySem PySem.Spec PyProof.Rows PySem.W
section
variable {X:Cx}{pins:List (Addr × Obj)}{σ:St}
structure MinSt(X:Cx)(pins:List (Addr × Obj))(σ:St)(l I S:Addr)(xs:List V)(J:Nat->Hp->Prop)(kf:Nat->Int)(j i:Nat)(vb:Value)(H:Hp)(s:Shared):Prop where
 inv:Inv X pins σ H s
 fI:A9 X pins H I
 fS:A9 X pins H S
 gS:∃tb c,s.heap.get? S=some (seqObj "list" #[vb,.int (kf i) tb] c)
 it:s.heap.IsListIter I l (j+1)
 rb:∃x,xs[i]? = some x/\RelV x vb
 at_:J (j+1) H
abbrev NF(X:Cx)(pins:List (Addr × Obj))(σ:St)(q:Addr)(xs:List V)(J:Nat->Hp->Prop)(kf:Nat->Int):Prop :=
 ∀(n:Nat) (x:V) (u:Value) (H:Hp) (s:Shared) (pl:List (Addr × Obj)),xs[n]? = some x->RelV x u->J n H->Inv X (pins++pl) σ H s ->
  wpAny (model X.prog X.w) X.A.in1 (call (.ref q) [u]) (fun y s'=>∃H' t,y=.int (kf n) t/\Inv X (pins++pl) σ H' s'/\J (n+1) H') (fun _ _=>False) s
theorem Tf {q l I S:Addr} {xs:List V} {J:Nat->Hp->Prop} {kf:Nat->Int} {R:Result->Shared->Prop} (hc:X.calm=true) (hSI:S≠I) (hlI:l≠I)
 (hl:∀n H,J n H->SqL X.K H l xs) (turn:NF X pins σ q xs J kf)
 (hR:∀i x v H s,xs[i]? = some x->RelV x v->(∀j,j < xs.length->kf i<=kf j/\(j < i->kf i < kf j))->J xs.length H->Inv X pins σ H s->R (.ok (.ret v)) s) :
 ∀(r j i:Nat) (vb:Value) (H:Hp) (s:Shared),xs.length - (j+1)=r->j+1<=xs.length->MinSt X pins σ l I S xs J kf j i vb H s->i<=j->(∀j',j'<=j->kf i<=kf j'/\(j' < i->kf i < kf j')) ->
  codeAny (model X.prog X.w) X.A (.builtin "min.loop" ⟨[.ref I,.ref q,.ref S],[]⟩) R s:=by
 have hname:(toString "min" ++ toString ".loop" : String) = "min.loop":=by decide
 intro r
 induction r with
 | zero =>
  intro j i vb H s hr hj M hij hbest;obtain⟨tb,c,gS⟩:=M.gS;obtain⟨xb,hxb,rb⟩:=M.rb;have hh:=M.inv.ok.hd hc;obtain⟨its,rv,pl,hz⟩:=M.inv.list (hl _ _ M.at_);have hlen:=rv.length;have W:=Walks.list (prog:=X.prog) (w:=X.w) (A:=X.A.in1) hh I l hlI its.toArray;have hsz:its.toArray.size=its.length:=ZI ..;have hin:j+1=its.length:=by lia
  refine ZBS PySem.F.entry_min_loop ?_;rw[ZBZ PySem.F.plain_min_loop _];show wpAny _ X.A.in1 (seqItems? (.ref S) >>= _) _ _ _;refine ZA (wpAny_seqItems gS rfl ?_);show wpAny _ X.A.in1 (tryCatch (pyNext (.ref I)) _ >>= _) _ _ _;refine ZA (ZBs (W.done _ _ _ ⟨by rw[hsz,<- hin];exact M.it,pl.isList⟩ fun h' tk' hk'=>?_));have I1:Inv X pins σ H { s with heap:=h',toks:=tk' }:=M.inv.turned (fun b o n e=>hk' b o (by simpa using n) e) M.fI.1 M.fI.2.1 M.fI.2.2.2.1 M.fI.2.2.2.2.1 M.fI.2.2.2.2.2;have hS':=hk' S _ (by simpa using hSI) gS;have s1:=Z4 h' S (Obj.mapSeq fun _=>(#[]:Array Value));show wpAny _ X.A.in1 (updateSeq S (fun _=>#[]) >>= _) _ _ _;refine ZA ?_;refine wpAny_updateSeq hS' rfl (ZA (wpAny_letGo (ZB ?_)));have I2:=I1.turned (t':=tk') (h':=h'.update S (Obj.mapSeq fun _=>(#[]:Array Value))) (fun b o n e=>(s1.2 b n).trans e) M.fS.1 M.fS.2.1 M.fS.2.2.2.1 M.fS.2.2.2.2.1 M.fS.2.2.2.2.2;exact hR i xb vb H _ hxb rb (fun j' hj'=>hbest j' (by lia)) (by rw[show xs.length=j+1 by lia];exact M.at_) I2
 | succ r ih =>
  intro j i vb H s hr hj M hij hbest;obtain⟨tb,c,gS⟩:=M.gS;obtain⟨xb,hxb,rb⟩:=M.rb;have hh:=M.inv.ok.hd hc;obtain⟨its,rv,pl,hz⟩:=M.inv.list (hl _ _ M.at_);have hlen:=rv.length;have W:=Walks.list (prog:=X.prog) (w:=X.w) (A:=X.A.in1) hh I l hlI its.toArray;have hsz:its.toArray.size=its.length:=ZI ..;have hlt:j+1 < xs.length:=by lia
  refine ZBS PySem.F.entry_min_loop ?_;rw[ZBZ PySem.F.plain_min_loop _];show wpAny _ X.A.in1 (seqItems? (.ref S) >>= _) _ _ _;refine ZA (wpAny_seqItems gS rfl ?_);show wpAny _ X.A.in1 (tryCatch (pyNext (.ref I)) _ >>= _) _ _ _;refine ZA (ZBs (W.item (j+1) _ _ _ (by rw[hsz];lia) ⟨M.it,pl.isList⟩ fun v h' tk' hP hst' hk'=>?_));have hv:its[j+1]? = some v:=by simpa using hP
  obtain⟨x,hx⟩:∃x,xs[j+1]? = some x:=⟨_,ZE hlt⟩;obtain⟨u,hu,ru⟩:=rv.get hx;rw[hv]at hu;cases hu;have I1:Inv X pins σ H { s with heap:=h',toks:=tk' }:=M.inv.turned (fun b o n e=>hk' b o (by simpa using n) e) M.fI.1 M.fI.2.1 M.fI.2.2.2.1 M.fI.2.2.2.2.1 M.fI.2.2.2.2.2;have gS1:=hk' S _ (by simpa using hSI) gS;obtain⟨oI',hoI',hoc,hod⟩:=id hst'.1
  have I2:=I1.pinned (fp:=[I,S]) (fun b hb=>by
   rcases ZF.mp hb with rfl | hb
   ·exact M.fI
   ·rw[ZJ.mp hb];exact M.fS) (fun b hb=>by
   rcases ZF.mp hb with rfl | hb
   ·exact⟨oI',hoI',fun v z=>by rw[hod]at z;cases z⟩
   ·rw[ZJ.mp hb];exact⟨_,gS1,fun v z=>by cases z⟩)
  show wpAny _ X.A.in1 (tryCatch (holding [v] (call (.ref q) [v])) _ >>= _) _ _ _;refine ZA (ZBs (Zh (ZZ (turn (j+1) x v H _ _ hx ru M.at_ I2) (fun y s2 he=>?_) fun _ _ hF=>hF.elim)));obtain⟨H2,t2,rfl,I3,hJ2⟩:=he;have pI:=I3.pin (I,oI') (ZU _ (ZU _ (CT (by simp) hoI')));have pS:=I3.pin (S,_) (ZU _ (ZU _ (CT (by simp) gS1)));have I4:=I3.unpinned;have fI2:A9 X pins H2 I:=⟨pI.2.1,M.fI.2⟩;have fS2:A9 X pins H2 S:=⟨pS.2.1,M.fS.2⟩;show wpAny _ X.A.in1 (tryCatch (holding [v,.int (kf (j+1)) t2] (richCompare .Lt (.int (kf (j+1)) t2) (.int (kf i) tb) >>= _)) _ >>= _) _ _ _;refine ZA (ZBs (Zh (ZA (CmpOf.ints_lt (prog:=X.prog) (w:=X.w) (A:=X.A.in1) (P:=fun i v=>∃t,v=.int (kf i) t) kf (fun i v h=>h) (j+1) i _ _ _ _ _ ⟨t2,rfl⟩ ⟨tb,rfl⟩ ?_))));refine ZA (Zh (ZBM ?_));refine ZA (wpAny_letGo (ZB ?_))
  by_cases hb':kf (j+1) < kf i
  ·have s1:=Z4 s2.heap S (Obj.mapSeq fun _=>#[v,.int (kf (j+1)) t2]);obtain⟨c2,hc2⟩:∃c2,(s2.heap.update S (Obj.mapSeq fun _=>#[v,.int (kf (j+1)) t2])).get? S=some (seqObj "list" #[v,.int (kf (j+1)) t2] c2):=⟨_,get?_update_seq pS.1 fun _=>#[v,.int (kf (j+1)) t2]⟩;simp only[hb',decide_true,if_true];refine ZA ?_;refine wpAny_updateSeq pS.1 rfl (ZA (wpAny_letGo ?_));rw[hname];have I5:=I4.turned (t':=s2.toks) (h':=s2.heap.update S (Obj.mapSeq fun _=>#[v,.int (kf (j+1)) t2])) (fun b o n e=>(s1.2 b n).trans e) fS2.1 fS2.2.1 fS2.2.2.2.1 fS2.2.2.2.2.1 fS2.2.2.2.2.2;refine ZB ⟨ZBT PySem.F.plain_min_loop _,ih (j+1) (j+1) v H2 _ (by lia) hlt ⟨I5,fI2,fS2,⟨t2,c2,hc2⟩,⟨oI',(s1.2 I hSI.symm).trans pI.1,hoc,hod⟩,⟨x,hx,ru⟩,hJ2⟩ (ZD _) fun j' hj'=>?_⟩
   by_cases e:j'=j+1
   ·subst e;exact⟨by lia,fun _=>by lia⟩
   ·have hb1:=hbest j' (by lia);have hb2:=hb1.1;exact⟨by lia,fun _=>by lia⟩
  ·simp only[hb',decide_false,ZB6,if_false];refine ZA (wpAny_letGo ?_);rw[hname];refine ZB ⟨ZBT PySem.F.plain_min_loop _,ih (j+1) i vb H2 _ (by lia) hlt ⟨I4,fI2,fS2,⟨tb,c,pS.1⟩,⟨oI',pI.1,hoc,hod⟩,⟨xb,hxb,rb⟩,hJ2⟩ (by lia) fun j' hj'=>?_⟩
   by_cases e:j'=j+1
   ·subst e;exact⟨by lia,fun _=>by lia⟩
   ·exact hbest j' (by lia)
theorem Tc {q l:Addr} {xs:List V} {J:Nat->Hp->Prop} {kf:Nat->Int} {H:Hp} {s:Shared} {Q:VK} {E:Value->Shared->Prop} (hc:X.calm=true) (I0:Inv X pins σ H s) (hpos:0 < xs.length) (h0:J 0 H)
 (hl:∀n H,J n H->SqL X.K H l xs) (turn:NF X pins σ q xs J kf)
 (hQ:∀i x H,xs[i]? = some x->(∀j,j < xs.length->kf i<=kf j/\(j < i->kf i < kf j))->J xs.length H->Q x H) :
 wpAny (model X.prog X.w) X.A (call (.builtin "min") [.ref l] [(Str.ofString "key",.ref q)]) (EP X pins σ Q) E s:=by
 have hname:(toString "min" ++ toString ".loop" : String) = "min.loop":=by decide
 have hh:=I0.ok.hd hc;obtain⟨its,rv,pl,hz⟩:=I0.list (hl _ _ h0);have hlen:=rv.length;obtain⟨ol,_,hol,_⟩:=id pl;have hll:l < s.heap.objs.size:=ZG hol;refine kmk_tree PySem.F.kind_min PySem.F.plain_min PySem.F.entry_min (kmk_min_key _ _) ?_;show wpAny _ X.A.in1 (Builtin.Builtins.bindParams "min" ["key","default"] 0 ⟨[],[(Str.ofString "key",.ref q)]⟩ >>= _) _ _ s;refine ZA (wpAny_of_eq (show Builtin.Builtins.bindParams "min" ["key","default"] 0 ⟨[],[(Str.ofString "key",.ref q)]⟩=pure [some (.ref q),none] from rfl) ?_);refine ZA (ZB ?_);refine ZA (wpAny_pyIter_list pl.isList ?_);refine ZA (wpAny_newList ?_ (ZX _));rw[hname];refine ZB ⟨ZBT PySem.F.plain_min_loop _,?_⟩;generalize hI:s.heap.objs.size=I at *;generalize hh1:s.heap.push { cls:=.type "list_iterator",data:=.fields #[.ref l,.int 0 0] } = h1 at *;generalize hS:h1.objs.size=S at *;have hSI':S=I+1:=by rw[<- hS,<- hh1,<- hI];exact size_push' ..
 have hSI:S≠I:=by lia
 have hlI:l≠I:=ZK hll;have k1:∀b o,s.heap.get? b=some o->(h1.push (seqObj "list" #[] 0)).get? b=some o:=fun b o e=>ZH _ (by rw[<- hh1];exact ZH _ e)
 have gI:(h1.push (seqObj "list" #[] 0)).get? I=some { cls:=.type "list_iterator",data:=.fields #[.ref l,.int 0 0] }:=ZH _ (by rw[<- hh1,<- hI];exact ZN _ rfl);have gS:(h1.push (seqObj "list" #[] 0)).get? S=some (seqObj "list" #[] 0):=by rw[<- hS];exact ZN _ rfl
 have fI:A9 X pins H I:=I0.fpOk (ZBe hI) (I0.hok.fresh (ZBe hI));have fS:A9 X pins H S:=I0.fpOk (by lia) (I0.hok.fresh (by lia));have W:=Walks.list (prog:=X.prog) (w:=X.w) (A:=X.A.in1) hh I l hlI its.toArray;have hsz:its.toArray.size=its.length:=ZI ..;refine ZBS PySem.F.entry_min_loop ?_;rw[ZBZ PySem.F.plain_min_loop _];show wpAny _ X.A.in1 (seqItems? (.ref S) >>= _) _ _ _;refine ZA (wpAny_seqItems gS rfl ?_);show wpAny _ X.A.in1 (tryCatch (pyNext (.ref I)) _ >>= _) _ _ _
 have pl1:(h1.push (seqObj "list" #[] 0)).IsList l its.toArray:=by
  obtain⟨o,k,e,z⟩:=pl;have pl':PlainL (h1.push (seqObj "list" #[] 0)) l its.toArray:=⟨o,k,k1 _ _ e,z⟩;exact pl'.isList
 refine ZA (ZBs (W.item 0 _ _ _ (by rw[hsz];lia) ⟨⟨_,gI,rfl,rfl⟩,pl1⟩ fun v h' tk' hP hst' hk'=>?_));have hv:its[0]? = some v:=by simpa using hP
 obtain⟨x,hx⟩:∃x,xs[0]? = some x:=⟨_,ZE hpos⟩;obtain⟨u,hu,ru⟩:=rv.get hx;rw[hv]at hu;cases hu;have I1:Inv X pins σ H { s with heap:=h',toks:=tk' }:=(I0.kept (t':=tk') k1).turned (t':=tk') (fun b o n e=>hk' b o (by simpa using n) e) fI.1 fI.2.1 fI.2.2.2.1 fI.2.2.2.2.1 fI.2.2.2.2.2;have gS1:=hk' S _ (by simpa using hSI) gS;obtain⟨oI',hoI',hoc,hod⟩:=id hst'.1
 have I2:=I1.pinned (fp:=[I,S]) (fun b hb=>by
  rcases ZF.mp hb with rfl | hb
  ·exact fI
  ·rw[ZJ.mp hb];exact fS) (fun b hb=>by
  rcases ZF.mp hb with rfl | hb
  ·exact⟨oI',hoI',fun v z=>by rw[hod]at z;cases z⟩
  ·rw[ZJ.mp hb];exact⟨_,gS1,fun v z=>by cases z⟩)
 show wpAny _ X.A.in1 (tryCatch (holding [v] (call (.ref q) [v])) _ >>= _) _ _ _;refine ZA (ZBs (Zh (ZZ (turn 0 x v H _ _ hx ru h0 I2) (fun y s2 he=>?_) fun _ _ hF=>hF.elim)));obtain⟨H2,t2,rfl,I3,hJ2⟩:=he;have pI:=I3.pin (I,oI') (ZU _ (ZU _ (CT (by simp) hoI')));have pS:=I3.pin (S,_) (ZU _ (ZU _ (CT (by simp) gS1)));have I4:=I3.unpinned;have fI2:A9 X pins H2 I:=⟨pI.2.1,fI.2⟩;have fS2:A9 X pins H2 S:=⟨pS.2.1,fS.2⟩;have s1:=Z4 s2.heap S (Obj.mapSeq fun _=>#[v,.int (kf 0) t2]);obtain⟨c2,hc2⟩:∃c2,(s2.heap.update S (Obj.mapSeq fun _=>#[v,.int (kf 0) t2])).get? S=some (seqObj "list" #[v,.int (kf 0) t2] c2):=⟨_,get?_update_seq pS.1 fun _=>#[v,.int (kf 0) t2]⟩;show wpAny _ X.A.in1 (updateSeq S (fun _=>#[v,.int (kf 0) t2]) >>= _) _ _ _;refine ZA ?_;refine wpAny_updateSeq pS.1 rfl ?_;rw[hname];have I5:=I4.turned (t':=s2.toks) (h':=s2.heap.update S (Obj.mapSeq fun _=>#[v,.int (kf 0) t2])) (fun b o n e=>(s1.2 b n).trans e) fS2.1 fS2.2.1 fS2.2.2.2.1 fS2.2.2.2.2.1 fS2.2.2.2.2.2;refine ZB ⟨ZBT PySem.F.plain_min_loop _,Tf hc hSI hlI hl turn (fun i x v H s hi hr hb hJ hI=>⟨x,H,hI,hr,hQ i x H hi hb hJ⟩) _ 0 0 v H2 _ rfl hpos ⟨I5,fI2,fS2,⟨t2,c2,hc2⟩,⟨oI',(s1.2 I hSI.symm).trans pI.1,hoc,hod⟩,⟨x,hx,ru⟩,hJ2⟩ (ZD _) fun j' hj'=>?_⟩;have e:j'=0:=by lia
 subst e;exact⟨by lia,fun h=>absurd h (Zd _)⟩
end
abbrev FT(scope:Scope)(L:Addr)(a b:Str)(ca cb:Addr)(qual:Str)(lam c':Addr):Env:=newEnv scope L mainGlobals [(a,ca),(b,cb)] (qual ++ ".<locals>.") (some lam) (.ref c') none builtinsNs
def IN(P:Program)(w:World)(K:W.Frag)(mg:Str->Option Value)(base:Heap)(scope:Scope)(a b x:Str)(ca cb:Addr)(qual:Str)(lam c':Addr)(A:Around)(outer:List Env)(s:Shared)(H:Hp):Cx where
 prog:=P
 w:=w
 K:=K
 mg:=mg
 base:=base
 A:=A.deeper (FT scope s.heap.objs.size a b ca cb qual lam c')
 N:=[x,a,b]
 s₀:=s
 H₀:=H
 env:=FT scope s.heap.objs.size a b ca cb qual lam c'
 outer:=outer
 stack:=FT scope s.heap.objs.size a b ca cb qual lam c'::outer
 ex:=[]
 calm:=true
 fn:=fun _=>false
 pn:=[]
 xe:=fun _ _=>False
theorem look2{a b y:Str}{ca cb c:Addr}(e:List.lookup y [(a,ca),(b,cb)]=some c):(y=a/\c=ca)\/(y=b/\c=cb):=by
 rw[Z3]at e
 by_cases z:y=a
 ·subst z;simp at e;exact .inl ⟨rfl,e.symm⟩
 ·rw[beq_eq_false_iff_ne.mpr z]at e;have e:List.lookup y [(b,cb)]=some c:=e;rw[Z3]at e
  by_cases z:y=b
  ·subst z;simp at e;exact .inr ⟨rfl,e.symm⟩
  ·rw[beq_eq_false_iff_ne.mpr z]at e;cases e
theorem Ph {P:Program} {w:World} {K:W.Frag} {mg:Str->Option Value} {base:Heap} {k:Nat} {lam ca cb c':Addr} {qual a b x:Str} {params:Arguments} {body:Expr} {scope:Scope} {pm ctv:Value} {spB:V->Hp->VK->Prop} {vA vB:V} {uA uB:Value}
 (hl:base.get? lam=some (kla_obj "<lambda>" qual params body scope [(a,ca),(b,cb)] pm c' ctv)) (hca:base.IsCell ca (some uA)) (rA:RelV vA uA) (hcb:base.IsCell cb (some uB)) (rB:RelV vB uB) (hab:a≠b) (hcab:ca≠cb)
 (hx:scope.names.lookup x=some .local) (ha:scope.names.lookup a=some .free) (hb:scope.names.lookup b=some .free) (hfr:∀y,scope.names.lookup y=some .free->y=a\/y=b) (hco:scope.isCoroutine=false) (hgen:scope.isGenerator=false) (hkind:scope.kind=.function)
 (hcell:∀y∈scope.names,y.2≠.cell)
 (hbody:∀(A:Around) (outer:List Env) (s:Shared) (H:Hp) (v:V) (Q:VK),Room k (A.deeper (FT scope s.heap.objs.size a b ca cb qual lam c'))->spB v H Q ->
   ∃te,PE (IN P w K mg base scope a b x ca cb qual lam c' A outer s H) body te/\te [some v,some vA,some vB] H Q) :
 FnOk P w K mg base CX0 (k+1) lam (kla_fn "<lambda>" qual params body scope [(a,ca),(b,cb)] pm (.ref c') ctv) [x] (EU c' qual spB):=by
 refine⟨fun vs H Q E h=>by unfold EU at h;split at h;rfl;exact h.elim,fun A outer s H args us vs Q E hr e0 hbd r hsp=>?_⟩
 match vs,hsp,r with
 | [v],⟨hcd,hq⟩,r =>
 obtain⟨u,rfl,ru⟩:=Bb r;have lim:s.heap.NoLimit:=e0.mod.nolimit.keeps fun b o e=>(e0.bs b o e).1
 obtain⟨hcr,_⟩:=e0.hok _ _ hcd;refine kla_callFunE hr.depth (e0.bs _ _ hl).1 rfl hco hgen rfl hcr (hbd _ _ _ _ ?_);refine wpAny_newFunctionEnv hcell (fun y hy=>by rw[ZJ.mp hy];exact hx) (fun h₁ hns hsb=>⟨lim.fresh _ hsb,?_⟩) hkind;have hk₁:∀b o,s.heap.get? b=some o->h₁.get? b=some o:=fun b o e=>hsb.extBut b o (ZK (ZG e)) (ZH _ e)
 refine kla_codeExpr ?_;obtain⟨te,ht,hte⟩:=hbody A outer s H v Q (hr.deeper _) hq
 have hca1:h₁.IsCell ca (some uA):=by
  obtain⟨o,e,d⟩:=hca;exact⟨o,hk₁ _ _ (e0.bs _ _ e).1,d⟩
 have hcb1:h₁.IsCell cb (some uB):=by
  obtain⟨o,e,d⟩:=hcb;exact⟨o,hk₁ _ _ (e0.bs _ _ e).1,d⟩
 have hcaH:H ca=none:=by
  obtain⟨o,e,d⟩:=hca;exact(e0.bs _ _ e).2
 have hcbH:H cb=none:=by
  obtain⟨o,e,d⟩:=hcb;exact(e0.bs _ _ e).2
 have noA:∀b':Addr,b'∉(IN P w K mg base scope a b x ca cb qual lam c' A outer s H).ex:=fun b z=>absurd (show b∈([]:List Addr) from z) (by simp)
 have kindc:∀y,scope.names.lookup y≠some .cell:=fun y z=>hcell _ (PySem.mem_of_lookup z) rfl
 have la:List.lookup a [(a,ca),(b,cb)]=some ca:=by simp
 have lb:List.lookup b [(a,ca),(b,cb)]=some cb:=by
  rw[Z3,beq_eq_false_iff_ne.mpr (Ne.symm hab)];simp
 have I:Inv (IN P w K mg base scope a b x ca cb qual lam c' A outer s H) [] [some v,some vA,some vB] H { s with heap:=h₁,toks:=s.toks+[(x,u)].length }:=by
  refine⟨⟨e0.mod,hkind,rfl,rfl,ZD _,fun y z c h1 h2=>?_,fun y hy=>?_,fun y c hf _=>?_,fun _=>hr.hd,Around.frames_deeper e0.frames,.inr ⟨rfl,rfl⟩,fun b z=>absurd z (noA b),e0.bs,e0.bsz,fun b _ _=>noA b,fun b z=>absurd z (noA b),e0.funs,e0.frf⟩,
   rfl,e0.bare,Un.kept hk₁,⟨_,hns,fun i y z h1 h2 h3=>?_⟩,fun y c h=>?_,e0.hok.fresh (ZD _),fun y c h=>?_,fun p hp=>absurd (show p∈([]:List (Addr × Obj)) from hp) (by simp),e0.hok.kept hk₁,rfl⟩
  ·rcases look2 h1 with ⟨e1,e2⟩ | ⟨e1,e2⟩ <;> rcases look2 h2 with ⟨e3,e4⟩ | ⟨e3,e4⟩
   ·rw[e1,e3]
   ·exact absurd (e2.symm.trans e4) hcab
   ·exact absurd (e4.symm.trans e2) hcab
   ·rw[e1,e3]
  ·have hy:scope.names.lookup y=some .cell\/scope.names.lookup y=some .free:=hy
   rcases hy with hy | hy
   ·exact absurd hy (kindc y)
   ·rcases hfr y hy with rfl | rfl
    ·exact⟨ca,la⟩
    ·exact⟨cb,lb⟩
  ·cases hf
  ·match i,h1,h2 with
   | 0,h1,h2 =>
    cases h1;cases h2;exact⟨u,ru,.inl ⟨hx,by simp⟩⟩
   | 1,h1,h2 =>
    cases h1;cases h2;exact⟨uA,rA,.inr ⟨.inr ha,ca,la,hca1⟩⟩
   | 2,h1,h2 =>
    cases h1;cases h2;exact⟨uB,rB,.inr ⟨.inr hb,cb,lb,hcb1⟩⟩
   | n+3,h1,h2=>cases h2
  ·rcases look2 h with ⟨_,rfl⟩ | ⟨_,rfl⟩
   ·exact⟨_,hca1⟩
   ·exact⟨_,hcb1⟩
  ·rcases look2 h with ⟨_,rfl⟩ | ⟨_,rfl⟩
   ·exact hcaH
   ·exact hcbH
 refine ZZ (ht [] _ _ _ _ I hte) (fun u' s' hs=>?_) fun e s' hs=>False.elim hs
 obtain⟨v',H',J,rv,q⟩:=hs;exact⟨v',H',J.os,J.bare,J.base,J.hok,rv,q⟩
section
variable {X:Cx}{pins:List (Addr × Obj)}{σ:St}{H:Hp}{s:Shared}
theorem RT {k:Nat} {f:Addr} {fd:FuncData} {ps:List Str} {sp:Sp} {us:List Value} {vs:List V} {Q:VK} {E:Value->Shared->Prop} (I:Inv X pins σ H s) (F:FnOk X.prog X.w X.K X.mg (Ca X H s) CX0 k f fd ps sp) (hr:Room k X.A.in1) (hb:BindsTo s fd ⟨us,[]⟩ (ps.zip us))
 (r:Vals vs us) (h:sp vs H Q E0):wpAny (model X.prog X.w) X.A.in1 (call (.ref f) us) (EP X pins σ Q) E s:=by
 refine wpAny_call (ZBJ (F.run X.A.in1 X.stack s H ⟨us,[]⟩ us vs Q E0 hr (Ro I).in1 hb r h) fun r s' hq=>?_);cases r with
 | error e=>exact False.elim hq
 | ok fl =>
  cases fl with
  | ret u=>exact I.after hq
  | next=>exact False.elim hq
  | brk=>exact False.elim hq
  | cont=>exact False.elim hq
end
section
variable {X:Cx}{Pt c:Addr}{k i j:Nat}{a b x:Str}{p pos kpos lpos:Pos}{params:Arguments}{body:Expr}{scope:Scope}{e:Expr}{te:TE}{qual:Str}{spB:V->V->V->Hp->VK->Prop}
def RO(K:W.Frag)(Pt:Addr)(lpos:Pos)(qual:Str)(i j:Nat)(spB:V->V->V->Hp->VK->Prop)(te:TE):TE:=fun σ H Q=>te σ H fun y H1=>∃l xs vA vB,y=.ref l/\0 < xs.length/\σ[i]? = some (some vA)/\σ[j]? = some (some vB)/\Lam Pt lpos qual H1 /\
 ∀c' H2,Grow Pt H1 H2->Lam Pt lpos qual H2->H2 c'=some (CdO c' qual)->∃(J:Nat->Hp->Prop) (kf:Nat->Int),J 0 H2/\(∀n H3,J n H3->SqL K H3 l xs/\H3 c'=some (CdO c' qual)) /\
  (∀n v H3,xs[n]? = some v->J n H3->spB vA vB v H3 fun y H4=>y=.int (kf n)/\J (n+1) H4) /\
  ∀n v H3,xs[n]? = some v->(∀m,m < xs.length->kf n<=kf m/\(m < n->kf n < kf m))->J xs.length H3->Q v H3
theorem TV {K:W.Frag} (he:PE X e te) (hm:X.mg "min" = none) (hr:Room (k+1) X.A) (hc:X.calm=true) (hcode:X.env.code=.ref c) (hcK:codeHdIn X.K c Pt=true) (hbm:BMn X.mg X.base)
 (hq:X.env.qual ++ "<lambda>" = qual) (hdef:defaultsOf params X.env=([],[])) (hNi:X.N[i]? = some a) (hNj:X.N[j]? = some b)
 (hcl:∀ca cb,X.env.cells.lookup a=some ca->X.env.cells.lookup b=some cb->closureFor scope X.env=pure [(a,ca),(b,cb)]) (hka:X.env.kindOf a=some .cell) (hkb:X.env.kindOf b=some .cell) (hfa:X.fn a=true) (hfb:X.fn b=true) (hab:a≠b)
 (hbind:∀(u pm ctv:Value) (ca cb c':Addr),bindArgs (kla_fn "<lambda>" qual params body scope [(a,ca),(b,cb)] pm (.ref c') ctv) ⟨[u],[]⟩=pure [(x,u)])
 (hF:∀(base':Heap) (lam ca cb c':Addr) (pm ctv uA uB:Value) (vA vB:V),(∀b o,X.base.get? b=some o->base'.get? b=some o)->base'.get? lam=some (kla_obj "<lambda>" qual params body scope [(a,ca),(b,cb)] pm c' ctv)->ca≠cb ->
   base'.IsCell ca (some uA)->RelV vA uA->base'.IsCell cb (some uB)->RelV vB uB->FnOk X.prog X.w X.K X.mg base' CX0 k lam (kla_fn "<lambda>" qual params body scope [(a,ca),(b,cb)] pm (.ref c') ctv) [x] (EU c' qual (spB vA vB)))
 (hg:Gl X "min":=by rfl) (hK:X.K=K:=by rfl)
 (hst:starEach [e] X.env=(false,eval e X.env)::starEach [] X.env:=by rfl) :
 PE X (.Call (.Name "min" p) [e] [⟨some "key",.Lambda params body scope lpos,kpos⟩] pos) (RO K Pt lpos qual i j spB te):=by
 intro pins s σ H Q I h;subst hq hK;refine wpAny_Call_Name_kw (Ct I hg hm (show bootBuiltins "min" = some (.builtin "min") by kernel_rfl) ?_);refine callWith_kw (e:=e) (rest:=[]) (id:="min") ?_ (by rw[hst];rfl) (by rw[hst];rfl)
 refine thn ((AA he AB hst) pos pins s σ H (fun vs H1=>match vs with | [y]=>(∃l xs vA vB,y=.ref l/\0 < xs.length/\σ[i]? = some (some vA)/\σ[j]? = some (some vB)/\Lam Pt lpos (X.env.qual ++ "<lambda>") H1 /\
  ∀c' H2,Grow Pt H1 H2->Lam Pt lpos (X.env.qual ++ "<lambda>") H2->H2 c'=some (CdO c' (X.env.qual ++ "<lambda>"))->∃(J:Nat->Hp->Prop) (kf:Nat->Int),J 0 H2/\(∀n H3,J n H3->SqL X.K H3 l xs/\H3 c'=some (CdO c' (X.env.qual ++ "<lambda>"))) /\
   (∀n v H3,xs[n]? = some v->J n H3->spB vA vB v H3 fun y H4=>y=.int (kf n)/\J (n+1) H4) /\
   ∀n v H3,xs[n]? = some v->(∀m,m < xs.length->kf n<=kf m/\(m < n->kf n < kf m))->J xs.length H3->Q v H3) | _=>False) I h) fun us s1 ⟨vs,H1,I1,r1,q1⟩=>?_
 match vs,r1,q1 with
 | [_],.cons rx .nil,⟨l,xs,vA,vB,ex,hpos,hvA,hvB,hL,hQ⟩ =>
 subst ex;cases rx;obtain⟨ps,hP,htr,hcs⟩:=id hL
 have fin:∀(H2:Hp) (s2:Shared) (lam c' ca cb:Addr) (pm ctv:Value),Inv X pins σ H2 s2->X.env.cells.lookup a=some ca->X.env.cells.lookup b=some cb->s2.heap.get? lam=some (kla_obj "<lambda>" (X.env.qual ++ "<lambda>") params body scope [(a,ca),(b,cb)] pm c' ctv) ->
  H2 lam=none->lam≠X.env.locals->lam∉X.fs->Grow Pt H1 H2->Lam Pt lpos (X.env.qual ++ "<lambda>") H2->H2 c'=some (CdO c' (X.env.qual ++ "<lambda>")) ->
  wpAny (model X.prog X.w) X.A (call (.builtin "min") [.ref l] [(Str.ofString "key",.ref lam)]) (EP X pins σ Q) X.xe s2:=by
  intro H2 s2 lam c' ca cb pm ctv I2 hla hlb hf hn hnl hnf hG hL2 hc';obtain⟨J,kf,h0,hJ,hturn,hend⟩:=hQ c' H2 hG hL2 hc';have I3:=I2.pin1 hf hn hnl hnf (fun v z=>by cases z);have hcab:ca≠cb:=fun z=>hab (I2.ok.inj a b ca hla (by rw[hlb,z]))
  refine thn (Tc (J:=J) (kf:=kf) (E:=X.xe) hc I3 hpos h0 (fun n H h=>(hJ n H h).1) (fun n y u H s pl hy ru hj I4=>?_) (fun n y H hy hb hj=>hend n y H hy hb hj)) fun u s3 ⟨y,H3,I5,r5,q5⟩=>⟨y,H3,I5.unpin1,r5,q5⟩
  have hl3:=(I4.pin (lam,_) (ZU _ (Zz _ (Zl ..))));obtain⟨m,hns,hloc⟩:=I4.loc;obtain⟨uA,rA,lookA⟩:=hloc i a vA hNi hvA (.inr (.inl hka));obtain⟨uB,rB,lookB⟩:=hloc j b vB hNj hvB (.inr (.inl hkb))
  rcases lookA with ⟨z,_⟩ | ⟨_,ca',e1,e2⟩
  ·rw[hka]at z;cases z
  rcases lookB with ⟨z,_⟩ | ⟨_,cb',e3,e4⟩
  ·rw[hkb]at z;cases z
  rw[hla]at e1;cases e1;rw[hlb]at e3;cases e3
  have lamS:lam∉frs X.stack:=fun z=>by
   rcases ZF.mp (I4.stkSub _ z) with z | z
   ·exact hl3.2.2.1 z
   ·exact hl3.2.2.2.1 z
  have cellS:∀y c,X.fn y=true->X.env.cells.lookup y=some c->c∉frs X.stack:=fun y c hy hc z=>by
   rcases ZF.mp (I4.stkSub _ z) with z | z
   ·exact I4.cne _ _ hc z
   ·obtain⟨_,o,ho,_⟩:=I4.ok.funs.mem z;exact absurd (ZT (ZG ho) (I4.ok.cab y c hy hc)) (Zd _)
  have cA:(Ca X H s).IsCell ca (some uA):=by
   obtain⟨o,ho,hd'⟩:=e2;exact⟨o,Em ho (I4.freeC _ _ hla) (cellS a ca hfa hla),hd'⟩
  have cB:(Ca X H s).IsCell cb (some uB):=by
   obtain⟨o,ho,hd'⟩:=e4;exact⟨o,Em ho (I4.freeC _ _ hlb) (cellS b cb hfb hlb),hd'⟩
  have F:=hF (Ca X H s) lam ca cb c' pm ctv uA uB vA vB (MH I4) (Em hl3.1 hl3.2.1 lamS) hcab cA rA cB rB;refine thn (RT (vs:=[y]) (us:=[u]) (Q:=fun v H4=>v=.int (kf n)/\J (n+1) H4) I4 F hr.in1 (.of_eq (hbind u pm ctv ca cb c')) (.cons ru .nil) ⟨(hJ n H hj).2,hturn n y H hy hj⟩) fun y2 s2 h2=>?_
  obtain⟨y3,H4,I6,r6,q6,q7⟩:=h2;subst q6;obtain⟨t,rfl⟩:=r6;exact⟨H4,t,rfl,I6,q7⟩
 show wpAny _ _ (evalAll ((do let v <- eval (.Lambda params body scope lpos) X.env;standAt pos;pure v)::[])) _ _ s1;obtain⟨ca,hla⟩:=I1.ok.has a (.inl hka);obtain⟨cb,hlb⟩:=I1.ok.has b (.inl hkb);have hcl':=hcl ca cb hla hlb;have gl:∀{s:Shared} {H:Hp},Inv X pins σ H s->s.heap.Ns mainGlobals X.mg:=fun J=>J.mod.glob.keeps J.bk
 have C:CodeHd s1.heap c Pt:=codeHd_of_K I1.kIn hcK;have hPt:s1.heap.get? Pt=some (tabObj ps):=I1.hok _ _ hP
 have gP:mainGlobals≠Pt:=fun z=>by
  obtain⟨o,es,ep,e,hd,_⟩:=gl I1;rw[z,hPt]at e;cases e;cases hd
 have hB:s1.heap.BuiltinsAt X.mg Pt:=by
  obtain⟨bm,ob,b1,b2,b3,b4,b5,b6⟩:=hbm;have e:=I1.bk _ _ b3;refine⟨bm,ob,b1,b2,fun z=>?_,fun z=>?_,e,b4,b5,b6⟩
  ·obtain⟨o,es,ep,e',hd,_⟩:=gl I1;rw[z,e']at e;cases e;rw[hd]at b6;cases b6
  ·rw[z,hPt]at e;cases e;cases b4
 refine wpAny_evalAll_cons (ZA (kla_eval hdef ?_))
 rcases hcs with hnf | ⟨c',hf,hc'⟩
 ·refine kla_makeFunction hcl' I1.ok.glob (gl I1) hcode C hPt htr hnf gP hB fun c' ctv h' tk hx' hge hlt hrec htb=>?_
  refine ZA (ZBN (ZB (wpAny_evalAll_nil ?_)));have J:=I1.grow (t':=tk) hP hx' htb hge hrec;have J':=J.kept (h':=h'.push _) (t':=tk) fun b' u e=>ZH (kla_obj "<lambda>" (X.env.qual ++ "<lambda>") params body scope [(a,ca),(b,cb)] ((X.mg "__name__").getD .none) c' ctv) e
  have hcn:H1 c'=none:=I1.hok.fresh hge;have hcP:c'≠Pt:=fun z=>by rw[z,hP]at hcn;cases hcn
  refine fin _ _ h'.objs.size c' ca cb _ ctv J' hla hlb (ZN _ rfl) (J.hok.fresh (ZD _)) (ZBd J.lt) (J.nofs (ZD _)) (fun b o n e=>?_) ⟨_,by rw[AI (Ne.symm hcP),AD],?_,.inr ⟨c',?_,AD⟩⟩ AD
  ·have hbc:b≠c':=fun z=>by rw[z,hcn]at e;cases e
   rw[AI hbc,AI n];exact e
  ·rw[Array.toList_append];exact TriplesOk_snoc _ _ _ _ htr
  ·rw[Array.toList_append];exact codeAmong_snoc _ htr hnf
 ·refine kla_makeFunctionHit hcl' I1.ok.glob (gl I1) hcode C hPt htr hf hB fun ctv h' tk hk' hsz=>?_
  refine ZA (ZBN (ZB (wpAny_evalAll_nil ?_)));have J0:Inv X pins σ H1 { s1 with heap:=h',toks:=tk }:=I1.kept hk';have J:=I1.kept (h':=h'.push _) (t':=tk) fun b' u e=>ZH (kla_obj "<lambda>" (X.env.qual ++ "<lambda>") params body scope [(a,ca),(b,cb)] ((X.mg "__name__").getD .none) c' ctv) (hk' b' u e)
  exact fin _ _ h'.objs.size c' ca cb _ ctv J hla hlb (ZN _ rfl) (J0.hok.fresh (ZD _)) (ZBd J0.lt) (J0.nofs (ZD _)) (Grow.refl _ _) hL hc'
end
end L2
namespace Mine
open PySem L2
variable {N S i j k m n:Nat}{ts ys:List Nat}{ls:List Int}{kvs:List (List Key × V)}{v:V}{K:W.Frag}{C Pt a b d p t tl:Addr}{H H':Hp}{xs:List V}{o:HO}{rs:List (List Bool)}{X ps:List Addr}{q:Str}{r:List Bool}
def top(i:Nat):Stmt:=PySem.Challenge.pw_flips_k46_fewest_told.main.body.getD i (.Pass ⟨0,0,0,0⟩)
abbrev De:Stmt:=Bq (top 4) 0
abbrev JQ:Stmt:=top 10
abbrev Gz:Stmt:=top 11
abbrev HW:Stmt:=top 13
abbrev GP:Stmt:=top 14
abbrev G4:Stmt:=top 15
abbrev JP:Stmt:=top 16
abbrev Gk:Stmt:=Bq (top 18) 0
abbrev IT:Stmt:=Bq (top 18) 1
abbrev Hu:Stmt:=Bq (top 18) 2
abbrev HZ:Stmt:=Bq (top 18) 3
abbrev JS:Stmt:=Bq (top 18) 4
abbrev Jh:Stmt:=Bq (top 18) 5
abbrev Iw:Stmt:=Bq (top 18) 6
abbrev Ia:Stmt:=Bq (top 18) 7
abbrev JM:Stmt:=Bq (top 18) 8
abbrev He:Stmt:=Bq (top 18) 9
abbrev Jf:Stmt:=Bq (top 18) 10
abbrev CN:Stmt:=Bq (top 18) 11
abbrev Hj:Stmt:=top 19
abbrev Gh:Stmt:=top 21
abbrev Gu:Stmt:=top 22
abbrev HP:Stmt:=top 24
abbrev Gc:Stmt:=top 25
abbrev Hm:Stmt:=top 26
abbrev Hz:Stmt:=top 28
abbrev GI:Stmt:=top 29
abbrev GG:Stmt:=top 30
abbrev Gy:Stmt:=top 31
abbrev Hw:Stmt:=top 32
abbrev Gw:Stmt:=top 33
abbrev Je:Stmt:=top 34
abbrev IR:Stmt:=top 35
abbrev Go:Stmt:=top 36
abbrev Gv:Stmt:=top 37
abbrev Iq:Stmt:=top 38
abbrev Io:Stmt:=top 39
abbrev Hi:Stmt:=top 40
abbrev IC:Stmt:=top 41
abbrev GV:Stmt:=top 42
abbrev Ip:Stmt:=top 43
abbrev IY:Stmt:=top 44
abbrev HK:Stmt:=top 45
abbrev GQ:Stmt:=top 46
abbrev Jg:Stmt:=top 47
abbrev Cf:Stmt:=top 48
local macro_rules | `(tactic| walk_at "f")=>`(tactic| exact⟨rfl,rfl,rfl,by decide +kernel,rfl,by decide +kernel,by decide +kernel⟩)
theorem QZ:FnScope ["self","one","other"] ["self","one","other"] (AK De):=by walk_at "f"
theorem UI:FnScope ["n"] ["n"] (AK JQ):=by walk_at "f"
theorem sc_z50:FnScope ["base","times","power","step"] ["base","times"] (AK Gz):=by walk_at "f"
theorem Se:FnScope ["place","switch"] ["place","switch"] (AK HW):=by walk_at "f"
theorem SJ:FnScope ["subset","other"] ["subset","other"] (AK GP):=by walk_at "f"
theorem Vk:FnScope ["members"] ["members"] (AK G4):=by walk_at "f"
theorem PP:FnScope ["subset"] ["subset"] (AK JP):=by walk_at "f"
theorem TW:FnScope ["self","game"] ["self","game"] (AK Gk):=by walk_at "f"
theorem RK:FnScope ["self"] ["self"] (AK IT):=by walk_at "f"
theorem Tu:FnScope ["self","things"] ["self","things"] (AK Hu):=by walk_at "f"
theorem Si:FnScope ["self","things"] ["self","things"] (AK HZ):=by walk_at "f"
theorem sc_z21:FnScope ["self","things","question","answer","yes"] ["self","things","question","answer"] (AK JS):=by walk_at "f"
theorem QK:FnScope ["self","things"] ["self","things"] (AK Jh):=by walk_at "f"
theorem Qg:FnScope ["self","things"] ["self","things"] (AK Iw):=by walk_at "f"
theorem Vn:FnScope ["self","things"] ["self","things"] (AK Ia):=by walk_at "f"
theorem Uf:FnScope ["self","things","question"] ["self","things","question"] (AK JM):=by walk_at "f"
theorem sc_z16:FnScope ["self","things","question","no","yes"] ["self","things","question"] (AK He):=by walk_at "f"
theorem U3:FnScope ["self","things"] ["self","things"] (AK Jf):=by walk_at "f"
theorem RW:FnScope ["self","things"] ["self","things"] (AK CN):=by walk_at "f"
theorem QE:FnScope ["wanted","values"] ["wanted","values"] (AK Hj):=by walk_at "f"
theorem sc_z19:FnScope ["game","found"] ["game"] (AK Gh):=by walk_at "f"
theorem sc_z27:FnScope ["game","labels","answers","one","other"] ["game"] (AK Gu):=by walk_at "f"
theorem sc_z51:FnScope ["game","reckoner","things"] ["game"] (AK HP):=by walk_at "f"
theorem sc_z43:FnScope ["reckoner","things","question","no","yes"] ["reckoner","things"] (AK Gc):=by walk_at "f"
theorem sc_z40:FnScope ["reckoner","things","entries","level","below","each","number"] ["reckoner","things"] (AK Hm):=by walk_at "f"
theorem OA:FnScope ["_law_script"] ["_law_script"] (AK Hz):=by walk_at "f"
theorem sc_z49:FnScope ["_law_feed_here","_law_many","_law_turn","_law_cell","_law_mixed","_law_digit"] ["_law_feed_here","_law_many"] (AK GI):=by walk_at "f"
theorem sc_z36:FnScope ["_law_feed_here","_law_n","_law_many","_law_way","_law_place","_law_one","_law_answer"] ["_law_feed_here","_law_n"] (AK GG):=by walk_at "f"
theorem sc_z25:FnScope ["_law_table_here","_law_rows","_law_many"] ["_law_table_here"] (AK Gy):=by walk_at "f"
theorem sc_z37:FnScope ["_law_feed_here","_law_n","_law_many","_law_tables","_law_at","_law_k","_law_table_here"] ["_law_feed_here","_law_n","_law_many"] (AK Hw):=by walk_at "f"
theorem sc_z24:FnScope ["_law_tables","_law_rows"] ["_law_tables"] (AK Gw):=by walk_at "f"
theorem sc_z35:FnScope ["_law_feed_here","_law_many","_law_first_here","_law_labels","_law_rows"] ["_law_feed_here"] (AK Je):=by walk_at "f"
theorem sc_z28:FnScope ["_law_feed_here","_law_many","_law_width","_law_names","_law_labels","_law_rows","_law_k"] ["_law_feed_here"] (AK IR):=by walk_at "f"
theorem sc_z47:FnScope ["_law_feed_here","_law_way"] ["_law_feed_here"] (AK Go):=by walk_at "f"
theorem sc_z46:FnScope ["_law_game_here","_law_answers","_law_one","_law_other"] ["_law_game_here"] (AK Gv):=by walk_at "f"
theorem sc_z32:FnScope ["_law_game_here","_law_labels","_law_pair_here"] ["_law_game_here"] (AK Iq):=by walk_at "f"
theorem sc_z41:FnScope ["_law_game_here","_law_things","_law_question","_law_row"] ["_law_game_here","_law_things","_law_question"] (AK Io):=by walk_at "f"
theorem sc_z44:FnScope ["_law_game_here","_law_things","_law_known","_law_least","_law_question","_law_sides_here"] ["_law_game_here","_law_things","_law_known"] (AK Hi):=by walk_at "f"
theorem V4:FnScope ["_law_thing"] ["_law_thing"] (AK IC):=by walk_at "f"
theorem sc_z26:FnScope ["_law_game_here","_law_thing","_law_k"] ["_law_game_here","_law_thing"] (AK GV):=by walk_at "f"
theorem sc_z33:FnScope ["_law_game_here","_law_paper","_law_things","_law_number","_law_question","_law_side","_law_others","_law_more"] ["_law_game_here","_law_paper","_law_things","_law_number","_law_question"] (AK Ip):=by walk_at "f"
theorem sc_z48:FnScope ["_law_game_here","_law_d","_law_paper","_law_entry","_law_things","_law_number","_law_question"] ["_law_game_here","_law_d","_law_paper"] (AK IY):=by walk_at "f"
theorem sc_z39:FnScope ["_law_game_here","_law_things","_law_known","_law_numbers","_law_question","_law_sides_here"] ["_law_game_here","_law_things","_law_known"] (AK HK):=by walk_at "f"
theorem sc_z30:FnScope ["_law_game_here","_law_things","_law_known","_law_question","_law_sides_here"] ["_law_game_here","_law_things","_law_known"] (AK GQ):=by walk_at "f"
theorem sc_z45:FnScope ["_law_game_here","_law_found","e","_law_others"] ["_law_game_here"] (AK Jg):=by walk_at "f"
theorem sc_law:FnScope ["_law_script","_law_feed_here","_law_k","_law_game_here","_law_pair_here","_law_things","_law_known","_law_asks","_law_turn","_law_told_all"] ["_law_script"] (AK Cf):=by walk_at "f"
def Bw:Str:=PySem.Str.ofString "Reckoner.first_question" ++ PySem.Str.ofString ".<locals>." ++ PySem.Str.ofString "<lambda>"
def EO:Pos:=⟨96,45,96,97⟩
set_option genInjectivity false
set_option genSizeOf false
structure Txt(K:W.Frag)(mg:Str->Option Value) where
 C_Reckoner:Addr
 mC_Reckoner:mg "Reckoner" = some (.ref C_Reckoner)
 cl_Reckoner:Cls K C_Reckoner
 na_Reckoner_labels:NoAttr K C_Reckoner "labels"
 na_Reckoner_yeses:NoAttr K C_Reckoner "yeses"
 na_Reckoner_alike:NoAttr K C_Reckoner "alike"
 na_Reckoner_known:NoAttr K C_Reckoner "known"
 C_Alike:Addr
 mC_Alike:mg "Alike" = some (.ref C_Alike)
 C_FlipError:Addr
 mC_FlipError:mg "FlipError" = some (.ref C_FlipError)
 C_NoEnd:Addr
 mC_NoEnd:mg "NoEnd" = some (.ref C_NoEnd)
 C_NoName:Addr
 mC_NoName:mg "NoName" = some (.ref C_NoName)
 C_NoRow:Addr
 mC_NoRow:mg "NoRow" = some (.ref C_NoRow)
 C_NoTable:Addr
 mC_NoTable:mg "NoTable" = some (.ref C_NoTable)
 C_NoText:Addr
 mC_NoText:mg "NoText" = some (.ref C_NoText)
 C_NoThing:Addr
 mC_NoThing:mg "NoThing" = some (.ref C_NoThing)
 xc_NoEnd:ExcC K C_NoEnd
 hd_NoEnd:W.hasDictIn K C_NoEnd=true
 na_NoEnd_one:NoAttr K C_NoEnd "one"
 na_NoEnd_other:NoAttr K C_NoEnd "other"
 xm_NoEnd_FlipError:W.exmOne K (.ref C_NoEnd) (.ref C_FlipError)=some true
 kk_NoEnd_Alike:W.kitOne K (.ref C_NoEnd) (.ref C_Alike)=some false
 kk_NoEnd_NoEnd:W.kitOne K (.ref C_NoEnd) (.ref C_NoEnd)=some true
 kk_NoEnd_NoName:W.kitOne K (.ref C_NoEnd) (.ref C_NoName)=some false
 kk_NoEnd_NoRow:W.kitOne K (.ref C_NoEnd) (.ref C_NoRow)=some false
 kk_NoEnd_NoTable:W.kitOne K (.ref C_NoEnd) (.ref C_NoTable)=some false
 kk_NoEnd_NoText:W.kitOne K (.ref C_NoEnd) (.ref C_NoText)=some false
 kk_NoEnd_NoThing:W.kitOne K (.ref C_NoEnd) (.ref C_NoThing)=some false
 kk_NoEnd_ValueError:W.kitOne K (.ref C_NoEnd) (.type "ValueError")=some true
 f_z31:Addr
 d_z31:FuncData
 F_z31:Fun K "__init__" "NoEnd.__init__" De f_z31 d_z31
 b_z31:Binds K d_z31 ["self","one","other"] []
 me_z31:Meth K C_NoEnd "__init__" f_z31
 xI_NoEnd:ExcI K C_NoEnd f_z31
 f_z52:Addr
 d_z52:FuncData
 F_z52:Fun K "two_to" "two_to" JQ f_z52 d_z52
 b_z52:Binds K d_z52 ["n"] []
 m_z52:mg "two_to" = some (.ref f_z52)
 f_z50:Addr
 d_z50:FuncData
 F_z50:Fun K "power_of" "power_of" Gz f_z50 d_z50
 b_z50:Binds K d_z50 ["base","times"] []
 m_z50:mg "power_of" = some (.ref f_z50)
 f_z54:Addr
 d_z54:FuncData
 F_z54:Fun K "is_on" "is_on" HW f_z54 d_z54
 b_z54:Binds K d_z54 ["place","switch"] []
 m_z54:mg "is_on" = some (.ref f_z54)
 f_z53:Addr
 d_z53:FuncData
 F_z53:Fun K "within" "within" GP f_z53 d_z53
 b_z53:Binds K d_z53 ["subset","other"] []
 m_z53:mg "within" = some (.ref f_z53)
 f_z34:Addr
 d_z34:FuncData
 F_z34:Fun K "set_holding" "set_holding" G4 f_z34 d_z34
 b_z34:Binds K d_z34 ["members"] []
 m_z34:mg "set_holding" = some (.ref f_z34)
 f_z38:Addr
 d_z38:FuncData
 F_z38:Fun K "members_of" "members_of" JP f_z38 d_z38
 b_z38:Binds K d_z38 ["subset"] []
 m_z38:mg "members_of" = some (.ref f_z38)
 f_z23:Addr
 d_z23:FuncData
 F_z23:Fun K "__init__" "Reckoner.__init__" Gk f_z23 d_z23
 b_z23:Binds K d_z23 ["self","game"] []
 me_z23:Meth K C_Reckoner "__init__" f_z23
 mk_Reckoner:Mk K C_Reckoner f_z23
 f_z17:Addr
 d_z17:FuncData
 F_z17:Fun K "everything" "Reckoner.everything" IT f_z17 d_z17
 b_z17:Binds K d_z17 ["self"] []
 me_z17:Meth K C_Reckoner "everything" f_z17
 f_z12:Addr
 d_z12:FuncData
 F_z12:Fun K "has_one_label" "Reckoner.has_one_label" Hu f_z12 d_z12
 b_z12:Binds K d_z12 ["self","things"] []
 me_z12:Meth K C_Reckoner "has_one_label" f_z12
 f_z18:Addr
 d_z18:FuncData
 F_z18:Fun K "label_of" "Reckoner.label_of" HZ f_z18 d_z18
 b_z18:Binds K d_z18 ["self","things"] []
 me_z18:Meth K C_Reckoner "label_of" f_z18
 f_z21:Addr
 d_z21:FuncData
 F_z21:Fun K "left_of" "Reckoner.left_of" JS f_z21 d_z21
 b_z21:Binds K d_z21 ["self","things","question","answer"] []
 me_z21:Meth K C_Reckoner "left_of" f_z21
 f_z15:Addr
 d_z15:FuncData
 F_z15:Fun K "fewest_among" "Reckoner.fewest_among" Jh f_z15 d_z15
 b_z15:Binds K d_z15 ["self","things"] []
 me_z15:Meth K C_Reckoner "fewest_among" f_z15
 f_z10:Addr
 d_z10:FuncData
 F_z10:Fun K "fewest_reckoned" "Reckoner.fewest_reckoned" Iw f_z10 d_z10
 b_z10:Binds K d_z10 ["self","things"] []
 me_z10:Meth K C_Reckoner "fewest_reckoned" f_z10
 f_z20:Addr
 d_z20:FuncData
 F_z20:Fun K "parting" "Reckoner.parting" Ia f_z20 d_z20
 b_z20:Binds K d_z20 ["self","things"] []
 me_z20:Meth K C_Reckoner "parting" f_z20
 f_z13:Addr
 d_z13:FuncData
 F_z13:Fun K "worst_behind" "Reckoner.worst_behind" JM f_z13 d_z13
 b_z13:Binds K d_z13 ["self","things","question"] []
 me_z13:Meth K C_Reckoner "worst_behind" f_z13
 f_z16:Addr
 d_z16:FuncData
 F_z16:Fun K "harder_left" "Reckoner.harder_left" He f_z16 d_z16
 b_z16:Binds K d_z16 ["self","things","question"] []
 me_z16:Meth K C_Reckoner "harder_left" f_z16
 f_z14:Addr
 d_z14:FuncData
 F_z14:Fun K "harder_lefts" "Reckoner.harder_lefts" Jf f_z14 d_z14
 b_z14:Binds K d_z14 ["self","things"] []
 me_z14:Meth K C_Reckoner "harder_lefts" f_z14
 f_z11:Addr
 d_z11:FuncData
 F_z11:Fun K "first_question" "Reckoner.first_question" CN f_z11 d_z11
 b_z11:Binds K d_z11 ["self","things"] []
 me_z11:Meth K C_Reckoner "first_question" f_z11
 f_z29:Addr
 d_z29:FuncData
 F_z29:Fun K "members_where" "members_where" Hj f_z29 d_z29
 b_z29:Binds K d_z29 ["wanted","values"] []
 m_z29:mg "members_where" = some (.ref f_z29)
 f_z19:Addr
 d_z19:FuncData
 F_z19:Fun K "refuse_without_end" "refuse_without_end" Gh f_z19 d_z19
 b_z19:Binds K d_z19 ["game"] []
 m_z19:mg "refuse_without_end" = some (.ref f_z19)
 f_z27:Addr
 d_z27:FuncData
 F_z27:Fun K "first_unparted" "first_unparted" Gu f_z27 d_z27
 b_z27:Binds K d_z27 ["game"] []
 m_z27:mg "first_unparted" = some (.ref f_z27)
 f_z51:Addr
 d_z51:FuncData
 F_z51:Fun K "fewest" "fewest" HP f_z51 d_z51
 b_z51:Binds K d_z51 ["game"] []
 m_z51:mg "fewest" = some (.ref f_z51)
 f_z43:Addr
 d_z43:FuncData
 F_z43:Fun K "best_tree" "best_tree" Gc f_z43 d_z43
 b_z43:Binds K d_z43 ["reckoner","things"] []
 m_z43:mg "best_tree" = some (.ref f_z43)
 f_z40:Addr
 d_z40:FuncData
 F_z40:Fun K "hard_paper" "hard_paper" Hm f_z40 d_z40
 b_z40:Binds K d_z40 ["reckoner","things"] []
 m_z40:mg "hard_paper" = some (.ref f_z40)
 f_z42:Addr
 d_z42:FuncData
 F_z42:Fun K "_law_feed" "_law_feed" Hz f_z42 d_z42
 b_z42:Binds K d_z42 ["_law_script"] []
 m_z42:mg "_law_feed" = some (.ref f_z42)
 f_z49:Addr
 d_z49:FuncData
 F_z49:Fun K "_law_draw" "_law_draw" GI f_z49 d_z49
 b_z49:Binds K d_z49 ["_law_feed_here","_law_many"] []
 m_z49:mg "_law_draw" = some (.ref f_z49)
 f_z36:Addr
 d_z36:FuncData
 F_z36:Fun K "_law_table" "_law_table" GG f_z36 d_z36
 b_z36:Binds K d_z36 ["_law_feed_here","_law_n"] []
 m_z36:mg "_law_table" = some (.ref f_z36)
 f_z25:Addr
 d_z25:FuncData
 F_z25:Fun K "_law_table_game" "_law_table_game" Gy f_z25 d_z25
 b_z25:Binds K d_z25 ["_law_table_here"] []
 m_z25:mg "_law_table_game" = some (.ref f_z25)
 f_z37:Addr
 d_z37:FuncData
 F_z37:Fun K "_law_class" "_law_class" Hw f_z37 d_z37
 b_z37:Binds K d_z37 ["_law_feed_here","_law_n","_law_many"] []
 m_z37:mg "_law_class" = some (.ref f_z37)
 f_z24:Addr
 d_z24:FuncData
 F_z24:Fun K "_law_class_game" "_law_class_game" Gw f_z24 d_z24
 b_z24:Binds K d_z24 ["_law_tables"] []
 m_z24:mg "_law_class_game" = some (.ref f_z24)
 f_z35:Addr
 d_z35:FuncData
 F_z35:Fun K "_law_picks" "_law_picks" Je f_z35 d_z35
 b_z35:Binds K d_z35 ["_law_feed_here"] []
 m_z35:mg "_law_picks" = some (.ref f_z35)
 f_z28:Addr
 d_z28:FuncData
 F_z28:Fun K "_law_any_game" "_law_any_game" IR f_z28 d_z28
 b_z28:Binds K d_z28 ["_law_feed_here"] []
 m_z28:mg "_law_any_game" = some (.ref f_z28)
 f_z47:Addr
 d_z47:FuncData
 F_z47:Fun K "_law_game" "_law_game" Go f_z47 d_z47
 b_z47:Binds K d_z47 ["_law_feed_here"] []
 m_z47:mg "_law_game" = some (.ref f_z47)
 f_z46:Addr
 d_z46:FuncData
 F_z46:Fun K "_law_pair" "_law_pair" Gv f_z46 d_z46
 b_z46:Binds K d_z46 ["_law_game_here"] []
 m_z46:mg "_law_pair" = some (.ref f_z46)
 f_z32:Addr
 d_z32:FuncData
 F_z32:Fun K "_law_ending" "_law_ending" Iq f_z32 d_z32
 b_z32:Binds K d_z32 ["_law_game_here"] []
 m_z32:mg "_law_ending" = some (.ref f_z32)
 f_z41:Addr
 d_z41:FuncData
 F_z41:Fun K "_law_sides" "_law_sides" Io f_z41 d_z41
 b_z41:Binds K d_z41 ["_law_game_here","_law_things","_law_question"] []
 m_z41:mg "_law_sides" = some (.ref f_z41)
 f_z44:Addr
 d_z44:FuncData
 F_z44:Fun K "_law_need" "_law_need" Hi f_z44 d_z44
 b_z44:Binds K d_z44 ["_law_game_here","_law_things","_law_known"] []
 m_z44:mg "_law_need" = some (.ref f_z44)
 f_z22:Addr
 d_z22:FuncData
 F_z22:Fun K "_law_is_whole_one" "_law_is_whole_one" IC f_z22 d_z22
 b_z22:Binds K d_z22 ["_law_thing"] []
 m_z22:mg "_law_is_whole_one" = some (.ref f_z22)
 f_z26:Addr
 d_z26:FuncData
 F_z26:Fun K "_law_is_row_of" "_law_is_row_of" GV f_z26 d_z26
 b_z26:Binds K d_z26 ["_law_game_here","_law_thing"] []
 m_z26:mg "_law_is_row_of" = some (.ref f_z26)
 f_z33:Addr
 d_z33:FuncData
 F_z33:Fun K "_law_backed" "_law_backed" Ip f_z33 d_z33
 b_z33:Binds K d_z33 ["_law_game_here","_law_paper","_law_things","_law_number","_law_question"] []
 m_z33:mg "_law_backed" = some (.ref f_z33)
 f_z48:Addr
 d_z48:FuncData
 F_z48:Fun K "_law_hard" "_law_hard" IY f_z48 d_z48
 b_z48:Binds K d_z48 ["_law_game_here","_law_d","_law_paper"] []
 m_z48:mg "_law_hard" = some (.ref f_z48)
 f_z39:Addr
 d_z39:FuncData
 F_z39:Fun K "_law_first" "_law_first" HK f_z39 d_z39
 b_z39:Binds K d_z39 ["_law_game_here","_law_things","_law_known"] []
 m_z39:mg "_law_first" = some (.ref f_z39)
 f_z30:Addr
 d_z30:FuncData
 F_z30:Fun K "_law_due_tree" "_law_due_tree" GQ f_z30 d_z30
 b_z30:Binds K d_z30 ["_law_game_here","_law_things","_law_known"] []
 m_z30:mg "_law_due_tree" = some (.ref f_z30)
 f_z45:Addr
 d_z45:FuncData
 F_z45:Fun K "_law_said" "_law_said" Jg f_z45 d_z45
 b_z45:Binds K d_z45 ["_law_game_here"] []
 m_z45:mg "_law_said" = some (.ref f_z45)
 f_law:Addr
 d_law:FuncData
 F_law:Fun K "law" "law" Cf f_law d_law
 b_law:Binds K d_law ["_law_script"] []
 m_law:mg "law" = some (.ref f_law)
 g_z11:Addr
 p_z11:Addr
 gc_z11:d_z11.code=.ref g_z11
 gh_z11:W.codeHdIn K g_z11 p_z11=true
 z_ValueError:mg "ValueError" = none
 z_any:mg "any" = none
 z_bool:mg "bool" = none
 z_enumerate:mg "enumerate" = none
 z_int:mg "int" = none
 z_isinstance:mg "isinstance" = none
 z_len:mg "len" = none
 z_list:mg "list" = none
 z_max:mg "max" = none
 z_min:mg "min" = none
 z_range:mg "range" = none
 z_repr:mg "repr" = none
 z_set:mg "set" = none
 z_sorted:mg "sorted" = none
 z_sum:mg "sum" = none
 z_tuple:mg "tuple" = none
section
variable {P:Program}{w:World}{K:W.Frag}{mg:Str->Option Value}{base:Heap}(T:Txt K mg)
local macro_rules | `(tactic| walk_at "sm")=>`(tactic| repeat' with_reducible first | exact Tn | apply OB | apply Pa | apply Qy | apply Rr | apply QD | apply WW | apply TD | exact VB | exact Vo | apply QQ | apply UN | apply VP | apply N6 | apply SE | apply Ve | apply R9 | apply T8 | apply P8 | exact Oi | exact Tg | exact PZ | exact VS | exact Wa | exact QW | exact SA | exact VN | exact QM | exact Vt | exact Pe | exact Oj | apply Pq | apply Of | apply WS | apply OG | exact OI | apply PR | exact QR | exact Od | exact Oe | exact PU | exact Us | exact On | apply PV | apply Vy | apply WU | apply Sy | exact Bp | apply EZ | exact Cb | exact P4 | exact SR | exact Sm | exact Uc | apply WA | apply Rm | exact QU | exact S8 | exact Uy | exact O0 | apply Rl | exact Th | exact WN | exact Rx | exact SD | apply QX | apply SG | exact Tt | apply N9 | exact Sx | apply RF | assumption)
theorem pa1{X:Cx}{e:PySem.Expr}{te:TE}(ha:PE X e te)(hs:starEach [e] X.env=[(false,eval e X.env)]):PA X [e] (HA te FS):=AA ha AB hs
local macro_rules | `(tactic| left)=>`(tactic| exact⟨by rfl,by first | exact Or.inl rfl | exact Or.inr (Or.inl rfl) | exact Or.inr (Or.inr rfl),by decide,by decide⟩)
local macro_rules | `(tactic| walk_at "m")=>`(tactic| with_reducible first | refine Exists.imp fun _=>?_ | refine And.imp_right ?_ | refine forall_imp fun _=>?_)
local macro_rules | `(tactic| walk_at "o")=>`(tactic| first | exact Or.inl rfl | exact Or.inr (Or.inl rfl) | exact Or.inr (Or.inr rfl))
local macro_rules | `(tactic| symm)=>`(tactic| first | exact .inl rfl | exact .inr rfl | assumption)
local macro_rules | `(tactic| right)=>`(tactic| first | exact Or.inl rfl | exact Or.inr rfl)
local macro_rules | `(tactic| exfalso)=>`(tactic| first | exact IB _ (by decide) (by decide) | rfl)
theorem Pd:FnOk P w K mg base CX0 1 T.f_z42 T.d_z42 ["_law_script"] (Jd K):=by
 refine T.F_z42.ok OA (fun vs H Q E h=>by unfold Jd at h;split at h <;> first | rfl | exact h.elim) (fun cdv A outer s H vs Q E hr h=>?_);have hu:=Aa hr;unfold Jd at h;split at h;rotate_left
 ·exact h.elim
 rename_i a;obtain⟨ns,hs,q⟩:=h;refine⟨_,(@AH _ _ _ (@AM _ _ _ _ (@BG _ _ _ _ (AA (AR (BB (K:=K)) (As (Kq (K:=K)) rfl T.z_list (by rfl) (AA (QB (K:=K) (vv 0) Fh (FJ AC)) AB)) (AR CP (@BG _ _ _ _ (AA AC AB)) (As Hk rfl T.z_int (by rfl) (AA (Bm (kEq (K:=K) hu) (vv 0) (@BG _ _ _ _ AB)) AB)))) (AA AC (AA AC (AA AC AB))))))),?_⟩;refine⟨63,rfl,_,.inl ⟨hs,fun p hp=>?_⟩⟩
 have ecut:BO (ns.map V.int) none (some 63)=(ns.take (HT.sIx ns.length ns.length (some 63))).map V.int:=by
  unfold BO;rw[ZC];simp[HT.sIx,List.map_take]
 rw[ecut];generalize hns:ns.take (HT.sIx ns.length ns.length (some 63))=ms
 have hms:ns≠[]->ms≠[]:=by
  intro hne;rw[<- hns];cases ns with
  | nil=>exact absurd rfl hne
  | cons x xs =>
   have e:HT.sIx (x::xs).length (x::xs).length (some 63)=min 63 (xs.length+1):=HT.sIx_nat _ _ 63;rw[e,show min 63 (xs.length+1)=(min 62 xs.length)+1 by lia,List.take_succ_cons];exact fun z=>nomatch z
 have hml:ms.length<=63:=by
  rw[<- hns,Ze];have e:HT.sIx ns.length ns.length (some 63)=min 63 ns.length:=HT.sIx_nat _ _ 63;lia
 refine⟨_,.inl (.of AD),fun p2 hp2=>?_⟩;have s2:Same H (upd (upd H p (.lst (ms.map V.int))) p2 (.lst (ms.map V.int))):=(Same.upd hp).trans (Same.upd hp2);have g2:upd (upd H p (.lst (ms.map V.int))) p2 (.lst (ms.map V.int)) p2=some (.lst (ms.map V.int)):=AD;generalize upd (upd H p (.lst (ms.map V.int))) p2 (.lst (ms.map V.int))=H2 at *;refine⟨smq rfl,fun p3 hp3=>?_⟩;have s3:Same H2 (upd H2 p3 (.lst [.int 0])):=Same.upd hp3;have g3:upd H2 p3 (.lst [.int 0]) p3=some (.lst [.int 0]):=AD;generalize upd H2 p3 (.lst [.int 0])=H3 at *;refine⟨smq rfl,fun p4 hp4=>?_⟩;have s4:Same H3 (upd H3 p4 (.lst [])):=Same.upd hp4;have g4:upd H3 p4 (.lst []) p4=some (.lst []):=AD;generalize upd H3 p4 (.lst [])=H4 at *;have S4:=s2.trans (s3.trans s4);refine⟨.lst (ns.map Dv.int),.lst [],?_,?_,?_,?_⟩
 ·unfold Rep;exact⟨a,_,rfl,S4.sqL hs,FY ns⟩
 ·unfold Rep;exact⟨p4,_,rfl,.of g4,AV⟩
 ·unfold Ac;rw[Lq];lia
 have eb:eqD (.lst (ns.map Dv.int)) (.lst [])=decide (ns=[]):=by
  rw[EF];cases ns with
  | nil=>rfl
  | cons x xs=>rfl
 rw[eb]
 have fin:∀(k:Nat),k<=1->(ns=[]->k=1)->∀H5 p5,Same H4 H5->H5 p5=some (.lst (List.replicate k (V.int 0)))->∃l b xs zs,V.ref p2=.ref l/\V.ref p5=.ref b/\H5 l=some (.lst xs)/\H5 b=some (.lst zs)/\xs.length+zs.length<=sizeLine/\∀p6,H5 p6=none ->
  4<=sizeLine/\∀p7,upd H5 p6 (.lst (xs++zs)) p7=none->Q (.ref p7) (upd (upd H5 p6 (.lst (xs++zs))) p7 (.lst [.ref p6,.int 0,.int 0,.int 0])):=by
  intro k hk hk1 H5 p5 s5 g5;refine⟨p2,p5,_,_,rfl,rfl,s5 _ _ (s4 _ _ (s3 _ _ g2)),g5,Ce (by rw[ZC,ZBw];lia),fun p6 hp6=>⟨Ce (by decide),fun p7 hp7=>?_⟩⟩;have S5:=S4.trans s5;have S6:=S5.trans (Same.upd (o:=.lst (ms.map V.int++List.replicate k (V.int 0))) hp6);refine q p7 _ (S6.free hp7) (S6.trans (Same.upd hp7)) ⟨p6,0,0,0,ms++List.replicate k 0,by decide,by decide,by decide,by decide,AD,?_,?_,?_⟩
  ·exact fun e=>by rw[<- e,AD]at hp7;cases hp7
  ·rw[AI (fun e=>by rw[<- e,AD]at hp7;cases hp7),AD];rw[ZM,List.map_replicate]
  ·rw[ZL,ZBw]
   by_cases hne:ns=[]
   ·rw[hk1 hne];lia
   ·have:=hms hne
    have:ms.length≠0:=fun z=>this (List.length_eq_zero_iff.mp z)
    lia
 by_cases hne:ns=[]
 ·rw[ZO hne];refine⟨p3,1,_,rfl,rfl,s4 _ _ g3,by decide,by decide,Ce (by decide),fun p5 hp5=>.inl ?_⟩;exact fin 1 (by decide) (fun _=>rfl) _ p5 (Same.upd hp5) AD
 ·rw[Zy hne];refine⟨p3,0,_,rfl,rfl,s4 _ _ g3,by decide,by decide,Ce (by decide),fun p5 hp5=>.inl ?_⟩;exact fin 0 (by decide) (fun z=>absurd z hne) _ p5 (Same.upd hp5) AD
theorem Nf:FnOk P w K mg base CX0 1 T.f_z49 T.d_z49 ["_law_feed_here","_law_many"] Ds:=by
 refine T.F_z49.ok sc_z49 (fun vs H Q E h=>by unfold Ds at h;split at h <;> first | rfl | exact h.elim) (fun cdv A outer s H vs Q E hr h=>?_);have hu:=Aa hr
 match vs,h with
 | [.ref t,.int m],h =>
 obtain⟨l,N,F,hN,hm,k⟩:=h;obtain⟨i,g,c,ns,i0,g0,c0,cN,ht,lt,hl,nl⟩:=F.at_;have hm0:0 < m:=hm.1;refine⟨_,(@AF _ _ _ _ _ (@Dd _ _ _ _ _ _ (AR (BB (K:=K)) (kIx (K:=K) (vv 0) AC) AC) (Dz (vv 0) AC Dq) (by rfl) (by rfl) (by rfl)) (@AF _ _ _ _ _ (@AQ _ _ 2 _ _ _ _ sc_z49.nd rfl (by right) (kIx (K:=K) (vv 0) AC) (by rfl) (by symm)) (@AF _ _ _ _ _ (@Ap _ _ _ _ _ _ _ _ (AW (kEq (K:=K) hu) (kIx (K:=K) (vv 0) AC) AC) (@AF _ _ _ _ _ (@AQ _ _ 3 _ _ _ _ sc_z49.nd rfl (by right) (kIx (K:=K) (kIx (K:=K) (vv 0) AC) (AR Cu (kIx (K:=K) (vv 0) AC) (AU (Ay (K:=K)) rfl T.z_len (by rfl) (AA (kIx (K:=K) (vv 0) AC) AB)))) (by rfl) (by symm)) (@AF _ _ _ _ _ (@Dd _ _ _ _ _ _ (AR (BB (K:=K)) (kIx (K:=K) (vv 0) AC) AC) (Dz (vv 0) AC Dq) (by rfl) (by rfl) (by rfl)) (@AF _ _ _ _ _ (@Ap _ _ _ _ _ _ _ _ (AW CQ (vv 3) (AR MJ AC AC)) (@AF _ _ _ _ _ (@AQ _ _ 4 _ _ _ _ sc_z49.nd rfl (by right) (AR (BB (K:=K)) (AR (BB (K:=K)) (AR (BB (K:=K)) (AR Cu (vv 3) AC) (AR CP (AR CP AC (vv 2)) (vv 2))) (AR CP AC (vv 2))) AC) (by rfl) (by symm)) (@AF _ _ _ _ _ (@AQ _ _ 4 _ _ _ _ sc_z49.nd rfl (by right) (AR CP (AR Ea (AR Cu (AR CP (vv 4) AC) AC) AC) AC) (by rfl) (by symm)) (@AH _ _ _ (@AM _ _ _ _ (AR Cu (AR Ea (AR Cu (vv 4) AC) AC) (vv 1)))))) Ao) (@AH _ _ _ (@Dd _ _ _ _ _ _ (vv 3) (Dz (vv 0) AC Dq) (by rfl) (by rfl) (by rfl)))))) Ao) (@AF _ _ _ _ _ (@AQ _ _ 5 _ _ _ _ sc_z49.nd rfl (by right) (AR Cu (kIx (K:=K) (vv 0) AC) (vv 1)) (by rfl) (by symm)) (@AF _ _ _ _ _ (@Dd _ _ _ _ _ _ (AR Ea (kIx (K:=K) (vv 0) AC) (vv 1)) (Dz (vv 0) AC Dq) (by rfl) (by rfl) (by rfl)) (@AH _ _ _ (@AM _ _ _ _ (vv 5)))))))),?_⟩;refine Ad (fun σ' H1=>σ'=[some (.ref t),some (.int m),none,none,none,none]/\(∀b,b≠t->H1 b=H b)/\H1 t=some (.lst [.ref l,.int i,.int g,.int (c+1)])) ?_ ?_ (by walk_at "sm")
 ·exact⟨_,_,.inl (.of ht),rfl,_,_,ht,rfl,rfl,fun b n=>AI n,AD⟩
 rintro σ' H1 ⟨rfl,f1,ht1⟩;refine⟨_,_,.inl (.of ht1),rfl,?_⟩;have hl1:H1 l=some (.lst (ns.map V.int)):=by rw[f1 l lt];exact hl
 have pos:(0:Int) < (ns.length:Int):=by lia
 dsimp only[AT];refine Ad (fun σ' H2=>∃(z3 z4:Option V) (i2 g2:Int),σ'=[some (.ref t),some (.int m),some (.int (c+1)),z3,z4,none]/\(∀b,b≠t->H2 b=H b)/\0<=i2/\0<=g2/\H2 t=some (.lst [.ref l,.int i2,.int g2,.int (c+1)])) ?_ ?_ (by walk_at "sm")
 ·refine⟨_,_,.inl (.of ht1),rfl,?_⟩;refine Ag (fun e=>?_) (fun e=>⟨none,none,i,g,rfl,f1,i0,g0,ht1⟩);obtain⟨z,hz⟩:=UX (ns:=ns) (Int.emod_nonneg i (show(ns.length:Int)≠0 by lia)) (Int.emod_lt_of_pos i pos);refine Ad (fun σ' H2=>σ'=[some (.ref t),some (.int m),some (.int (c+1)),some (.int z),none,none]/\H1=H2) ?_ ?_ (by walk_at "sm")
  ·exact⟨_,_,.inl (.of ht1),rfl,_,_,.inl (.of ht1),rfl,_,_,.inl (.of ht1),rfl,ns.length,.inl ⟨_,.of hl1,by rw[ZC]⟩,pos,_,_,.inl (.of hl1),hz,rfl,rfl⟩
  rintro σ' _ ⟨rfl,rfl⟩;refine Ad (fun σ' H2=>σ'=[some (.ref t),some (.int m),some (.int (c+1)),some (.int z),none,none]/\(∀b,b≠t->H2 b=H b)/\H2 t=some (.lst [.ref l,.int (i+1),.int g,.int (c+1)])) ?_ ?_ (by walk_at "sm")
  ·exact⟨_,_,.inl (.of ht1),rfl,_,_,ht1,rfl,rfl,fun b n=>by rw[AI n];exact f1 b n,AD⟩
  rintro σ' H2 ⟨rfl,f2,ht2⟩;refine Ad (fun σ' H3=>σ'=[some (.ref t),some (.int m),some (.int (c+1)),some (.int z),none,none]/\H2=H3/\¬z < 1000000000000000000) ?_ ?_ (by walk_at "sm")
  ·refine⟨⟨by decide,by decide,by decide⟩,?_⟩;refine Ag (fun e=>?_) (fun e=>⟨rfl,rfl,?_⟩)
   ·refine⟨by decide,.inr (.inl ⟨by decide,by decide⟩),.inr (.inl ⟨by lia,by lia⟩),.inr (.inl ⟨by decide,by decide⟩),?_⟩;refine⟨.inr (.inr ⟨by decide,by decide⟩),by decide,Ax (by decide) (by decide),.inr (.inr ⟨by decide,by decide⟩),?_⟩;refine⟨by decide,Ax (by decide) (by decide),hm0,?_⟩;exact k _ _ (Int.emod_nonneg _ (by lia)) (Int.emod_lt_of_pos _ hm0) ⟨i+1,g,c+1,ns,by lia,g0,by lia,by lia,ht2,lt,by rw[f2 l lt];exact hl,nl⟩ f2
   ·intro z';exact e (ZO z')
  rintro σ' _ ⟨rfl,rfl,hz2⟩;exact⟨_,_,ht2,rfl,_,_,_,_,rfl,fun b n=>by rw[AI n];exact f2 b n,show 0<=i+1 by lia,show 0<=z by lia,AD⟩
 rintro σ' H2 ⟨z3,z4,i2,g2,rfl,f2,i0',g0',ht2⟩;refine⟨_,_,.inl (.of ht2),rfl,hm0,?_⟩;dsimp only[AT];refine⟨_,_,.inl (.of ht2),rfl,hm,_,_,ht2,rfl,?_⟩;refine k _ _ (Int.emod_nonneg _ (by lia)) (Int.emod_lt_of_pos _ hm0) ⟨i2,g2 / m,c+1,ns,i0',Int.ediv_nonneg g0' (by lia),by lia,by lia,AD,lt,?_,nl⟩ (fun b n=>by rw[AI n];exact f2 b n);rw[AI lt,f2 l lt];exact hl
theorem EL:FnOk P w K mg base CX0 1 T.f_z49 T.d_z49 ["_law_feed_here","_law_many"] ED:=(Nf T).imp Qm
def One(L:Nat->Int)(S:Nat->Bool):Prop:=∀i j,S i=true->S j=true->L i=L j
def Can(L:Nat->Int)(Y:List (Nat->Bool)):Nat->(Nat->Bool)->Prop
 | 0,S=>One L S
 | n+1,S=>One L S\/∃y∈Y,Can L Y n (fun k=>S k && y k)/\Can L Y n (fun k=>S k && !y k)
section
variable {L L':Nat->Int}{Y Y':List (Nat->Bool)}{S S':Nat->Bool}{n m a b c:Nat}
theorem Lv(h:∀k,S' k=true->S k=true)(o:One L S):One L S':=fun i j x y=>o i j (h i x) (h j y)
theorem Bu:∀{n:Nat} {S S':Nat->Bool},(∀k,S' k=true->S k=true)->Can L Y n S->Can L Y n S'
 | 0,_,_,h,o=>Lv h o
 | n+1,S,S',h,.inl o=>.inl (Lv h o)
 | n+1,S,S',h,.inr ⟨y,hy,p,q⟩=>.inr ⟨y,hy,Bu (fun k z=>by simp only[Zb]at z ⊢;exact⟨h k z.1,z.2⟩) p,Bu (fun k z=>by simp only[Zb]at z ⊢;exact⟨h k z.1,z.2⟩) q⟩
theorem Jl:∀{n:Nat} {S:Nat->Bool},Can L Y n S->Can L Y (n+1) S
 | 0,_,o=>.inl o
 | n+1,S,.inl o=>.inl o
 | n+1,S,.inr ⟨y,hy,p,q⟩=>.inr ⟨y,hy,Jl p,Jl q⟩
theorem ER(h:n<=m)(p:Can L Y n S):Can L Y m S:=by
 induction h with
 | refl=>exact p
 | step _ ih=>exact Jl ih
def AZ(L:Nat->Int)(Y:List (Nat->Bool))(S:Nat->Bool)(m:Nat):Prop:=Can L Y m S/\∀n,Can L Y n S->m<=n
theorem ET(x:AZ L Y S a)(y:AZ L Y S b):a=b:=Nat.le_antisymm (x.2 _ y.1) (y.2 _ x.1)
theorem KM(x:AZ L Y S a):a=0 ↔ One L S :=
 ⟨fun e=>by subst e;exact x.1,fun o=>Nat.le_zero.mp (x.2 0 o)⟩
theorem N2{y:Nat->Bool}(hy:y∈Y)(x:AZ L Y S a)(p:AZ L Y (fun k=>S k && y k) b)(q:AZ L Y (fun k=>S k && !y k) c):a<=1+max b c:=by
 rw[Nat.add_comm];exact x.2 (max b c+1) (.inr ⟨y,hy,ER (Nat.le_max_left ..) p.1,ER (Nat.le_max_right ..) q.1⟩)
def A1(S y:Nat->Bool):Prop:=(∃k,S k=true/\y k=true)/\∃k,S k=true/\y k=false
theorem not_parts{y:Nat->Bool}(h:¬A1 S y):(∀k,S k=true->(S k && y k)=true)\/∀k,S k=true->(S k && !y k)=true:=by
 by_cases z:∃k,S k=true/\y k=true
 ·refine .inl fun k hk=>?_
  rw[hk,Bool.true_and];cases e:y k with
  | true=>rfl
  | false=>exact absurd ⟨z,k,hk,e⟩ h
 ·refine .inr fun k hk=>?_
  rw[hk,Bool.true_and];cases e:y k with
  | false=>rfl
  | true=>exact absurd ⟨k,hk,e⟩ z
theorem GL(ho:¬One L S):∀{n:Nat},Can L Y n S->∃y∈Y,A1 S y
 | 0,o=>absurd o ho
 | n+1,.inl o=>absurd o ho
 | n+1,.inr ⟨y,hy,p,q⟩=>by
  by_cases h:A1 S y
  ·exact⟨y,hy,h⟩
  ·rcases not_parts h with z | z
   ·exact GL ho (Bu z p)
   ·exact GL ho (Bu z q)
theorem Vj (ho:¬One L S) (h1:∃y∈Y,A1 S y/\∃b c,AZ L Y (fun k=>S k && y k) b/\AZ L Y (fun k=>S k && !y k) c/\m=max b c)
 (h2:∀y∈Y,A1 S y->∃b c,AZ L Y (fun k=>S k && y k) b/\AZ L Y (fun k=>S k && !y k) c/\m<=max b c):AZ L Y S (1+m):=by
 constructor
 ·obtain⟨y,hy,hp,b,c,p,q,e⟩:=h1;rw[Nat.add_comm];exact .inr ⟨y,hy,ER (by rw[e];exact Nat.le_max_left ..) p.1,ER (by rw[e];exact Nat.le_max_right ..) q.1⟩
 ·intro n
  induction n with
  | zero=>exact fun o=>absurd o ho
  | succ n ih =>
   rintro(o | ⟨y,hy,p,q⟩)
   ·exact absurd o ho
   ·by_cases h:A1 S y
    ·obtain⟨b,c,p',q',hm⟩:=h2 y hy h;have x1:=p'.2 _ p;have x2:=q'.2 _ q;lia
    ·rcases not_parts h with z | z
     ·exact Nat.le_succ_of_le (ih (Bu z p))
     ·exact Nat.le_succ_of_le (ih (Bu z q))
theorem RB:∀{n:Nat} {S:Nat->Bool} (ds:List Int),Can L Y n S->ds.Nodup->(∀d∈ds,∃k,S k=true/\L k=d)->ds.length<=2 ^ n:=by
 have one:∀{S:Nat->Bool} (ds:List Int),One L S->ds.Nodup->(∀d∈ds,∃k,S k=true/\L k=d)->ds.length<=1:=by
  intro S ds o nd h
  match ds,nd,h with
  | [],_,_=>exact ZX _
  | [_],_,_=>exact ZD _
  | x::y::r,nd,h =>
   obtain⟨i,hi,ei⟩:=h x (by simp);obtain⟨j,hj,ej⟩:=h y (by simp)
   have:=o i j hi hj
   rw[ei,ej]at this;simp[this]at nd
 intro n
 induction n with
 | zero=>exact fun ds o nd h=>one ds o nd h
 | succ n ih =>
  intro S ds c nd h
  rcases c with o | ⟨y,hy,p,q⟩
  ·exact Zf (one ds o nd h) Nat.one_le_two_pow
  ·classical
   have e:ds.length=(ds.filter fun d=>decide (∃k,(S k && y k)=true/\L k=d)).length+(ds.filter fun d=>!decide (∃k,(S k && y k)=true/\L k=d)).length:=by
    clear nd h
    induction ds with
    | nil=>rfl
    | cons x r ih2 =>
     rw[ZBY,ZBY];cases decide (∃k,(S k && y k)=true/\L k=x) <;> simp[ih2] <;> lia
   have a1:=ih (ds.filter fun d=>decide (∃k,(S k && y k)=true/\L k=d)) p (nd.filter _) fun d hd=>by
    have:=(Zp.mp hd).2
    exact ZQ this
   have a2:=ih (ds.filter fun d=>!decide (∃k,(S k && y k)=true/\L k=d)) q (nd.filter _) fun d hd=>by
    obtain⟨h1,h2⟩:=Zp.mp hd;obtain⟨k,hk,ek⟩:=h d h1;refine⟨k,?_,ek⟩;cases z:y k with
    | false=>rw[hk];rfl
    | true =>
     have:decide (∃k,(S k && y k)=true/\L k=d)=true:=ZO ⟨k,by rw[hk,z];rfl,ek⟩
     rw[this]at h2;cases h2
   rw[Nat.pow_succ];lia
def An(N:Nat)(S:Nat->Bool):Nat:=((List.range N).filter S).length
theorem EV(N:Nat)(S:Nat->Bool):An (N+1) S=An N S+if S N=true then 1 else 0:=by
 unfold An;rw[ZBR,ZBi,ZL];cases h:S N <;> simp[h]
theorem Fa(N:Nat)(S y:Nat->Bool):An N S=An N (fun k=>S k && y k)+An N (fun k=>S k && !y k):=by
 induction N with
 | zero=>rfl
 | succ N ih =>
  rw[EV,EV,EV,ih];cases S N <;> cases y N <;> simp <;> lia
theorem DR{S:Nat->Bool}(hk:k < N)(hs:S k=true):1<=An N S:=List.length_pos_of_mem (Zp.mpr ⟨Zk.mpr hk,hs⟩)
theorem U7{S:Nat->Bool}(hi:i < N)(hj:j < N)(si:S i=true)(sj:S j=true)(ne:i≠j):2<=An N S:=by
 rw[Fa N S (fun k=>k == i)]
 have:=DR (S:=fun k=>S k && k == i) hi (by simp[si])
 have:=DR (S:=fun k=>S k && !(k == i)) hj (by simp[sj,Ne.symm ne])
 lia
theorem NC(hS:∀k,S k=true->k < N){y:Nat->Bool}(h:A1 S y):An N (fun k=>S k && y k) < An N S/\An N (fun k=>S k && !y k) < An N S:=by
 obtain⟨⟨i,hi,yi⟩,j,hj,yj⟩:=h
 have:=Fa N S y
 have:=DR (S:=fun k=>S k && y k) (hS i hi) (by simp[hi,yi])
 have:=DR (S:=fun k=>S k && !y k) (hS j hj) (by simp[hj,yj])
 lia
theorem MX(he:∀i j,i < N->j < N->(∀y∈Y,y i=y j)->L i=L j):∀(n:Nat) (S:Nat->Bool),(∀k,S k=true->k < N)->An N S<=n+1->Can L Y n S:=by
 intro n
 induction n with
 | zero =>
  intro S hS hc i j hi hj
  by_cases e:i=j
  ·rw[e]
  ·have:=U7 (hS i hi) (hS j hj) hi hj e
   lia
 | succ n ih =>
  intro S hS hc
  by_cases o:One L S
  ·exact .inl o
  ·have:∃i j,S i=true/\S j=true/\L i≠L j:=by
    refine Classical.byContradiction fun z=>o fun i j hi hj=>Classical.byContradiction fun q=>z ⟨i,j,hi,hj,q⟩
   obtain⟨i,j,hi,hj,ne⟩:=this
   have:∃y∈Y,y i≠y j:=by
    refine Classical.byContradiction fun z=>ne (he i j (hS i hi) (hS j hj) fun y hy=>Classical.byContradiction fun q=>z ⟨y,hy,q⟩)
   obtain⟨y,hy,hne⟩:=this
   have hp:A1 S y:=by
    cases yi:y i with
    | true =>
     refine⟨⟨i,hi,yi⟩,j,hj,?_⟩;cases yj:y j with
     | false=>rfl
     | true=>rw[yi,yj]at hne;exact absurd rfl hne
    | false =>
     refine⟨⟨j,hj,?_⟩,i,hi,yi⟩;cases yj:y j with
     | true=>rfl
     | false=>rw[yi,yj]at hne;exact absurd rfl hne
   obtain⟨c1,c2⟩:=NC hS hp;exact .inr ⟨y,hy,ih _ (fun k z=>hS k (by simp only[Zb]at z;exact z.1)) (by lia),ih _ (fun k z=>hS k (by simp only[Zb]at z;exact z.1)) (by lia)⟩
theorem NP:∀{n:Nat} {S:Nat->Bool},Can L Y n S->∃m,AZ L Y S m:=by
 intro n S h
 induction n with
 | zero=>exact⟨0,h,fun _ _=>ZX _⟩
 | succ n ih =>
  by_cases z:Can L Y n S
  ·exact ih z
  ·exact⟨n+1,h,fun k hk=>by
    rcases Zu k (n+1) with q | q
    ·exact absurd (ER (by lia) hk) z
    ·exact q⟩
end
def msk(ts:List Nat):Nat:=(ts.map (2 ^ ·)).sum
theorem FL(t:Nat)(ts:List Nat):msk (t::ts)=2 ^ t+msk ts:=by unfold msk;rw[Zi,List.sum_cons]
theorem OU(ts us:List Nat):msk (ts++us)=msk ts+msk us:=by unfold msk;rw[ZM,List.sum_append]
theorem LM:∀(ts:List Nat) (N:Nat),ts.Pairwise (fun a b=>b < a)->(∀t∈ts,t < N)->msk ts < 2 ^ N/\∀k,(msk ts).testBit k=decide (k∈ts)
 | [],N,_,_=>⟨ZBc N,fun k=>by simp[msk]⟩
 | t::ts,N,hp,hl=>by
  obtain⟨h1,h2⟩:=ZB8.mp hp;obtain⟨i1,i2⟩:=LM ts t h2 h1;rw[FL];have ht:t < N:=hl t (by simp);have e2:2 ^ t+2 ^ t<=2 ^ N:=by rw[<- Nat.two_mul,Nat.mul_comm,<- Nat.pow_succ];exact Zj (by decide) ht
  refine⟨by lia,fun k=>?_⟩
  rcases Z8 k t with z | z | z
  ·rw[Nat.testBit_two_pow_add_gt z,i2 k];simp only[ZF,show k≠t by lia,false_or]
  ·subst z;rw[Nat.testBit_two_pow_add_eq,i2 k]
   have:k∉ts:=fun q=>Zd _ (h1 k q)
   simp[this]
  ·have:2 ^ t+msk ts < 2 ^ k:=by
    have:2 ^ (t+1)<=2 ^ k:=Zj (by decide) z
    rw[Nat.pow_succ]at this;lia
   rw[Nat.testBit_lt_two_pow this];have h3:k∉ts:=fun q=>Zd _ (ZBL z (h1 k q))
   simp[h3,show k≠t by lia]
theorem TK(ts:List Nat):msk ts.reverse=msk ts:=by
 induction ts with
 | nil=>rfl
 | cons t ts ih=>rw[ZBx,OU,ih,FL,FL];simp[msk];lia
theorem Br(hp:ts.Pairwise (· < ·))(hl:∀t∈ts,t < N):msk ts < 2 ^ N/\∀k,(msk ts).testBit k=decide (k∈ts):=by
 have:=LM ts.reverse N (List.pairwise_reverse.mpr hp) (fun t ht=>hl t (ZB3.mp ht))
 rw[TK]at this;exact⟨this.1,fun k=>by rw[this.2 k];simp⟩
theorem EX(x y k:Nat):(x - (x &&& y)).testBit k=(x.testBit k && !y.testBit k):=by
 have e:x - (x &&& y)=x ^^^ (x &&& y):=by
  have h:∀(n x y:Nat),x < 2 ^ n->(x ^^^ (x &&& y))+(x &&& y)=x:=by
   intro n
   induction n with
   | zero=>intro x y h;have:x=0:=by simpa using h
           subst this;simp
   | succ n ih =>
    intro x y h;have i:=ih (x / 2) (y / 2) (by rw[Nat.pow_succ]at h;lia);have d1:(x ^^^ (x &&& y)) / 2=x / 2 ^^^ (x / 2 &&& y / 2):=by rw[Nat.xor_div_two,Nat.and_div_two]
    have d2:(x &&& y) / 2=x / 2 &&& y / 2:=Nat.and_div_two
    have m1:(x ^^^ (x &&& y)) % 2+(x &&& y) % 2=x % 2:=by
     have g:∀z:Nat,z % 2=(z.testBit 0).toNat:=fun z=>by rw[Nat.toNat_testBit,Nat.pow_zero,Nat.div_one]
     rw[g,g (x &&& y),g x,Nat.testBit_xor,ZBI];cases x.testBit 0 <;> cases y.testBit 0 <;> rfl
    lia
  have:=h x x y Nat.lt_two_pow_self
  lia
 rw[e,Nat.testBit_xor,ZBI];cases x.testBit k <;> cases y.testBit k <;> rfl
theorem DX(S y:Nat):(S &&& y).testBit=fun k=>S.testBit k && y.testBit k:=funext fun k=>ZBI ..
theorem DP(S y:Nat):(S - (S &&& y)).testBit=fun k=>S.testBit k && !y.testBit k:=funext fun k=>EX ..
theorem DA(h:S < 2 ^ n)(hk:S.testBit k=true):k < n:=by
 rcases Zu k n with z | z
 ·exact z
 ·rw[Nat.testBit_lt_two_pow (ZT h (Zj (by decide) z))]at hk;cases hk
def Gr:Sp:=fun vs H Q _=>match vs with
 | [.int b,.int t]=>∃m:Nat,t=m/\m<=64/\((-(2 ^ 64) < b/\b < 2 ^ 64)\/(Nb b 100/\m<=12))/\Q (.int (b ^ m)) H
 | _=>False
theorem Rb:FnOk P w K mg base CX0 1 T.f_z50 T.d_z50 ["base","times"] Gr:=by
 refine T.F_z50.ok sc_z50 (fun vs H Q E h=>by unfold Gr at h;split at h <;> first | rfl | exact h.elim) (fun cdv A outer s H vs Q E hr h=>?_);have hu:=Aa hr;unfold Gr at h;split at h;rotate_left
 ·exact h.elim
 rename_i b t;obtain⟨m,e1,h1,b1,q⟩:=h;subst e1;refine⟨_,(@AF _ _ _ _ _ (@AQ _ _ 2 _ _ _ _ sc_z50.nd rfl (by right) AC (by rfl) (by symm)) (@AF _ _ _ _ _ (@BK _ _ _ _ _ _ _ _ PassesOwn.never rfl (Aw rfl T.z_range (AA (vv 1) AB)) (AS (i:=3) sc_z50.nd rfl (by right)) (@AH _ _ _ (@AQ _ _ 2 _ _ _ _ sc_z50.nd rfl (by right) (AR CP (vv 2) (vv 0)) (by rfl) (by symm))) (by intro _;rfl)) (@AH _ _ _ (@AM _ _ _ _ (vv 2))))),?_⟩;refine⟨m,rfl,by lia,by lia,?_⟩;refine Bk (fun i σ H'=>H'=H/\∃z:Option V,σ=[some (.int b),some (.int m),some (.int (b ^ i)),z]) ⟨rfl,none,by rw[Int.pow_zero];rfl⟩ ?_ ?_
 ·rintro i σ H' hi ⟨rfl,z,rfl⟩;have hi':i < m:=by lia
  have okm:okMul (b ^ i) b:=by
   rcases b1 with b1 | ⟨b1,b2⟩
   ·exact .inr (.inr b1)
   ·exact Nb.okMul ((b1.pow i).up (by lia)) (b1.up (by lia))
  refine⟨okm,rfl,some (.int (0+(i:Int))),?_⟩;rw[Int.pow_succ];rfl
 ·rintro σ H' ⟨rfl,z,rfl⟩
  have:(m:Int).toNat=m:=by lia
  rw[this];exact q
def G6:Sp:=fun vs H Q _=>match vs with
 | [.int n]=>∃m:Nat,n=m/\m<=64/\Q (.int (2 ^ m:Nat)) H
 | _=>False
theorem IA:FnOk P w K mg base CX0 2 T.f_z52 T.d_z52 ["n"] G6:=by
 have G_z50:=@Rb P w K mg base T;refine T.F_z52.ok UI (fun vs H Q E h=>by unfold G6 at h;split at h <;> first | rfl | exact h.elim) (fun cdv A outer s H vs Q E hr h=>?_);have hu:=Aa hr;have hr_z50:=hr.mono (show 1<=_ by decide);unfold G6 at h;split at h;rotate_left
 ·exact h.elim
 rename_i n;obtain⟨m,e1,h1,q⟩:=h;subst e1;refine⟨_,(@AH _ _ _ (@AM _ _ _ _ (AJ G_z50 hr_z50 rfl T.m_z50 T.F_z50.kp T.b_z50 .nil AG (AA AC (AA (vv 0) AB))))),?_⟩;refine⟨m,rfl,h1,.inl ⟨by decide,by decide⟩,?_⟩;have e:(2:Int) ^ m=((2 ^ m:Nat):Int):=by rw[Int.natCast_pow];rfl
 rw[e];exact q
def IW:Sp:=fun vs H Q _=>match vs with
 | [.int x,.int y]=>∃a b:Nat,x=a/\y=b/\Q (.bl (decide (a &&& b=a))) H
 | _=>False
theorem Tz:FnOk P w K mg base CX0 1 T.f_z53 T.d_z53 ["subset","other"] IW:=by
 refine T.F_z53.ok SJ (fun vs H Q E h=>by unfold IW at h;split at h <;> first | rfl | exact h.elim) (fun cdv A outer s H vs Q E hr h=>?_);have hu:=Aa hr;unfold IW at h;split at h;rotate_left
 ·exact h.elim
 rename_i x y;obtain⟨a,b,e1,e2,q⟩:=h;subst e1 e2;refine⟨_,(@AH _ _ _ (@AM _ _ _ _ (Bm (kEq (K:=K) hu) (AR FU (vv 0) (vv 1)) (vv 0)))),?_⟩
 have e:(false ^^ (Builtin.bitAnd (a:Int) (b:Int) == (a:Int)))=decide (a &&& b=a):=by
  rw[Gs,Z6,Z7];simp only[beq_iff_eq,decide_eq_true_eq];lia
 show Q (.bl (false ^^ (Builtin.bitAnd (a:Int) (b:Int) == (a:Int)))) H;rw[e];exact q
def whr(bs:List Bool)(n:Nat):List Nat:=(List.range n).filter (gB bs)
theorem Mm(bs:List Bool)(n:Nat):whr bs (n+1)=whr bs n++(if gB bs n=true then [n] else []):=by
 unfold whr;rw[ZBR,ZBi];cases h:gB bs n <;> simp[h]
theorem Fp(bs:List Bool)(n:Nat):(whr bs n).length<=n:=by
 have:=ZBj (gB bs) (List.range n)
 rw[Zw]at this;exact this
theorem Ny(bs:List Bool)(n:Nat):(whr bs n).Pairwise (· < ·):=List.Pairwise.filter _ ZBr
theorem Es{bs:List Bool}{t:Nat}(h:t∈whr bs n):t < n:=Zk.mp (Zp.mp h).1
theorem Kg{bs:List Bool}{t:Nat}:t∈whr bs n ↔ t < n/\gB bs t=true:=by unfold whr;rw[Zp,Zk]
def IF(K:W.Frag):Sp:=fun vs H Q _=>match vs with
 | [.bl b,.ref p]=>∃rb:List Bool,SqT K H p (rb.map V.bl)/\rb.length<=100/\EY H Q (iL (whr (rb.map (· == b)) rb.length))
 | [.int z,.ref p]=>∃ls:List Int,SqT K H p (ls.map V.int)/\ls.length<=100/\EY H Q (iL (whr (ls.map (· == z)) ls.length))
 | _=>False
theorem Fy{α:Type}{f:α->Bool}{l:List α}{x:α}(h:l[i]? = some x):gB (l.map f) i=f x:=by
 unfold gB;rw[ZY,ZR,h];rfl
theorem Wd:FnOk P w K mg base CX0 1 T.f_z29 T.d_z29 ["wanted","values"] (IF K):=by
 refine T.F_z29.ok QE (fun vs H Q E h=>by unfold IF at h;split at h <;> first | rfl | exact h.elim) (fun cdv A outer s H vs Q E hr h=>?_);have hu:=Aa hr;unfold IF at h;split at h
 ·rename_i b p;obtain⟨rb,hp,hl,q⟩:=h;refine⟨_,(@AH _ _ _ (@AM _ _ _ _ (@Aq _ _ _ _ _ _ _ (["member","each","wanted"]) 2 [0] _ _ _ _ rfl (MW (K:=K) rfl T.z_enumerate (AA (vv 1) AB)) (by kernel_rfl) rfl rfl (by kernel_rfl) (fun c=>FQ (K:=K) (n:=2) rfl (Bz (AS (i:=0) (show(["member","each","wanted"]:List Str).Nodup by decide +kernel) rfl (by right)) (Bz (AS (i:=1) (show(["member","each","wanted"]:List Str).Nodup by decide +kernel) rfl (by right)) Dx))) (FR (Ck Bp (EZ Bp Cb) (Ah (by decide)) (Ck Bp Cb (Ah (by decide)) E6))) (fun c=>DC (AW (kEq (K:=K) hu) (vv 1) (vv 2))) (fun c=>(vv 0)) (by intro _;rfl)))),?_⟩;refine⟨⟨_,hp⟩,?_⟩
  refine Ni (xs:=rb.map V.bl) (fun i zs H'=>Same H H'/\zs=iL (whr (rb.map (· == b)) i)) ⟨Same.refl _,rfl⟩ (fun i zs H' _ ⟨s,_⟩=>s.sqT hp) (fun i zs H' hi ⟨_,e⟩=>by
   rw[ZC]at hi
   have:=Fp (rb.map (· == b)) i
   rw[e,Aj];exact Af (by lia)) ?_ ?_
  ·rintro i x zs H2 pp hx ⟨s2,rfl⟩ hpp;rw[ZR]at hx;cases e0:rb[i]? with
   | none=>rw[e0]at hx;cases hx
   | some r =>
    rw[e0]at hx;cases hx;have eg:gB (rb.map (· == b)) i=(r == b):=Fy e0;refine⟨pp,_,rfl,.of AD,rfl,_,_,rfl,_,_,rfl,rfl,?_⟩;rw[Mm,Bc,eg];refine Ag (fun e=>?_) (fun e=>?_)
    ·have e':(r == b)=true:=by rw[<- Z6 (r == b)];exact e
     rw[if_pos e'];exact⟨s2.trans (Same.upd hpp),rfl⟩
    ·have e':¬(r == b)=true:=by rw[<- Z6 (r == b)];exact e
     rw[if_neg e'];exact⟨s2.trans (Same.upd hpp),by show _=_++[];rw[Zt]⟩
  ·rintro zs H2 ⟨s2,rfl⟩ l hl;rw[ZC];exact q l _ (s2.free hl) (s2.trans (Same.upd hl)) AD
 ·rename_i b p;obtain⟨rb,hp,hl,q⟩:=h;refine⟨_,(@AH _ _ _ (@AM _ _ _ _ (@Aq _ _ _ _ _ _ _ (["member","each","wanted"]) 2 [0] _ _ _ _ rfl (MW (K:=K) rfl T.z_enumerate (AA (vv 1) AB)) (by kernel_rfl) rfl rfl (by kernel_rfl) (fun c=>FQ (K:=K) (n:=2) rfl (Bz (AS (i:=0) (show(["member","each","wanted"]:List Str).Nodup by decide +kernel) rfl (by right)) (Bz (AS (i:=1) (show(["member","each","wanted"]:List Str).Nodup by decide +kernel) rfl (by right)) Dx))) (FR (Ck Bp (EZ Bp Cb) (Ah (by decide)) (Ck Bp Cb (Ah (by decide)) E6))) (fun c=>DC (AW (kEq (K:=K) hu) (vv 1) (vv 2))) (fun c=>(vv 0)) (by intro _;rfl)))),?_⟩;refine⟨⟨_,hp⟩,?_⟩
  refine Ni (xs:=rb.map V.int) (fun i zs H'=>Same H H'/\zs=iL (whr (rb.map (· == b)) i)) ⟨Same.refl _,rfl⟩ (fun i zs H' _ ⟨s,_⟩=>s.sqT hp) (fun i zs H' hi ⟨_,e⟩=>by
   rw[ZC]at hi
   have:=Fp (rb.map (· == b)) i
   rw[e,Aj];exact Af (by lia)) ?_ ?_
  ·rintro i x zs H2 pp hx ⟨s2,rfl⟩ hpp;rw[ZR]at hx;cases e0:rb[i]? with
   | none=>rw[e0]at hx;cases hx
   | some r =>
    rw[e0]at hx;cases hx;have eg:gB (rb.map (· == b)) i=(r == b):=Fy e0;refine⟨pp,_,rfl,.of AD,rfl,_,_,rfl,_,_,rfl,rfl,?_⟩;rw[Mm,Bc,eg];refine Ag (fun e=>?_) (fun e=>?_)
    ·have e':(r == b)=true:=by rw[<- Z6 (r == b)];exact e
     rw[if_pos e'];exact⟨s2.trans (Same.upd hpp),rfl⟩
    ·have e':¬(r == b)=true:=by rw[<- Z6 (r == b)];exact e
     rw[if_neg e'];exact⟨s2.trans (Same.upd hpp),by show _=_++[];rw[Zt]⟩
  ·rintro zs H2 ⟨s2,rfl⟩ l hl;rw[ZC];exact q l _ (s2.free hl) (s2.trans (Same.upd hl)) AD
 ·exact h.elim
def SqI(K:W.Frag)(H:Hp)(p:Addr)(ts:List Nat):Prop:=SqL K H p (iL ts)\/SqT K H p (iL ts)
def JO(K:W.Frag):Sp:=fun vs H Q _=>match vs with
 | [.ref p]=>∃ts:List Nat,SqI K H p ts/\ts.length<=64/\(∀t∈ts,t<=60)/\∀H',Same H H'->Q (.int (msk ts:Nat)) H'
 | _=>False
theorem RA(ts:List Nat):(ts.map fun t=>((2 ^ t:Nat):Int)).sum=(msk ts:Nat):=by
 induction ts with
 | nil=>rfl
 | cons t ts ih=>rw[Zi,List.sum_cons,ih,FL];lia
theorem OZ:FnOk P w K mg base CX0 3 T.f_z34 T.d_z34 ["members"] (JO K):=by
 have G_z52:=@IA P w K mg base T;refine T.F_z34.ok Vk (fun vs H Q E h=>by unfold JO at h;split at h <;> first | rfl | exact h.elim) (fun cdv A outer s H vs Q E hr h=>?_);have hu:=Aa hr;have hr_z52:=hr.mono (show 2<=_ by decide);unfold JO at h;split at h;rotate_left
 ·exact h.elim
 rename_i p;obtain⟨ts,hp,hl,hb,q⟩:=h;refine⟨_,(@AH _ _ _ (@AM _ _ _ _ (AU (QI (K:=K) rfl) rfl T.z_sum (by rfl) (AA (@Aq _ _ _ _ _ _ _ ["member"] 1 [] _ _ _ _ rfl (BA (K:=K) (vv 0)) (by kernel_rfl) rfl rfl (by kernel_rfl) (fun c=>AS (i:=0) (show(["member"]:List Str).Nodup by decide +kernel) rfl (by right)) (Ah (by decide)) (fun c=>Ar) (fun c=>(AJ G_z52 hr_z52 rfl T.m_z52 T.F_z52.kp T.b_z52 .nil AG (AA (vv 0) AB))) (by intro _;rfl)) AB)))),?_⟩
 have turn:∀(k:Nat) (x:V) (ys:List V) (H':Hp),(iL ts)[k]? = some x->(Same H H'/\ys=(ts.take k).map fun t=>V.int ((2 ^ t:Nat):Int))->∃t:Nat,x=.int (t:Nat)/\t<=60/\(ts.take (k+1)).map (fun t=>V.int ((2 ^ t:Nat):Int))=ys++[V.int ((2 ^ t:Nat):Int)]:=by
  rintro k x ys H' hx ⟨_,rfl⟩;obtain⟨t,ht,hmem,rfl⟩:=B1 hx;refine⟨t,rfl,hb t hmem,?_⟩;rw[Zx,ht,ZM];rfl
 have fin:∀(ys:List V) (H':Hp),(Same H H'/\ys=(ts.take (iL ts).length).map fun t=>V.int ((2 ^ t:Nat):Int))->∀l,H' l=none->∃ns:List Int,SqL K (upd H' l (.lst ys)) l (ns.map V.int)/\Q (.int ns.sum) (upd H' l (.lst ys)):=by
  rintro ys H' ⟨s1,rfl⟩ l hl;refine⟨ts.map fun t=>((2 ^ t:Nat):Int),?_,?_⟩
  ·rw[ZBD,Aj,ZBE];exact .of AD
  ·rw[RA];exact q _ (s1.trans (Same.upd hl))
 rcases hp with hp | hp
 ·refine .inl ⟨⟨_,hp⟩,?_⟩
  refine DJ (xs:=iL ts) (fun k ys H'=>Same H H'/\ys=(ts.take k).map fun t=>V.int ((2 ^ t:Nat):Int)) ⟨Same.refl _,rfl⟩ (fun k ys H' _ ⟨s,_⟩=>s.sqL hp) (fun k ys H' hk ⟨_,e⟩=>by
   rw[Aj]at hk;rw[e,ZC,Ze];exact Af (by lia)) ?_ ?_
  ·intro k x ys H' hx hP;obtain⟨t,rfl,t60,e⟩:=turn k x ys H' hx hP;refine⟨t,rfl,by lia,?_⟩;exact⟨hP.1,e.symm⟩
  ·exact fin
 ·refine .inr ⟨⟨_,hp⟩,?_⟩
  refine CG (xs:=iL ts) (fun k ys H'=>Same H H'/\ys=(ts.take k).map fun t=>V.int ((2 ^ t:Nat):Int)) ⟨Same.refl _,rfl⟩ (fun k ys H' _ ⟨s,_⟩=>s.sqT hp) (fun k ys H' hk ⟨_,e⟩=>by
   rw[Aj]at hk;rw[e,ZC,Ze];exact Af (by lia)) ?_ ?_
  ·intro k x ys H' hx hP;obtain⟨t,rfl,t60,e⟩:=turn k x ys H' hx hP;refine⟨t,rfl,by lia,?_⟩;exact⟨hP.1,e.symm⟩
  ·exact fin
def AE(ls:List Int)(k:Nat):Int:=ls.getD k 0
def AX(ys:List Nat):List (Nat->Bool):=ys.map Nat.testBit
def BI(a b c d:V):List (Str × V):=[("labels",a),("yeses",b),("alike",c),("known",d)]
theorem lk1(a b c d:V):(BI a b c d).lookup ("labels" : Str)=some a:=by rfl
theorem lk2(a b c d:V):(BI a b c d).lookup ("yeses" : Str)=some b:=by rfl
theorem lk3(a b c d:V):(BI a b c d).lookup ("alike" : Str)=some c:=by rfl
theorem lk4(a b c d:V):(BI a b c d).lookup ("known" : Str)=some d:=by rfl
theorem ln1(a b c d:V):(BI a b c d).lookup ("fewest_among" : Str)=none:=by rfl
theorem ln2(a b c d:V):(BI a b c d).lookup ("fewest_reckoned" : Str)=none:=by rfl
theorem ln3(a b c d:V):(BI a b c d).lookup ("has_one_label" : Str)=none:=by rfl
theorem ln4(a b c d:V):(BI a b c d).lookup ("worst_behind" : Str)=none:=by rfl
theorem ln5(a b c d:V):(BI a b c d).lookup ("parting" : Str)=none:=by rfl
theorem ln6(a b c d:V):(BI a b c d).lookup ("harder_left" : Str)=none:=by rfl
theorem ln7(a b c d:V):(BI a b c d).lookup ("left_of" : Str)=none:=by rfl
theorem pf1(a:V):Al "labels" a []=([("labels",a)]:List (Str × V)):=by rfl
theorem pf2(a b:V):Al "yeses" b [("labels",a)]=([("labels",a),("yeses",b)]:List (Str × V)):=by rfl
theorem pf3(a b c:V):Al "alike" c [("labels",a),("yeses",b)]=([("labels",a),("yeses",b),("alike",c)]:List (Str × V)):=by rfl
theorem pf4(a b c d:V):Al "known" d [("labels",a),("yeses",b),("alike",c)]=BI a b c d:=by rfl
structure Memo(ls:List Int)(ys:List Nat)(kvs:List (Key × V)):Prop where
 nd:(kvs.map (·.1)).Nodup
 ok:∀e∈kvs,∃S m:Nat,e=((Sum.inl (S:Int):Key),V.int (m:Int))/\S < 2 ^ ls.length/\AZ (AE ls) (AX ys) S.testBit m
theorem EC:∀(N:Nat) (l:List Nat),l.Nodup->(∀x∈l,x < N)->l.length<=N
 | 0,l,_,h=>by
  cases l with
  | nil=>exact ZD _
  | cons x r=>exact absurd (h x (by simp)) (by lia)
 | N+1,l,nd,h=>by
  have:=EC N (l.erase N) (nd.erase N) (fun x hx=>by
   have h2:=(nd.mem_erase_iff).mp hx
   have:=h x h2.2
   have:=h2.1
   lia)
  by_cases z:N∈l
  ·have e:=List.length_erase_of_mem z;lia
  ·have e:=List.erase_of_not_mem z;rw[e]at this;lia
theorem Memo.len{kvs:List (Key × V)}(h:Memo ls ys kvs)(h16:ls.length<=16):kvs.length < 2 ^ 24:=by
 have hl:kvs.length<=2 ^ ls.length:=by
  have e:(kvs.map fun e=>match e.1 with | Sum.inl z=>z.toNat | Sum.inr _=>0).length=kvs.length:=ZC ..;rw[<- e];apply EC
  ·refine ZB2.mpr ?_;have nd:=ZB2.mp h.nd;refine List.Pairwise.imp_of_mem ?_ nd;intro a b ha hb ne;obtain⟨S,m,ea,_⟩:=h.ok a ha;obtain⟨S',m',eb,_⟩:=h.ok b hb;subst ea eb;intro q;apply ne
   have:(S:Int).toNat=(S':Int).toNat:=q
   have:S=S':=by lia
   rw[this]
  ·intro x hx;obtain⟨a,ha,rfl⟩:=ZP.mp hx;obtain⟨S,m,ea,hs,_⟩:=h.ok a ha;subst ea
   show(S:Int).toNat < _
   rw[Zc];exact hs
 have:2 ^ ls.length<=2 ^ 16:=Zj (by decide) h16
 lia
theorem UH{kvs:List (Key × V)}{k:Key}(h:valV kvs k=some v):(k,v)∈kvs:=by
 unfold valV at h;cases e:kvs.find? fun kv=>decide (kv.1=k) with
 | none=>rw[e]at h;cases h
 | some x =>
  rw[e]at h;have h1:=List.find?_some e;have h2:=List.mem_of_find?_eq_some e;cases h
  have:x.1=k:=ZQ h1
  rw[<- this];exact h2
theorem Memo.get{kvs:List (Key × V)}(h:Memo ls ys kvs)(e:valV kvs (Sum.inl (S:Int):Key)=some v):∃m:Nat,v=.int m/\AZ (AE ls) (AX ys) S.testBit m:=by
 obtain⟨S',m,ee,_,hf⟩:=h.ok _ (UH e);have e1:(Sum.inl (S:Int):Key)=Sum.inl (S':Int):=congrArg Prod.fst ee;have e2:v=V.int m:=congrArg Prod.snd ee
 have:(S:Int)=S':=Sum.inl.inj e1
 have:S=S':=by lia
 subst this;exact⟨m,e2,hf⟩
theorem Memo.put{kvs:List (Key × V)}(h:Memo ls ys kvs)(hs:S < 2 ^ ls.length)(hf:AZ (AE ls) (AX ys) S.testBit m):Memo ls ys (BC kvs (Sum.inl (S:Int):Key) (V.int m)):=by
 unfold BC;split
 ·refine⟨?_,?_⟩
  ·have e:(kvs.map (fun kv=>if kv.1=(Sum.inl (S:Int):Key) then (kv.1,V.int m) else kv)).map (·.1)=kvs.map (·.1):=by
    rw[ZBD];apply ZCC;intro a _;simp only[Function.comp];split <;> rfl
   rw[e];exact h.nd
  ·intro e he;obtain⟨a,ha,rfl⟩:=ZP.mp he;split
   ·rename_i q;exact⟨S,m,by rw[q],hs,hf⟩
   ·exact h.ok a ha
 ·rename_i z;refine⟨?_,?_⟩
  ·rw[ZM,List.nodup_append];refine⟨h.nd,by simp,?_⟩;intro a ha b hb q;have hb':b=(Sum.inl (S:Int):Key):=by simpa using hb
   obtain⟨x,hx,rfl⟩:=ZP.mp ha;exact z (ZBh.mpr ⟨x,hx,ZO (q.trans hb')⟩)
  ·intro e he
   rcases ZW.mp he with q | q
   ·exact h.ok e q
   ·rw[ZJ]at q;exact⟨S,m,q,hs,hf⟩
def Na(ls:List Int)(as:List Nat):Prop:=∀S,S < 2 ^ ls.length->(as.any (fun a=>decide (S &&& a=S))=true ↔ One (AE ls) S.testBit)
structure RkAt(K:W.Frag)(C:Addr)(ls:List Int)(ys:List Nat)(H:Hp)(p d:Addr):Prop where
 at_:∃dx tl yl al as kvs,H p=some (.ins C dx (BI (.ref tl) (.ref yl) (.ref al) (.ref d)))/\SqT K H tl (ls.map V.int)/\H yl=some (.lst (iL ys))/\H al=some (.lst (iL as))/\H d=some (.dK kvs)/\as.length<=100/\Na ls as/\Memo ls ys kvs
 l16:ls.length<=16
 y16:ys.length<=16
theorem RkAt.same(r:RkAt K C ls ys H p d)(s:Same H H'):RkAt K C ls ys H' p d:=by
 obtain⟨dx,tl,yl,al,as,kvs,h1,h2,h3,h4,h5,h6,h7,h8⟩:=r.at_;exact⟨⟨dx,tl,yl,al,as,kvs,s _ _ h1,s.sqT h2,s _ _ h3,s _ _ h4,s _ _ h5,h6,h7,h8⟩,r.l16,r.y16⟩
def CH(o:HO):Prop:=(∀xs,o≠.tup xs)/\∀ob u,o≠.frz ob u
theorem C7(f:Frm d H H')(hd:H d=some o)(no:CH o)(h:SqT K H a xs):SqT K H' a xs:=by
 by_cases e:a=d
 ·subst e
  rcases h with (h | ⟨ob,h⟩) | h
  ·rw[hd]at h;exact absurd (ZV h) (no.1 _)
  ·rw[hd]at h;exact absurd (ZV h) (no.2 _ _)
  ·exact .inr h
 ·exact FI h fun o k=>f _ _ e k
theorem HU{kvs:List (Key × V)}:CH (.dK kvs):=⟨(fun _ z=>nomatch z),(fun _ _ z=>nomatch z)⟩
theorem Et{dx:Addr}{fs:List (Str × V)}:CH (.ins C dx fs):=⟨(fun _ z=>nomatch z),(fun _ _ z=>nomatch z)⟩
theorem RkAt.put{kvs':List (Key × V)}(r:RkAt K C ls ys H p d)(f:Frm d H H')(hd:H' d=some (.dK kvs'))(m:Memo ls ys kvs'):RkAt K C ls ys H' p d:=by
 obtain⟨dx,tl,yl,al,as,kvs,h1,h2,h3,h4,h5,h6,h7,h8⟩:=r.at_;exact⟨⟨dx,tl,yl,al,as,kvs',f _ _ (Av h1 h5 (by intro z;cases z)) h1,C7 f h5 HU h2,f _ _ (Av h3 h5 (by intro z;cases z)) h3,f _ _ (Av h4 h5 (by intro z;cases z)) h4,hd,h6,h7,m⟩,r.l16,r.y16⟩
theorem At(s:Same H H'):Frm t H H':=fun b o _ e=>s b o e
def IG(K:W.Frag)(C:Addr):Sp:=fun vs H Q _=>match vs with
 | [.ref p,.int z]=>∃ls ys d S,RkAt K C ls ys H p d/\z=(S:Nat)/\S < 2 ^ ls.length/\∀b H',(b=true ↔ One (AE ls) S.testBit)->Same H H'->Q (.bl b) H'
 | _=>False
theorem MB:FnOk P w K mg base CX0 2 T.f_z12 T.d_z12 ["self","things"] (IG K T.C_Reckoner):=by
 have G_z53:=@Tz P w K mg base T;refine T.F_z12.ok Tu (fun vs H Q E h=>by unfold IG at h;split at h <;> first | rfl | exact h.elim) (fun cdv A outer s H vs Q E hr h=>?_);have hu:=Aa hr;have hr_z53:=hr.mono (show 1<=_ by decide);unfold IG at h;split at h;rotate_left
 ·exact h.elim
 rename_i p z;obtain⟨ls,ys,d,S,R,e1,hS,q⟩:=h;subst e1;obtain⟨dx,tl,yl,al,as,kvs,h1,h2,h3,h4,h5,h6,h7,h8⟩:=R.at_;refine⟨_,(@AH _ _ _ (@AM _ _ _ _ (AU (RI (K:=K) rfl) rfl T.z_any (by rfl) (AA (Aq (N':=["alike","things"]) (own:=1) (ix:=[1]) rfl (BA (K:=K) (B8 T.cl_Reckoner T.na_Reckoner_alike (vv 0))) (by kernel_rfl) rfl rfl (by kernel_rfl) (fun c=>AS (i:=0) (show(["alike","things"]:List Str).Nodup by decide +kernel) rfl (by right)) (Ah (by decide)) (fun c=>Ar) (fun c=>(AJ G_z53 hr_z53 rfl T.m_z53 T.F_z53.kp T.b_z53 .nil AG (AA (vv 1) (AA (vv 0) AB))))) AB)))),?_⟩;refine⟨dx,_,_,h1,lk3 _ _ _ _,.inl ⟨⟨_,.of h4⟩,?_⟩⟩
 refine DJ (xs:=iL as) (fun k zs H'=>Same H H'/\zs=((as.take k).map fun a=>decide (S &&& a=S)).map V.bl) ⟨Same.refl _,rfl⟩ (fun k zs H' _ ⟨s,_⟩=>s.sqL (.of h4)) (fun k zs H' hk ⟨_,e⟩=>by
  rw[Aj]at hk;rw[e,ZC,ZC,Ze];exact Af (by lia)) ?_ ?_
 ·rintro k x zs H' hx ⟨s1,rfl⟩;obtain⟨a,ha,_,rfl⟩:=B1 hx;refine⟨S,a,rfl,rfl,s1,?_⟩;rw[Zx,ha,ZM,ZM];rfl
 ·rintro zs H' ⟨s1,rfl⟩ l hl;rw[Aj,ZBE];refine⟨_,.of AD,q _ _ ?_ (s1.trans (Same.upd hl))⟩;rw[List.any_map];exact h7 S hS
def Ma(K:W.Frag)(C:Addr):Sp:=fun vs H Q _=>match vs with
 | [.ref p,.int z,.int i,.bl ans]=>∃ls ys d S j y,RkAt K C ls ys H p d/\z=(S:Nat)/\i=(j:Nat)/\ys[j]? = some y/\Q (.int ((if ans=true then S &&& y else S - (S &&& y):Nat):Int)) H
 | _=>False
theorem U1{y:Nat}(h:ys[j]? = some y):atI (iL ys) ((j:Nat):Int)=some (.int (y:Nat)):=A2 rfl (by unfold iL;rw[ZR,h];rfl)
theorem JC:FnOk P w K mg base CX0 1 T.f_z21 T.d_z21 ["self","things","question","answer"] (Ma K T.C_Reckoner):=by
 refine T.F_z21.ok sc_z21 (fun vs H Q E h=>by unfold Ma at h;split at h <;> first | rfl | exact h.elim) (fun cdv A outer s H vs Q E hr h=>?_);have hu:=Aa hr
 match vs,h with
 | [.ref p,.int z,.int i,.bl ans],⟨ls,ys,d,S,j,y,R,e1,e2,hj,q⟩ =>
 subst e1 e2;obtain⟨dx,tl,yl,al,as,kvs,h1,h2,h3,h4,h5,h6,h7,h8⟩:=R.at_;refine⟨_,(@AF _ _ _ _ _ (@AQ _ _ 4 _ _ _ _ sc_z21.nd rfl (by right) (AR FU (vv 1) (kIx (K:=K) (B8 T.cl_Reckoner T.na_Reckoner_yeses (vv 0)) (vv 2))) (by rfl) (by symm)) (@AH _ _ _ (@AM _ _ _ _ (DQ (Ba (vv 3)) (vv 4) (AR E5 (vv 1) (vv 4)))))),?_⟩;refine⟨dx,_,_,h1,lk2 _ _ _ _,_,.int (y:Nat),.inl (.of h3),U1 hj,?_⟩;dsimp only[AT,Nx];rw[Gs];cases ans with
 | true=>exact q
 | false =>
  have e:((S:Int) - ((S &&& y:Nat):Int))=((S - (S &&& y):Nat):Int):=by
   have:=ZBt (n:=S) (m:=y)
   lia
  show Q (.int ((S:Int) - ((S &&& y:Nat):Int))) H;rw[e];exact q
def BR(S y:Nat):Bool:=decide (0 < S &&& y) && decide (S &&& y < S)
def A6(S:Nat)(ys:List Nat)(n:Nat):List Nat:=(List.range n).filter fun i=>BR S (ys.getD i 0)
theorem TY(S:Nat)(ys:List Nat)(n:Nat):A6 S ys (n+1)=A6 S ys n++(if BR S (ys.getD n 0)=true then [n] else []):=by
 unfold A6;rw[ZBR,ZBi];cases h:BR S (ys.getD n 0) <;> simp only[ZBY,List.filter_nil,h] <;> rfl
theorem KP(S:Nat)(ys:List Nat)(n:Nat):(A6 S ys n).length<=n:=by
 have:=ZBj (fun i=>BR S (ys.getD i 0)) (List.range n)
 rw[Zw]at this;exact this
theorem Fj(S y:Nat):BR S y=true ↔ A1 S.testBit y.testBit:=by
 unfold BR A1;rw[Zb,decide_eq_true_eq,decide_eq_true_eq]
 have h1:0 < S &&& y ↔ ∃k,S.testBit k=true/\y.testBit k=true:=by
  constructor
  ·intro h;obtain⟨k,hk⟩:=Nat.exists_testBit_of_ne_zero (Nat.pos_iff_ne_zero.mp h);rw[ZBI,Zb]at hk;exact⟨k,hk⟩
  ·rintro⟨k,a,b⟩
   rcases Nat.eq_zero_or_pos (S &&& y) with z | z
   ·have:(S &&& y).testBit k=true:=by rw[ZBI,a,b];rfl
    rw[z]at this;simp at this
   ·exact z
 have h2:S &&& y < S ↔ ∃k,S.testBit k=true/\y.testBit k=false:=by
  have hle:=ZBt (n:=S) (m:=y);constructor
  ·intro h;obtain⟨k,hk⟩:=Nat.exists_testBit_of_ne_zero (show S - (S &&& y)≠0 by lia);rw[EX,Zb]at hk;exact⟨k,hk.1,by simpa using hk.2⟩
  ·rintro⟨k,a,b⟩
   rcases Zu (S &&& y) S with z | z
   ·exact z
   ·have e:S &&& y=S:=by lia
    have:(S &&& y).testBit k=true:=by rw[e];exact a
    rw[ZBI,b]at this;simp at this
 rw[h1,h2]
def IE(K:W.Frag)(C:Addr):Sp:=fun vs H Q _=>match vs with
 | [.ref p,.int z]=>∃ls ys d S,RkAt K C ls ys H p d/\z=(S:Nat)/\EY H Q (iL (A6 S ys ys.length))
 | _=>False
theorem J5:FnOk P w K mg base CX0 1 T.f_z20 T.d_z20 ["self","things"] (IE K T.C_Reckoner):=by
 refine T.F_z20.ok Vn (fun vs H Q E h=>by unfold IE at h;split at h <;> first | rfl | exact h.elim) (fun cdv A outer s H vs Q E hr h=>?_);have hu:=Aa hr;unfold IE at h;split at h;rotate_left
 ·exact h.elim
 rename_i p z;obtain⟨ls,ys,d,S,R,e1,q⟩:=h;subst e1;obtain⟨dx,tl,yl,al,as,kvs,h1,h2,h3,h4,h5,h6,h7,h8⟩:=R.at_;have y16:=R.y16;refine⟨_,(@AH _ _ _ (@AM _ _ _ _ (@Aq _ _ _ _ _ _ _ (["question","yes","things"]) 2 [1] _ _ _ _ rfl (Ql (K:=K) rfl T.z_enumerate (AA (B8 T.cl_Reckoner T.na_Reckoner_yeses (vv 0)) AB)) (by kernel_rfl) rfl rfl (by kernel_rfl) (fun c=>FQ (K:=K) (n:=2) rfl (Bz (AS (i:=0) (show(["question","yes","things"]:List Str).Nodup by decide +kernel) rfl (by right)) (Bz (AS (i:=1) (show(["question","yes","things"]:List Str).Nodup by decide +kernel) rfl (by right)) Dx))) (FR (Ck Bp (EZ Bp Cb) (Ah (by decide)) (Ck Bp Cb (Ah (by decide)) E6))) (fun c=>DC (Va CQ CQ AC (AR FU (vv 2) (vv 1)) (vv 2))) (fun c=>(vv 0)) (by intro _;rfl)))),?_⟩;refine⟨dx,_,_,h1,lk2 _ _ _ _,⟨_,.of h3⟩,?_⟩
 refine Ti (xs:=iL ys) (fun i zs H'=>Same H H'/\zs=iL (A6 S ys i)) ⟨Same.refl _,rfl⟩ (fun i zs H' _ ⟨s,_⟩=>s.sqL (.of h3)) (fun i zs H' hi ⟨_,e⟩=>by
  rw[Aj]at hi
  have:=KP S ys i
  rw[e,Aj];exact Af (by lia)) ?_ ?_
 ·rintro i x zs H2 pp hx ⟨s2,rfl⟩ hpp;obtain⟨y,hy,_,rfl⟩:=B1 hx;refine⟨pp,_,rfl,.of AD,rfl,_,_,rfl,_,_,rfl,rfl,?_⟩;have eg:ys.getD i 0=y:=by rw[ZY,hy];rfl
  rw[TY,Bc,eg];have s3:=s2.trans (Same.upd (o:=.tup [.int (i:Nat),.int (y:Nat)]) hpp);have eb:Builtin.bitAnd (S:Int) (y:Int)=((S &&& y:Nat):Int):=Gs ..;refine Ag (fun e=>?_) (fun e=>?_)
  ·rw[eb]at e;have e':0 < S &&& y:=by have:=ZQ e;lia
   refine Ag (fun f=>?_) (fun f=>?_)
   ·rw[eb]at f;have f':S &&& y < S:=by have:=ZQ f;lia
    rw[if_pos (show BR S y=true by unfold BR;rw[ZO e',ZO f'];rfl)];exact⟨s3,rfl⟩
   ·rw[eb]at f;have f':¬S &&& y < S:=fun q=>f (ZO (by lia))
    rw[if_neg (show ¬BR S y=true by unfold BR;rw[Zy f',Bool.and_false];simp)];exact⟨s3,by show _=_++[];rw[Zt]⟩
  ·rw[eb]at e;have e':¬0 < S &&& y:=fun q=>e (ZO (by lia))
   rw[if_neg (show ¬BR S y=true by unfold BR;rw[Zy e',Bool.false_and];simp)];exact⟨s3,by show _=_++[];rw[Zt]⟩
 ·rintro zs H2 ⟨s2,rfl⟩ l hl;rw[Aj];exact q l _ (s2.free hl) (s2.trans (Same.upd hl)) AD
def BJ(K:W.Frag)(C:Addr)(c:Nat):Sp:=fun vs H Q _=>match vs with
 | [.ref p,.int z]=>∃ls ys d S,RkAt K C ls ys H p d/\z=(S:Nat)/\S < 2 ^ ls.length/\(∃n,Can (AE ls) (AX ys) n S.testBit)/\An ls.length S.testBit < c/\∀(m:Nat) H',AZ (AE ls) (AX ys) S.testBit m->RkAt K C ls ys H' p d->Frm d H H'->Q (.int (m:Nat)) H'
 | _=>False
theorem Me{c:Nat}:Ai (BJ K C c):=fun vs H Q Q' E h q=>by
 unfold BJ at *;split at q
 ·revert q;repeat' first | exact h _ _ | exact B3 h | exact out_mono h | exact outT_mono h | walk_at "m"
 ·exact q.elim
def HH(K:W.Frag)(C:Addr)(c:Nat):Sp:=fun vs H Q _=>match vs with
 | [.ref p,.int z,.int i]=>∃ls ys d S j y,RkAt K C ls ys H p d/\z=(S:Nat)/\S < 2 ^ ls.length/\(∃n,Can (AE ls) (AX ys) n S.testBit)/\i=(j:Nat)/\ys[j]? = some y/\A1 S.testBit y.testBit/\An ls.length S.testBit < c+1 /\
  ∀(b e X:Nat) H',AZ (AE ls) (AX ys) (S &&& y).testBit b->AZ (AE ls) (AX ys) (S - (S &&& y)).testBit e->(X=S &&& y/\e < b\/X=S - (S &&& y)/\b<=e)->RkAt K C ls ys H' p d->Frm d H H'->Q (.int (X:Nat)) H'
 | _=>False
def Dy(K:W.Frag)(C:Addr)(c:Nat):Sp:=fun vs H Q _=>match vs with
 | [.ref p,.int z,.int i]=>∃ls ys d S j y,RkAt K C ls ys H p d/\z=(S:Nat)/\S < 2 ^ ls.length/\(∃n,Can (AE ls) (AX ys) n S.testBit)/\i=(j:Nat)/\ys[j]? = some y/\A1 S.testBit y.testBit/\An ls.length S.testBit < c+1 /\
  ∀(b e:Nat) H',AZ (AE ls) (AX ys) (S &&& y).testBit b->AZ (AE ls) (AX ys) (S - (S &&& y)).testBit e->RkAt K C ls ys H' p d->Frm d H H'->Q (.int (max b e:Nat)) H'
 | _=>False
theorem IV{y c:Nat}(hS:S < 2 ^ ls.length)(hc:Can (AE ls) (AX ys) n S.testBit)(hp:A1 S.testBit y.testBit)(hk:An ls.length S.testBit < c+1) :
 (S &&& y < 2 ^ ls.length/\Can (AE ls) (AX ys) n (S &&& y).testBit/\An ls.length (S &&& y).testBit < c)/\S - (S &&& y) < 2 ^ ls.length/\Can (AE ls) (AX ys) n (S - (S &&& y)).testBit/\An ls.length (S - (S &&& y)).testBit < c:=by
 obtain⟨c1,c2⟩:=NC (fun k hk=>DA hS hk) hp;have hle:=ZBt (n:=S) (m:=y);rw[DX,DP];exact⟨⟨by lia,Bu (fun k z=>by simp only[Zb]at z;exact z.1) hc,by lia⟩,by lia,Bu (fun k z=>by simp only[Zb]at z;exact z.1) hc,by lia⟩
theorem Ps(c:Nat)(G_z15:FnOk P w K mg base CX0 (4 * c+4) T.f_z15 T.d_z15 ["self","things"] (BJ K T.C_Reckoner c)) :
 FnOk P w K mg base CX0 (4 * c+5) T.f_z16 T.d_z16 ["self","things","question"] (HH K T.C_Reckoner c):=by
 have G_z21:=@JC P w K mg base T;refine T.F_z16.ok sc_z16 (fun vs H Q E h=>by unfold HH at h;split at h <;> first | rfl | exact h.elim) (fun cdv A outer s H vs Q E hr h=>?_);have hu:=Aa hr;have hr_z21:=hr.mono (show 1<=4 * c+4 by lia);have hr_z15:=hr;unfold HH at h;split at h;rotate_left
 ·exact h.elim
 rename_i p z i;obtain⟨ls,ys,d,S,j,y,R,e1,hS,⟨n,hc⟩,e2,hj,hp,hk,q⟩:=h;subst e1 e2;obtain⟨⟨a1,a2,a3⟩,b1,b2,b3⟩:=IV hS hc hp hk;obtain⟨dx,tl,yl,al,as,kvs,h1,_⟩:=id R.at_;refine⟨_,(@AF _ _ _ _ _ (@AQ _ _ 3 _ _ _ _ sc_z16.nd rfl (by right) (A3 (vv 0) T.cl_Reckoner T.me_z21 G_z21 hr_z21 T.b_z21 .nil AG (AA (vv 1) (AA (vv 2) (AA Az AB)))) (by rfl) (by symm)) (@AF _ _ _ _ _ (@AQ _ _ 4 _ _ _ _ sc_z16.nd rfl (by right) (A3 (vv 0) T.cl_Reckoner T.me_z21 G_z21 hr_z21 T.b_z21 .nil AG (AA (vv 1) (AA (vv 2) (AA Az AB)))) (by rfl) (by symm)) (@AH _ _ _ (@AM _ _ _ _ (DQ (AW C6 (A3 (vv 0) T.cl_Reckoner T.me_z15 G_z15 hr_z15 T.b_z15 .nil AG (AA (vv 4) AB)) (A3 (vv 0) T.cl_Reckoner T.me_z15 G_z15 hr_z15 T.b_z15 .nil AG (AA (vv 3) AB))) (vv 4) (vv 3)))))),?_⟩;refine⟨p,dx,_,rfl,h1,ln7 _ _ _ _,ls,ys,d,S,j,y,R,rfl,rfl,hj,?_⟩;dsimp only[AT];refine⟨p,dx,_,rfl,h1,ln7 _ _ _ _,ls,ys,d,S,j,y,R,rfl,rfl,hj,?_⟩;dsimp only[AT];refine⟨p,dx,_,rfl,h1,ln1 _ _ _ _,ls,ys,d,S &&& y,R,rfl,a1,⟨n,a2⟩,a3,fun b H1 f1 R1 fr1=>?_⟩;obtain⟨dx1,tl1,yl1,al1,as1,kvs1,k1,_⟩:=id R1.at_;refine⟨p,dx1,_,rfl,k1,ln1 _ _ _ _,ls,ys,d,S - (S &&& y),R1,rfl,b1,⟨n,b2⟩,b3,fun e H2 f2 R2 fr2=>?_⟩;refine Ag (fun x=>?_) (fun x=>?_)
 ·have x':e < b:=by have:=ZQ x;lia
  exact q b e _ H2 f1 f2 (.inl ⟨rfl,x'⟩) R2 (fr1.trans fr2)
 ·have x':¬e < b:=fun w=>x (ZO (by lia))
  exact q b e _ H2 f1 f2 (.inr ⟨rfl,by lia⟩) R2 (fr1.trans fr2)
theorem LQ(c:Nat)(G_z15:FnOk P w K mg base CX0 (4 * c+4) T.f_z15 T.d_z15 ["self","things"] (BJ K T.C_Reckoner c)) :
 FnOk P w K mg base CX0 (4 * c+6) T.f_z13 T.d_z13 ["self","things","question"] (Dy K T.C_Reckoner c):=by
 have G_z16:=Ps T c G_z15;refine T.F_z13.ok Uf (fun vs H Q E h=>by unfold Dy at h;split at h <;> first | rfl | exact h.elim) (fun cdv A outer s H vs Q E hr h=>?_);have hu:=Aa hr;have hr_z15:=hr.mono (show 4 * c+4<=4 * c+5 by lia);have hr_z16:=hr;unfold Dy at h;split at h;rotate_left
 ·exact h.elim
 rename_i p z i;obtain⟨ls,ys,d,S,j,y,R,e1,hS,⟨n,hc⟩,e2,hj,hp,hk,q⟩:=h;subst e1 e2;obtain⟨⟨a1,a2,a3⟩,b1,b2,b3⟩:=IV hS hc hp hk;obtain⟨dx,tl,yl,al,as,kvs,h1,_⟩:=id R.at_;refine⟨_,(@AH _ _ _ (@AM _ _ _ _ (A3 (vv 0) T.cl_Reckoner T.me_z15 G_z15 hr_z15 T.b_z15 .nil AG (AA (A3 (vv 0) T.cl_Reckoner T.me_z16 G_z16 hr_z16 T.b_z16 .nil AG (AA (vv 1) (AA (vv 2) AB))) AB)))),?_⟩;refine⟨p,dx,_,rfl,h1,ln1 _ _ _ _,p,dx,_,rfl,h1,ln6 _ _ _ _,ls,ys,d,S,j,y,R,rfl,hS,⟨n,hc⟩,rfl,hj,hp,hk,fun b e X H1 f1 f2 hX R1 fr1=>?_⟩
 have X1:X < 2 ^ ls.length/\(∃n,Can (AE ls) (AX ys) n X.testBit)/\An ls.length X.testBit < c/\∀m,AZ (AE ls) (AX ys) X.testBit m->m=max b e:=by
  rcases hX with ⟨rfl,x⟩ | ⟨rfl,x⟩
  ·exact⟨a1,⟨n,a2⟩,a3,fun m hm=>by rw[ET hm f1];lia⟩
  ·exact⟨b1,⟨n,b2⟩,b3,fun m hm=>by rw[ET hm f2];lia⟩
 obtain⟨x1,x2,x3,x4⟩:=X1;refine⟨ls,ys,d,X,R1,rfl,x1,x2,x3,fun m H2 hm R2 fr2=>?_⟩;rw[x4 m hm];exact q b e H2 f1 f2 R2 (fr1.trans fr2)
def Er(ls:List Int)(ys:List Nat)(S:Nat)(qs ms:List Nat):Prop:=ms.length=qs.length/\∀(t i:Nat),qs[t]? = some i->∃b e,AZ (AE ls) (AX ys) (S &&& ys.getD i 0).testBit b/\AZ (AE ls) (AX ys) (S - (S &&& ys.getD i 0)).testBit e/\ms[t]? = some (max b e)
theorem WF{qs ms:List Nat}{b e:Nat}(h:Er ls ys S qs ms)(f1:AZ (AE ls) (AX ys) (S &&& ys.getD i 0).testBit b)(f2:AZ (AE ls) (AX ys) (S - (S &&& ys.getD i 0)).testBit e):Er ls ys S (qs++[i]) (ms++[max b e]):=by
 refine⟨by rw[ZL,ZL,h.1];rfl,fun t i' ht=>?_⟩
 rcases Z8 t qs.length with z | z | z
 ·rw[ZBO z]at ht;obtain⟨b',e',g1,g2,g3⟩:=h.2 t i' ht;exact⟨b',e',g1,g2,by rw[ZBO (by rw[h.1];exact z)];exact g3⟩
 ·subst z;rw[ZBF (ZD _),ZBu]at ht;cases ht;exact⟨b,e,f1,f2,by rw[<- h.1,ZBF (ZD _),ZBu];rfl⟩
 ·rw[ZBF (Zs z)]at ht;rw[ZBv (by simp;lia)]at ht;cases ht
theorem Dc(h:i∈A6 S ys ys.length):ys[i]? = some (ys.getD i 0)/\A1 S.testBit (ys.getD i 0).testBit:=by
 obtain⟨h1,h2⟩:=Zp.mp h;have h1:=Zk.mp h1;refine⟨?_,(Fj _ _).mp h2⟩;rw[ZY,ZE h1];rfl
theorem Vv{ms:List Nat}{M:Nat}(ho:¬One (AE ls) S.testBit)(h:Er ls ys S (A6 S ys ys.length) ms)(h1:M∈ms)(h2:∀a∈ms,M<=a):AZ (AE ls) (AX ys) S.testBit (1+M):=by
 refine Vj ho ?_ ?_
 ·obtain⟨t,ht,et⟩:=ZBC h1;have ht':t < (A6 S ys ys.length).length:=by rw[<- h.1];exact ht
  obtain⟨b,e,g1,g2,g3⟩:=h.2 t _ (ZE ht');obtain⟨y1,y2⟩:=Dc (Zo ht');rw[DX]at g1;rw[DP]at g2;refine⟨_,ZP.mpr ⟨_,Z9 y1,rfl⟩,y2,b,e,g1,g2,?_⟩;rw[ZE ht,et]at g3;exact ZV g3
 ·intro f hf hp;obtain⟨y,hy,rfl⟩:=ZP.mp hf;obtain⟨i,hi,ei⟩:=ZBC hy;have eg:ys.getD i 0=y:=by rw[ZY,ZE hi,ei];rfl
  have him:i∈A6 S ys ys.length:=Zp.mpr ⟨Zk.mpr hi,(Fj _ _).mpr (by rw[eg];exact hp)⟩;obtain⟨t,ht,et⟩:=ZBC him;obtain⟨b,e,g1,g2,g3⟩:=h.2 t i (by rw[ZE ht,et]);rw[DX,eg]at g1;rw[DP,eg]at g2;exact⟨b,e,g1,g2,h2 _ (Z9 g3)⟩
theorem Gq(ho:¬One (AE ls) S.testBit)(hc:Can (AE ls) (AX ys) n S.testBit):0 < (A6 S ys ys.length).length:=by
 obtain⟨f,hf,hp⟩:=GL ho hc;obtain⟨y,hy,rfl⟩:=ZP.mp hf;obtain⟨i,hi,ei⟩:=ZBC hy;have eg:ys.getD i 0=y:=by rw[ZY,ZE hi,ei];rfl
 exact List.length_pos_of_mem (Zp.mpr ⟨Zk.mpr hi,(Fj _ _).mpr (by rw[eg];exact hp)⟩)
theorem TM(c:Nat)(G_z15:FnOk P w K mg base CX0 (4 * c+4) T.f_z15 T.d_z15 ["self","things"] (BJ K T.C_Reckoner c)) :
 FnOk P w K mg base CX0 (4 * c+7) T.f_z10 T.d_z10 ["self","things"] (BJ K T.C_Reckoner (c+1)):=by
 have G_z13:=LQ T c G_z15;have G_z12:=@MB P w K mg base T;have G_z20:=@J5 P w K mg base T;refine T.F_z10.ok Qg (fun vs H Q E h=>by unfold BJ at h;split at h <;> first | rfl | exact h.elim) (fun cdv A outer s H vs Q E hr h=>?_);have hu:=Aa hr;have hr_z13:=hr;have hr_z12:=hr.mono (show 2<=4 * c+6 by lia);have hr_z20:=hr.mono (show 1<=4 * c+6 by lia);unfold BJ at h;split at h;rotate_left
 ·exact h.elim
 rename_i p z;obtain⟨ls,ys,d,S,R,e1,hS,⟨n,hc⟩,hk,q⟩:=h;subst e1;obtain⟨dx,tl,yl,al,as,kvs,h1,_,_,_,hd,_⟩:=id R.at_;have l16:=R.l16;have y16:=R.y16;refine⟨_,(@AF _ _ _ _ _ (@Ap _ _ _ _ _ _ _ _ (Ba (A3 (vv 0) T.cl_Reckoner T.me_z12 G_z12 hr_z12 T.b_z12 .nil AG (AA (vv 1) AB))) (@AH _ _ _ (@AM _ _ _ _ AC)) Ao) (@AH _ _ _ (@AM _ _ _ _ (AR (BB (K:=K)) AC (AU (Ko (K:=K) rfl) rfl T.z_min (by rfl) (AA (Aq (N':=["question","self","things"]) (own:=1) (ix:=[0,1]) rfl (BA (K:=K) (A3 (vv 0) T.cl_Reckoner T.me_z20 G_z20 hr_z20 T.b_z20 .nil AG (AA (vv 1) AB))) (by kernel_rfl) rfl rfl (by kernel_rfl) (fun c=>AS (i:=0) (show(["question","self","things"]:List Str).Nodup by decide +kernel) rfl (by right)) (Ah (by decide)) (fun c=>Ar) (fun c=>(A3 (vv 1) T.cl_Reckoner T.me_z13 G_z13 hr_z13 T.b_z13 .nil AG (AA (vv 2) (AA (vv 0) AB))))) AB)))))),?_⟩;refine⟨p,dx,_,rfl,h1,ln3 _ _ _ _,ls,ys,d,S,R,rfl,hS,fun b H1 hb s1=>?_⟩;have R1:=R.same s1;have hd1:=s1 _ _ hd;cases b with
 | true=>exact q 0 H1 ⟨hb.mp rfl,fun _ _=>ZX _⟩ R1 (At s1)
 | false =>
  have ho:¬One (AE ls) S.testBit:=fun o=>nomatch hb.mpr o
  refine⟨p,dx,_,rfl,s1 _ _ h1,ln5 _ _ _ _,ls,ys,d,S,R1,rfl,fun l H2 hl s2 g2=>.inl ⟨⟨_,.of g2⟩,?_⟩⟩;have R2:=R1.same s2;have hd2:=s2 _ _ hd1;have hld:l≠d:=Av g2 hd2 (by intro z;cases z);have hlen:=KP S ys ys.length
  refine DJ (xs:=iL (A6 S ys ys.length)) (fun k zs H'=>RkAt K T.C_Reckoner ls ys H' p d/\Frm d H2 H'/\∃ms,zs=iL ms/\Er ls ys S ((A6 S ys ys.length).take k) ms) ⟨R2,Frm.refl,[],rfl,rfl,fun t i ht=>by simp at ht⟩ (fun k zs H' _ ⟨_,f,_⟩=>.of (f _ _ hld g2)) (fun k zs H' hk' ⟨_,_,ms,e,hw⟩=>by
   rw[Aj]at hk';rw[e,Aj,hw.1,Ze];exact Af (by lia)) ?_ ?_
  ·rintro k x zs H' hx ⟨R',f',ms,rfl,hw⟩;obtain⟨i,hi,him,rfl⟩:=B1 hx;obtain⟨y1,y2⟩:=Dc him;obtain⟨dx',tl',yl',al',as',kvs',k1,_⟩:=id R'.at_;refine⟨p,dx',_,rfl,k1,ln4 _ _ _ _,ls,ys,d,S,i,_,R',rfl,hS,⟨n,hc⟩,rfl,y1,y2,hk,fun b e H3 g1 g2' R3 f3=>?_⟩;refine⟨R3,f'.trans f3,ms++[max b e],by rw[Bc];rfl,?_⟩;rw[Zx,hi];exact WF hw g1 g2'
  ·rintro zs H' ⟨R',f',ms,rfl,hw⟩ l2 hl2;rw[Aj,ZBE]at hw;refine⟨ms.map fun m=>((m:Nat):Int),by rw[ZBD];exact .of AD,by rw[ZC,hw.1];exact Gq ho hc,fun M hM hle=>?_⟩;obtain⟨M',hM',rfl⟩:=ZP.mp hM;have fm:=Vv ho hw hM' (fun a ha=>by have:=hle _ (ZP.mpr ⟨a,ha,rfl⟩);lia);have sl:Same H' (upd H' l2 (.lst (iL ms))):=Same.upd hl2;have e:(1:Int)+((M':Nat):Int)=((1+M':Nat):Int):=by lia
   show Q (.int (1+((M':Nat):Int))) _;rw[e];exact q (1+M') _ fm (R'.same sl) ((At s1).trans ((At s2).trans (f'.trans (At sl))))
theorem Rt(c:Nat)(G_z15:FnOk P w K mg base CX0 (4 * c+4) T.f_z15 T.d_z15 ["self","things"] (BJ K T.C_Reckoner c)) :
 FnOk P w K mg base CX0 (4 * (c+1)+4) T.f_z15 T.d_z15 ["self","things"] (BJ K T.C_Reckoner (c+1)):=by
 have G_z10:=TM T c G_z15;refine T.F_z15.ok QK (fun vs H Q E h=>by unfold BJ at h;split at h <;> first | rfl | exact h.elim) (fun cdv A outer s H vs Q E hr h=>?_);have hu:=Aa hr;have hr_z10:=hr.mono (show 4 * c+7<=4 * (c+1)+3 by lia);unfold BJ at h;split at h;rotate_left
 ·exact h.elim
 rename_i p z;obtain⟨ls,ys,d,S,R,e1,hS,hc,hk,q⟩:=h;subst e1;obtain⟨dx,tl,yl,al,as,kvs,h1,h2,h3,h4,hd,h6,h7,h8⟩:=id R.at_;have mono1:Ai (BJ K T.C_Reckoner (c+1)):=Me;refine⟨_,(@AF _ _ _ _ _ (@Ap _ _ _ _ _ _ _ _ (AW (Hy hu) (vv 1) (B8 T.cl_Reckoner T.na_Reckoner_known (vv 0))) (@AH _ _ _ (@JI _ _ _ _ _ _ _ _ _ (DU hu) (B8 T.cl_Reckoner T.na_Reckoner_known (vv 0)) (vv 1) (A3 (vv 0) T.cl_Reckoner T.me_z10 G_z10 hr_z10 T.b_z10 .nil AG (AA (vv 1) AB)) (by rfl))) Ao) (@AH _ _ _ (@AM _ _ _ _ (Jy (DU hu) (B8 T.cl_Reckoner T.na_Reckoner_known (vv 0)) (vv 1) (by intro _ _;rfl))))),?_⟩;refine Ad (fun σ H1=>σ=[some (.ref p),some (.int (S:Nat))]/\RkAt K T.C_Reckoner ls ys H1 p d/\Frm d H H1/\∃(kvs':List (Key × V)) (m:Nat),H1 d=some (.dK kvs')/\valV kvs' (Sum.inl (S:Int):Key)=some (.int m)/\AZ (AE ls) (AX ys) S.testBit m) ?_ ?_ (by walk_at "sm")
 ·refine⟨dx,_,_,h1,lk4 _ _ _ _,valV kvs (Sum.inl (S:Int):Key),DGet.k (k:=Sum.inl (S:Int)) hd,?_⟩;cases e:valV kvs (Sum.inl (S:Int):Key) with
  | some v =>
   obtain⟨m,rfl,hm⟩:=h8.get e;exact⟨rfl,R,Frm.refl,kvs,m,hd,e,hm⟩
  | none =>
   refine⟨p,dx,_,rfl,h1,ln2 _ _ _ _,ls,ys,d,S,R,rfl,hS,hc,hk,fun m H1 hm R1 f1=>?_⟩;obtain⟨dx1,tl1,yl1,al1,as1,kvs1,k1,_,_,_,k5,_,_,k8⟩:=id R1.at_;refine⟨dx1,_,_,k1,lk4 _ _ _ _,d,_,rfl,DPut.k (k:=Sum.inl (S:Int)) k5 (k8.len R.l16),?_⟩;have fu:Frm d H1 (upd H1 d (.dK (BC kvs1 (Sum.inl (S:Int):Key) (V.int m)))):=Frm.updT;exact⟨rfl,R1.put fu AD (k8.put hS hm),f1.trans fu,_,m,AD,by rw[KA,if_pos rfl],hm⟩
 ·rintro σ H1 ⟨rfl,R1,f1,kvs',m,hd1,hv,hm⟩;obtain⟨dx1,tl1,yl1,al1,as1,kvs1,k1,_⟩:=id R1.at_;refine⟨dx1,_,_,k1,lk4 _ _ _ _,d,.int m,rfl,?_,q m H1 hm R1 f1⟩;rw[<- hv];exact DGet.k (k:=Sum.inl (S:Int)) hd1
theorem HV:∀c:Nat,FnOk P w K mg base CX0 (4 * c+4) T.f_z15 T.d_z15 ["self","things"] (BJ K T.C_Reckoner c)
 | 0=>by
  have no:∀vs H Q E,¬BJ K T.C_Reckoner 0 vs H Q E:=fun vs H Q E h=>by
   unfold BJ at h;split at h
   ·obtain⟨ls,ys,d,S,_,_,_,_,z,_⟩:=h;exact absurd z (ZBQ _)
   ·exact h
  exact⟨fun vs H Q E h=>(no _ _ _ _ h).elim,fun A outer s H args us vs Q E _ _ _ _ h=>(no _ _ _ _ h).elim⟩
 | c+1=>Rt T c (HV c)
theorem G3:FnOk P w K mg base CX0 72 T.f_z15 T.d_z15 ["self","things"] (BJ K T.C_Reckoner 17):=HV T 17
def D8:Sp:=fun vs H Q _=>match vs with
 | [.ref t,.int n]=>∃m N:Nat,GFeed H t N/\N<=900000000/\n=m/\1<=m/\m<=4/\∀(bs:List Bool) p H',bs.length=2 ^ m->H p=none->H' p=some (.tup (bs.map V.bl))->GFeed H' t (N+18)->Frm t H H'->Q (.ref p) H'
 | _=>False
theorem Tx:Ai D8:=fun vs H Q Q' E h q=>by
 unfold D8 at *;split at q
 ·revert q;repeat' first | exact h _ _ | exact B3 h | exact out_mono h | exact outT_mono h | walk_at "m"
 ·exact q.elim
theorem Am(h:∀b,b≠t->H' b=H b):Frm t H H':=fun b o n e=>by rw[h b n];exact e
theorem Nd:FnOk P w K mg base CX0 2 T.f_z36 T.d_z36 ["_law_feed_here","_law_n"] D8:=by
 have G_z49:=@EL P w K mg base T;refine T.F_z36.ok sc_z36 (fun vs H Q E h=>by unfold D8 at h;split at h <;> first | rfl | exact h.elim) (fun cdv A outer s H vs Q E hr h=>?_);have hu:=Aa hr;have hr_z49:=hr.mono (show 1<=_ by decide);unfold D8 at h;split at h;rotate_left
 ·exact h.elim
 rename_i t n;obtain⟨m,N,F,hN,e1,m1,m4,q⟩:=h;subst e1;refine⟨_,(@AF _ _ _ _ _ (@AQ _ _ 2 _ _ _ _ sc_z36.nd rfl (by right) (AR Nt AC (vv 1)) (by rfl) (by symm)) (@AF _ _ _ _ _ (@AQ _ _ 3 _ _ _ _ sc_z36.nd rfl (by right) (AJ G_z49 hr_z49 rfl T.m_z49 T.F_z49.kp T.b_z49 .nil AG (AA (vv 0) (AA AC AB))) (by rfl) (by symm)) (@AF _ _ _ _ _ (@Ap _ _ _ _ _ _ _ _ (AW CQ (vv 3) AC) (@AH _ _ _ (@AM _ _ _ _ (As (A7 (K:=K)) rfl T.z_tuple (by rfl) (AA (Aq (N':=["_law_k","_law_feed_here"]) (own:=1) (ix:=[0]) rfl (Aw rfl T.z_range (AA (vv 2) AB)) (by kernel_rfl) rfl rfl (by kernel_rfl) (fun c=>AS (i:=0) (show(["_law_k","_law_feed_here"]:List Str).Nodup by decide +kernel) rfl (by right)) (Ah (by decide)) (fun c=>Ar) (fun c=>(Bm (kEq (K:=K) hu) (AJ G_z49 hr_z49 rfl T.m_z49 T.F_z49.kp T.b_z49 .nil AG (AA (vv 1) (AA AC AB))) AC))) AB)))) Ao) (@AF _ _ _ _ _ (@Ap _ _ _ _ _ _ _ _ (AW (kEq (K:=K) hu) (vv 3) AC) (@AF _ _ _ _ _ (@AQ _ _ 4 _ _ _ _ sc_z36.nd rfl (by right) (AJ G_z49 hr_z49 rfl T.m_z49 T.F_z49.kp T.b_z49 .nil AG (AA (vv 0) (AA (vv 2) AB))) (by rfl) (by symm)) (@AH _ _ _ (@AM _ _ _ _ (As (A7 (K:=K)) rfl T.z_tuple (by rfl) (AA (Aq (N':=["_law_k","_law_place"]) (own:=1) (ix:=[4]) rfl (Aw rfl T.z_range (AA (vv 2) AB)) (by kernel_rfl) rfl rfl (by kernel_rfl) (fun c=>AS (i:=0) (show(["_law_k","_law_place"]:List Str).Nodup by decide +kernel) rfl (by right)) (Ah (by decide)) (fun c=>Ar) (fun c=>(Bm (kEq (K:=K) hu) (vv 0) (vv 1)))) AB))))) Ao) (@AF _ _ _ _ _ (@Ap _ _ _ _ _ _ _ _ (AW (kEq (K:=K) hu) (vv 3) AC) (@AF _ _ _ _ _ (@AQ _ _ 5 _ _ _ _ sc_z36.nd rfl (by right) (AJ G_z49 hr_z49 rfl T.m_z49 T.F_z49.kp T.b_z49 .nil AG (AA (vv 0) (AA (vv 1) AB))) (by rfl) (by symm)) (@AH _ _ _ (@AM _ _ _ _ (As (A7 (K:=K)) rfl T.z_tuple (by rfl) (AA (Aq (N':=["_law_k","_law_one"]) (own:=1) (ix:=[5]) rfl (Aw rfl T.z_range (AA (vv 2) AB)) (by kernel_rfl) rfl rfl (by kernel_rfl) (fun c=>AS (i:=0) (show(["_law_k","_law_one"]:List Str).Nodup by decide +kernel) rfl (by right)) (Ah (by decide)) (fun c=>Ar) (fun c=>(Bm (kEq (K:=K) hu) (AR FU (AR PL (vv 0) (vv 1)) AC) AC))) AB))))) Ao) (@AF _ _ _ _ _ (@AQ _ _ 6 _ _ _ _ sc_z36.nd rfl (by right) (Bm (kEq (K:=K) hu) (AJ G_z49 hr_z49 rfl T.m_z49 T.F_z49.kp T.b_z49 .nil AG (AA (vv 0) (AA AC AB))) AC) (by rfl) (by symm)) (@AH _ _ _ (@AM _ _ _ _ (As (A7 (K:=K)) rfl T.z_tuple (by rfl) (AA (Aq (N':=["_law_k","_law_answer"]) (own:=1) (ix:=[6]) rfl (Aw rfl T.z_range (AA (vv 2) AB)) (by kernel_rfl) rfl rfl (by kernel_rfl) (fun c=>AS (i:=0) (show(["_law_k","_law_answer"]:List Str).Nodup by decide +kernel) rfl (by right)) (Ah (by decide)) (fun c=>Ar) (fun c=>(vv 1))) AB)))))))))),?_⟩;have e2:(1:Int) * 2 ^ ((m:Int).toNat)=((2 ^ m:Nat):Int):=by rw[Zc,Int.natCast_pow,Int.one_mul];rfl
 have h16:2 ^ m<=16:=Zj (n:=2) (by decide) m4;have h2:2<=2 ^ m:=Zj (n:=2) (i:=1) (by decide) m1;refine⟨⟨by lia,by lia,by decide⟩,?_⟩;rw[e2];generalize hM:2 ^ m=M at *;have hMd:okDiv (M:Int):=Ax (by lia) (Int.le_trans (Int.ofNat_le.mpr h16) (by decide))
 have fin:∀(N':Nat) (H1:Hp) (bs:List Bool) (l:Addr),GFeed H1 t N'->N'<=N+18->Frm t H H1->bs.length=M->H1 l=none->∃ys,(SqL K (upd H1 l (.lst (bs.map V.bl))) l ys/\∀p,upd H1 l (.lst (bs.map V.bl)) p=none->Q (.ref p) (upd (upd H1 l (.lst (bs.map V.bl))) p (.tup ys)))\/(SqT K (upd H1 l (.lst (bs.map V.bl))) l ys/\Q (.ref l) (upd H1 l (.lst (bs.map V.bl)))):=by
  intro N' H1 bs l F1 hN' fr hb hl;refine⟨_,.inl ⟨.of AD,fun p hp=>?_⟩⟩;have f2:Frm t H (upd H1 l (.lst (bs.map V.bl))):=fr.trans (Frm.upd hl);have F2:=F1.upd (o:=.lst (bs.map V.bl)) hl;exact q bs p _ hb (F2.free f2 hp) AD ((F2.upd hp).mono (by lia)) (f2.trans (Frm.upd hp))
 refine⟨N,F,by lia,Ax (by decide) (by decide),fun way H2 w0 w1 F2 f2=>?_⟩;dsimp only[AT];refine Ag (fun e=>?_) (fun e=>?_)
 ·refine⟨(M:Int),rfl,by lia,by lia,?_⟩
  refine BQ (fun i ys H'=>GFeed H' t (N+1+i)/\Frm t H H'/\∃bs:List Bool,ys=bs.map V.bl/\bs.length=i) ⟨F2,Am f2,[],rfl,rfl⟩ (fun i ys H' hi ⟨_,_,bs,e,el⟩=>by
   rw[e];exact Af (by rw[ZC];lia)) ?_ ?_
  ·rintro i ys H' hi ⟨Fi,fi,bs,rfl,rfl⟩;refine⟨_,Fi,by lia,Ax (by decide) (by decide),fun d H3 _ _ F3 f3=>?_⟩;exact⟨F3.mono (by lia),fi.trans (Am f3),bs++[(false ^^ (d == 1))],by rw[ZM];rfl,by rw[ZL];rfl⟩
  ·rintro ys H' ⟨Fi,fi,bs,rfl,hb⟩ l' hl;exact fin _ _ bs l' Fi (by lia) fi (by lia) hl
 dsimp only[CW];refine Ag (fun e=>?_) (fun e=>?_)
 ·refine⟨_,F2,by lia,hMd,fun pl H3 p0 p1 F3 f3=>?_⟩;dsimp only[AT];refine⟨(M:Int),rfl,by lia,by lia,?_⟩
  refine BQ (fun i ys H'=>H'=H3/\∃bs:List Bool,ys=bs.map V.bl/\bs.length=i) ⟨rfl,[],rfl,rfl⟩ (fun i ys H' hi ⟨_,bs,e,el⟩=>by
   rw[e];exact Af (by rw[ZC];lia)) ?_ ?_
  ·rintro i ys H' hi ⟨rfl,bs,rfl,rfl⟩;exact⟨rfl,bs++[(false ^^ ((0+(bs.length:Int)) == pl))],by rw[ZM];rfl,by rw[ZL];rfl⟩
  ·rintro ys H' ⟨rfl,bs,rfl,hb⟩ l' hl;exact fin _ _ bs l' F3 (by lia) ((Am f2).trans (Am f3)) (by lia) hl
 dsimp only[CW];refine Ag (fun e=>?_) (fun e=>?_)
 ·refine⟨_,F2,by lia,Ax (by lia) (by lia),fun on H3 p0 p1 F3 f3=>?_⟩;dsimp only[AT];refine⟨(M:Int),rfl,by lia,by lia,?_⟩
  refine BQ (fun i ys H'=>H'=H3/\∃bs:List Bool,ys=bs.map V.bl/\bs.length=i) ⟨rfl,[],rfl,rfl⟩ (fun i ys H' hi ⟨_,bs,e,el⟩=>by
   rw[e];exact Af (by rw[ZC];lia)) ?_ ?_
  ·rintro i ys H' hi ⟨rfl,bs,rfl,rfl⟩;refine⟨p0,?_⟩;exact⟨rfl,bs++[_],by rw[ZM];rfl,by rw[ZL];rfl⟩
  ·rintro ys H' ⟨rfl,bs,rfl,hb⟩ l' hl;exact fin _ _ bs l' F3 (by lia) ((Am f2).trans (Am f3)) (by lia) hl
 dsimp only[CW];refine⟨_,F2,by lia,Ax (by decide) (by decide),fun an H3 p0 p1 F3 f3=>?_⟩;dsimp only[AT,mEq];refine⟨(M:Int),rfl,by lia,by lia,?_⟩
 refine BQ (fun i ys H'=>H'=H3/\∃bs:List Bool,ys=bs.map V.bl/\bs.length=i) ⟨rfl,[],rfl,rfl⟩ (fun i ys H' hi ⟨_,bs,e,el⟩=>by
  rw[e];exact Af (by rw[ZC];lia)) ?_ ?_
 ·rintro i ys H' hi ⟨rfl,bs,rfl,rfl⟩;exact⟨rfl,bs++[_],by rw[ZM];rfl,by rw[ZL];rfl⟩
 ·rintro ys H' ⟨rfl,bs,rfl,hb⟩ l' hl;exact fin _ _ bs l' F3 (by lia) ((Am f2).trans (Am f3)) (by lia) hl
def Bl(m i:Nat):List Bool:=(List.range (2 ^ m)).map fun p=>p / 2 ^ i % 2 == 1
def JX(bs:List Bool):List Dv:=bs.map fun b=>Dv.int (if b then 1 else 0)
def Bg(bs:List Bool):List V:=bs.map fun b=>V.int (if b then 1 else 0)
def Bx(m n:Nat):List Dv:=(List.range n).map fun i=>.tup ((Bl m i).map Dv.bl)
def HR(bs:List Bool)(m:Nat):Dv:=.tup [.tup (JX bs),.tup (Bx m m)]
theorem UF(m i:Nat):(Bl m i).length=2 ^ m:=by unfold Bl;simp
theorem J4(m n:Nat):Bx m (n+1)=Bx m n++[.tup ((Bl m n).map Dv.bl)]:=by unfold Bx;rw[ZBR,ZM];rfl
theorem LG(m n:Nat):(Bx m n).length=n:=by unfold Bx;simp
theorem Nu:∀bs:List Bool,Reps K H (JX bs) (Bg bs)
 | []=>AV
 | b::bs=>AN Bo (Nu bs)
theorem Tk(bs:List Bool):(Bg bs).length=bs.length:=by unfold Bg;simp
theorem U8(bs cs:List Bool):Bg (bs++cs)=Bg bs++Bg cs:=by unfold Bg;simp
theorem K8(m:Nat):∀n,Ab (Bx m n)=true
 | 0=>rfl
 | n+1=>by
  rw[J4,LK,K8 m n];unfold Ab A4;rw[Ht];rfl
def SU(K:W.Frag)(H:Hp)(Q:VK)(d:Dv):Prop:=∀u H',Same H H'->Rep K H' d u->Q u H'
def IP(K:W.Frag):Sp:=fun vs H Q _=>match vs with
 | [.ref p]=>∃(bs:List Bool) (m:Nat),SqT K H p (bs.map V.bl)/\bs.length=2 ^ m/\1<=m/\m<=4/\SU K H Q (HR bs m)
 | _=>False
theorem UR:FnOk P w K mg base CX0 1 T.f_z25 T.d_z25 ["_law_table_here"] (IP K):=by
 refine T.F_z25.ok sc_z25 (fun vs H Q E h=>by unfold IP at h;split at h <;> first | rfl | exact h.elim) (fun cdv A outer s H vs Q E hr h=>?_);have hu:=Aa hr;unfold IP at h;split at h;rotate_left
 ·exact h.elim
 rename_i p;obtain⟨bs,m,hp,hb,m1,m4,q⟩:=h;have h16:2 ^ m<=16:=Zj (n:=2) (by decide) m4;have hbl:(bs.map V.bl).length=2 ^ m:=by rw[ZC];exact hb
 refine⟨_,(@AF _ _ _ _ _ (@AQ _ _ 1 _ _ _ _ sc_z25.nd rfl (by right) (@BG _ _ _ _ AB) (by rfl) (by symm)) (@AF _ _ _ _ _ (@AQ _ _ 2 _ _ _ _ sc_z25.nd rfl (by right) AC (by rfl) (by symm)) (@AF _ _ _ _ _ (@GH _ _ _ _ _ _ PassesOwn.never (AW CQ (vv 2) (AU (Ay (K:=K)) rfl T.z_len (by rfl) (AA (vv 0) AB))) (@AF _ _ _ _ _ (@Cz _ _ _ _ (Eh (K:=K) (vv 1) (AA (As (A7 (K:=K)) rfl T.z_tuple (by rfl) (AA (Aq (N':=["_law_k","_law_many"]) (own:=1) (ix:=[2]) rfl (Aw rfl T.z_range (AA (AU (Ay (K:=K)) rfl T.z_len (by rfl) (AA (vv 0) AB)) AB)) (by kernel_rfl) rfl rfl (by kernel_rfl) (fun c=>AS (i:=0) (show(["_law_k","_law_many"]:List Str).Nodup by decide +kernel) rfl (by right)) (Ah (by decide)) (fun c=>Ar) (fun c=>(Bm (kEq (K:=K) hu) (AR Cu (AR Ea (vv 0) (vv 1)) AC) AC))) AB)) AB)) (by rfl)) (@AH _ _ _ (@AQ _ _ 2 _ _ _ _ sc_z25.nd rfl (by right) (AR CP AC (vv 2)) (by rfl) (by symm))))) (@AH _ _ _ (@AM _ _ _ _ (A5 (AA (As (A7 (K:=K)) rfl T.z_tuple (by rfl) (AA (@Aq _ _ _ _ _ _ _ ["_law_answer"] 1 [] _ _ _ _ rfl (BA (K:=K) (vv 0)) (by kernel_rfl) rfl rfl (by kernel_rfl) (fun c=>AS (i:=0) (show(["_law_answer"]:List Str).Nodup by decide +kernel) rfl (by right)) (Ah (by decide)) (fun c=>Ar) (fun c=>(As Hk rfl T.z_int (by rfl) (AA (vv 0) AB))) (by intro _;rfl)) AB)) (AA (As (A7 (K:=K)) rfl T.z_tuple (by rfl) (AA (vv 1) AB)) AB)))))))),?_⟩;refine⟨smq rfl,fun l hl=>?_⟩;dsimp only[AT];refine Ad (fun σ H'=>σ=[some (.ref p),some (.ref l),some (.int 1)]/\upd H l (.lst [])=H') ⟨rfl,rfl⟩ ?_ (by walk_at "sm");rintro σ _ ⟨rfl,rfl⟩;refine Ad (fun σ H'=>∃(z:Option V) (rs:List V),σ=[some (.ref p),some (.ref l),z]/\Same H H'/\H' l=some (.lst rs)/\Reps K H' (Bx m m) rs) ?_ ?_ (by walk_at "sm")
 ·refine⟨fun μ σ H'=>∃(i:Nat) (rs:List V),μ=m - i/\i<=m/\σ=[some (.ref p),some (.ref l),some (.int (2 ^ i:Nat))]/\Same H H'/\H' l=some (.lst rs)/\Reps K H' (Bx m i) rs,⟨m,0,[],by lia,by lia,rfl,Same.upd hl,AD,AV⟩,?_⟩;rintro μ σ H1 ⟨i,rs,rfl,hi,rfl,S1,g1,R1⟩;have hrl:rs.length=i:=by have:=R1.length;rw[LG]at this;lia
  have hpi:(0:Nat) < 2 ^ i:=ZBc i;have hle:(2:Nat) ^ i<=2 ^ m:=Zj (by decide) hi;refine⟨2 ^ m,.inr ⟨_,S1.sqT hp,hbl.symm⟩,?_⟩;refine Ag (fun e=>?_) (fun e=>?_)
  ·have him:i < m:=by
    have e':((2 ^ i:Nat):Int) < ((2 ^ m:Nat):Int):=ZQ e
    rcases Zu i m with z | z
    ·exact z
    ·have:i=m:=by lia
     subst this;lia
   refine⟨.inl ⟨rfl,_,.of g1⟩,?_⟩;refine⟨2 ^ m,.inr ⟨_,S1.sqT hp,hbl.symm⟩,((2 ^ m:Nat):Int),rfl,by lia,by lia,?_⟩
   refine BQ (fun k ys H'=>H'=H1/\ys=((List.range k).map (fun q=>q / 2 ^ i % 2 == 1)).map V.bl) ⟨rfl,rfl⟩ (fun k ys H' hk ⟨_,e⟩=>by
    rw[e,ZC,ZC,Zw];exact Af (by lia)) ?_ ?_
   ·rintro k ys H' hk ⟨rfl,rfl⟩;refine⟨Ax (by lia) (Int.le_trans (Int.ofNat_le.mpr (Zf hle h16)) (by decide)),by decide,rfl,?_⟩
    have ee:(false ^^ (((0:Int)+(k:Int)) / ((2 ^ i:Nat):Int) % 2 == 1))=(k / 2 ^ i % 2 == 1):=by
     rw[Z6,Int.zero_add,<- Int.natCast_ediv,Z7];simp only[beq_iff_eq];lia
    rw[Om,<- ee]
   ·rintro ys H' ⟨rfl,rfl⟩ k hk;rw[Zc];refine⟨_,.inl ⟨.of AD,fun p3 hp3=>?_⟩⟩;have erow:((List.range (2 ^ m)).map (fun q=>q / 2 ^ i % 2 == 1)).map V.bl=(Bl m i).map V.bl:=rfl;rw[erow];have s3:=(Same.upd (o:=.lst ((Bl m i).map V.bl)) hk).trans (Same.upd (o:=.tup ((Bl m i).map V.bl)) hp3);have g3p:=AD (H:=upd H' k (.lst ((Bl m i).map V.bl))) (a:=p3) (o:=.tup ((Bl m i).map V.bl));have nl:p3≠l:=Ne.symm (BW (Same.upd (o:=.lst ((Bl m i).map V.bl)) hk _ _ g1) hp3);generalize upd (upd H' k (.lst ((Bl m i).map V.bl))) p3 (.tup ((Bl m i).map V.bl))=H3 at *;refine⟨_,s3 _ _ g1,Af (by lia),?_⟩;dsimp only[CW,HD,AT];refine⟨.inr (.inl ⟨by decide,by decide⟩),?_⟩;have R3:Reps K H3 (Bx m i) rs:=Reps.same s3 _ _ R1;have fr:Frm l H3 (upd H3 l (.lst (rs++[.ref p3]))):=Frm.updT
    have R4:Reps K (upd H3 l (.lst (rs++[.ref p3]))) (Bx m (i+1)) (rs++[.ref p3]):=by
     rw[J4];refine Reps.append (Reps.frm fr ⟨_,s3 _ _ g1⟩ _ _ (K8 m i) R3) (AN ?_ AV);exact BD (by rw[AI nl];exact g3p) (Bv _)
    refine⟨m - (i+1),by lia,i+1,_,rfl,him,?_,PH (S1.trans s3) hl,AD,R4⟩
    have:(2:Int) * ((2 ^ i:Nat):Int)=((2 ^ (i+1):Nat):Int):=by rw[Nat.pow_succ];lia
    rw[<- this];rfl
  ·have him:i=m:=by
    rcases Zu i m with z | z
    ·exact absurd (ZO (show((2 ^ i:Nat):Int) < ((2 ^ m:Nat):Int) from Int.ofNat_lt.mpr (Nat.pow_lt_pow_right (by decide) z))) e
    ·lia
   subst him;exact⟨_,rs,rfl,S1,g1,R1⟩
 rintro σ H1 ⟨z,rs,rfl,S1,g1,R1⟩;have hrl:rs.length=m:=by have:=R1.length;rw[LG]at this;lia
 refine .inr ⟨⟨_,S1.sqT hp⟩,?_⟩
 refine CG (xs:=bs.map V.bl) (fun i ys H'=>H'=H1/\ys=Bg (bs.take i)) ⟨rfl,rfl⟩ (fun i ys H' _ ⟨e,_⟩=>by rw[e];exact S1.sqT hp) (fun i ys H' hi ⟨_,e⟩=>by
  rw[e,Tk,Ze];exact Af (by lia)) ?_ ?_
 ·rintro i x ys H' hx ⟨rfl,rfl⟩
  have hi:i < bs.length:=by
   have:=(Zm.mp hx).1
   rwa [ZC]at this
  rw[ZR,ZE hi]at hx;cases hx;refine⟨rfl,?_⟩;rw[Zx,ZE hi,U8];rfl
 ·rintro ys H' ⟨rfl,rfl⟩ k hk;rw[ZBX (by rw[ZC];exact ZD _)];refine⟨_,.inl ⟨.of AD,fun p3 hp3=>?_⟩⟩;have s3:=(Same.upd (o:=.lst (Bg bs)) hk).trans (Same.upd (o:=.tup (Bg bs)) hp3);have g3p:=AD (H:=upd H' k (.lst (Bg bs))) (a:=p3) (o:=.tup (Bg bs));generalize upd (upd H' k (.lst (Bg bs))) p3 (.tup (Bg bs))=H3 at *;refine⟨_,.inl ⟨.of (s3 _ _ g1),fun p4 hp4=>?_⟩⟩;refine⟨smq rfl,fun p5 hp5=>?_⟩;have s5:=(Same.upd (o:=.tup rs) hp4).trans (Same.upd (o:=.tup [.ref p3,.ref p4]) hp5);refine q _ _ (S1.trans (s3.trans s5)) ?_;refine BD AD (AN (BD (s5 _ _ g3p) (Nu bs)) (AN (BD (Same.upd hp5 _ _ AD) ?_) AV));exact Reps.same (s3.trans s5) _ _ R1
def Ae(ts:List (List Bool)):List Dv:=ts.map fun b=>.tup (b.map Dv.bl)
def gmD(ls:List Int)(rs:List (List Bool)):Dv:=.tup [.tup (ls.map Dv.int),.tup (Ae rs)]
structure Gm(ls:List Int)(rs:List (List Bool)):Prop where
 l1:1<=ls.length
 l16:ls.length<=16
 r1:1<=rs.length
 r16:rs.length<=16
 row:∀r∈rs,r.length=ls.length
 sm:∀x∈ls,x.natAbs<=100000000000000000000
theorem Cj:∀ts:List (List Bool),Ab (Ae ts)=true
 | []=>rfl
 | b::ts=>by
  show Ab (Dv.tup (b.map Dv.bl)::Ae ts)=true;unfold Ab A4;rw[Ht,Cj ts];rfl
theorem D7(ts:List (List Bool)):(Ae ts).length=ts.length:=ZC ..
theorem KH:∀(k:Nat) {ds:List Dv} {xs:List V},Reps K H ds xs->Reps K H (ds.take k) (xs.take k)
 | 0,_,_,_=>by simpa using AV
 | k+1,[],xs,h=>by unfold Reps at h;subst h;simpa using AV
 | k+1,d::ds,xs,h=>by
  unfold Reps at h;obtain⟨x,r,rfl,h1,h2⟩:=h;simpa using AN h1 (KH k h2)
theorem Jv:∀(k:Nat) {ds:List Dv} {xs:List V},Reps K H ds xs->Reps K H (ds.drop k) (xs.drop k)
 | 0,_,_,h=>by simpa using h
 | k+1,[],xs,h=>by unfold Reps at h;subst h;simpa using AV
 | k+1,d::ds,xs,h=>by
  unfold Reps at h;obtain⟨x,r,rfl,h1,h2⟩:=h;simpa using Jv k h2
theorem Q0(ts:List (List Bool))(b:List Bool)(k:Nat):Ae (ts.take k++b::ts.drop k)=(Ae ts).take k++.tup (b.map Dv.bl)::(Ae ts).drop k:=by
 unfold Ae;rw[ZM,Zi,List.map_take,List.map_drop]
theorem Ep:∀bs:List Bool,A8 (bs.map Dv.bl)=0
 | []=>by simp[A8]
 | b::bs=>by
  show A8 (Dv.bl b::bs.map Dv.bl)=_;unfold A8;rw[Ep bs];rfl
theorem Pb(ts:List (List Bool)):∀e∈Ae ts,Ac e<=50:=by
 intro e he;obtain⟨b,_,rfl⟩:=ZP.mp he;unfold Ac;rw[Ep];lia
theorem RQ(xs:List V)(a:Nat)(h:a<=xs.length):BO xs none (some (a:Int))=xs.take a:=by
 unfold BO;rw[HT.sIx_nat,HT.sIx_none,List.drop_zero,Nat.sub_zero,Nat.min_eq_left h]
theorem OP(xs:List V)(a:Nat)(h:a<=xs.length):BO xs (some (a:Int)) none=xs.drop a:=by
 unfold BO;rw[HT.sIx_nat,HT.sIx_none,Nat.min_eq_left h,ZBX (by rw[ZBK];lia)]
theorem NU{ts:List (List Bool)}(h:Reps K H (Ae ts) xs):∀ns:List Int,ns.length≠0->xs≠ns.map V.int:=by
 intro ns hn e;cases ts with
 | nil =>
  have:xs=[]:=by simpa [Ae,Reps] using h
  subst this;cases ns with
  | nil=>exact hn rfl
  | cons _ _=>cases e
 | cons b ts =>
  have h':Reps K H (Dv.tup (b.map Dv.bl)::Ae ts) xs:=h;unfold Reps at h';obtain⟨x,r,rfl,h1,_⟩:=h';unfold Rep at h1;obtain⟨a,zs,rfl,_⟩:=h1;cases ns with
  | nil=>exact hn rfl
  | cons _ _=>cases e
theorem FA{H0:Hp}(f:Frm t H0 H)(hp:H0 p=none):Frm t H0 (upd H p o):=fun b u n e=>by
 rw[AI (BW e hp)];exact f b u n e
def Iu(K:W.Frag):Sp:=fun vs H Q _=>match vs with
 | [.ref t,.int n,.int y]=>∃m M N:Nat,GFeed H t N/\N<=850000000/\n=m/\1<=m/\m<=3/\y=M/\2<=M/\M<=6/\∀(ts:List (List Bool)) xs p H',2<=ts.length->ts.length<=M->(∀b∈ts,b.length=2 ^ m)->H p=none->H' p=some (.lst xs)->Reps K H' (Ae ts) xs->GFeed H' t (N+400)->Frm t H H'->Q (.ref p) H'
 | _=>False
theorem QF:FnOk P w K mg base CX0 3 T.f_z37 T.d_z37 ["_law_feed_here","_law_n","_law_many"] (Iu K):=by
 have G_z49:=@EL P w K mg base T;have G_z36:=@Nd P w K mg base T;refine T.F_z37.ok sc_z37 (fun vs H Q E h=>by unfold Iu at h;split at h <;> first | rfl | exact h.elim) (fun cdv A outer s H vs Q E hr h=>?_);have hu:=Aa hr;have hr_z49:=hr.mono (show 1<=_ by decide);have hr_z36:=hr.mono (show 2<=_ by decide);unfold Iu at h;split at h;rotate_left
 ·exact h.elim
 rename_i t n y;obtain⟨m,M,N,F,hN,e1,m1,m3,e2,M2,M6,q⟩:=h;subst e1 e2;refine⟨_,(@AF _ _ _ _ _ (@AQ _ _ 3 _ _ _ _ sc_z37.nd rfl (by right) (@BG _ _ _ _ (AA (AJ G_z36 hr_z36 rfl T.m_z36 T.F_z36.kp T.b_z36 .nil AG (AA (vv 0) (AA (vv 1) AB))) AB)) (by rfl) (by symm)) (@AF _ _ _ _ _ (@AQ _ _ 4 _ _ _ _ sc_z37.nd rfl (by right) (AJ G_z49 hr_z49 rfl T.m_z49 T.F_z49.kp T.b_z49 .nil AG (AA (vv 0) (AA (AR Nt AC (vv 1)) AB))) (by rfl) (by symm)) (@AF _ _ _ _ _ (@Cz _ _ _ _ (Eh (K:=K) (vv 3) (AA (AR (Dp (K:=K)) (AR (Dp (K:=K)) (IK (K:=K) (kIx (K:=K) (vv 3) AC) Fh (FJ (vv 4))) (A5 (AA (KL (kIx (K:=K) (kIx (K:=K) (vv 3) AC) (vv 4))) AB))) (IK (K:=K) (kIx (K:=K) (vv 3) AC) (FJ (AR (Dp (K:=K)) (vv 4) AC)) Fh)) AB)) (by rfl)) (@AF _ _ _ _ _ (@BK _ _ _ _ _ _ _ _ PassesOwn.never rfl (Aw rfl T.z_range (AA (AR CP AC (vv 2)) AB)) (AS (i:=5) sc_z37.nd rfl (by right)) (@AF _ _ _ _ _ (@AQ _ _ 6 _ _ _ _ sc_z37.nd rfl (by right) (AJ G_z36 hr_z36 rfl T.m_z36 T.F_z36.kp T.b_z36 .nil AG (AA (vv 0) (AA (vv 1) AB))) (by rfl) (by symm)) (@AH _ _ _ (@Ap _ _ _ _ _ _ _ _ (PW.pt (Cg (AW CQ (AU (Ay (K:=K)) rfl T.z_len (by rfl) (AA (vv 3) AB)) (vv 2)) (Cq (AW (MQ (K:=K) hu) (vv 6) (vv 3))))) (@AH _ _ _ (@Cz _ _ _ _ (QP (K:=K) (vv 3) (AA (AJ G_z49 hr_z49 rfl T.m_z49 T.F_z49.kp T.b_z49 .nil AG (AA (vv 0) (AA (AR (Dp (K:=K)) (AU (Ay (K:=K)) rfl T.z_len (by rfl) (AA (vv 3) AB)) AC) AB))) (AA (vv 6) AB))) (by rfl))) Ao))) (by intro _;rfl)) (@AH _ _ _ (@AM _ _ _ _ (vv 3))))))),?_⟩;have hmo:=Tx;have h2:2<=2 ^ m:=Zj (n:=2) (i:=1) (by decide) m1;have h8:2 ^ m<=8:=Zj (n:=2) (i:=m) (j:=3) (by decide) m3;have em:(1:Int) * 2 ^ ((m:Int).toNat)=((2 ^ m:Nat):Int):=by rw[Zc,Int.natCast_pow,Int.one_mul];rfl
 refine⟨m,N,F,by lia,rfl,m1,by lia,fun bs p1 H1 hb hp1 g1 F1 f1=>?_⟩;refine⟨smq rfl,fun l hl=>?_⟩;have hlH:H l=none:=F1.free f1 hl;have lt:l≠t:=F.neT hlH;dsimp only[AT];refine Ad (fun σ H'=>∃a:Nat,a < 2 ^ m/\σ=[some (.ref t),some (.int m),some (.int M),some (.ref l),some (.int a),none,none]/\GFeed H' t (N+19)/\Frm t H H'/\H' l=some (.lst [.ref p1])/\H' p1=some (.tup (bs.map V.bl))) ?_ ?_ (by walk_at "sm")
 ·refine⟨⟨by lia,by lia,by decide⟩,?_⟩;rw[em];have F2:=F1.upd (o:=.lst [.ref p1]) hl;refine⟨_,F2,by lia,Ax (by lia) (by lia),fun a H3 a0 a1 F3 f3=>?_⟩;have f2:Frm t H1 (upd H1 l (.lst [.ref p1])):=Frm.upd hl;have n1:p1≠t:=F.neT hp1;have nl:p1≠l:=fun e=>by rw[e,hl]at g1;cases g1
  refine⟨a.toNat,by lia,?_,F3,f1.trans (f2.trans (Am f3)),by rw[f3 l lt,AD],by rw[f3 p1 n1,AI nl];exact g1⟩;rw[Int.toNat_of_nonneg a0];rfl
 rintro σ H2 ⟨a,ha,rfl,F2,f2,gl2,gp2⟩;have hbl:(bs.map V.bl).length=2 ^ m:=by rw[ZC];exact hb
 have hix:atI (bs.map V.bl) (a:Int)=some (.bl (bs.getD a false)):=A2 rfl (by rw[ZR,ZY,ZE (show a < bs.length by lia)];rfl);refine Ad (fun σ H'=>∃(ts:List (List Bool)) (xs:List V) (z5 z6:Option V),σ=[some (.ref t),some (.int m),some (.int M),some (.ref l),some (.int a),z5,z6]/\2<=ts.length/\ts.length<=M/\(∀b∈ts,b.length=2 ^ m)/\H' l=some (.lst xs)/\Reps K H' (Ae ts) xs/\GFeed H' t (N+19)/\Frm t H H') ?_ ?_ (by walk_at "sm")
 ·refine⟨.inl ⟨rfl,_,.of gl2⟩,?_⟩;refine⟨_,_,.inl (.of gl2),rfl,?_⟩;refine⟨(a:Int),rfl,_,.of gp2,fun q1 H3 S3 t3=>?_⟩;rw[RQ _ a (by lia)]at t3;refine⟨_,_,.inl (.of (S3 _ _ gl2)),rfl,_,_,.inr (.of (S3 _ _ gp2)),hix,?_⟩;refine⟨smq rfl,fun q2 hq2=>?_⟩;have S4:Same H3 (upd H3 q2 (.tup [.bl (!bs.getD a false)])):=Same.upd hq2;have t4:SqT K (upd H3 q2 (.tup [.bl (!bs.getD a false)])) q2 [.bl (!bs.getD a false)]:=.of AD;generalize upd H3 q2 (.tup [.bl (!bs.getD a false)])=H4 at *;refine .inr ⟨_,_,S4.sqT t3,t4,Ce (by rw[Ze];show _+1<=1000;lia),fun q3 H5 S5 t5=>?_⟩;have S25:=S3.trans (S4.trans S5);refine⟨_,_,.inl (.of (S25 _ _ gl2)),rfl,?_⟩;refine⟨(a+1:Nat),rfl,_,.of (S25 _ _ gp2),fun q4 H6 S6 t6=>?_⟩;rw[OP _ (a+1) (by lia)]at t6;refine .inr ⟨_,_,S6.sqT t5,t6,Ce (by rw[ZL,Ze,ZBK];show _+1+_<=1000;lia),fun q5 H7 S7 t7=>?_⟩;have S27:=S25.trans (S6.trans S7);generalize hcs:bs.take a++(!bs.getD a false)::bs.drop (a+1)=cs
  have ecs:(bs.map V.bl).take a++[V.bl (!bs.getD a false)]++(bs.map V.bl).drop (a+1)=cs.map V.bl:=by
   rw[<- hcs,ZM,Zi,List.map_take,List.map_drop,Z2];rfl
  have hcl:cs.length=2 ^ m:=by
   rw[<- hcs,ZL,Zn,Ze,ZBK];lia
  rw[ecs]at t7;refine⟨_,S27 _ _ gl2,Af (show 1<=1000 by decide),?_⟩;have fr:Frm l H7 (upd H7 l (.lst ([.ref p1]++[.ref q5]))):=Frm.updT;have R7:Reps K H7 (Ae [bs,cs]) [.ref p1,.ref q5]:=AN (BD (S27 _ _ gp2) (Bv bs)) (AN (by unfold Rep;exact⟨q5,_,rfl,t7,Bv cs⟩) AV);refine⟨[bs,cs],_,_,_,rfl,ZD 2,M2,?_,AD,Reps.frm fr ⟨_,S27 _ _ gl2⟩ _ _ (Cj _) R7,?_,?_⟩
  ·intro b hb'
   rcases ZF.mp hb' with rfl | hb'
   ·exact hb
   ·rcases ZF.mp hb' with rfl | hb'
    ·exact hcl
    ·cases hb'
  ·exact(F2.same S27).put lt (S27 _ _ gl2) fun ns hn e=>by
    cases ns with
    | nil=>exact hn rfl
    | cons _ _=>cases e
  ·exact FA (f2.trans fun b o _ e=>S27 b o e) hlH
 rintro σ H3 ⟨ts,xs,z5,z6,rfl,t2,tM,tb,gl3,R3,F3,f3⟩;refine Ad (fun σ H'=>∃(ts:List (List Bool)) (xs:List V) (z5 z6:Option V),σ=[some (.ref t),some (.int m),some (.int M),some (.ref l),some (.int a),z5,z6]/\2<=ts.length/\ts.length<=M/\(∀b∈ts,b.length=2 ^ m)/\H' l=some (.lst xs)/\Reps K H' (Ae ts) xs/\GFeed H' t (N+400)/\Frm t H H') ?_ ?_ (by walk_at "sm")
 ·refine⟨.inr (.inl ⟨by decide,by decide⟩),2 * (M:Int),rfl,by lia,by lia,?_⟩;refine Bk (fun i σ H'=>∃(ts:List (List Bool)) (xs:List V) (z5 z6:Option V),σ=[some (.ref t),some (.int m),some (.int M),some (.ref l),some (.int a),z5,z6]/\2<=ts.length/\ts.length<=M/\(∀b∈ts,b.length=2 ^ m)/\H' l=some (.lst xs)/\Reps K H' (Ae ts) xs/\GFeed H' t (N+19+19 * i)/\Frm t H H') ⟨ts,xs,z5,z6,rfl,t2,tM,tb,gl3,R3,F3,f3⟩ ?_ ?_
  ·rintro i σ H4 hi ⟨ts,xs,z5,z6,rfl,t2,tM,tb,gl4,R4,F4,f4⟩;have hxl:xs.length=ts.length:=by rw[<- R4.length,D7]
   refine⟨m,_,F4,by lia,rfl,m1,by lia,fun bs2 p2 H5 hb2 hp2 g2 F5 f5=>?_⟩;have R5:Reps K H5 (Ae ts) xs:=Reps.frm f5 F4.lst _ _ (Cj _) R4;have gl5:H5 l=some (.lst xs):=f5 _ _ lt gl4;dsimp only[AT]
   have stay:∃(ts:List (List Bool)) (xs:List V) (z5' z6':Option V),[some (V.ref t),some (.int m),some (.int M),some (.ref l),some (.int a),some (.int (0+i)),some (.ref p2)]=[some (.ref t),some (.int m),some (.int M),some (.ref l),some (.int a),z5',z6']/\2<=ts.length/\ts.length<=M/\(∀b∈ts,b.length=2 ^ m)/\H5 l=some (.lst xs)/\Reps K H5 (Ae ts) xs/\GFeed H5 t (N+19+19 * (i+1))/\Frm t H H5 :=
    ⟨ts,xs,_,_,rfl,t2,tM,tb,gl5,R5,F5.mono (by lia),f4.trans f5⟩
   have ep2:Rep K H5 (.tup (bs2.map Dv.bl)) (.ref p2):=BD g2 (Bv bs2);refine⟨_,.inl ⟨_,.of gl5,rfl⟩,?_⟩;refine Ag (fun e=>?_) (fun e=>stay);have e':(xs.length:Int) < (M:Int):=ZQ e;refine⟨_,_,_,.inl (.of gl5),R5,ep2,Pb ts,?_⟩;refine Ag (fun e=>?_) (fun e=>stay);refine⟨.inl ⟨rfl,_,.of gl5⟩,?_⟩;refine⟨_,.inl ⟨_,.of gl5,rfl⟩,?_⟩;refine⟨_,F5,by lia,Ax (by lia) (Int.le_trans (show(xs.length:Int)+1<=7 by lia) (by decide)),fun d H6 d0 d1 F6 f6=>?_⟩;have gl6:H6 l=some (.lst xs):=by rw[f6 l lt];exact gl5
   refine⟨xs,gl6,d0,by lia,by lia,?_⟩;have R6:Reps K H6 (Ae ts) xs:=Reps.frm (Am f6) F5.lst _ _ (Cj _) R5;have ep6:Reps K H6 [.tup (bs2.map Dv.bl)] [.ref p2]:=AN (BD (by rw[f6 p2 (F4.neT hp2)];exact g2) (Bv bs2)) AV
   have R7:Reps K H6 (Ae (ts.take d.toNat++bs2::ts.drop d.toNat)) (xs.take d.toNat++.ref p2::xs.drop d.toNat):=by
    rw[Q0];exact Reps.append (KH _ R6) (Reps.append ep6 (Jv _ R6))
   refine⟨_,_,_,_,rfl,?_,?_,?_,AD,Reps.frm Frm.updT ⟨_,gl6⟩ _ _ (Cj _) R7,(F6.put lt gl6 (NU R6)).mono (by lia),FA (f4.trans (f5.trans (Am f6))) hlH⟩
   ·rw[ZL,Zn,Ze,ZBK];lia
   ·rw[ZL,Zn,Ze,ZBK];lia
   ·intro b hb'
    rcases ZW.mp hb' with h | h
    ·exact tb b (List.mem_of_mem_take h)
    ·rcases ZF.mp h with rfl | h
     ·exact hb2
     ·exact tb b (List.mem_of_mem_drop h)
  ·rintro σ H4 ⟨ts,xs,z5,z6,rfl,t2,tM,tb,gl4,R4,F4,f4⟩;exact⟨ts,xs,z5,z6,rfl,t2,tM,tb,gl4,R4,F4.mono (by lia),f4⟩
 rintro σ H4 ⟨ts,xs,z5,z6,rfl,t2,tM,tb,gl4,R4,F4,f4⟩;exact q ts xs l H4 t2 tM tb hlH gl4 R4 F4 f4
theorem KJ:∀(cs:List Bool) (zs:List V),Reps K H (cs.map Dv.bl) zs->zs=cs.map V.bl
 | [],zs,h=>by
  have h':Reps K H [] zs:=h;unfold Reps at h';exact h'
 | c::cs,zs,h=>by
  have h':Reps K H (Dv.bl c::cs.map Dv.bl) zs:=h;unfold Reps at h';obtain⟨x,r,rfl,h1,h2⟩:=h';unfold Rep at h1;rw[h1,KJ cs r h2];rfl
theorem FE:∀ns:List Int,Reps K H (ns.map Dv.int) (ns.map V.int)
 | []=>AV
 | _::ns=>AN Bo (FE ns)
def G5(K:W.Frag):Sp:=fun vs H Q _=>match vs with
 | [.ref l]=>∃(ts:List (List Bool)) (xs:List V) (M:Nat),H l=some (.lst xs)/\Reps K H (Ae ts) xs/\2<=ts.length/\ts.length<=6/\(∀b∈ts,b.length=M)/\1<=M/\M<=8/\∀ls rs u H',Gm ls rs->Same H H'->Rep K H' (gmD ls rs) u->Q u H'
 | _=>False
theorem SQ:FnOk P w K mg base CX0 1 T.f_z24 T.d_z24 ["_law_tables"] (G5 K):=by
 refine T.F_z24.ok sc_z24 (fun vs H Q E h=>by unfold G5 at h;split at h <;> first | rfl | exact h.elim) (fun cdv A outer s H vs Q E hr h=>?_);have hu:=Aa hr;unfold G5 at h;split at h;rotate_left
 ·exact h.elim
 rename_i l;obtain⟨ts,xs,M,gl,R,t2,t6,tb,M1,M8,q⟩:=h;refine⟨_,(@AF _ _ _ _ _ (@Df _ _ _ _ _ _ _ (["_law_k","_law_tables"]) 1 [0] _ _ _ _ 1 _ _ _ rfl sc_z24.nd rfl rfl (Aw rfl T.z_range (AA (AU (Ay (K:=K)) rfl T.z_len (by rfl) (AA (kIx (K:=K) (vv 0) AC) AB)) AB)) (by kernel_rfl) rfl rfl (by kernel_rfl) (fun c=>AS (i:=0) (show(["_law_k","_law_tables"]:List Str).Nodup by decide +kernel) rfl (by right)) (Ah (by decide)) (fun c=>Ar) (fun c=>(As (A7 (K:=K)) rfl T.z_tuple (by rfl) (AA (Aq (N':=["_law_table_here","_law_k"]) (own:=1) (ix:=[0]) rfl (BA (K:=K) (vv 1)) (by kernel_rfl) rfl rfl (by kernel_rfl) (fun c=>AS (i:=0) (show(["_law_table_here","_law_k"]:List Str).Nodup by decide +kernel) rfl (by right)) (Ah (by decide)) (fun c=>Ar) (fun c=>(kIx (K:=K) (vv 0) (vv 1)))) AB))) (by rfl) (by intro _;rfl)) (@AH _ _ _ (@AM _ _ _ _ (A5 (AA (As (A7 (K:=K)) rfl T.z_tuple (by rfl) (AA (@Aq _ _ _ _ _ _ _ ["_law_k"] 1 [] _ _ _ _ rfl (Aw rfl T.z_range (AA (AU (Ay (K:=K)) rfl T.z_len (by rfl) (AA (vv 0) AB)) AB)) (by kernel_rfl) rfl rfl (by kernel_rfl) (fun c=>AS (i:=0) (show(["_law_k"]:List Str).Nodup by decide +kernel) rfl (by right)) (Ah (by decide)) (fun c=>Ar) (fun c=>(vv 0)) (by intro _;rfl)) AB)) (AA (As (A7 (K:=K)) rfl T.z_tuple (by rfl) (AA (vv 1) AB)) AB)))))),?_⟩;have hxl:xs.length=ts.length:=by rw[<- R.length,D7]
 have at_:∀(j:Nat) (x:V),xs[j]? = some x->∃(a:Addr) (bs:List Bool),x=.ref a/\SqT K H a (bs.map V.bl)/\bs.length=M:=by
  intro j x hx;have hj:j < ts.length:=by have:=(Zm.mp hx).1;lia
  obtain⟨y,h1,h2⟩:=R.get (i:=j) (d:=.tup (ts[j].map Dv.bl)) (by unfold Ae;rw[ZR,ZE hj];rfl);rw[hx]at h1;cases h1;unfold Rep at h2;obtain⟨a,zs,rfl,h3,h4⟩:=h2;rw[KJ _ _ h4]at h3;exact⟨a,ts[j],rfl,h3,tb _ (Zo hj)⟩
 obtain⟨x0,hx0⟩:∃x,xs[0]? = some x:=⟨_,ZE (show 0 < xs.length by lia)⟩;obtain⟨a0,bs0,rfl,q0,l0⟩:=at_ 0 _ hx0;refine⟨_,_,.inl (.of gl),A2 (n:=0) rfl hx0,_,.inr ⟨_,q0,rfl⟩,?_⟩;rw[ZC,l0];refine⟨(M:Int),rfl,by lia,by lia,?_⟩
 refine BQ (fun i ys H'=>Same H H'/\∃rs:List (List Bool),rs.length=i/\(∀r∈rs,r.length=ts.length)/\Reps K H' (Ae rs) ys) ⟨fun _ _ e=>e,[],rfl,nofun,AV⟩ (fun i ys H' hi ⟨_,rs,e,_,R'⟩=>by
  rw[<- R'.length,D7];exact Af (by lia)) ?_ ?_
 ·rintro i ys H1 hi ⟨S1,rs,rfl,hr1,R1⟩;refine .inl ⟨⟨_,.of (S1 _ _ gl)⟩,?_⟩
  refine DJ (xs:=xs) (fun j zs H'=>H'=H1/\∃bs:List Bool,zs=bs.map V.bl/\bs.length=j) ⟨rfl,[],rfl,rfl⟩ (fun j zs H' _ ⟨e,_⟩=>by rw[e];exact .of (S1 _ _ gl)) (fun j zs H' hj ⟨_,bs,e,el⟩=>by
   rw[e,ZC,el];exact Af (by lia)) ?_ ?_
  ·rintro j x zs H' hx ⟨rfl,bs,rfl,rfl⟩;obtain⟨a,cs,rfl,h1,h2⟩:=at_ _ _ hx;refine⟨_,_,.inr (S1.sqT h1),A2 (n:=rs.length) (by lia) (by rw[ZR,ZE (show rs.length < cs.length by lia)];rfl),?_⟩;exact⟨rfl,bs++[_],by rw[ZM];rfl,by rw[ZL];rfl⟩
  ·rintro zs H' ⟨rfl,bs,rfl,hb⟩ k hk;refine⟨_,.inl ⟨.of AD,fun p hp=>?_⟩⟩;have s3:=(Same.upd (o:=.lst (bs.map V.bl)) hk).trans (Same.upd (o:=.tup (bs.map V.bl)) hp);refine⟨S1.trans s3,rs++[bs],by rw[ZL];rfl,?_,?_⟩
   ·intro r hr'
    rcases ZW.mp hr' with h | h
    ·exact hr1 r h
    ·rw[ZJ.mp h];lia
   ·have e:Ae (rs++[bs])=Ae rs++[.tup (bs.map Dv.bl)]:=by unfold Ae;rw[ZM];rfl
    rw[e];exact Reps.append (Reps.same s3 _ _ R1) (AN (BD AD (Bv bs)) AV)
 ·rintro ys H1 ⟨S1,rs,hrl,hr1,R1⟩ k hk;have s2:Same H1 (upd H1 k (.lst ys)):=Same.upd hk;have g2:upd H1 k (.lst ys) k=some (.lst ys):=AD;generalize upd H1 k (.lst ys)=H2 at *;dsimp only[AT];refine⟨_,.inl ⟨_,.of (s2 _ _ (S1 _ _ gl)),rfl⟩,(xs.length:Int),rfl,by lia,by lia,?_⟩
  refine BQ (fun i ys H'=>H'=H2/\∃ls:List Int,ys=ls.map V.int/\ls.length=i/\∀x∈ls,x.natAbs<=6) ⟨rfl,[],rfl,rfl,nofun⟩ (fun i ys H' hi ⟨_,ls,e,el,_⟩=>by
   rw[e,ZC,el];exact Af (by lia)) ?_ ?_
  ·rintro i ys H' hi ⟨rfl,ls,rfl,el,hs⟩;refine⟨rfl,ls++[0+(i:Int)],by rw[ZM];rfl,by rw[ZL,el];rfl,?_⟩;intro x hx
   rcases ZW.mp hx with h | h
   ·exact hs x h
   ·rw[ZJ.mp h];lia
  ·rintro ys' H' ⟨rfl,ls,rfl,el,hs⟩ k3 hk3;refine⟨_,.inl ⟨.of AD,fun p hp=>?_⟩⟩;have s3:=(Same.upd (o:=.lst (ls.map V.int)) hk3).trans (Same.upd (o:=.tup (ls.map V.int)) hp);have g3:upd (upd H' k3 (.lst (ls.map V.int))) p (.tup (ls.map V.int)) p=some (.tup (ls.map V.int)):=AD;generalize upd (upd H' k3 (.lst (ls.map V.int))) p (.tup (ls.map V.int))=H3 at *;refine⟨_,.inl ⟨.of (s3 _ _ g2),fun p4 hp4=>?_⟩⟩;refine⟨smq rfl,fun p5 hp5=>?_⟩;have s5:=(Same.upd (o:=.tup ys) hp4).trans (Same.upd (o:=.tup [.ref p,.ref p4]) hp5);refine q ls rs _ _ ⟨by lia,by lia,by lia,by lia,fun r h=>by rw[hr1 r h];lia,fun x h=>Zf (hs x h) (by decide)⟩ (S1.trans (s2.trans (s3.trans s5))) ?_;exact BD AD (AN (BD (s5 _ _ g3) (FE ls)) (AN (BD (Same.upd hp5 _ _ AD) (Reps.same (s2.trans (s3.trans s5)) _ _ R1)) AV))
def B2(K:W.Frag)(n b:Nat):Sp:=fun vs H Q _=>match vs with
 | [.ref t]=>∃N:Nat,GFeed H t N/\N<=b/\∀ls rs u H',Gm ls rs->Rep K H' (gmD ls rs) u->GFeed H' t (N+n)->Frm t H H'->Q u H'
 | _=>False
theorem VG{b:Nat}:Ai (B2 K n b):=fun vs H Q Q' E h q=>by
 unfold B2 at *;split at q
 ·revert q;repeat' first | exact h _ _ | exact B3 h | exact out_mono h | exact outT_mono h | walk_at "m"
 ·exact q.elim
theorem SO:FnOk P w K mg base CX0 2 T.f_z35 T.d_z35 ["_law_feed_here"] (B2 K 10 850000000):=by
 have G_z49:=@EL P w K mg base T;have G_z49:=@Nf P w K mg base T;refine T.F_z35.ok sc_z35 (fun vs H Q E h=>by unfold B2 at h;split at h <;> first | rfl | exact h.elim) (fun cdv A outer s H vs Q E hr h=>?_);have hu:=Aa hr;have hr_z49:=hr.mono (show 1<=_ by decide);unfold B2 at h;split at h;rotate_left
 ·exact h.elim
 rename_i t;obtain⟨N,F,hN,q⟩:=h;refine⟨_,(@AF _ _ _ _ _ (@AQ _ _ 1 _ _ _ _ sc_z35.nd rfl (by right) (AR (BB (K:=K)) AC (AJ G_z49 hr_z49 rfl T.m_z49 T.F_z49.kp T.b_z49 .nil AG (AA (vv 0) (AA AC AB)))) (by rfl) (by symm)) (@AF _ _ _ _ _ (@AQ _ _ 2 _ _ _ _ sc_z35.nd rfl (by right) (AJ G_z49 hr_z49 rfl T.m_z49 T.F_z49.kp T.b_z49 .nil AG (AA (vv 0) (AA AC AB))) (by rfl) (by symm)) (@AF _ _ _ _ _ (@Df _ _ _ _ _ _ _ ["_law_k"] 1 [] _ _ _ _ 3 _ _ _ rfl sc_z35.nd rfl rfl (Aw rfl T.z_range (AA (vv 1) AB)) (by kernel_rfl) rfl rfl (by kernel_rfl) (fun c=>AS (i:=0) (show(["_law_k"]:List Str).Nodup by decide +kernel) rfl (by right)) (Ah (by decide)) (fun c=>Ar) (fun c=>(vv 0)) (by rfl) (by intro _;rfl)) (@AF _ _ _ _ _ (@Ap _ _ _ _ _ _ _ _ (AW (kEq (K:=K) hu) (AJ G_z49 hr_z49 rfl T.m_z49 T.F_z49.kp T.b_z49 .nil AG (AA (vv 0) (AA AC AB))) AC) (@AH _ _ _ (@Dd _ _ _ _ _ _ (AJ G_z49 hr_z49 rfl T.m_z49 T.F_z49.kp T.b_z49 .nil AG (AA (vv 0) (AA (vv 1) AB))) (Dz (vv 3) (AJ G_z49 hr_z49 rfl T.m_z49 T.F_z49.kp T.b_z49 .nil AG (AA (vv 0) (AA (vv 1) AB))) Dq) (by rfl) (by rfl) (by rfl))) Ao) (@AF _ _ _ _ _ (@Df _ _ _ _ _ _ _ (["_law_one","_law_many"]) 1 [1] _ _ _ _ 4 _ _ _ rfl sc_z35.nd rfl rfl (Ie rfl T.z_range (AA (vv 2) (AA (vv 1) AB))) (by kernel_rfl) rfl rfl (by kernel_rfl) (fun c=>AS (i:=0) (show(["_law_one","_law_many"]:List Str).Nodup by decide +kernel) rfl (by right)) (Ah (by decide)) (fun c=>Ar) (fun c=>(As (A7 (K:=K)) rfl T.z_tuple (by rfl) (AA (Aq (N':=["_law_k","_law_one"]) (own:=1) (ix:=[0]) rfl (Aw rfl T.z_range (AA (vv 1) AB)) (by kernel_rfl) rfl rfl (by kernel_rfl) (fun c=>AS (i:=0) (show(["_law_k","_law_one"]:List Str).Nodup by decide +kernel) rfl (by right)) (Ah (by decide)) (fun c=>Ar) (fun c=>(Bm (kEq (K:=K) hu) (vv 0) (vv 1)))) AB))) (by rfl) (by intro _;rfl)) (@AH _ _ _ (@AM _ _ _ _ (A5 (AA (As (A7 (K:=K)) rfl T.z_tuple (by rfl) (AA (vv 3) AB)) (AA (As (A7 (K:=K)) rfl T.z_tuple (by rfl) (AA (vv 4) AB)) AB)))))))))),?_⟩;obtain⟨c,F⟩:=F.told;refine⟨c,N,F,by lia,Ax (by decide) (by decide),fun d1 H1 a0 a1 F1 f1=>?_⟩;dsimp only[AT,Db];obtain⟨M,rfl⟩:∃M:Nat,d1=M:=⟨d1.toNat,by lia⟩;refine⟨c,_,F1,by lia,Ax (by decide) (by decide),fun d2 H2 b0 b1 F2 f2=>?_⟩;dsimp only[AT];have f2':Frm t H H2:=(Am f1).trans (Am f2);refine Ad (fun σ H'=>∃(l:Addr) (ls:List Int),σ=[some (.ref t),some (.int (2+M)),some (.int d2),some (.ref l),none]/\H l=none/\l≠t/\l≠c/\H' l=some (.lst (ls.map V.int))/\ls.length=M+2/\(∀x∈ls,x.natAbs<=10)/\GFd H' t c (N+2)/\Frm t H H') ?_ ?_ (by walk_at "sm")
 ·refine⟨(2+M:Int),rfl,by lia,by lia,?_⟩
  refine BQ (fun i ys H'=>H'=H2/\∃ls:List Int,ys=ls.map V.int/\ls.length=i/\∀x∈ls,x.natAbs<=10) ⟨rfl,[],rfl,rfl,nofun⟩ (fun i ys H' hi ⟨_,ls,e,el,_⟩=>by
   rw[e,ZC,el];exact Af (by lia)) ?_ ?_
  ·rintro i ys H' hi ⟨rfl,ls,rfl,el,hs⟩;refine⟨rfl,ls++[0+(i:Int)],by rw[ZM];rfl,by rw[ZL,el];rfl,?_⟩;intro x hx
   rcases ZW.mp hx with h | h
   ·exact hs x h
   ·rw[ZJ.mp h];lia
  ·rintro ys H' ⟨rfl,ls,rfl,el,hs⟩ l hl;have hne:=F2.ne hl;exact⟨l,ls,rfl,F2.feed.free f2' hl,hne.1,hne.2,AD,by lia,hs,F2.upd hl,f2'.trans (Frm.upd hl)⟩
 rintro σ H3 ⟨l,ls,rfl,hl,lt,lc,gl3,ll,hs,F3,f3⟩;refine Ad (fun σ H'=>∃(ls:List Int),σ=[some (.ref t),some (.int (2+M)),some (.int d2),some (.ref l),none]/\H' l=some (.lst (ls.map V.int))/\ls.length=M+2/\(∀x∈ls,x.natAbs<=10)/\GFeed H' t (N+10)/\Frm t H H') ?_ ?_ (by walk_at "sm")
 ·refine⟨c,_,F3,by lia,Ax (by decide) (by decide),fun d3 H4 _ _ F4 f4=>?_⟩;have gl4:H4 l=some (.lst (ls.map V.int)):=by rw[f4 l lt];exact gl3
  refine Ag (fun e=>?_) (fun e=>⟨ls,rfl,gl4,ll,hs,F4.feed.mono (by lia),f3.trans (Am f4)⟩);refine⟨c,_,F4,by lia,Ax (by lia) (by lia),fun d4 H5 p0 p1 F5 f5=>?_⟩;refine⟨c,_,F5,by lia,Ax (by lia) (by lia),fun d5 H6 q0 q1 F6 f6=>?_⟩;have gl6:H6 l=some (.lst (ls.map V.int)):=by rw[f6 l lt,f5 l lt];exact gl4
  have hd5:ixN (ls.map V.int).length d5=some d5.toNat:=by
   rw[ZC];unfold ixN;rw[if_pos (by lia),if_pos (by lia)]
  refine⟨_,_,gl6,hd5,ls.set d5.toNat d4,rfl,by rw[AD,List.map_set],by rw[ZBW];exact ll,?_,(F6.put ⟨lt,lc⟩).feed.mono (by lia),FA (f3.trans ((Am f4).trans ((Am f5).trans (Am f6)))) hl⟩;intro x hx
  rcases List.mem_or_eq_of_mem_set hx with h | h
  ·exact hs x h
  ·rw[h];lia
 rintro σ H4 ⟨ls,rfl,gl4,ll,hs,F4,f4⟩;have n0:(0:Int)<=2+M - d2:=by lia
 refine⟨d2,2+M,rfl,⟨by lia,by lia,by lia,by lia⟩,?_⟩;obtain⟨W,hW,w1,w7⟩:∃W:Nat,(2+(M:Int) - d2).toNat=W/\1<=W/\W<=7:=⟨_,rfl,by lia,by lia⟩;rw[hW]
 refine BQ (fun i ys H'=>Same H4 H'/\∃rs:List (List Bool),rs.length=i/\(∀r∈rs,r.length=M+2)/\Reps K H' (Ae rs) ys) ⟨fun _ _ e=>e,[],rfl,nofun,AV⟩ (fun i ys H' hi ⟨_,rs,e,_,R'⟩=>by
  rw[<- R'.length,D7];exact Af (by lia)) ?_ ?_
 ·rintro i ys H1 hi ⟨S1,rs,rfl,hr1,R1⟩;refine⟨(2+M:Int),rfl,by lia,by lia,?_⟩
  refine BQ (fun j zs H'=>H'=H1/\∃bs:List Bool,zs=bs.map V.bl/\bs.length=j) ⟨rfl,[],rfl,rfl⟩ (fun j zs H' hj ⟨_,bs,e,el⟩=>by
   rw[e,ZC,el];exact Af (by lia)) ?_ ?_
  ·rintro j zs H' hj ⟨rfl,bs,rfl,rfl⟩;exact⟨rfl,bs++[_],by rw[ZM];rfl,by rw[ZL];rfl⟩
  ·rintro zs H' ⟨rfl,bs,rfl,hb⟩ k hk;refine⟨_,.inl ⟨.of AD,fun p hp=>?_⟩⟩;have s3:=(Same.upd (o:=.lst (bs.map V.bl)) hk).trans (Same.upd (o:=.tup (bs.map V.bl)) hp);refine⟨S1.trans s3,rs++[bs],by rw[ZL];rfl,?_,?_⟩
   ·intro r hr'
    rcases ZW.mp hr' with h | h
    ·exact hr1 r h
    ·rw[ZJ.mp h];lia
   ·have e:Ae (rs++[bs])=Ae rs++[.tup (bs.map Dv.bl)]:=by unfold Ae;rw[ZM];rfl
    rw[e];exact Reps.append (Reps.same s3 _ _ R1) (AN (BD AD (Bv bs)) AV)
 ·rintro ys H1 ⟨S1,rs,hrl,hr1,R1⟩ k hk;have s2:Same H1 (upd H1 k (.lst ys)):=Same.upd hk;have g2:upd H1 k (.lst ys) k=some (.lst ys):=AD;generalize upd H1 k (.lst ys)=H2' at *;dsimp only[AT];refine⟨_,.inl ⟨.of (s2 _ _ (S1 _ _ gl4)),fun p hp=>?_⟩⟩;have s3:Same H2' (upd H2' p (.tup (ls.map V.int))):=Same.upd hp;have g3:upd H2' p (.tup (ls.map V.int)) p=some (.tup (ls.map V.int)):=AD;generalize upd H2' p (.tup (ls.map V.int))=H3' at *;refine⟨_,.inl ⟨.of (s3 _ _ g2),fun p4 hp4=>?_⟩⟩;refine⟨smq rfl,fun p5 hp5=>?_⟩;have s5:=(Same.upd (o:=.tup ys) hp4).trans (Same.upd (o:=.tup [.ref p,.ref p4]) hp5);have S5:=S1.trans (s2.trans (s3.trans s5));refine q ls rs _ _ ⟨by lia,by lia,by lia,by lia,fun r h=>by rw[hr1 r h];lia,fun x h=>Zf (hs x h) (by decide)⟩ ?_ (F4.same S5) (f4.trans fun b o _ e=>S5 b o e);exact BD AD (AN (BD (s5 _ _ g3) (FE ls)) (AN (BD (Same.upd hp5 _ _ AD) (Reps.same (s2.trans (s3.trans s5)) _ _ R1)) AV))
theorem ML{ns:List Int}{i lo hi:Int}(h0:0<=i)(h1:i < ns.length)(h:∀x∈ns,lo<=x/\x<=hi):∃z,atI (ns.map V.int) i=some (.int z)/\lo<=z/\z<=hi:=by
 have hi':i.toNat < ns.length:=by lia
 exact⟨ns[i.toNat],A2 (n:=i.toNat) (by lia) (by rw[ZR,ZE hi'];rfl),h _ (Zo hi')⟩
theorem TU{a b c:V}{i:Int}(h0:0<=i)(h1:i < 3):∃z,atI [a,b,c] i=some z/\(z=a\/z=b\/z=c):=by
 obtain⟨n,rfl⟩:∃n:Nat,i=n:=⟨i.toNat,by lia⟩
 match n,h1 with
 | 0,_=>exact⟨a,rfl,.inl rfl⟩
 | 1,_=>exact⟨b,rfl,.inr (.inl rfl)⟩
 | 2,_=>exact⟨c,rfl,.inr (.inr rfl)⟩
 | n+3,h=>lia
theorem Oa:FnOk P w K mg base CX0 2 T.f_z28 T.d_z28 ["_law_feed_here"] (B2 K 300 850000000):=by
 have G_z49:=@EL P w K mg base T;refine T.F_z28.ok sc_z28 (fun vs H Q E h=>by unfold B2 at h;split at h <;> first | rfl | exact h.elim) (fun cdv A outer s H vs Q E hr h=>?_);have hu:=Aa hr;have hr_z49:=hr.mono (show 1<=_ by decide);unfold B2 at h;split at h;rotate_left
 ·exact h.elim
 rename_i t;obtain⟨N,F,hN,q⟩:=h;refine⟨_,(@AF _ _ _ _ _ (@AQ _ _ 1 _ _ _ _ sc_z28.nd rfl (by right) (@BG _ _ _ _ (AA (AR (BB (K:=K)) AC (AJ G_z49 hr_z49 rfl T.m_z49 T.F_z49.kp T.b_z49 .nil AG (AA (vv 0) (AA AC AB)))) (AA (AR (BB (K:=K)) AC (AJ G_z49 hr_z49 rfl T.m_z49 T.F_z49.kp T.b_z49 .nil AG (AA (vv 0) (AA AC AB)))) (AA (AR (BB (K:=K)) AC (AJ G_z49 hr_z49 rfl T.m_z49 T.F_z49.kp T.b_z49 .nil AG (AA (vv 0) (AA AC AB)))) (AA (AR (BB (K:=K)) AC (AJ G_z49 hr_z49 rfl T.m_z49 T.F_z49.kp T.b_z49 .nil AG (AA (vv 0) (AA AC AB)))) AB))))) (by rfl) (by symm)) (@AF _ _ _ _ _ (@AQ _ _ 1 _ _ _ _ sc_z28.nd rfl (by right) (kIx (K:=K) (vv 1) (AJ G_z49 hr_z49 rfl T.m_z49 T.F_z49.kp T.b_z49 .nil AG (AA (vv 0) (AA AC AB)))) (by rfl) (by symm)) (@AF _ _ _ _ _ (@AQ _ _ 2 _ _ _ _ sc_z28.nd rfl (by right) (kIx (K:=K) (@BG _ _ _ _ (AA (AR (BB (K:=K)) AC (AJ G_z49 hr_z49 rfl T.m_z49 T.F_z49.kp T.b_z49 .nil AG (AA (vv 0) (AA AC AB)))) (AA (AR (BB (K:=K)) AC (AJ G_z49 hr_z49 rfl T.m_z49 T.F_z49.kp T.b_z49 .nil AG (AA (vv 0) (AA AC AB)))) (AA (AR (BB (K:=K)) AC (AJ G_z49 hr_z49 rfl T.m_z49 T.F_z49.kp T.b_z49 .nil AG (AA (vv 0) (AA AC AB)))) AB)))) (AJ G_z49 hr_z49 rfl T.m_z49 T.F_z49.kp T.b_z49 .nil AG (AA (vv 0) (AA AC AB)))) (by rfl) (by symm)) (@AF _ _ _ _ _ (@OD _ _ 3 _ _ _ _ sc_z28.nd rfl (by right) (@kIx _ K _ _ _ _ _ (@BG _ _ _ _ (@AA _ _ _ _ _ (@BG _ _ _ _ (@AA _ _ _ _ _ AC (@pa1 _ _ _ AC (by rfl)) (by rfl))) (@AA _ _ _ _ _ (@BG _ _ _ _ (@AA _ _ _ _ _ (VQ RH AC) (@AA _ _ _ _ _ (AR MJ AC AC) (@pa1 _ _ _ AC (by rfl)) (by rfl)) (by rfl))) (@AA _ _ _ _ _ (@BG _ _ _ _ (@AA _ _ _ _ _ AC (@AA _ _ _ _ _ AC (@AA _ _ _ _ _ AC (@AA _ _ _ _ _ AC (@AA _ _ _ _ _ AC (@AA _ _ _ _ _ AC (@AA _ _ _ _ _ AC (@AA _ _ _ _ _ AC (@AA _ _ _ _ _ AC (@pa1 _ _ _ AC (by rfl)) (by rfl)) (by rfl)) (by rfl)) (by rfl)) (by rfl)) (by rfl)) (by rfl)) (by rfl)) (by rfl))) (@AB _) L2.star_lst) L2.star_lst) L2.star_lst)) (AJ G_z49 hr_z49 rfl T.m_z49 T.F_z49.kp T.b_z49 .nil AG (AA (vv 0) (AA AC AB))) (by intro _ _;rfl) (by rfl)) rfl (by first | exact .inl rfl | exact .inr rfl)) (@AF _ _ _ _ _ (@Df _ _ _ _ _ _ _ (["_law_k","_law_names","_law_feed_here"]) 1 ([3,0]) _ _ _ _ 4 _ _ _ rfl sc_z28.nd rfl rfl (Aw rfl T.z_range (AA (vv 1) AB)) (by kernel_rfl) rfl rfl (by kernel_rfl) (fun c=>AS (i:=0) (show(["_law_k","_law_names","_law_feed_here"]:List Str).Nodup by decide +kernel) rfl (by right)) (Ah (by decide)) (fun c=>Ar) (fun c=>(kIx (K:=K) (vv 1) (AJ G_z49 hr_z49 rfl T.m_z49 T.F_z49.kp T.b_z49 .nil AG (AA (vv 2) (AA (AU (Ay (K:=K)) rfl T.z_len (by rfl) (AA (vv 1) AB)) AB))))) (by rfl) (by intro _;rfl)) (@AF _ _ _ _ _ (@AQ _ _ 5 _ _ _ _ sc_z28.nd rfl (by right) (@BG _ _ _ _ AB) (by rfl) (by symm)) (@AF _ _ _ _ _ (@BK _ _ _ _ _ _ _ _ PassesOwn.never rfl (Aw rfl T.z_range (AA (vv 2) AB)) (AS (i:=6) sc_z28.nd rfl (by right)) (@AH _ _ _ (@Cz _ _ _ _ (Eh (K:=K) (vv 5) (AA (As (A7 (K:=K)) rfl T.z_tuple (by rfl) (AA (Aq (N':=["_law_thing","_law_feed_here"]) (own:=1) (ix:=[0]) rfl (Aw rfl T.z_range (AA (vv 1) AB)) (by kernel_rfl) rfl rfl (by kernel_rfl) (fun c=>AS (i:=0) (show(["_law_thing","_law_feed_here"]:List Str).Nodup by decide +kernel) rfl (by right)) (Ah (by decide)) (fun c=>Ar) (fun c=>(Bm (kEq (K:=K) hu) (AJ G_z49 hr_z49 rfl T.m_z49 T.F_z49.kp T.b_z49 .nil AG (AA (vv 1) (AA AC AB))) AC))) AB)) AB)) (by rfl))) (by intro _;rfl)) (@AH _ _ _ (@AM _ _ _ _ (A5 (AA (As (A7 (K:=K)) rfl T.z_tuple (by rfl) (AA (vv 4) AB)) (AA (As (A7 (K:=K)) rfl T.z_tuple (by rfl) (AA (vv 5) AB)) AB)))))))))))),?_⟩;have d4:okDiv 4:=Ax (by decide) (by decide);have d5:okDiv 5:=Ax (by decide) (by decide);have d6:okDiv 6:=Ax (by decide) (by decide);have d3:okDiv 3:=Ax (by decide) (by decide);have d16:okDiv 16:=Ax (by decide) (by decide);refine Ad (fun σ H'=>∃(l:Addr) (a b c d:Int),σ=[some (.ref t),some (.ref l),none,none,none,none,none]/\H' l=some (.lst ([a,b,c,d].map V.int))/\l≠t/\(∀x∈[a,b,c,d],1<=x/\x<=10)/\GFeed H' t (N+4)/\Frm t H H') ?_ ?_ (by walk_at "sm")
 ·refine⟨_,F,by lia,d6,fun a H1 a0 a1 F1 f1=>?_⟩;refine⟨_,F1,by lia,d6,fun b H2 b0 b1 F2 f2=>?_⟩;refine⟨_,F2,by lia,d6,fun c H3 c0 c1 F3 f3=>?_⟩;refine⟨_,F3,by lia,d4,fun d H4 d0 d1 F4 f4=>?_⟩;refine⟨smq rfl,fun l hl=>?_⟩;refine⟨l,1+a,2+b,2+c,7+d,rfl,AD,F4.neT hl,?_,F4.upd hl,(((Am f1).trans (Am f2)).trans ((Am f3).trans (Am f4))).trans (Frm.upd hl)⟩;simp only[ZF,ZBa,or_false];lia
 rintro σ H1 ⟨l,a,b,c,d,rfl,gl,lt,hb,F1,f1⟩;refine Ad (fun σ H'=>∃M:Nat,σ=[some (.ref t),some (.int M),none,none,none,none,none]/\1<=M/\M<=10/\GFeed H' t (N+5)/\Frm t H H') ?_ ?_ (by walk_at "sm")
 ·refine⟨_,F1,by lia,d4,fun i H2 i0 i1 F2 f2=>?_⟩;obtain⟨z,hz,z1,z2⟩:=ML (ns:=[a,b,c,d]) i0 i1 hb;refine⟨_,_,.inl (.of (by rw[f2 l lt];exact gl)),hz,z.toNat,?_,by lia,by lia,F2,f1.trans (Am f2)⟩;rw[Int.toNat_of_nonneg (by lia)];rfl
 clear gl lt hb F1 f1;rintro σ H1 ⟨M,rfl,M1,M10,F1,f1⟩;refine Ad (fun σ H'=>∃W:Nat,σ=[some (.ref t),some (.int M),some (.int W),none,none,none,none]/\1<=W/\W<=16/\GFeed H' t (N+9)/\Frm t H H') ?_ ?_ (by walk_at "sm")
 ·refine⟨_,F1,by lia,d5,fun a H2 a0 a1 F2 f2=>?_⟩;refine⟨_,F2,by lia,d4,fun b H3 b0 b1 F3 f3=>?_⟩;refine⟨_,F3,by lia,d16,fun c H4 c0 c1 F4 f4=>?_⟩;refine⟨smq rfl,fun l hl=>?_⟩;have F5:=F4.upd (o:=.lst [.int (1+a),.int (2+b),.int (1+c)]) hl;refine⟨_,F5,by lia,d3,fun i H6 i0 i1 F6 f6=>?_⟩
  obtain⟨z,hz,z1,z2⟩:=ML (ns:=[1+a,2+b,1+c]) (lo:=1) (hi:=16) i0 i1 (by
   simp only[ZF,ZBa,or_false];lia)
  refine⟨_,_,.inl (.of (by rw[f6 l (F4.neT hl)];exact AD)),hz,z.toNat,?_,by lia,by lia,F6.mono (by lia),f1.trans (((Am f2).trans ((Am f3).trans (Am f4))).trans ((Frm.upd hl).trans (Am f6)))⟩;rw[Int.toNat_of_nonneg (by lia)];rfl
 clear F1 f1;rintro σ H1 ⟨W,rfl,W1,W16,F1,f1⟩;refine Ad (fun σ H'=>∃(l:Addr) (ns:List Int),σ=[some (.ref t),some (.int M),some (.int W),some (.ref l),none,none,none]/\H' l=some (.lst (ns.map V.int))/\l≠t/\1<=ns.length/\ns.length<=10/\(∀x∈ns,x.natAbs<=100000000000000000000)/\GFeed H' t (N+10)/\Frm t H H') ?_ ?_ (by walk_at "sm")
 ·have bound:∀(x:V) (l:Addr) (ns:List Int) (H':Hp),x=.ref l->H' l=some (.lst (ns.map V.int))->l≠t->1<=ns.length->ns.length<=10->(∀x∈ns,x.natAbs<=100000000000000000000)->GFeed H' t (N+10)->Frm t H H'->∃(l:Addr) (ns:List Int),[some (V.ref t),some (.int M),some (.int W),some x,none,none,none]=[some (.ref t),some (.int M),some (.int W),some (.ref l),none,none,none]/\H' l=some (.lst (ns.map V.int))/\l≠t/\1<=ns.length/\ns.length<=10/\(∀x∈ns,x.natAbs<=100000000000000000000)/\GFeed H' t (N+10)/\Frm t H H' :=
   fun x l ns H' e h1 h2 h3 h4 h5 h6 h7=>⟨l,ns,by rw[e],h1,h2,h3,h4,h5,h6,h7⟩
  refine⟨smq rfl,fun p hp=>?_⟩;have sa:Same H1 (upd H1 p (.lst [.int 0,.int 1])):=Same.upd hp;have ga:upd H1 p (.lst [.int 0,.int 1]) p=some (.lst [.int 0,.int 1]):=AD;generalize upd H1 p (.lst [.int 0,.int 1])=Ha at *;refine⟨⟨by decide,by decide,by decide⟩,?_⟩;refine⟨smq rfl,fun p2 hp2=>?_⟩;generalize hten:(10:Int) ^ Int.toNat 20=ten;have sb:Same Ha (upd Ha p2 (.lst [.int (-7),.int ten,.int 3])):=Same.upd hp2;have gb:upd Ha p2 (.lst [.int (-7),.int ten,.int 3]) p2=some (.lst [.int (-7),.int ten,.int 3]):=AD;generalize upd Ha p2 (.lst [.int (-7),.int ten,.int 3])=Hb at *;refine⟨smq rfl,fun p3 hp3=>?_⟩;have sc:Same Hb (upd Hb p3 (.lst ([5,1,4,2,3,0,7,6,8,9].map V.int))):=Same.upd hp3;have gc:upd Hb p3 (.lst ([5,1,4,2,3,0,7,6,8,9].map V.int)) p3=some (.lst ([5,1,4,2,3,0,7,6,8,9].map V.int)):=AD;refine(show ∀Hc,Same Hb Hc->Hc p3=some (.lst ([5,1,4,2,3,0,7,6,8,9].map V.int))->_ from ?_) (upd Hb p3 (.lst ([5,1,4,2,3,0,7,6,8,9].map V.int))) sc gc;clear sc gc;intro Hc sc gc;refine⟨smq rfl,fun p4 hp4=>?_⟩;have sd:Same Hc (upd Hc p4 (.lst [.ref p,.ref p2,.ref p3])):=Same.upd hp4;have gd:upd Hc p4 (.lst [.ref p,.ref p2,.ref p3]) p4=some (.lst [.ref p,.ref p2,.ref p3]):=AD;have Fc:=F1.same (sa.trans (sb.trans sc));have pt:p≠t:=F1.neT hp;have pt2:p2≠t:=(F1.same sa).neT hp2;have pt3:p3≠t:=(F1.same (sa.trans sb)).neT hp3;have pt4:p4≠t:=Fc.neT hp4;generalize upd Hc p4 (.lst [.ref p,.ref p2,.ref p3])=Hd at *;have S:=sa.trans (sb.trans (sc.trans sd));refine⟨_,F1.same S,by lia,d3,fun i H5 i0 i1 F5 f5=>?_⟩;obtain⟨z,hz,hz3⟩:=TU (a:=V.ref p) (b:=V.ref p2) (c:=V.ref p3) i0 i1;refine⟨_,_,.inl (.of (by rw[f5 p4 pt4];exact gd)),hz,?_⟩;have f:Frm t H H5:=f1.trans (Frm.trans (fun b o _ e=>S b o e) (Am f5))
  rcases hz3 with e | e | e
  ·exact bound z p [0,1] H5 e (by rw[f5 p pt];exact(sb.trans (sc.trans sd)) _ _ ga) pt (by decide) (by decide) (by decide) F5 f
  ·refine bound z p2 [-7,ten,3] H5 e (by rw[f5 p2 pt2];exact(sc.trans sd) _ _ gb) pt2 (show 1<=3 by decide) (show 3<=10 by decide) ?_ F5 f;rw[<- hten];decide
  ·exact bound z p3 [5,1,4,2,3,0,7,6,8,9] H5 e (by rw[f5 p3 pt3];exact sd _ _ gc) pt3 (by decide) (by decide) (by decide) F5 f
 rintro σ H2 ⟨l,ns,rfl,gl,lt,n1,n10,hn,F2,f2⟩;refine Ad (fun σ H'=>∃(z:V) (k:Addr) (ls:List Int),σ=[some (.ref t),some (.int M),some (.int W),z,some (.ref k),none,none]/\H' k=some (.lst (ls.map V.int))/\k≠t/\ls.length=M/\(∀x∈ls,x.natAbs<=100000000000000000000)/\GFeed H' t (N+10+M)/\Frm t H H') ?_ ?_ (by walk_at "sm")
 ·refine⟨(M:Int),rfl,by lia,by lia,?_⟩
  refine BQ (fun i ys H'=>GFeed H' t (N+10+i)/\Frm t H H'/\H' l=some (.lst (ns.map V.int))/\∃ls:List Int,ys=ls.map V.int/\ls.length=i/\∀x∈ls,x.natAbs<=100000000000000000000) ⟨F2,f2,gl,[],rfl,rfl,nofun⟩ (fun i ys H' hi ⟨_,_,_,ls,e,el,_⟩=>by
   rw[e,ZC,el];exact Af (by lia)) ?_ ?_
  ·rintro i ys H3 hi ⟨F3,f3,gl3,ls,rfl,el,hs⟩;refine⟨_,.inl ⟨_,.of gl3,rfl⟩,?_⟩;refine⟨_,F3,by lia,Ax (by rw[ZC];lia) (by rw[ZC];lia),fun d H4 x0 x1 F4 f4=>?_⟩;rw[ZC]at x1;have hd:d.toNat < ns.length:=by lia
   refine⟨_,_,.inl (.of (by rw[f4 l lt];exact gl3)),A2 (n:=d.toNat) (by lia) (by rw[ZR,ZE hd];rfl),F4.mono (by lia),f3.trans (Am f4),by rw[f4 l lt];exact gl3,ls++[ns[d.toNat]],by rw[ZM];rfl,by rw[ZL,el];rfl,?_⟩;intro x hx
   rcases ZW.mp hx with h | h
   ·exact hs x h
   ·rw[ZJ.mp h];exact hn _ (Zo hd)
  ·rintro ys H3 ⟨F3,f3,gl3,ls,rfl,el,hs⟩ k hk;rw[Zc]at el F3;exact⟨_,k,ls,rfl,AD,F3.neT hk,el,hs,F3.upd hk,f3.trans (Frm.upd hk)⟩
 clear F2 f2 gl;rintro σ H2 ⟨z,k,ls,rfl,gk,kt,ll,hs,F2,f2⟩;refine⟨smq rfl,fun r hr'=>?_⟩;have hrH:H r=none:=F2.free f2 hr';have rt:r≠t:=F2.neT hr';have rk:k≠r:=fun e=>by rw[e,hr']at gk;cases gk
 dsimp only[AT];refine Ad (fun σ H'=>∃(z6:Option V) (rs:List (List Bool)) (ys:List V),σ=[some (.ref t),some (.int M),some (.int W),z,some (.ref k),some (.ref r),z6]/\H' k=some (.lst (ls.map V.int))/\H' r=some (.lst ys)/\rs.length=W/\(∀b∈rs,b.length=M)/\Reps K H' (Ae rs) ys/\GFeed H' t (N+300)/\Frm t H H') ?_ ?_ (by walk_at "sm")
 ·refine⟨(W:Int),rfl,by lia,by lia,?_⟩;refine Bk (fun i σ H'=>∃(z6:Option V) (rs:List (List Bool)) (ys:List V),σ=[some (.ref t),some (.int M),some (.int W),z,some (.ref k),some (.ref r),z6]/\H' k=some (.lst (ls.map V.int))/\H' r=some (.lst ys)/\rs.length=i/\(∀b∈rs,b.length=M)/\Reps K H' (Ae rs) ys/\GFeed H' t (N+10+M+M * i)/\Frm t H H') ⟨none,[],[],rfl,by rw[AI rk];exact gk,AD,rfl,nofun,AV,F2.upd hr',f2.trans (Frm.upd hr')⟩ ?_ ?_
  ·rintro i σ H3 hi ⟨z6,rs,ys,rfl,gk3,gr3,rl,hb,R3,F3,f3⟩;have hMi:M * i<=160:=Zf (Nat.mul_le_mul M10 (show i<=16 by lia)) (by decide);have hyl:ys.length=i:=by rw[<- R3.length,D7,rl]
   refine⟨.inl ⟨rfl,_,.of gr3⟩,?_⟩;refine⟨(M:Int),rfl,by lia,by lia,?_⟩
   refine BQ (fun j zs H'=>GFeed H' t (N+10+M+M * i+j)/\Frm t H3 H'/\∃bs:List Bool,zs=bs.map V.bl/\bs.length=j) ⟨F3,Frm.refl,[],rfl,rfl⟩ (fun j zs H' hj ⟨_,_,bs,e,el⟩=>by
    rw[e,ZC,el];exact Af (by lia)) ?_ ?_
   ·rintro j zs H4 hj ⟨F4,f4,bs,rfl,rfl⟩;refine⟨_,F4,by lia,Ax (by decide) (by decide),fun d H5 _ _ F5 f5=>?_⟩;exact⟨F5.mono (by lia),f4.trans (Am f5),bs++[_],by rw[ZM];rfl,by rw[ZL];rfl⟩
   ·rintro zs H4 ⟨F4,f4,bs,rfl,el⟩ k4 hk4;rw[Zc]at el F4;refine⟨_,.inl ⟨.of AD,fun p hp=>?_⟩⟩;have s5:=(Same.upd (o:=.lst (bs.map V.bl)) hk4).trans (Same.upd (o:=.tup (bs.map V.bl)) hp);have g5:=AD (H:=upd H4 k4 (.lst (bs.map V.bl))) (a:=p) (o:=.tup (bs.map V.bl));generalize upd (upd H4 k4 (.lst (bs.map V.bl))) p (.tup (bs.map V.bl))=H5 at *;have f35:Frm t H3 H5:=f4.trans fun b o _ e=>s5 b o e
    have gr5:H5 r=some (.lst ys):=f35 _ _ rt gr3
    have R5:Reps K H5 (Ae (rs++[bs])) (ys++[.ref p]):=by
     have e:Ae (rs++[bs])=Ae rs++[.tup (bs.map Dv.bl)]:=by unfold Ae;rw[ZM];rfl
     rw[e];exact Reps.append (Reps.frm f35 F3.lst _ _ (Cj _) R3) (AN (BD g5 (Bv bs)) AV)
    refine⟨_,gr5,Af (by lia),?_⟩;refine⟨_,rs++[bs],_,rfl,by rw[AI rk];exact f35 _ _ kt gk3,AD,by rw[ZL,rl];rfl,?_,Reps.frm Frm.updT ⟨_,gr5⟩ _ _ (Cj _) R5,((F4.same s5).put rt gr5 (NU (Reps.frm f35 F3.lst _ _ (Cj _) R3))).mono (by rw[Nat.mul_succ];lia),FA (f3.trans f35) hrH⟩;intro b hb'
    rcases ZW.mp hb' with h | h
    ·exact hb b h
    ·rw[ZJ.mp h];exact el
  ·rintro σ H3 ⟨z6,rs,ys,rfl,gk3,gr3,rl,hb,R3,F3,f3⟩;rw[Zc]at rl F3;have hMi:M * W<=160:=Zf (Nat.mul_le_mul M10 W16) (by decide);exact⟨z6,rs,ys,rfl,gk3,gr3,rl,hb,R3,F3.mono (by lia),f3⟩
 rintro σ H3 ⟨z6,rs,ys,rfl,gk3,gr3,rl,hb,R3,F3,f3⟩;refine⟨_,.inl ⟨.of gk3,fun p hp=>?_⟩⟩;have s4:Same H3 (upd H3 p (.tup (ls.map V.int))):=Same.upd hp;have g4:upd H3 p (.tup (ls.map V.int)) p=some (.tup (ls.map V.int)):=AD;generalize upd H3 p (.tup (ls.map V.int))=H4 at *;refine⟨_,.inl ⟨.of (s4 _ _ gr3),fun p4 hp4=>?_⟩⟩;refine⟨smq rfl,fun p5 hp5=>?_⟩;have s5:=(Same.upd (o:=.tup ys) hp4).trans (Same.upd (o:=.tup [.ref p,.ref p4]) hp5);have S5:=s4.trans s5;refine q ls rs _ _ ⟨by lia,by lia,by lia,by lia,fun r h=>by rw[hb r h];lia,hs⟩ ?_ (F3.same S5) (f3.trans fun b o _ e=>S5 b o e);exact BD AD (AN (BD (s5 _ _ g4) (FE ls)) (AN (BD (Same.upd hp5 _ _ AD) (Reps.same S5 _ _ R3)) AV))
theorem VA(bs:List Bool)(m:Nat)(h:bs.length=2 ^ m)(m1:1<=m)(m4:m<=4):∃ls rs,HR bs m=gmD ls rs/\Gm ls rs:=by
 have h16:2 ^ m<=16:=Zj (n:=2) (j:=4) (by decide) m4;have h2:2<=2 ^ m:=Zj (n:=2) (i:=1) (by decide) m1;refine⟨bs.map fun b=>if b then 1 else 0,(List.range m).map (Bl m),?_,?_⟩
 ·unfold HR gmD JX Bx Ae;rw[ZBD,ZBD];rfl
 ·refine⟨by rw[ZC];lia,by rw[ZC];lia,by rw[ZC,Zw];lia,by rw[ZC,Zw];lia,?_,?_⟩
  ·intro r hr;obtain⟨i,_,rfl⟩:=ZP.mp hr;rw[UF,ZC,h]
  ·intro x hx;obtain⟨b,_,rfl⟩:=ZP.mp hx;cases b <;> decide
theorem V7:FnOk P w K mg base CX0 4 T.f_z47 T.d_z47 ["_law_feed_here"] (B2 K 500 800000000):=by
 have G_z49:=@EL P w K mg base T;have G_z25:=@UR P w K mg base T;have G_z24:=@SQ P w K mg base T;have G_z35:=@SO P w K mg base T;have G_z28:=@Oa P w K mg base T;have G_z36:=@Nd P w K mg base T;have G_z37:=@QF P w K mg base T;refine T.F_z47.ok sc_z47 (fun vs H Q E h=>by unfold B2 at h;split at h <;> first | rfl | exact h.elim) (fun cdv A outer s H vs Q E hr h=>?_);have hu:=Aa hr;have hr_z49:=hr.mono (show 1<=_ by decide);have hr_z25:=hr.mono (show 1<=_ by decide);have hr_z24:=hr.mono (show 1<=_ by decide);have hr_z35:=hr.mono (show 2<=_ by decide);have hr_z28:=hr.mono (show 2<=_ by decide);have hr_z36:=hr.mono (show 2<=_ by decide);have hr_z37:=hr.mono (show 3<=_ by decide);unfold B2 at h;split at h;rotate_left
 ·exact h.elim
 rename_i t;obtain⟨N,F,hN,q⟩:=h;refine⟨_,(@AF _ _ _ _ _ (@AQ _ _ 1 _ _ _ _ sc_z47.nd rfl (by right) (AJ G_z49 hr_z49 rfl T.m_z49 T.F_z49.kp T.b_z49 .nil AG (AA (vv 0) (AA AC AB))) (by rfl) (by symm)) (@AF _ _ _ _ _ (@Ap _ _ _ _ _ _ _ _ (AW (kEq (K:=K) hu) (vv 1) AC) (@AH _ _ _ (@AM _ _ _ _ (AJ G_z25 hr_z25 rfl T.m_z25 T.F_z25.kp T.b_z25 .nil AG (AA (AJ G_z36 hr_z36 rfl T.m_z36 T.F_z36.kp T.b_z36 .nil AG (AA (vv 0) (AA (AR (BB (K:=K)) AC (AJ G_z49 hr_z49 rfl T.m_z49 T.F_z49.kp T.b_z49 .nil AG (AA (vv 0) (AA AC AB)))) AB))) AB)))) Ao) (@AF _ _ _ _ _ (@Ap _ _ _ _ _ _ _ _ (AW (kEq (K:=K) hu) (vv 1) AC) (@AH _ _ _ (@AM _ _ _ _ (AJ G_z24 hr_z24 rfl T.m_z24 T.F_z24.kp T.b_z24 .nil AG (AA (AJ G_z37 hr_z37 rfl T.m_z37 T.F_z37.kp T.b_z37 .nil AG (AA (vv 0) (AA (AR (BB (K:=K)) AC (AJ G_z49 hr_z49 rfl T.m_z49 T.F_z49.kp T.b_z49 .nil AG (AA (vv 0) (AA AC AB)))) (AA (AR (BB (K:=K)) AC (AJ G_z49 hr_z49 rfl T.m_z49 T.F_z49.kp T.b_z49 .nil AG (AA (vv 0) (AA AC AB)))) AB)))) AB)))) Ao) (@AH _ _ _ (@AM _ _ _ _ (DQ (AW (kEq (K:=K) hu) (vv 1) AC) (AJ G_z35 hr_z35 rfl T.m_z35 T.F_z35.kp T.b_z35 .nil AG (AA (vv 0) AB)) (AJ G_z28 hr_z28 rfl T.m_z28 T.F_z28.kp T.b_z28 .nil AG (AA (vv 0) AB)))))))),?_⟩;have d4:okDiv 4:=Ax (by decide) (by decide);have d5:okDiv 5:=Ax (by decide) (by decide);have d6:okDiv 6:=Ax (by decide) (by decide);have d3:okDiv 3:=Ax (by decide) (by decide);refine⟨_,F,by lia,d6,fun way H1 w0 w1 F1 f1=>?_⟩;dsimp only[AT];refine Ag (fun e=>?_) (fun e=>?_)
 ·refine⟨_,F1,by lia,d4,fun a H2 a0 a1 F2 f2=>?_⟩;obtain⟨m,hm⟩:∃m:Nat,1+a=m:=⟨(1+a).toNat,by lia⟩;rw[show Db K (V.int 1) (V.int a) H2=fun Q=>Q (.int (1+a)) H2 from rfl];rw[hm];refine⟨m,_,F2,by lia,rfl,by lia,by lia,fun bs p H3 hb hp g3 F3 f3=>?_⟩;refine⟨bs,m,.of g3,hb,by lia,by lia,fun u H4 s4 r4=>?_⟩;obtain⟨ls,rs,e,g⟩:=VA bs m hb (by lia) (by lia);rw[e]at r4;exact q ls rs u H4 g r4 ((F3.same s4).mono (by lia)) ((Am f1).trans ((Am f2).trans (f3.trans fun b o _ e=>s4 b o e)))
 dsimp only[CW];refine Ag (fun e=>?_) (fun e=>?_)
 ·refine⟨_,F1,by lia,d3,fun a H2 a0 a1 F2 f2=>?_⟩;refine⟨_,F2,by lia,d5,fun b H3 b0 b1 F3 f3=>?_⟩;obtain⟨m,hm⟩:∃m:Nat,1+a=m:=⟨(1+a).toNat,by lia⟩;obtain⟨M,hM⟩:∃M:Nat,2+b=M:=⟨(2+b).toNat,by lia⟩;refine⟨m,M,_,F3,by lia,hm,by lia,by lia,hM,by lia,by lia,fun ts xs p H4 t2 tM tb hp g4 R4 F4 f4=>?_⟩;have h8:2 ^ m<=8:=Zj (n:=2) (j:=3) (by decide) (by lia);refine⟨ts,xs,2 ^ m,g4,R4,t2,by lia,tb,ZBc m,h8,fun ls rs u H5 g s5 r5=>?_⟩;exact q ls rs u H5 g r5 ((F4.same s5).mono (by lia)) ((Am f1).trans ((Am f2).trans ((Am f3).trans (f4.trans fun b o _ e=>s5 b o e))))
 dsimp only[CW];refine Ag (fun e=>?_) (fun e=>?_)
 ·exact⟨_,F1,by lia,fun ls rs u H2 g r2 F2 f2=>q ls rs u H2 g r2 (F2.mono (by lia)) ((Am f1).trans f2)⟩
 ·exact⟨_,F1,by lia,fun ls rs u H2 g r2 F2 f2=>q ls rs u H2 g r2 (F2.mono (by lia)) ((Am f1).trans f2)⟩
def AL(rb:List Bool)(ans:Bool)(ts:List Nat):List Nat:=ts.filter fun k=>gB rb k == ans
theorem VR{rb:List Bool}{ans:Bool}(h:ts[i]? = some k):AL rb ans (ts.take (i+1))=AL rb ans (ts.take i)++(if (gB rb k == ans)=true then [k] else []):=by
 unfold AL;rw[Zx,h,ZBi]
 congr 1
 simp only[Option.toList_some,ZBY,List.filter_nil]
theorem Uj(rb:List Bool)(ans:Bool)(ts:List Nat):(AL rb ans ts).length<=ts.length:=ZBj _ _
theorem Js{d1 d2:Dv}(h:Rep K H (.tup [d1,d2]) v):∃a x1 x2,v=.ref a/\SqT K H a [x1,x2]/\Rep K H d1 x1/\Rep K H d2 x2:=by
 obtain⟨a,xs,rfl,hs,hx⟩:=Ch h;obtain⟨x1,r1,rfl,hx1,hx'⟩:=(show ∃x r,xs=x::r/\Rep K H d1 x/\Reps K H [d2] r by unfold Reps at hx;exact hx);obtain⟨x2,r2,rfl,hx2,hx''⟩:=(show ∃x r,r1=x::r/\Rep K H d2 x/\Reps K H [] r by unfold Reps at hx';exact hx');obtain rfl:r2=[]:=by unfold Reps at hx'';exact hx''
 exact⟨a,x1,x2,rfl,hs,hx1,hx2⟩
theorem Jt:∀{bs:List Bool} {xs:List V},Reps K H (bs.map Dv.bl) xs->xs=bs.map V.bl
 | [],xs,h=>by unfold Reps at h;exact h
 | b::bs,xs,h=>by
  rw[Zi]at h;unfold Reps at h;obtain⟨x,r,rfl,h1,h2⟩:=h;unfold Rep at h1;rw[h1,Jt h2];rfl
theorem Hr:∀{bs:List Int} {xs:List V},Reps K H (bs.map Dv.int) xs->xs=bs.map V.int
 | [],xs,h=>by unfold Reps at h;exact h
 | b::bs,xs,h=>by
  rw[Zi]at h;unfold Reps at h;obtain⟨x,r,rfl,h1,h2⟩:=h;unfold Rep at h1;rw[h1,Hr h2];rfl
structure GmAt(K:W.Frag)(H:Hp)(ls:List Int)(rs:List (List Bool))(a tl rl:Addr)(ps:List Addr):Prop where
 two:SqT K H a [.ref tl,.ref rl]
 lab:SqT K H tl (ls.map V.int)
 rows:SqT K H rl (ps.map V.ref)
 len:ps.length=rs.length
 row:∀(i:Nat) (q:Addr) (r:List Bool),ps[i]? = some q->rs[i]? = some r->SqT K H q (r.map V.bl)
theorem MZ:∀{rs:List (List Bool)} {xs:List V},Reps K H (Ae rs) xs->∃ps:List Addr,xs=ps.map V.ref/\ps.length=rs.length/\∀(i:Nat) (q:Addr) (r:List Bool),ps[i]? = some q->rs[i]? = some r->SqT K H q (r.map V.bl)
 | [],xs,h=>by
  have:xs=[]:=by simpa [Ae,Reps] using h
  exact⟨[],this,rfl,fun i q r z=>by simp at z⟩
 | r::rs,xs,h=>by
  have h':Reps K H (Dv.tup (r.map Dv.bl)::Ae rs) xs:=h;unfold Reps at h';obtain⟨x,ys,rfl,h1,h2⟩:=h';obtain⟨a,zs,rfl,hs,hz⟩:=Ch h1;obtain rfl:=Jt hz;obtain⟨ps,rfl,hl,hr⟩:=MZ h2;refine⟨a::ps,rfl,by rw[Zn,Zn,hl],fun i q r' hi hr'=>?_⟩;cases i with
  | zero=>cases hi;cases hr';exact hs
  | succ i=>exact hr i q r' hi hr'
theorem CU(h:Rep K H (gmD ls rs) v):∃a tl rl ps,v=.ref a/\GmAt K H ls rs a tl rl ps:=by
 obtain⟨a,x1,x2,rfl,hs,h1,h2⟩:=Js h;obtain⟨tl,zs,rfl,hl,hz⟩:=Ch h1;obtain rfl:=Hr hz;obtain⟨rl,ws,rfl,hr,hw⟩:=Ch h2;obtain⟨ps,rfl,e,hp⟩:=MZ hw;exact⟨a,tl,rl,ps,rfl,hs,hl,hr,e,hp⟩
theorem GmAt.same{rl:Addr}(g:GmAt K H ls rs a tl rl ps)(s:Same H H'):GmAt K H' ls rs a tl rl ps :=
 ⟨s.sqT g.two,s.sqT g.lab,s.sqT g.rows,g.len,fun i q r x y=>s.sqT (g.row i q r x y)⟩
theorem GmAt.frm{rl:Addr}(g:GmAt K H ls rs a tl rl ps)(f:Frm t H H')(ht:H t=some o)(no:CH o):GmAt K H' ls rs a tl rl ps :=
 ⟨C7 f ht no g.two,C7 f ht no g.lab,C7 f ht no g.rows,g.len,fun i q r x y=>C7 f ht no (g.row i q r x y)⟩
def AO(r:List Bool):Nat:=msk (whr (r.map (· == true)) r.length)
def Cn(ls:List Int)(z:Int):Nat:=msk (whr (ls.map (· == z)) ls.length)
theorem mskR_bit(r:List Bool)(k:Nat):(AO r).testBit k=gB r k:=by
 unfold AO;rw[(Br (Ny _ _) (fun t ht=>Es ht)).2 k,Z7,decide_eq_true_eq,Kg]
 by_cases h:k < r.length
 ·have e:gB (r.map (· == true)) k=gB r k:=by
   rw[Fy (x:=r[k]) (ZE h)];unfold gB;rw[ZY,ZE h];simp
  rw[e];simp[h]
 ·have e:gB r k=false:=by unfold gB;rw[ZY,ZBv (by lia)];rfl
  rw[e];simp[h]
theorem KC(ls:List Int)(z:Int)(k:Nat):(Cn ls z).testBit k=(decide (k < ls.length) && decide (AE ls k=z)):=by
 unfold Cn;rw[(Br (Ny _ _) (fun t ht=>Es ht)).2 k,Z7,decide_eq_true_eq,Kg]
 by_cases h:k < ls.length
 ·have e:gB (ls.map (· == z)) k=decide (AE ls k=z):=by
   rw[Fy (x:=ls[k]) (ZE h)];unfold AE;rw[ZY,ZE h];rfl
  rw[e];simp[h]
 ·simp[h]
theorem NO(rs:List (List Bool)):AX (rs.map AO)=rs.map gB:=by
 unfold AX;rw[ZBD];apply ZCC;intro r _
 funext k
 exact mskR_bit r k
theorem sub_bits:S &&& m=S ↔ ∀k,S.testBit k=true->m.testBit k=true:=by
 constructor
 ·intro e k hk
  have:(S &&& m).testBit k=true:=by rw[e];exact hk
  rw[ZBI,hk]at this;simpa using this
 ·intro h;apply ZCD;intro k;rw[ZBI];cases e:S.testBit k with
  | false=>rfl
  | true=>rw[h k e];rfl
theorem Pw{ms:List Int}(h1:1<=ls.length)(hm:∀z,z∈ms ↔ z∈ls):Na ls (ms.map (Cn ls)):=by
 intro S hS;rw[List.any_map,ZBh];constructor
 ·rintro⟨z,hz,h⟩ i j hi hj;have h:=sub_bits.mp (ZQ h);have a:=h i hi;have b:=h j hj;rw[KC,Zb,decide_eq_true_eq,decide_eq_true_eq]at a b;rw[a.2,b.2]
 ·intro o
  by_cases e:∃k,S.testBit k=true
  ·obtain⟨k,hk⟩:=e;have hkl:=DA hS hk;refine⟨AE ls k,(hm _).mpr ?_,ZO (sub_bits.mpr fun i hi=>?_)⟩
   ·unfold AE;rw[ZY,ZE hkl];exact Zo hkl
   ·rw[KC,ZO (DA hS hi),ZO (o i k hi hk)];rfl
  ·cases ls with
   | nil=>simp at h1
   | cons x r=>exact⟨x,(hm _).mpr (by simp),ZO (sub_bits.mpr fun i hi=>absurd ⟨i,hi⟩ e)⟩
def Gf(K:W.Frag)(C:Addr):Sp:=fun vs H Q _=>match vs with
 | [.ref p,v]=>∃ls rs dx,H p=some (.ins C dx [])/\Rep K H (gmD ls rs) v/\Gm ls rs/\∀d H',H d=none->RkAt K C ls (rs.map AO) H' p d->Frm p H H'->Q .non H'
 | _=>False
theorem HY{α:Type}[DecidableEq α]:∀{ds ls:List α},ds.Nodup->(∀z∈ds,z∈ls)->ds.length<=ls.length
 | [],ls,_,_=>ZX _
 | z::ds,ls,nd,h=>by
  obtain⟨h1,h2⟩:=ZBl.mp nd;have hz:z∈ls:=h z (by simp)
  have:=HY (ds:=ds) (ls:=ls.erase z) h2 (fun x hx=>(List.mem_erase_of_ne (fun e:x=z=>h1 (e ▸ hx))).mpr (h x (Za _ hx)))
  have e:=List.length_erase_of_mem hz
  have:0 < ls.length:=List.length_pos_of_mem hz
  rw[Zn];lia
theorem Gd(h1:ts.Pairwise (· < ·))(h2:∀t∈ts,t < n):ts.length<=n:=EC n ts (h1.imp fun h=>ZK h) h2
theorem WK:FnOk P w K mg base CX0 4 T.f_z23 T.d_z23 ["self","game"] (Gf K T.C_Reckoner):=by
 have G_z34:=@OZ P w K mg base T;have G_z29:=@Wd P w K mg base T;refine T.F_z23.ok TW (fun vs H Q E h=>by unfold Gf at h;split at h <;> first | rfl | exact h.elim) (fun cdv A outer s H vs Q E hr h=>?_);have hu:=Aa hr;have hr_z34:=hr.mono (show 3<=_ by decide);have hr_z29:=hr.mono (show 1<=_ by decide);unfold Gf at h;split at h;rotate_left
 ·exact h.elim
 rename_i p v;obtain⟨ls,rs,dx,hp,hv,G,q⟩:=h;obtain⟨a,tl,rl,ps,rfl,g⟩:=CU hv;have l1:=G.l1;have l16:=G.l16;have r16:=G.r16;have hpl:=g.len;refine⟨_,(@AF _ _ _ _ _ (FC T.cl_Reckoner T.na_Reckoner_labels (vv 0) (As (A7 (K:=K)) rfl T.z_tuple (by rfl) (AA (kIx (K:=K) (vv 1) AC) AB))) (@AF _ _ _ _ _ (FC T.cl_Reckoner T.na_Reckoner_yeses (vv 0) (@Aq _ _ _ _ _ _ _ ["row"] 1 [] _ _ _ _ rfl (BA (K:=K) (kIx (K:=K) (vv 1) AC)) (by kernel_rfl) rfl rfl (by kernel_rfl) (fun c=>AS (i:=0) (show(["row"]:List Str).Nodup by decide +kernel) rfl (by right)) (Ah (by decide)) (fun c=>Ar) (fun c=>(AJ G_z34 hr_z34 rfl T.m_z34 T.F_z34.kp T.b_z34 .nil AG (AA (AJ G_z29 hr_z29 rfl T.m_z29 T.F_z29.kp T.b_z29 .nil AG (AA Az (AA (vv 0) AB))) AB))) (by intro _;rfl))) (@AF _ _ _ _ _ (FC T.cl_Reckoner T.na_Reckoner_alike (vv 0) (Aq (N':=["label","self"]) (own:=1) (ix:=[0]) rfl (BA (K:=K) (AU (Re (P:=P) (w:=w) rfl) rfl T.z_sorted (by rfl) (AA (As (OM (K:=K) (P:=P) (w:=w) rfl) rfl T.z_set (by rfl) (AA (B8 T.cl_Reckoner T.na_Reckoner_labels (vv 0)) AB)) AB))) (by kernel_rfl) rfl rfl (by kernel_rfl) (fun c=>AS (i:=0) (show(["label","self"]:List Str).Nodup by decide +kernel) rfl (by right)) (Ah (by decide)) (fun c=>Ar) (fun c=>(AJ G_z34 hr_z34 rfl T.m_z34 T.F_z34.kp T.b_z34 .nil AG (AA (AJ G_z29 hr_z29 rfl T.m_z29 T.F_z29.kp T.b_z29 .nil AG (AA (vv 0) (AA (B8 T.cl_Reckoner T.na_Reckoner_labels (vv 1)) AB))) AB))))) (@AH _ _ _ (FC T.cl_Reckoner T.na_Reckoner_known (vv 0) Kn))))),?_⟩;refine⟨_,.ref tl,.inr g.two,rfl,_,.inr ⟨g.lab,dx,_,hp,(show 0 < 1000 by decide),?_⟩⟩;have f1:Frm p H (upd H p (.ins T.C_Reckoner dx (Al "labels" (.ref tl) []))):=Frm.updT;have hp1:upd H p (.ins T.C_Reckoner dx (Al "labels" (.ref tl) [])) p=some (.ins T.C_Reckoner dx [("labels",.ref tl)]):=by rw[pf1];exact AD
 have g1:=g.frm f1 hp Et;generalize upd H p (.ins T.C_Reckoner dx (Al "labels" (.ref tl) []))=H1 at *
 -- the rows
 refine⟨_,.ref rl,.inr g1.two,rfl,.inr ⟨⟨_,g1.rows⟩,?_⟩⟩
 refine CG (xs:=ps.map V.ref) (fun k zs H'=>Same H1 H'/\zs=iL ((rs.take k).map AO)) ⟨Same.refl _,rfl⟩ (fun k zs H' _ ⟨s,_⟩=>s.sqT g1.rows) (fun k zs H' hk ⟨_,e⟩=>by
  rw[ZC]at hk;rw[e,Aj,ZC,Ze];exact Af (by lia)) ?_ ?_
 ·rintro k x zs H' hx ⟨s1,rfl⟩;rw[ZR]at hx;cases e0:ps[k]? with
  | none=>rw[e0]at hx;cases hx
  | some b =>
   rw[e0]at hx;cases hx;have hk:k < rs.length:=by rw[<- hpl];exact(Zm.mp e0).1
   have er:rs[k]? = some rs[k]:=ZE hk;have hrow:=G.row _ (Zo hk);refine⟨rs[k],s1.sqT (g1.row k b _ e0 er),by lia,fun l H2 hl s2 g2=>?_⟩;refine⟨_,.inl (.of g2),by have:=Fp (rs[k].map (· == true)) rs[k].length;lia,fun t ht=>by have:=Es ht;lia,fun H3 s3=>?_⟩;refine⟨s1.trans (s2.trans s3),?_⟩;rw[Zx,er,ZM,Bc];rfl
 rintro zs H2' ⟨s1,rfl⟩ yl hyl;rw[ZC,hpl,ZBE];have s2:Same H1 (upd H2' yl (.lst (iL (rs.map AO)))):=s1.trans (Same.upd hyl);have gy2:upd H2' yl (.lst (iL (rs.map AO))) yl=some (.lst (iL (rs.map AO))):=AD;generalize upd H2' yl (.lst (iL (rs.map AO)))=H2 at *;have hp2:=s2 _ _ hp1;have ny:yl≠p:=Av gy2 hp2 (by intro z;cases z);refine⟨dx,_,hp2,(show 1 < 1000 by decide),?_⟩;have f3:Frm p H2 (upd H2 p (.ins T.C_Reckoner dx (Al "yeses" (.ref yl) [("labels",.ref tl)]))):=Frm.updT;have hp3:upd H2 p (.ins T.C_Reckoner dx (Al "yeses" (.ref yl) [("labels",.ref tl)])) p=some (.ins T.C_Reckoner dx [("labels",.ref tl),("yeses",.ref yl)]):=by rw[pf2];exact AD
 have g3:=(g1.same s2).frm f3 hp2 Et;have gy3:=f3 _ _ ny gy2;have F3:Frm p H (upd H2 p (.ins T.C_Reckoner dx (Al "yeses" (.ref yl) [("labels",.ref tl)]))):=f1.trans ((At s2).trans f3);generalize upd H2 p (.ins T.C_Reckoner dx (Al "yeses" (.ref yl) [("labels",.ref tl)]))=H3 at *
 -- the labels
 refine⟨dx,_,.ref tl,hp3,by rfl,ls,g3.lab,by lia,fun ds qs nd hmem hqs=>?_⟩;have hdl:ds.length<=ls.length:=HY nd fun z hz=>(hmem z).mp hz
 refine⟨ds,AD,by lia,fun ms l2 hml hmm _ hl2=>.inl ⟨⟨_,.of AD⟩,?_⟩⟩;have s4:Same H3 (upd (upd H3 qs (.ext (CZ P w qs ds))) l2 (.lst (ms.map V.int))):=(Same.upd hqs).trans (Same.upd hl2);have gl4:upd (upd H3 qs (.ext (CZ P w qs ds))) l2 (.lst (ms.map V.int)) l2=some (.lst (ms.map V.int)):=AD;generalize upd (upd H3 qs (.ext (CZ P w qs ds))) l2 (.lst (ms.map V.int))=H4 at *;have g4:=g3.same s4;have hp4:=s4 _ _ hp3
 refine DJ (xs:=ms.map V.int) (fun k zs H'=>Same H4 H'/\zs=iL ((ms.take k).map (Cn ls))) ⟨Same.refl _,rfl⟩ (fun k zs H' _ ⟨s,_⟩=>s.sqL (.of gl4)) (fun k zs H' hk ⟨_,e⟩=>by
  rw[ZC]at hk;rw[e,Aj,ZC,Ze];exact Af (by lia)) ?_ ?_
 ·rintro k x zs H' hx ⟨s5,rfl⟩;rw[ZR]at hx;cases e0:ms[k]? with
  | none=>rw[e0]at hx;cases hx
  | some z =>
   rw[e0]at hx;cases hx;refine⟨dx,_,.ref tl,s5 _ _ hp4,by rfl,ls,s5.sqT g4.lab,by lia,fun l H2 hl s6 g2=>?_⟩;refine⟨_,.inl (.of g2),by have:=Fp (ls.map (· == z)) ls.length;lia,fun t ht=>by have:=Es ht;lia,fun H3 s7=>?_⟩;refine⟨s5.trans (s6.trans s7),?_⟩;rw[Zx,e0,ZM,Bc];rfl
 rintro zs H5' ⟨s5,rfl⟩ al hal;rw[ZC,ZBE];have s6:Same H4 (upd H5' al (.lst (iL (ms.map (Cn ls))))):=s5.trans (Same.upd hal);have ga6:upd H5' al (.lst (iL (ms.map (Cn ls)))) al=some (.lst (iL (ms.map (Cn ls)))):=AD;generalize upd H5' al (.lst (iL (ms.map (Cn ls))))=H6 at *;have hp6:=s6 _ _ hp4;have na:al≠p:=Av ga6 hp6 (by intro z;cases z);refine⟨dx,_,hp6,(show 2 < 1000 by decide),?_⟩;have f7:Frm p H6 (upd H6 p (.ins T.C_Reckoner dx (Al "alike" (.ref al) [("labels",.ref tl),("yeses",.ref yl)]))):=Frm.updT;have hp7:upd H6 p (.ins T.C_Reckoner dx (Al "alike" (.ref al) [("labels",.ref tl),("yeses",.ref yl)])) p=some (.ins T.C_Reckoner dx [("labels",.ref tl),("yeses",.ref yl),("alike",.ref al)]):=by rw[pf3];exact AD
 have g7:=(g4.same s6).frm f7 hp6 Et;have gy7:=f7 _ _ ny (s6 _ _ (s4 _ _ gy3));have ga7:=f7 _ _ na ga6;have F7:Frm p H (upd H6 p (.ins T.C_Reckoner dx (Al "alike" (.ref al) [("labels",.ref tl),("yeses",.ref yl)]))):=F3.trans ((At s4).trans ((At s6).trans f7));generalize upd H6 p (.ins T.C_Reckoner dx (Al "alike" (.ref al) [("labels",.ref tl),("yeses",.ref yl)]))=H7 at *
 -- nothing known yet
 intro d hd;have s8:Same H7 (upd H7 d (.dK [])):=Same.upd hd;have nd8:d≠p:=fun e=>by rw[e,hp7]at hd;cases hd
 have gd8:upd H7 d (.dK []) d=some (.dK []):=AD
 have hd0:H d=none:=by
  cases e:H d with
  | none=>rfl
  | some o=>rw[F7 d o nd8 e]at hd;cases hd
 generalize upd H7 d (.dK [])=H8 at *;have hp8:=s8 _ _ hp7;refine⟨dx,_,hp8,(show 3 < 1000 by decide),?_⟩;have f9:Frm p H8 (upd H8 p (.ins T.C_Reckoner dx (Al "known" (.ref d) [("labels",.ref tl),("yeses",.ref yl),("alike",.ref al)]))):=Frm.updT;have hp9:upd H8 p (.ins T.C_Reckoner dx (Al "known" (.ref d) [("labels",.ref tl),("yeses",.ref yl),("alike",.ref al)])) p=some (.ins T.C_Reckoner dx (BI (.ref tl) (.ref yl) (.ref al) (.ref d))):=by rw[pf4];exact AD
 refine q d _ hd0 ⟨⟨dx,tl,yl,al,_,[],hp9,((g7.same s8).frm f9 hp8 Et).lab,f9 _ _ ny (s8 _ _ gy7),f9 _ _ na (s8 _ _ ga7),f9 _ _ nd8 gd8,by rw[ZC];lia,Pw l1 (fun z=>by rw[hmm z,hmem z]),⟨by simp,fun e he=>by simp at he⟩⟩,l16,by rw[ZC];exact r16⟩ (F7.trans ((At s8).trans f9))
theorem DE(N:Nat)(S:Nat->Bool):An N S<=N:=by
 unfold An
 have:=ZBj S (List.range N)
 rw[Zw]at this;exact this
def DT(rs:List (List Bool))(k:Nat):List Bool:=rs.map fun r=>gB r k
def B9(rs:List (List Bool))(n:Nat):List Dv:=(List.range n).map fun k=>.lst ((DT rs k).map Dv.bl)
def BZ(ls:List Int)(rs:List (List Bool))(i j:Nat):Prop:=i < j/\j < ls.length/\AE ls i≠AE ls j/\DT rs i=DT rs j
def CO(ls:List Int)(rs:List (List Bool))(i j:Nat):Prop:=BZ ls rs i j/\∀i' j',BZ ls rs i' j'->i < i'\/i=i'/\j<=j'
def BP(ls:List Int)(rs:List (List Bool)):Prop:=∀i j,¬BZ ls rs i j
theorem No:∀as bs:List Bool,BF (as.map Dv.bl) (bs.map Dv.bl)=true->as=bs
 | [],[],_=>rfl
 | [],u::us,h=>by simp[BF]at h
 | t::ts,[],h=>by simp[BF]at h
 | t::ts,u::us,h=>by
  rw[Zi,Zi,BF,eqD,Zb,beq_iff_eq]at h;rw[h.1,No ts us h.2]
theorem K0(a b:List Bool):eqD (.lst (a.map Dv.bl)) (.lst (b.map Dv.bl))=decide (a=b):=by
 rw[EF,Z7,decide_eq_true_eq];exact⟨No a b,fun e=>by rw[e];exact GB _⟩
theorem Lo(rs:List (List Bool))(n:Nat):B9 rs (n+1)=B9 rs n++[.lst ((DT rs n).map Dv.bl)]:=by unfold B9;rw[ZBR,ZM];rfl
theorem Eg(rs:List (List Bool))(n:Nat):(B9 rs n).length=n:=by unfold B9;rw[ZC,Zw]
theorem Fe(rs:List (List Bool))(h:k < n):(B9 rs n)[k]? = some (.lst ((DT rs k).map Dv.bl)):=by unfold B9;rw[ZR,List.getElem?_range h];rfl
theorem Cc(h:i < ls.length):atI (ls.map V.int) ((i:Nat):Int)=some (.int (AE ls i)):=by
 refine A2 rfl ?_;rw[ZR,ZE h];unfold AE;rw[ZY,ZE h];rfl
def CM(K:W.Frag):Sp:=fun vs H Q _=>match vs with
 | [v]=>∃ls rs,Rep K H (gmD ls rs) v/\Gm ls rs/\(∀H',Same H H'->BP ls rs->Q .non H')/\∀(i j:Nat) t H',CO ls rs i j->H t=none->Same H H'->H' t=some (.tup [.int (i:Nat),.int (j:Nat)])->Q (.ref t) H'
 | _=>False
theorem Lr:Ai (CM K):=fun vs H Q Q' E h q=>by
 unfold CM at *;split at q
 ·obtain⟨ls,rs,h1,h2,q1,q2⟩:=q;exact⟨ls,rs,h1,h2,fun H' x y=>h _ _ (q1 H' x y),fun i j t H' x1 x2 x3 x4=>h _ _ (q2 i j t H' x1 x2 x3 x4)⟩
 ·exact q.elim
theorem N3{rl:Addr}(g:GmAt K H ls rs a tl rl ps)(G:Gm ls rs)(hk:k < ls.length){q:Addr}(hj:ps[j]? = some q) :
 ∃r,rs[j]? = some r/\SqT K H q (r.map V.bl)/\atI (r.map V.bl) ((k:Nat):Int)=some (.bl (gB r k)):=by
 have hj':j < rs.length:=by rw[<- g.len];exact(Zm.mp hj).1
 have er:rs[j]? = some rs[j]:=ZE hj';exact⟨rs[j],er,g.row j q _ hj er,LC (by rw[G.row _ (Zo hj')];exact hk)⟩
theorem LB{x:V}(h:(ps.map V.ref)[k]? = some x):∃q,ps[k]? = some q/\x=.ref q:=by
 rw[ZR]at h;cases e:ps[k]? with
 | none=>rw[e]at h;cases h
 | some q=>rw[e]at h;cases h;exact⟨q,rfl,rfl⟩
theorem Vx:FnOk P w K mg base CX0 1 T.f_z27 T.d_z27 ["game"] (CM K):=by
 refine T.F_z27.ok sc_z27 (fun vs H Q E h=>by unfold CM at h;split at h <;> first | rfl | exact h.elim) (fun cdv A outer s H vs Q E hr h=>?_);have hu:=Aa hr;unfold CM at h;split at h;rotate_left
 ·exact h.elim
 rename_i v;obtain⟨ls,rs,hv,G,q1,q2⟩:=h;obtain⟨a,tl,rl,ps,rfl,g⟩:=CU hv;have l16:=G.l16;have r16:=G.r16;refine⟨_,(@AF _ _ _ _ _ (@AQ _ _ 1 _ _ _ _ sc_z27.nd rfl (by right) (kIx (K:=K) (vv 0) AC) (by rfl) (by symm)) (@AF _ _ _ _ _ (@Df _ _ _ _ _ _ _ (["thing","game"]) 1 [0] _ _ _ _ 2 _ _ _ rfl sc_z27.nd rfl rfl (Aw rfl T.z_range (AA (AU (Ay (K:=K)) rfl T.z_len (by rfl) (AA (vv 1) AB)) AB)) (by kernel_rfl) rfl rfl (by kernel_rfl) (fun c=>AS (i:=0) (show(["thing","game"]:List Str).Nodup by decide +kernel) rfl (by right)) (Ah (by decide)) (fun c=>Ar) (fun c=>(@Aq _ _ _ _ _ _ _ (["row","thing"]) 1 [0] _ _ _ _ rfl (BA (K:=K) (kIx (K:=K) (vv 1) AC)) (by kernel_rfl) rfl rfl (by kernel_rfl) (fun c=>AS (i:=0) (show(["row","thing"]:List Str).Nodup by decide +kernel) rfl (by right)) (Ah (by decide)) (fun c=>Ar) (fun c=>(kIx (K:=K) (vv 0) (vv 1))) (by intro _;rfl))) (by rfl) (by intro _;rfl)) (@AF _ _ _ _ _ (@BK _ _ _ _ _ _ _ _ PassesOwn.never rfl (Aw rfl T.z_range (AA (AU (Ay (K:=K)) rfl T.z_len (by rfl) (AA (vv 1) AB)) AB)) (AS (i:=3) sc_z27.nd rfl (by right)) (@AH _ _ _ (@BK _ _ _ _ _ _ _ _ PassesOwn.never rfl (Ie rfl T.z_range (AA (AR (BB (K:=K)) (vv 3) AC) (AA (AU (Ay (K:=K)) rfl T.z_len (by rfl) (AA (vv 1) AB)) AB))) (AS (i:=4) sc_z27.nd rfl (by right)) (@AH _ _ _ (@Ap _ _ _ _ _ _ _ _ (PW.pt (Cg (AW (kNe (K:=K) hu) (kIx (K:=K) (vv 1) (vv 3)) (kIx (K:=K) (vv 1) (vv 4))) (Cq (AW (kEq (K:=K) hu) (kIx (K:=K) (vv 2) (vv 3)) (kIx (K:=K) (vv 2) (vv 4)))))) (@AH _ _ _ (@AM _ _ _ _ (A5 (AA (vv 3) (AA (vv 4) AB))))) Ao)) (by intro _;rfl))) (by intro _;rfl)) (@AH _ _ _ (@AM _ _ _ _ DO))))),?_⟩;refine⟨_,.ref tl,.inr g.two,rfl,?_⟩;dsimp only[AT];refine Ad (fun σ H'=>∃(l:Addr) (xs:List V),σ=[some (.ref a),some (.ref tl),some (.ref l),none,none]/\Same H H'/\H' l=some (.lst xs)/\Reps K H' (B9 rs ls.length) xs) ?_ ?_ (by walk_at "sm")
 ·refine⟨ls.length,.inr ⟨_,g.lab,by rw[ZC]⟩,(ls.length:Int),rfl,by lia,by lia,?_⟩;rw[Zc];refine BQ (fun k ys H'=>Same H H'/\Reps K H' (B9 rs k) ys) ⟨Same.refl _,AV⟩ (fun k ys H' hk ⟨_,R⟩=>by rw[<- R.length,Eg];exact Af (by lia)) ?_ ?_
  ·rintro k ys H1 hk ⟨s1,R1⟩;have g1:=g.same s1;have e0:(0:Int)+(k:Int)=((k:Nat):Int):=by lia
   rw[e0];refine⟨_,.ref rl,.inr g1.two,rfl,.inr ⟨⟨_,g1.rows⟩,?_⟩⟩
   refine CG (xs:=ps.map V.ref) (fun j zs H'=>H'=H1/\zs=((rs.take j).map fun r=>gB r k).map V.bl) ⟨rfl,rfl⟩ (fun j zs H' _ ⟨e,_⟩=>by rw[e];exact g1.rows) (fun j zs H' hj ⟨_,e⟩=>by
    rw[ZC,g1.len]at hj;rw[e,ZC,ZC,Ze];exact Af (by lia)) ?_ ?_
   ·rintro j x zs H' hx ⟨rfl,rfl⟩;obtain⟨b,hb,rfl⟩:=LB hx;obtain⟨r,er,hs,ha⟩:=N3 g1 G hk hb;refine⟨_,.bl (gB r k),.inr hs,ha,rfl,?_⟩;rw[Zx,er,ZM,ZM];rfl
   ·rintro zs H' ⟨rfl,rfl⟩ l hl;rw[ZC,g1.len,ZBE];have s2:Same H' (upd H' l (.lst ((rs.map fun r=>gB r k).map V.bl))):=Same.upd hl;refine⟨s1.trans s2,?_⟩;rw[Lo];exact Reps.append (Reps.same s2 _ _ R1) (AN (by unfold Rep;exact⟨l,_,rfl,.of AD,Bv _⟩) AV)
  ·rintro ys H1 ⟨s1,R1⟩ l hl;have s2:Same H1 (upd H1 l (.lst ys)):=Same.upd hl;exact⟨l,ys,rfl,s1.trans s2,AD,Reps.same s2 _ _ R1⟩
 rintro σ H1 ⟨l,xs,rfl,s1,gl,R⟩;have g1:=g.same s1;refine Ad (fun σ H'=>H'=H1/\(∃x y,σ=[some (.ref a),some (.ref tl),some (.ref l),x,y])/\BP ls rs) ?_ ?_ (by walk_at "sm");rotate_left
 ·rintro σ H' ⟨rfl,⟨x,y,rfl⟩,he⟩;exact q1 _ s1 he
 refine⟨ls.length,.inr ⟨_,g1.lab,by rw[ZC]⟩,(ls.length:Int),rfl,by lia,by lia,?_⟩;rw[Zc];refine Bk (fun k σ H'=>H'=H1/\(∃x y,σ=[some (.ref a),some (.ref tl),some (.ref l),x,y])/\∀i' j',i' < k->¬BZ ls rs i' j') ⟨rfl,⟨none,none,rfl⟩,fun i' j' h=>absurd h (ZBQ _)⟩ ?_ ?_;rotate_left
 ·rintro σ H' ⟨rfl,hσ,h⟩;exact⟨rfl,hσ,fun i j hb=>h i j (by have:=hb.1;have:=hb.2.1;lia) hb⟩
 rintro i σ H' hi ⟨rfl,⟨x,y,rfl⟩,hno⟩;have e0:(0:Int)+(i:Int)=((i:Nat):Int):=by lia
 rw[e0];refine⟨ls.length,.inr ⟨_,g1.lab,by rw[ZC]⟩,((i:Int)+1),(ls.length:Int),rfl,⟨by lia,by lia,by lia,by lia⟩,?_⟩;obtain⟨W,hW⟩:∃W:Nat,((ls.length:Int) - ((i:Int)+1)).toNat=W:=⟨_,rfl⟩;rw[hW];refine Bk (fun k σ H2=>H2=H'/\(∃y,σ=[some (.ref a),some (.ref tl),some (.ref l),some (.int (i:Nat)),y])/\∀j',j' < i+1+k->¬BZ ls rs i j') ⟨rfl,⟨y,rfl⟩,fun j' h hb=>by have:=hb.1;lia⟩ ?_ ?_;rotate_left
 ·rintro σ H2 ⟨rfl,⟨y,rfl⟩,h⟩;refine⟨rfl,⟨_,y,rfl⟩,fun i' j' hi' hb=>?_⟩
  rcases Zu i' i with z | z
  ·exact hno i' j' z hb
  ·have:i'=i:=by lia
   subst this;exact h j' (by have:=hb.2.1;lia) hb
 rintro k σ H2 hk ⟨rfl,⟨y,rfl⟩,hno2⟩;have e1:(i:Int)+1+(k:Int)=((i+1+k:Nat):Int):=by lia
 rw[e1];have hj:i+1+k < ls.length:=by lia
 have next:¬BZ ls rs i (i+1+k)->∀j',j' < i+1+(k+1)->¬BZ ls rs i j':=fun h j' hj'=>by
  rcases Zu j' (i+1+k) with z | z
  ·exact hno2 j' z
  ·have:j'=i+1+k:=by lia
   rw[this];exact h
 refine⟨_,.int (AE ls i),.inr g1.lab,Cc hi,_,.int (AE ls (i+1+k)),.inr g1.lab,Cc hj,?_⟩;refine Ag (fun e=>?_) (fun e=>?_)
 ·have ne:AE ls i≠AE ls (i+1+k):=by simpa using e
  obtain⟨x1,hx1,r1⟩:=R.get (Fe rs hi);obtain⟨x2,hx2,r2⟩:=R.get (Fe rs hj);refine⟨_,x1,.inl (.of gl),A2 rfl hx1,_,x2,.inl (.of gl),A2 rfl hx2,?_⟩;have r1':=r1;have r2':=r2;unfold Rep at r1' r2';obtain⟨b1,_,rfl,_⟩:=r1';obtain⟨b2,_,rfl,_⟩:=r2';refine⟨_,_,r1,r2,by unfold Ac;rw[Ep];lia,?_⟩;rw[K0,Z6];refine Ag (fun e2=>?_) (fun e2=>?_)
  ·have hb:BZ ls rs i (i+1+k):=⟨by lia,hj,ne,ZQ e2⟩;refine⟨smq rfl,fun t ht=>?_⟩;refine q2 i (i+1+k) t _ ⟨hb,fun i' j' hb'=>?_⟩ (s1.free ht) (s1.trans (Same.upd ht)) AD
   rcases Z8 i' i with z | z | z
   ·exact absurd hb' (hno i' j' z)
   ·subst z;exact .inr ⟨rfl,Nat.le_of_not_lt fun w=>hno2 j' w hb'⟩
   ·exact .inl z
  ·exact⟨rfl,⟨_,rfl⟩,next fun hb=>e2 (ZO hb.2.2.2)⟩
 ·have eq:AE ls i=AE ls (i+1+k):=by simpa using e
  exact⟨rfl,⟨_,rfl⟩,next fun hb=>hb.2.2.1 eq⟩
theorem NG:FnOk P w K mg base CX0 1 T.f_z46 T.d_z46 ["_law_game_here"] (CM K):=by
 refine T.F_z46.ok sc_z46 (fun vs H Q E h=>by unfold CM at h;split at h <;> first | rfl | exact h.elim) (fun cdv A outer s H vs Q E hr h=>?_);have hu:=Aa hr;unfold CM at h;split at h;rotate_left
 ·exact h.elim
 rename_i v;obtain⟨ls,rs,hv,G,q1,q2⟩:=h;obtain⟨a,tl,rl,ps,rfl,g⟩:=CU hv;have l16:=G.l16;have r16:=G.r16;refine⟨_,(@AF _ _ _ _ _ (@Df _ _ _ _ _ _ _ (["_law_k","_law_game_here"]) 1 [0] _ _ _ _ 1 _ _ _ rfl sc_z46.nd rfl rfl (Aw rfl T.z_range (AA (AU (Ay (K:=K)) rfl T.z_len (by rfl) (AA (kIx (K:=K) (vv 0) AC) AB)) AB)) (by kernel_rfl) rfl rfl (by kernel_rfl) (fun c=>AS (i:=0) (show(["_law_k","_law_game_here"]:List Str).Nodup by decide +kernel) rfl (by right)) (Ah (by decide)) (fun c=>Ar) (fun c=>(@Aq _ _ _ _ _ _ _ (["_law_row","_law_k"]) 1 [0] _ _ _ _ rfl (BA (K:=K) (kIx (K:=K) (vv 1) AC)) (by kernel_rfl) rfl rfl (by kernel_rfl) (fun c=>AS (i:=0) (show(["_law_row","_law_k"]:List Str).Nodup by decide +kernel) rfl (by right)) (Ah (by decide)) (fun c=>Ar) (fun c=>(kIx (K:=K) (vv 0) (vv 1))) (by intro _;rfl))) (by rfl) (by intro _;rfl)) (@AF _ _ _ _ _ (@BK _ _ _ _ _ _ _ _ PassesOwn.never rfl (Aw rfl T.z_range (AA (AU (Ay (K:=K)) rfl T.z_len (by rfl) (AA (vv 1) AB)) AB)) (AS (i:=2) sc_z46.nd rfl (by right)) (@AH _ _ _ (@BK _ _ _ _ _ _ _ _ PassesOwn.never rfl (Ie rfl T.z_range (AA (AR (BB (K:=K)) (vv 2) AC) (AA (AU (Ay (K:=K)) rfl T.z_len (by rfl) (AA (vv 1) AB)) AB))) (AS (i:=3) sc_z46.nd rfl (by right)) (@AH _ _ _ (@Ap _ _ _ _ _ _ _ _ (PW.pt (Cg (AW (kEq (K:=K) hu) (kIx (K:=K) (vv 1) (vv 2)) (kIx (K:=K) (vv 1) (vv 3))) (Cq (AW (kNe (K:=K) hu) (kIx (K:=K) (kIx (K:=K) (vv 0) AC) (vv 2)) (kIx (K:=K) (kIx (K:=K) (vv 0) AC) (vv 3)))))) (@AH _ _ _ (@AM _ _ _ _ (A5 (AA (vv 2) (AA (vv 3) AB))))) Ao)) (by intro _;rfl))) (by intro _;rfl)) (@AH _ _ _ (@AM _ _ _ _ DO)))),?_⟩;refine Ad (fun σ H'=>∃(l:Addr) (xs:List V),σ=[some (.ref a),some (.ref l),none,none]/\Same H H'/\H' l=some (.lst xs)/\Reps K H' (B9 rs ls.length) xs) ?_ ?_ (by walk_at "sm")
 ·refine⟨_,.ref tl,.inr g.two,rfl,ls.length,.inr ⟨_,g.lab,by rw[ZC]⟩,(ls.length:Int),rfl,by lia,by lia,?_⟩;rw[Zc];refine BQ (fun k ys H'=>Same H H'/\Reps K H' (B9 rs k) ys) ⟨Same.refl _,AV⟩ (fun k ys H' hk ⟨_,R⟩=>by rw[<- R.length,Eg];exact Af (by lia)) ?_ ?_
  ·rintro k ys H1 hk ⟨s1,R1⟩;have g1:=g.same s1;have e0:(0:Int)+(k:Int)=((k:Nat):Int):=by lia
   rw[e0];refine⟨_,.ref rl,.inr g1.two,rfl,.inr ⟨⟨_,g1.rows⟩,?_⟩⟩
   refine CG (xs:=ps.map V.ref) (fun j zs H'=>H'=H1/\zs=((rs.take j).map fun r=>gB r k).map V.bl) ⟨rfl,rfl⟩ (fun j zs H' _ ⟨e,_⟩=>by rw[e];exact g1.rows) (fun j zs H' hj ⟨_,e⟩=>by
    rw[ZC,g1.len]at hj;rw[e,ZC,ZC,Ze];exact Af (by lia)) ?_ ?_
   ·rintro j x zs H' hx ⟨rfl,rfl⟩;obtain⟨b,hb,rfl⟩:=LB hx;obtain⟨r,er,hs,ha⟩:=N3 g1 G hk hb;refine⟨_,.bl (gB r k),.inr hs,ha,rfl,?_⟩;rw[Zx,er,ZM,ZM];rfl
   ·rintro zs H' ⟨rfl,rfl⟩ l hl;rw[ZC,g1.len,ZBE];have s2:Same H' (upd H' l (.lst ((rs.map fun r=>gB r k).map V.bl))):=Same.upd hl;refine⟨s1.trans s2,?_⟩;rw[Lo];exact Reps.append (Reps.same s2 _ _ R1) (AN (by unfold Rep;exact⟨l,_,rfl,.of AD,Bv _⟩) AV)
  ·rintro ys H1 ⟨s1,R1⟩ l hl;have s2:Same H1 (upd H1 l (.lst ys)):=Same.upd hl;exact⟨l,ys,rfl,s1.trans s2,AD,Reps.same s2 _ _ R1⟩
 rintro σ H1 ⟨l,xs,rfl,s1,gl,R⟩;have g1:=g.same s1;refine Ad (fun σ H'=>H'=H1/\(∃x y,σ=[some (.ref a),some (.ref l),x,y])/\BP ls rs) ?_ ?_ (by walk_at "sm");rotate_left
 ·rintro σ H' ⟨rfl,⟨x,y,rfl⟩,he⟩;exact q1 _ s1 he
 refine⟨ls.length,.inl ⟨_,.of gl,by rw[<- R.length,Eg]⟩,(ls.length:Int),rfl,by lia,by lia,?_⟩;rw[Zc];refine Bk (fun k σ H'=>H'=H1/\(∃x y,σ=[some (.ref a),some (.ref l),x,y])/\∀i' j',i' < k->¬BZ ls rs i' j') ⟨rfl,⟨none,none,rfl⟩,fun i' j' h=>absurd h (ZBQ _)⟩ ?_ ?_;rotate_left
 ·rintro σ H' ⟨rfl,hσ,h⟩;exact⟨rfl,hσ,fun i j hb=>h i j (by have:=hb.1;have:=hb.2.1;lia) hb⟩
 rintro i σ H' hi ⟨rfl,⟨x,y,rfl⟩,hno⟩;have e0:(0:Int)+(i:Int)=((i:Nat):Int):=by lia
 rw[e0];refine⟨ls.length,.inl ⟨_,.of gl,by rw[<- R.length,Eg]⟩,((i:Int)+1),(ls.length:Int),rfl,⟨by lia,by lia,by lia,by lia⟩,?_⟩;obtain⟨W,hW⟩:∃W:Nat,((ls.length:Int) - ((i:Int)+1)).toNat=W:=⟨_,rfl⟩;rw[hW];refine Bk (fun k σ H2=>H2=H'/\(∃y,σ=[some (.ref a),some (.ref l),some (.int (i:Nat)),y])/\∀j',j' < i+1+k->¬BZ ls rs i j') ⟨rfl,⟨y,rfl⟩,fun j' h hb=>by have:=hb.1;lia⟩ ?_ ?_;rotate_left
 ·rintro σ H2 ⟨rfl,⟨y,rfl⟩,h⟩;refine⟨rfl,⟨_,y,rfl⟩,fun i' j' hi' hb=>?_⟩
  rcases Zu i' i with z | z
  ·exact hno i' j' z hb
  ·have:i'=i:=by lia
   subst this;exact h j' (by have:=hb.2.1;lia) hb
 rintro k σ H2 hk ⟨rfl,⟨y,rfl⟩,hno2⟩;have e1:(i:Int)+1+(k:Int)=((i+1+k:Nat):Int):=by lia
 rw[e1];have hj:i+1+k < ls.length:=by lia
 have next:¬BZ ls rs i (i+1+k)->∀j',j' < i+1+(k+1)->¬BZ ls rs i j':=fun h j' hj'=>by
  rcases Zu j' (i+1+k) with z | z
  ·exact hno2 j' z
  ·have:j'=i+1+k:=by lia
   rw[this];exact h
 obtain⟨x1,hx1,r1⟩:=R.get (Fe rs hi);obtain⟨x2,hx2,r2⟩:=R.get (Fe rs hj);refine⟨_,x1,.inl (.of gl),A2 rfl hx1,_,x2,.inl (.of gl),A2 rfl hx2,?_⟩;have r1':=r1;have r2':=r2;unfold Rep at r1' r2';obtain⟨b1,_,rfl,_⟩:=r1';obtain⟨b2,_,rfl,_⟩:=r2';refine⟨_,_,r1,r2,by unfold Ac;rw[Ep];lia,?_⟩;rw[K0,Z6];refine Ag (fun e2=>?_) (fun e2=>?_)
 ·refine⟨_,.ref tl,.inr g1.two,rfl,_,.int (AE ls i),.inr g1.lab,Cc hi,_,.ref tl,.inr g1.two,rfl,_,.int (AE ls (i+1+k)),.inr g1.lab,Cc hj,?_⟩;refine Ag (fun e=>?_) (fun e=>?_)
  ·have ne:AE ls i≠AE ls (i+1+k):=by simpa using e
   have hb:BZ ls rs i (i+1+k):=⟨by lia,hj,ne,ZQ e2⟩;refine⟨smq rfl,fun t ht=>?_⟩;refine q2 i (i+1+k) t _ ⟨hb,fun i' j' hb'=>?_⟩ (s1.free ht) (s1.trans (Same.upd ht)) AD
   rcases Z8 i' i with z | z | z
   ·exact absurd hb' (hno i' j' z)
   ·subst z;exact .inr ⟨rfl,Nat.le_of_not_lt fun w=>hno2 j' w hb'⟩
   ·exact .inl z
  ·have eq:AE ls i=AE ls (i+1+k):=by simpa using e
   exact⟨rfl,⟨_,rfl⟩,next fun hb=>hb.2.2.1 eq⟩
 ·exact⟨rfl,⟨_,rfl⟩,next fun hb=>e2 (ZO hb.2.2.2)⟩
noncomputable def CS(ls:List Int)(rs:List (List Bool)):Nat->Bool:=fun j=>by classical exact decide (∃i,BZ ls rs i j)
theorem badS_iff:CS ls rs j=true ↔ ∃i,BZ ls rs i j:=by unfold CS;simp
theorem VZ{S S':Nat->Bool}(h:∀k,S' k=true->S k=true):An N S'<=An N S:=by
 induction N with
 | zero=>exact ZD _
 | succ N ih =>
  rw[EV,EV];cases e:S' N with
  | false=>simp;lia
  | true=>rw[h N e];simp;lia
theorem Sd(hj:j < ls.length)(x:Int)(k:Nat):AE (ls.set j x) k=if k=j then x else AE ls k:=by
 unfold AE;rw[ZY,ZY,List.getElem?_set]
 by_cases e:j=k
 ·subst e;simp[hj]
 ·simp[e,Ne.symm e]
theorem OC(h:CO ls rs i j):An ls.length (CS (ls.set j (AE ls i)) rs) < An ls.length (CS ls rs):=by
 obtain⟨⟨h1,h2,h3,h4⟩,h5⟩:=h;have hl:=Sd h2 (AE ls i);have len:(ls.set j (AE ls i)).length=ls.length:=ZBW
 have key:∀j',CS (ls.set j (AE ls i)) rs j'=true->(CS ls rs j' && !(j' == j))=true:=by
  intro j' hb;obtain⟨i',b1,b2,b3,b4⟩:=badS_iff.mp hb;rw[len]at b2;rw[hl,hl]at b3
  have hne:j'≠j:=by
   intro e;subst e;rw[if_neg (show i'≠j' by lia),if_pos rfl]at b3
   rcases Z8 i' i with z | z | z
   ·rcases h5 i' i ⟨z,by lia,b3,b4.trans h4.symm⟩ with y | y
    ·lia
    ·lia
   ·subst z;exact b3 rfl
   ·rcases h5 i i' ⟨z,by lia,Ne.symm b3,h4.trans b4.symm⟩ with y | y
    ·lia
    ·lia
  rw[if_neg hne]at b3
  have:CS ls rs j'=true:=by
   by_cases e:i'=j
   ·subst e;rw[if_pos rfl]at b3;exact badS_iff.mpr ⟨i,by lia,b2,b3,h4.trans b4⟩
   ·rw[if_neg e]at b3;exact badS_iff.mpr ⟨i',b1,b2,b3,b4⟩
  rw[this];simpa using hne
 have c1:=VZ (N:=ls.length) key;have c2:=Fa ls.length (CS ls rs) (fun k=>k == j);have c3:=DR (S:=fun k=>CS ls rs k && k == j) h2 (by rw[badS_iff.mpr ⟨i,h1,h2,h3,h4⟩];simp);lia
theorem Gm.set(G:Gm ls rs)(j:Nat)(hi:i < ls.length):Gm (ls.set j (AE ls i)) rs:=by
 refine⟨by rw[ZBW];exact G.l1,by rw[ZBW];exact G.l16,G.r1,G.r16,fun r hr=>by rw[ZBW];exact G.row r hr,fun x hx=>?_⟩
 rcases List.mem_or_eq_of_mem_set hx with h | h
 ·exact G.sm x h
 ·rw[h];unfold AE;rw[ZY,ZE hi];exact G.sm _ (Zo hi)
def Dm(K:W.Frag):Sp:=fun vs H Q _=>match vs with
 | [v]=>∃ls rs,Rep K H (gmD ls rs) v/\Gm ls rs/\∀ls' u H',Same H H'->Gm ls' rs->BP ls' rs->Rep K H' (gmD ls' rs) u->Q u H'
 | _=>False
theorem US:Ai (Dm K):=fun vs H Q Q' E h q=>by
 unfold Dm at *;split at q
 ·revert q;repeat' first | exact h _ _ | exact B3 h | exact out_mono h | exact outT_mono h | walk_at "m"
 ·exact q.elim
theorem Kv{x2:V}(h:H t=some (.tup [.ref tl,x2]))(h1:SqT K H tl (ls.map V.int))(h2:Rep K H (.tup (Ae rs)) x2):Rep K H (gmD ls rs) (.ref t) :=
 A0 (.of h) (AN (A0 h1 (FY ls)) (AN h2 AV))
theorem UU:FnOk P w K mg base CX0 2 T.f_z32 T.d_z32 ["_law_game_here"] (Dm K):=by
 have G_z46:=@NG P w K mg base T;refine T.F_z32.ok sc_z32 (fun vs H Q E h=>by unfold Dm at h;split at h <;> first | rfl | exact h.elim) (fun cdv A outer s H vs Q E hr h=>?_);have hu:=Aa hr;have hr_z46:=hr.mono (show 1<=_ by decide);unfold Dm at h;split at h;rotate_left
 ·exact h.elim
 rename_i v;obtain⟨ls,rs,hv,G,q⟩:=h;obtain⟨a,x1,x2,rfl,hs2,hx1,hx2⟩:=Js hv;obtain⟨tl,zs,rfl,hlab,hz⟩:=Ch hx1;obtain rfl:=Hr hz;have mono1:Ai (CM K):=Lr;refine⟨_,(@AF _ _ _ _ _ (@AQ _ _ 1 _ _ _ _ sc_z32.nd rfl (by right) (As (Kq (K:=K)) rfl T.z_list (by rfl) (AA (kIx (K:=K) (vv 0) AC) AB)) (by rfl) (by symm)) (@AF _ _ _ _ _ (@AQ _ _ 2 _ _ _ _ sc_z32.nd rfl (by right) (AJ G_z46 hr_z46 rfl T.m_z46 T.F_z46.kp T.b_z46 .nil AG (AA (vv 0) AB)) (by rfl) (by symm)) (@AF _ _ _ _ _ (@GH _ _ _ _ _ _ PassesOwn.never (AW JY (vv 2) DO) (@AF _ _ _ _ _ (@Dd _ _ _ _ _ _ (kIx (K:=K) (vv 1) (kIx (K:=K) (vv 2) AC)) (Dz (vv 1) (kIx (K:=K) (vv 2) AC) Dq) (by rfl) (by rfl) (by rfl)) (@AH _ _ _ (@AQ _ _ 2 _ _ _ _ sc_z32.nd rfl (by right) (AJ G_z46 hr_z46 rfl T.m_z46 T.F_z46.kp T.b_z46 .nil AG (AA (A5 (AA (As (A7 (K:=K)) rfl T.z_tuple (by rfl) (AA (vv 1) AB)) (AA (kIx (K:=K) (vv 0) AC) AB))) AB)) (by rfl) (by symm))))) (@AH _ _ _ (@AM _ _ _ _ (A5 (AA (As (A7 (K:=K)) rfl T.z_tuple (by rfl) (AA (vv 1) AB)) (AA (kIx (K:=K) (vv 0) AC) AB)))))))),?_⟩;refine⟨_,.ref tl,.inr hs2,rfl,_,.inr hlab,fun l hl=>?_⟩;dsimp only[AT];have s1:Same H (upd H l (.lst (ls.map V.int))):=Same.upd hl;have gl1:upd H l (.lst (ls.map V.int)) l=some (.lst (ls.map V.int)):=AD;generalize upd H l (.lst (ls.map V.int))=H1 at *;refine Ad (fun σ H2=>∃u0,σ=[some (.ref a),some (.ref l),some u0]/\Same H H2/\H2 l=some (.lst (ls.map V.int))/\((u0=.non/\BP ls rs)\/∃(i j:Nat) (t:Addr),u0=.ref t/\CO ls rs i j/\H2 t=some (.tup [.int (i:Nat),.int (j:Nat)]))) ?_ ?_ (by walk_at "sm")
 ·exact⟨ls,rs,Rep.same s1 _ _ hv,G,fun H3 s3 he=>⟨_,rfl,s1.trans s3,s3 _ _ gl1,.inl ⟨rfl,he⟩⟩,fun i j t H3 hf ht s3 gt=>⟨_,rfl,s1.trans s3,s3 _ _ gl1,.inr ⟨i,j,t,rfl,hf,gt⟩⟩⟩
 rintro σ H2 ⟨u0,rfl,s2,gl2,hu2⟩;refine Ad (fun σ H3=>∃(ls1:List Int) (u:V),σ=[some (.ref a),some (.ref l),some u]/\Same H H3/\H3 l=some (.lst (ls1.map V.int))/\Gm ls1 rs/\BP ls1 rs) ?_ ?_ (by walk_at "sm")
 ·refine⟨fun m σ H3=>∃(ls1:List Int) (u:V),σ=[some (.ref a),some (.ref l),some u]/\m=An ls.length (CS ls1 rs)/\Same H H3/\H3 l=some (.lst (ls1.map V.int))/\ls1.length=ls.length/\Gm ls1 rs /\
   ((u=.non/\BP ls1 rs)\/∃(i j:Nat) (t:Addr),u=.ref t/\CO ls1 rs i j/\H3 t=some (.tup [.int (i:Nat),.int (j:Nat)])),⟨_,ls,u0,rfl,rfl,s2,gl2,rfl,G,hu2⟩,?_⟩
  rintro m σ H3 ⟨ls1,u,rfl,rfl,s3,gl3,ll,G1,hu3⟩
  rcases hu3 with ⟨rfl,he⟩ | ⟨i,j,t,rfl,hf,gt⟩
  ·exact⟨ls1,_,rfl,s3,gl3,G1,he⟩
  ·obtain⟨⟨b1,b2,_⟩,_⟩:=id hf;refine⟨_,.int (i:Nat),.inr (.of gt),rfl,_,.int (AE ls1 i),.inl (.of gl3),Cc (by lia),?_⟩;refine⟨_,.int (j:Nat),.inr (.of gt),rfl,_,j,gl3,by rw[ZC];unfold ixN;rw[if_pos (by lia),if_pos (by lia),Zc],?_⟩;rw[<- List.map_set]
   have s4:Same H (upd H3 l (.lst ((ls1.set j (AE ls1 i)).map V.int))):=fun b o e=>by
    rw[AI (BW e hl)];exact s3 _ _ e
   have gl4:upd H3 l (.lst ((ls1.set j (AE ls1 i)).map V.int)) l=some (.lst ((ls1.set j (AE ls1 i)).map V.int)):=AD;generalize upd H3 l (.lst ((ls1.set j (AE ls1 i)).map V.int))=H4 at *;refine⟨_,.inl ⟨.of gl4,fun t1 ht1=>?_⟩⟩;have s5:Same H4 (upd H4 t1 (.tup ((ls1.set j (AE ls1 i)).map V.int))):=Same.upd ht1;have g5:upd H4 t1 (.tup ((ls1.set j (AE ls1 i)).map V.int)) t1=some (.tup ((ls1.set j (AE ls1 i)).map V.int)):=AD;generalize upd H4 t1 (.tup ((ls1.set j (AE ls1 i)).map V.int))=H5 at *;refine⟨_,x2,.inr ((s4.trans s5).sqT hs2),rfl,smq rfl,fun t2 ht2=>?_⟩;have s6:Same H5 (upd H5 t2 (.tup [.ref t1,x2])):=Same.upd ht2;have g6:upd H5 t2 (.tup [.ref t1,x2]) t2=some (.tup [.ref t1,x2]):=AD;generalize upd H5 t2 (.tup [.ref t1,x2])=H6 at *;have S6:=s4.trans (s5.trans s6);have G2:=G1.set j (show i < ls1.length by lia);have less:=OC hf;rw[ll]at less
   exact⟨_,rs,Kv g6 (.of (s6 _ _ g5)) (Rep.same S6 _ _ hx2),G2,fun H7 s7 he=>⟨_,less,_,_,rfl,rfl,S6.trans s7,s7 _ _ (s6 _ _ (s5 _ _ gl4)),by rw[ZBW];exact ll,G2,.inl ⟨rfl,he⟩⟩,
    fun i' j' t' H7 hf' ht' s7 gt'=>⟨_,less,_,_,rfl,rfl,S6.trans s7,s7 _ _ (s6 _ _ (s5 _ _ gl4)),by rw[ZBW];exact ll,G2,.inr ⟨i',j',t',rfl,hf',gt'⟩⟩⟩
 ·rintro σ H3 ⟨ls1,u,rfl,s3,gl3,G1,he⟩;refine⟨_,.inl ⟨.of gl3,fun t1 ht1=>?_⟩⟩;have s5:Same H3 (upd H3 t1 (.tup (ls1.map V.int))):=Same.upd ht1;have g5:upd H3 t1 (.tup (ls1.map V.int)) t1=some (.tup (ls1.map V.int)):=AD;generalize upd H3 t1 (.tup (ls1.map V.int))=H5 at *;refine⟨_,x2,.inr ((s3.trans s5).sqT hs2),rfl,smq rfl,fun t2 ht2=>?_⟩;have s6:Same H5 (upd H5 t2 (.tup [.ref t1,x2])):=Same.upd ht2;have g6:upd H5 t2 (.tup [.ref t1,x2]) t2=some (.tup [.ref t1,x2]):=AD;generalize upd H5 t2 (.tup [.ref t1,x2])=H6 at *;have S6:=s3.trans (s5.trans s6);exact q ls1 _ H6 S6 G1 he (Kv g6 (.of (s6 _ _ g5)) (Rep.same S6 _ _ hx2))
def FrX(X:List Addr)(H H':Hp):Prop:=∀b o,b∉X->H b=some o->H' b=some o
theorem FrX.trans{H1 H2:Hp}(a:FrX X H H1)(b:FrX X H1 H2):FrX X H H2:=fun c o n e=>b c o n (a c o n e)
theorem FrX.same(s:Same H H'):FrX X H H':=fun b o _ e=>s b o e
theorem FrX.frm(f:Frm d H H')(h:d∈X):FrX X H H':=fun b o n e=>f b o (fun z=>n (z ▸ h)) e
theorem FrX.grow(f:Grow d H H')(h:d∈X):FrX X H H':=fun b o n e=>f b o (fun z=>n (z ▸ h)) e
def Oth(X:List Addr)(H:Hp):Prop:=∀x∈X,∃o,H x=some o/\CH o/\∀xs,o≠.lst xs
theorem FrX.lst{X:List Addr}{H H':Hp}(f:FrX X H H')(O:Oth X H){b:Addr}{xs:List V}(e:H b=some (.lst xs)):H' b=some (.lst xs) :=
 f _ _ (fun z=>by obtain⟨o,h1,_,h3⟩:=O b z;rw[e]at h1;exact h3 xs (ZV h1).symm) e
theorem FrX.sqT(f:FrX X H H')(O:Oth X H)(e:SqT K H b xs):SqT K H' b xs:=by
 rcases e with (e | ⟨ob,e⟩) | e
 ·exact .inl (.inl (f _ _ (fun z=>by obtain⟨o,h1,h2,_⟩:=O b z;rw[e]at h1;exact h2.1 xs (ZV h1).symm) e))
 ·exact .inl (.inr ⟨ob,f _ _ (fun z=>by obtain⟨o,h1,h2,_⟩:=O b z;rw[e]at h1;exact h2.2 _ _ (ZV h1).symm) e⟩)
 ·exact .inr e
mutual
theorem Rep.mv(s:∀a xs,SqT K H a xs->SqT K H' a xs):∀(d:Dv) (v:V),A4 d=true->Rep K H d v->Rep K H' d v
 | .non,v,_,h=>by unfold Rep at *;exact h
 | .bl b,v,_,h=>by unfold Rep at *;exact h
 | .int i,v,_,h=>by unfold Rep at *;exact h
 | .str x,v,_,h=>by unfold Rep at *;exact h
 | .tup ds,v,hd,h=>by
  unfold A4 at hd;unfold Rep at *;obtain⟨a,xs,e,h1,h2⟩:=h;exact⟨a,xs,e,s _ _ h1,Reps.mv s ds xs hd h2⟩
 | .lst ds,v,hd,h=>by unfold A4 at hd;cases hd
theorem Reps.mv(s:∀a xs,SqT K H a xs->SqT K H' a xs):∀(ds:List Dv) (xs:List V),Ab ds=true->Reps K H ds xs->Reps K H' ds xs
 | [],xs,_,h=>by unfold Reps at *;exact h
 | d::ds,xs,hd,h=>by
  unfold Ab at hd;rw[Zb]at hd;unfold Reps at *;obtain⟨x,r,e,h1,h2⟩:=h;exact⟨x,r,e,Rep.mv s d x hd.1 h1,Reps.mv s ds r hd.2 h2⟩
end
theorem FrX.rep(f:FrX X H H')(O:Oth X H){d:Dv}(hd:A4 d=true)(h:Rep K H d v):Rep K H' d v:=Rep.mv (fun _ _ e=>f.sqT O e) d v hd h
theorem FrX.feed(f:FrX X H H')(O:Oth X H)(F:GFeed H t N):GFeed H' t N:=by
 obtain⟨l,i,gg,c,ns,h1,h2,h3,h4,h5,h6,h7,h8⟩:=F.at_;exact⟨l,i,gg,c,ns,h1,h2,h3,h4,f.lst O h5,h6,f.lst O h7,h8⟩
theorem Ua(r:RkAt K C ls ys H p d):∃o,H d=some o/\CH o/\∀xs,o≠.lst xs:=by
 obtain⟨dx,tl,yl,al,as,kvs,h1,h2,h3,h4,h5,h6,h7,h8⟩:=r.at_;exact⟨_,h5,HU,fun _ z=>nomatch z⟩
theorem Fg{pos:Pos}(l:Lam Pt pos q H):∃o,H Pt=some o/\CH o/\∀xs,o≠.lst xs:=by
 obtain⟨ps,a,_⟩:=l;exact⟨_,a,⟨(fun _ z=>nomatch z),(fun _ _ z=>nomatch z)⟩,fun _ z=>nomatch z⟩
theorem Fk(h1:∃o,H a=some o/\CH o/\∀xs,o≠.lst xs)(h2:∃o,H b=some o/\CH o/\∀xs,o≠.lst xs):Oth [a,b] H:=fun x hx=>by
 rcases ZF.mp hx with rfl | hx
 ·exact h1
 ·rw[ZJ.mp hx];exact h2
theorem V0{pos:Pos}(l:Lam Pt pos q H)(f:∀b o,(∀ps,o≠.tbl ps)\/b=Pt->(∀xs,o≠.lst xs)->(∀xs,o≠.dK xs)->(∀c x fs,o≠.ins c x fs)->H b=some o->H' b=some o):Lam Pt pos q H':=by
 obtain⟨ps,a,b,c⟩:=l;refine⟨ps,f _ _ (.inr rfl) (fun _ z=>nomatch z) (fun _ z=>nomatch z) (fun _ _ _ z=>nomatch z) a,b,?_⟩
 rcases c with c | ⟨c',c,d⟩
 ·exact .inl c
 ·exact .inr ⟨c',c,f _ _ (.inl fun _ z=>nomatch z) (fun _ z=>nomatch z) (fun _ z=>nomatch z) (fun _ _ _ z=>nomatch z) d⟩
theorem E4{pos:Pos}(l:Lam Pt pos q H)(f:Frm t H H')(ht:H t=some o)(h1:(∃xs,o=.lst xs)\/(∃xs,o=.dK xs)\/∃c x fs,o=.ins c x fs):Lam Pt pos q H':=by
 refine V0 l fun b o' _ n1 n2 n3 e=>f b o' (fun z=>?_) e
 rw[z,ht]at e;cases e
 rcases h1 with ⟨xs,rfl⟩ | ⟨xs,rfl⟩ | ⟨c,x,fs,rfl⟩
 ·exact n1 _ rfl
 ·exact n2 _ rfl
 ·exact n3 _ _ _ rfl
theorem Pk{ps:Array Value}(r:RkAt K C ls ys H p d)(g:Grow Pt H H')(hz:H Pt=some (.tbl ps)):RkAt K C ls ys H' p d:=by
 obtain⟨dx,tl,yl,al,as,kvs,h1,h2,h3,h4,h5,h6,h7,h8⟩:=r.at_;have st:∀{b o},H b=some o->(∀ps,o≠.tbl ps)->H' b=some o:=fun {b o} e n=>g b o (fun z=>by rw[z,hz]at e;cases e;exact n _ rfl) e
 exact⟨⟨dx,tl,yl,al,as,kvs,st h1 (fun _ z=>nomatch z),UC g hz h2,st h3 (fun _ z=>nomatch z),st h4 (fun _ z=>nomatch z),st h5 (fun _ z=>nomatch z),h6,h7,h8⟩,r.l16,r.y16⟩
def IJ:Sp:=fun vs H Q _=>match vs with
 | [.int x,.int y]=>∃p i:Nat,x=p/\y=i/\i<=64/\Q (.bl (p / 2 ^ i % 2 == 1)) H
 | _=>False
theorem Uv:FnOk P w K mg base CX0 3 T.f_z54 T.d_z54 ["place","switch"] IJ:=by
 have G_z52:=@IA P w K mg base T;refine T.F_z54.ok Se (fun vs H Q E h=>by unfold IJ at h;split at h <;> first | rfl | exact h.elim) (fun cdv A outer s H vs Q E hr h=>?_);have hu:=Aa hr;have hr_z52:=hr.mono (show 2<=_ by decide);unfold IJ at h;split at h;rotate_left
 ·exact h.elim
 rename_i x y;obtain⟨p,i,e1,e2,hi,q⟩:=h;subst e1 e2;refine⟨_,(@AH _ _ _ (@AM _ _ _ _ (Bm (kEq (K:=K) hu) (AR Cu (AR Ea (vv 0) (AJ G_z52 hr_z52 rfl T.m_z52 T.F_z52.kp T.b_z52 .nil AG (AA (vv 1) AB))) AC) AC))),?_⟩;refine⟨i,rfl,hi,?_⟩;have hp:0 < 2 ^ i:=ZBc i;have hle:(2:Nat) ^ i<=2 ^ 64:=Zj (by decide) (by lia);refine⟨Ax (by lia) (Int.le_trans (Int.ofNat_le.mpr hle) (by decide)),by decide,?_⟩;show Q (.bl (false ^^ (((p:Int) / ((2 ^ i:Nat):Int) % 2) == 1))) H
 have e:(false ^^ (((p:Int) / ((2 ^ i:Nat):Int) % 2) == 1))=(p / 2 ^ i % 2 == 1):=by
  rw[Z6,<- Int.natCast_ediv,Z7];simp only[beq_iff_eq];lia
 rw[e];exact q
def Au(S:Nat):List Nat:=(List.range S).filter S.testBit
theorem mem_memS:k∈Au S ↔ S.testBit k=true:=by
 unfold Au;rw[Zp,Zk];refine⟨fun h=>h.2,fun h=>⟨?_,h⟩⟩;have h1:=Nat.ge_two_pow_of_testBit h;exact ZT Nat.lt_two_pow_self h1
theorem Hs(S:Nat):∀(j n:Nat),S < 2 ^ n->(List.range (n+j)).filter S.testBit=(List.range n).filter S.testBit
 | 0,n,_=>rfl
 | j+1,n,h=>by
  rw[<- Nat.add_assoc,ZBR,ZBi,Hs S j n h]
  have:S.testBit (n+j)=false:=Nat.testBit_lt_two_pow (ZT h (Zj (by decide) (by lia)))
  simp[this]
theorem Mo(h:S < 2 ^ n):(List.range n).filter S.testBit=Au S:=by
 unfold Au
 rcases Nat.le_total n S with z | z
 ·have:=Hs S (S - n) n h
  rw[show n+(S - n)=S by lia]at this;exact this.symm
 ·have:=Hs S (n - S) S Nat.lt_two_pow_self
  rw[show S+(n - S)=n by lia]at this;exact this
theorem Uq(h:S < 2 ^ n):(Au S).length=An n S.testBit:=by rw[<- Mo h];rfl
theorem Rf(S:Nat):(Au S).Pairwise (· < ·):=List.Pairwise.filter _ ZBr
theorem VO(S:Nat):S < 2 ^ Builtin.Int.intBits (S:Int):=by
 unfold Builtin.Int.intBits
 by_cases e:S=0
 ·subst e;decide
 ·rw[if_neg (by simpa using e),Int.natAbs_natCast];exact Nat.lt_log2_self
theorem T3(h:S < 2 ^ n):Builtin.Int.intBits (S:Int)<=n:=by
 unfold Builtin.Int.intBits
 by_cases e:S=0
 ·subst e;simp
 ·rw[if_neg (by simpa using e),Int.natAbs_natCast];exact(Nat.log2_lt e).mpr h
def D0(K:W.Frag):Sp:=fun vs H Q _=>match vs with
 | [.int z]=>∃S:Nat,z=S/\S < 2 ^ 60/\∀p H',H p=none->Same H H'->H' p=some (.tup (iL (Au S)))->Q (.ref p) H'
 | _=>False
theorem P6:Ai (D0 K):=fun vs H Q Q' E h q=>by
 unfold D0 at *;split at q
 ·revert q;repeat' first | exact h _ _ | exact B3 h | exact out_mono h | exact outT_mono h | walk_at "m"
 ·exact q.elim
theorem J8:FnOk P w K mg base CX0 4 T.f_z38 T.d_z38 ["subset"] (D0 K):=by
 have G_z54:=@Uv P w K mg base T;refine T.F_z38.ok PP (fun vs H Q E h=>by unfold D0 at h;split at h <;> first | rfl | exact h.elim) (fun cdv A outer s H vs Q E hr h=>?_);have hu:=Aa hr;have hr_z54:=hr.mono (show 3<=_ by decide);unfold D0 at h;split at h;rotate_left
 ·exact h.elim
 rename_i z;obtain⟨S,e1,hS,q⟩:=h;subst e1;have hb:=T3 hS;have hb2:=VO S;refine⟨_,(@AH _ _ _ (@AM _ _ _ _ (As (A7 (K:=K)) rfl T.z_tuple (by rfl) (AA (Aq (N':=["member","subset"]) (own:=1) (ix:=[0]) rfl (Aw rfl T.z_range (AA (WM (K:=K) (vv 0)) AB)) (by kernel_rfl) rfl rfl (by kernel_rfl) (fun c=>AS (i:=0) (show(["member","subset"]:List Str).Nodup by decide +kernel) rfl (by right)) (Ah (by decide)) (fun c=>DC (Ba (AJ G_z54 hr_z54 rfl T.m_z54 T.F_z54.kp T.b_z54 .nil AG (AA (vv 1) (AA (vv 0) AB))))) (fun c=>(vv 0))) AB)))),?_⟩;refine⟨rfl,((Builtin.Int.intBits (S:Int):Nat):Int),rfl,by lia,by lia,?_⟩;rw[Zc];generalize Builtin.Int.intBits (S:Int)=n at *
 refine BQ (fun k zs H'=>H'=H/\zs=iL ((List.range k).filter S.testBit)) ⟨rfl,rfl⟩ (fun k zs H' hk ⟨_,e⟩=>by
  have:=ZBj S.testBit (List.range k)
  rw[Zw]at this;rw[e,Aj];exact Af (by lia)) ?_ ?_
 ·rintro k zs H' hk ⟨rfl,rfl⟩;have e0:(0:Int)+(k:Int)=((k:Nat):Int):=by lia
  rw[e0];refine⟨S,k,rfl,rfl,by lia,?_⟩;have eb:(S / 2 ^ k % 2 == 1)=S.testBit k:=by rw[Nat.testBit_eq_decide_div_mod_eq];rfl
  rw[eb,ZBR,ZBi];cases e:S.testBit k with
  | true=>exact⟨rfl,by simp[e,Bc];rfl⟩
  | false=>exact⟨rfl,by simp[e]⟩
 ·rintro zs H' ⟨rfl,rfl⟩ l hl;rw[Mo hb2];have s1:Same H' (upd H' l (.lst (iL (Au S)))):=Same.upd hl;refine⟨_,.inl ⟨.of AD,fun t ht=>?_⟩⟩;exact q t _ (s1.free ht) (s1.trans (Same.upd ht)) AD
def HG(K:W.Frag)(C:Addr):Sp:=fun vs H Q _=>match vs with
 | [.ref p]=>∃ls ys d,RkAt K C ls ys H p d/\Q (.int ((2 ^ ls.length - 1:Nat):Int)) H
 | _=>False
theorem Rz:FnOk P w K mg base CX0 3 T.f_z17 T.d_z17 ["self"] (HG K T.C_Reckoner):=by
 have G_z52:=@IA P w K mg base T;refine T.F_z17.ok RK (fun vs H Q E h=>by unfold HG at h;split at h <;> first | rfl | exact h.elim) (fun cdv A outer s H vs Q E hr h=>?_);have hu:=Aa hr;have hr_z52:=hr.mono (show 2<=_ by decide);unfold HG at h;split at h;rotate_left
 ·exact h.elim
 rename_i p;obtain⟨ls,ys,d,R,q⟩:=h;have l16:=R.l16;obtain⟨dx,tl,yl,al,as,kvs,h1,h2,h3,h4,h5,h6,h7,h8⟩:=id R.at_;refine⟨_,(@AH _ _ _ (@AM _ _ _ _ (AR E5 (AJ G_z52 hr_z52 rfl T.m_z52 T.F_z52.kp T.b_z52 .nil AG (AA (AU (Ay (K:=K)) rfl T.z_len (by rfl) (AA (B8 T.cl_Reckoner T.na_Reckoner_labels (vv 0)) AB)) AB)) AC))),?_⟩;refine⟨dx,_,_,h1,lk1 _ _ _ _,ls.length,.inr ⟨_,h2,by rw[ZC]⟩,ls.length,rfl,by lia,?_⟩
 have e:(((2 ^ ls.length:Nat):Int) - 1)=((2 ^ ls.length - 1:Nat):Int):=by
  have:=ZBc ls.length
  lia
 show Q (.int (((2 ^ ls.length:Nat):Int) - 1)) H;rw[e];exact q
def HI(K:W.Frag)(C:Addr):Sp:=fun vs H Q _=>match vs with
 | [.ref p,.int z]=>∃ls ys d S,RkAt K C ls ys H p d/\z=(S:Nat)/\S < 2 ^ ls.length/\S≠0/\∀k H',S.testBit k=true->Same H H'->Q (.int (AE ls k)) H'
 | _=>False
theorem Ou(h:S≠0):∃k,S.testBit k=true/\atI (iL (Au S)) 0=some (.int (k:Nat)):=by
 obtain⟨i,hi⟩:=Nat.exists_testBit_of_ne_zero h;have hm:=mem_memS.mpr hi;cases e:Au S with
 | nil=>rw[e]at hm;cases hm
 | cons k r=>exact⟨k,mem_memS.mp (by rw[e];exact Zl ..),A2 (n:=0) rfl rfl⟩
theorem Tv:FnOk P w K mg base CX0 5 T.f_z18 T.d_z18 ["self","things"] (HI K T.C_Reckoner):=by
 have G_z38:=@J8 P w K mg base T;refine T.F_z18.ok Si (fun vs H Q E h=>by unfold HI at h;split at h <;> first | rfl | exact h.elim) (fun cdv A outer s H vs Q E hr h=>?_);have hu:=Aa hr;have hr_z38:=hr.mono (show 4<=_ by decide);unfold HI at h;split at h;rotate_left
 ·exact h.elim
 rename_i p z;obtain⟨ls,ys,d,S,R,e1,hS,h0,q⟩:=h;subst e1;have l16:=R.l16;obtain⟨dx,tl,yl,al,as,kvs,h1,h2,h3,h4,h5,h6,h7,h8⟩:=id R.at_;have hle:2 ^ ls.length<=2 ^ 60:=Zj (by decide) (by lia);obtain⟨k,hk,ha⟩:=Ou h0;refine⟨_,(@AH _ _ _ (@AM _ _ _ _ (kIx (K:=K) (B8 T.cl_Reckoner T.na_Reckoner_labels (vv 0)) (kIx (K:=K) (AJ G_z38 hr_z38 rfl T.m_z38 T.F_z38.kp T.b_z38 .nil AG (AA (vv 1) AB)) AC)))),?_⟩;exact⟨dx,_,_,h1,lk1 _ _ _ _,S,rfl,by lia,fun t H1 ht s1 g1=>⟨_,_,.inr (.of g1),ha,_,_,.inr (s1.sqT h2),Cc (DA hS hk),q k H1 hk s1⟩⟩
noncomputable def AY(ls:List Int)(ys:List Nat)(S:Nat):Nat:=by classical exact if h:∃m,AZ (AE ls) (AX ys) S.testBit m then h.choose else 0
theorem Cs(h:AZ (AE ls) (AX ys) S.testBit m):AY ls ys S=m:=by
 have z:∃m,AZ (AE ls) (AX ys) S.testBit m:=⟨m,h⟩;unfold AY;rw[dif_pos z];exact ET z.choose_spec h
theorem DN(h:Can (AE ls) (AX ys) n S.testBit):AZ (AE ls) (AX ys) S.testBit (AY ls ys S):=by
 obtain⟨m,hm⟩:=NP h;rw[Cs hm];exact hm
noncomputable def wst(ls:List Int)(ys:List Nat)(S j:Nat):Nat:=max (AY ls ys (S &&& ys.getD j 0)) (AY ls ys (S - (S &&& ys.getD j 0)))
structure FirstQ(ls:List Int)(ys:List Nat)(S j:Nat):Prop where
 mem:j∈A6 S ys ys.length
 le:∀i∈A6 S ys ys.length,wst ls ys S j<=wst ls ys S i
 lt:∀i∈A6 S ys ys.length,i < j->wst ls ys S j < wst ls ys S i
theorem Ef(y:Nat)(h:Can (AE ls) (AX ys) n S.testBit):Can (AE ls) (AX ys) n (S &&& y).testBit/\Can (AE ls) (AX ys) n (S - (S &&& y)).testBit:=by
 rw[DX,DP];exact⟨Bu (fun k z=>by simp only[Zb]at z;exact z.1) h,Bu (fun k z=>by simp only[Zb]at z;exact z.1) h⟩
theorem QN:FnOk P w K mg base CX0 74 T.f_z13 T.d_z13 ["self","things","question"] (Dy K T.C_Reckoner 17):=LQ T 17 (HV T 17)
def UD(b:List Stmt):Expr:=match b with
 | [.Return (some (.Call _ _ (k::_) _)) _]=>k.value
 | _=>.Name "" ⟨0,0,0,0⟩
def Ev(e:Expr):Arguments:=match e with
 | .Lambda p _ _ _=>p
 | _=>{ posonlyargs:=[],args:=[],vararg:=none,kwonlyargs:=[],kw_defaults:=[],kwarg:=none,defaults:=[] }
def Ew(e:Expr):Expr:=match e with
 | .Lambda _ b _ _=>b
 | e=>e
def D2(e:Expr):Scope:=match e with
 | .Lambda _ _ s _=>s
 | _=>{ kind:=.function,names:=[],isGenerator:=false,isCoroutine:=false }
def Bj:Expr:=UD (BM CN)
def GT(K:W.Frag)(C:Addr)(vA vB v:V)(H:Hp)(Q:VK):Prop:=Dy K C 17 [vB,vA,v] H Q E0
theorem Qa (T:Txt K mg) {lam ca cb c':Addr} {pm ctv uA uB:Value} {vA vB:V} (hl:base.get? lam=some (W.kla_obj "<lambda>" Bw (Ev Bj) (Ew Bj) (D2 Bj) [("things",ca),("self",cb)] pm c' ctv)) (hcab:ca≠cb)
 (hca:base.IsCell ca (some uA)) (rA:RelV vA uA) (hcb:base.IsCell cb (some uB)) (rB:RelV vB uB) :
 FnOk P w K mg base CX0 75 lam (W.kla_fn "<lambda>" Bw (Ev Bj) (Ew Bj) (D2 Bj) [("things",ca),("self",cb)] pm (.ref c') ctv) ["question"] (EU c' Bw (GT K T.C_Reckoner vA vB)):=by
 have G_z13:=@QN P w K mg base T;refine Ph (k:=74) hl hca rA hcb rB (by decide) hcab rfl rfl rfl ?_ rfl rfl rfl ?_ fun A outer s H v Q hr h=>?_
 ·intro y hy;have h:=ZBn.mp (show(D2 Bj).names.all (fun p=>p.2 != .free || p.1 == "things" || p.1 == "self")=true by decide +kernel) _ (PySem.mem_of_lookup hy);simpa [or_assoc] using h
 ·decide +kernel
 have hr_z13:=hr;unfold GT Dy at h;split at h;rotate_left
 ·exact h.elim
 rename_i p z i ee;cases ee;obtain⟨ls,ys,d,S,j,y,R,e1,hS,hc,e2,hj,hp,hk,q⟩:=h;subst e1 e2;obtain⟨dx,tl,yl,al,as,kvs,h1,_⟩:=id R.at_;refine⟨_,(A3 (vv 2) T.cl_Reckoner T.me_z13 G_z13 hr_z13 T.b_z13 .nil AG (AA (vv 1) (AA (vv 0) AB))),?_⟩;exact⟨p,dx,_,rfl,h1,ln4 _ _ _ _,ls,ys,d,S,j,y,R,rfl,hS,hc,rfl,hj,hp,hk,q⟩
def JD(K:W.Frag)(C Pt:Addr):Sp:=fun vs H Q _=>match vs with
 | [.ref p,.int z]=>∃ls ys d S,RkAt K C ls ys H p d/\z=(S:Nat)/\S < 2 ^ ls.length/\(∃n,Can (AE ls) (AX ys) n S.testBit)/\¬One (AE ls) S.testBit/\Lam Pt EO Bw H /\
  ∀(j:Nat) H',FirstQ ls ys S j->RkAt K C ls ys H' p d->FrX [d,Pt] H H'->Lam Pt EO Bw H'->Q (.int (j:Nat)) H'
 | _=>False
theorem T6(B:BMn mg base):FnOk P w K mg base CX0 77 T.f_z11 T.d_z11 ["self","things"] (JD K T.C_Reckoner T.p_z11):=by
 have G_z20:=@J5 P w K mg base T;refine T.F_z11.okC T.gc_z11 RW (fun vs H Q E h=>by unfold JD at h;split at h <;> first | rfl | exact h.elim) (fun A outer s H vs Q E hr h=>?_);have hu:=Aa hr;have hr_z20:=hr.mono (show 1<=_ by decide);have hrL:=hr;unfold JD at h;split at h;rotate_left
 ·exact h.elim
 rename_i p z;obtain⟨ls,ys,d,S,R,e1,hS,⟨n,hc⟩,ho,hL,q⟩:=h;subst e1;obtain⟨dx,tl,yl,al,as,kvs,h1,_⟩:=id R.at_;have l16:=R.l16;let spB:V->V->V->Hp->VK->Prop:=GT K T.C_Reckoner
 have hFL:∀(base':Heap) (lam ca cb c':Addr) (pm ctv uA uB:Value) (vA vB:V),(∀b o,base.get? b=some o->base'.get? b=some o)->base'.get? lam=some (W.kla_obj "<lambda>" Bw (Ev Bj) (Ew Bj) (D2 Bj) [("things",ca),("self",cb)] pm c' ctv)->ca≠cb->base'.IsCell ca (some uA)->RelV vA uA->base'.IsCell cb (some uB)->RelV vB uB ->
  FnOk P w K mg base' CX0 75 lam (W.kla_fn "<lambda>" Bw (Ev Bj) (Ew Bj) (D2 Bj) [("things",ca),("self",cb)] pm (.ref c') ctv) ["question"] (EU c' Bw (spB vA vB)) :=
  fun base' lam ca cb c' pm ctv uA uB vA vB _ hl hab hca rA hcb rB=>Qa (base:=base') T hl hab hca rA hcb rB
 have hclL:∀ca cb,(PyProof.Rows.envOfC "Reckoner.first_question" (AK CN) s.heap.objs.size T.f_z11 (.ref T.g_z11)).cells.lookup (PySem.Str.ofString "things")=some ca->(PyProof.Rows.envOfC "Reckoner.first_question" (AK CN) s.heap.objs.size T.f_z11 (.ref T.g_z11)).cells.lookup (PySem.Str.ofString "self")=some cb ->
  closureFor (D2 Bj) (PyProof.Rows.envOfC "Reckoner.first_question" (AK CN) s.heap.objs.size T.f_z11 (.ref T.g_z11))=pure [((PySem.Str.ofString "things" : Str),ca),((PySem.Str.ofString "self" : Str),cb)]:=fun ca cb h1 h2=>by
  have e1:some (s.heap.objs.size+2)=some ca:=h1;have e2:some (s.heap.objs.size+1)=some cb:=h2;cases e1;cases e2;rfl
 refine⟨_,(@AH _ _ _ (@AM _ _ _ _ (TV (c:=T.g_z11) (Pt:=T.p_z11) (qual:=Bw) (i:=1) (j:=0) (a:="things") (b:="self") (spB:=spB) (A3 (vv 0) T.cl_Reckoner T.me_z20 G_z20 hr_z20 T.b_z20 .nil AG (AA (vv 1) AB)) T.z_min hrL rfl rfl T.gh_z11 B rfl rfl rfl rfl hclL rfl rfl rfl rfl (by decide) (fun _ _ _ _ _ _=>rfl) hFL))),?_⟩;refine⟨p,dx,_,rfl,h1,ln5 _ _ _ _,ls,ys,d,S,R,rfl,fun l H1 nl s1 g1=>?_⟩;have L1:=hL.same s1;have R1:=R.same s1;refine⟨l,_,_,_,rfl,by rw[Aj];exact Gq ho hc,rfl,rfl,L1,fun c' H2 gr2 L2' hc2=>?_⟩;obtain⟨pz,hP,_⟩:=id L1;have R2:=Pk R1 gr2 hP;have g2:H2 l=_:=gr2 _ _ (fun z=>by rw[z,hP]at g1;cases g1) g1;obtain⟨dx2,tl2,yl2,al2,as2,kvs2,k1,_,_,_,k5,_⟩:=id R2.at_;have hld:l≠d:=Av g2 k5 (by intro z;cases z);have hcd:c'≠d:=Av hc2 k5 (by intro z;cases z);refine⟨fun _ H3=>RkAt K T.C_Reckoner ls ys H3 p d/\Frm d H2 H3,fun n=>(wst ls ys S ((A6 S ys ys.length).getD n 0):Nat),⟨R2,Frm.refl⟩,fun n H3 ⟨_,f3⟩=>⟨.of (f3 _ _ hld g2),f3 _ _ hcd hc2⟩,?_,?_⟩
 ·rintro m v H3 hv ⟨R3,f3⟩;obtain⟨i,hi,him,rfl⟩:=B1 hv;obtain⟨y1,y2⟩:=Dc him;have eg:(A6 S ys ys.length).getD m 0=i:=by rw[ZY,hi];rfl
  refine⟨ls,ys,d,S,i,_,R3,rfl,hS,⟨n,hc⟩,rfl,y1,y2,by have:=DE ls.length S.testBit;lia,fun b e H4 f1 f2 R4 f4=>?_⟩;refine⟨?_,R4,f3.trans f4⟩;dsimp only;rw[eg];unfold wst;rw[Cs f1,Cs f2]
 ·rintro m v H3 hv hmin ⟨R3,f3⟩;obtain⟨i,hi,him,rfl⟩:=B1 hv;have eg:(A6 S ys ys.length).getD m 0=i:=by rw[ZY,hi];rfl
  have fr:FrX [d,T.p_z11] H H3:=(FrX.same s1).trans ((FrX.grow gr2 (by simp)).trans (FrX.frm f3 (by simp)));refine q i H3 ⟨him,fun i' hi'=>?_,fun i' hi' hlt=>?_⟩ R3 fr (E4 L2' f3 k5 (.inr (.inl ⟨_,rfl⟩)))
  ·obtain⟨m',hm',em'⟩:=ZBC hi';have h3:=(hmin m' (by rw[Aj];exact hm')).1;have eg':(A6 S ys ys.length).getD m' 0=i':=by rw[ZY,ZE hm',em'];rfl
   dsimp only at h3;rw[eg,eg']at h3;lia
  ·obtain⟨m',hm',em'⟩:=ZBC hi';have hmm:=(Zm.mp hi);obtain⟨hm,em⟩:=hmm;have hrise:(A6 S ys ys.length).Pairwise (· < ·):=List.Pairwise.filter _ ZBr
   have hlt':m' < m:=by
    rcases Z8 m' m with z | z | z
    ·exact z
    ·subst z;lia
    ·have:=List.pairwise_iff_getElem.mp hrise m m' hm hm' z
     lia
   have h3:=(hmin m' (by rw[Aj];exact hm')).2 hlt';have eg':(A6 S ys ys.length).getD m' 0=i':=by rw[ZY,ZE hm',em'];rfl
   dsimp only at h3;rw[eg,eg']at h3;lia
inductive Tr where
 | say (i:Int)
 | ask (q:Nat) (n y:Tr)
def Tr.dv:Tr->Dv
 | .say i=>.tup [.str (Str.ofString "say"),.int i]
 | .ask q n y=>.tup [.str (Str.ofString "ask"),.int (q:Int),n.dv,y.dv]
def Tr.size:Tr->Nat
 | .say _=>1
 | .ask _ n y=>1+n.size+y.size
theorem Tr.tups:∀t:Tr,A4 t.dv=true
 | .say i=>rfl
 | .ask q n y=>by
  unfold Tr.dv A4 Ab Ab Ab Ab Ab;rw[Tr.tups n,Tr.tups y];rfl
theorem ln8(a b c d:V):(BI a b c d).lookup ("label_of" : Str)=none:=by rfl
theorem ln9(a b c d:V):(BI a b c d).lookup ("first_question" : Str)=none:=by rfl
theorem lnA(a b c d:V):(BI a b c d).lookup ("harder_lefts" : Str)=none:=by rfl
theorem lnB(a b c d:V):(BI a b c d).lookup ("everything" : Str)=none:=by rfl
def CJ(ls:List Int)(ys:List Nat):Tr->Nat->Prop
 | .say i,S=>One (AE ls) S.testBit/\∃k,S.testBit k=true/\i=AE ls k
 | .ask q n y,S=>¬One (AE ls) S.testBit/\FirstQ ls ys S q/\CJ ls ys n (S - (S &&& ys.getD q 0))/\CJ ls ys y (S &&& ys.getD q 0)
def Cp(K:W.Frag)(C Pt:Addr)(c:Nat):Sp:=fun vs H Q _=>match vs with
 | [.ref p,.int z]=>∃ls ys d S,RkAt K C ls ys H p d/\z=(S:Nat)/\S < 2 ^ ls.length/\S≠0/\(∃n,Can (AE ls) (AX ys) n S.testBit)/\An ls.length S.testBit < c/\Lam Pt EO Bw H /\
  ∀(t:Tr) v H',CJ ls ys t S->Rep K H' t.dv v->RkAt K C ls ys H' p d->FrX [d,Pt] H H'->Lam Pt EO Bw H'->Q v H'
 | _=>False
theorem Ue{y:Nat}(h:A1 S.testBit y.testBit):S &&& y≠0/\S - (S &&& y)≠0:=by
 obtain⟨⟨i,h1,h2⟩,j,h3,h4⟩:=h;constructor
 ·intro z
  have:(S &&& y).testBit i=true:=by rw[ZBI,h1,h2];rfl
  rw[z]at this;simp at this
 ·intro z
  have:(S - (S &&& y)).testBit j=true:=by rw[EX,h3,h4];rfl
  rw[z]at this;simp at this
theorem WL(B:BMn mg base)(c:Nat)(G_z43:FnOk P w K mg base CX0 (78+c) T.f_z43 T.d_z43 ["reckoner","things"] (Cp K T.C_Reckoner T.p_z11 c)) :
 FnOk P w K mg base CX0 (78+(c+1)) T.f_z43 T.d_z43 ["reckoner","things"] (Cp K T.C_Reckoner T.p_z11 (c+1)):=by
 have G_z12:=@MB P w K mg base T;have G_z18:=@Tv P w K mg base T;have G_z21:=@JC P w K mg base T;have G_z11:=@T6 P w K mg base T B;refine T.F_z43.ok sc_z43 (fun vs H Q E h=>by unfold Cp at h;split at h <;> first | rfl | exact h.elim) (fun cdv A outer s H vs Q E hr h=>?_);have hu:=Aa hr;have hr_z12:=hr.mono (show 2<=78+c by lia);have hr_z18:=hr.mono (show 5<=78+c by lia);have hr_z21:=hr.mono (show 1<=78+c by lia);have hr_z11:=hr.mono (show 77<=78+c by lia);have hr_z43:=hr;unfold Cp at h;split at h;rotate_left
 ·exact h.elim
 rename_i p z;obtain⟨ls,ys,d,S,R,e1,hS,h0,⟨n,hc⟩,hk,hL,q⟩:=h;subst e1;obtain⟨dx,tl,yl,al,as,kvs,h1,_⟩:=id R.at_;refine⟨_,(@AF _ _ _ _ _ (@Ap _ _ _ _ _ _ _ _ (Ba (A3 (vv 0) T.cl_Reckoner T.me_z12 G_z12 hr_z12 T.b_z12 .nil AG (AA (vv 1) AB))) (@AH _ _ _ (@AM _ _ _ _ (A5 (AA C4 (AA (A3 (vv 0) T.cl_Reckoner T.me_z18 G_z18 hr_z18 T.b_z18 .nil AG (AA (vv 1) AB)) AB))))) Ao) (@AF _ _ _ _ _ (@AQ _ _ 2 _ _ _ _ sc_z43.nd rfl (by right) (A3 (vv 0) T.cl_Reckoner T.me_z11 G_z11 hr_z11 T.b_z11 .nil AG (AA (vv 1) AB)) (by rfl) (by symm)) (@AF _ _ _ _ _ (@AQ _ _ 3 _ _ _ _ sc_z43.nd rfl (by right) (AJ G_z43 hr_z43 rfl T.m_z43 T.F_z43.kp T.b_z43 .nil AG (AA (vv 0) (AA (A3 (vv 0) T.cl_Reckoner T.me_z21 G_z21 hr_z21 T.b_z21 .nil AG (AA (vv 1) (AA (vv 2) (AA Az AB)))) AB))) (by rfl) (by symm)) (@AF _ _ _ _ _ (@AQ _ _ 4 _ _ _ _ sc_z43.nd rfl (by right) (AJ G_z43 hr_z43 rfl T.m_z43 T.F_z43.kp T.b_z43 .nil AG (AA (vv 0) (AA (A3 (vv 0) T.cl_Reckoner T.me_z21 G_z21 hr_z21 T.b_z21 .nil AG (AA (vv 1) (AA (vv 2) (AA Az AB)))) AB))) (by rfl) (by symm)) (@AH _ _ _ (@AM _ _ _ _ (A5 (AA C4 (AA (vv 2) (AA (vv 3) (AA (vv 4) AB))))))))))),?_⟩;refine⟨p,dx,_,rfl,h1,ln3 _ _ _ _,ls,ys,d,S,R,rfl,hS,fun b H1 hb s1=>?_⟩;have R1:=R.same s1;have h11:=s1 _ _ h1;have L1:=hL.same s1;cases b with
 | true =>
  refine⟨p,dx,_,rfl,h11,ln8 _ _ _ _,ls,ys,d,S,R1,rfl,hS,h0,fun k H2 hk2 s2=>⟨smq rfl,fun t ht=>?_⟩⟩;have s3:Same H2 (upd H2 t (.tup [.str (Str.ofString "say"),.int (AE ls k)])):=Same.upd ht;exact q (.say (AE ls k)) _ _ ⟨hb.mp rfl,k,hk2,rfl⟩ (A0 (.of AD) (AN (by unfold Rep;rfl) (AN (by unfold Rep;rfl) AV))) ((R1.same s2).same s3) (.same (s1.trans (s2.trans s3))) ((L1.same s2).same s3)
 | false =>
  have ho:¬One (AE ls) S.testBit:=fun o=>nomatch hb.mpr o
  dsimp only[CW];refine⟨p,dx,_,rfl,h11,ln9 _ _ _ _,ls,ys,d,S,R1,rfl,hS,⟨n,hc⟩,ho,L1,fun j H2 hj R2 f2 L2'=>?_⟩;dsimp only[AT];obtain⟨y1,y2⟩:=Dc hj.mem;obtain⟨⟨a1,a2,a3⟩,b1,b2,b3⟩:=IV hS hc y2 hk;obtain⟨n1,n2⟩:=Ue y2;obtain⟨dx2,tl2,yl2,al2,as2,kvs2,k2,_⟩:=id R2.at_;refine⟨p,dx2,_,rfl,k2,ln7 _ _ _ _,ls,ys,d,S,j,_,R2,rfl,rfl,y1,?_⟩;refine⟨ls,ys,d,_,R2,rfl,b1,n2,⟨n,b2⟩,b3,L2',fun tn vn H3 bt3 rp3 R3 f3 L3=>?_⟩;dsimp only[AT];obtain⟨dx3,tl3,yl3,al3,as3,kvs3,k3,_⟩:=id R3.at_;refine⟨p,dx3,_,rfl,k3,ln7 _ _ _ _,ls,ys,d,S,j,_,R3,rfl,rfl,y1,?_⟩;refine⟨ls,ys,d,_,R3,rfl,a1,n1,⟨n,a2⟩,a3,L3,fun ty vy H4 bt4 rp4 R4 f4 L4=>⟨smq rfl,fun t ht=>?_⟩⟩;have O3:=Fk (Ua R3) (Fg L3);have s5:Same H4 (upd H4 t (.tup [.str (Str.ofString "ask"),.int (j:Nat),vn,vy])):=Same.upd ht;refine q (.ask j tn ty) _ _ ⟨ho,hj,bt3,bt4⟩ ?_ (R4.same s5) ((FrX.same s1).trans (f2.trans (f3.trans (f4.trans (.same s5))))) (L4.same s5);exact A0 (.of AD) (AN (by unfold Rep;rfl) (AN (by unfold Rep;rfl) (AN (Rep.same s5 _ _ (f4.rep O3 tn.tups rp3)) (AN (Rep.same s5 _ _ rp4) AV))))
theorem NX(B:BMn mg base):∀c:Nat,FnOk P w K mg base CX0 (78+c) T.f_z43 T.d_z43 ["reckoner","things"] (Cp K T.C_Reckoner T.p_z11 c)
 | 0=>by
  have no:∀vs H Q E,¬Cp K T.C_Reckoner T.p_z11 0 vs H Q E:=fun vs H Q E h=>by
   unfold Cp at h;split at h
   ·obtain⟨ls,ys,d,S,_,_,_,_,_,z,_⟩:=h;exact absurd z (ZBQ _)
   ·exact h
  exact⟨fun vs H Q E h=>(no _ _ _ _ h).elim,fun A outer s H args us vs Q E _ _ _ _ h=>(no _ _ _ _ h).elim⟩
 | c+1=>WL T B c (NX B c)
theorem U4(B:BMn mg base):FnOk P w K mg base CX0 95 T.f_z43 T.d_z43 ["reckoner","things"] (Cp K T.C_Reckoner T.p_z11 17):=NX T B 17
def B0(ls:List Int)(ys:List Nat)(S j X:Nat):Prop :=
 (X=S &&& ys.getD j 0/\AY ls ys (S - (S &&& ys.getD j 0)) < AY ls ys (S &&& ys.getD j 0))\/(X=S - (S &&& ys.getD j 0)/\AY ls ys (S &&& ys.getD j 0)<=AY ls ys (S - (S &&& ys.getD j 0)))
section
variable {ls:List Int}{ys:List Nat}{S X Y j n:Nat}
theorem TJ(a:B0 ls ys S j X)(b:B0 ls ys S j Y):X=Y:=by
 rcases a with ⟨e,a⟩ | ⟨e,a⟩ <;> rcases b with ⟨f,b⟩ | ⟨f,b⟩ <;> lia
theorem ND(h:B0 ls ys S j X):AY ls ys X=wst ls ys S j:=by
 unfold wst
 rcases h with ⟨rfl,h⟩ | ⟨rfl,h⟩ <;> lia
theorem QH(h:B0 ls ys S j X)(hS:S < 2 ^ n):X < 2 ^ n:=by
 have:=ZBt (n:=S) (m:=ys.getD j 0)
 rcases h with ⟨e,_⟩ | ⟨e,_⟩ <;> lia
theorem PQ(h:B0 ls ys S j X)(hc:Can (AE ls) (AX ys) n S.testBit):Can (AE ls) (AX ys) n X.testBit:=by
 obtain⟨c1,c2⟩:=Ef (ys.getD j 0) hc
 rcases h with ⟨rfl,_⟩ | ⟨rfl,_⟩
 ·exact c1
 ·exact c2
theorem Jn(hj:j < ys.length)(hc:Can (AE ls) (AX ys) n S.testBit):AY ls ys S<=1+wst ls ys S j:=by
 obtain⟨c1,c2⟩:=Ef (ys.getD j 0) hc;have c0:=DN hc;have c1:=DN c1;have c2:=DN c2;unfold wst;generalize AY ls ys (S &&& ys.getD j 0)=b at *;generalize AY ls ys (S - (S &&& ys.getD j 0))=e at *;rw[DX]at c1;rw[DP]at c2;refine N2 (y:=(ys.getD j 0).testBit) (ZP.mpr ⟨_,?_,rfl⟩) c0 c1 c2;rw[ZY,ZE hj];exact Zo hj
end
def Ig(K:W.Frag)(C:Addr):Sp:=fun vs H Q _=>match vs with
 | [.ref p,.int z,.int i]=>∃ls ys d S j,RkAt K C ls ys H p d/\z=(S:Nat)/\S < 2 ^ ls.length/\(∃n,Can (AE ls) (AX ys) n S.testBit)/\i=(j:Nat)/\j < ys.length /\
  ∀(X:Nat) H',B0 ls ys S j X->RkAt K C ls ys H' p d->Frm d H H'->Q (.int (X:Nat)) H'
 | _=>False
theorem Pm:FnOk P w K mg base CX0 73 T.f_z16 T.d_z16 ["self","things","question"] (Ig K T.C_Reckoner):=by
 have G_z21:=@JC P w K mg base T;have G_z15:=@G3 P w K mg base T;refine T.F_z16.ok sc_z16 (fun vs H Q E h=>by unfold Ig at h;split at h <;> first | rfl | exact h.elim) (fun cdv A outer s H vs Q E hr h=>?_);have hu:=Aa hr;have hr_z21:=hr.mono (show 1<=_ by decide);have hr_z15:=hr.mono (show 72<=_ by decide);unfold Ig at h;split at h;rotate_left
 ·exact h.elim
 rename_i p z i;obtain⟨ls,ys,d,S,j,R,e1,hS,⟨n,hc⟩,e2,hj,q⟩:=h;subst e1 e2;have l16:=R.l16;have hy:ys[j]? = some (ys.getD j 0):=by rw[ZY,ZE hj];rfl
 obtain⟨c1,c2⟩:=Ef (ys.getD j 0) hc;have hle:=ZBt (n:=S) (m:=ys.getD j 0);have cd:∀U:Nat,An ls.length U.testBit < 17:=fun U=>by have:=DE ls.length U.testBit;lia
 obtain⟨dx,tl,yl,al,as,kvs,h1,_⟩:=id R.at_;refine⟨_,(@AF _ _ _ _ _ (@AQ _ _ 3 _ _ _ _ sc_z16.nd rfl (by right) (A3 (vv 0) T.cl_Reckoner T.me_z21 G_z21 hr_z21 T.b_z21 .nil AG (AA (vv 1) (AA (vv 2) (AA Az AB)))) (by rfl) (by symm)) (@AF _ _ _ _ _ (@AQ _ _ 4 _ _ _ _ sc_z16.nd rfl (by right) (A3 (vv 0) T.cl_Reckoner T.me_z21 G_z21 hr_z21 T.b_z21 .nil AG (AA (vv 1) (AA (vv 2) (AA Az AB)))) (by rfl) (by symm)) (@AH _ _ _ (@AM _ _ _ _ (DQ (AW C6 (A3 (vv 0) T.cl_Reckoner T.me_z15 G_z15 hr_z15 T.b_z15 .nil AG (AA (vv 4) AB)) (A3 (vv 0) T.cl_Reckoner T.me_z15 G_z15 hr_z15 T.b_z15 .nil AG (AA (vv 3) AB))) (vv 4) (vv 3)))))),?_⟩;refine⟨p,dx,_,rfl,h1,ln7 _ _ _ _,ls,ys,d,S,j,_,R,rfl,rfl,hy,?_⟩;dsimp only[AT];refine⟨p,dx,_,rfl,h1,ln7 _ _ _ _,ls,ys,d,S,j,_,R,rfl,rfl,hy,?_⟩;dsimp only[AT];refine⟨p,dx,_,rfl,h1,ln1 _ _ _ _,ls,ys,d,S &&& ys.getD j 0,R,rfl,by lia,⟨n,c1⟩,cd _,fun b H1 f1 R1 fr1=>?_⟩;obtain⟨dx1,tl1,yl1,al1,as1,kvs1,k1,_⟩:=id R1.at_;refine⟨p,dx1,_,rfl,k1,ln1 _ _ _ _,ls,ys,d,S - (S &&& ys.getD j 0),R1,rfl,by lia,⟨n,c2⟩,cd _,fun e H2 f2 R2 fr2=>?_⟩;have e1:=Cs f1;have e2:=Cs f2;refine Ag (fun x=>?_) (fun x=>?_)
 ·have x':e < b:=by have:=ZQ x;lia
  exact q _ H2 (.inl ⟨rfl,by lia⟩) R2 (fr1.trans fr2)
 ·have x':¬e < b:=fun w=>x (ZO (by lia))
  exact q _ H2 (.inr ⟨rfl,by lia⟩) R2 (fr1.trans fr2)
def DW(K:W.Frag)(C:Addr):Sp:=fun vs H Q _=>match vs with
 | [.ref p,.int z]=>∃ls ys d S,RkAt K C ls ys H p d/\z=(S:Nat)/\S < 2 ^ ls.length/\(∃n,Can (AE ls) (AX ys) n S.testBit) /\
  ∀(Xs:List Nat) l H',Xs.length=ys.length->(∀j X,Xs[j]? = some X->B0 ls ys S j X)->RkAt K C ls ys H' p d->Frm d H H'->H l=none->H' l=some (.lst (iL Xs))->Q (.ref l) H'
 | _=>False
theorem SX:Ai (DW K C):=fun vs H Q Q' E h q=>by
 unfold DW at *;split at q
 ·revert q;repeat' first | exact h _ _ | exact B3 h | exact out_mono h | exact outT_mono h | walk_at "m"
 ·exact q.elim
theorem Ly{l:Addr}(f:Frm d H H')(hd:H' d=some o)(h:H' l=none):H l=none:=by
 cases e:H l with
 | none=>rfl
 | some u =>
  have hl:l≠d:=fun z=>by rw[z,hd]at h;cases h
  rw[f l u hl e]at h;cases h
theorem Rh:FnOk P w K mg base CX0 74 T.f_z14 T.d_z14 ["self","things"] (DW K T.C_Reckoner):=by
 have G_z16:=@Pm P w K mg base T;refine T.F_z14.ok U3 (fun vs H Q E h=>by unfold DW at h;split at h <;> first | rfl | exact h.elim) (fun cdv A outer s H vs Q E hr h=>?_);have hu:=Aa hr;have hr_z16:=hr.mono (show 73<=_ by decide);unfold DW at h;split at h;rotate_left
 ·exact h.elim
 rename_i p z;obtain⟨ls,ys,d,S,R,e1,hS,hc,q⟩:=h;subst e1;have y16:=R.y16;obtain⟨dx,tl,yl,al,as,kvs,h1,h2,h3,_⟩:=id R.at_;refine⟨_,(@AH _ _ _ (@AM _ _ _ _ (@Aq _ _ _ _ _ _ _ (["question","self","things"]) 1 ([0,1]) _ _ _ _ rfl (Aw rfl T.z_range (AA (AU (Ay (K:=K)) rfl T.z_len (by rfl) (AA (B8 T.cl_Reckoner T.na_Reckoner_yeses (vv 0)) AB)) AB)) (by kernel_rfl) rfl rfl (by kernel_rfl) (fun c=>AS (i:=0) (show(["question","self","things"]:List Str).Nodup by decide +kernel) rfl (by right)) (Ah (by decide)) (fun c=>Ar) (fun c=>(A3 (vv 1) T.cl_Reckoner T.me_z16 G_z16 hr_z16 T.b_z16 .nil AG (AA (vv 2) (AA (vv 0) AB)))) (by intro _;rfl)))),?_⟩;refine⟨dx,_,_,h1,lk2 _ _ _ _,ys.length,.inl ⟨_,.of h3,by rw[Aj]⟩,ys.length,rfl,by lia,by lia,?_⟩;rw[Zc];refine BQ (fun k zs H'=>RkAt K T.C_Reckoner ls ys H' p d/\Frm d H H'/\∃Xs:List Nat,zs=iL Xs/\Xs.length=k/\∀j X,Xs[j]? = some X->B0 ls ys S j X) ⟨R,Frm.refl,[],rfl,rfl,fun j X z=>by simp at z⟩ (fun k zs H' hk ⟨_,_,Xs,e,hl,_⟩=>by rw[e,Aj,hl];exact Af (by lia)) ?_ ?_
 ·rintro k zs H1 hk ⟨R1,f1,Xs,rfl,hl,hX⟩;have e0:(0:Int)+(k:Int)=((k:Nat):Int):=by lia
  rw[e0];obtain⟨dx1,tl1,yl1,al1,as1,kvs1,k1,_⟩:=id R1.at_;refine⟨p,dx1,_,rfl,k1,ln6 _ _ _ _,ls,ys,d,S,k,R1,rfl,hS,hc,rfl,hk,fun X H2 hx R2 f2=>?_⟩;refine⟨R2,f1.trans f2,Xs++[X],by rw[Bc];rfl,by rw[ZL,hl];rfl,fun j Y hj=>?_⟩
  rcases Z8 j Xs.length with z | z | z
  ·rw[ZBO z]at hj;exact hX j Y hj
  ·subst z;rw[ZBF (ZD _),ZBu]at hj;cases hj;rw[hl];exact hx
  ·rw[ZBv (by rw[ZL];show Xs.length+1<=j;lia)]at hj;cases hj
 ·rintro zs H1 ⟨R1,f1,Xs,rfl,hl,hX⟩ l nl;obtain⟨dx1,tl1,yl1,al1,as1,kvs1,_,_,_,_,k5,_⟩:=id R1.at_;have s2:Same H1 (upd H1 l (.lst (iL Xs))):=Same.upd nl;exact q Xs l _ hl hX (R1.same s2) (f1.trans (At s2)) (Ly f1 k5 nl) AD
def kvE(es:List (Nat × Nat)):List (Key × V):=es.map fun e=>((Sum.inl (e.1:Int):Key),V.int (e.2:Int))
theorem Mv:∀(es:List (Nat × Nat)) (S:Nat),(valV (kvE es) (Sum.inl (S:Int):Key)).isSome=decide (S∈es.map (·.1))
 | [],S=>rfl
 | e::es,S=>by
  by_cases z:e.1=S
  ·have:valV (kvE (e::es)) (Sum.inl (S:Int):Key)=some (V.int (e.2:Int)):=B6 (by rw[<- z])
   rw[this];simp[z]
  ·have:valV (kvE (e::es)) (Sum.inl (S:Int):Key)=valV (kvE es) (Sum.inl (S:Int):Key):=B4 (fun q=>z (by injection q with q;lia))
   rw[this,Mv es S];simp[Ne.symm z]
theorem UT{es:List (Nat × Nat)}(h:S∉es.map (·.1)):BC (kvE es) (Sum.inl (S:Int):Key) (V.int (m:Int))=kvE (es++[(S,m)]):=by
 unfold BC;rw[if_neg]
 ·unfold kvE;rw[ZM];rfl
 ·intro z;obtain⟨x,hx,e⟩:=ZBh.mp z;obtain⟨a,ha,rfl⟩:=ZP.mp hx;have e:(Sum.inl (a.1:Int):Key)=Sum.inl (S:Int):=ZQ e;injection e with e
  exact h (ZP.mpr ⟨a,ha,by lia⟩)
structure PInv(ls:List Int)(ys:List Nat)(n S0:Nat)(es:List (Nat × Nat))(pd:List Nat):Prop where
 nd:(es.map (·.1)).Nodup
 ok:∀e∈es,e.1 < 2 ^ ls.length/\Can (AE ls) (AX ys) n e.1.testBit/\0 < e.2/\e.2=AY ls ys e.1
 cl:∀e∈es,1 < e.2->∀j X,j < ys.length->B0 ls ys e.1 j X->X∈es.map (·.1)\/X∈pd
 pe:∀X∈pd,X < 2 ^ ls.length/\Can (AE ls) (AX ys) n X.testBit
 top:S0∈es.map (·.1)\/S0∈pd\/AY ls ys S0=0
section
variable {ls:List Int}{ys:List Nat}{n S0 X:Nat}{es:List (Nat × Nat)}{pd more:List Nat}
theorem PInv.skip(h:PInv ls ys n S0 es (X::pd))(hx:X∈es.map (·.1)\/AY ls ys X=0):PInv ls ys n S0 es pd:=by
 refine⟨h.nd,h.ok,fun e he h1 j Y hj hY=>?_,fun Y hY=>h.pe Y (Za _ hY),?_⟩
 ·rcases h.cl e he h1 j Y hj hY with z | z
  ·exact .inl z
  ·rcases ZF.mp z with z | z
   ·subst z
    rcases hx with hx | hx
    ·exact .inl hx
    ·obtain⟨_,c2,_,c4⟩:=h.ok e he;have a1:=Jn hj c2;have a2:=ND hY;lia
   ·exact .inr z
 ·rcases h.top with z | z | z
  ·exact .inl z
  ·rcases ZF.mp z with z | z
   ·subst z
    rcases hx with hx | hx
    ·exact .inl hx
    ·exact .inr (.inr hx)
   ·exact .inr (.inl z)
  ·exact .inr (.inr z)
theorem PInv.enter(h:PInv ls ys n S0 es (X::pd))(hx:X∉es.map (·.1))(h0:0 < AY ls ys X)(h1:1 < AY ls ys X->∀j Y,j < ys.length->B0 ls ys X j Y->Y∈more)(h2:∀Y∈more,Y < 2 ^ ls.length/\Can (AE ls) (AX ys) n Y.testBit):PInv ls ys n S0 (es++[(X,AY ls ys X)]) (pd++more):=by
 have hX:=h.pe X (Zl ..);have em:(es++[(X,AY ls ys X)]).map (·.1)=es.map (·.1)++[X]:=by rw[ZM];rfl
 have old:∀{Y},Y∈es.map (·.1)\/Y∈X::pd->Y∈es.map (·.1)++[X]\/Y∈pd++more:=fun {Y} z=>by
  rcases z with z | z
  ·exact .inl (Zz _ z)
  ·rcases ZF.mp z with z | z
   ·exact .inl (ZU _ (by rw[z];exact ZJ.mpr rfl))
   ·exact .inr (Zz _ z)
 refine⟨?_,fun e he=>?_,fun e he e1 j Y hj hY=>?_,fun Y hY=>?_,?_⟩
 ·rw[em,List.nodup_append];refine⟨h.nd,by simp,fun a ha b hb q=>?_⟩;rw[ZJ.mp hb]at q;exact hx (q ▸ ha)
 ·rcases ZW.mp he with z | z
  ·exact h.ok e z
  ·rw[ZJ.mp z];exact⟨hX.1,hX.2,h0,rfl⟩
 ·rw[em]
  rcases ZW.mp he with z | z
  ·exact old (h.cl e z e1 j Y hj hY)
  ·rw[ZJ.mp z]at e1 hY;exact .inr (ZU _ (h1 e1 j Y hj hY))
 ·rcases ZW.mp hY with z | z
  ·exact h.pe Y (Za _ z)
  ·exact h2 Y z
 ·rw[em]
  rcases h.top with z | z | z
  ·exact .inl (Zz _ z)
  ·rcases old (.inr z) with z | z
   ·exact .inl z
   ·exact .inr (.inl z)
  ·exact .inr (.inr z)
theorem PInv.len(h:PInv ls ys n S0 es pd)(h16:ls.length<=16):es.length<=65536:=by
 have:=EC (2 ^ ls.length) (es.map (·.1)) h.nd (fun x hx=>by
  obtain⟨e,he,rfl⟩:=ZP.mp hx;exact(h.ok e he).1)
 rw[ZC]at this;have h2:2 ^ ls.length<=2 ^ 16:=Zj (by decide) h16;have h3:(2:Nat) ^ 16=65536:=by decide
 lia
end
theorem Jp{H2:Hp}(R:RkAt K C ls ys H p d)(R':RkAt K C ls ys H' p d)(f:Frm d H H')(nb:H b=none)(a:∀c,c≠b->H2 c=H' c):RkAt K C ls ys H2 p d:=by
 obtain⟨dx,tl,yl,al,as,kvs,h1,h2,h3,h4,h5,_⟩:=R.at_;obtain⟨dx',tl',yl',al',as',kvs',k1,k2,k3,k4,k5,k6,k7,k8⟩:=R'.at_;have e:=f _ _ (Av h1 h5 (by intro z;cases z)) h1;rw[k1]at e;have e:=ZV e;injection e with _ e1 e2
 have g1:some (V.ref tl')=some (V.ref tl):=by rw[<- lk1 (.ref tl') (.ref yl') (.ref al') (.ref d),e2,lk1]
 have g2:some (V.ref yl')=some (V.ref yl):=by rw[<- lk2 (.ref tl') (.ref yl') (.ref al') (.ref d),e2,lk2]
 have g3:some (V.ref al')=some (V.ref al):=by rw[<- lk3 (.ref tl') (.ref yl') (.ref al') (.ref d),e2,lk3]
 cases g1;cases g2;cases g3
 have st:∀{c:Addr} {u v:HO},H c=some u->H' c=some v->H2 c=some v:=fun {c u v} e1 e2=>by
  rw[a c (BW e1 nb)];exact e2
 refine⟨⟨dx',tl,yl,al,as',kvs',st h1 k1,?_,st h3 k3,st h4 k4,st h5 k5,k6,k7,k8⟩,R.l16,R.y16⟩
 have go:H tl≠none->SqT K H2 tl (ls.map V.int):=fun hn=>by
  have hne:tl≠b:=fun z=>hn (by rw[z];exact nb)
  exact FI k2 fun u e=>by rw[a _ hne];exact e
 rcases h2 with (h2 | ⟨_,h2⟩) | h2
 ·exact go (by rw[h2];simp)
 ·exact go (by rw[h2];simp)
 ·exact .inr h2
theorem J1(R:RkAt K C ls ys H p d)(R':RkAt K C ls ys H' p d)(f:Frm d H H')(nb:H b=none):RkAt K C ls ys (upd H' b o) p d:=Jp R R' f nb fun c h=>AI h
theorem JV(f:Frm d H H')(nb:H b=none):Frm d H (upd H' b o):=fun c u n e=>by
 rw[AI (BW e nb)];exact f c u n e
def C8(e:Nat × Nat):Dv:=.tup [.tup (iD (Au e.1)),.int (e.2:Nat)]
def Do(es:List (Nat × Nat)):Dv:=.tup (es.map C8)
def GZ(K:W.Frag)(C:Addr):Sp:=fun vs H Q _=>match vs with
 | [.ref p,.int z]=>∃ls ys d S n,RkAt K C ls ys H p d/\z=(S:Nat)/\S < 2 ^ ls.length/\Can (AE ls) (AX ys) n S.testBit /\
  ∀es v H',PInv ls ys n S es []->Rep K H' (Do es) v->RkAt K C ls ys H' p d->Frm d H H'->Q v H'
 | _=>False
theorem RS:FnOk P w K mg base CX0 75 T.f_z40 T.d_z40 ["reckoner","things"] (GZ K T.C_Reckoner):=by
 have G_z15:=@G3 P w K mg base T;have G_z38:=@J8 P w K mg base T;have G_z14:=@Rh P w K mg base T;refine T.F_z40.ok sc_z40 (fun vs H Q E h=>by unfold GZ at h;split at h <;> first | rfl | exact h.elim) (fun cdv A outer s H vs Q E hr h=>?_);have hu:=Aa hr;have hr_z38:=hr.mono (show 4<=_ by decide);have hr_z15:=hr.mono (show 72<=_ by decide);have hr_z14:=hr.mono (show 74<=_ by decide);have mo1:Ai (BJ K T.C_Reckoner 17):=Me;have mo2:Ai (DW K T.C_Reckoner):=SX;have mo3:Ai (D0 K):=P6;unfold GZ at h;split at h;rotate_left
 ·exact h.elim
 rename_i p z;obtain⟨ls,ys,d,S,n,R,e1,hS,hc,q⟩:=h;subst e1;have l16:=R.l16;have y16:=R.y16;obtain⟨dx,tl,yl,al,as,kvs,h1,_,_,_,hd0,_⟩:=id R.at_;have h60:2 ^ ls.length<=2 ^ 60:=Zj (by decide) (by lia);have cd:∀U:Nat,An ls.length U.testBit < 17:=fun U=>by have:=DE ls.length U.testBit;lia
 refine⟨_,(@AF _ _ _ _ _ (@AQ _ _ 2 _ _ _ _ sc_z40.nd rfl (by right) Kn (by rfl) (by symm)) (@AF _ _ _ _ _ (@AQ _ _ 3 _ _ _ _ sc_z40.nd rfl (by right) (@BG _ _ _ _ (AA (vv 1) AB)) (by rfl) (by symm)) (@AF _ _ _ _ _ (@GH _ _ _ _ _ _ PassesOwn.never (AW C6 (AU (Ay (K:=K)) rfl T.z_len (by rfl) (AA (vv 3) AB)) AC) (@AF _ _ _ _ _ (@AQ _ _ 4 _ _ _ _ sc_z40.nd rfl (by right) (@BG _ _ _ _ AB) (by rfl) (by symm)) (@AF _ _ _ _ _ (@BK _ _ _ _ _ _ _ _ PassesOwn.never rfl (BA (K:=K) (vv 3)) (AS (i:=5) sc_z40.nd rfl (by right)) (@AF _ _ _ _ _ (@AQ _ _ 6 _ _ _ _ sc_z40.nd rfl (by right) (A3 (vv 0) T.cl_Reckoner T.me_z15 G_z15 hr_z15 T.b_z15 .nil AG (AA (vv 5) AB)) (by rfl) (by symm)) (@AH _ _ _ (@Ap _ _ _ _ _ _ _ _ (PW.pt (Cg (AW C6 (vv 6) AC) (Cq (AW (Hy hu) (vv 5) (vv 2))))) (@AF _ _ _ _ _ (@JI _ _ _ _ _ _ _ _ _ (DU hu) (vv 2) (vv 5) (vv 6) (by rfl)) (@AH _ _ _ (@Cz _ _ _ _ (Vc (K:=K) (vv 4) (AA (DQ (AW C6 (vv 6) AC) (A3 (vv 0) T.cl_Reckoner T.me_z14 G_z14 hr_z14 T.b_z14 .nil AG (AA (vv 5) AB)) (@BG _ _ _ _ AB)) AB)) (by rfl)))) Ao))) (by intro _;rfl)) (@AH _ _ _ (@AQ _ _ 3 _ _ _ _ sc_z40.nd rfl (by right) (vv 4) (by rfl) (by symm)))))) (@AH _ _ _ (@AM _ _ _ _ (As (A7 (K:=K)) rfl T.z_tuple (by rfl) (AA (Aq (N':=["each","number"]) (own:=2) (ix:=[]) rfl (Qk (vv 2)) (by kernel_rfl) rfl rfl (by kernel_rfl) (fun c=>FQ (K:=K) (n:=2) rfl (Bz (AS (i:=0) (show(["each","number"]:List Str).Nodup by decide +kernel) rfl (by right)) (Bz (AS (i:=1) (show(["each","number"]:List Str).Nodup by decide +kernel) rfl (by right)) Dx))) (FR (Ck Bp (EZ Bp Cb) (Ah (by decide)) (Ck Bp Cb (Ah (by decide)) E6))) (fun c=>Ar) (fun c=>(A5 (AA (AJ G_z38 hr_z38 rfl T.m_z38 T.F_z38.kp T.b_z38 .nil AG (AA (vv 0) AB)) (AA (vv 1) AB))))) AB))))))),?_⟩;intro E' nE;dsimp only[AT];have s1:Same H (upd H E' (.dK [])):=Same.upd nE;have gE1:upd H E' (.dK []) E'=some (.dK (kvE [])):=AD;generalize upd H E' (.dK [])=H1 at *;refine⟨smq rfl,fun l nl=>?_⟩;dsimp only[AT];have nl0:H l=none:=s1.free nl;have s2:Same H1 (upd H1 l (.lst [.int (S:Int)])):=Same.upd nl;have gl2:upd H1 l (.lst [.int (S:Int)]) l=some (.lst (iL [S])):=AD;have gE2:=s2 _ _ gE1;have S2:=s1.trans s2;generalize upd H1 l (.lst [.int (S:Int)])=H2 at *;have P2:PInv ls ys n S [] [S]:=⟨List.nodup_nil,(fun e he=>by cases he),(fun e he=>by cases he),fun X hX=>by rw[ZJ.mp hX];exact⟨hS,hc⟩,.inr (.inl (ZJ.mpr rfl))⟩;have R2:=R.same S2;have neD:∀{b:Addr},H b=none->b≠d:=fun {b} nb z=>by rw[z,hd0]at nb;cases nb
 refine Ad (fun σ H'=>∃(es:List (Nat × Nat)) (z3 z4 z5 z6:Option V),σ=[some (.ref p),some (.int (S:Nat)),some (.ref E'),z3,z4,z5,z6]/\RkAt K T.C_Reckoner ls ys H' p d/\Frm d H H'/\H' E'=some (.dK (kvE es))/\PInv ls ys n S es []) ?_ ?_ (by walk_at "sm")
 ·refine⟨fun mm σ H'=>∃(es:List (Nat × Nat)) (Ls:List Nat) (l:Addr) (z4 z5 z6:Option V),mm=(65536 - es.length) * 2+(if Ls=[] then 0 else 1)/\σ=[some (.ref p),some (.int (S:Nat)),some (.ref E'),some (.ref l),z4,z5,z6]/\RkAt K T.C_Reckoner ls ys H' p d/\Frm d H H'/\H' E'=some (.dK (kvE es))/\H l=none/\H' l=some (.lst (iL Ls))/\PInv ls ys n S es Ls,
   ⟨_,[],[S],l,none,none,none,rfl,rfl,R2,At S2,gE2,nl0,gl2,P2⟩,?_⟩
  rintro mm σ H3 ⟨es,Ls,l,z4,z5,z6,rfl,rfl,R3,f3,gE3,nl,gl3,P3⟩;have hE3:=P3.len l16;refine⟨Ls.length,.inl ⟨_,.of gl3,by rw[Aj]⟩,?_⟩;refine Ag (fun e=>?_) (fun e=>?_);rotate_left
  ·have hz:Ls=[]:=by
    have:¬(0:Int) < (Ls.length:Int):=fun z=>e (ZO z)
    exact List.eq_nil_of_length_eq_zero (by lia)
   subst hz;exact⟨es,_,_,_,_,rfl,R3,f3,gE3,P3⟩
  have hpos:Ls≠[]:=fun z=>by
   have:(0:Int) < (Ls.length:Int):=ZQ e
   rw[z]at this;simp at this
  refine⟨ZX _,fun b nb=>?_⟩;dsimp only[AT];obtain⟨_,_,_,_,_,_,_,_,_,_,hd3,_⟩:=id R3.at_;have nb0:H b=none:=Ly f3 hd3 nb;have s4:Same H3 (upd H3 b (.lst [])):=Same.upd nb;have gb4:upd H3 b (.lst []) b=some (.lst (iL [])):=AD;have hbl:b≠l:=fun z=>by rw[z,gl3]at nb;cases nb
  have hbE:b≠E':=fun z=>by rw[z,gE3]at nb;cases nb
  have hlE:l≠E':=Av gl3 gE3 (by intro z;cases z);have R4:=R3.same s4;have f4:Frm d H (upd H3 b (.lst [])):=f3.trans (At s4);have gE4:=s4 _ _ gE3;have gl4:=s4 _ _ gl3;generalize upd H3 b (.lst [])=H4 at *;refine Ad (fun σ H'=>∃(es':List (Nat × Nat)) (Bs:List Nat) (z5 z6:Option V),σ=[some (.ref p),some (.int (S:Nat)),some (.ref E'),some (.ref l),some (.ref b),z5,z6]/\RkAt K T.C_Reckoner ls ys H' p d/\Frm d H H'/\H' E'=some (.dK (kvE es'))/\H' b=some (.lst (iL Bs))/\PInv ls ys n S es' Bs/\es.length<=es'.length/\(Bs≠[]->es.length < es'.length)) ?_ ?_ (by walk_at "sm");rotate_left
  ·rintro σ H5 ⟨es',Bs,z5',z6',rfl,R5,f5,gE5,gb5,P5,h5,h6⟩;have hE5:=P5.len l16;refine⟨_,?_,es',Bs,b,_,_,_,rfl,rfl,R5,f5,gE5,nb0,gb5,P5⟩;rw[if_neg hpos]
   by_cases zb:Bs=[]
   ·rw[if_pos zb];lia
   ·rw[if_neg zb];have:=h6 zb;lia
  refine .inl ⟨⟨_,.inl (.of gl4)⟩,?_⟩
  refine MS (xs:=iL Ls) (fun k σ H'=>∃(es':List (Nat × Nat)) (Bs:List Nat) (z5 z6:Option V),σ=[some (.ref p),some (.int (S:Nat)),some (.ref E'),some (.ref l),some (.ref b),z5,z6]/\RkAt K T.C_Reckoner ls ys H' p d/\Frm d H H'/\H' E'=some (.dK (kvE es'))/\H' l=some (.lst (iL Ls))/\H' b=some (.lst (iL Bs))/\PInv ls ys n S es' (Ls.drop k++Bs)/\es.length<=es'.length/\(Bs≠[]->es.length < es'.length)/\Bs.length<=16 * es'.length)
   ⟨es,[],_,_,rfl,R4,f4,gE4,gl4,gb4,by rw[List.drop_zero,Zt];exact P3,ZD _,fun z=>absurd rfl z,ZX _⟩ (fun k σ H' _ ⟨_,_,_,_,_,_,_,_,g,_⟩=>.inl (.of g)) ?_ ?_
  rotate_left
  ·rintro σ H5 ⟨es',Bs,z5',z6',rfl,R5,f5,gE5,_,gb5,P5,h5,h6,_⟩;rw[Aj,List.drop_length,List.nil_append]at P5;exact⟨es',Bs,_,_,rfl,R5,f5,gE5,gb5,P5,h5,h6⟩
  rintro k xv σ H5 hxk ⟨es',Bs,z5',z6',rfl,R5,f5,gE5,gl5,gb5,P5,h5,h6,h7⟩;obtain⟨X,hX,_,rfl⟩:=B1 hxk;have hk:=(Zm.mp hX).1
  have ed:Ls.drop k++Bs=X::(Ls.drop (k+1)++Bs):=by
   rw[List.drop_eq_getElem_cons hk,(Zm.mp hX).2];rfl
  rw[ed]at P5;obtain⟨hX1,hX2⟩:=P5.pe X (Zl ..);obtain⟨dx5,tl5,yl5,al5,as5,kvs5,k1,_,_,_,k5,_⟩:=id R5.at_;dsimp only[AT];refine⟨p,dx5,_,rfl,k1,ln1 _ _ _ _,ls,ys,d,X,R5,rfl,hX1,⟨n,hX2⟩,cd X,fun m H6 hm R6 fr6=>?_⟩;dsimp only[AT];have em:=Cs hm;have f6:Frm d H H6:=f5.trans fr6;have gE6:=fr6 _ _ (neD nE) gE5;have gl6:=fr6 _ _ (neD nl) gl5;have gb6:=fr6 _ _ (neD nb0) gb5;clear k1 k5 fr6;refine Ag (fun e1=>?_) (fun e1=>?_);rotate_left
  ·have m0:m=0:=by
    have:¬(0:Int) < (m:Int):=fun z=>e1 (ZO z)
    lia
   exact⟨es',Bs,_,_,rfl,R6,f6,gE6,gl6,gb6,P5.skip (.inr (by lia)),h5,h6,h7⟩
  have m0:0 < m:=by
   have:(0:Int) < (m:Int):=ZQ e1
   lia
  have hsome:=Mv es' X;refine⟨valV (kvE es') (Sum.inl (X:Int):Key),DGet.k (k:=Sum.inl (X:Int)) gE6,?_⟩;cases e2:valV (kvE es') (Sum.inl (X:Int):Key) with
  | some v =>
   rw[e2]at hsome;have hin:X∈es'.map (·.1):=ZQ hsome.symm;exact⟨es',Bs,_,_,rfl,R6,f6,gE6,gl6,gb6,P5.skip (.inl hin),h5,h6,h7⟩
  | none =>
   rw[e2]at hsome;have hnin:X∉es'.map (·.1):=of_decide_eq_false hsome.symm;have hE6:=P5.len l16;refine⟨E',_,rfl,DPut.k (k:=Sum.inl (X:Int)) gE6 (by unfold kvE;rw[ZC,sizeLine_eq];lia),?_⟩;rw[UT hnin];have R7:=J1 R R6 f6 nE (o:=.dK (kvE (es'++[(X,m)])));have f7:=JV f6 nE (o:=.dK (kvE (es'++[(X,m)])));have gE7:upd H6 E' (.dK (kvE (es'++[(X,m)]))) E'=some (.dK (kvE (es'++[(X,m)]))):=AD;have gl7:upd H6 E' (.dK (kvE (es'++[(X,m)]))) l=_:=(AI hlE).trans gl6;have gb7:upd H6 E' (.dK (kvE (es'++[(X,m)]))) b=_:=(AI hbE).trans gb6;generalize upd H6 E' (.dK (kvE (es'++[(X,m)])))=H7 at *;have len1:(es'++[(X,m)]).length=es'.length+1:=by rw[ZL];rfl
   refine⟨.inl ⟨rfl,_,.of gb7⟩,?_⟩
   have fin:∀(Xs:List Nat) (l2:Addr) (H8:Hp),Xs.length<=16->(1 < m->∀j Y,j < ys.length->B0 ls ys X j Y->Y∈Xs)->(∀Y∈Xs,Y < 2 ^ ls.length/\Can (AE ls) (AX ys) n Y.testBit)->RkAt K T.C_Reckoner ls ys H8 p d->Frm d H7 H8->H7 l2=none->H8 l2=some (.lst (iL Xs)) ->
    D6 K (.ref b) [.ref l2] H8 fun _ H9=>∃(es':List (Nat × Nat)) (Bs:List Nat) (z5 z6:Option V),[some (V.ref p),some (.int (S:Nat)),some (.ref E'),some (.ref l),some (.ref b),some (.int (X:Nat)),some (.int (m:Nat))]=[some (.ref p),some (.int (S:Nat)),some (.ref E'),some (.ref l),some (.ref b),z5,z6]/\RkAt K T.C_Reckoner ls ys H9 p d/\Frm d H H9/\H9 E'=some (.dK (kvE es'))/\H9 l=some (.lst (iL Ls))/\H9 b=some (.lst (iL Bs))/\PInv ls ys n S es' (Ls.drop (k+1)++Bs)/\es.length<=es'.length/\(Bs≠[]->es.length < es'.length)/\Bs.length<=16 * es'.length:=by
    intro Xs l2 H8 hl2 hx1 hx2 R8 fr8 n2 g2;have f8:Frm d H H8:=f7.trans fr8;have gE8:=fr8 _ _ (neD nE) gE7;have gl8:=fr8 _ _ (neD nl) gl7;have gb8:=fr8 _ _ (neD nb0) gb7;refine⟨iL Bs,iL Xs,gb8,.of g2,(fun z=>by rw[z,gb7]at n2;cases n2),by rw[Aj,Aj];lia,es'++[(X,m)],Bs++Xs,_,_,rfl,J1 R R8 f8 nb0,JV f8 nb0,?_,?_,?_,?_,by lia,fun _=>by lia,by rw[ZL];lia⟩
    ·rw[AI (Ne.symm hbE)];exact gE8
    ·rw[AI (Ne.symm hbl)];exact gl8
    ·rw[AD,Bc]
    ·rw[<- Z2,<- em];exact P5.enter hnin (by lia) (by rw[em];exact hx1) hx2
   refine Ag (fun e3=>?_) (fun e3=>?_)
   ·have m1:1 < m:=by
     have:(1:Int) < (m:Int):=ZQ e3
     lia
    obtain⟨dx7,tl7,yl7,al7,as7,kvs7,k1,_⟩:=id R7.at_;refine⟨p,dx7,_,rfl,k1,lnA _ _ _ _,ls,ys,d,X,R7,rfl,hX1,⟨n,hX2⟩,fun Xs l2 H8 hl2 hXs R8 fr8 n2 g2=>?_⟩;refine fin Xs l2 H8 (by lia) (fun _ j Y hj hY=>?_) (fun Y hY=>?_) R8 fr8 n2 g2
    ·have hj':j < Xs.length:=by lia
     rw[TJ hY (hXs j _ (ZE hj'))];exact Zo hj'
    ·obtain⟨j,hj,ej⟩:=ZBC hY;have hh:=hXs j Y (by rw[ZE hj,ej]);exact⟨QH hh hX1,PQ hh hX2⟩
   ·have m1:¬1 < m:=fun z=>e3 (ZO (by lia))
    refine⟨ZX _,fun l2 n2=>?_⟩;have s8:Same H7 (upd H7 l2 (.lst [])):=Same.upd n2;exact fin [] l2 _ (ZX _) (fun z=>absurd z m1) (fun Y hY=>by cases hY) (R7.same s8) (At s8) n2 AD
 rintro σ H3 ⟨es,z3,z4,z5,z6,rfl,R3,f3,gE3,P3⟩;have hE3:=P3.len l16;refine .inl ⟨kvE es,gE3,fun o=>?_⟩;have a1:upd H3 E' (.frz o (.dK (kvE es))) E'=some (.frz o (.dK (kvE es))):=AD;have a2:∀b,b≠E'->upd H3 E' (.frz o (.dK (kvE es))) b=H3 b:=fun b hb=>AI hb
 generalize upd H3 E' (.frz o (.dK (kvE es)))=H4 at *;have f4:Frm d H H4:=fun c u n e=>by rw[a2 c (BW e nE)];exact f3 c u n e
 have R4:=Jp R R3 f3 nE a2
 refine Ub (kvs:=kvE es) (fun j zs H'=>Same H4 H'/\Reps K H' ((es.take j).map C8) zs) ⟨Same.refl _,AV⟩ (fun j zs H' _ ⟨s5,_⟩=>s5 _ _ a1) (fun j zs H' hj ⟨_,r⟩=>by
  unfold kvE at hj;rw[ZC]at hj;rw[<- r.length,ZC,Ze,sizeLine_eq];lia) ?_ ?_
 ·rintro j r pp zs H5 hr5 ⟨s5,r5⟩ npp;unfold kvE at hr5;rw[ZR]at hr5;obtain⟨e,he,rfl⟩:=ZB7.mp hr5;have hb:=(P3.ok e (Z9 he)).1;refine⟨pp,_,rfl,.of AD,rfl,_,_,rfl,_,_,rfl,rfl,?_⟩;refine⟨e.1,rfl,by lia,fun t H6 nt s6 g6=>⟨smq rfl,fun t2 n2=>?_⟩⟩;have s7:Same H6 (upd H6 t2 (.tup [.ref t,.int (e.2:Nat)])):=Same.upd n2;have s0:=Same.upd (o:=.tup [kV (Sum.inl (e.1:Int):Key),V.int (e.2:Int)]) npp;have S7:=s0.trans (s6.trans s7);refine⟨s5.trans S7,?_⟩;rw[Zx,he,ZM];exact Reps.append (Reps.same S7 _ _ r5) (AN (A0 (.of AD) (AN (A0 (.of (s7 _ _ g6)) (B7 _)) (AN (by unfold Rep;rfl) AV))) AV)
 ·rintro zs H5 ⟨s5,r5⟩ l2 nl2;have s6:Same H5 (upd H5 l2 (.lst zs)):=Same.upd nl2;refine⟨_,.inl ⟨.of AD,fun t nt=>?_⟩⟩;have S7:=s6.trans (Same.upd (o:=.tup zs) nt);rw[show(kvE es).length=es.length by unfold kvE;rw[ZC],ZBE]at r5;exact q es _ _ P3 (A0 (.of AD) (Reps.same S7 _ _ r5)) (R4.same (s5.trans S7)) (f4.trans (At (s5.trans S7)))
theorem LH(he:BP ls rs):∀i j,i < ls.length->j < ls.length->(∀y∈rs.map gB,y i=y j)->AE ls i=AE ls j:=by
 have key:∀i j,i < j->j < ls.length->(∀y∈rs.map gB,y i=y j)->AE ls i=AE ls j:=fun i j hij hj h =>
  Classical.byContradiction fun ne=>he i j ⟨hij,hj,ne,by
   unfold DT;apply ZCC;intro r hr;exact h _ (ZP.mpr ⟨r,hr,rfl⟩)⟩
 intro i j hi hj h
 rcases Z8 i j with z | z | z
 ·exact key i j z hj h
 ·rw[z]
 ·exact(key j i z hi fun y hy=>(h y hy).symm).symm
theorem Ud:FnOk P w K mg base CX0 1 T.f_z31 T.d_z31 ["self","one","other"] (GF T.C_NoEnd "one" "other"):=by
 refine T.F_z31.ok QZ (fun vs H Q E h=>by unfold GF at h;split at h <;> first | rfl | exact h.elim) (fun cdv A outer s H vs Q E hr h=>?_);unfold GF at h;split at h;rotate_left
 ·exact h.elim
 rename_i x y z;obtain⟨g,q⟩:=h;refine⟨_,(@AF _ _ _ _ _ (Ld T.xI_NoEnd T.na_NoEnd_one (vv 0) (vv 1)) (@AH _ _ _ (Ld T.xI_NoEnd T.na_NoEnd_other (vv 0) (vv 2)))),?_⟩;refine .inl ⟨g,fun d hd=>.inr ⟨d,_,?_,AD,fun e=>?_,(show 1<=1000 by decide),q d hd⟩⟩
 ·rw[AI (fun e=>by rw[<- e,g]at hd;cases hd),AD]
 ·rw[e,g]at hd;cases hd
def IZ(i j:Nat):List (Str × V):=Al "other" (.int (j:Nat)) [("one",.int (i:Nat))]
def Ih(K:W.Frag)(C:Addr):Sp:=fun vs H Q E=>match vs with
 | [v]=>∃ls rs,Rep K H (gmD ls rs) v/\Gm ls rs/\(BP ls rs->∀H',Same H H'->Q .non H')/\∀i j,CO ls rs i j->∀d H',Same H H'->H' d=some (XdO d (IZ i j))->E (.ref C) (some d) H'
 | _=>False
theorem Qx:FnOk P w K mg base (CXE P w) 3 T.f_z19 T.d_z19 ["game"] (Ih K T.C_NoEnd):=by
 have G_z27:=@Vx P w K mg base T;have G_z31:=@Ud P w K mg base T;refine T.F_z19.okE sc_z19 (fun vs H Q E h=>by unfold Ih at h;split at h <;> first | rfl | exact h.elim) (fun cdv A outer s H vs Q E hr h=>?_);have hu:=Aa hr;have hr_z27:=hr.mono (show 1<=_ by decide);have hr_z31:=hr.mono (show 1<=_ by decide);have hr1_z31:=hr.mono (show 1+1<=_ by decide);unfold Ih at h;split at h;rotate_left
 ·exact h.elim
 rename_i v;obtain⟨ls,rs,hv,G,q1,qE⟩:=h;refine⟨_,(@AF _ _ _ _ _ (PS.nox (@AQ _ _ 1 _ _ _ _ sc_z19.nd rfl (by right) (AJ G_z27 hr_z27 rfl T.m_z27 T.F_z27.kp T.b_z27 .nil AG (AA (vv 0) AB)) (by rfl) (by symm))) (@AH _ _ _ (@Ap _ _ _ _ _ _ _ _ (PT.nox (AW JY (vv 1) DO)) (@AH _ _ _ (Oh (W:=fun _ od H=>E (.ref T.C_NoEnd) od H) T.xI_NoEnd G_z31 hr1_z31 T.b_z31 (fun _ _ _ _ _ _ I e h0 q=>Vd I e h0 q) rfl rfl rfl T.mC_NoEnd (AA (kIx (K:=K) (vv 1) AC) (AA (kIx (K:=K) (vv 1) AC) AB)))) Ao))),?_⟩;refine⟨ls,rs,hv,G,fun H1 s1 he=>q1 he H1 s1,fun i j t H1 hf _ s1 gt=>?_⟩;refine⟨_,_,.inr (.of gt),A2 (n:=0) rfl rfl,_,_,.inr (.of gt),A2 (n:=1) rfl rfl,(show 2<=1000 by decide),fun x0 hx0=>⟨AD,fun d hd=>?_⟩⟩;have n0:d≠x0:=fun z=>by rw[z,AD]at hd;cases hd
 rw[AI n0]at hd;refine⟨rfl,some d,by rw[AI (Ne.symm n0),AI (Ne.symm n0),AD],?_⟩;refine qE i j hf d _ (fun c u hc=>?_) ?_
 ·have hc2:=s1 _ _ hc;have n1:c≠x0:=fun z=>by rw[z,hx0]at hc2;cases hc2
  have n2:c≠d:=fun z=>by rw[z,hd]at hc2;cases hc2
  rw[E9 n1,AI n2,AI n2,AI n1,AI n1];exact hc2
 ·rw[E9 n0];exact AD
theorem Im(he:BP ls rs):∀X,X < 2 ^ ls.length->Can (AE ls) (AX (rs.map AO)) ls.length X.testBit:=fun X hX=>by
 rw[NO];exact MX (LH he) _ _ (fun k hk=>DA hX hk) (by have:=DE ls.length X.testBit;lia)
abbrev CD(Pt:Addr)(H:Hp):Prop:=Lam Pt EO Bw H
def HN(K:W.Frag)(Pt C:Addr):Sp:=fun vs H Q E=>match vs with
 | [v]=>∃ls rs,Rep K H (gmD ls rs) v/\Gm ls rs/\CD Pt H/\(∀i j,CO ls rs i j->∀d H',Same H H'->H' d=some (XdO d (IZ i j))->E (.ref C) (some d) H')/\(BP ls rs ->
  ∀t es u H',CJ ls (rs.map AO) t (2 ^ ls.length - 1)->PInv ls (rs.map AO) ls.length (2 ^ ls.length - 1) es []->Rep K H' (.tup [.int (AY ls (rs.map AO) (2 ^ ls.length - 1):Nat),t.dv,Do es]) u->Grow Pt H H'->CD Pt H'->Q u H')
 | _=>False
theorem Kb:∀xs:List Nat,Ab (iD xs)=true
 | []=>by unfold iD;simp[Ab]
 | x::xs=>by
  show Ab (Dv.int (x:Nat)::iD xs)=true;unfold Ab;rw[Kb xs];rfl
theorem Kr:∀es:List (Nat × Nat),Ab (es.map C8)=true
 | []=>by simp[Ab]
 | e::es=>by
  rw[Zi];unfold Ab;rw[Kr es]
  have h:A4 (C8 e)=true:=by
   unfold C8 A4 Ab Ab Ab
   have:A4 (.tup (iD (Au e.1)))=true:=by unfold A4;exact Kb _
   rw[this];rfl
  rw[h];rfl
theorem VX(B:BMn mg base):FnOk P w K mg base (CXE P w) 96 T.f_z51 T.d_z51 ["game"] (HN K T.p_z11 T.C_NoEnd):=by
 have G_z19:=@Qx P w K mg base T;have G_z23:=@WK P w K mg base T;have G_z17:=@Rz P w K mg base T;have G_z15:=@G3 P w K mg base T;have G_z43:=@U4 P w K mg base T B;have G_z40:=@RS P w K mg base T;refine T.F_z51.okE sc_z51 (fun vs H Q E h=>by unfold HN at h;split at h <;> first | rfl | exact h.elim) (fun cdv A outer s H vs Q E hr h=>?_);have hu:=Aa hr;have hr_z19:=hr.mono (show 3<=_ by decide);have hr_z23:=hr.mono (show 4<=_ by decide);have hr1_z23:=hr.mono (show 4+1<=_ by decide);have hr_z17:=hr.mono (show 3<=_ by decide);have hr_z15:=hr.mono (show 72<=_ by decide);have hr_z43:=hr.mono (show 95<=_ by decide);have hr_z40:=hr.mono (show 75<=_ by decide);unfold HN at h;split at h;rotate_left
 ·exact h.elim
 rename_i v;obtain⟨ls,rs,hv,G,hL,qE,q⟩:=h;have l1:=G.l1;have l16:=G.l16;have cd:∀U:Nat,An ls.length U.testBit < 17:=fun U=>by have:=DE ls.length U.testBit;lia
 have hp2:=ZBc ls.length;have hp3:2 ^ 1<=2 ^ ls.length:=Zj (by decide) l1;have hS:2 ^ ls.length - 1 < 2 ^ ls.length:=by lia
 refine⟨_,(@AF _ _ _ _ _ (@Cz _ _ _ _ (AJ G_z19 hr_z19 rfl T.m_z19 T.F_z19.kp T.b_z19 .nil PN (AA (vv 0) AB)) (by rfl)) (@AF _ _ _ _ _ (PS.nox (@AQ _ _ 1 _ _ _ _ sc_z51.nd rfl (by right) (U0 T.mk_Reckoner G_z23 hr1_z23 rfl T.mC_Reckoner T.b_z23 .nil AG (AA (vv 0) AB)) (by rfl) (by symm))) (@AF _ _ _ _ _ (PS.nox (@AQ _ _ 2 _ _ _ _ sc_z51.nd rfl (by right) (Qp (vv 1) T.cl_Reckoner T.me_z17 G_z17 hr_z17 T.b_z17 .nil AG) (by rfl) (by symm))) (@AH _ _ _ (PS.nox (@AM _ _ _ _ (A5 (AA (A3 (vv 1) T.cl_Reckoner T.me_z15 G_z15 hr_z15 T.b_z15 .nil AG (AA (vv 2) AB)) (AA (AJ G_z43 hr_z43 rfl T.m_z43 T.F_z43.kp T.b_z43 .nil AG (AA (vv 1) (AA (vv 2) AB))) (AA (AJ G_z40 hr_z40 rfl T.m_z40 T.F_z40.kp T.b_z40 .nil AG (AA (vv 1) (AA (vv 2) AB))) AB)))))))))),?_⟩;refine⟨ls,rs,hv,G,fun he H0 s0=>?_,qE⟩;have hc:=Im he _ hS;have q:=q he;intro x dx hx hdx hne
 have s1:Same H0 (upd (upd H0 dx (.own x)) x (.ins T.C_Reckoner dx [])):=(Same.upd (o:=.own x) hdx).trans (fun b o e=>by
  have:b≠x:=fun z=>by
   rw[z,AI (Ne.symm hne),hx]at e;cases e
  rw[AI this];exact e)
 have hx1:upd (upd H0 dx (.own x)) x (.ins T.C_Reckoner dx []) x=some (.ins T.C_Reckoner dx []):=AD;generalize upd (upd H0 dx (.own x)) x (.ins T.C_Reckoner dx [])=H1 at *;have S1:=s0.trans s1;refine⟨ls,rs,dx,hx1,hv.same S1,G,fun d H2 hd R f2=>⟨rfl,?_⟩⟩;dsimp only[AT];have hd0:H d=none:=S1.free hd;have nx0:H x=none:=s0.free hx;have s2:Same H H2:=fun b o e=>f2 b o (BW e nx0) (S1 _ _ e)
 have L2':=hL.same s2;generalize hys:rs.map AO=ys at *;obtain⟨dx2,tl2,yl2,al2,as2,kvs2,k1,_,_,_,k5,_⟩:=id R.at_;refine⟨x,dx2,_,rfl,k1,lnB _ _ _ _,ls,ys,d,R,?_⟩;dsimp only[AT];generalize hSS:2 ^ ls.length - 1=S at *;have h0:S≠0:=by lia
 refine⟨x,dx2,_,rfl,k1,ln1 _ _ _ _,ls,ys,d,S,R,rfl,hS,⟨_,hc⟩,cd S,fun m H3 hm R3 f3=>?_⟩;have L3:=E4 L2' f3 k5 (.inr (.inl ⟨_,rfl⟩));refine⟨ls,ys,d,S,R3,rfl,hS,h0,⟨_,hc⟩,cd S,L3,fun t vt H4 bt rp R4 f4 L4=>?_⟩;obtain⟨_,_,_,_,_,_,_,_,_,_,d4,_⟩:=id R4.at_;refine⟨ls,ys,d,S,_,R4,rfl,hS,hc,fun es ve H5 P5 r5 R5 f5=>⟨smq rfl,fun u nu=>?_⟩⟩;have L5:=E4 L4 f5 d4 (.inr (.inl ⟨_,rfl⟩));have s6:Same H5 (upd H5 u (.tup [.int (m:Nat),vt,ve])):=Same.upd nu;have rp5:Rep K H5 t.dv vt:=Rep.mv (fun a xs h=>C7 f5 d4 HU h) _ _ t.tups rp;rw[Cs hm]at q;refine q t es _ _ bt P5 (A0 (.of AD) (AN (by unfold Rep;rfl) (AN (Rep.same s6 _ _ rp5) (AN (Rep.same s6 _ _ r5) AV)))) (fun b o hb e=>?_) (L5.same s6);have hbd:b≠d:=BW e hd0;exact s6 _ _ (f5 _ _ hbd (f4 _ _ (by simp[hbd,hb]) (f3 _ _ hbd (s2 _ _ e))))
theorem mem_lefts{rb:List Bool}{ans:Bool}:k∈AL rb ans ts ↔ k∈ts/\gB rb k=ans:=by unfold AL;rw[Zp,beq_iff_eq]
theorem HS(rb:List Bool)(ts:List Nat):(fun k=>decide (k∈AL rb true ts))=fun k=>decide (k∈ts) && gB rb k:=by
 funext k
 rw[Z7,decide_eq_true_eq,mem_lefts,Zb,decide_eq_true_eq]
theorem Il(rb:List Bool)(ts:List Nat):(fun k=>decide (k∈AL rb false ts))=fun k=>decide (k∈ts) && !gB rb k:=by
 funext k
 rw[Z7,decide_eq_true_eq,mem_lefts,Zb,decide_eq_true_eq,Bool.not_eq_true']
theorem C3{rb:List Bool}{ans:Bool}(h:ts.Pairwise (· < ·)):(AL rb ans ts).Pairwise (· < ·):=h.filter _
theorem OT:An N (fun k=>decide (k∈ts))<=ts.length:=by
 unfold An;refine HY (List.nodup_range.filter _) fun z hz=>?_
 exact ZQ (Zp.mp hz).2
theorem Ng(he:BP ls rs)(hlt:∀t∈ts,t < ls.length):Can (AE ls) (rs.map gB) (ts.length - 1) (fun k=>decide (k∈ts)):=by
 refine MX (LH he) _ _ (fun k hk=>hlt k (ZQ hk)) ?_
 have:=OT (N:=ls.length) (ts:=ts)
 lia
theorem WZ(he:BP ls rs)(hlt:∀t∈ts,t < ls.length)(h:AZ (AE ls) (rs.map gB) (fun k=>decide (k∈ts)) m):m<=ts.length - 1:=h.2 _ (Ng he hlt)
theorem Kt{ds:List Int}(nd:ds.Nodup)(hm:∀k,k∈ds ↔ k∈ts.map (AE ls)):ds.length < 2 ↔ One (AE ls) (fun k=>decide (k∈ts)):=by
 constructor
 ·intro h i j hi hj;have a1:=(hm _).mpr (ZP.mpr ⟨i,ZQ hi,rfl⟩);have a2:=(hm _).mpr (ZP.mpr ⟨j,ZQ hj,rfl⟩)
  match ds,h with
  | [],_=>simp at a1
  | [x],_=>rw[ZJ.mp a1,ZJ.mp a2]
  | x::y::r,h=>simp at h;lia
 ·intro o
  have:=RB (Y:=[]) (n:=0) ds o nd fun d hd=>by
   obtain⟨k,hk,e⟩:=ZP.mp ((hm d).mp hd);exact⟨k,ZO hk,e⟩
  simp at this;lia
theorem LW:∀(l m:List Nat),l.Pairwise (· < ·)->m.Pairwise (· < ·)->(∀k,k∈l ↔ k∈m)->l=m
 | [],[],_,_,_=>rfl
 | [],b::m,_,_,h=>absurd ((h b).mpr (by simp)) (by simp)
 | a::l,[],_,_,h=>absurd ((h a).mp (by simp)) (by simp)
 | a::l,b::m,h1,h2,h=>by
  obtain⟨p1,p2⟩:=ZB8.mp h1;obtain⟨q1,q2⟩:=ZB8.mp h2
  have e:a=b:=by
   rcases ZF.mp ((h a).mp (by simp)) with x | x
   ·exact x
   ·rcases ZF.mp ((h b).mpr (by simp)) with y | y
    ·exact y.symm
    ·have:=q1 a x
     have:=p1 b y
     lia
  subst e;rw[LW l m p2 q2 fun k=>?_];constructor
  ·intro hk
   rcases ZF.mp ((h k).mp (Za _ hk)) with x | x
   ·have:=p1 k hk;lia
   ·exact x
  ·intro hk
   rcases ZF.mp ((h k).mpr (Za _ hk)) with x | x
   ·have:=q1 k hk;lia
   ·exact x
def BL(ts:List Nat):List Key:=ts.map fun t=>Sum.inl ((t:Nat):Int)
theorem GO(ts:List Nat):(BL ts).map kV=iL ts:=by unfold BL iL;rw[ZBD];rfl
structure NMemo(ls:List Int)(rs:List (List Bool))(kvs:List (List Key × V)):Prop where
 nd:(kvs.map (·.1)).Nodup
 ok:∀e∈kvs,∃(ts:List Nat) (m:Nat),e=(BL ts,V.int (m:Int))/\ts.Pairwise (· < ·)/\(∀t∈ts,t < ls.length)/\AZ (AE ls) (rs.map gB) (fun k=>decide (k∈ts)) m
theorem Os{k:List Key}(h:valV kvs k=some v):(k,v)∈kvs:=by
 unfold valV at h;cases e:kvs.find? fun kv=>decide (kv.1=k) with
 | none=>rw[e]at h;cases h
 | some x =>
  rw[e]at h;have h1:=List.find?_some e;have h2:=List.mem_of_find?_eq_some e;cases h
  have:x.1=k:=ZQ h1
  rw[<- this];exact h2
theorem Pn{us:List Nat}(h:BL ts=BL us):ts=us:=by
 have:=congrArg (List.map fun k:Key=>match k with | Sum.inl z=>z.toNat | Sum.inr _=>0) h
 unfold BL at this;rw[ZBD,ZBD]at this;have e:((fun k:Key=>match k with | Sum.inl z=>z.toNat | Sum.inr _=>0) ∘ fun t:Nat=>(Sum.inl ((t:Nat):Int):Key))=id:=by funext t;exact Zc t
 rw[e,List.map_id,List.map_id]at this;exact this
theorem NMemo.get(h:NMemo ls rs kvs)(e:valV kvs (BL ts)=some v):∃m:Nat,v=.int m/\AZ (AE ls) (rs.map gB) (fun k=>decide (k∈ts)) m:=by
 obtain⟨us,m,ee,_,_,hf⟩:=h.ok _ (Os e);have e1:BL ts=BL us:=congrArg Prod.fst ee;have e2:v=V.int m:=congrArg Prod.snd ee
 have:=Pn e1
 subst this;exact⟨m,e2,hf⟩
theorem NMemo.put(h:NMemo ls rs kvs)(h1:ts.Pairwise (· < ·))(h2:∀t∈ts,t < ls.length)(hf:AZ (AE ls) (rs.map gB) (fun k=>decide (k∈ts)) m):NMemo ls rs (BC kvs (BL ts) (V.int m)):=by
 unfold BC;split
 ·refine⟨?_,?_⟩
  ·have e:(kvs.map (fun kv=>if kv.1=BL ts then (kv.1,V.int m) else kv)).map (·.1)=kvs.map (·.1):=by
    rw[ZBD];apply ZCC;intro a _;simp only[Function.comp];split <;> rfl
   rw[e];exact h.nd
  ·intro e he;obtain⟨a,ha,rfl⟩:=ZP.mp he;split
   ·rename_i q;exact⟨ts,m,by rw[q],h1,h2,hf⟩
   ·exact h.ok a ha
 ·rename_i z;refine⟨?_,?_⟩
  ·rw[ZM,List.nodup_append];refine⟨h.nd,by simp,?_⟩;intro a ha b hb q;have hb':b=BL ts:=by simpa using hb
   obtain⟨x,hx,rfl⟩:=ZP.mp ha;exact z (ZBh.mpr ⟨x,hx,ZO (q.trans hb')⟩)
  ·intro e he
   rcases ZW.mp he with q | q
   ·exact h.ok e q
   ·rw[ZJ]at q;exact⟨ts,m,q,h1,h2,hf⟩
def HJ(k:List Key):Nat:=msk (k.map fun x=>match x with | Sum.inl z=>z.toNat | Sum.inr _=>0)
theorem GW(ts:List Nat):HJ (BL ts)=msk ts:=by
 unfold HJ BL;rw[ZBD];have e:((fun k:Key=>match k with | Sum.inl z=>z.toNat | Sum.inr _=>0) ∘ fun t:Nat=>(Sum.inl ((t:Nat):Int):Key))=id:=by funext t;exact Zc t
 rw[e,List.map_id]
theorem NMemo.len(h:NMemo ls rs kvs)(h16:ls.length<=16):kvs.length < 2 ^ 24:=by
 have hl:kvs.length<=2 ^ ls.length:=by
  have e:(kvs.map fun e=>HJ e.1).length=kvs.length:=ZC ..;rw[<- e];apply EC
  ·refine ZB2.mpr ?_;have nd:=ZB2.mp h.nd;refine List.Pairwise.imp_of_mem ?_ nd;intro a b ha hb ne q;obtain⟨ts,m,ea,r1,b1,_⟩:=h.ok a ha;obtain⟨us,m',eb,r2,b2,_⟩:=h.ok b hb;subst ea eb;apply ne;rw[GW,GW]at q;have x1:=(Br r1 b1).2;have x2:=(Br r2 b2).2
   have:ts=us:=LW ts us r1 r2 fun k=>by
    have:=x1 k
    rw[q,x2 k]at this;exact⟨fun z=>ZQ (this.trans (ZO z)),fun z=>ZQ (this.symm.trans (ZO z))⟩
   rw[this]
  ·intro x hx;obtain⟨a,ha,rfl⟩:=ZP.mp hx;obtain⟨ts,m,ea,r1,b1,_⟩:=h.ok a ha;subst ea;rw[GW];exact(Br r1 b1).1
 have:2 ^ ls.length<=2 ^ 16:=Zj (by decide) h16
 lia
theorem Tb {L:Nat->Int} {Y:List (Nat->Bool)} {S:Nat->Bool} {F least:Nat} (ho:¬One L S) (hF:AZ L Y S F) (h1:F<=least)
 (h2:∀y∈Y,A1 S y->∃b c,AZ L Y (fun k=>S k && y k) b/\AZ L Y (fun k=>S k && !y k) c/\least<=1+max b c):AZ L Y S least:=by
 have:least=F:=by
  obtain⟨hc,hmin⟩:=hF;cases F with
  | zero=>exact absurd hc ho
  | succ n =>
   rcases hc with o | ⟨y,hy,p,q⟩
   ·exact absurd o ho
   ·by_cases h:A1 S y
    ·obtain⟨b,c,hb,hc',hle⟩:=h2 y hy h
     have:=hb.2 _ p
     have:=hc'.2 _ q
     lia
    ·rcases not_parts h with z | z
     ·have:=hmin n (Bu z p);lia
     ·have:=hmin n (Bu z q);lia
 rw[this];exact hF
theorem Lx:∀{rs:List (List Bool)} {ps:List Addr},ps.length=rs.length->(∀(i:Nat) (q:Addr) (r:List Bool),ps[i]? = some q->rs[i]? = some r->SqT K H q (r.map V.bl))->Reps K H (Ae rs) (ps.map V.ref)
 | [],[],_,_=>AV
 | [],_::_,h,_=>by simp at h
 | _::_,[],h,_=>by simp at h
 | r::rs,q::ps,h,hr=>AN (A0 (hr 0 q r rfl rfl) (Bv r)) (Lx (by simpa using h) fun i q' r' a b=>hr (i+1) q' r' a b)
theorem CL{rl:Addr}(g:GmAt K H ls rs a tl rl ps):Rep K H (gmD ls rs) (.ref a) :=
 A0 g.two (AN (A0 g.lab (FY ls)) (AN (A0 g.rows (Lx g.len g.row)) AV))
def Cm(K:W.Frag):Sp:=fun vs H Q _=>match vs with
 | [v,.ref p,.int z]=>∃ls rs ts j r,Rep K H (gmD ls rs) v/\Gm ls rs/\SqT K H p (iL ts)/\ts.length<=100/\(∀t∈ts,t < ls.length)/\z=(j:Nat)/\rs[j]? = some r/\∀l pn py H',H l=none->Same H H'->H' l=some (.lst [.ref pn,.ref py])->H' pn=some (.tup (iL (AL r false ts)))->H' py=some (.tup (iL (AL r true ts)))->Q (.ref l) H'
 | _=>False
theorem Jc:Ai (Cm K):=fun vs H Q Q' E h q=>by
 unfold Cm at *;split at q
 ·revert q;repeat' first | exact h _ _ | exact B3 h | exact out_mono h | exact outT_mono h | walk_at "m"
 ·exact q.elim
theorem Fq:FnOk P w K mg base CX0 1 T.f_z41 T.d_z41 ["_law_game_here","_law_things","_law_question"] (Cm K):=by
 refine T.F_z41.ok sc_z41 (fun vs H Q E h=>by unfold Cm at h;split at h <;> first | rfl | exact h.elim) (fun cdv A outer s H vs Q E hr h=>?_);have hu:=Aa hr;unfold Cm at h;split at h;rotate_left
 ·exact h.elim
 rename_i v p z;obtain⟨ls,rs,ts,j,r,hv,G,hp,hl,hlt,e1,hj,q⟩:=h;subst e1;obtain⟨a,tl,rl,ps,rfl,g⟩:=CU hv;have hj':j < rs.length:=(Zm.mp hj).1;obtain⟨b,hb⟩:∃b,ps[j]? = some b:=⟨_,ZE (by rw[g.len];exact hj')⟩;have hrow:=g.row j b r hb hj;have hrl:r.length=ls.length:=G.row r (Z9 hj);refine⟨_,(@AF _ _ _ _ _ (@AQ _ _ 3 _ _ _ _ sc_z41.nd rfl (by right) (kIx (K:=K) (kIx (K:=K) (vv 0) AC) (vv 2)) (by rfl) (by symm)) (@AH _ _ _ (@AM _ _ _ _ (@Aq _ _ _ _ _ _ _ (["_law_answer","_law_things","_law_row"]) 1 ([1,3]) _ _ _ _ rfl (BA (K:=K) (A5 (AA Az (AA Az AB)))) (by kernel_rfl) rfl rfl (by kernel_rfl) (fun c=>AS (i:=0) (show(["_law_answer","_law_things","_law_row"]:List Str).Nodup by decide +kernel) rfl (by right)) (Ah (by decide)) (fun c=>Ar) (fun c=>(As (A7 (K:=K)) rfl T.z_tuple (by rfl) (AA (Aq (N':=["_law_k","_law_row","_law_answer"]) (own:=1) (ix:=[2,0]) rfl (BA (K:=K) (vv 1)) (by kernel_rfl) rfl rfl (by kernel_rfl) (fun c=>AS (i:=0) (show(["_law_k","_law_row","_law_answer"]:List Str).Nodup by decide +kernel) rfl (by right)) (Ah (by decide)) (fun c=>DC (AW (kEq (K:=K) hu) (kIx (K:=K) (vv 1) (vv 0)) (vv 2))) (fun c=>(vv 0))) AB))) (by intro _;rfl))))),?_⟩;refine⟨_,.ref rl,.inr g.two,rfl,_,.ref b,.inr g.rows,A2 rfl (by rw[ZR,hb];rfl),?_⟩;dsimp only[AT];refine⟨smq rfl,fun t ht=>.inr ⟨⟨_,.of AD⟩,?_⟩⟩;have s1:Same H (upd H t (.tup [.bl false,.bl true])):=Same.upd ht;have gt1:upd H t (.tup [.bl false,.bl true]) t=some (.tup [.bl false,.bl true]):=AD;generalize upd H t (.tup [.bl false,.bl true])=H1 at *
 refine CG (xs:=[.bl false,.bl true]) (fun k zs H'=>Same H1 H'/\∃qs:List Addr,zs=qs.map V.ref/\qs.length=k/\∀(i:Nat) (c:Addr),qs[i]? = some c->H' c=some (.tup (iL (AL r (i == 1) ts)))) ⟨Same.refl _,[],rfl,rfl,fun i c hc=>by simp at hc⟩ (fun k zs H' _ ⟨s,_⟩=>s.sqT (.of gt1)) (fun k zs H' hk ⟨_,qs,e,hq,_⟩=>by
  rw[e,ZC,hq];exact Af (by simp at hk;lia)) ?_ ?_
 ·rintro k x zs H2 hx ⟨s2,qs,rfl,hq,hall⟩
  obtain⟨ans,rfl,ea⟩:∃ans:Bool,x=.bl ans/\ans=(k == 1):=by
   match k,hx with
   | 0,hx=>cases hx;exact⟨false,rfl,rfl⟩
   | 1,hx=>cases hx;exact⟨true,rfl,rfl⟩
   | k+2,hx=>simp at hx
  have S2:=s1.trans s2;refine .inr ⟨⟨_,S2.sqT hp⟩,?_⟩
  refine CG (xs:=iL ts) (fun k ys H'=>H'=H2/\ys=iL (AL r ans (ts.take k))) ⟨rfl,rfl⟩ (fun k ys H' _ ⟨e,_⟩=>by rw[e];exact S2.sqT hp) (fun k ys H' hk ⟨_,e⟩=>by
   have:=Uj r ans (ts.take k)
   rw[Ze]at this;rw[e,Aj];exact Af (by lia)) ?_ ?_
  ·rintro k' x ys H' hx ⟨rfl,rfl⟩;obtain⟨t,ht,hmem,rfl⟩:=B1 hx;refine⟨_,.bl (gB r t),.inr (S2.sqT hrow),LC (by rw[hrl];exact hlt t hmem),?_⟩;rw[VR ht,Bc];refine Ag (fun e=>?_) (fun e=>?_)
   ·have e':(gB r t == ans)=true:=by rw[<- Z6 (gB r t == ans)];exact e
    rw[if_pos e'];exact⟨rfl,rfl⟩
   ·have e':¬(gB r t == ans)=true:=by rw[<- Z6 (gB r t == ans)];exact e
    rw[if_neg e'];exact⟨rfl,by show _=_++[];rw[Zt]⟩
  ·rintro ys H' ⟨rfl,rfl⟩ l hl2;rw[ZBX (by rw[Aj];exact ZD _)];refine⟨_,.inl ⟨.of AD,fun c hc=>?_⟩⟩;have s3:=(Same.upd (o:=.lst (iL (AL r ans ts))) hl2).trans (Same.upd (o:=.tup (iL (AL r ans ts))) hc);refine⟨s2.trans s3,qs++[c],by rw[ZM];rfl,by rw[ZL,hq];rfl,fun i d hd=>?_⟩
   rcases Z8 i qs.length with z | z | z
   ·rw[ZBO z]at hd;exact s3 _ _ (hall i d hd)
   ·subst z;rw[ZBF (ZD _),ZBu]at hd;cases hd;rw[hq,<- ea];exact AD
   ·rw[ZBF (Zs z),ZBv (by simp;lia)]at hd;cases hd
 ·rintro zs H' ⟨s2,qs,rfl,hq,hall⟩ l hl'
  match qs,hq,hall with
  | [b0,b1],_,hall =>
  have s3:Same H' (upd H' l (.lst ([b0,b1].map V.ref))):=Same.upd hl';exact q l b0 b1 _ ((s1.trans s2).free hl') (s1.trans (s2.trans s3)) AD (s3 _ _ (hall 0 b0 rfl)) (s3 _ _ (hall 1 b1 rfl))
def Bi(K:W.Frag)(c:Nat):Sp:=fun vs H Q _=>match vs with
 | [v,.ref p,.ref d]=>∃ls rs ts kvs,Rep K H (gmD ls rs) v/\Gm ls rs/\BP ls rs/\H p=some (.tup (iL ts))/\ts.Pairwise (· < ·)/\(∀t∈ts,t < ls.length)/\ts.length < c/\H d=some (.dT kvs)/\NMemo ls rs kvs/\∀(m:Nat) (kvs':List (List Key × V)) H',AZ (AE ls) (rs.map gB) (fun k=>decide (k∈ts)) m->Frm d H H'->H' d=some (.dT kvs')->NMemo ls rs kvs'->Q (.int (m:Nat)) H'
 | _=>False
theorem GA{c:Nat}:Ai (Bi K c):=fun vs H Q Q' E h q=>by
 unfold Bi at *;split at q
 ·revert q;repeat' first | exact h _ _ | exact B3 h | exact out_mono h | exact outT_mono h | walk_at "m"
 ·exact q.elim
theorem Cd:CH (.dT kvs):=⟨(fun _ z=>nomatch z),(fun _ _ z=>nomatch z)⟩
theorem E7(ts:List Nat):eqD (.tup (iD ts)) (.tup [])=decide (ts=[]):=by
 rw[Kl];cases ts with
 | nil=>rfl
 | cons t ts=>rfl
theorem B7:∀ts:List Nat,Reps K H (iD ts) (iL ts)
 | []=>AV
 | t::ts=>AN (by unfold Rep;rfl) (B7 ts)
theorem Dg:∀ts:List Nat,A8 (iD ts)=0
 | []=>by simp[iD,A8]
 | t::ts=>by
  show A8 (Dv.int (t:Nat)::iD ts)=_;unfold A8;rw[Dg ts];rfl
theorem parts_lefts:A1 (fun k=>decide (k∈ts)) (gB r) ↔ AL r true ts≠[]/\AL r false ts≠[]:=by
 have key:∀ans,AL r ans ts≠[] ↔ ∃k,k∈ts/\gB r k=ans:=fun ans=>by
  constructor
  ·intro h;obtain⟨x,hx⟩:=List.exists_mem_of_ne_nil _ h;exact⟨x,mem_lefts.mp hx⟩
  ·rintro⟨k,hk⟩ e
   have:=mem_lefts.mpr hk
   rw[e]at this;simp at this
 unfold A1;rw[key true,key false];simp only[decide_eq_true_eq]
theorem GE(h:A1 (fun k=>decide (k∈ts)) (gB r))(ans:Bool):(AL r ans ts).length < ts.length:=by
 obtain⟨⟨i,hi,yi⟩,j,hj,yj⟩:=h;have hi:=ZQ hi;have hj:=ZQ hj
 have key:∀(k:Nat) (b:Bool),k∈ts->gB r k=b->(AL r (!b) ts).length < ts.length:=fun k b hk hb=>by
  unfold AL;refine Nat.lt_of_le_of_ne (ZBj _ _) fun e=>?_
  have:=List.length_filter_eq_length_iff.mp e k hk
  rw[hb]at this;cases b <;> simp at this
 cases ans with
 | true=>exact key j false hj yj
 | false=>exact key i true hi yi
structure Least(ls:List Int)(rs:List (List Bool))(ts:List Nat)(k least:Nat):Prop where
 lo:∀F,AZ (AE ls) (rs.map gB) (fun k=>decide (k∈ts)) F->F<=least
 hi:∀(i:Nat) (r:List Bool),i < k->rs[i]? = some r->A1 (fun k=>decide (k∈ts)) (gB r)->∃b c,AZ (AE ls) (rs.map gB) (fun k=>decide (k∈AL r true ts)) b/\AZ (AE ls) (rs.map gB) (fun k=>decide (k∈AL r false ts)) c/\least<=1+max b c
theorem Qc(c:Nat)(G_z44:FnOk P w K mg base CX0 (c+2) T.f_z44 T.d_z44 ["_law_game_here","_law_things","_law_known"] (Bi K c)) :
 FnOk P w K mg base CX0 (c+3) T.f_z44 T.d_z44 ["_law_game_here","_law_things","_law_known"] (Bi K (c+1)):=by
 have G_z41:=@Fq P w K mg base T;refine T.F_z44.ok sc_z44 (fun vs H Q E h=>by unfold Bi at h;split at h <;> first | rfl | exact h.elim) (fun cdv A outer s H vs Q E hr h=>?_);have hu:=Aa hr;have hr_z44:=hr;have hr_z41:=hr.mono (show 1<=c+2 by lia);unfold Bi at h;split at h;rotate_left
 ·exact h.elim
 rename_i v p d;obtain⟨ls,rs,ts,kvs,hv,G,he,hp,hrise,hlt,hc,hd,M,q⟩:=h;obtain⟨a,tl,rl,ps,rfl,g⟩:=CU hv;have l16:=G.l16;have r16:=G.r16;have tl16:=Gd hrise hlt;have npd:p≠d:=Av hp hd (by intro z;cases z);have mo1:Ai (Bi K c):=GA;have mo2:Ai (Cm K):=Jc;obtain⟨F,hF⟩:=NP (Ng he hlt);refine⟨_,(@AF _ _ _ _ _ (@Ap _ _ _ _ _ _ _ _ (AW CQ (AU NM rfl T.z_len (by rfl) (AA (As (J7 (K:=K) rfl) rfl T.z_set (by rfl) (AA (Aq (N':=["_law_k","_law_game_here"]) (own:=1) (ix:=[0]) rfl (BA (K:=K) (vv 1)) (by kernel_rfl) rfl rfl (by kernel_rfl) (fun c=>AS (i:=0) (show(["_law_k","_law_game_here"]:List Str).Nodup by decide +kernel) rfl (by right)) (Ah (by decide)) (fun c=>Ar) (fun c=>(kIx (K:=K) (kIx (K:=K) (vv 1) AC) (vv 0)))) AB)) AB)) AC) (@AH _ _ _ (@AM _ _ _ _ AC)) Ao) (@AF _ _ _ _ _ (@Ap _ _ _ _ _ _ _ _ (AW (Hy hu) (vv 1) (vv 2)) (@AF _ _ _ _ _ (@AQ _ _ 3 _ _ _ _ sc_z44.nd rfl (by right) (AU (Ay (K:=K)) rfl T.z_len (by rfl) (AA (vv 1) AB)) (by rfl) (by symm)) (@AF _ _ _ _ _ (@BK _ _ _ _ _ _ _ _ PassesOwn.never rfl (Aw rfl T.z_range (AA (AU (Ay (K:=K)) rfl T.z_len (by rfl) (AA (kIx (K:=K) (vv 0) AC) AB)) AB)) (AS (i:=4) sc_z44.nd rfl (by right)) (@AF _ _ _ _ _ (@AQ _ _ 5 _ _ _ _ sc_z44.nd rfl (by right) (AJ G_z41 hr_z41 rfl T.m_z41 T.F_z41.kp T.b_z41 .nil AG (AA (vv 0) (AA (vv 1) (AA (vv 4) AB)))) (by rfl) (by symm)) (@AH _ _ _ (@Ap _ _ _ _ _ _ _ _ (AW (MQ (K:=K) hu) (A5 AB) (vv 5)) (@AH _ _ _ (@AQ _ _ 3 _ _ _ _ sc_z44.nd rfl (by right) (AU (Sc rfl) rfl T.z_min (by rfl) (AA (vv 3) (AA (AR (BB (K:=K)) AC (AU (KW (K:=K) rfl) rfl T.z_max (by rfl) (AA (Aq (N':=["_law_side","_law_game_here","_law_known"]) (own:=1) (ix:=[0,2]) rfl (BA (K:=K) (vv 5)) (by kernel_rfl) rfl rfl (by kernel_rfl) (fun c=>AS (i:=0) (show(["_law_side","_law_game_here","_law_known"]:List Str).Nodup by decide +kernel) rfl (by right)) (Ah (by decide)) (fun c=>Ar) (fun c=>(AJ G_z44 hr_z44 rfl T.m_z44 T.F_z44.kp T.b_z44 .nil AG (AA (vv 1) (AA (vv 0) (AA (vv 2) AB)))))) AB))) AB))) (by rfl) (by symm))) Ao))) (by intro _;rfl)) (@AH _ _ _ (@JI _ _ _ _ _ _ _ _ _ (DU hu) (vv 2) (vv 1) (vv 3) (by rfl))))) Ao) (@AH _ _ _ (@AM _ _ _ _ (Jy (DU hu) (vv 2) (vv 1) (by intro _ _;rfl)))))),?_⟩;refine Ad (fun σ H'=>σ=[some (.ref a),some (.ref p),some (.ref d),none,none,none]/\Same H H'/\¬One (AE ls) (fun k=>decide (k∈ts))) ?_ ?_ (by walk_at "sm")
 ·refine .inr ⟨⟨_,.of hp⟩,?_⟩
  refine CG (xs:=iL ts) (fun k zs H'=>H'=H/\zs=((ts.take k).map (AE ls)).map V.int) ⟨rfl,rfl⟩ (fun k zs H' _ ⟨e,_⟩=>by rw[e];exact .of hp) (fun k zs H' hk ⟨_,e⟩=>by
   rw[Aj]at hk;rw[e,ZC,ZC,Ze];exact Af (by lia)) ?_ ?_
  ·rintro k x zs H' hx ⟨rfl,rfl⟩;obtain⟨t,ht,hmem,rfl⟩:=B1 hx;refine⟨_,.ref tl,.inr g.two,rfl,_,.int (AE ls t),.inr g.lab,Cc (hlt t hmem),rfl,?_⟩;rw[Zx,ht,ZM,ZM];rfl
  ·rintro zs H' ⟨rfl,rfl⟩ l hl';rw[Aj,ZBE];refine⟨_,.of AD,by rw[ZC];lia,fun ds qs nd hmem hqs=>?_⟩;have S:=(Same.upd (o:=.lst ((ts.map (AE ls)).map V.int)) hl').trans (Same.upd (o:=D5 ds) hqs);have o1:=Kt (ls:=ls) nd hmem;refine⟨ds,AD,?_⟩;refine Ag (fun e=>?_) (fun e=>⟨rfl,S,fun o=>e (ZO (by have:=o1.mpr o;lia))⟩);have e:((ds.length:Nat):Int) < 2:=ZQ e;exact q 0 kvs _ ⟨o1.mp (by lia),fun _ _=>ZX _⟩ (At S) (S _ _ hd) M
 rintro σ H1 ⟨rfl,s1,ho⟩;have hd1:=s1 _ _ hd;have hp1:=s1 _ _ hp;refine Ad (fun σ H'=>(∃x y z,σ=[some (.ref a),some (.ref p),some (.ref d),x,y,z])/\Frm d H1 H'/\∃(kvs':List (List Key × V)) (m:Nat),H' d=some (.dT kvs')/\NMemo ls rs kvs'/\valV kvs' (BL ts)=some (.int (m:Nat))/\AZ (AE ls) (rs.map gB) (fun k=>decide (k∈ts)) m) ?_ ?_ (by walk_at "sm");rotate_left
 ·rintro σ H2 ⟨⟨x,y,z,rfl⟩,f2,kvs',m,hd2,M2,hv2,hm⟩;refine⟨d,.int (m:Nat),rfl,?_,q m kvs' H2 hm ((At s1).trans f2) hd2 M2⟩;rw[<- hv2];exact DGet.t hd2 (by rw[GO];exact f2 _ _ npd hp1)
 refine⟨valV kvs (BL ts),DGet.t hd1 (by rw[GO];exact hp1),?_⟩;cases e:valV kvs (BL ts) with
 | some v0 =>
  obtain⟨m,rfl,hm⟩:=M.get e;exact⟨⟨_,_,_,rfl⟩,Frm.refl,kvs,m,hd1,M,e,hm⟩
 | none =>
  refine⟨ts.length,.inr ⟨_,.of hp1,by rw[Aj]⟩,?_⟩;dsimp only[AT];refine Ad (fun σ H'=>∃(y z:Option V) (least:Nat),σ=[some (.ref a),some (.ref p),some (.ref d),some (.int (least:Nat)),y,z]/\Frm d H1 H'/\(∃kvs',H' d=some (.dT kvs')/\NMemo ls rs kvs')/\Least ls rs ts rs.length least) ?_ ?_ (by walk_at "sm");rotate_left
  ·rintro σ H2 ⟨y,z,least,rfl,f2,⟨kvs',hd2,M2⟩,hL⟩
   have hm:AZ (AE ls) (rs.map gB) (fun k=>decide (k∈ts)) least:=Tb ho hF (hL.lo F hF) fun y hy hpt=>by
    obtain⟨r,hr',rfl⟩:=ZP.mp hy;obtain⟨i,hi,ei⟩:=ZBC hr';obtain⟨b,c',h1,h2,h3⟩:=hL.hi i r hi (by rw[ZE hi,ei]) hpt;rw[HS]at h1;rw[Il]at h2;exact⟨b,c',h1,h2,h3⟩
   refine⟨d,_,rfl,DPut.t hd2 (show H2 p=some (.tup ((BL ts).map kV)) by rw[GO];exact f2 _ _ npd hp1) (M2.len l16),?_⟩;exact⟨⟨_,_,_,rfl⟩,f2.trans Frm.updT,_,least,AD,M2.put hrise hlt hm,by rw[KA,if_pos rfl],hm⟩
  have g1:=g.same s1;refine⟨_,.ref rl,.inr g1.two,rfl,rs.length,.inr ⟨_,g1.rows,by rw[ZC,g1.len]⟩,(rs.length:Int),rfl,by lia,by lia,?_⟩;rw[Zc];refine Bk (fun k σ H'=>∃(y z:Option V) (least:Nat),σ=[some (.ref a),some (.ref p),some (.ref d),some (.int (least:Nat)),y,z]/\Frm d H1 H'/\(∃kvs',H' d=some (.dT kvs')/\NMemo ls rs kvs')/\Least ls rs ts k least) ⟨none,none,ts.length,rfl,Frm.refl,⟨kvs,hd1,M⟩,fun F' hF'=>by have:=WZ he hlt hF';lia,fun i r hi=>absurd hi (ZBQ _)⟩ ?_ (fun σ H' h=>h);rintro i σ H2 hi ⟨y,z,least,rfl,f2,⟨kvs2,hd2,M2⟩,hL⟩;have ez:(0:Int)+(i:Int)=((i:Nat):Int):=by lia
  rw[ez];have er:rs[i]? = some rs[i]:=ZE hi;have g2:=g1.frm f2 hd1 Cd;have hp2:=f2 _ _ npd hp1
  have stay:(¬A1 (fun k=>decide (k∈ts)) (gB rs[i]))->Least ls rs ts (i+1) least:=fun hn=>⟨hL.lo,fun i' r' hi' er' hpt=>by
   rcases Zu i' i with w | w
   ·exact hL.hi i' r' w er' hpt
   ·have:i'=i:=by lia
    subst this;rw[er]at er';cases er';exact absurd hpt hn⟩
  refine⟨ls,rs,ts,i,rs[i],CL g2,G,.of hp2,by lia,hlt,rfl,er,fun l pn py H3 hl s3 gl3 hn3 hy3=>?_⟩;dsimp only[AT];refine⟨smq rfl,fun t0 ht0=>?_⟩;have s4:Same H3 (upd H3 t0 (.tup [])):=Same.upd ht0;have gt4:upd H3 t0 (.tup []) t0=some (.tup []):=AD;generalize upd H3 t0 (.tup [])=H4 at *;have S4:=s3.trans s4;refine⟨[.ref pn,.ref py],[.tup (iD (AL rs[i] false ts)),.tup (iD (AL rs[i] true ts))],.tup [],.inl (.of (s4 _ _ gl3)),AN (A0 (.of (s4 _ _ hn3)) (B7 _)) (AN (A0 (.of (s4 _ _ hy3)) (B7 _)) AV),A0 (.of gt4) AV,fun e he'=>?_,?_⟩
  ·simp only[ZF,ZBa,or_false]at he'
   rcases he' with rfl | rfl <;> (unfold Ac;rw[Dg];lia)
  have eany:(([Dv.tup (iD (AL rs[i] false ts)),Dv.tup (iD (AL rs[i] true ts))]).any fun e=>eqD e (.tup []))=decide (AL rs[i] false ts=[]\/AL rs[i] true ts=[]):=by
   rw[ZBG,ZBG,List.any_nil,E7,E7,Bool.or_false,Z7];simp
  rw[eany];refine Ag (fun e2=>?_) (fun e2=>?_)
  ·have hpt:A1 (fun k=>decide (k∈ts)) (gB rs[i]):=parts_lefts.mpr (by
    have:¬(AL rs[i] false ts=[]\/AL rs[i] true ts=[]):=by
     intro w;rw[ZO w]at e2;cases e2
    exact⟨fun w=>this (.inr w),fun w=>this (.inl w)⟩)
   have gl4:=s4 _ _ gl3;have hd4:=S4 _ _ hd2;have nld:l≠d:=Av gl4 hd4 (by intro z;cases z);have nnd:pn≠d:=Av (s4 _ _ hn3) hd4 (by intro z;cases z);have nyd:py≠d:=Av (s4 _ _ hy3) hd4 (by intro z;cases z);have g4:=g2.same S4;have hltL:∀ans,∀t∈AL rs[i] ans ts,t < ls.length:=fun ans t ht=>hlt t (mem_lefts.mp ht).1
   refine .inl ⟨⟨_,.of gl4⟩,?_⟩
   refine DJ (xs:=[.ref pn,.ref py]) (fun k zs H'=>Frm d H4 H'/\(∃kvs',H' d=some (.dT kvs')/\NMemo ls rs kvs')/\∃ms:List Nat,zs=iL ms/\ms.length=k/\∀(j:Nat) (b:Nat),ms[j]? = some b->AZ (AE ls) (rs.map gB) (fun k=>decide (k∈AL rs[i] (j == 1) ts)) b) ⟨Frm.refl,⟨kvs2,hd4,M2⟩,[],rfl,rfl,fun j b hb=>by simp at hb⟩ (fun k zs H' _ ⟨f,_⟩=>.of (f _ _ nld gl4)) (fun k zs H' hk ⟨_,_,ms,e,hq,_⟩=>by
    rw[e,Aj,hq];exact Af (by simp at hk;lia)) ?_ ?_
   ·rintro k x zs H5 hx ⟨f5,⟨kvs5,hd5,M5⟩,ms,rfl,hq,hall⟩
    obtain⟨b,rfl,hb⟩:∃b,x=.ref b/\H5 b=some (.tup (iL (AL rs[i] (k == 1) ts))):=by
     match k,hx with
     | 0,hx=>cases hx;exact⟨pn,rfl,f5 _ _ nnd (s4 _ _ hn3)⟩
     | 1,hx=>cases hx;exact⟨py,rfl,f5 _ _ nyd (s4 _ _ hy3)⟩
     | k+2,hx=>simp at hx
    have g5:=g4.frm f5 hd4 Cd;refine⟨ls,rs,_,kvs5,CL g5,G,he,hb,C3 hrise,hltL _,by have:=GE hpt (k == 1);lia,hd5,M5,fun m kvs6 H6 hm f6 hd6 M6=>?_⟩;refine⟨f5.trans f6,⟨kvs6,hd6,M6⟩,ms++[m],by rw[Bc];rfl,by rw[ZL,hq];rfl,fun j c' hc'=>?_⟩
    rcases Z8 j ms.length with z | z | z
    ·rw[ZBO z]at hc';exact hall j c' hc'
    ·subst z;rw[ZBF (ZD _),ZBu]at hc';cases hc';rw[hq];exact hm
    ·rw[ZBF (Zs z),ZBv (by simp;lia)]at hc';cases hc'
   ·rintro zs H5 ⟨f5,⟨kvs5,hd5,M5⟩,ms,rfl,hq,hall⟩ l2 hl2
    match ms,hq,hall with
    | [m0,m1],_,hall =>
    have s6:Same H5 (upd H5 l2 (.lst (iL [m0,m1]))):=Same.upd hl2;refine⟨[(m0:Int),(m1:Int)],.of AD,by simp,fun Mx hM hle=>?_⟩;have f0:=hall 0 m0 rfl;have f1:=hall 1 m1 rfl;have h0:=hle (m0:Int) (by simp);have h1:=hle (m1:Int) (by simp)
    have hM':Mx=((max m0 m1:Nat):Int):=by
     simp only[ZF,ZBa,or_false]at hM;lia
    subst hM';have el:min ((least:Nat):Int) (1+((max m0 m1:Nat):Int))=((min least (1+max m0 m1):Nat):Int):=by lia
    have sp:=N2 (ZP.mpr ⟨rs[i],Zo hi,rfl⟩) hF (by rw[<- HS];exact f1) (by rw[<- Il];exact f0);refine⟨some (.int ((i:Nat):Int)),some (.ref l),min least (1+max m0 m1),?_,f2.trans ((At S4).trans (f5.trans (At s6))),⟨kvs5,s6 _ _ hd5,M5⟩,⟨fun F' hF'=>?_,fun i' r' hi' er' hpt'=>?_⟩⟩
    ·show _=[some (V.ref a),some (.ref p),some (.ref d),some (.int ((min least (1+max m0 m1):Nat):Int)),some (.int ((i:Nat):Int)),some (.ref l)];rw[<- el];rfl
    ·have:=hL.lo F' hF'
     rw[ET hF' hF];rw[ET hF' hF]at this;lia
    ·rcases Zu i' i with w | w
     ·obtain⟨b,c',h1',h2',h3'⟩:=hL.hi i' r' w er' hpt';exact⟨b,c',h1',h2',by lia⟩
     ·have:i'=i:=by lia
      subst this;rw[er]at er';cases er';exact⟨m1,m0,f1,f0,by lia⟩
  ·have hn:¬A1 (fun k=>decide (k∈ts)) (gB rs[i]):=fun w=>by
    obtain⟨w1,w2⟩:=parts_lefts.mp w;apply e2;rw[Zy (fun z=>z.elim w2 w1)];rfl
   exact⟨_,_,least,rfl,f2.trans (At S4),⟨kvs2,S4 _ _ hd2,M2⟩,stay hn⟩
theorem La:∀c:Nat,FnOk P w K mg base CX0 (c+2) T.f_z44 T.d_z44 ["_law_game_here","_law_things","_law_known"] (Bi K c)
 | 0=>by
  have no:∀vs H Q E,¬Bi K 0 vs H Q E:=fun vs H Q E h=>by
   unfold Bi at h;split at h
   ·obtain⟨ls,rs,ts,kvs,_,_,_,_,_,_,z,_⟩:=h;exact absurd z (ZBQ _)
   ·exact h
  exact⟨fun vs H Q E h=>(no _ _ _ _ h).elim,fun A outer s H args us vs Q E _ _ _ _ h=>(no _ _ _ _ h).elim⟩
 | c+1=>Qc T c (La c)
theorem JZ:FnOk P w K mg base CX0 19 T.f_z44 T.d_z44 ["_law_game_here","_law_things","_law_known"] (Bi K 17):=La T 17
theorem DF(hp:ts.Pairwise (· < ·))(hl:∀t∈ts,t < N):(msk ts).testBit=fun k=>decide (k∈ts):=funext (Br hp hl).2
theorem Kp(hp:ts.Pairwise (· < ·))(hl:∀t∈ts,t < N)(h:AZ (AE ls) (rs.map gB) (fun k=>decide (k∈ts)) m):AY ls (rs.map AO) (msk ts)=m:=by
 refine Cs ?_;rw[NO,DF hp hl];exact h
theorem LP(hp:ts.Pairwise (· < ·))(hl:∀t∈ts,t < N):msk (AL r true ts)=msk ts &&& AO r:=by
 apply ZCD;intro k;rw[ZBI,mskR_bit,(Br hp hl).2 k,(Br (C3 hp) (fun t ht=>hl t (mem_lefts.mp ht).1)).2 k];exact congrFun (HS r ts) k
theorem LV(hp:ts.Pairwise (· < ·))(hl:∀t∈ts,t < N):msk (AL r false ts)=msk ts - (msk ts &&& AO r):=by
 apply ZCD;intro k;rw[EX,mskR_bit,(Br hp hl).2 k,(Br (C3 hp) (fun t ht=>hl t (mem_lefts.mp ht).1)).2 k];exact congrFun (Il r ts) k
noncomputable def CI(ls:List Int)(ys:List Nat)(S i:Nat):Nat:=if BR S (ys.getD i 0)=true then wst ls ys S i else 99
theorem PK{ms:List Nat}{M:Nat}(ho:¬One (AE ls) S.testBit)(hc:Can (AE ls) (AX ys) n S.testBit)(hn:n < 99)(hl:ms.length=ys.length)(hm:∀i x,ms[i]? = some x->x=CI ls ys S i)(hM:M∈ms)(hle:∀a∈ms,M<=a)(hj:ms[j]? = some M)(hf:∀i x,i < j->ms[i]? = some x->x≠M):FirstQ ls ys S j:=by
 have wlt:∀i,wst ls ys S i < 99:=fun i=>by
  obtain⟨c1,c2⟩:=Ef (ys.getD i 0) hc
  have:=(DN c1).2 _ c1
  have:=(DN c2).2 _ c2
  unfold wst;lia
 have hin:∀{i},i∈A6 S ys ys.length->∃x,ms[i]? = some x/\x=wst ls ys S i:=fun {i} hi=>by
  obtain⟨h1,h2⟩:=Zp.mp hi;have h1:=Zk.mp h1;refine⟨_,ZE (by lia),?_⟩;rw[hm i _ (ZE (by lia))];unfold CI;rw[if_pos h2]
 obtain⟨i0,hi0⟩:=List.exists_mem_of_length_pos (Gq ho hc);obtain⟨x0,e0,rfl⟩:=hin hi0;have hM0:=hle _ (Z9 e0);have ej:=hm j M hj
 have hjp:BR S (ys.getD j 0)=true:=by
  cases e:BR S (ys.getD j 0) with
  | true=>rfl
  | false =>
   unfold CI at ej;rw[e,if_neg (by simp)]at ej
   have:=wlt i0
   lia
 have ew:M=wst ls ys S j:=by
  unfold CI at ej;rw[if_pos hjp]at ej;exact ej
 have hjl:j < ys.length:=by rw[<- hl];exact(Zm.mp hj).1
 refine⟨Zp.mpr ⟨Zk.mpr hjl,hjp⟩,fun i hi=>?_,fun i hi hij=>?_⟩
 ·obtain⟨x,e,rfl⟩:=hin hi
  have:=hle _ (Z9 e)
  lia
 ·obtain⟨x,e,rfl⟩:=hin hi;have h1:=hle _ (Z9 e);have h2:=hf i _ hij e;lia
theorem N8(ks:List Nat):(iL ks).all BY=true:=by
 unfold iL;rw[List.all_map,ZBn];intro x _;rfl
theorem idx_first{ms:List Nat}{M:Nat}(h:M∈ms):∃j:Nat,ms[j]? = some M/\∀(i x:Nat),i < j->ms[i]? = some x->x≠M:=by
 have hi:=List.idxOf_lt_length_of_mem h;refine⟨ms.idxOf M,by rw[ZE hi];simp,fun i x hij e z=>?_⟩;subst z;have h2:=List.not_of_lt_findIdx (p:=(· == x)) (xs:=ms) (i:=i) hij;obtain⟨h3,h4⟩:=Zm.mp e;rw[h4]at h2;simp at h2
def Jj(K:W.Frag):Sp:=fun vs H Q _=>match vs with
 | [v,.ref p,.ref d]=>∃ls rs ts kvs,Rep K H (gmD ls rs) v/\Gm ls rs/\BP ls rs/\H p=some (.tup (iL ts))/\ts.Pairwise (· < ·)/\(∀t∈ts,t < ls.length)/\¬One (AE ls) (fun k=>decide (k∈ts))/\H d=some (.dT kvs)/\NMemo ls rs kvs/\∀(j:Nat) (kvs':List (List Key × V)) H',FirstQ ls (rs.map AO) (msk ts) j->Frm d H H'->H' d=some (.dT kvs')->NMemo ls rs kvs'->Q (.int (j:Nat)) H'
 | _=>False
theorem Oz:FnOk P w K mg base CX0 20 T.f_z39 T.d_z39 ["_law_game_here","_law_things","_law_known"] (Jj K):=by
 have G_z41:=@Fq P w K mg base T;have G_z44:=@JZ P w K mg base T;refine T.F_z39.ok sc_z39 (fun vs H Q E h=>by unfold Jj at h;split at h <;> first | rfl | exact h.elim) (fun cdv A outer s H vs Q E hr h=>?_);have hu:=Aa hr;have hr_z41:=hr.mono (show 1<=_ by decide);have hr_z44:=hr.mono (show 19<=_ by decide);have mo1:Ai (Bi K 17):=GA;have mo2:Ai (Cm K):=Jc;unfold Jj at h;split at h;rotate_left
 ·exact h.elim
 rename_i v p d;obtain⟨ls,rs,ts,kvs,hv,G,he,hp,hrise,hlt,ho,hd,M,q⟩:=h;obtain⟨a,tl,rl,ps,rfl,g⟩:=CU hv;have l16:=G.l16;have r16:=G.r16;have tl16:=Gd hrise hlt;have npd:p≠d:=Av hp hd (by intro z;cases z);refine⟨_,(@AF _ _ _ _ _ (@AQ _ _ 3 _ _ _ _ sc_z39.nd rfl (by right) (@BG _ _ _ _ AB) (by rfl) (by symm)) (@AF _ _ _ _ _ (@BK _ _ _ _ _ _ _ _ PassesOwn.never rfl (Aw rfl T.z_range (AA (AU (Ay (K:=K)) rfl T.z_len (by rfl) (AA (kIx (K:=K) (vv 0) AC) AB)) AB)) (AS (i:=4) sc_z39.nd rfl (by right)) (@AF _ _ _ _ _ (@AQ _ _ 5 _ _ _ _ sc_z39.nd rfl (by right) (AJ G_z41 hr_z41 rfl T.m_z41 T.F_z41.kp T.b_z41 .nil AG (AA (vv 0) (AA (vv 1) (AA (vv 4) AB)))) (by rfl) (by symm)) (@AH _ _ _ (@Cz _ _ _ _ (Eh (K:=K) (vv 3) (AA (DQ (AW (Pp (K:=K) hu) (A5 AB) (vv 5)) AC (AU (KW (K:=K) rfl) rfl T.z_max (by rfl) (AA (Aq (N':=["_law_side","_law_game_here","_law_known"]) (own:=1) (ix:=[0,2]) rfl (BA (K:=K) (vv 5)) (by kernel_rfl) rfl rfl (by kernel_rfl) (fun c=>AS (i:=0) (show(["_law_side","_law_game_here","_law_known"]:List Str).Nodup by decide +kernel) rfl (by right)) (Ah (by decide)) (fun c=>Ar) (fun c=>(AJ G_z44 hr_z44 rfl T.m_z44 T.F_z44.kp T.b_z44 .nil AG (AA (vv 1) (AA (vv 0) (AA (vv 2) AB)))))) AB))) AB)) (by rfl)))) (by intro _;rfl)) (@AH _ _ _ (@AM _ _ _ _ (Ul (K:=K) (vv 3) (AA (AU (Ko (K:=K) rfl) rfl T.z_min (by rfl) (AA (vv 3) AB)) AB)))))),?_⟩;refine⟨ZX _,fun l nl=>?_⟩;dsimp only[AT];have s1:Same H (upd H l (.lst [])):=Same.upd nl;have gl1:upd H l (.lst []) l=some (.lst (iL [])):=AD;have nld:l≠d:=fun z=>by rw[z,hd]at nl;cases nl
 have g1:=g.same s1;have hp1:=s1 _ _ hp;have hd1:=s1 _ _ hd;generalize upd H l (.lst [])=H1 at *;refine Ad (fun σ H'=>(∃x y,σ=[some (.ref a),some (.ref p),some (.ref d),some (.ref l),x,y])/\Frm d H H'/\(∃kvs',H' d=some (.dT kvs')/\NMemo ls rs kvs')/\∃ms:List Nat,H' l=some (.lst (iL ms))/\ms.length=rs.length/\∀i x,ms[i]? = some x->x=CI ls (rs.map AO) (msk ts) i) ?_ ?_ (by walk_at "sm");rotate_left
 ·rintro σ H2 ⟨⟨x,y,rfl⟩,f2,⟨kvs2,hd2,M2⟩,ms,gl2,hml,hm⟩;have r1:=G.r1;refine⟨.inl ⟨rfl,_,.of gl2⟩,ms.map fun(m:Nat)=>(m:Int),by rw[ZBD];exact .of gl2,by rw[ZC];lia,fun Mx hM hle=>?_⟩;obtain⟨M',hM',rfl⟩:=ZP.mp hM;obtain⟨j,hj,hf⟩:=idx_first hM';refine⟨iL ms,j,.int (M':Nat),.of gl2,rfl,N8 _,by unfold iL;rw[ZR,hj];rfl,by simp[eqV],fun i x hi hx=>?_,?_⟩
  ·obtain⟨x',hx',_,rfl⟩:=B1 hx
   have:=hf i x' hi hx'
   simp[eqV];lia
  ·refine q j kvs2 H2 (PK (n:=ls.length) ?_ ?_ (by lia) (by rw[hml,ZC]) hm hM' (fun a ha=>by have:=hle _ (ZP.mpr ⟨a,ha,rfl⟩);lia) hj hf) f2 hd2 M2
   ·rw[DF hrise hlt];exact ho
   ·exact Im he _ (Br hrise hlt).1
 refine⟨_,.ref rl,.inr g1.two,rfl,rs.length,.inr ⟨_,g1.rows,by rw[ZC,g1.len]⟩,(rs.length:Int),rfl,by lia,by lia,?_⟩;rw[Zc];refine Bk (fun k σ H'=>(∃x y,σ=[some (.ref a),some (.ref p),some (.ref d),some (.ref l),x,y])/\Frm d H H'/\(∃kvs',H' d=some (.dT kvs')/\NMemo ls rs kvs')/\∃ms:List Nat,H' l=some (.lst (iL ms))/\ms.length=k/\∀i x,ms[i]? = some x->x=CI ls (rs.map AO) (msk ts) i) ⟨⟨none,none,rfl⟩,At s1,⟨kvs,hd1,M⟩,[],gl1,rfl,fun i x z=>by simp at z⟩ ?_ (fun σ H' h=>h);rintro i σ H2 hi ⟨⟨x,y,rfl⟩,f2,⟨kvs2,hd2,M2⟩,ms,gl2,hml,hm⟩;have ez:(0:Int)+(i:Int)=((i:Nat):Int):=by lia
 rw[ez];have er:rs[i]? = some rs[i]:=ZE hi;have g2:=g.frm f2 hd Cd;have hp2:=f2 _ _ npd hp;have eyi:(rs.map AO).getD i 0=AO rs[i]:=by rw[ZY,ZR,er];rfl
 refine⟨ls,rs,ts,i,rs[i],CL g2,G,.of hp2,by lia,hlt,rfl,er,fun sl pn py H3 hl s3 gl3 hn3 hy3=>?_⟩;dsimp only[AT]
 -- what is put behind the others
 have fin:∀(N:Nat) (H9:Hp),N=CI ls (rs.map AO) (msk ts) i->Frm d H3 H9->(∃kvs',H9 d=some (.dT kvs')/\NMemo ls rs kvs') ->
  Ee (.ref l) [.int (N:Nat)] H9 fun _ H10=>(∃x y,[some (V.ref a),some (.ref p),some (.ref d),some (.ref l),some (.int ((i:Nat):Int)),some (.ref sl)]=[some (.ref a),some (.ref p),some (.ref d),some (.ref l),x,y])/\Frm d H H10/\(∃kvs',H10 d=some (.dT kvs')/\NMemo ls rs kvs')/\∃ms:List Nat,H10 l=some (.lst (iL ms))/\ms.length=i+1/\∀i x,ms[i]? = some x->x=CI ls (rs.map AO) (msk ts) i:=by
  intro N H9 eN f9 ⟨kvs9,hd9,M9⟩;have gl9:=f9 _ _ nld (s3 _ _ gl2);refine⟨iL ms,gl9,by rw[Aj];exact Af (by lia),⟨_,_,rfl⟩,JV (f2.trans ((At s3).trans f9)) nl,⟨kvs9,by rw[AI (Ne.symm nld)];exact hd9,M9⟩,ms++[N],by rw[AD,Bc];rfl,by rw[ZL,hml];rfl,fun i' x hx=>?_⟩
  rcases Z8 i' ms.length with z | z | z
  ·rw[ZBO z]at hx;exact hm i' x hx
  ·subst z;rw[ZBF (ZD _),ZBu]at hx;cases hx;rw[eN,hml]
  ·rw[ZBv (by rw[ZL];show ms.length+1<=i';lia)]at hx;cases hx
 refine⟨.inl ⟨rfl,_,.of (s3 _ _ gl2)⟩,smq rfl,fun t0 ht0=>?_⟩;have s4:Same H3 (upd H3 t0 (.tup [])):=Same.upd ht0;have gt4:upd H3 t0 (.tup []) t0=some (.tup []):=AD;generalize upd H3 t0 (.tup [])=H4 at *;have S4:=s3.trans s4;refine⟨[.ref pn,.ref py],[.tup (iD (AL rs[i] false ts)),.tup (iD (AL rs[i] true ts))],.tup [],.inl (.of (s4 _ _ gl3)),AN (A0 (.of (s4 _ _ hn3)) (B7 _)) (AN (A0 (.of (s4 _ _ hy3)) (B7 _)) AV),A0 (.of gt4) AV,fun e he'=>?_,?_⟩
 ·simp only[ZF,ZBa,or_false]at he'
  rcases he' with rfl | rfl <;> (unfold Ac;rw[Dg];lia)
 have eany:(([Dv.tup (iD (AL rs[i] false ts)),Dv.tup (iD (AL rs[i] true ts))]).any fun e=>eqD e (.tup []))=decide (AL rs[i] false ts=[]\/AL rs[i] true ts=[]):=by
  rw[ZBG,ZBG,List.any_nil,E7,E7,Bool.or_false,Z7];simp
 rw[eany,Z6]
 have epar:BR (msk ts) (AO rs[i])=true ↔ AL rs[i] true ts≠[]/\AL rs[i] false ts≠[]:=by
  rw[Fj,DF hrise hlt,funext (mskR_bit rs[i])];exact parts_lefts
 refine Ag (fun e2=>?_) (fun e2=>?_)
 ·have w:=ZQ e2;refine fin 99 H4 ?_ (At s4) ⟨kvs2,S4 _ _ hd2,M2⟩;unfold CI;rw[eyi,if_neg (fun z=>by obtain⟨z1,z2⟩:=epar.mp z;exact w.elim z2 z1)]
 ·have w:¬(AL rs[i] false ts=[]\/AL rs[i] true ts=[]):=fun z=>e2 (ZO z)
  have hpar:BR (msk ts) (AO rs[i])=true:=epar.mpr ⟨fun z=>w (.inr z),fun z=>w (.inl z)⟩;have hpt:A1 (fun k=>decide (k∈ts)) (gB rs[i]):=parts_lefts.mpr (epar.mp hpar);have gl4:=s4 _ _ gl3;have hd4:=S4 _ _ hd2;have nsd:sl≠d:=Av gl4 hd4 (by intro z;cases z);have nnd:pn≠d:=Av (s4 _ _ hn3) hd4 (by intro z;cases z);have nyd:py≠d:=Av (s4 _ _ hy3) hd4 (by intro z;cases z);have g4:=g2.same S4;have hltL:∀ans,∀t∈AL rs[i] ans ts,t < ls.length:=fun ans t ht=>hlt t (mem_lefts.mp ht).1
  refine .inl ⟨⟨_,.of gl4⟩,?_⟩
  refine DJ (xs:=[.ref pn,.ref py]) (fun k zs H'=>Frm d H4 H'/\(∃kvs',H' d=some (.dT kvs')/\NMemo ls rs kvs')/\zs=iL ([AY ls (rs.map AO) (msk (AL rs[i] false ts)),AY ls (rs.map AO) (msk (AL rs[i] true ts))].take k)) ⟨Frm.refl,⟨kvs2,hd4,M2⟩,rfl⟩ (fun k zs H' _ ⟨f,_⟩=>.of (f _ _ nsd gl4)) (fun k zs H' hk ⟨_,_,e⟩=>by
   rw[e,Aj];exact Af (Zf (List.length_take_le _ _) (by have:k < 2:=hk;lia))) ?_ ?_
  ·rintro k x zs H5 hx ⟨f5,⟨kvs5,hd5,M5⟩,rfl⟩;have g5:=g4.frm f5 hd4 Cd
   obtain⟨ans,b,rfl,hb,hk⟩:∃(ans:Bool) (b:Addr),x=.ref b/\H5 b=some (.tup (iL (AL rs[i] ans ts)))/\([AY ls (rs.map AO) (msk (AL rs[i] false ts)),AY ls (rs.map AO) (msk (AL rs[i] true ts))])[k]? = some (AY ls (rs.map AO) (msk (AL rs[i] ans ts))):=by
    match k,hx with
    | 0,hx=>cases hx;exact⟨false,pn,rfl,f5 _ _ nnd (s4 _ _ hn3),rfl⟩
    | 1,hx=>cases hx;exact⟨true,py,rfl,f5 _ _ nyd (s4 _ _ hy3),rfl⟩
    | k+2,hx=>simp at hx
   refine⟨ls,rs,_,kvs5,CL g5,G,he,hb,C3 hrise,hltL _,by have:=GE hpt ans;lia,hd5,M5,fun m kvs6 H6 hm f6 hd6 M6=>?_⟩;refine⟨f5.trans f6,⟨kvs6,hd6,M6⟩,?_⟩;rw[Zx,hk,<- Kp (C3 hrise) (hltL ans) hm,Bc];rfl
  ·rintro zs H5 ⟨f5,hk5,rfl⟩ l2 hl2;rw[show([V.ref pn,V.ref py]:List V).length=2 from rfl,ZBX (by simp)];have s6:Same H5 (upd H5 l2 (.lst (iL [AY ls (rs.map AO) (msk (AL rs[i] false ts)),AY ls (rs.map AO) (msk (AL rs[i] true ts))]))):=Same.upd hl2
   have ew:wst ls (rs.map AO) (msk ts) i=max (AY ls (rs.map AO) (msk (AL rs[i] true ts))) (AY ls (rs.map AO) (msk (AL rs[i] false ts))):=by
    unfold wst;rw[eyi,LP hrise hlt,LV hrise hlt]
   generalize AY ls (rs.map AO) (msk (AL rs[i] false ts))=m0 at *;generalize AY ls (rs.map AO) (msk (AL rs[i] true ts))=m1 at *;refine⟨[(m0:Int),(m1:Int)],.of AD,by simp,fun Mx hM hle=>?_⟩;have h0:=hle (m0:Int) (by simp);have h1:=hle (m1:Int) (by simp)
   have hM':Mx=((max m1 m0:Nat):Int):=by
    simp only[ZF,ZBa,or_false]at hM;lia
   subst hM';obtain⟨kvs5,hd5,M5⟩:=hk5;refine fin _ _ ?_ ((At s4).trans (f5.trans (At s6))) ⟨kvs5,s6 _ _ hd5,M5⟩;unfold CI;rw[eyi,if_pos hpar,ew]
def CB(K:W.Frag)(c:Nat):Sp:=fun vs H Q _=>match vs with
 | [v,.ref p,.ref d]=>∃ls rs ts kvs,Rep K H (gmD ls rs) v/\Gm ls rs/\BP ls rs/\H p=some (.tup (iL ts))/\ts.Pairwise (· < ·)/\(∀t∈ts,t < ls.length)/\ts≠[]/\ts.length < c/\H d=some (.dT kvs)/\NMemo ls rs kvs/\∀(t:Tr) u (kvs':List (List Key × V)) H',CJ ls (rs.map AO) t (msk ts)->Rep K H' t.dv u->Frm d H H'->H' d=some (.dT kvs')->NMemo ls rs kvs'->Q u H'
 | _=>False
theorem TB{c:Nat}:Ai (CB K c):=fun vs H Q Q' E h q=>by
 unfold CB at *;split at q
 ·revert q;repeat' first | exact h _ _ | exact B3 h | exact out_mono h | exact outT_mono h | walk_at "m"
 ·exact q.elim
theorem Vw(c:Nat)(c17:c < 17)(G_z30:FnOk P w K mg base CX0 (21+c) T.f_z30 T.d_z30 ["_law_game_here","_law_things","_law_known"] (CB K c)) :
 FnOk P w K mg base CX0 (21+(c+1)) T.f_z30 T.d_z30 ["_law_game_here","_law_things","_law_known"] (CB K (c+1)):=by
 have G_z44:=@JZ P w K mg base T;have G_z39:=@Oz P w K mg base T;have G_z41:=@Fq P w K mg base T;refine T.F_z30.ok sc_z30 (fun vs H Q E h=>by unfold CB at h;split at h <;> first | rfl | exact h.elim) (fun cdv A outer s H vs Q E hr h=>?_);have hu:=Aa hr;have hr_z44:=hr.mono (show 19<=21+c by lia);have hr_z39:=hr.mono (show 20<=21+c by lia);have hr_z41:=hr.mono (show 1<=21+c by lia);have hr_z30:=hr;have mo1:Ai (Bi K 17):=GA;unfold CB at h;split at h;rotate_left
 ·exact h.elim
 rename_i v p d;obtain⟨ls,rs,ts,kvs,hv,G,he,hp,hrise,hlt,hne,hc,hd,M,q⟩:=h;obtain⟨a,tl,rl,ps,rfl,g⟩:=CU hv;have npd:p≠d:=Av hp hd (by intro z;cases z);refine⟨_,(@AF _ _ _ _ _ (@Ap _ _ _ _ _ _ _ _ (AW (kEq (K:=K) hu) (AJ G_z44 hr_z44 rfl T.m_z44 T.F_z44.kp T.b_z44 .nil AG (AA (vv 0) (AA (vv 1) (AA (vv 2) AB)))) AC) (@AH _ _ _ (@AM _ _ _ _ (A5 (AA C4 (AA (kIx (K:=K) (kIx (K:=K) (vv 0) AC) (kIx (K:=K) (vv 1) AC)) AB))))) Ao) (@AF _ _ _ _ _ (@AQ _ _ 3 _ _ _ _ sc_z30.nd rfl (by right) (AJ G_z39 hr_z39 rfl T.m_z39 T.F_z39.kp T.b_z39 .nil AG (AA (vv 0) (AA (vv 1) (AA (vv 2) AB)))) (by rfl) (by symm)) (@AF _ _ _ _ _ (@AQ _ _ 4 _ _ _ _ sc_z30.nd rfl (by right) (AJ G_z41 hr_z41 rfl T.m_z41 T.F_z41.kp T.b_z41 .nil AG (AA (vv 0) (AA (vv 1) (AA (vv 3) AB)))) (by rfl) (by symm)) (@AH _ _ _ (@AM _ _ _ _ (A5 (AA C4 (AA (vv 3) (AA (AJ G_z30 hr_z30 rfl T.m_z30 T.F_z30.kp T.b_z30 .nil AG (AA (vv 0) (AA (kIx (K:=K) (vv 4) AC) (AA (vv 2) AB)))) (AA (AJ G_z30 hr_z30 rfl T.m_z30 T.F_z30.kp T.b_z30 .nil AG (AA (vv 0) (AA (kIx (K:=K) (vv 4) AC) (AA (vv 2) AB)))) AB)))))))))),?_⟩;refine⟨ls,rs,ts,kvs,hv,G,he,hp,hrise,hlt,by lia,hd,M,fun m kvs1 H1 hm f1 hd1 M1=>?_⟩;have g1:=g.frm f1 hd Cd;have hp1:=f1 _ _ npd hp;have hz:=KM hm;refine Ag (fun e=>?_) (fun e=>?_)
 ·have m0:m=0:=by
   have:((m:Int) == 0)=true:=by simpa using e
   have:(m:Int)=0:=by simpa using this
   lia
  cases ets:ts with
  | nil=>exact absurd ets hne
  | cons t0 r =>
   have ht0:t0∈ts:=by rw[ets];exact Zl ..
   rw[ets]at hp1;refine⟨_,.ref tl,.inr g1.two,rfl,_,.int (t0:Nat),.inr (.of hp1),A2 (n:=0) rfl rfl,_,.int (AE ls t0),.inr g1.lab,Cc (hlt t0 ht0),smq rfl,fun u hu2=>?_⟩;have s2:Same H1 (upd H1 u (.tup [.str (Str.ofString "say"),.int (AE ls t0)])):=Same.upd hu2;refine q (.say (AE ls t0)) _ kvs1 _ ⟨?_,t0,?_,rfl⟩ (A0 (.of AD) (AN (by unfold Rep;rfl) (AN (by unfold Rep;rfl) AV))) (f1.trans (At s2)) (s2 _ _ hd1) M1
   ·rw[DF hrise hlt];exact hz.mp m0
   ·rw[DF hrise hlt];exact ZO ht0
 ·have ho:¬One (AE ls) (fun k=>decide (k∈ts)):=fun o=>by
   have m0:=hz.mpr o;subst m0;exact e (by simp)
  dsimp only[CW];refine⟨ls,rs,ts,kvs1,CL g1,G,he,hp1,hrise,hlt,ho,hd1,M1,fun j kvs2 H2 hj f2 hd2 M2=>?_⟩;dsimp only[AT];have g2:=g1.frm f2 hd1 Cd;have hp2:=f2 _ _ npd hp1
  have hjl:j < rs.length:=by
   have:=Zk.mp (Zp.mp hj.mem).1
   rw[ZC]at this;exact this
  have er:rs[j]? = some rs[j]:=ZE hjl;have eyj:(rs.map AO).getD j 0=AO rs[j]:=by rw[ZY,ZR,er];rfl
  have hpt:A1 (fun k=>decide (k∈ts)) (gB rs[j]):=by
   have:=(Dc hj.mem).2
   rw[eyj,DF hrise hlt,funext (mskR_bit rs[j])]at this;exact this
  obtain⟨n1,n2⟩:=parts_lefts.mp hpt;have tl16:=Gd hrise hlt;have l16:=G.l16;have hltL:∀ans,∀t∈AL rs[j] ans ts,t < ls.length:=fun ans t ht=>hlt t (mem_lefts.mp ht).1
  refine⟨ls,rs,ts,j,rs[j],CL g2,G,.of hp2,by lia,hlt,rfl,er,fun sl pn py H3 hl s3 gl3 hn3 hy3=>?_⟩;dsimp only[AT];have hd3:=s3 _ _ hd2;have g3:=g2.same s3;have nsd:sl≠d:=Av gl3 hd3 (by intro z;cases z);have nyd:py≠d:=Av hy3 hd3 (by intro z;cases z);refine⟨_,.ref pn,.inl (.of gl3),A2 (n:=0) rfl rfl,ls,rs,_,kvs2,CL g3,G,he,hn3,C3 hrise,hltL _,n2,by have:=GE hpt false;lia,hd3,M2,fun tn un kvs4 H4 bt4 rp4 f4 hd4 M4=>?_⟩;have g4:=g3.frm f4 hd3 Cd;refine⟨_,.ref py,.inl (.of (f4 _ _ nsd gl3)),A2 (n:=1) rfl rfl,ls,rs,_,kvs4,CL g4,G,he,f4 _ _ nyd hy3,C3 hrise,hltL _,n1,by have:=GE hpt true;lia,hd4,M4,fun ty uy kvs5 H5 bt5 rp5 f5 hd5 M5=>⟨smq rfl,fun u nu=>?_⟩⟩;have s6:Same H5 (upd H5 u (.tup [.str (Str.ofString "ask"),.int (j:Nat),un,uy])):=Same.upd nu;have rn5:Rep K H5 tn.dv un:=Rep.mv (fun a xs h=>C7 f5 hd4 Cd h) _ _ tn.tups rp4;refine q (.ask j tn ty) _ kvs5 _ ⟨?_,hj,?_,?_⟩ (A0 (.of AD) (AN (by unfold Rep;rfl) (AN (by unfold Rep;rfl) (AN (Rep.same s6 _ _ rn5) (AN (Rep.same s6 _ _ rp5) AV))))) (f1.trans (f2.trans ((At s3).trans (f4.trans (f5.trans (At s6)))))) (s6 _ _ hd5) M5
  ·rw[DF hrise hlt];exact ho
  ·rw[eyj,<- LV hrise hlt];exact bt4
  ·rw[eyj,<- LP hrise hlt];exact bt5
theorem Mj:∀c:Nat,c<=17->FnOk P w K mg base CX0 (21+c) T.f_z30 T.d_z30 ["_law_game_here","_law_things","_law_known"] (CB K c)
 | 0,_=>by
  have no:∀vs H Q E,¬CB K 0 vs H Q E:=fun vs H Q E h=>by
   unfold CB at h;split at h
   ·obtain⟨ls,rs,ts,kvs,_,_,_,_,_,_,_,z,_⟩:=h;exact absurd z (ZBQ _)
   ·exact h
  exact⟨fun vs H Q E h=>(no _ _ _ _ h).elim,fun A outer s H args us vs Q E _ _ _ _ h=>(no _ _ _ _ h).elim⟩
 | c+1,h=>Vw T c (by lia) (Mj c (by lia))
theorem Ts:FnOk P w K mg base CX0 38 T.f_z30 T.d_z30 ["_law_game_here","_law_things","_law_known"] (CB K 17):=Mj T 17 (by decide)
theorem Sf(a:FirstQ ls ys S i)(b:FirstQ ls ys S j):i=j:=by
 rcases Z8 i j with z | z | z
 ·have:=b.lt i a.mem z
  have:=a.le j b.mem
  lia
 ·exact z
 ·have:=a.lt j b.mem z
  have:=b.le i a.mem
  lia
theorem HM:∀(t u:Tr) (S:Nat),CJ ls ys t S->CJ ls ys u S->t=u
 | .say i,.say j,S,⟨o,k,hk,e⟩,⟨_,k',hk',e'⟩=>by rw[e,e',o k k' hk hk']
 | .say i,.ask q n y,S,⟨o,_⟩,⟨no,_⟩=>absurd o no
 | .ask q n y,.say i,S,⟨no,_⟩,⟨o,_⟩=>absurd o no
 | .ask q n y,.ask q' n' y',S,⟨_,f,hn,hy⟩,⟨_,f',hn',hy'⟩=>by
  have e:=Sf f f';subst e;rw[HM n n' _ hn hn',HM y y' _ hy hy']
def DS(K:W.Frag)(Pt:Addr):Sp:=fun vs H Q _=>match vs with
 | [v]=>∃ls rs,Rep K H (gmD ls rs) v/\Gm ls rs/\CD Pt H/\(∀i j u H',CO ls rs i j->Same H H'->Rep K H' (.tup [.str "none",.int (i:Nat),.int (j:Nat),.bl true]) u->Q u H')/\(BP ls rs ->
  ∀t es u H',CJ ls (rs.map AO) t (2 ^ ls.length - 1)->PInv ls (rs.map AO) ls.length (2 ^ ls.length - 1) es []->Rep K H' (.tup [.int (AY ls (rs.map AO) (2 ^ ls.length - 1):Nat),t.dv,Do es]) u->Grow Pt H H'->CD Pt H'->Q u H')
 | _=>False
theorem UV:Ai (DS K Pt):=fun vs H Q Q' E h q=>by
 unfold DS at *;split at q
 ·obtain⟨ls,rs,h1,h2,h3,q1,q2⟩:=q;exact⟨ls,rs,h1,h2,h3,fun i j u H' x1 x2 x3=>h _ _ (q1 i j u H' x1 x2 x3),fun he t es u H' x1 x2 x3 x4 x5=>h _ _ (q2 he t es u H' x1 x2 x3 x4 x5)⟩
 ·exact q.elim
theorem Tj(B:BMn mg base):FnOk P w K mg base CX0 97 T.f_z45 T.d_z45 ["_law_game_here"] (DS K T.p_z11):=by
 have G_z51:=@VX P w K mg base T B;refine T.F_z45.ok sc_z45 (fun vs H Q E h=>by unfold DS at h;split at h <;> first | rfl | exact h.elim) (fun cdv A outer s H vs Q E hr h=>?_);have hu:=Aa hr;have hr_z51:=hr.mono (show 96<=_ by decide);unfold DS at h;split at h;rotate_left
 ·exact h.elim
 rename_i v;obtain⟨ls,rs,hv,G,hL,q1,q2⟩:=h;refine⟨_,(@AF _ _ _ _ _ (@AQ _ _ 1 _ _ _ _ sc_z45.nd rfl (by right) DO (by rfl) (by symm)) (@AF _ _ _ _ _ (U9 (i:=1) (j:=2) sc_z45.nd rfl (by right) rfl rfl rfl rfl rfl T.mC_FlipError (Py G_z51 hr_z51 rfl T.m_z51 T.F_z51.kp T.b_z51 .nil (AA (vv 0) AB)) (fun _=>(@AF _ _ _ _ _ (@AQ _ _ 1 _ _ _ _ sc_z45.nd rfl (by right) (A5 (AA C4 AB)) (by rfl) (by symm)) (@AF _ _ _ _ _ (@AQ _ _ 3 _ _ _ _ sc_z45.nd rfl (by right) (@BG _ _ _ _ (AA (AU (DL (K:=K)) rfl T.z_isinstance (by rfl) (AA (vv 2) (AA (C5 (v:=.ref T.C_Alike) rfl T.mC_Alike rfl) AB))) (AA (AU (DL (K:=K)) rfl T.z_isinstance (by rfl) (AA (vv 2) (AA (C5 (v:=.ref T.C_NoName) rfl T.mC_NoName rfl) AB))) (AA (AU (DL (K:=K)) rfl T.z_isinstance (by rfl) (AA (vv 2) (AA (C5 (v:=.ref T.C_NoRow) rfl T.mC_NoRow rfl) AB))) (AA (AU (DL (K:=K)) rfl T.z_isinstance (by rfl) (AA (vv 2) (AA (C5 (v:=.ref T.C_NoTable) rfl T.mC_NoTable rfl) AB))) AB))))) (by rfl) (by symm)) (@AH _ _ _ (@Ap _ _ _ _ _ _ _ _ (PW.pt (Cg (AW (NR (K:=K)) Az (vv 3)) (Cg (Ba (AU (DL (K:=K)) rfl T.z_isinstance (by rfl) (AA (vv 2) (AA (C5 (v:=.ref T.C_NoEnd) rfl T.mC_NoEnd rfl) AB)))) (Cq (CY (Ba (AU (DL (K:=K)) rfl T.z_isinstance (by rfl) (AA (vv 2) (AA (A5 (AA (C5 (v:=.ref T.C_NoText) rfl T.mC_NoText rfl) (AA (C5 (v:=.ref T.C_NoThing) rfl T.mC_NoThing rfl) AB))) AB))))))))) (@AH _ _ _ (@AQ _ _ 1 _ _ _ _ sc_z45.nd rfl (by right) (A5 (AA C4 (AA (J3 (K:=K) (vv 2)) (AA (J3 (K:=K) (vv 2)) (AA (AU (DL (K:=K)) rfl T.z_isinstance (by rfl) (AA (vv 2) (AA (DH (v:=.ty "ValueError") rfl T.z_ValueError (by rfl) rfl) AB))) AB))))) (by rfl) (by symm))) Ao)))))) (@AH _ _ _ (@AM _ _ _ _ (vv 1))))),?_⟩;refine⟨ls,rs,hv,G,hL,fun i j hf d H' s' gd=>⟨T.xm_NoEnd_FlipError,fun x hx=>?_⟩,fun he t es u H' bt pi rp gr L'=>?_⟩;rotate_left
 ·show Q u H';exact q2 he t es u H' bt pi rp gr L'
 have dx:d≠x:=fun z=>by rw[z,hx]at gd;cases gd
 have e0:ExcAt (upd H' x (CA x (.ref T.C_NoEnd) (some d))) x T.C_NoEnd (some d):=⟨AD,fun d' e=>by cases e;exact⟨_,by rw[AI dx];exact gd⟩⟩;have g0:upd H' x (CA x (.ref T.C_NoEnd) (some d)) d=some (XdO d (IZ i j)):=by rw[AI dx];exact gd
 have s0:=s'.trans (Same.upd (o:=CA x (.ref T.C_NoEnd) (some d)) hx);generalize upd H' x (CA x (.ref T.C_NoEnd) (some d))=H2 at *;have es:∀{H3},Same H2 H3->ExcAt H3 x T.C_NoEnd (some d):=fun s=>⟨s _ _ e0.1,fun d' e=>let ⟨o,g⟩:=e0.2 d' e;⟨o,s _ _ g⟩⟩
 refine⟨smq rfl,fun p1 h1=>?_⟩;have s1:=Same.upd (o:=.tup [.str "odd"]) h1;refine⟨_,_,_,es s1,T.xc_NoEnd,.inl T.kk_NoEnd_Alike,_,_,_,es s1,T.xc_NoEnd,.inl T.kk_NoEnd_NoName,_,_,_,es s1,T.xc_NoEnd,.inl T.kk_NoEnd_NoRow,_,_,_,es s1,T.xc_NoEnd,.inl T.kk_NoEnd_NoTable,smq rfl,fun lo hlo=>?_⟩;have s2:=s1.trans (Same.upd (o:=.lst [.bl false,.bl false,.bl false,.bl false]) hlo);dsimp only[AT];refine⟨_,.inl (.of AD),rfl,rfl,?_⟩;refine⟨_,_,true,es s2,T.xc_NoEnd,.inl T.kk_NoEnd_NoEnd,?_⟩;refine⟨smq rfl,fun p2 h2=>?_⟩;have s3:=s2.trans (Same.upd (o:=.tup [.ref T.C_NoText,.ref T.C_NoThing]) h2);refine⟨_,_,false,es s3,T.xc_NoEnd,.inr ⟨[T.C_NoText,T.C_NoThing],AD,?_⟩,?_⟩
 ·simp only[List.map,W.kitAny,T.kk_NoEnd_NoText,T.kk_NoEnd_NoThing]
 refine⟨_,d,_,_,es s3,s3 _ _ g0,T.xc_NoEnd,T.na_NoEnd_one,T.hd_NoEnd,rfl,_,d,_,_,es s3,s3 _ _ g0,T.xc_NoEnd,T.na_NoEnd_other,T.hd_NoEnd,rfl,_,_,true,es s3,T.xc_NoEnd,T.kk_NoEnd_ValueError,smq rfl,fun p3 h3=>?_⟩;have s4:=s3.trans (Same.upd (o:=.tup [.str "none",.int (i:Nat),.int (j:Nat),.bl true]) h3);exact q1 i j _ _ hf (s0.trans s4) (BD AD (AN Ln (AN Bo (AN Bo (AN (by unfold Rep;rfl) AV)))))
abbrev Hl:=List (List Nat × Int)
def Qz(K:W.Frag)(H:Hp)(e:List Nat × Int)(x:V):Prop:=∃b c,x=.ref b/\SqT K H b [.ref c,.int e.2]/\SqT K H c (iL e.1)
structure EntsAt(K:W.Frag)(H:Hp)(es:Hl)(ua:Addr)(xs:List V):Prop where
 sq:SqT K H ua xs
 len:xs.length=es.length
 at_:∀(i:Nat) (e:List Nat × Int),es[i]? = some e->∃x,xs[i]? = some x/\Qz K H e x
theorem EntsAt.same{es:Hl}{ua:Addr}(h:EntsAt K H es ua xs)(s:Same H H'):EntsAt K H' es ua xs:=⟨s.sqT h.sq,h.len,fun i e he=>by
 obtain⟨x,h1,b,c,h2,h3,h4⟩:=h.at_ i e he;exact⟨x,h1,b,c,h2,s.sqT h3,s.sqT h4⟩⟩
def Cr(es:List (Nat × Nat)):Hl:=es.map fun e=>(Au e.1,((e.2:Nat):Int))
theorem Nl:∀{ts:List Nat} {xs:List V},Reps K H (iD ts) xs->xs=iL ts
 | [],xs,h=>by unfold iD at h;simp only[List.map_nil]at h;unfold Reps at h;exact h
 | t::ts,xs,h=>by
  have h':Reps K H (Dv.int (t:Nat)::iD ts) xs:=h;unfold Reps at h';obtain⟨x,r,rfl,h1,h2⟩:=h';unfold Rep at h1;rw[h1,Nl h2];rfl
theorem Vb{es:List (Nat × Nat)}(h:Rep K H (Do es) v):∃ua xs,v=.ref ua/\EntsAt K H (Cr es) ua xs:=by
 obtain⟨ua,xs,rfl,hs,hx⟩:=Ch h;refine⟨ua,xs,rfl,hs,by rw[<- hx.length,ZC];unfold Cr;rw[ZC],fun i e he=>?_⟩;unfold Cr at he;rw[ZR]at he;obtain⟨e',he',rfl⟩:=ZB7.mp he;obtain⟨x,h1,h2⟩:=hx.get (i:=i) (d:=C8 e') (by rw[ZR,he'];rfl);refine⟨x,h1,?_⟩;obtain⟨b,ys,rfl,hb,hy⟩:=Ch h2;unfold Reps at hy;obtain⟨x0,l0,rfl,r0,hy⟩:=hy;unfold Reps at hy;obtain⟨x1,l1,rfl,r1,hy⟩:=hy;unfold Reps at hy;subst hy;obtain⟨c,zs,rfl,hc,hz⟩:=Ch r0;unfold Rep at r1;subst r1;rw[Nl hz]at hc;exact⟨b,c,rfl,hb,hc⟩
def DD:Sp:=fun vs H Q _=>match vs with
 | [.int _]=>Q (.bl true) H
 | _=>False
theorem Jr:Ai DD:=fun vs H Q Q' E h q=>by
 unfold DD at *;split at q
 ·exact h _ _ q
 ·exact q.elim
theorem NL:FnOk P w K mg base CX0 1 T.f_z22 T.d_z22 ["_law_thing"] DD:=by
 refine T.F_z22.ok V4 (fun vs H Q E h=>by unfold DD at h;split at h <;> first | rfl | exact h.elim) (fun cdv A outer s H vs Q E hr h=>?_);have hu:=Aa hr;unfold DD at h;split at h;rotate_left
 ·exact h.elim
 rename_i i;refine⟨_,(@AH _ _ _ (@AM _ _ _ _ (Ry (AU (Dh (K:=K)) rfl T.z_isinstance (by rfl) (AA (vv 0) (AA (DH (v:=.ty "int") rfl T.z_int (by rfl) rfl) AB))) (KN (KL (AU (Dh (K:=K)) rfl T.z_isinstance (by rfl) (AA (vv 0) (AA (DH (v:=.ty "bool") rfl T.z_bool (by rfl) rfl) AB)))))))),?_⟩;exact⟨by decide,.int i,Bo,by decide,.int i,Bo,h⟩
def Dr(K:W.Frag):Sp:=fun vs H Q _=>match vs with
 | [u,.ref p]=>∃ls rs ts,Rep K H (gmD ls rs) u/\Gm ls rs/\SqT K H p (iL ts)/\ts.length<=100/\ts.Pairwise (· < ·)/\(∀t∈ts,t < ls.length)/\Q (.bl true) H
 | _=>False
theorem OS:Ai (Dr K):=fun vs H Q Q' E h q=>by
 unfold Dr at *;split at q
 ·revert q;repeat' first | exact h _ _ | exact B3 h | exact out_mono h | exact outT_mono h | walk_at "m"
 ·exact q.elim
theorem PF:FnOk P w K mg base CX0 2 T.f_z26 T.d_z26 ["_law_game_here","_law_thing"] (Dr K):=by
 have G_z22:=@NL P w K mg base T;refine T.F_z26.ok sc_z26 (fun vs H Q E h=>by unfold Dr at h;split at h <;> first | rfl | exact h.elim) (fun cdv A outer s H vs Q E hr h=>?_);have hu:=Aa hr;have hr_z22:=hr.mono (show 1<=_ by decide);have mo1:Ai DD:=Jr;unfold Dr at h;split at h;rotate_left
 ·exact h.elim
 rename_i u p;obtain⟨ls,rs,ts,hv,G,hp,hl,hrise,hlt,q⟩:=h;obtain⟨a,tl,rl,ps,rfl,g⟩:=CU hv;refine⟨_,(@AF _ _ _ _ _ (@Ap _ _ _ _ _ _ _ _ (CY (Ba (AU (Dh (K:=K)) rfl T.z_isinstance (by rfl) (AA (vv 1) (AA (DH (v:=.ty "tuple") rfl T.z_tuple (by rfl) rfl) AB))))) (@AH _ _ _ (@AM _ _ _ _ Az)) Ao) (@AF _ _ _ _ _ (@BK _ _ _ _ _ _ _ _ PassesOwn.never rfl (Aw rfl T.z_range (AA (AU (Ay (K:=K)) rfl T.z_len (by rfl) (AA (vv 1) AB)) AB)) (AS (i:=2) sc_z26.nd rfl (by right)) (@AF _ _ _ _ _ (@Ap _ _ _ _ _ _ _ _ (PW.pt (DK (CY (Ba (AJ G_z22 hr_z22 rfl T.m_z22 T.F_z22.kp T.b_z22 .nil AG (AA (kIx (K:=K) (vv 1) (vv 2)) AB)))) (DK (AW CQ (kIx (K:=K) (vv 1) (vv 2)) AC) (E8 (AW Hn (kIx (K:=K) (vv 1) (vv 2)) (AU (Ay (K:=K)) rfl T.z_len (by rfl) (AA (kIx (K:=K) (vv 0) AC) AB))))))) (@AH _ _ _ (@AM _ _ _ _ Az)) Ao) (@AH _ _ _ (@Ap _ _ _ _ _ _ _ _ (PW.pt (Cg (AW C6 (vv 2) AC) (Cq (AW Ob (kIx (K:=K) (vv 1) (vv 2)) (kIx (K:=K) (vv 1) (AR E5 (vv 2) AC)))))) (@AH _ _ _ (@AM _ _ _ _ Az)) Ao))) (by intro _;rfl)) (@AH _ _ _ (@AM _ _ _ _ Az)))),?_⟩;refine Ad (fun σ H'=>σ=[some (.ref a),some (.ref p),none]/\H=H') ⟨by decide,_,A0 hp (B7 ts),rfl,rfl⟩ ?_ (by walk_at "sm");rintro σ _ ⟨rfl,rfl⟩;refine Ad (fun σ H'=>H=H') ?_ (fun σ H' e=>by subst e;exact q) (by walk_at "sm");refine⟨ts.length,.inr ⟨_,hp,by rw[Aj]⟩,(ts.length:Int),rfl,by lia,by lia,?_⟩;rw[Zc];refine Bk (fun k σ H'=>H=H'/\∃x,σ=[some (.ref a),some (.ref p),x]) ⟨rfl,none,rfl⟩ ?_ (fun σ H' h=>h.1);rintro k σ _ hk ⟨rfl,x,rfl⟩;have ez:(0:Int)+(k:Int)=((k:Nat):Int):=by lia
 rw[ez];have at_:∀{i:Nat} (hi:i < ts.length),atI (iL ts) ((i:Nat):Int)=some (.int ((ts[i]:Nat):Int)):=fun {i} hi=>A2 rfl (by unfold iL;rw[ZR,ZE hi];rfl)
 have hk1:=hlt _ (Zo hk);refine Ad (fun σ H'=>σ=[some (.ref a),some (.ref p),some (.int (k:Nat))]/\H=H') ?_ ?_ (by walk_at "sm")
 ·have ak:=at_ hk;have z0:(0:Int)<=((ts[k]:Nat):Int):=by lia
  have z1:((ts[k]:Nat):Int) < ls.length:=by lia
  generalize ((ts[k]:Nat):Int)=z at *;refine⟨_,_,.inr hp,ak,_,_,.inr hp,ak,Ag (fun e=>absurd (ZQ e) (by lia)) fun _=>⟨_,_,.inr hp,ak,_,.ref tl,.inr g.two,rfl,ls.length,.inr ⟨_,g.lab,by rw[ZC]⟩,Ag (fun e=>absurd (ZQ e) (by lia)) fun _=>⟨rfl,rfl⟩⟩⟩
 rintro σ _ ⟨rfl,rfl⟩;refine Ag (fun e=>?_) (fun _=>⟨rfl,_,rfl⟩);have k0:0 < k:=by have:=ZQ e;lia
 have hk':k - 1 < ts.length:=by lia
 have a1:=at_ hk;have a2:=at_ hk';have hlt2:=List.pairwise_iff_getElem.mp hrise (k - 1) k hk' hk (by lia);have e3:(((k - 1:Nat):Nat):Int)=(k:Int) - 1:=by lia
 rw[e3]at a2;refine⟨_,_,.inr hp,a1,_,_,.inr hp,a2,Ag (fun e=>absurd (ZQ e) (by lia)) fun _=>⟨rfl,_,rfl⟩⟩
theorem Ut(k:Nat):∀ts:List Nat,inV (.int (k:Int)) (iL ts)=decide (k∈ts):=by
 intro ts
 induction ts with
 | nil=>rfl
 | cons t ts ih =>
  have e:inV (.int (k:Int)) (iL (t::ts))=(((t:Int) == (k:Int)) || inV (.int (k:Int)) (iL ts)):=rfl;rw[e,ih,Z7];simp only[Bool.or_eq_true,beq_iff_eq,decide_eq_true_iff,ZF];constructor
  ·rintro(h | h)
   ·exact .inl (by lia)
   ·exact .inr h
  ·rintro(h | h)
   ·exact .inl (by lia)
   ·exact .inr h
theorem KG:∀ts:List Nat,(iL ts).all BY=true
 | []=>rfl
 | t::ts=>by show(true && (iL ts).all BY)=true;rw[KG ts];rfl
theorem KY{ds:List Dv}(h:H p=some (.lst xs))(r:Reps K H ds xs):Rep K H (.lst ds) (.ref p):=by unfold Rep;exact⟨p,xs,rfl,.of h,r⟩
theorem RL(ts:List Nat):eqD (.lst (iD ts)) (.lst [])=decide (ts=[]):=by
 rw[EF];cases ts with
 | nil=>rfl
 | cons t ts=>rfl
def Dk(K:W.Frag):Sp:=fun vs H Q _=>match vs with
 | [u,.ref ua,.ref tp,.int num,.int qz]=>∃ls rs es xs ts j r,Rep K H (gmD ls rs) u/\Gm ls rs/\EntsAt K H es ua xs/\(∀e∈es,e.1.length<=100)/\SqT K H tp (iL ts)/\ts.length<=100/\(∀t∈ts,t < ls.length)/\qz=(j:Nat)/\rs[j]? = some r/\∀(b:Bool) H',(b=true ↔ ∃ans:Bool,∃e'∈es,num - 1<=e'.2/\∀t∈e'.1,t∈ts/\gB r t=ans)->Same H H'->Q (.bl b) H'
 | _=>False
theorem Td:Ai (Dk K):=fun vs H Q Q' E h q=>by
 unfold Dk at *;split at q
 ·revert q;repeat' first | exact h _ _ | exact B3 h | exact out_mono h | exact outT_mono h | walk_at "m"
 ·exact q.elim
theorem Pj:FnOk P w K mg base CX0 2 T.f_z33 T.d_z33 ["_law_game_here","_law_paper","_law_things","_law_number","_law_question"] (Dk K):=by
 have G_z41:=@Fq P w K mg base T;refine T.F_z33.ok sc_z33 (fun vs H Q E h=>by unfold Dk at h;split at h <;> first | rfl | exact h.elim) (fun cdv A outer s H vs Q E hr h=>?_);have hu:=Aa hr;have hr_z41:=hr.mono (show 1<=_ by decide);have mo1:Ai (Cm K):=Jc;unfold Dk at h;split at h;rotate_left
 ·exact h.elim
 rename_i u ua tp num qz;obtain⟨ls,rs,es,xs,ts,j,r,hg,G,E0',hel,htp,htl,htn,e1,hr0,q⟩:=h;subst e1;refine⟨_,(@AF _ _ _ _ _ (@BK _ _ _ _ _ _ _ _ PassesOwn.never rfl (BA (K:=K) (AJ G_z41 hr_z41 rfl T.m_z41 T.F_z41.kp T.b_z41 .nil AG (AA (vv 0) (AA (vv 2) (AA (vv 4) AB))))) (AS (i:=5) sc_z33.nd rfl (by right)) (@AH _ _ _ (@BK _ _ _ _ _ _ _ _ PassesOwn.never rfl (BA (K:=K) (vv 1)) (Mu (K:=K) (n:=2) rfl (Bz (AS (i:=6) sc_z33.nd rfl (by right)) (Bz (AS (i:=7) sc_z33.nd rfl (by right)) Dx))) (@AH _ _ _ (@Ap _ _ _ _ _ _ _ _ (PW.pt (Cg (AW Hn (vv 7) (AR E5 (vv 3) AC)) (Cq (AW (kEq (K:=K) hu) (Aq (N':=["_law_k","_law_side"]) (own:=1) (ix:=[5]) rfl (BA (K:=K) (vv 6)) (by kernel_rfl) rfl rfl (by kernel_rfl) (fun c=>AS (i:=0) (show(["_law_k","_law_side"]:List Str).Nodup by decide +kernel) rfl (by right)) (Ah (by decide)) (fun c=>DC (AW (NR (K:=K)) (vv 0) (vv 1))) (fun c=>(vv 0))) (BG AB))))) (@AH _ _ _ (@AM _ _ _ _ Az)) Ao)) (by intro _;rfl))) (by intro _;rfl)) (@AH _ _ _ (@AM _ _ _ _ Az))),?_⟩;let bad:Bool->Prop:=fun ans=>∀e'∈es,¬(num - 1<=e'.2/\∀t∈e'.1,t∈ts/\gB r t=ans)
 refine Ad (fun σ H'=>Same H H'/\bad false/\bad true) ?_ (fun σ H' ⟨s,b1,b2⟩=>q false H' ⟨(fun z=>nomatch z),fun⟨ans,e',he',h⟩=>by cases ans;exact(b1 e' he' h).elim;exact(b2 e' he' h).elim⟩ s) (by walk_at "sm");refine⟨ls,rs,ts,j,r,hg,G,htp,htl,htn,rfl,hr0,fun l pn py H1 nl s1 gl gn gy=>.inl ⟨⟨_,.of gl⟩,?_⟩⟩;refine MS (xs:=[.ref pn,.ref py]) (fun i σ H'=>(∃z5 z6 z7:Option V,σ=[some u,some (.ref ua),some (.ref tp),some (.int num),some (.int (j:Nat)),z5,z6,z7])/\Same H1 H'/\(0 < i->bad false)/\(1 < i->bad true)) ⟨⟨_,_,_,rfl⟩,Same.refl _,fun h=>absurd h (Zd _),fun h=>absurd h (by decide)⟩ (fun i σ H' _ ⟨_,s,_⟩=>.inl (.of (s _ _ gl))) ?_ (fun σ H' ⟨_,s,h1,h2⟩=>⟨s1.trans s,h1 (show 0 < 2 by decide),h2 (show 1 < 2 by decide)⟩);rintro i x σ H2 hx ⟨⟨z5,z6,z7,rfl⟩,s2,b1,b2⟩
 obtain⟨ans,ps,rfl,hps,hi⟩:∃(ans:Bool) (ps:Addr),x=.ref ps/\H1 ps=some (.tup (iL (AL r ans ts)))/\((i=0/\ans=false)\/(i=1/\ans=true)):=by
  match i,hx with
  | 0,hx=>cases hx;exact⟨false,pn,rfl,gn,.inl ⟨rfl,rfl⟩⟩
  | 1,hx=>cases hx;exact⟨true,py,rfl,gy,.inr ⟨rfl,rfl⟩⟩
  | i+2,hx=>simp at hx
 have E2:=(E0'.same s1).same s2;refine .inr ⟨⟨_,E2.sq⟩,?_⟩;refine Ir (xs:=xs) (fun jj σ H'=>(∃z6 z7:Option V,σ=[some u,some (.ref ua),some (.ref tp),some (.int num),some (.int (j:Nat)),some (.ref ps),z6,z7])/\Same H2 H'/\∀e'∈es.take jj,¬(num - 1<=e'.2/\∀t∈e'.1,t∈ts/\gB r t=ans)) ⟨⟨_,_,rfl⟩,Same.refl _,fun e' he'=>by rw[List.take_zero]at he';cases he'⟩ (fun jj σ H' _ ⟨_,s,_⟩=>s.sqT E2.sq) ?_ ?_
 ·rintro jj x σ H3 hxj ⟨⟨z6,z7,rfl⟩,s3,b3⟩;have hj:jj < es.length:=by rw[<- E2.len];exact(Zm.mp hxj).1
  have ee:es[jj]? = some es[jj]:=ZE hj;have hel':=hel _ (Zo hj);have hmem:es[jj]∈es:=Zo hj;obtain⟨x',ex,b,c,rfl,hb,hc⟩:=(E2.same s3).at_ jj _ ee;rw[hxj]at ex;cases ex;generalize es[jj]=e at *;have hps3:=s3 _ _ (s2 _ _ hps);have S3:=s1.trans (s2.trans s3);refine⟨_,.inr hb,rfl,_,_,rfl,_,_,rfl,rfl,?_⟩
  have step:∀H4,¬(num - 1<=e.2/\∀t∈e.1,t∈ts/\gB r t=ans)->Same H3 H4->(∃z6 z7:Option V,[some u,some (V.ref ua),some (V.ref tp),some (V.int num),some (V.int (j:Nat)),some (V.ref ps),some (V.ref c),some (V.int e.2)]=[some u,some (.ref ua),some (.ref tp),some (.int num),some (.int (j:Nat)),some (.ref ps),z6,z7])/\Same H2 H4/\∀e'∈es.take (jj+1),¬(num - 1<=e'.2/\∀t∈e'.1,t∈ts/\gB r t=ans):=fun H4 hn s4=>by
   refine⟨⟨_,_,rfl⟩,s3.trans s4,fun e' he'=>?_⟩;rw[Zx,ee]at he'
   rcases ZW.mp he' with y | y
   ·exact b3 e' y
   ·have:e'=e:=by simpa using y
    rw[this];exact hn
  refine Ag (fun z=>?_) (fun z=>?_)
  ·have z:num - 1<=e.2:=ZQ z;refine .inr ⟨⟨_,hc⟩,?_⟩
   refine CG (xs:=iL e.1) (fun t zs H'=>H'=H3/\zs=iL ((e.1.take t).filter fun k=>decide (k∉AL r ans ts))) ⟨rfl,rfl⟩ (fun t zs H' _ ⟨e,_⟩=>by rw[e];exact hc) (fun t zs H' ht ⟨_,e'⟩=>by
    rw[Aj]at ht;rw[e',Aj];exact Nat.lt_of_le_of_lt (ZBj _ _) (by rw[Ze];exact Af (by lia))) ?_ ?_
   ·rintro t x zs H' hx ⟨rfl,rfl⟩;obtain⟨k,hk,_,rfl⟩:=B1 hx;refine⟨_,.inr (.of hps3),rfl,KG _,?_⟩;rw[Zx,hk,ZBi]
    have e2:(true ^^ inV (.int (k:Int)) (iL (AL r ans ts)))=decide (k∉AL r ans ts):=by
     rw[Ut,Bool.true_xor]
     by_cases y:k∈AL r ans ts <;> simp[y]
    show if (true ^^ inV (.int (k:Int)) (iL (AL r ans ts)))=true then _ else _
    rw[e2];refine Ag (fun h=>?_) (fun h=>?_)
    ·refine⟨rfl,?_⟩;show _=iL (_++List.filter _ [k]);rw[ZBY,if_pos h,List.filter_nil,Bc];rfl
    ·refine⟨rfl,?_⟩;show _=iL (_++List.filter _ [k]);rw[ZBY,if_neg h,List.filter_nil,Zt]
   ·rintro zs H' ⟨rfl,rfl⟩ l4 nl4;rw[Aj,ZBE];refine⟨smq rfl,fun l5 nl5=>?_⟩;have s4:=Same.upd (o:=.lst (iL (e.1.filter fun k=>decide (k∉AL r ans ts)))) nl4;have s5:=Same.upd (o:=.lst []) nl5;refine⟨.lst (iD (e.1.filter fun k=>decide (k∉AL r ans ts))),.lst [],KY (s5 _ _ AD) (B7 _),KY AD AV,by unfold Ac;rw[Dg];decide,?_⟩;rw[RL]
    have key:(e.1.filter fun k=>decide (k∉AL r ans ts))=[] ↔ ∀t∈e.1,t∈ts/\gB r t=ans:=by
     rw[List.filter_eq_nil_iff];constructor
     ·intro h t ht;exact mem_lefts.mp (by simpa using h t ht)
     ·intro h t ht;simpa using mem_lefts.mpr (h t ht)
    generalize (e.1.filter fun k=>decide (k∉AL r ans ts))=fs at *
    by_cases y:fs=[]
    ·rw[ZO y];exact q true _ ⟨fun _=>⟨ans,e,hmem,z,key.mp y⟩,fun _=>rfl⟩ (S3.trans (s4.trans s5))
    ·rw[Zy y];exact step _ (fun h=>y (key.mpr h.2)) (s4.trans s5)
  ·exact step _ (fun h=>z (ZO h.1)) (Same.refl _)
 ·rintro σ H3 ⟨⟨z6,z7,rfl⟩,s3,b3⟩;rw[E2.len,ZBE]at b3;refine⟨⟨_,_,_,rfl⟩,s2.trans s3,fun h=>?_,fun h=>?_⟩
  ·rcases hi with ⟨rfl,rfl⟩ | ⟨rfl,rfl⟩
   ·exact b3
   ·exact b1 (by decide)
  ·rcases hi with ⟨rfl,rfl⟩ | ⟨rfl,rfl⟩
   ·exact absurd h (by decide)
   ·exact b3
def DZ(K:W.Frag):Sp:=fun vs H Q _=>match vs with
 | [u,.int z,v]=>∃ls rs es n S0,Rep K H (gmD ls rs) u/\Gm ls rs/\Rep K H (Do es) v/\PInv ls (rs.map AO) n S0 es []/\z=(AY ls (rs.map AO) S0:Nat)/\∀H',Same H H'->Q (.bl true) H'
 | _=>False
theorem SM:Ai (DZ K):=fun vs H Q Q' E h q=>by
 unfold DZ at *;split at q
 ·revert q;repeat' first | exact h _ _ | exact B3 h | exact out_mono h | exact outT_mono h | walk_at "m"
 ·exact q.elim
theorem TQ{es:List (Nat × Nat)}{S0:Nat}(I:PInv ls (rs.map AO) n S0 es []){e:Nat × Nat}(he:e∈es)(h1:1 < e.2)(hj:rs[j]? = some r) :
 ∃ans:Bool,∃e'∈Cr es,((e.2:Nat):Int) - 1<=e'.2/\∀t∈e'.1,t∈Au e.1/\gB r t=ans:=by
 have hjl:j < (rs.map AO).length:=by rw[ZC];exact(Zm.mp hj).1
 have eyj:(rs.map AO).getD j 0=AO r:=by rw[ZY,ZR,hj];rfl
 obtain⟨c1,c2,c3,c4⟩:=I.ok e he;have hle:=Jn hjl c2
 have fin:∀(X:Nat) (ans:Bool),B0 ls (rs.map AO) e.1 j X->(∀t,X.testBit t=true->e.1.testBit t=true/\gB r t=ans)->∃ans:Bool,∃e'∈Cr es,((e.2:Nat):Int) - 1<=e'.2/\∀t∈e'.1,t∈Au e.1/\gB r t=ans:=by
  intro X ans hX hb;have hn:=ND hX
  rcases I.cl e he h1 j X hjl hX with z | z
  ·obtain⟨e',he',ee⟩:=ZP.mp z;have d4:=(I.ok e' he').2.2.2;rw[ee,hn]at d4;refine⟨ans,(Au e'.1,((e'.2:Nat):Int)),ZP.mpr ⟨e',he',rfl⟩,by show((e.2:Nat):Int) - 1<=((e'.2:Nat):Int);lia,fun t ht=>?_⟩;have ht:t∈Au e'.1:=ht;rw[ee]at ht;obtain⟨b1,b2⟩:=hb t (mem_memS.mp ht);exact⟨mem_memS.mpr b1,b2⟩
  ·cases z
 rcases Zu (AY ls (rs.map AO) (e.1 - (e.1 &&& AO r))) (AY ls (rs.map AO) (e.1 &&& AO r)) with z | z
 ·refine fin _ true (.inl ⟨rfl,by rw[eyj];exact z⟩) fun t ht=>?_
  rw[eyj,ZBI,mskR_bit,Zb]at ht;exact ht
 ·refine fin _ false (.inr ⟨rfl,by rw[eyj];exact z⟩) fun t ht=>?_
  rw[eyj,EX,mskR_bit,Zb,Bool.not_eq_true']at ht;exact ht
theorem Po:FnOk P w K mg base CX0 3 T.f_z48 T.d_z48 ["_law_game_here","_law_d","_law_paper"] (DZ K):=by
 have G_z26:=@PF P w K mg base T;have G_z22:=@NL P w K mg base T;have G_z33:=@Pj P w K mg base T;refine T.F_z48.ok sc_z48 (fun vs H Q E h=>by unfold DZ at h;split at h <;> first | rfl | exact h.elim) (fun cdv A outer s H vs Q E hr h=>?_);have hu:=Aa hr;have hr_z26:=hr.mono (show 2<=_ by decide);have hr_z22:=hr.mono (show 1<=_ by decide);have hr_z33:=hr.mono (show 2<=_ by decide);have mo1:Ai DD:=Jr;have mo2:Ai (Dr K):=OS;have mo3:Ai (Dk K):=Td;unfold DZ at h;split at h;rotate_left
 ·exact h.elim
 rename_i u z v;obtain⟨ls,rs,es,n,S0,hv,G,hw,I,ez,q⟩:=h;subst ez;have l16:=G.l16;have r16:=G.r16;have hel:=I.len;obtain⟨a,tl,rl,ps,rfl,g⟩:=CU hv;obtain⟨ua,xs,rfl,E0'⟩:=Vb hw;have hxl:xs.length=es.length:=by rw[E0'.len];unfold Cr;rw[ZC]
 have ent:∀{i:Nat} {x:V} {H':Hp},Same H H'->xs[i]? = some x->∃e b c,es[i]? = some e/\e∈es/\x=.ref b/\SqT K H' b [.ref c,.int (e.2:Nat)]/\SqT K H' c (iL (Au e.1)):=fun {i x H'} s hx=>by
  have hi:i < es.length:=by rw[<- hxl];exact(Zm.mp hx).1
  obtain⟨x',h1,b,c,h2,h3,h4⟩:=E0'.at_ i (Au es[i].1,((es[i].2:Nat):Int)) (by unfold Cr;rw[ZR,ZE hi];rfl);rw[hx]at h1;cases h1;exact⟨es[i],b,c,ZE hi,Zo hi,h2,s.sqT h3,s.sqT h4⟩
 have len16:∀e∈es,(Au e.1).length<=16:=fun e he=>by
  rw[Uq (I.ok e he).1]
  have:=DE ls.length e.1.testBit
  lia
 have low:∀e∈es,∀t∈Au e.1,t < ls.length:=fun e he t ht=>DA (I.ok e he).1 (mem_memS.mp ht)
 refine⟨_,(@AF _ _ _ _ _ (@Ap _ _ _ _ _ _ _ _ (CY (Ba (AU (Dh (K:=K)) rfl T.z_isinstance (by rfl) (AA (vv 2) (AA (DH (v:=.ty "tuple") rfl T.z_tuple (by rfl) rfl) AB))))) (@AH _ _ _ (@AM _ _ _ _ Az)) Ao) (@AF _ _ _ _ _ (@BK _ _ _ _ _ _ _ _ PassesOwn.never rfl (BA (K:=K) (vv 2)) (AS (i:=3) sc_z48.nd rfl (by right)) (@AF _ _ _ _ _ (@Ap _ _ _ _ _ _ _ _ (PW.pt (DK (CY (Ba (AU (Dh (K:=K)) rfl T.z_isinstance (by rfl) (AA (vv 3) (AA (DH (v:=.ty "tuple") rfl T.z_tuple (by rfl) rfl) AB))))) (DK (AW (kNe (K:=K) hu) (AU (Ay (K:=K)) rfl T.z_len (by rfl) (AA (vv 3) AB)) AC) (E8 (CY (Ba (AJ G_z26 hr_z26 rfl T.m_z26 T.F_z26.kp T.b_z26 .nil AG (AA (vv 0) (AA (kIx (K:=K) (vv 3) AC) AB))))))))) (@AH _ _ _ (@AM _ _ _ _ Az)) Ao) (@AH _ _ _ (@Ap _ _ _ _ _ _ _ _ (PW.pt (DK (CY (Ba (AJ G_z22 hr_z22 rfl T.m_z22 T.F_z22.kp T.b_z22 .nil AG (AA (kIx (K:=K) (vv 3) AC) AB)))) (DK (AW CQ (kIx (K:=K) (vv 3) AC) AC) (E8 (AW CQ (AU NM rfl T.z_len (by rfl) (AA (As (J7 (K:=K) rfl) rfl T.z_set (by rfl) (AA (Aq (N':=["_law_k","_law_game_here"]) (own:=1) (ix:=[0]) rfl (BA (K:=K) (kIx (K:=K) (vv 3) AC)) (by kernel_rfl) rfl rfl (by kernel_rfl) (fun c=>AS (i:=0) (show(["_law_k","_law_game_here"]:List Str).Nodup by decide +kernel) rfl (by right)) (Ah (by decide)) (fun c=>Ar) (fun c=>(kIx (K:=K) (kIx (K:=K) (vv 1) AC) (vv 0)))) AB)) AB)) AC))))) (@AH _ _ _ (@AM _ _ _ _ Az)) Ao))) (by intro _;rfl)) (@AF _ _ _ _ _ (@BK _ _ _ _ _ _ _ _ PassesOwn.never rfl (BA (K:=K) (vv 2)) (Mu (K:=K) (n:=2) rfl (Bz (AS (i:=4) sc_z48.nd rfl (by right)) (Bz (AS (i:=5) sc_z48.nd rfl (by right)) Dx))) (@AH _ _ _ (@BK _ _ _ _ _ _ _ _ PassesOwn.never rfl (Aw rfl T.z_range (AA (AR CP (AU (Ay (K:=K)) rfl T.z_len (by rfl) (AA (kIx (K:=K) (vv 0) AC) AB)) (As Hk rfl T.z_int (by rfl) (AA (Bm C6 (vv 5) AC) AB))) AB)) (AS (i:=6) sc_z48.nd rfl (by right)) (@AH _ _ _ (@Ap _ _ _ _ _ _ _ _ (CY (Ba (AJ G_z33 hr_z33 rfl T.m_z33 T.F_z33.kp T.b_z33 .nil AG (AA (vv 0) (AA (vv 2) (AA (vv 4) (AA (vv 5) (AA (vv 6) AB)))))))) (@AH _ _ _ (@AM _ _ _ _ Az)) Ao)) (by intro _;rfl))) (by intro _;rfl)) (@AH _ _ _ (@AM _ _ _ _ (Pg (Bm (kEq (K:=K) hu) (vv 1) AC) (KN (Bm (WJ (K:=K) hu) (Aq (N':=["_law_entry","_law_d"]) (own:=1) (ix:=[1]) rfl (BA (K:=K) (vv 2)) (by kernel_rfl) rfl rfl (by kernel_rfl) (fun c=>AS (i:=0) (show(["_law_entry","_law_d"]:List Str).Nodup by decide +kernel) rfl (by right)) (Ah (by decide)) (fun c=>DC (AW Hn (kIx (K:=K) (vv 0) AC) (vv 1))) (fun c=>(vv 0))) (BG AB))))))))),?_⟩;refine Ad (fun σ H'=>σ=[some (.ref a),some (.int (AY ls (rs.map AO) S0:Nat)),some (.ref ua),none,none,none,none]/\H=H') ⟨by decide,_,hw,rfl,rfl⟩ ?_ (by walk_at "sm");rintro σ _ ⟨rfl,rfl⟩;refine Ad (fun σ H'=>(∃x3,σ=[some (.ref a),some (.int (AY ls (rs.map AO) S0:Nat)),some (.ref ua),x3,none,none,none])/\Same H H') ?_ ?_ (by walk_at "sm")
 ·refine .inr ⟨⟨_,E0'.sq⟩,?_⟩;refine Ir (xs:=xs) (fun i σ H'=>(∃x3,σ=[some (.ref a),some (.int (AY ls (rs.map AO) S0:Nat)),some (.ref ua),x3,none,none,none])/\Same H H') ⟨⟨_,rfl⟩,Same.refl _⟩ (fun i σ H' _ ⟨_,s⟩=>s.sqT E0'.sq) ?_ (fun σ H' h=>h);rintro i x σ H1 hx ⟨⟨x3,rfl⟩,s1⟩;obtain⟨e,b,c,hei,hem,rfl,hb,hc⟩:=ent s1 hx;obtain⟨c1,c2,c3,c4⟩:=I.ok e hem;dsimp only[AT];have g1:=g.same s1;refine Ad (fun σ H'=>σ=[some (.ref a),some (.int (AY ls (rs.map AO) S0:Nat)),some (.ref ua),some (.ref b),none,none,none]/\H1=H') ?_ ?_ (by walk_at "sm")
  ·refine⟨by decide,_,A0 hb (AN (A0 hc (B7 _)) (AN Bo AV)),?_⟩;refine⟨2,.inr ⟨_,hb,rfl⟩,?_⟩;exact⟨_,.ref c,.inr hb,rfl,ls,rs,Au e.1,CL g1,G,hc,by have:=len16 e hem;lia,Rf _,low e hem,rfl,rfl⟩
  rintro σ _ ⟨rfl,rfl⟩;refine⟨_,.int (e.2:Nat),.inr hb,A2 (n:=1) rfl rfl,?_⟩;refine⟨_,.int (e.2:Nat),.inr hb,A2 (n:=1) rfl rfl,?_⟩;refine Ag (fun e'=>absurd (ZQ e') (by lia)) (fun _=>?_);refine⟨_,.ref c,.inr hb,rfl,.inr ⟨⟨_,hc⟩,?_⟩⟩
  refine CG (xs:=iL (Au e.1)) (fun k zs H'=>H'=H1/\zs=(((Au e.1).take k).map (AE ls)).map V.int) ⟨rfl,rfl⟩ (fun k zs H' _ ⟨e,_⟩=>by rw[e];exact hc) (fun k zs H' hk ⟨_,e'⟩=>by
   have:=len16 e hem
   rw[e',ZC,ZC,Ze];exact Af (by lia)) ?_ ?_
  ·rintro k x zs H' hx ⟨rfl,rfl⟩;obtain⟨t,ht,hmem,rfl⟩:=B1 hx;refine⟨_,.ref tl,.inr g1.two,rfl,_,.int (AE ls t),.inr g1.lab,Cc (low e hem t hmem),rfl,?_⟩;rw[Zx,ht,ZM,ZM];rfl
  ·rintro zs H' ⟨rfl,rfl⟩ l hl';rw[Aj,ZBE];refine⟨_,.of AD,by rw[ZC];have:=len16 e hem;lia,fun ds qs nd hmem hqs=>?_⟩;have S:=(Same.upd (o:=.lst (((Au e.1).map (AE ls)).map V.int)) hl').trans (Same.upd (o:=D5 ds) hqs);have o1:=Kt (ls:=ls) nd hmem;refine⟨ds,AD,?_⟩;refine Ag (fun e'=>?_) (fun _=>⟨⟨_,rfl⟩,s1.trans S⟩);have e':((ds.length:Nat):Int) < 2:=ZQ e';have o2:=o1.mp (by lia);have e3:(fun k=>decide (k∈Au e.1))=e.1.testBit:=by funext k;rw[Z7,decide_eq_true_eq];exact mem_memS
   rw[e3]at o2
   have:=(KM (DN c2)).mpr o2
   lia
 rintro σ H1 ⟨⟨x3,rfl⟩,s1⟩;refine Ad (fun σ H'=>(∃x4 x5 x6,σ=[some (.ref a),some (.int (AY ls (rs.map AO) S0:Nat)),some (.ref ua),x3,x4,x5,x6])/\Same H H') ?_ ?_ (by walk_at "sm")
 ·refine .inr ⟨⟨_,s1.sqT E0'.sq⟩,?_⟩;refine Ir (xs:=xs) (fun i σ H'=>(∃x4 x5 x6,σ=[some (.ref a),some (.int (AY ls (rs.map AO) S0:Nat)),some (.ref ua),x3,x4,x5,x6])/\Same H H') ⟨⟨_,_,_,rfl⟩,s1⟩ (fun i σ H' _ ⟨_,s⟩=>s.sqT E0'.sq) ?_ (fun σ H' h=>h);rintro i x σ H2 hx ⟨⟨x4,x5,x6,rfl⟩,s2⟩;obtain⟨e,b,c,hei,hem,rfl,hb,hc⟩:=ent s2 hx;have g2:=g.same s2;refine⟨_,.inr hb,rfl,_,_,rfl,_,_,rfl,rfl,?_⟩;refine⟨_,.ref rl,.inr g2.two,rfl,rs.length,.inr ⟨_,g2.rows,by rw[ZC,g2.len]⟩,?_⟩
  obtain⟨W,hW,hW1,hW2⟩:∃W:Nat,((rs.length:Nat):Int) * (if decide ((1:Int) < ((e.2:Nat):Int)) then 1 else 0)=(W:Int)/\W<=rs.length/\(0 < W->1 < e.2):=by
   by_cases z:1 < e.2
   ·exact⟨rs.length,by rw[if_pos (ZO (by lia))];lia,ZD _,fun _=>z⟩
   ·exact⟨0,by rw[if_neg (fun y=>z (by have:=ZQ y;lia))];lia,ZX _,fun y=>absurd y (Zd _)⟩
  refine⟨.inr (.inr (by split <;> decide)),(W:Int),?_,by lia,by lia,?_⟩
  ·show [V.int (((rs.length:Nat):Int) * (if decide ((1:Int) < ((e.2:Nat):Int)) then 1 else 0))]=_;rw[hW]
  rw[Zc];refine Bk (fun q σ H'=>(∃x6,σ=[some (.ref a),some (.int (AY ls (rs.map AO) S0:Nat)),some (.ref ua),x3,some (.ref c),some (.int (e.2:Nat)),x6])/\Same H2 H') ⟨⟨_,rfl⟩,Same.refl _⟩ ?_ (fun σ H' ⟨⟨x6,e⟩,s⟩=>⟨⟨_,_,_,e⟩,s2.trans s⟩);rintro j σ H3 hj ⟨⟨x6',rfl⟩,s3⟩;have ez:(0:Int)+(j:Int)=((j:Nat):Int):=by lia
  rw[ez];have er:rs[j]? = some (rs[j]'(by lia)):=ZE (by lia);have S3:=s2.trans s3;have l16':=len16 e hem;refine⟨ls,rs,Cr es,xs,Au e.1,j,_,CL (g.same S3),G,E0'.same S3,fun e' he'=>?_,s3.sqT hc,by lia,low e hem,rfl,er,fun bb H4 hbb s4=>?_⟩
  ·obtain⟨e2,he2,rfl⟩:=ZP.mp he'
   have:=len16 e2 he2
   show(Au e2.1).length<=100
   lia
  ·have hb1:=hbb.mpr (TQ I hem (hW2 (by lia)) er);subst hb1;exact⟨⟨_,rfl⟩,s3.trans s4⟩
 rintro σ H2 ⟨⟨x4,x5,x6,rfl⟩,s2⟩;refine Ag (fun _=>q H2 s2) (fun e=>?_);have hpos:AY ls (rs.map AO) S0≠0:=fun z=>e (by rw[z];simp)
 refine .inr ⟨⟨_,s2.sqT E0'.sq⟩,?_⟩
 refine CG (xs:=xs) (fun k zs H'=>H'=H2/\zs.length<=k/\∀(i:Nat) (e:Nat × Nat),i < k->es[i]? = some e->AY ls (rs.map AO) S0<=e.2->zs≠[]) ⟨rfl,ZD _,fun i e h=>absurd h (ZBQ _)⟩ (fun k zs H' _ ⟨e,_⟩=>by rw[e];exact s2.sqT E0'.sq) (fun k zs H' hk ⟨_,e,_⟩=>by
  have:=I.len l16
  rw[sizeLine_eq];lia) ?_ ?_
 ·rintro k x zs H' hx ⟨rfl,hz,hall⟩;obtain⟨e2,b,c,hei,hem,rfl,hb,hc⟩:=ent s2 hx;refine⟨_,.int (e2.2:Nat),.inr hb,A2 (n:=1) rfl rfl,?_⟩;refine Ag (fun _=>⟨rfl,by rw[ZL];exact Nat.succ_le_succ hz,fun i e _ _ _=>by simp⟩) (fun e3=>⟨rfl,by lia,fun i e hi he hle=>?_⟩)
  rcases Zu i k with y | y
  ·exact hall i e y he hle
  ·have:i=k:=by lia
   subst this;rw[hei]at he;cases he;exact absurd (ZO (by lia)) e3
 ·rintro zs H' ⟨rfl,hz,hall⟩ l nl
  have hne:zs≠[]:=by
   rcases I.top with y | y | y
   ·obtain⟨e2,he2,ee⟩:=ZP.mp y;obtain⟨i,hi,ei⟩:=ZBC he2;have c4:=(I.ok e2 he2).2.2.2;rw[ee]at c4;exact hall i e2 (by lia) (by rw[ZE hi,ei]) (by lia)
   ·cases y
   ·exact absurd y hpos
  refine⟨ZX _,fun l2 n2=>?_⟩;have s3:Same H' (upd H' l (.lst zs)):=Same.upd nl;have s4:Same (upd H' l (.lst zs)) (upd (upd H' l (.lst zs)) l2 (.lst [])):=Same.upd n2;refine⟨zs,.inr ⟨.of (s4 _ _ AD),.of AD⟩,?_⟩
  have e4:(!zs.isEmpty)=true:=by
   cases zs with
   | nil=>exact absurd rfl hne
   | cons=>rfl
  rw[e4];exact q _ (s2.trans (s3.trans s4))
theorem EJ{i:Int}(h:i.natAbs<=100000000000000000000):Ci i=true:=by
 unfold Ci;refine ZO ?_
 by_cases z:i.natAbs=0
 ·rw[z];decide
 ·exact ZBL ((Nat.log2_lt z).mpr (Nat.lt_of_le_of_lt h (show 100000000000000000000 < 2 ^ 70 by decide))) (by decide)
theorem Gn(sm:∀x∈ls,x.natAbs<=100000000000000000000)(y16:ys.length<=16):∀(t:Tr) (S:Nat),CJ ls ys t S->S < 2 ^ ls.length->Be t.dv=true/\BX t.dv<=7 * t.size/\Ac t.dv<=t.size/\t.size+1<=2 * An ls.length S.testBit
 | .say i,S,⟨_,k,hk,e⟩,hS=>by
  have hkl:=DA hS hk
  have hi:i.natAbs<=100000000000000000000:=by
   rw[e];unfold AE;rw[ZY,ZE hkl];exact sm _ (Zo hkl)
  have hc:=DR hkl hk;refine⟨?_,?_,?_,?_⟩
  ·show((Str.ofString "say").cps.toList.all (fun c=>decide (c < 16 ^ 8)) && (Ci i && true))=true
   rw[EJ hi];decide
  ·show(Str.ofString "say").cps.size+1+(0+1+0)<=7 * 1
   rw[show(Str.ofString "say").cps.size=3 by decide];decide
  ·show max 0 (max 0 0)+1<=1;decide
  ·show 1+1<=2 * _;lia
 | .ask q n y,S,⟨_,f,hn,hy⟩,hS=>by
  obtain⟨y1,y2⟩:=Dc f.mem;have hle:=ZBt (n:=S) (m:=ys.getD q 0);obtain⟨n1,n2,n3,n4⟩:=Gn sm y16 n _ hn (by lia);obtain⟨m1,m2,m3,m4⟩:=Gn sm y16 y _ hy (by lia);have hq:q < ys.length:=Zk.mp (Zp.mp f.mem).1;have hc:=Fa ls.length S.testBit (ys.getD q 0).testBit;rw[DP]at n4;rw[DX]at m4;have es:(Tr.ask q n y).size=1+n.size+y.size:=rfl;refine⟨?_,?_,?_,by lia⟩
  ·show((Str.ofString "ask").cps.toList.all (fun c=>decide (c < 16 ^ 8)) && (Ci (q:Int) && (Be n.dv && (Be y.dv && true))))=true
   rw[n1,m1,EJ (by lia)];decide
  ·show(Str.ofString "ask").cps.size+1+(0+1+(BX n.dv+1+(BX y.dv+1+0)))<=_
   rw[show(Str.ofString "ask").cps.size=3 by decide,es];lia
  ·show max 0 (max 0 (max (Ac n.dv) (max (Ac y.dv) 0)))+1<=_;rw[es];lia
theorem RY(sm:∀x∈ls,x.natAbs<=100000000000000000000)(l16:ls.length<=16)(y16:ys.length<=16){t:Tr}(h:CJ ls ys t S)(hS:S < 2 ^ ls.length)(hm:m<=100):Be (.tup [.int (m:Nat),t.dv])=true/\BX (.tup [.int (m:Nat),t.dv])<=8000/\Ac (.tup [.int (m:Nat),t.dv])<=60:=by
 obtain⟨a,b,c,d⟩:=Gn sm y16 t S h hS
 have:=DE ls.length S.testBit
 refine⟨?_,?_,?_⟩
 ·show(Ci (m:Int) && (Be t.dv && true))=true
  rw[a,EJ (by lia)];rfl
 ·show 0+1+(BX t.dv+1+0)<=8000;lia
 ·show max 0 (max (Ac t.dv) 0)+1<=60;lia
theorem Ui{i' j':Nat}(a:CO ls rs i j)(b:CO ls rs i' j'):i=i'/\j=j':=by
 have h1:=a.2 i' j' b.1;have h2:=b.2 i j a.1;lia
theorem T9(hi:i<=100)(hj:j<=100):Be (.tup [.str "none",.int (i:Nat),.int (j:Nat),.bl true])=true/\BX (.tup [.str "none",.int (i:Nat),.int (j:Nat),.bl true])<=8000/\Ac (.tup [.str "none",.int (i:Nat),.int (j:Nat),.bl true])<=60:=by
 refine⟨?_,?_,?_⟩
 ·show((Str.ofString "none").cps.toList.all (fun c=>decide (c < 16 ^ 8)) && (Ci (i:Int) && (Ci (j:Int) && (true && true))))=true
  rw[EJ (by lia),EJ (by lia)];decide
 ·show(Str.ofString "none").cps.size+1+(0+1+(0+1+(0+1+0)))<=8000
  decide
 ·show max 0 (max 0 (max 0 (max 0 0)))+1<=60;decide
theorem Fx(n:Nat):(List.range n).Pairwise (· < ·):=ZBr
theorem MO(n:Nat):msk (List.range n)=2 ^ n - 1:=by
 apply ZCD;intro k;rw[(Br (Fx n) (fun t ht=>Zk.mp ht)).2 k,Nat.testBit_two_pow_sub_one];simp
theorem GJ(h:H d=some (.dT kvs)):∃o,H d=some o/\CH o/\∀xs,o≠.lst xs:=⟨_,h,Cd,fun _ z=>nomatch z⟩
theorem WR(L:CD Pt H)(F:GFeed H t N)(f:Frm t H H'):CD Pt H':=by
 obtain⟨zs,ht⟩:=F.lst;exact E4 L f ht (.inl ⟨_,rfl⟩)
theorem Ml(L:CD Pt H)(hd:H d=some (.dT kvs))(f:Frm d H H'):CD Pt H':=by
 obtain⟨ps,a,b,c⟩:=L;refine⟨ps,f _ _ (Av a hd (by intro z;cases z)) a,b,?_⟩
 rcases c with c | ⟨c',c,e⟩
 ·exact .inl c
 ·exact .inr ⟨c',c,f _ _ (Av e hd (by intro z;cases z)) e⟩
theorem GM(ls:List Int)(rs:List (List Bool)):A4 (gmD ls rs)=true:=by
 have h1:∀ls:List Int,Ab (ls.map Dv.int)=true:=by
  intro ls
  induction ls with
  | nil=>rfl
  | cons i ls ih =>
   show(true && Ab (ls.map Dv.int))=true
   rw[ih];rfl
 show(Ab (ls.map Dv.int) && (Ab (Ae rs) && true))=true
 rw[h1,Cj];rfl
theorem TF(B:BMn mg base):FnOk P w K mg base CX0 98 T.f_law T.d_law ["_law_script"] (FX K [T.p_z11]):=by
 have G_z42:=@Pd P w K mg base T;have G_z47:=@V7 P w K mg base T;have G_z46:=@NG P w K mg base T;have G_z32:=@UU P w K mg base T;have G_z44:=@JZ P w K mg base T;have G_z45:=@Tj P w K mg base T B;have G_z48:=@Po P w K mg base T;have G_z30:=@Ts P w K mg base T;refine T.F_law.ok sc_law (fun vs H Q E h=>by obtain⟨a,ns,rfl,_⟩:=h;rfl) (fun cdv A outer s H vs Q E hr h=>?_);have hu:=Aa hr;have hr_z42:=hr.mono (show 1<=_ by decide);have hr_z47:=hr.mono (show 4<=_ by decide);have hr_z46:=hr.mono (show 1<=_ by decide);have hr_z32:=hr.mono (show 2<=_ by decide);have hr_z44:=hr.mono (show 19<=_ by decide);have hr_z45:=hr.mono (show 97<=_ by decide);have hr_z48:=hr.mono (show 3<=_ by decide);have hr_z30:=hr.mono (show 38<=_ by decide);obtain⟨a,ns,rfl,hS,hlen,hPt,q⟩:=h;refine⟨_,(@AF _ _ _ _ _ (@AQ _ _ 1 _ _ _ _ sc_law.nd rfl (by right) (AJ G_z42 hr_z42 rfl T.m_z42 T.F_z42.kp T.b_z42 .nil AG (AA (vv 0) AB)) (by rfl) (by symm)) (@AF _ _ _ _ _ (@BK _ _ _ _ _ _ _ _ PassesOwn.never rfl (Aw rfl T.z_range (AA AC AB)) (AS (i:=2) sc_law.nd rfl (by right)) (@AF _ _ _ _ _ (@AQ _ _ 3 _ _ _ _ sc_law.nd rfl (by right) (AJ G_z47 hr_z47 rfl T.m_z47 T.F_z47.kp T.b_z47 .nil AG (AA (vv 1) AB)) (by rfl) (by symm)) (@AF _ _ _ _ _ (@AQ _ _ 4 _ _ _ _ sc_law.nd rfl (by right) (AJ G_z46 hr_z46 rfl T.m_z46 T.F_z46.kp T.b_z46 .nil AG (AA (vv 3) AB)) (by rfl) (by symm)) (@AF _ _ _ _ _ (@Ap _ _ _ _ _ _ _ _ (PW.pt (Cg (AW JY (vv 4) DO) (Cq (AW (kNe (K:=K) hu) (AU (Fw (K:=K) hr) rfl T.z_repr (by rfl) (AA (AJ G_z45 hr_z45 rfl T.m_z45 T.F_z45.kp T.b_z45 .nil AG (AA (vv 3) AB)) AB)) (AU (Fw (K:=K) hr) rfl T.z_repr (by rfl) (AA (AR (Dp (K:=K)) (AR (Dp (K:=K)) (A5 (AA C4 AB)) (vv 4)) (A5 (AA Az AB))) AB)))))) (@AH _ _ _ (@AM _ _ _ _ Az)) Ao) (@AF _ _ _ _ _ (@AQ _ _ 3 _ _ _ _ sc_law.nd rfl (by right) (AJ G_z32 hr_z32 rfl T.m_z32 T.F_z32.kp T.b_z32 .nil AG (AA (vv 3) AB)) (by rfl) (by symm)) (@AF _ _ _ _ _ (@AQ _ _ 5 _ _ _ _ sc_law.nd rfl (by right) (As (A7 (K:=K)) rfl T.z_tuple (by rfl) (AA (@Aq _ _ _ _ _ _ _ ["_law_one"] 1 [] _ _ _ _ rfl (Aw rfl T.z_range (AA (AU (Ay (K:=K)) rfl T.z_len (by rfl) (AA (kIx (K:=K) (vv 3) AC) AB)) AB)) (by kernel_rfl) rfl rfl (by kernel_rfl) (fun c=>AS (i:=0) (show(["_law_one"]:List Str).Nodup by decide +kernel) rfl (by right)) (Ah (by decide)) (fun c=>Ar) (fun c=>(vv 0)) (by intro _;rfl)) AB)) (by rfl) (by symm)) (@AF _ _ _ _ _ (@AQ _ _ 6 _ _ _ _ sc_law.nd rfl (by right) O5 (by rfl) (by symm)) (@AF _ _ _ _ _ (@AQ _ _ 7 _ _ _ _ sc_law.nd rfl (by right) (AJ G_z44 hr_z44 rfl T.m_z44 T.F_z44.kp T.b_z44 .nil AG (AA (vv 3) (AA (vv 5) (AA (vv 6) AB)))) (by rfl) (by symm)) (@AH _ _ _ (@BK _ _ _ _ _ _ _ _ PassesOwn.never rfl (Aw rfl T.z_range (AA AC AB)) (AS (i:=8) sc_law.nd rfl (by right)) (@AF _ _ _ _ _ (@AQ _ _ 9 _ _ _ _ sc_law.nd rfl (by right) (AJ G_z45 hr_z45 rfl T.m_z45 T.F_z45.kp T.b_z45 .nil AG (AA (vv 3) AB)) (by rfl) (by symm)) (@AF _ _ _ _ _ (@Ap _ _ _ _ _ _ _ _ (PW.pt (DK (CY (Ba (AU (Dh (K:=K)) rfl T.z_isinstance (by rfl) (AA (vv 9) (AA (DH (v:=.ty "tuple") rfl T.z_tuple (by rfl) rfl) AB))))) (E8 (AW (kNe (K:=K) hu) (AU (Ay (K:=K)) rfl T.z_len (by rfl) (AA (vv 9) AB)) AC)))) (@AH _ _ _ (@AM _ _ _ _ Az)) Ao) (@AF _ _ _ _ _ (@Ap _ _ _ _ _ _ _ _ (AW (kNe (K:=K) hu) (AU (Fw (K:=K) hr) rfl T.z_repr (by rfl) (AA (IK (K:=K) (vv 9) Fh (FJ AC)) AB)) (AU (Fw (K:=K) hr) rfl T.z_repr (by rfl) (AA (A5 (AA (vv 7) (AA (AJ G_z30 hr_z30 rfl T.m_z30 T.F_z30.kp T.b_z30 .nil AG (AA (vv 3) (AA (vv 5) (AA (vv 6) AB)))) AB))) AB))) (@AH _ _ _ (@AM _ _ _ _ Az)) Ao) (@AH _ _ _ (@Ap _ _ _ _ _ _ _ _ (CY (Ba (AJ G_z48 hr_z48 rfl T.m_z48 T.F_z48.kp T.b_z48 .nil AG (AA (vv 3) (AA (vv 7) (AA (kIx (K:=K) (vv 9) AC) AB)))))) (@AH _ _ _ (@AM _ _ _ _ Az)) Ao))))) (by intro _;rfl)))))))))) (by intro _;rfl)) (@AH _ _ _ (@AM _ _ _ _ Az)))),?_⟩;have mo1:Ai (B2 K 500 800000000):=VG;have mo2:Ai (Dm K):=US;have mo3:Ai (CM K):=Lr;have mo4:Ai (DS K T.p_z11):=UV;have mo5:Ai (Bi K 17):=GA;have mo6:Ai (CB K 17):=TB;have mo7:Ai (DZ K):=SM;have L0:CD T.p_z11 H:=V3 (hPt _ (ZJ.mpr rfl));refine⟨ns,hS,fun t H1 ht s1 F1=>?_⟩;dsimp only[AT];have L1:=L0.same s1;refine Ad (fun σ H'=>∃z:List (Option V),σ=some (.ref a)::some (.ref t)::z) ?_ (fun σ H' _=>q H') (by walk_at "sm");refine⟨4,rfl,by decide,by decide,?_⟩;refine Bk (fun i σ H'=>(∃z2 z3 z4 z5 z6 z7 z8 z9:Option V,σ=[some (.ref a),some (.ref t),z2,z3,z4,z5,z6,z7,z8,z9])/\GFeed H' t (1000 * i)/\CD T.p_z11 H') ⟨⟨none,none,none,none,none,none,none,none,rfl⟩,F1,L1⟩ ?_ (fun σ H' ⟨⟨z2,z3,z4,z5,z6,z7,z8,z9,e⟩,_⟩=>⟨_,e⟩);clear F1 L1 L0 s1 ht H1;rintro i σ H2 hi ⟨⟨z2,z3,z4,z5,z6,z7,z8,z9,rfl⟩,F2,L2'⟩;have hi4:i < 4:=hi;refine⟨_,F2,by lia,fun ls0 rs u0 H3 G0 r3 F3 f3=>?_⟩;dsimp only[AT];have L3:=WR L2' F2 f3;clear F2 f3 L2' H2;have l16:=G0.l16;have r16:=G0.r16
 -- the pair,and what is said of a game without end
 refine Ad (fun σ H'=>∃v4,σ=[some (.ref a),some (.ref t),some (.int (0+(i:Int))),some u0,some v4,z5,z6,z7,z8,z9]/\Same H3 H'/\(v4=.non\/∃(i' j':Nat) (p:Addr),v4=.ref p/\CO ls0 rs i' j'/\H' p=some (.tup [.int (i':Nat),.int (j':Nat)]))) ?_ ?_ (by walk_at "sm")
 ·exact⟨ls0,rs,r3,G0,fun H4 s4 _=>⟨_,rfl,s4,.inl rfl⟩,fun i' j' p H4 hf _ s4 gp=>⟨_,rfl,s4,.inr ⟨i',j',p,rfl,hf,gp⟩⟩⟩
 rintro σ H4 ⟨v4,rfl,s4,hv4⟩;have F4:=F3.same s4;have L4:=L3.same s4;have r4:=Rep.same s4 _ _ r3;clear F3 L3 r3 s4 H3;refine Ad (fun σ H'=>σ=[some (.ref a),some (.ref t),some (.int (0+(i:Int))),some u0,some v4,z5,z6,z7,z8,z9]/\Same H4 H') ?_ ?_ (by walk_at "sm")
 ·rcases hv4 with rfl | ⟨i',j',p,rfl,hf,gp⟩
  ·exact⟨rfl,Same.refl _⟩
  ·have hb:=hf.1;obtain⟨b1,b2,_⟩:=id hb;refine⟨ls0,rs,r4,G0,L4,fun i2 j2 u5 H5 hf2 s5 rp5=>?_,fun he=>absurd hb (he _ _)⟩;obtain⟨e1,e2⟩:=Ui hf hf2;subst e1 e2;obtain⟨fa,fb,fc⟩:=T9 (i:=i') (j:=j') (by lia) (by lia);refine⟨_,rp5,fa,fb,fc,?_⟩;refine⟨smq rfl,fun p1 n1=>?_⟩;have s6:=s5.trans (Same.upd (o:=.tup [.str "none"]) n1);refine .inr ⟨[.str "none"],[.int (i':Nat),.int (j':Nat)],.of AD,.of (s6 _ _ gp),smq rfl,fun p2 H7 s7 h7=>?_⟩;refine⟨smq rfl,fun p3 n3=>?_⟩;have s8:=Same.upd (o:=.tup [.bl true]) n3;refine .inr ⟨_,[.bl true],s8.sqT h7,.of AD,smq rfl,fun p4 H9 s9 h9=>?_⟩;refine⟨_,A0 h9 (AN Ln (AN Bo (AN Bo (AN (by unfold Rep;rfl) AV)))),fa,fb,fc,?_⟩;generalize Bf (.tup [.str "none",.int (i':Nat),.int (j':Nat),.bl true])=S;exact Ag (fun e=>absurd e (by simp)) (fun _=>⟨rfl,s6.trans (s7.trans (s8.trans s9))⟩)
 rintro σ H5 ⟨rfl,s5⟩;have F5:=F4.same s5;have L5:=L4.same s5;have r5:=Rep.same s5 _ _ r4;clear F4 L4 r4 s5 hv4 H4;refine⟨ls0,rs,r5,G0,fun ls u H6 s6 G he r6=>?_⟩;dsimp only[AT];have F6:=F5.same s6;have L6:=L5.same s6;clear F5 L5 r5 s6 H5 l16 r16 G0 ls0;have l1:=G.l1;have l16:=G.l16;have r16:=G.r16;obtain⟨ga,tl,rl,ps,rfl,g⟩:=CU r6;refine Ad (fun σ H'=>∃tp,σ=[some (.ref a),some (.ref t),some (.int (0+(i:Int))),some (.ref ga),some v4,some (.ref tp),z6,z7,z8,z9]/\Same H6 H'/\H' tp=some (.tup (iL (List.range ls.length)))) ?_ ?_ (by walk_at "sm")
 ·refine⟨_,.ref tl,.inr g.two,rfl,ls.length,.inr ⟨_,g.lab,by rw[ZC]⟩,(ls.length:Int),rfl,by lia,by lia,?_⟩;refine BQ (fun j ys H'=>H'=H6/\ys=iL (List.range j)) ⟨rfl,rfl⟩ (fun j ys H' hj ⟨_,e⟩=>by rw[e,Aj,Zw];exact Af (by lia)) ?_ ?_
  ·rintro j ys H' hj ⟨rfl,rfl⟩;refine⟨rfl,?_⟩;rw[ZBR,Bc,show(0:Int)+(j:Int)=(j:Int) from Int.zero_add _];rfl
  ·rintro ys H' ⟨rfl,rfl⟩ lt hlt;rw[Zc];refine⟨_,.inl ⟨.of AD,fun tp ntp=>⟨tp,rfl,(Same.upd hlt).trans (Same.upd ntp),AD⟩⟩⟩
 rintro σ H7 ⟨tp,rfl,s7,gtp⟩;have F7:=F6.same s7;have L7:=L6.same s7;have r7:=Rep.same s7 _ _ r6;clear g F6 L6 r6 s7 H6;intro kd nkd;dsimp only[AT];have s8:Same H7 (upd H7 kd (.dT [])):=Same.upd nkd;have gkd:upd H7 kd (.dT []) kd=some (.dT []):=AD;have F8:=F7.same s8;have L8:=L7.same s8;have r8:=Rep.same s8 _ _ r7;have gt8:=s8 _ _ gtp;generalize upd H7 kd (.dT [])=H8 at *;clear F7 L7 r7 gtp s8 nkd H7;refine⟨ls,rs,List.range ls.length,[],r8,G,he,gt8,Fx _,fun x hx=>Zk.mp hx,by rw[Zw];lia,gkd,⟨by simp,fun e he=>by cases he⟩,fun m kvs9 H9 hm f9 hd9 M9=>?_⟩;dsimp only[AT];have em:AY ls (rs.map AO) (2 ^ ls.length - 1)=m:=by rw[<- MO];exact Kp (Fx _) (fun x hx=>Zk.mp hx) hm
 have O8:=Fk (GJ gkd) (Fg L8);have fx9:FrX [kd,T.p_z11] H8 H9:=.frm f9 (by simp);have F9:=fx9.feed O8 F8;have r9:=fx9.rep O8 (GM ls rs) r8;have L9:=Ml L8 gkd f9;have gt9:=f9 _ _ (Av gt8 gkd (by intro z;cases z)) gt8;clear fx9 O8 F8 r8 L8 gt8 gkd f9 hm H8
 have hm16:m<=16:=by
  have hlt:2 ^ ls.length - 1 < 2 ^ ls.length:=by have:=ZBc ls.length;lia
  have hc:=Im he _ hlt
  have:=(DN hc).2 _ hc
  lia
 refine⟨2,rfl,by decide,by decide,?_⟩;refine Bk (fun j σ H'=>(∃z8 z9,σ=[some (.ref a),some (.ref t),some (.int (0+(i:Int))),some (.ref ga),some v4,some (.ref tp),some (.ref kd),some (.int (m:Nat)),z8,z9])/\GFeed H' t (1000 * i+500)/\CD T.p_z11 H'/\Rep K H' (gmD ls rs) (.ref ga)/\H' tp=some (.tup (iL (List.range ls.length)))/\∃kvs,H' kd=some (.dT kvs)/\NMemo ls rs kvs) ⟨⟨_,_,rfl⟩,F9,L9,r9,gt9,kvs9,hd9,M9⟩ ?_ (fun σ H' ⟨⟨z8,z9,e⟩,F,L,_⟩=>⟨⟨_,_,_,_,_,_,_,_,e⟩,F.mono (by lia),L⟩);clear F9 L9 r9 gt9 hd9 M9 H9;rintro j σ H10 hj ⟨⟨z8,z9,rfl⟩,F10,L10,r10,gt10,kvs10,hd10,M10⟩;dsimp only[AT];refine⟨ls,rs,r10,G,L10,fun i2 j2 u5 H5 hf2=>absurd hf2.1 (he _ _),fun _ tr es u11 H11 bt pi rp gr L11=>?_⟩;dsimp only[AT];have O10:=Fk (GJ hd10) (Fg L10);have fx11:FrX [kd,T.p_z11] H10 H11:=.grow gr (by simp);obtain⟨pz,hP,_⟩:=id L10;have F11:=fx11.feed O10 F10;have r11:=fx11.rep O10 (GM ls rs) r10;have gt11:=gr _ _ (Av gt10 hP (by intro z;cases z)) gt10;have hd11:=gr _ _ (Av hd10 hP (by intro z;cases z)) hd10;rw[em]at rp;clear fx11 O10 F10 r10 gt10 hd10 gr;obtain⟨pu,xs,rfl,hpu,hxs⟩:=Ch rp;unfold Reps at hxs;obtain⟨x0,l0,rfl,e0,hxs⟩:=hxs;unfold Reps at hxs;obtain⟨x1,l1',rfl,e1,hxs⟩:=hxs;unfold Reps at hxs;obtain⟨x2,l2,rfl,e2,hxs⟩:=hxs;unfold Reps at hxs;subst hxs;unfold Rep at e0;subst e0;refine Ad (fun σ H'=>σ=[some (.ref a),some (.ref t),some (.int (0+(i:Int))),some (.ref ga),some v4,some (.ref tp),some (.ref kd),some (.int (m:Nat)),some (.int (0+(j:Int))),some (.ref pu)]/\H11=H') ?_ ?_ (by walk_at "sm")
 ·refine⟨by decide,_,rp,?_⟩;exact⟨3,.inr ⟨_,hpu,rfl⟩,rfl,rfl⟩
 rintro σ _ ⟨rfl,rfl⟩;have hS:2 ^ ls.length - 1 < 2 ^ ls.length:=by have:=ZBc ls.length;lia
 obtain⟨fa,fb,fc⟩:=RY (m:=m) G.sm l16 (show(rs.map AO).length<=16 by rw[ZC];exact r16) bt hS (by lia);refine Ad (fun σ H'=>σ=[some (.ref a),some (.ref t),some (.int (0+(i:Int))),some (.ref ga),some v4,some (.ref tp),some (.ref kd),some (.int (m:Nat)),some (.int (0+(j:Int))),some (.ref pu)]/\Frm kd H11 H'/\∃kvs,H' kd=some (.dT kvs)/\NMemo ls rs kvs) ?_ ?_ (by walk_at "sm")
 ·refine⟨2,rfl,_,hpu,fun p12 H12 s12 h12=>?_⟩;have h12:SqT K H12 p12 [.int (m:Nat),x1]:=h12;refine⟨_,A0 h12 (AN Bo (AN (Rep.same s12 _ _ e1) AV)),fa,fb,fc,?_⟩;refine⟨ls,rs,List.range ls.length,kvs10,Rep.same s12 _ _ r11,G,he,s12 _ _ gt11,Fx _,fun x hx=>Zk.mp hx,(fun z=>by have h:=congrArg List.length z;rw[Zw]at h;have h:ls.length=0:=h;lia),by rw[Zw];lia,s12 _ _ hd11,M10,fun t' u13 kvs13 H13 bt' rp' f13 hd13 M13=>⟨smq rfl,fun p14 n14=>?_⟩⟩;rw[MO]at bt';have et:=HM _ _ _ bt' bt;subst et;have s14:Same H13 (upd H13 p14 (.tup [.int (m:Nat),u13])):=Same.upd n14;refine⟨_,A0 (.of AD) (AN Bo (AN (Rep.same s14 _ _ rp') AV)),fa,fb,fc,?_⟩;generalize Bf (.tup [.int (m:Nat),t'.dv])=S;exact Ag (fun e=>absurd e (by simp)) (fun _=>⟨rfl,(At s12).trans (f13.trans (At s14)),kvs13,s14 _ _ hd13,M13⟩)
 rintro σ H12 ⟨rfl,f12,kvs12,hd12,M12⟩;have O11:=Fk (GJ hd11) (Fg L11);have fx12:FrX [kd,T.p_z11] H11 H12:=.frm f12 (by simp);have r12:=fx12.rep O11 (GM ls rs) r11;have e2':Rep K H12 (Do es) x2:=fx12.rep O11 (show A4 (.tup (es.map C8))=true by unfold A4;exact Kr es) e2;refine⟨_,x2,.inr (fx12.sqT O11 hpu),A2 (n:=2) rfl rfl,ls,rs,es,ls.length,_,r12,G,e2',pi,by rw[em],fun H13 s13=>?_⟩;have fx13:FrX [kd,T.p_z11] H11 H13:=fx12.trans (.same s13);exact⟨⟨_,_,rfl⟩,fx13.feed O11 F11,(Ml L11 hd11 f12).same s13,Rep.same s13 _ _ r12,s13 _ _ (f12 _ _ (Av gt11 hd11 (by intro z;cases z)) gt11),kvs12,s13 _ _ hd12,M12⟩
end
abbrev DI(K:W.Frag)(n:Str)(st:Stmt)(f:Addr):Prop:=∃(oc kV dc pm cd ct:Value) (od an:Option Addr) (sl:Array (Option Value)),W.nsIn K mainGlobals n=some (some (.ref f))/\K.lookup f=some ⟨oc,od,.func (W.fnOf n n (Bh st) (BM st) (AK st) .none kV dc pm an cd ct),sl⟩/\W.codeIn K cd n=true/\W.keepIn K (.ref f)=true
structure FD(K:W.Frag)(mg:Str->Option Value)(n:Str)(st:Stmt)(ps:List Str)(f:Addr) where
 d:FuncData
 F:Fun K n n st f d
 b:Binds K d ps []
 m:mg n=some (.ref f)
theorem DI.fd{h:Heap}{mg:Str->Option Value}{n:Str}{st:Stmt}{f:Addr}{ps:List Str}(i:DI K n st f)(X:K.In h)(G:h.Ns mainGlobals mg)(hb:∀(kV doc pm:Value) (an:Option Addr) (cdv ct:Value) (us:List Value),us.length=ps.length->bindArgs (W.fnOf n n (Bh st) (BM st) (AK st) .none kV doc pm an cdv ct) ⟨us,[]⟩=pure (ps.zip us)):Nonempty (FD K mg n st ps f):=by
 obtain⟨oc,kV,dc,pm,cd,ct,od,an,sl,a,l,c,k⟩:=i;exact⟨⟨_,C1 l c k,(C1 l c k).binds hb,W.mg_of X G a⟩⟩
abbrev DM(K:W.Frag)(C:Addr)(n q:Str)(st:Stmt)(f:Addr):Prop:=∃(oc kV dc pm cd ct:Value) (od an:Option Addr) (sl:Array (Option Value)),W.findIn K (.ref C) n=some (some (.ref f))/\W.isFn K (.ref f)=true/\K.lookup f=some ⟨oc,od,.func (W.fnOf n q (Bh st) (BM st) (AK st) .none kV dc pm an cd ct),sl⟩/\W.codeIn K cd q=true/\W.keepIn K (.ref f)=true
structure FM(K:W.Frag)(C:Addr)(n q:Str)(st:Stmt)(ps:List Str)(f:Addr) where
 d:FuncData
 F:Fun K n q st f d
 b:Binds K d ps []
 m:Meth K C n f
theorem DM.fm{n:Str}{st:Stmt}{f:Addr}{ps:List Str}(i:DM K C n q st f)(hb:∀(kV doc pm:Value) (an:Option Addr) (cdv ct:Value) (us:List Value),us.length=ps.length->bindArgs (W.fnOf n q (Bh st) (BM st) (AK st) .none kV doc pm an cdv ct) ⟨us,[]⟩=pure (ps.zip us)):Nonempty (FM K C n q st ps f):=by
 obtain⟨oc,kV,dc,pm,cd,ct,od,an,sl,a,i,l,c,k⟩:=i;exact⟨⟨_,C1 l c k,(C1 l c k).binds hb,⟨a,i,k⟩⟩⟩
theorem all_di{n:Str}{st:Stmt}{f:Addr}{oc kV dc pm cd ct:Value}{od an:Option Addr}{sl:Array (Option Value)}(a:W.nsIn K mainGlobals n=some (some (.ref f)))(l:K.lookup f=some ⟨oc,od,.func (W.fnOf n n (Bh st) (BM st) (AK st) .none kV dc pm an cd ct),sl⟩)(c:W.codeIn K cd n=true)(k:W.keepIn K (.ref f)=true):DI K n st f:=⟨_,_,_,_,_,_,_,_,_,a,l,c,k⟩
theorem all_dm{n:Str}{st:Stmt}{f:Addr}{oc kV dc pm cd ct:Value}{od an:Option Addr}{sl:Array (Option Value)}(a:W.findIn K (.ref C) n=some (some (.ref f)))(i:W.isFn K (.ref f)=true)(l:K.lookup f=some ⟨oc,od,.func (W.fnOf n q (Bh st) (BM st) (AK st) .none kV dc pm an cd ct),sl⟩)(c:W.codeIn K cd q=true)(k:W.keepIn K (.ref f)=true):DM K C n q st f:=⟨_,_,_,_,_,_,_,_,_,a,i,l,c,k⟩
theorem all_mk {l:W.OpenLaw} {w:World} {h:Heap} {mg:Str->Option Value} {fa:Addr} (X:K.In h) (G:h.Ns mainGlobals mg) (hfa:mg "law" = some (.ref fa))
 {C_Reckoner:Addr}
 {C_Alike:Addr}
 {C_FlipError:Addr}
 {C_NoEnd:Addr}
 {C_NoName:Addr}
 {C_NoRow:Addr}
 {C_NoTable:Addr}
 {C_NoText:Addr}
 {C_NoThing:Addr}
 {f0 f45:Addr} {oc0 kV0 dc0 pm0 cd0 ct0 oc45 kV45 dc45 pm45 cd45 ct45:Value} {od0 an0 od45 an45:Option Addr} {sl0 sl45:Array (Option Value)}
 {f18:Addr} {oc18 kV18 dc18 pm18 ct18:Value} {od18 an18:Option Addr} {sl18:Array (Option Value)} {g18 p18:Addr} {cvs18:Array Value} {cod18:Option Addr} {csl18:Array (Option Value)}
 {f1 f2 f3 f4 f5 f6 f7 f8 f9 f10 f11 f12 f13 f14 f15 f16 f17 f19 f20 f21 f22 f23 f24 f25 f26 f27 f28 f29 f30 f31 f32 f33 f34 f35 f36 f37 f38 f39 f40 f41 f42 f43 f44:Addr}
 (aC_Reckoner:W.nsIn K mainGlobals "Reckoner" = some (some (.ref C_Reckoner)))
 (pg_Reckoner:W.plainGet K C_Reckoner Str.empty=true)
 (hd_Reckoner:W.hasDictIn K C_Reckoner=true)
 (po_Reckoner:W.plainOver K C_Reckoner=true)
 (sa_Reckoner:W.findIn K (.ref C_Reckoner) "__setattr__" = some (some (.builtin "object.__setattr__")))
 (mk_Reckoner:W.makesIn K C_Reckoner=true)
 (kc_Reckoner:W.keepIn K (.ref C_Reckoner)=true)
 (na_labels_Reckoner:W.findIn K (.ref C_Reckoner) "labels" = some none)
 (na_yeses_Reckoner:W.findIn K (.ref C_Reckoner) "yeses" = some none)
 (na_alike_Reckoner:W.findIn K (.ref C_Reckoner) "alike" = some none)
 (na_known_Reckoner:W.findIn K (.ref C_Reckoner) "known" = some none)
 (aC_Alike:W.nsIn K mainGlobals "Alike" = some (some (.ref C_Alike)))
 (aC_FlipError:W.nsIn K mainGlobals "FlipError" = some (some (.ref C_FlipError)))
 (aC_NoEnd:W.nsIn K mainGlobals "NoEnd" = some (some (.ref C_NoEnd)))
 (aC_NoName:W.nsIn K mainGlobals "NoName" = some (some (.ref C_NoName)))
 (aC_NoRow:W.nsIn K mainGlobals "NoRow" = some (some (.ref C_NoRow)))
 (aC_NoTable:W.nsIn K mainGlobals "NoTable" = some (some (.ref C_NoTable)))
 (aC_NoText:W.nsIn K mainGlobals "NoText" = some (some (.ref C_NoText)))
 (aC_NoThing:W.nsIn K mainGlobals "NoThing" = some (some (.ref C_NoThing)))
 (x1_NoEnd:W.findIn K (.ref C_NoEnd) "__getattribute__" = some (some (.builtin "BaseException.__getattribute__")))
 (x2_NoEnd:W.findIn K (.ref C_NoEnd) "__getattr__" = some none)
 (x3_NoEnd:W.mroIn K C_NoEnd (.type "BaseException")=some true)
 (x4_NoEnd:W.mroIn K C_NoEnd (.type "object")=some true)
 (x5_NoEnd:W.findIn K (.ref C_NoEnd) "__class__" = some (some (.builtin "object.__class__")))
 (x6_NoEnd:W.specialIn K (.builtin "object.__class__") "__get__" = some (some (.builtin "getset_descriptor.__get__")))
 (x7_NoEnd:W.takesIn K (.builtin "object.__class__")=some true)
 (xs_NoEnd:W.findIn K (.ref C_NoEnd) "__setattr__" = some (some (.builtin "object.__setattr__")))
 (hd_NoEnd:W.hasDictIn K C_NoEnd=true)
 (na_one_NoEnd:W.findIn K (.ref C_NoEnd) "one" = some none)
 (na_other_NoEnd:W.findIn K (.ref C_NoEnd) "other" = some none)
 (xm_NoEnd_FlipError:W.exmOne K (.ref C_NoEnd) (.ref C_FlipError)=some true)
 (kk_NoEnd_Alike:W.kitOne K (.ref C_NoEnd) (.ref C_Alike)=some false)
 (kk_NoEnd_NoEnd:W.kitOne K (.ref C_NoEnd) (.ref C_NoEnd)=some true)
 (kk_NoEnd_NoName:W.kitOne K (.ref C_NoEnd) (.ref C_NoName)=some false)
 (kk_NoEnd_NoRow:W.kitOne K (.ref C_NoEnd) (.ref C_NoRow)=some false)
 (kk_NoEnd_NoTable:W.kitOne K (.ref C_NoEnd) (.ref C_NoTable)=some false)
 (kk_NoEnd_NoText:W.kitOne K (.ref C_NoEnd) (.ref C_NoText)=some false)
 (kk_NoEnd_NoThing:W.kitOne K (.ref C_NoEnd) (.ref C_NoThing)=some false)
 (kk_NoEnd_ValueError:W.kitOne K (.ref C_NoEnd) (.type "ValueError")=some true)
 (a0:W.findIn K (.ref C_NoEnd) "__init__" = some (some (.ref f0)))
 (i0:W.isFn K (.ref f0)=true)
 (l0:K.lookup f0=some ⟨oc0,od0,.func (W.fnOf "__init__" "NoEnd.__init__" (Bh De) (BM De) (AK De) .none kV0 dc0 pm0 an0 cd0 ct0),sl0⟩)
 (c0:W.codeIn K cd0 "NoEnd.__init__" = true)
 (k0:W.keepIn K (.ref f0)=true)
 (i1:DI K "two_to" JQ f1)
 (i2:DI K "power_of" Gz f2)
 (i3:DI K "is_on" HW f3)
 (i4:DI K "within" GP f4)
 (i5:DI K "set_holding" G4 f5)
 (i6:DI K "members_of" JP f6)
 (i7:DM K C_Reckoner "__init__" "Reckoner.__init__" Gk f7)
 (i8:DM K C_Reckoner "everything" "Reckoner.everything" IT f8)
 (i9:DM K C_Reckoner "has_one_label" "Reckoner.has_one_label" Hu f9)
 (i10:DM K C_Reckoner "label_of" "Reckoner.label_of" HZ f10)
 (i11:DM K C_Reckoner "left_of" "Reckoner.left_of" JS f11)
 (i12:DM K C_Reckoner "fewest_among" "Reckoner.fewest_among" Jh f12)
 (i13:DM K C_Reckoner "fewest_reckoned" "Reckoner.fewest_reckoned" Iw f13)
 (i14:DM K C_Reckoner "parting" "Reckoner.parting" Ia f14)
 (i15:DM K C_Reckoner "worst_behind" "Reckoner.worst_behind" JM f15)
 (i16:DM K C_Reckoner "harder_left" "Reckoner.harder_left" He f16)
 (i17:DM K C_Reckoner "harder_lefts" "Reckoner.harder_lefts" Jf f17)
 (a18:W.findIn K (.ref C_Reckoner) "first_question" = some (some (.ref f18)))
 (i18:W.isFn K (.ref f18)=true)
 (l18:K.lookup f18=some ⟨oc18,od18,.func (W.fnOf "first_question" "Reckoner.first_question" (Bh CN) (BM CN) (AK CN) .none kV18 dc18 pm18 an18 (.ref g18) ct18),sl18⟩)
 (c18:W.codeIn K (.ref g18) "Reckoner.first_question" = true)
 (k18:W.keepIn K (.ref f18)=true)
 (lc18:K.lookup g18=some ⟨.type "code",cod18,.fields cvs18,csl18⟩)
 (pv18:cvs18[11]? = some (.ref p18))
 (gh18:W.codeHdIn K g18 p18=true)
 (gt18:h.get? p18=some (W.tabObj #[]))
 (i19:DI K "members_where" Hj f19)
 (i20:DI K "refuse_without_end" Gh f20)
 (i21:DI K "first_unparted" Gu f21)
 (i22:DI K "fewest" HP f22)
 (i23:DI K "best_tree" Gc f23)
 (i24:DI K "hard_paper" Hm f24)
 (i25:DI K "_law_feed" Hz f25)
 (i26:DI K "_law_draw" GI f26)
 (i27:DI K "_law_table" GG f27)
 (i28:DI K "_law_table_game" Gy f28)
 (i29:DI K "_law_class" Hw f29)
 (i30:DI K "_law_class_game" Gw f30)
 (i31:DI K "_law_picks" Je f31)
 (i32:DI K "_law_any_game" IR f32)
 (i33:DI K "_law_game" Go f33)
 (i34:DI K "_law_pair" Gv f34)
 (i35:DI K "_law_ending" Iq f35)
 (i36:DI K "_law_sides" Io f36)
 (i37:DI K "_law_need" Hi f37)
 (i38:DI K "_law_is_whole_one" IC f38)
 (i39:DI K "_law_is_row_of" GV f39)
 (i40:DI K "_law_backed" Ip f40)
 (i41:DI K "_law_hard" IY f41)
 (i42:DI K "_law_first" HK f42)
 (i43:DI K "_law_due_tree" GQ f43)
 (i44:DI K "_law_said" Jg f44)
 (a45:W.nsIn K mainGlobals "law" = some (some (.ref f45)))
 (l45:K.lookup f45=some ⟨oc45,od45,.func (W.fnOf "law" "law" (Bh Cf) (BM Cf) (AK Cf) .none kV45 dc45 pm45 an45 cd45 ct45),sl45⟩)
 (c45:W.codeIn K cd45 "law" = true)
 (k45:W.keepIn K (.ref f45)=true)
 (z_ValueError:W.nsIn K mainGlobals "ValueError" = some none)
 (z_any:W.nsIn K mainGlobals "any" = some none)
 (z_bool:W.nsIn K mainGlobals "bool" = some none)
 (z_enumerate:W.nsIn K mainGlobals "enumerate" = some none)
 (z_int:W.nsIn K mainGlobals "int" = some none)
 (z_isinstance:W.nsIn K mainGlobals "isinstance" = some none)
 (z_len:W.nsIn K mainGlobals "len" = some none)
 (z_list:W.nsIn K mainGlobals "list" = some none)
 (z_max:W.nsIn K mainGlobals "max" = some none)
 (z_min:W.nsIn K mainGlobals "min" = some none)
 (z_range:W.nsIn K mainGlobals "range" = some none)
 (z_repr:W.nsIn K mainGlobals "repr" = some none)
 (z_set:W.nsIn K mainGlobals "set" = some none)
 (z_sorted:W.nsIn K mainGlobals "sorted" = some none)
 (z_sum:W.nsIn K mainGlobals "sum" = some none)
 (z_tuple:W.nsIn K mainGlobals "tuple" = some none)
 (xj_NoEnd:D1 K C_NoEnd f0=true)
 (hnt:W.noTabs K=true) :
 ∃(fd:FuncData) (ts:List (Addr × Addr)),W.TabsAt ts h/\W.noTabs K=true/\(∀(s:Shared) (v:Value),BindsTo s fd ⟨[v],[]⟩ [("_law_script",v)])/\∀base:Heap,K.In base->base.Ns mainGlobals mg->BMn mg base->FnOk l.prog w K mg base CX0 98 fa fd ["_law_script"] (FX K (ts.map (·.2))):=by
 have e:=hfa.symm.trans (W.mg_of X G a45);cases e;have F0:=C1 (st:=De) l0 c0 k0;have b0:=F0.binds (ps:=["self","one","other"]) fun _ _ _ _ _ _=>L2.on3 (fun _ _ _=>rfl)
 obtain⟨Q1⟩:=i1.fd X G (ps:=["n"]) fun _ _ _ _ _ _=>L2.on1 (fun _=>rfl)
 obtain⟨Q2⟩:=i2.fd X G (ps:=["base","times"]) fun _ _ _ _ _ _=>L2.on2 (fun _ _=>rfl)
 obtain⟨Q3⟩:=i3.fd X G (ps:=["place","switch"]) fun _ _ _ _ _ _=>L2.on2 (fun _ _=>rfl)
 obtain⟨Q4⟩:=i4.fd X G (ps:=["subset","other"]) fun _ _ _ _ _ _=>L2.on2 (fun _ _=>rfl)
 obtain⟨Q5⟩:=i5.fd X G (ps:=["members"]) fun _ _ _ _ _ _=>L2.on1 (fun _=>rfl)
 obtain⟨Q6⟩:=i6.fd X G (ps:=["subset"]) fun _ _ _ _ _ _=>L2.on1 (fun _=>rfl)
 obtain⟨Q7⟩:=i7.fm (ps:=["self","game"]) fun _ _ _ _ _ _=>L2.on2 (fun _ _=>rfl)
 obtain⟨Q8⟩:=i8.fm (ps:=["self"]) fun _ _ _ _ _ _=>L2.on1 (fun _=>rfl)
 obtain⟨Q9⟩:=i9.fm (ps:=["self","things"]) fun _ _ _ _ _ _=>L2.on2 (fun _ _=>rfl)
 obtain⟨Q10⟩:=i10.fm (ps:=["self","things"]) fun _ _ _ _ _ _=>L2.on2 (fun _ _=>rfl)
 obtain⟨Q11⟩:=i11.fm (ps:=["self","things","question","answer"]) fun _ _ _ _ _ _=>L2.on4 (fun _ _ _ _=>rfl)
 obtain⟨Q12⟩:=i12.fm (ps:=["self","things"]) fun _ _ _ _ _ _=>L2.on2 (fun _ _=>rfl)
 obtain⟨Q13⟩:=i13.fm (ps:=["self","things"]) fun _ _ _ _ _ _=>L2.on2 (fun _ _=>rfl)
 obtain⟨Q14⟩:=i14.fm (ps:=["self","things"]) fun _ _ _ _ _ _=>L2.on2 (fun _ _=>rfl)
 obtain⟨Q15⟩:=i15.fm (ps:=["self","things","question"]) fun _ _ _ _ _ _=>L2.on3 (fun _ _ _=>rfl)
 obtain⟨Q16⟩:=i16.fm (ps:=["self","things","question"]) fun _ _ _ _ _ _=>L2.on3 (fun _ _ _=>rfl)
 obtain⟨Q17⟩:=i17.fm (ps:=["self","things"]) fun _ _ _ _ _ _=>L2.on2 (fun _ _=>rfl)
 have F18:=C1 (st:=CN) l18 c18 k18;have b18:=F18.binds (ps:=["self","things"]) fun _ _ _ _ _ _=>L2.on2 (fun _ _=>rfl)
 obtain⟨Q19⟩:=i19.fd X G (ps:=["wanted","values"]) fun _ _ _ _ _ _=>L2.on2 (fun _ _=>rfl)
 obtain⟨Q20⟩:=i20.fd X G (ps:=["game"]) fun _ _ _ _ _ _=>L2.on1 (fun _=>rfl)
 obtain⟨Q21⟩:=i21.fd X G (ps:=["game"]) fun _ _ _ _ _ _=>L2.on1 (fun _=>rfl)
 obtain⟨Q22⟩:=i22.fd X G (ps:=["game"]) fun _ _ _ _ _ _=>L2.on1 (fun _=>rfl)
 obtain⟨Q23⟩:=i23.fd X G (ps:=["reckoner","things"]) fun _ _ _ _ _ _=>L2.on2 (fun _ _=>rfl)
 obtain⟨Q24⟩:=i24.fd X G (ps:=["reckoner","things"]) fun _ _ _ _ _ _=>L2.on2 (fun _ _=>rfl)
 obtain⟨Q25⟩:=i25.fd X G (ps:=["_law_script"]) fun _ _ _ _ _ _=>L2.on1 (fun _=>rfl)
 obtain⟨Q26⟩:=i26.fd X G (ps:=["_law_feed_here","_law_many"]) fun _ _ _ _ _ _=>L2.on2 (fun _ _=>rfl)
 obtain⟨Q27⟩:=i27.fd X G (ps:=["_law_feed_here","_law_n"]) fun _ _ _ _ _ _=>L2.on2 (fun _ _=>rfl)
 obtain⟨Q28⟩:=i28.fd X G (ps:=["_law_table_here"]) fun _ _ _ _ _ _=>L2.on1 (fun _=>rfl)
 obtain⟨Q29⟩:=i29.fd X G (ps:=["_law_feed_here","_law_n","_law_many"]) fun _ _ _ _ _ _=>L2.on3 (fun _ _ _=>rfl)
 obtain⟨Q30⟩:=i30.fd X G (ps:=["_law_tables"]) fun _ _ _ _ _ _=>L2.on1 (fun _=>rfl)
 obtain⟨Q31⟩:=i31.fd X G (ps:=["_law_feed_here"]) fun _ _ _ _ _ _=>L2.on1 (fun _=>rfl)
 obtain⟨Q32⟩:=i32.fd X G (ps:=["_law_feed_here"]) fun _ _ _ _ _ _=>L2.on1 (fun _=>rfl)
 obtain⟨Q33⟩:=i33.fd X G (ps:=["_law_feed_here"]) fun _ _ _ _ _ _=>L2.on1 (fun _=>rfl)
 obtain⟨Q34⟩:=i34.fd X G (ps:=["_law_game_here"]) fun _ _ _ _ _ _=>L2.on1 (fun _=>rfl)
 obtain⟨Q35⟩:=i35.fd X G (ps:=["_law_game_here"]) fun _ _ _ _ _ _=>L2.on1 (fun _=>rfl)
 obtain⟨Q36⟩:=i36.fd X G (ps:=["_law_game_here","_law_things","_law_question"]) fun _ _ _ _ _ _=>L2.on3 (fun _ _ _=>rfl)
 obtain⟨Q37⟩:=i37.fd X G (ps:=["_law_game_here","_law_things","_law_known"]) fun _ _ _ _ _ _=>L2.on3 (fun _ _ _=>rfl)
 obtain⟨Q38⟩:=i38.fd X G (ps:=["_law_thing"]) fun _ _ _ _ _ _=>L2.on1 (fun _=>rfl)
 obtain⟨Q39⟩:=i39.fd X G (ps:=["_law_game_here","_law_thing"]) fun _ _ _ _ _ _=>L2.on2 (fun _ _=>rfl)
 obtain⟨Q40⟩:=i40.fd X G (ps:=["_law_game_here","_law_paper","_law_things","_law_number","_law_question"]) fun _ _ _ _ _ _=>L2.on5 (fun _ _ _ _ _=>rfl)
 obtain⟨Q41⟩:=i41.fd X G (ps:=["_law_game_here","_law_d","_law_paper"]) fun _ _ _ _ _ _=>L2.on3 (fun _ _ _=>rfl)
 obtain⟨Q42⟩:=i42.fd X G (ps:=["_law_game_here","_law_things","_law_known"]) fun _ _ _ _ _ _=>L2.on3 (fun _ _ _=>rfl)
 obtain⟨Q43⟩:=i43.fd X G (ps:=["_law_game_here","_law_things","_law_known"]) fun _ _ _ _ _ _=>L2.on3 (fun _ _ _=>rfl)
 obtain⟨Q44⟩:=i44.fd X G (ps:=["_law_game_here"]) fun _ _ _ _ _ _=>L2.on1 (fun _=>rfl)
 have F45:=C1 (st:=Cf) l45 c45 k45;have b45:=F45.binds (ps:=["_law_script"]) fun _ _ _ _ _ _=>L2.on1 (fun _=>rfl)
 let T:Txt K mg:={ C_Reckoner:=C_Reckoner,mC_Reckoner:=W.mg_of X G aC_Reckoner,cl_Reckoner:=⟨pg_Reckoner,hd_Reckoner,po_Reckoner,sa_Reckoner⟩,na_Reckoner_labels:=na_labels_Reckoner,na_Reckoner_yeses:=na_yeses_Reckoner,na_Reckoner_alike:=na_alike_Reckoner,na_Reckoner_known:=na_known_Reckoner,C_Alike:=C_Alike,mC_Alike:=W.mg_of X G aC_Alike,C_FlipError:=C_FlipError,mC_FlipError:=W.mg_of X G aC_FlipError,C_NoEnd:=C_NoEnd,mC_NoEnd:=W.mg_of X G aC_NoEnd,C_NoName:=C_NoName,mC_NoName:=W.mg_of X G aC_NoName,C_NoRow:=C_NoRow,mC_NoRow:=W.mg_of X G aC_NoRow,C_NoTable:=C_NoTable,mC_NoTable:=W.mg_of X G aC_NoTable,C_NoText:=C_NoText,mC_NoText:=W.mg_of X G aC_NoText,C_NoThing:=C_NoThing,mC_NoThing:=W.mg_of X G aC_NoThing,xc_NoEnd:=⟨x1_NoEnd,x2_NoEnd,x3_NoEnd,x4_NoEnd,x5_NoEnd,x6_NoEnd,x7_NoEnd⟩,hd_NoEnd:=hd_NoEnd,na_NoEnd_one:=na_one_NoEnd,na_NoEnd_other:=na_other_NoEnd,xm_NoEnd_FlipError:=xm_NoEnd_FlipError,kk_NoEnd_Alike:=kk_NoEnd_Alike,kk_NoEnd_NoEnd:=kk_NoEnd_NoEnd,kk_NoEnd_NoName:=kk_NoEnd_NoName,kk_NoEnd_NoRow:=kk_NoEnd_NoRow,kk_NoEnd_NoTable:=kk_NoEnd_NoTable,kk_NoEnd_NoText:=kk_NoEnd_NoText,kk_NoEnd_NoThing:=kk_NoEnd_NoThing,kk_NoEnd_ValueError:=kk_NoEnd_ValueError,f_z31:=f0,d_z31:=_,F_z31:=F0,b_z31:=b0,me_z31:=⟨a0,i0,k0⟩,xI_NoEnd:=⟨xj_NoEnd,⟨x1_NoEnd,x2_NoEnd,x3_NoEnd,x4_NoEnd,x5_NoEnd,x6_NoEnd,x7_NoEnd⟩,xs_NoEnd,i0⟩,f_z52:=f1,d_z52:=Q1.d,F_z52:=Q1.F,b_z52:=Q1.b,m_z52:=Q1.m,f_z50:=f2,d_z50:=Q2.d,F_z50:=Q2.F,b_z50:=Q2.b,m_z50:=Q2.m,f_z54:=f3,d_z54:=Q3.d,F_z54:=Q3.F,b_z54:=Q3.b,m_z54:=Q3.m,f_z53:=f4,d_z53:=Q4.d,F_z53:=Q4.F,b_z53:=Q4.b,m_z53:=Q4.m,f_z34:=f5,d_z34:=Q5.d,F_z34:=Q5.F,b_z34:=Q5.b,m_z34:=Q5.m,f_z38:=f6,d_z38:=Q6.d,F_z38:=Q6.F,b_z38:=Q6.b,m_z38:=Q6.m,f_z23:=f7,d_z23:=Q7.d,F_z23:=Q7.F,b_z23:=Q7.b,me_z23:=Q7.m,mk_Reckoner:=⟨mk_Reckoner,Q7.m.at_,Q7.m.fn,kc_Reckoner⟩,f_z17:=f8,d_z17:=Q8.d,F_z17:=Q8.F,b_z17:=Q8.b,me_z17:=Q8.m,f_z12:=f9,d_z12:=Q9.d,F_z12:=Q9.F,b_z12:=Q9.b,me_z12:=Q9.m,f_z18:=f10,d_z18:=Q10.d,F_z18:=Q10.F,b_z18:=Q10.b,me_z18:=Q10.m,f_z21:=f11,d_z21:=Q11.d,F_z21:=Q11.F,b_z21:=Q11.b,me_z21:=Q11.m,f_z15:=f12,d_z15:=Q12.d,F_z15:=Q12.F,b_z15:=Q12.b,me_z15:=Q12.m,f_z10:=f13,d_z10:=Q13.d,F_z10:=Q13.F,b_z10:=Q13.b,me_z10:=Q13.m,f_z20:=f14,d_z20:=Q14.d,F_z20:=Q14.F,b_z20:=Q14.b,me_z20:=Q14.m,f_z13:=f15,d_z13:=Q15.d,F_z13:=Q15.F,b_z13:=Q15.b,me_z13:=Q15.m,f_z16:=f16,d_z16:=Q16.d,F_z16:=Q16.F,b_z16:=Q16.b,me_z16:=Q16.m,f_z14:=f17,d_z14:=Q17.d,F_z14:=Q17.F,b_z14:=Q17.b,me_z14:=Q17.m,g_z11:=g18,p_z11:=p18,gc_z11:=rfl,gh_z11:=gh18,f_z11:=f18,d_z11:=_,F_z11:=F18,b_z11:=b18,me_z11:=⟨a18,i18,k18⟩,f_z29:=f19,d_z29:=Q19.d,F_z29:=Q19.F,b_z29:=Q19.b,m_z29:=Q19.m,f_z19:=f20,d_z19:=Q20.d,F_z19:=Q20.F,b_z19:=Q20.b,m_z19:=Q20.m,f_z27:=f21,d_z27:=Q21.d,F_z27:=Q21.F,b_z27:=Q21.b,m_z27:=Q21.m,f_z51:=f22,d_z51:=Q22.d,F_z51:=Q22.F,b_z51:=Q22.b,m_z51:=Q22.m,f_z43:=f23,d_z43:=Q23.d,F_z43:=Q23.F,b_z43:=Q23.b,m_z43:=Q23.m,f_z40:=f24,d_z40:=Q24.d,F_z40:=Q24.F,b_z40:=Q24.b,m_z40:=Q24.m,f_z42:=f25,d_z42:=Q25.d,F_z42:=Q25.F,b_z42:=Q25.b,m_z42:=Q25.m,f_z49:=f26,d_z49:=Q26.d,F_z49:=Q26.F,b_z49:=Q26.b,m_z49:=Q26.m,f_z36:=f27,d_z36:=Q27.d,F_z36:=Q27.F,b_z36:=Q27.b,m_z36:=Q27.m,f_z25:=f28,d_z25:=Q28.d,F_z25:=Q28.F,b_z25:=Q28.b,m_z25:=Q28.m,f_z37:=f29,d_z37:=Q29.d,F_z37:=Q29.F,b_z37:=Q29.b,m_z37:=Q29.m,f_z24:=f30,d_z24:=Q30.d,F_z24:=Q30.F,b_z24:=Q30.b,m_z24:=Q30.m,f_z35:=f31,d_z35:=Q31.d,F_z35:=Q31.F,b_z35:=Q31.b,m_z35:=Q31.m,f_z28:=f32,d_z28:=Q32.d,F_z28:=Q32.F,b_z28:=Q32.b,m_z28:=Q32.m,f_z47:=f33,d_z47:=Q33.d,F_z47:=Q33.F,b_z47:=Q33.b,m_z47:=Q33.m,f_z46:=f34,d_z46:=Q34.d,F_z46:=Q34.F,b_z46:=Q34.b,m_z46:=Q34.m,f_z32:=f35,d_z32:=Q35.d,F_z32:=Q35.F,b_z32:=Q35.b,m_z32:=Q35.m,f_z41:=f36,d_z41:=Q36.d,F_z41:=Q36.F,b_z41:=Q36.b,m_z41:=Q36.m,f_z44:=f37,d_z44:=Q37.d,F_z44:=Q37.F,b_z44:=Q37.b,m_z44:=Q37.m,f_z22:=f38,d_z22:=Q38.d,F_z22:=Q38.F,b_z22:=Q38.b,m_z22:=Q38.m,f_z26:=f39,d_z26:=Q39.d,F_z26:=Q39.F,b_z26:=Q39.b,m_z26:=Q39.m,f_z33:=f40,d_z33:=Q40.d,F_z33:=Q40.F,b_z33:=Q40.b,m_z33:=Q40.m,f_z48:=f41,d_z48:=Q41.d,F_z48:=Q41.F,b_z48:=Q41.b,m_z48:=Q41.m,f_z39:=f42,d_z39:=Q42.d,F_z39:=Q42.F,b_z39:=Q42.b,m_z39:=Q42.m,f_z30:=f43,d_z30:=Q43.d,F_z30:=Q43.F,b_z30:=Q43.b,m_z30:=Q43.m,f_z45:=f44,d_z45:=Q44.d,F_z45:=Q44.F,b_z45:=Q44.b,m_z45:=Q44.m,f_law:=fa,d_law:=_,F_law:=F45,b_law:=b45,m_law:=W.mg_of X G a45,z_ValueError:=W.mg_none_of X G z_ValueError,z_any:=W.mg_none_of X G z_any,z_bool:=W.mg_none_of X G z_bool,z_enumerate:=W.mg_none_of X G z_enumerate,z_int:=W.mg_none_of X G z_int,z_isinstance:=W.mg_none_of X G z_isinstance,z_len:=W.mg_none_of X G z_len,z_list:=W.mg_none_of X G z_list,z_max:=W.mg_none_of X G z_max,z_min:=W.mg_none_of X G z_min,z_range:=W.mg_none_of X G z_range,z_repr:=W.mg_none_of X G z_repr,z_set:=W.mg_none_of X G z_set,z_sorted:=W.mg_none_of X G z_sorted,z_sum:=W.mg_none_of X G z_sum,z_tuple:=W.mg_none_of X G z_tuple };exact⟨W.fnOf "law" "law" (Bh Cf) (BM Cf) (AK Cf) .none kV45 dc45 pm45 an45 cd45 ct45,[(g18,p18)],List.forall_mem_cons.mpr ⟨⟨W.codeHd_of_K X gh18,gt18⟩,fun _ z=>nomatch z⟩,hnt,fun s v=>.of_eq rfl,fun base _ _ B=>TF T B⟩
theorem walk {l:W.OpenLaw} {q:Program} {loose:List Str} {XP:(Str->Option Value)->Heap->Prop} {YP:World->Heap->Prop} {d:DefRec} {K:Params->W.Frag} (hn:l.most=some 63) (hdf:d.params.defaults=[])
 (hY:∀(w:World) (h:Heap),YP w h->(K w.params).In h)
 (F:∀(w:World) (mg:Str->Option Value) (fa:Addr) (h:Heap),YP w h->(K w.params).In h->h.Ns mainGlobals mg->mg d.name=some (.ref fa) ->
   ∃(fd:FuncData) (ts:List (Addr × Addr)),W.TabsAt ts h/\W.noTabs (K w.params)=true/\(∀(s:Shared) (u:Value),BindsTo s fd ⟨[u],[]⟩ [("_law_script",u)])/\∀base:Heap,(K w.params).In base->base.Ns mainGlobals mg->BMn mg base->FnOk l.prog w (K w.params) mg base CX0 98 fa fd ["_law_script"] (FX (K w.params) (ts.map (·.2)))) :
 W.WalkO q loose XP YP l.row.toRowW d [] (fun f vs=>PySem.call f vs) :=
 L2.walk_ofT (n:=63) (k:=98) (x:="_law_script") (sp:=fun w ts=>FX (K w.params) ts) hn (by decide) hdf ⟨rfl,by decide,by decide,rfl⟩ hY F (fun _ _ a ns ts hl hO hS=>⟨a,ns,rfl,hS,hl,hO,fun _=>rfl⟩)
end Mine
namespace PySem.W.Fast
theorem tw2719089315659137670:0=0:=rfl
theorem tw9372060952280085144:0=0:=rfl
theorem tw3630850947743979992:0=0:=rfl
theorem tw3492387934301123844:0=0:=rfl
theorem tw7798515305010851645:0=0:=rfl
theorem tw50431301644566412:0=0:=rfl
theorem tw1436853733046138423:0=0:=rfl
theorem tw6289888537891827051:0=0:=rfl
theorem tw16808928372217444371:0=0:=rfl
theorem tw11480500285304976503:0=0:=rfl
theorem tw5314446124943849898:0=0:=rfl
theorem tw14945627690306796964:0=0:=rfl
theorem tw6667450898740572927:0=0:=rfl
theorem tw12165116149583279741:0=0:=rfl
theorem tw4964900912780533185:0=0:=rfl
theorem tw11351080697345200831:0=0:=rfl
theorem tw15253413303113641096:0=0:=rfl
theorem tw16701718945980769363:0=0:=rfl
theorem tw15542443547250611531:0=0:=rfl
theorem tw15513818995576228669:0=0:=rfl
theorem tw17433002126395761574:0=0:=rfl
theorem tw13070078992835473911:0=0:=rfl
theorem tw3701160734813190846:0=0:=rfl
theorem tw7979210456093763297:0=0:=rfl
theorem tw15614434961848811348:0=0:=rfl
theorem tw4008095236593190975:0=0:=rfl
theorem tw2620786866506029485:0=0:=rfl
theorem tw1782511264044298026:0=0:=rfl
theorem tw9793629387618626753:0=0:=rfl
theorem tw1433282429146835326:0=0:=rfl
theorem tw13140615065977352786:0=0:=rfl
theorem tw2524052282445786459:0=0:=rfl
theorem tw11922939848144650558:0=0:=rfl
theorem tw4492109841079278913:0=0:=rfl
theorem tw7762355850240562845:0=0:=rfl
theorem tw11891154884269458969:0=0:=rfl
theorem tw7006201079767765842:0=0:=rfl
theorem tw4614362053676196370:0=0:=rfl
theorem tw11415330395445469730:0=0:=rfl
theorem tw9798132732248781426:0=0:=rfl
theorem tw11256394777638933285:0=0:=rfl
theorem tw16502281405670897364:0=0:=rfl
theorem tw16996324938820027629:0=0:=rfl
theorem tw3418070409326648242:0=0:=rfl
theorem tw6204643829948610764:0=0:=rfl
theorem tw1314714046203204781:0=0:=rfl
theorem tw2171007328903047480:0=0:=rfl
theorem tw13921742686168088257:0=0:=rfl
theorem tw6041997721368514494:0=0:=rfl
theorem tw7046525672353105163:0=0:=rfl
theorem tw18371204979526264612:0=0:=rfl
theorem tw5019466771890899706:0=0:=rfl
theorem tw14116350949565865432:0=0:=rfl
theorem tw10508480045610337886:0=0:=rfl
theorem tw9654040257057661501:0=0:=rfl
theorem tw9694384205772094048:0=0:=rfl
theorem tw641659084836344452:0=0:=rfl
theorem tw4413675120969889976:0=0:=rfl
theorem tw12901264191867853227:0=0:=rfl
theorem tw2195354128589555245:0=0:=rfl
theorem tw4915631893252199188:0=0:=rfl
theorem tw5331615231028626741:0=0:=rfl
theorem tw13224310482439901701:0=0:=rfl
theorem tw7351014833546211687:0=0:=rfl
theorem tw9780498488659930984:0=0:=rfl
theorem tw6907821799019345754:0=0:=rfl
theorem tw13492815137623459198:0=0:=rfl
theorem tw18348133623257173185:0=0:=rfl
theorem tw6411352761393123424:0=0:=rfl
theorem tw8124234904227489992:0=0:=rfl
theorem tw2155227651097499335:0=0:=rfl
theorem tw9925320374796025245:0=0:=rfl
theorem tw5028907240361770937:0=0:=rfl
theorem tw733009806432599779:0=0:=rfl
theorem tw12151314021308955488:0=0:=rfl
theorem tw4927732531765301434:0=0:=rfl
theorem tw12731606824690818957:0=0:=rfl
theorem tw13590078482752588092:0=0:=rfl
theorem tw881328610343369947:0=0:=rfl
end PySem.W.Fast
open PySem PySem.W PyProof.Rows
local macro_rules | `(tactic| walk_at "k")=>`(tactic| (refine' Mine.all_di ?a ?b ?c ?d;(case a=>k_is);(case b=>k_is);(case c=>k_is);(case d=>k_is)))
local macro_rules | `(tactic| walk_at "l")=>`(tactic| (refine' Mine.all_dm ?a ?e ?b ?c ?d;(case a=>k_is);(case e=>k_is);(case b=>k_is);(case c=>k_is);(case d=>k_is)))
set_option maxRecDepth 100000 in
set_option maxHeartbeats 0 in
theorem PySem.Challenge.cw_flips_k46_fewest_told_holds : PySem.Challenge.rw_flips_k46_fewest_told.Holds := by
 w_on;o_law;k_head;(case hw=>w_witness2)
 k_fill
 refine Mine.walk (l:=PySem.Challenge.rw_flips_k46_fewest_told) rfl rfl (fun w h Y=>PySem.W.km_in_of Y) ?F
 case F =>
  intro w mg fa h Y KX G hmg
  refine' Mine.all_mk KX G hmg ?aC_Reckoner ?pg_Reckoner ?hd_Reckoner ?po_Reckoner ?sa_Reckoner ?mk_Reckoner ?kc_Reckoner ?na_labels_Reckoner ?na_yeses_Reckoner ?na_alike_Reckoner ?na_known_Reckoner ?aC_Alike ?aC_FlipError ?aC_NoEnd ?aC_NoName ?aC_NoRow ?aC_NoTable ?aC_NoText ?aC_NoThing ?x1_NoEnd ?x2_NoEnd ?x3_NoEnd ?x4_NoEnd ?x5_NoEnd ?x6_NoEnd ?x7_NoEnd ?xs_NoEnd ?hd_NoEnd ?na_one_NoEnd ?na_other_NoEnd ?xm_NoEnd_FlipError ?kk_NoEnd_Alike ?kk_NoEnd_NoEnd ?kk_NoEnd_NoName ?kk_NoEnd_NoRow ?kk_NoEnd_NoTable ?kk_NoEnd_NoText ?kk_NoEnd_NoThing ?kk_NoEnd_ValueError ?a0 ?i0 ?l0 ?c0 ?k0 ?i1 ?i2 ?i3 ?i4 ?i5 ?i6 ?i7 ?i8 ?i9 ?i10 ?i11 ?i12 ?i13 ?i14 ?i15 ?i16 ?i17 ?a18 ?i18 ?l18 ?c18 ?k18 ?lc18 ?pv18 ?gh18 ?gt18 ?i19 ?i20 ?i21 ?i22 ?i23 ?i24 ?i25 ?i26 ?i27 ?i28 ?i29 ?i30 ?i31 ?i32 ?i33 ?i34 ?i35 ?i36 ?i37 ?i38 ?i39 ?i40 ?i41 ?i42 ?i43 ?i44 ?a45 ?l45 ?c45 ?k45 ?z_ValueError ?z_any ?z_bool ?z_enumerate ?z_int ?z_isinstance ?z_len ?z_list ?z_max ?z_min ?z_range ?z_repr ?z_set ?z_sorted ?z_sum ?z_tuple ?xj_NoEnd ?hnt
  (case aC_Reckoner | pg_Reckoner | hd_Reckoner | po_Reckoner | sa_Reckoner | mk_Reckoner | kc_Reckoner | na_labels_Reckoner | na_yeses_Reckoner | na_alike_Reckoner | na_known_Reckoner | aC_Alike | aC_FlipError | aC_NoEnd | aC_NoName | aC_NoRow | aC_NoTable | aC_NoText | aC_NoThing | x1_NoEnd | x2_NoEnd | x3_NoEnd | x4_NoEnd | x5_NoEnd | x6_NoEnd | x7_NoEnd | xs_NoEnd | hd_NoEnd | na_one_NoEnd | na_other_NoEnd | a0 | i0 | l0 | c0 | k0 | a18 | i18 | l18 | c18 | k18 | lc18 | a45 | l45 | c45 | k45 | z_ValueError | z_any | z_bool | z_enumerate | z_int | z_isinstance | z_len | z_list | z_max | z_min | z_range | z_repr | z_set | z_sorted | z_sum | z_tuple=>k_is)
  (case xm_NoEnd_FlipError=>kts_exm)
  (case kk_NoEnd_Alike=>kit_is)
  (case kk_NoEnd_NoEnd=>kit_is)
  (case kk_NoEnd_NoName=>kit_is)
  (case kk_NoEnd_NoRow=>kit_is)
  (case kk_NoEnd_NoTable=>kit_is)
  (case kk_NoEnd_NoText=>kit_is)
  (case kk_NoEnd_NoThing=>kit_is)
  (case kk_NoEnd_ValueError=>kit_is)
  (case i1=>walk_at "k")
  (case i2=>walk_at "k")
  (case i3=>walk_at "k")
  (case i4=>walk_at "k")
  (case i5=>walk_at "k")
  (case i6=>walk_at "k")
  (case i7=>walk_at "l")
  (case i8=>walk_at "l")
  (case i9=>walk_at "l")
  (case i10=>walk_at "l")
  (case i11=>walk_at "l")
  (case i12=>walk_at "l")
  (case i13=>walk_at "l")
  (case i14=>walk_at "l")
  (case i15=>walk_at "l")
  (case i16=>walk_at "l")
  (case i17=>walk_at "l")
  (case pv18=>rfl)
  (case gh18=>kernel_rfl)
  (case gt18=>exact PySem.W.km_tabs_of Y _ (by k_mem))
  (case i19=>walk_at "k")
  (case i20=>walk_at "k")
  (case i21=>walk_at "k")
  (case i22=>walk_at "k")
  (case i23=>walk_at "k")
  (case i24=>walk_at "k")
  (case i25=>walk_at "k")
  (case i26=>walk_at "k")
  (case i27=>walk_at "k")
  (case i28=>walk_at "k")
  (case i29=>walk_at "k")
  (case i30=>walk_at "k")
  (case i31=>walk_at "k")
  (case i32=>walk_at "k")
  (case i33=>walk_at "k")
  (case i34=>walk_at "k")
  (case i35=>walk_at "k")
  (case i36=>walk_at "k")
  (case i37=>walk_at "k")
  (case i38=>walk_at "k")
  (case i39=>walk_at "k")
  (case i40=>walk_at "k")
  (case i41=>walk_at "k")
  (case i42=>walk_at "k")
  (case i43=>walk_at "k")
  (case i44=>walk_at "k")
  (case xj_NoEnd=>kernel_rfl)
  (case hnt=>kernel_rfl)
