import PyProof.Rows.All
import Wide.All
import OpenK.AllK
import Wide.FinOn
import Lean
import PyProof.EqAt
import PyProof.EqKinds
import PyProof.TupleCall
import PyProof.NeKinds
import PyProof.ReprRoads
import PyProof.ReprBulk
import PyProof.Draws
import PyProof.EnumMake
import KE.BitLaws
import PyProof.ListIndex
import PyProof.AttrMissHeap
import PyProof.DictUpdate
import KE.KDictOf
import PyProof.FactsAll.enumerate_1
import PyProof.FactsAll.tuple_2
import PyProof.ListMulRoad
import PyProof.ListRange
import PyProof.FactsAll.list_3
import PyProof.Rows.SortWalk
import PyProof.Rows.MinMaxN
import KE.KEqDict
import KE.KDictSum
import PyProof.WalksMore
import PyProof.Rows.SetFrom
import PyProof.SetRoads
import PyProof.FactsAll.set_1
import KE.KItemsList
import KE.KSortTup
import KE.KLam
import PyProof.FactsAll.dict_1
import PyProof.StrBlockH
import PyProof.StrLawsTight
import PyProof.StrLawsOccR
import PyProof.StrLawsJoin
import PyProof.StationsW
import PyProof.NsDelKeeps
import PyProof.RulesAs
import PyProof.ExcInit
import KE.KTryMore
import PyProof.ExcClass3
import PyProof.ExcBaseAll.ValueError
import OpenK.KOwn
import PyProof.ExcArgsOwn
import PyProof.InstStoreFacts
import PyProof.FactsAll.tuple_2
import PyProof.FactsAll.tuple_3
import PyProof.TupleOfStr
import KE.KMinKey
import PyProof.FactsAll.list_4
import PySem.Challenge.RW_flips_k95_whole_any_paper_of_asks
set_option Elab.async false
set_option linter.all false
set_option maxRecDepth 100000
set_option maxHeartbeats 0
section
open PySem PySem.Spec PyProof.Rows PySem.W
theorem ZA:type_of% @PySem.wpAny_bind:=@PySem.wpAny_bind
theorem ZB:type_of% @PySem.wpAny_pure:=@PySem.wpAny_pure
theorem ZC:type_of% @List.length_map:=@List.length_map
theorem ZD:type_of% @Nat.le_refl:=@Nat.le_refl
theorem ZE:type_of% @List.getElem?_eq_getElem:=@List.getElem?_eq_getElem
theorem ZF:type_of% @PySem.Heap.get?_push_of_some:=@PySem.Heap.get?_push_of_some
theorem ZG:type_of% @PySem.Heap.lt_size:=@PySem.Heap.lt_size
theorem ZH:type_of% @List.mem_cons:=@List.mem_cons
theorem ZI:type_of% @List.mem_singleton:=@List.mem_singleton
theorem ZJ:type_of% @List.size_toArray:=@List.size_toArray
theorem ZK:type_of% @List.mem_map:=@List.mem_map
theorem ZL:type_of% @decide_eq_true:=@decide_eq_true
theorem ZM:type_of% @of_decide_eq_true:=@of_decide_eq_true
theorem ZN:type_of% @PySem.Heap.get?_push_size:=@PySem.Heap.get?_push_size
theorem ZO:type_of% @Nat.ne_of_lt:=@Nat.ne_of_lt
theorem ZP:type_of% @Nat.zero_le:=@Nat.zero_le
theorem ZQ:type_of% @Bool.and_eq_true:=@Bool.and_eq_true
theorem ZR:type_of% @List.map_append:=@List.map_append
theorem ZS:type_of% @Option.some.inj:=@Option.some.inj
theorem ZT:type_of% @List.getElem?_map:=@List.getElem?_map
theorem ZU:type_of% @List.length_append:=@List.length_append
theorem ZV:type_of% @List.getD_eq_getElem?_getD:=@List.getD_eq_getElem?_getD
theorem ZW:type_of% @List.mem_cons_of_mem:=@List.mem_cons_of_mem
theorem ZX:type_of% @Nat.lt_of_lt_of_le:=@Nat.lt_of_lt_of_le
theorem ZY:type_of% @List.mem_append_right:=@List.mem_append_right
theorem ZZ:type_of% @PySem.wpAny_mono:=@PySem.wpAny_mono
theorem Za:type_of% @Nat.lt_irrefl:=@Nat.lt_irrefl
theorem Zb:type_of% @List.mem_cons_self:=@List.mem_cons_self
theorem Zc:type_of% @PySem.wpAny_holding:=@PySem.wpAny_holding
theorem Zd:type_of% @List.map_cons:=@List.map_cons
theorem Ze:type_of% @List.mem_append:=@List.mem_append
theorem Zf:type_of% @List.length_take:=@List.length_take
theorem Zg:type_of% @List.getElem?_eq_some_iff:=@List.getElem?_eq_some_iff
theorem Zh:type_of% @Array.length_toList:=@Array.length_toList
theorem Zi:type_of% @List.length_cons:=@List.length_cons
theorem Zj:type_of% @List.append_nil:=@List.append_nil
theorem Zk:type_of% @List.getElem_mem:=@List.getElem_mem
theorem Zl:type_of% @List.mem_range:=@List.mem_range
theorem Zm:type_of% @Int.toNat_natCast:=@Int.toNat_natCast
theorem Zn:type_of% @PySem.wpAny_newObj_type:=@PySem.wpAny_newObj_type
theorem Zo:type_of% @List.mem_of_getElem?:=@List.mem_of_getElem?
theorem Zp:type_of% @Nat.pow_le_pow_right:=@Nat.pow_le_pow_right
theorem Zq:type_of% @List.getElem_of_mem:=@List.getElem_of_mem
theorem Zr:type_of% @List.take_add_one:=@List.take_add_one
theorem Zs:type_of% @Nat.le_trans:=@Nat.le_trans
theorem Zt:type_of% @List.mem_append_left:=@List.mem_append_left
theorem Zu:type_of% @PySem.Heap.get?_update_other:=@PySem.Heap.get?_update_other
theorem Zv:type_of% @List.take_length:=@List.take_length
theorem Zw:type_of% @decide_eq_false:=@decide_eq_false
theorem Zx:type_of% @PySem.wpAny_call_entry:=@PySem.wpAny_call_entry
theorem Zy:type_of% @List.lookup_cons:=@List.lookup_cons
theorem Zz:type_of% @PySem.wpAny_ite_split:=@PySem.wpAny_ite_split
theorem Z0:type_of% @Nat.le_of_lt:=@Nat.le_of_lt
theorem Z1:type_of% @PySem.Heap.size_push:=@PySem.Heap.size_push
theorem Z2:type_of% @Bool.false_xor:=@Bool.false_xor
theorem Z3:type_of% @PySem.Heap.SameBut.update:=@PySem.Heap.SameBut.update
theorem Z4:type_of% @Nat.lt_or_ge:=@Nat.lt_or_ge
theorem Z5:type_of% @Nat.testBit_and:=@Nat.testBit_and
theorem Z6:type_of% @List.mem_filter:=@List.mem_filter
theorem Z7:type_of% @Bool.false_ne_true:=@Bool.false_ne_true
theorem Z8:type_of% @List.mem_nil_iff:=@List.mem_nil_iff
theorem Z9:type_of% @PySem.codeAny_builtin:=@PySem.codeAny_builtin
theorem ZBA:type_of% @PySem.plainId_quiet:=@PySem.plainId_quiet
theorem ZBB:type_of% @List.length_range:=@List.length_range
theorem ZBC:type_of% @PySem.wpAny_truthy_bool:=@PySem.wpAny_truthy_bool
theorem ZBD:type_of% @PySem.wpAny_field:=@PySem.wpAny_field
theorem ZBE:type_of% @PySem.Around.under_plainId:=@PySem.Around.under_plainId
theorem ZBF:type_of% @PySem.codeAny_mono:=@PySem.codeAny_mono
theorem ZBG:type_of% @PySem.Heap.get?_update_self:=@PySem.Heap.get?_update_self
theorem ZBH:type_of% @List.all_eq_true:=@List.all_eq_true
theorem ZBI:type_of% @PySem.wpAny_setField:=@PySem.wpAny_setField
theorem ZBJ:type_of% @List.map_map:=@List.map_map
theorem ZBK:type_of% @PySem.wpAny_standAt:=@PySem.wpAny_standAt
theorem ZBL:type_of% @List.getElem?_append_right:=@List.getElem?_append_right
theorem ZBM:type_of% @List.any_eq_true:=@List.any_eq_true
theorem ZBN:type_of% @Nat.ne_of_gt:=@Nat.ne_of_gt
theorem ZBO:type_of% @Nat.lt_succ_self:=@Nat.lt_succ_self
theorem ZBP:type_of% @List.getElem?_append_left:=@List.getElem?_append_left
theorem ZBQ:type_of% @Nat.not_lt_zero:=@Nat.not_lt_zero
theorem ZBR:type_of% @Nat.lt_trans:=@Nat.lt_trans
theorem ZBS:type_of% @Bool.eq_iff_iff:=@Bool.eq_iff_iff
theorem ZBT:type_of% @PySem.wpAny_tryCatch:=@PySem.wpAny_tryCatch
theorem ZBU:type_of% @PySem.Heap.get?_none_of_le:=@PySem.Heap.get?_none_of_le
theorem ZBV:type_of% @Nat.le_succ:=@Nat.le_succ
theorem ZBW:type_of% @Nat.lt_trichotomy:=@Nat.lt_trichotomy
theorem ZBX:type_of% @Array.getElem?_eq_getElem:=@Array.getElem?_eq_getElem
theorem ZBY:type_of% @PySem.wpAny_letGo:=@PySem.wpAny_letGo
theorem ZBZ:type_of% @Bool.not_eq_true':=@Bool.not_eq_true'
theorem ZBa:type_of% @List.range_succ:=@List.range_succ
theorem ZBb:type_of% @List.filterMap_cons:=@List.filterMap_cons
theorem ZBc:type_of% @Nat.le_of_eq:=@Nat.le_of_eq
theorem ZBd:type_of% @List.nodup_cons:=@List.nodup_cons
theorem ZBe:type_of% @Array.getElem?_toList:=@Array.getElem?_toList
theorem ZBf:type_of% @Option.map_some:=@Option.map_some
theorem ZBg:type_of% @Option.map_eq_some_iff:=@Option.map_eq_some_iff
theorem ZBh:type_of% @List.pairwise_map:=@List.pairwise_map
theorem ZBi:type_of% @List.filter_cons:=@List.filter_cons
theorem ZBj:type_of% @List.filter_append:=@List.filter_append
theorem ZBk:type_of% @List.length_filter_le:=@List.length_filter_le
theorem ZBl:type_of% @Bool.false_and:=@Bool.false_and
theorem ZBm:type_of% @List.length_drop:=@List.length_drop
theorem ZBn:type_of% @Nat.le_of_succ_le:=@Nat.le_of_succ_le
theorem ZBo:type_of% @Int.eq_ofNat_of_zero_le:=@Int.eq_ofNat_of_zero_le
theorem ZBp:type_of% @List.take_of_length_le:=@List.take_of_length_le
theorem ZBq:type_of% @Array.getElem?_eq_some_iff:=@Array.getElem?_eq_some_iff
theorem ZBr:type_of% @List.find?_cons:=@List.find?_cons
theorem ZBs:type_of% @Nat.and_le_left:=@Nat.and_le_left
theorem ZBt:type_of% @Nat.sub_self:=@Nat.sub_self
theorem ZBu:type_of% @List.replicate_succ:=@List.replicate_succ
theorem ZBv:type_of% @List.nodup_append:=@List.nodup_append
theorem ZBw:type_of% @List.pairwise_lt_range:=@List.pairwise_lt_range
theorem ZBx:type_of% @Bool.true_and:=@Bool.true_and
theorem ZBy:type_of% @Nat.two_pow_pos:=@Nat.two_pow_pos
theorem ZBz:type_of% @List.map_congr_left:=@List.map_congr_left
theorem ZB0:type_of% @List.filter_nil:=@List.filter_nil
theorem ZB1:type_of% @List.mem_filterMap:=@List.mem_filterMap
theorem ZB2:type_of% @Nat.lt_of_le_of_lt:=@Nat.lt_of_le_of_lt
theorem ZB3:type_of% @List.getElem_toArray:=@List.getElem_toArray
theorem ZB4:type_of% @Bool.false_eq_true:=@Bool.false_eq_true
theorem ZB5:type_of% @Nat.eq_zero_or_pos:=@Nat.eq_zero_or_pos
theorem ZB6:type_of% @List.pairwise_cons:=@List.pairwise_cons
theorem ZB7:type_of% @Array.toList_append:=@Array.toList_append
theorem ZB8:type_of% @List.length_pos_of_mem:=@List.length_pos_of_mem
theorem ZB9:type_of% @List.getElem?_eq_none:=@List.getElem?_eq_none
end
-- CHANGE: your row's module here,as the last of these rows
namespace L2
open PySem PySem.Spec PyProof.Rows
variable {us:List Value}{x:Str}{u:Value}{H:Hp}{C a b:Addr}{o:HO}{P:Program}{w:World}{h:Heap}{i k t':Nat}{A:Around}{E Q:Value->Shared->Prop}{v:V}{s:Shared}{pos:Pos}{Ya:List (Addr × Obj)}{σ:St}{K:W.Frag}
abbrev Key:=Sum Int Str
def DR:Key->Value->Bool
 | .inl k,v=>Value.isInt k v
 | .inr x,v=>Value.isStrOf x v
def VO(w:World):Key->Int
 | .inl k=>hashInt k
 | .inr x=>hashStr w x
theorem keyIs_shape:∀{k:Key} {v:Value},DR k v=true->(∃i t,k=Sum.inl i/\v=Value.int i t)\/(∃x t,k=Sum.inr x/\v=Value.str x t)
 | .inl i,v,h=>by
  obtain⟨t,e⟩:=Value.isInt_shape (k:=i) (v:=v) h;exact .inl ⟨i,t,rfl,e⟩
 | .inr x,v,h=>by
  obtain⟨t,e⟩:=Value.isStrOf_shape (x:=x) (v:=v) h;exact .inr ⟨x,t,rfl,e⟩
theorem QG(i:Int)(t:Tok):DR (.inl i) (.int i t)=true:=by simp[DR,Value.isInt]
theorem Vb(x:Str)(t:Tok):DR (.inr x) (.str x t)=true:=by simp[DR,Value.isStrOf]
theorem Qq(a b:Int):decide ((Sum.inl a:Key)=Sum.inl b)=(a == b):=by
 by_cases e:a=b
 ·subst e;simp
 ·have h:¬(Sum.inl a:Key)=Sum.inl b:=fun q=>e (Sum.inl.inj q)
  rw[Zw h];exact(beq_eq_false_iff_ne.mpr e).symm
theorem Rb(a b:Str):decide ((Sum.inr a:Key)=Sum.inr b)=decide (a=b):=by
 by_cases e:a=b
 ·subst e;simp
 ·have h:¬(Sum.inr a:Key)=Sum.inr b:=fun q=>e (Sum.inr.inj q)
  rw[Zw h,Zw e]
theorem ON(a:Int)(b:Str):decide ((Sum.inl a:Key)=Sum.inr b)=false:=Zw (fun q=>nomatch q)
theorem Pe(a:Str)(b:Int):decide ((Sum.inr a:Key)=Sum.inl b)=false:=Zw (fun q=>nomatch q)
def BJ(prog:Program)(w:World):PySem.KeyKind prog w Key where
 is:=DR
 hash:=VO w
 inj:=fun v a b ha hb=>by
  rcases keyIs_shape ha with ⟨i,t,rfl,rfl⟩ | ⟨x,t,rfl,rfl⟩
  ·rcases keyIs_shape hb with ⟨j,u,rfl,e⟩ | ⟨y,u,rfl,e⟩
   ·injection e with e1 _;rw[e1]
   ·exact nomatch e
  ·rcases keyIs_shape hb with ⟨j,u,rfl,e⟩ | ⟨y,u,rfl,e⟩
   ·exact nomatch e
   ·injection e with e1 _;rw[e1]
 byValue:=fun k v h=>by
  rcases keyIs_shape h with ⟨i,t,rfl,rfl⟩ | ⟨x,t,rfl,rfl⟩ <;> rfl
 pyHash:=fun hv h=>by
  rcases keyIs_shape hv with ⟨i,t,rfl,rfl⟩ | ⟨x,t,rfl,rfl⟩
  ·exact wpAny_pyHash_int h
  ·exact wpAny_pyHash_str h
 eqBool:=fun hu hv h=>by
  rcases keyIs_shape hu with ⟨i,t,rfl,rfl⟩ | ⟨x,t,rfl,rfl⟩
  ·rcases keyIs_shape hv with ⟨j,u,rfl,rfl⟩ | ⟨y,u,rfl,rfl⟩
   ·rw[Qq]at h;exact wpAny_eqBool_int h
   ·rw[ON]at h;exact SeqAt.EqAt.int_str i t y u _ _ _ _ h
  ·rcases keyIs_shape hv with ⟨j,u,rfl,rfl⟩ | ⟨y,u,rfl,rfl⟩
   ·rw[Pe]at h;exact SeqAt.EqAt.str_int x t j u _ _ _ _ h
   ·rw[Rb]at h;exact wpAny_eqBool_str h
 «strs»:=fun k x t v h=>by
  rcases keyIs_shape h with ⟨i,u,rfl,e⟩ | ⟨y,u,rfl,e⟩
  ·exact nomatch e
  ·injection e with e1 _
   subst e1;cases v <;> rfl
theorem TC(prog:Program)(w:World)(i:Int)(t:Tok):(BJ prog w).is (.inl i) (.int i t)=true:=QG i t
theorem RX(prog:Program)(w:World)(x:Str)(t:Tok):(BJ prog w).is (.inr x) (.str x t)=true:=Vb x t
inductive V where
 | non | bl (b:Bool) | int (i:Int) | str (x:Str) | byt (b:Array UInt8) | flt (b:UInt64) | ref (a:Addr) | ty (n:String)
 deriving DecidableEq
def Yi:V->Value->Prop
 | .non,u=>u=Value.none
 | .bl b,u=>u=Value.bool b
 | .int i,u=>∃t,u=Value.int i t
 | .str x,u=>∃t,u=Value.str x t
 | .byt b,u=>∃t,u=Value.bytes b t
 | .flt b,u=>∃t,u=Value.float b t
 | .ref a,u=>u=Value.ref a
 | .ty n,u=>u=Value.type n
abbrev Yj:List V->List Value->Prop:=Paired Yi
theorem Yj.length{xs:List V}(r:Yj xs us):xs.length=us.length:=Paired.length r
theorem Yj.get:∀{xs:List V} {us:List Value} {i:Nat} {x:V},Yj xs us->xs[i]? = some x->∃u,us[i]? = some u/\Yi x u
 | _,_,_,_,.nil,e=>by simp at e
 | _,_,0,_,.cons r _,e=>by simp at e;subst e;exact⟨_,rfl,r⟩
 | _,_,i+1,x,.cons _ t,e=>by
  obtain⟨u,h1,h2⟩:=Yj.get (i:=i) (x:=x) t (by simpa using e);exact⟨u,by simpa using h1,h2⟩
theorem Yj.set{x:V}(r:Yi x u):∀{xs:List V} {us:List Value} (i:Nat),Yj xs us->Yj (xs.set i x) (us.set i u)
 | _,_,_,.nil=>.nil
 | _,_,0,.cons _ t=>.cons r t
 | _,_,i+1,.cons q t=>.cons q (Yj.set r i t)
theorem Yj.append:∀{xs ys:List V} {us ws:List Value},Yj xs us->Yj ys ws->Yj (xs++ys) (us++ws)
 | _,_,_,_,.nil,s=>s
 | _,_,_,_,.cons r t,s=>.cons r (Yj.append t s)
theorem Yj.take:∀{xs:List V} {us:List Value} (n:Nat),Yj xs us->Yj (xs.take n) (us.take n)
 | _,_,0,_=>.nil
 | _,_,_+1,.nil=>.nil
 | _,_,n+1,.cons r t=>.cons r (Yj.take n t)
theorem Yj.drop:∀{xs:List V} {us:List Value} (n:Nat),Yj xs us->Yj (xs.drop n) (us.drop n)
 | _,_,0,r=>r
 | _,_,_+1,.nil=>.nil
 | _,_,n+1,.cons _ t=>Yj.drop n t
def RelO:Option V->Option Value->Prop
 | some v,some u=>Yi v u
 | none,none=>True
 | _,_=>False
def KV{κ:Type}:List (κ × V)->List (κ × Value)->Prop:=Paired fun(p:κ × V) (q:κ × Value)=>p.1=q.1/\Yi p.2 q.2
def kV:Key->V
 | .inl i=>.int i
 | .inr x=>.str x
inductive HO where
 | lst (xs:List V)
 | tup (xs:List V)
 | dK (Yd:List (Key × V)) | dT (Yd:List (List Key × V))
 | set (S:Int->Bool) (n:Nat)
 | ins (C dx:Addr) (fs:List (Str × V))
 | own (x:Addr)
 | xd (fs:List (Str × V))
 | met (f x:Addr)
 | rng (lo hi:Int)
 | frz (o:Obj) (u:HO)
 | tbl (ps:Array Value)
 | ext (φ:Heap->Prop)
abbrev Hp:=Addr->Option HO
def upd(H:Hp)(a:Addr)(o:HO):Hp:=fun b=>if b=a then some o else H b
theorem AD:upd H a o a=some o:=by unfold upd;rw[if_pos rfl]
theorem AI(h:b≠a):upd H a o b=H b:=by unfold upd;rw[if_neg h]
theorem BO{u:HO}(h:H a=some o)(h':H b=some u)(d:o≠u):a≠b:=by
 intro e;subst e;rw[h]at h';exact d (ZS h')
theorem BX(h:H a=some o)(h':H b=none):a≠b:=by
 intro e;subst e;rw[h]at h';cases h'
def IsTupN(h:Heap)(a:Addr)(items:Array Value):Prop:=∃o,h.get? a=some o/\o.cls=.type "tuple" /\ (∃n,o.data=.seq items n)/\o.dict=none
theorem IsTupN.tup{h:Heap}{a:Addr}{items:Array Value}(x:IsTupN h a items):PyProof.Rows.IsTup h a items:=by
 obtain⟨o,e,c,d,_⟩:=x;exact⟨o,e,c,d⟩
theorem IsTupN.new(h:Heap)(items:Array Value):IsTupN (h.push { cls:=.type "tuple",data:=.seq items }) h.objs.size items:=⟨_,ZN _ rfl,rfl,⟨_,rfl⟩,rfl⟩
section
variable (P:Program)(w:World)
def ObjOk(H:Hp)(h:Heap)(a:Addr):HO->Prop
 | .lst xs=>xs.length<=sizeLine/\∃(Yf:List Value) (n:Nat),Yj xs Yf/\h.get? a=some { cls:=.type "list",data:=.seq Yf.toArray n }
 | .tup xs=>xs.length<=sizeLine/\∃Yf:List Value,Yj xs Yf/\IsTupN h a Yf.toArray
 | .dK Yd=>Yd.length<=sizeLine/\(a == sysModules)=false/\∃vs,KV Yd vs/\h.DictOf (BJ P w) a vs
 | .dT Yd=>Yd.length<=sizeLine/\(a == sysModules)=false/\∃xs:List (List Key × Addr × Value),
  Paired (fun(p:List Key × V) (q:List Key × Addr × Value)=>p.1=q.1/\H q.2.1=some (.tup (p.1.map kV))/\Yi p.2 q.2.2) Yd xs /\
  ∃o es ep,h.get? a=some o/\o.ExactDict/\o.data=.dict es ep/\es.toList=xs.map (entryOfKey (tupleKind (BJ P w)))/\(xs.map (·.1)).Nodup
 | .set S n=>h.SetOf (intKind P w) a S n
 | .ins C dx fs=>H dx=some (.own a)/\fs.length<=1000/\dx≠a/\h.get? a=some (PySem.W.instObj C dx) /\
  ∃mA,h.Ns1 dx mA/\(∀f,RelO (fs.lookup f) (mA f))/\PySem.Within mA (fs.map (·.1))
 | .own _=>∃o,h.get? a=some o
 | .xd fs=>∃mA,h.Ns1 a mA/\∀f,RelO (fs.lookup f) (mA f)
 | .rng lo hi=>∃t u v,h.get? a=some { cls:=.type "range",data:=.fields #[.int lo t,.int hi u,.int 1 v] }
 | .frz o u=>h.get? a=some o/\ObjOk H h a u
 | .tbl ps=>h.get? a=some { cls:=.none,data:=.fields ps }
 | .met f x=>h.get? a=some (PySem.W.methodObj (.ref f) (.ref x))
 | .ext φ=>φ h/\(∃o,h.get? a=some o)/\∀h1 h2:Heap,φ h1->(∀o,h1.get? a=some o->h2.get? a=some o)->φ h2
def HOk(H:Hp)(h:Heap):Prop:=∀a o,H a=some o->ObjOk P w H h a o
end
section
variable {P:Program}{w:World}{H H':Hp}{h h':Heap}{a:Addr}{o:HO}
theorem ObjOk.lt(x:ObjOk P w H h a o):a < h.objs.size:=by
 cases o with
 | lst xs=>obtain⟨_,_,_,_,e⟩:=x;exact ZG e
 | tup xs=>obtain⟨_,_,_,p⟩:=x;exact p.tup.lt
 | dK Yd=>obtain⟨_,_,_,_,o,_,_,e,_⟩:=x;exact ZG e
 | dT Yd=>obtain⟨_,_,_,_,o,_,_,e,_⟩:=x;exact ZG e
 | set S n=>obtain⟨o,_,_,_,e,_⟩:=x;exact ZG e
 | ins C dx fs=>obtain⟨_,_,_,e,_⟩:=x;exact ZG e
 | own y=>obtain⟨_,e⟩:=x;exact ZG e
 | xd fs=>obtain⟨_,⟨_,_,_,e,_⟩,_⟩:=x;exact ZG e
 | rng lo hi=>obtain⟨_,_,_,e⟩:=x;exact ZG e
 | frz ob u=>obtain⟨e,_⟩:=x;exact ZG e
 | tbl ps=>exact ZG (show h.get? a=some _ from x)
 | met f y=>exact ZG (show h.get? a=some _ from x)
 | ext φ=>obtain⟨_,⟨_,e⟩,_⟩:=x;exact ZG e
theorem Paired.mapP{α β:Type}{F G:α->β->Prop}:∀{l₁:List α} {l₂:List β},Paired F l₁ l₂->(∀a b,F a b->G a b)->Paired G l₁ l₂
 | _,_,.nil,_=>.nil
 | _,_,.cons r t,f=>.cons (f _ _ r) (Paired.mapP t f)
theorem ObjOk.stay (x:ObjOk P w H h a o) (k:∀b u,(b=a\/H b=some (.own a))->h.get? b=some u->h'.get? b=some u)
 (ho:∀b,H b=some (.own a)->H' b=some (.own a)) (ht:∀b xs,H b=some (.tup xs)->H' b=some (.tup xs)):ObjOk P w H' h' a o:=by
 induction o with
 | lst xs=>obtain⟨z,Yf,n,r,e⟩:=x;exact⟨z,Yf,n,r,k _ _ (.inl rfl) e⟩
 | tup xs=>obtain⟨z,Yf,r,ob,e,c⟩:=x;exact⟨z,Yf,r,ob,k _ _ (.inl rfl) e,c⟩
 | dK Yd=>obtain⟨z,y,vs,r,ob,es,ep,e,c⟩:=x;exact⟨z,y,vs,r,ob,es,ep,k _ _ (.inl rfl) e,c⟩
 | dT Yd =>
  obtain⟨z,y,xs,r,ob,es,ep,e,c⟩:=x;exact⟨z,y,xs,Paired.mapP r fun p q z=>⟨z.1,ht _ _ z.2.1,z.2.2⟩,ob,es,ep,k _ _ (.inl rfl) e,c⟩
 | set S n=>obtain⟨ob,es,ep,t,e,c⟩:=x;exact⟨ob,es,ep,t,k _ _ (.inl rfl) e,c⟩
 | ins C dx fs =>
  obtain⟨d,z,ne,e,mA,⟨od,es,ep,e2,c⟩,r⟩:=x;exact⟨ho _ d,z,ne,k _ _ (.inl rfl) e,mA,⟨od,es,ep,k _ _ (.inr d) e2,c⟩,r⟩
 | own y=>obtain⟨ob,e⟩:=x;exact⟨ob,k _ _ (.inl rfl) e⟩
 | xd fs=>obtain⟨mA,⟨od,es,ep,e,c⟩,r⟩:=x;exact⟨mA,⟨od,es,ep,k _ _ (.inl rfl) e,c⟩,r⟩
 | rng lo hi=>obtain⟨t,u,v,e⟩:=x;exact⟨t,u,v,k _ _ (.inl rfl) e⟩
 | frz ob u ih=>obtain⟨e,q⟩:=x;exact⟨k _ _ (.inl rfl) e,ih q⟩
 | tbl ps =>
  have e:h.get? a=some { cls:=.none,data:=.fields ps }:=x;show h'.get? a=some { cls:=.none,data:=.fields ps };exact k a _ (.inl rfl) e
 | met f y =>
  have e:h.get? a=some (PySem.W.methodObj (.ref f) (.ref y)):=x;show h'.get? a=some (PySem.W.methodObj (.ref f) (.ref y));exact k a _ (.inl rfl) e
 | ext φ=>obtain⟨p,⟨o,e⟩,st⟩:=x;exact⟨st _ _ p fun o q=>k _ _ (.inl rfl) q,⟨o,k _ _ (.inl rfl) e⟩,st⟩
theorem HOk.lt(x:HOk P w H h)(e:H a=some o):a < h.objs.size:=(x a o e).lt
theorem HOk.fresh(x:HOk P w H h)(e:h.objs.size<=a):H a=none:=by
 cases q:H a with
 | none=>rfl
 | some u=>exact absurd (ZX (x.lt q) e) (Za _)
theorem HOk.kept(x:HOk P w H h)(k:∀b u,h.get? b=some u->h'.get? b=some u):HOk P w H h':=fun a o e =>
 (x a o e).stay (fun b u _ q=>k b u q) (fun _ q=>q) fun _ _ q=>q
theorem HOk.laid(x:HOk P w H h)(k:∀b u,h.get? b=some u->h'.get? b=some u)(hp:h.objs.size<=a)(new:ObjOk P w (upd H a o) h' a o):HOk P w (upd H a o) h':=fun b u e=>by
 have hn:=x.fresh hp
 by_cases hb:b=a
 ·subst hb;rw[AD]at e;cases e;exact new
 ·rw[AI hb]at e;exact(x b u e).stay (fun c v _ q=>k c v q) (fun c q=>by rw[AI (BX q hn)];exact q) fun c xs q=>by rw[AI (BX q hn)];exact q
end
def Rd(H:Hp)(a:Addr)(u:HO):Prop:=H a=some u\/∃o,H a=some (.frz o u)
theorem Rd.of{u:HO}(h:H a=some u):Rd H a u:=.inl h
theorem Rd.ok{u:HO}(r:Rd H a u)(x:HOk P w H h):ObjOk P w H h a u:=by
 rcases r with r | ⟨o,r⟩
 ·exact x a u r
 ·obtain⟨_,q⟩:=x a _ r;exact q
def Mut:Option HO->Prop
 | some (.lst _)=>True
 | some (.dK _)=>True
 | some (.dT _)=>True
 | some (.set _ _)=>True
 | some (.ins _ _ _)=>True
 | some (.ext _)=>True
 | _=>False
section
variable {P:Program}{w:World}{H:Hp}{h h':Heap}{x e:Addr}{o':HO}
theorem HOk.write (ok:HOk P w H h) (mu:Mut (H x)) (he:e=x\/H e=some (.own x)) (k:∀b u,b≠e->h.get? b=some u->h'.get? b=some u) (heo:∃u,h'.get? e=some u)
 (new:ObjOk P w (upd H x o') h' x o'):HOk P w (upd H x o') h':=fun b u q=>by
 have nown:∀c y,H c=some (.own y)->c≠x:=fun c y r z=>by subst z;rw[r]at mu;exact mu
 have ntup:∀c xs,H c=some (.tup xs)->c≠x:=fun c xs r z=>by subst z;rw[r]at mu;exact mu
 by_cases hb:b=x
 ·subst hb;rw[AD]at q;cases q;exact new
 ·rw[AI hb]at q
  by_cases hbe:b=e
  ·have q':H b=some (.own x):=by
    rcases he with z | z
    ·exact absurd (hbe.trans z) hb
    ·rw[hbe];exact z
   rw[q]at q';cases q';obtain⟨v,hv⟩:=heo;exact⟨v,by rw[hbe];exact hv⟩
  ·refine(ok b u q).stay (fun c v hc r=>k c v ?_ r) (fun c r=>by rw[AI (nown c b r)];exact r) fun c xs r=>by rw[AI (ntup c xs r)];exact r
   rcases hc with rfl | hc
   ·exact hbe
   ·rintro rfl
    rcases he with z | z
    ·exact nown c b hc z
    ·rw[hc]at z;cases z;exact hb rfl
end
structure Un(fs ex:List Addr)(H H':Hp)(h h':Heap):Prop where
 keep:∀b o,h.get? b=some o->H b=none->b∉fs->b∉ex->h'.get? b=some o
 slot:∀b o,h.get? b=some o->H b=none->b∈fs->b∉ex->∃sl,h'.get? b=some { o with slots:=sl }
 free:∀b o,h.get? b=some o->H b=none->b∉ex->H' b=none
 there:∀b o,h.get? b=some o->b∉ex->∃o',h'.get? b=some o'
 tups:∀b xs,H b=some (.tup xs)->H' b=some (.tup xs)
 frzs:∀b o u,H b=some (.frz o u)->H' b=some (.frz o u)
 tbls:∀b ps,H b=some (.tbl ps)->∃more,H' b=some (.tbl (ps++more))
section
variable {fs fs' ex ex':List Addr}{H H1 H2:Hp}{h h1 h2 h':Heap}{a x e:Addr}{o:HO}
theorem Un.any(u:Un fs ex H H1 h h1){ob:Obj}(q:h.get? b=some ob)(n:H b=none)(hx:b∉ex):∃sl,h1.get? b=some { ob with slots:=sl }:=by
 by_cases hb:b∈fs
 ·exact u.slot b ob q n hb hx
 ·exact⟨ob.slots,u.keep b ob q n hb hx⟩
theorem Un.kept(k:∀b u,h.get? b=some u->h'.get? b=some u):Un fs ex H H h h' :=
 ⟨fun b ob q _ _ _=>k b ob q,fun b ob q _ _ _=>⟨ob.slots,k b ob q⟩,fun _ _ _ n _=>n,fun b ob q _=>⟨ob,k b ob q⟩,fun _ _ q=>q,fun _ _ _ q=>q,fun _ ps q=>⟨#[],by rw[q];simp⟩⟩
theorem Un.refl:Un fs ex H H h h:=Un.kept fun _ _ q=>q
theorem Un.laid(k:∀b u,h.get? b=some u->h'.get? b=some u)(hp:h.objs.size<=a)(hn:H a=none):Un fs ex H (upd H a o) h h' where
 keep:=fun b u q _ _ _=>k b u q
 slot:=fun b u q _ _ _=>⟨u.slots,k b u q⟩
 free:=fun b u q n _=>by rw[AI (ZO (ZX (ZG q) hp))];exact n
 there:=fun b u q _=>⟨u,k b u q⟩
 tups:=fun b xs q=>by rw[AI (BX q hn)];exact q
 frzs:=fun b u xs q=>by rw[AI (BX q hn)];exact q
 tbls:=fun b ps q=>⟨#[],by rw[AI (BX q hn),q];simp⟩
theorem Un.write(mu:Mut (H x))(he:e=x\/H e=some (.own x))(k:∀b u,b≠e->h.get? b=some u->h'.get? b=some u)(heo:∃u,h'.get? e=some u):Un fs ex H (upd H x o) h h':=by
 have hx:∀b,H b=none->b≠x:=fun b n z=>by subst z;rw[n]at mu;exact mu
 have hb:∀b,H b=none->b≠e:=fun b n z=>by
  subst z
  rcases he with r | r
  ·exact hx b n r
  ·rw[n]at r;cases r
 have hm:∀b u,H b=some u->¬Mut (some u)->b≠x:=fun b u q nm z=>by subst z;rw[q]at mu;exact nm mu
 refine⟨fun b u q n _ _=>k b u (hb b n) q,fun b u q n _ _=>⟨u.slots,k b u (hb b n) q⟩,fun b u q n _=>by rw[AI (hx b n)];exact n,fun b u q _=>?_,
  fun b xs q=>by rw[AI (hm b _ q fun z=>z)];exact q,fun b u xs q=>by rw[AI (hm b _ q fun z=>z)];exact q,fun b ps q=>⟨#[],by rw[AI (hm b _ q fun z=>z),q];simp⟩⟩
 by_cases hbe:b=e
 ·subst hbe;exact heo
 ·exact⟨u,k b u hbe q⟩
end
def trk(h:Heap)(H:Hp):List Addr:=(List.range h.objs.size).filter fun a=>(H a).isSome
def B9(h:Heap)(H:Hp):Heap:=PySem.W.hideAll h (trk h H)
theorem LL(h:Heap)(H:Hp):(B9 h H).objs.size=h.objs.size:=PySem.W.hideAll_size _ _
theorem KU{o:Obj}(e:h.get? b=some o)(n:H b=none):(B9 h H).get? b=some o :=
 PySem.W.hideAll_get _ e fun hm=>by
  have q:(H b).isSome=true:=(Z6.mp hm).2;rw[n]at q;simp at q
theorem K9{o:Obj}(e:(B9 h H).get? b=some o):h.get? b=some o/\H b=none:=by
 have e':h.get? b=some o:=PySem.W.of_hideAll (trk h H) e;refine⟨e',?_⟩;cases q:H b with
 | none=>rfl
 | some x =>
  have hm:b∈trk h H:=Z6.mpr ⟨Zl.mpr (ZG e'),by simp[q]⟩;have z:(B9 h H).get? b=none:=PySem.W.hideAll_none (trk h H) hm;rw[z]at e;cases e
structure Mod(K:W.Frag)(mg:Str->Option Value)(base:Heap):Prop where
 kin:K.In base
 glob:base.Ns mainGlobals mg
 blt:∃mb,base.Ns builtinsNs mb/\∀x:Str,x ≠ "__name__" -> mb x=bootBuiltins x
 nolimit:base.NoLimit
structure Cx where
 prog:Program
 w:World
 K:W.Frag
 mg:Str->Option Value
 base:Heap
 A:Around
 N:List Str
 s₀:Shared
 H₀:Hp
 env:Env
 outer:List Env
 stack:List Env
 ex:List Addr
 fn:Str->Bool
 calm:Bool
 pn:List (Addr × Obj)
 xe:Value->Shared->Prop
def frs(l:List Env):List Addr:=l.filterMap (·.frame)
abbrev Cx.fs(X:Cx):List Addr:=frs X.outer
def Vis(sc:Scope)(x:Str):Prop:=sc.names.lookup x=some .local\/sc.names.lookup x=some .cell\/sc.names.lookup x=some .free
def Loc(sc:Scope)(x:Str):Prop:=sc.names.lookup x=some .local\/sc.names.lookup x=some .cell
def QR(env:Env)(h:Heap)(m:Str->Option Value)(x:Str)(u:Value):Prop :=
 (env.kindOf x=some .local/\m x=some u)\/((env.kindOf x=some .cell\/env.kindOf x=some .free)/\∃c,env.cells.lookup x=some c/\h.IsCell c (some u))
structure Cx.Ok(X:Cx):Prop where
 mod:Mod X.K X.mg X.base
 kind:X.env.scope.kind=.function
 glob:X.env.globals=mainGlobals
 blt:X.env.builtins=builtinsNs
 above:X.s₀.heap.objs.size<=X.env.locals
 inj:∀x y c,X.env.cells.lookup x=some c->X.env.cells.lookup y=some c->x=y
 has:∀x,(X.env.kindOf x=some .cell\/X.env.kindOf x=some .free)->∃c,X.env.cells.lookup x=some c
 cab:∀x c,X.fn x=true->X.env.cells.lookup x=some c->X.s₀.heap.objs.size<=c
 hd:X.calm=true->X.A.handled=none
 frames:X.A.frames=some X.stack
 stk:X.stack=X.outer\/(X.stack=X.env::X.outer/\X.env.frame=some X.env.locals)
 exf:∀b∈X.ex,b≠X.env.locals/\∀x c,X.env.cells.lookup x=some c->c≠b
 bs:∀b o,X.base.get? b=some o->X.s₀.heap.get? b=some o/\X.H₀ b=none
 bsz:X.base.objs.size<=X.s₀.heap.objs.size
 noex:∀b o,X.base.get? b=some o->b∉X.ex
 exfs:∀b∈X.ex,b∉X.fs
 funs:X.s₀.heap.FunFrames X.base X.outer
 frf:∀b∈X.fs,X.H₀ b=none
structure Yg(X:Cx)(Ya:List (Addr × Obj))(σ:List (Option V))(H:Hp)(s:Shared):Prop where
 ok:X.Ok
 os:s.os=X.s₀.os
 bare:AllBare s.gens
 base:Un X.fs X.ex X.H₀ H X.s₀.heap s.heap
 loc:∃m,s.heap.Ns X.env.locals m/\∀(i:Nat) (x:Str) (v:V),X.N[i]? = some x->σ[i]? = some (some v)->Vis X.env.scope x->∃u,Yi v u/\QR X.env s.heap m x u
 cell:∀x c,X.env.cells.lookup x=some c->∃v,s.heap.IsCell c v
 free:H X.env.locals=none
 freeC:∀x c,X.env.cells.lookup x=some c->H c=none
 pin:∀p∈X.pn++Ya,s.heap.get? p.1=some p.2/\H p.1=none/\p.1≠X.env.locals/\p.1∉X.fs/\∀v,p.2.data≠.cell v
 hok:HOk X.prog X.w H s.heap
 len:σ.length=X.N.length
section
variable {X:Cx}{Ya:List (Addr × Obj)}{σ:List (Option V)}{H H':Hp}{s:Shared}{h':Heap}
theorem Cx.Ok.nofr(ok:X.Ok){o:Obj}(e:X.base.get? b=some o):b∉X.fs:=fun hb=>by
 have:=(ok.funs.mem hb).1
 rw[e]at this;cases this
theorem Yg.bs(I:Yg X Ya σ H s):∀b o,X.base.get? b=some o->s.heap.get? b=some o/\H b=none:=fun b o e =>
 ⟨I.base.keep b o (I.ok.bs b o e).1 (I.ok.bs b o e).2 (I.ok.nofr e) (I.ok.noex b o e),I.base.free b o (I.ok.bs b o e).1 (I.ok.bs b o e).2 (I.ok.noex b o e)⟩
theorem Yg.bk(I:Yg X Ya σ H s):∀b o,X.base.get? b=some o->s.heap.get? b=some o:=fun b o e=>(I.bs b o e).1
theorem Yg.mod(I:Yg X Ya σ H s):Mod X.K X.mg X.base:=I.ok.mod
theorem Yg.kIn(I:Yg X Ya σ H s):X.K.In s.heap:=I.ok.mod.kin.keeps I.bk
theorem Yg.lt(I:Yg X Ya σ H s):X.env.locals < s.heap.objs.size:=let ⟨_,hn,_⟩:=I.loc;hn.lt
theorem Yg.sz(I:Yg X Ya σ H s):X.s₀.heap.objs.size<=s.heap.objs.size:=Zs I.ok.above (Z0 I.lt)
theorem Yg.nofs(I:Yg X Ya σ H s)(h:s.heap.objs.size<=a):a∉X.fs:=fun hb=>by
 obtain⟨_,o,ho,_⟩:=I.ok.funs.mem hb;exact absurd (ZX (ZG ho) (Zs I.sz h)) (Za _)
theorem Yg.cne(I:Yg X Ya σ H s):∀x c,X.env.cells.lookup x=some c->c≠X.env.locals:=fun x c e z=>by
 obtain⟨v,o,ho,hd⟩:=I.cell x c e;obtain⟨m,⟨o',es,ep,ho',hd',_⟩,_⟩:=I.loc;rw[z,ho']at ho;cases ho;rw[hd']at hd;cases hd
theorem Yg.funs(I:Yg X Ya σ H s):s.heap.FunFrames X.base X.outer:=by
 have all:∀(l:List Env),(∀b∈frs l,b∈X.fs)->X.s₀.heap.FunFrames X.base l->s.heap.FunFrames X.base l:=by
  intro l
  induction l with
  | nil=>intro _ _;trivial
  | cons env r ih =>
   intro hs hl;obtain⟨hk,⟨L,o,hf,hn,ho,hd⟩,hr⟩:=hl;have hL:L∈X.fs:=hs L (by unfold frs;rw[ZBb,hf];exact Zb);obtain⟨sl,e⟩:=I.base.slot L o ho (I.ok.frf L hL) hL fun z=>I.ok.exfs L z hL
   exact⟨hk,⟨L,_,hf,hn,e,hd⟩,ih (fun b hb=>hs b (by unfold frs;rw[ZBb,hf];exact ZW _ hb)) hr⟩
 exact all X.outer (fun _ hb=>hb) I.ok.funs
theorem Yg.stack(I:Yg X Ya σ H s):s.heap.FunFrames X.base X.stack:=by
 rcases I.ok.stk with e | ⟨e,hf⟩
 ·rw[e];exact I.funs
 ·rw[e];obtain⟨m,hn,_⟩:=I.loc;refine .cons (by rw[I.ok.kind];decide) hf hn ?_ I.funs;exact ZBU (Zs I.ok.bsz I.ok.above)
theorem Yg.stkSub(I:Yg X Ya σ H s):∀b∈frs X.stack,b∈X.env.locals::X.fs:=fun b hb=>by
 rcases I.ok.stk with e | ⟨e,hf⟩
 ·rw[e]at hb;exact ZW _ hb
 ·rw[e]at hb;unfold frs at hb;rw[ZBb,hf]at hb;exact hb
theorem Yg.stkFree(I:Yg X Ya σ H s):∀b∈frs X.stack,H b=none:=fun b hb=>by
 rcases ZH.mp (I.stkSub b hb) with e | hb
 ·rw[e];exact I.free
 ·obtain⟨_,o,ho,_⟩:=I.ok.funs.mem hb;exact I.base.free b o ho (I.ok.frf b hb) fun z=>I.ok.exfs b z hb
theorem Yg.step {g':Array GenState} {d':Drawn} {ch:List Addr} (I:Yg X Ya σ H s)
 (hch:∀b∈ch,(b∈X.ex\/X.s₀.heap.objs.size<=b)/\b≠X.env.locals/\(∀x c,X.env.cells.lookup x=some c->c≠b)/\∀p∈X.pn++Ya,p.1≠b)
 (keep:∀b o,b≠X.env.locals->b∉X.fs->b∉ch->s.heap.get? b=some o->H b=none->h'.get? b=some o)
 (slot:∀b o,b≠X.env.locals->b∈X.fs->b∉ch->s.heap.get? b=some o->H b=none->∃sl,h'.get? b=some { o with slots:=sl }) (free:∀b o,b∉ch->s.heap.get? b=some o->H b=none->H' b=none)
 (there:∀b o,b∉ch->s.heap.get? b=some o->∃o',h'.get? b=some o')
 (tups:∀b xs,H b=some (.tup xs)->H' b=some (.tup xs)) (frzs:∀b o u,H b=some (.frz o u)->H' b=some (.frz o u)) (tbls:∀b ps,H b=some (.tbl ps)->∃more,H' b=some (.tbl (ps++more)))
 (ns:∀m,s.heap.Ns X.env.locals m->h'.Ns X.env.locals m) (hok:HOk X.prog X.w H' h') (hg:AllBare g') :
 Yg X Ya σ H' { s with heap:=h',gens:=g',drawn:=d',toks:=t' }:=by
 have neL:∀b o,X.s₀.heap.get? b=some o->b≠X.env.locals:=fun b o e=>ZO (ZX (ZG e) I.ok.above)
 have neC:∀b o,X.s₀.heap.get? b=some o->b∉X.ex->b∉ch:=fun b o e hx hb=>by
  rcases(hch b hb).1 with z | z
  ·exact hx z
  ·exact absurd (ZX (ZG e) z) (Za _)
 have cellK:∀x c,X.env.cells.lookup x=some c->∀v,s.heap.IsCell c v->h'.IsCell c v:=fun x c e v ⟨o,ho,hd⟩=>by
  have nch:c∉ch:=fun z=>(hch c z).2.2.1 x c e rfl
  by_cases hc:c∈X.fs
  ·obtain⟨sl,q⟩:=slot c o (I.cne x c e) hc nch ho (I.freeC x c e);exact⟨_,q,hd⟩
  ·exact⟨o,keep c o (I.cne x c e) hc nch ho (I.freeC x c e),hd⟩
 refine⟨I.ok,I.os,hg,⟨fun b o e n hb hx=>?_,fun b o e n hb hx=>?_,fun b o e n hx=>?_,fun b o e hx=>?_,fun b xs e=>tups b xs (I.base.tups b xs e),fun b o xs e=>frzs b o xs (I.base.frzs b o xs e),fun b ps e=>?_⟩,?_,fun x c e=>?_,?_,fun x c e=>?_,fun p hp=>?_,hok,I.len⟩
 ·exact keep b o (neL b o e) hb (neC b o e hx) (I.base.keep b o e n hb hx) (I.base.free b o e n hx)
 ·obtain⟨sl,e1⟩:=I.base.slot b o e n hb hx;obtain⟨sl',e2⟩:=slot b _ (neL b o e) hb (neC b o e hx) e1 (I.base.free b o e n hx);exact⟨sl',e2⟩
 ·obtain⟨o',e1⟩:=I.base.there b o e hx;exact free b o' (neC b o e hx) e1 (I.base.free b o e n hx)
 ·obtain⟨o',e1⟩:=I.base.there b o e hx;exact there b o' (neC b o e hx) e1
 ·obtain⟨m1,e1⟩:=I.base.tbls b ps e;obtain⟨m2,e2⟩:=tbls b _ e1;exact⟨m1++m2,by rw[e2,Array.append_assoc]⟩
 ·obtain⟨m,hn,hl⟩:=I.loc;refine⟨m,ns m hn,fun i x v e1 e2 e3=>?_⟩;obtain⟨u,r,l⟩:=hl i x v e1 e2 e3;refine⟨u,r,?_⟩
  rcases l with l | ⟨k,c,e,z⟩
  ·exact .inl l
  ·exact .inr ⟨k,c,e,cellK x c e _ z⟩
 ·obtain⟨v,z⟩:=I.cell x c e;exact⟨v,cellK x c e v z⟩
 ·obtain⟨m,⟨o,_,_,ho,_⟩,_⟩:=I.loc;exact free _ o (fun z=>(hch _ z).2.1 rfl) ho I.free
 ·obtain⟨v,o,ho,hd⟩:=I.cell x c e;exact free c o (fun z=>(hch c z).2.2.1 x c e rfl) ho (I.freeC x c e)
 ·obtain⟨e,n,ne,nf,d⟩:=I.pin p hp;have nch:p.1∉ch:=fun z=>(hch p.1 z).2.2.2 p hp rfl
  exact⟨keep p.1 p.2 ne nf nch e n,free p.1 p.2 nch e n,ne,nf,d⟩
theorem Yg.un(I:Yg X Ya σ H s)(u:Un X.fs [] H H' s.heap h')(hok:HOk X.prog X.w H' h'):Yg X Ya σ H' { s with heap:=h',toks:=t' }:=by
 obtain⟨m,⟨o,es,ep,ho,r⟩,_⟩:=id I.loc;obtain⟨sl,hL⟩:=u.any ho I.free (by simp)
 exact I.step (g':=s.gens) (d':=s.drawn) (ch:=[]) (fun _ z=>nomatch z) (fun b o _ hb _ e n=>u.keep b o e n hb (by simp)) (fun b o _ hb _ e n=>u.slot b o e n hb (by simp)) (fun b o _ e n=>u.free b o e n (by simp)) (fun b o _ e=>u.there b o e (by simp)) u.tups u.frzs u.tbls (fun m' hm=>by
  obtain⟨o',es',ep',ho',r'⟩:=hm;rw[ho]at ho';cases ho';exact⟨_,es',ep',hL,r'⟩) hok I.bare
theorem Yg.call {g':Array GenState} {d':Drawn} {ch:List Addr} (I:Yg X Ya σ H s) (u:Un (frs X.stack) ch H H' s.heap h') (hok:HOk X.prog X.w H' h') (hg:AllBare g')
 (hch:∀b∈ch,(b∈X.ex\/X.s₀.heap.objs.size<=b)/\b≠X.env.locals/\(∀x c,X.env.cells.lookup x=some c->c≠b)/\∀p∈X.pn++Ya,p.1≠b) :
 Yg X Ya σ H' { s with heap:=h',gens:=g',drawn:=d',toks:=t' }:=by
 obtain⟨m,⟨o,es,ep,ho,r⟩,_⟩:=id I.loc;obtain⟨sl,hL⟩:=u.any ho I.free fun z=>(hch _ z).2.1 rfl
 exact I.step (ch:=ch) hch (fun b o hL hb hc e n=>u.keep b o e n (fun z=>(ZH.mp (I.stkSub b z)).elim hL hb) hc) (fun b o _ _ hc e n=>u.any e n hc) (fun b o hc e n=>u.free b o e n hc) (fun b o hc e=>u.there b o e hc) u.tups u.frzs u.tbls (fun m' hm=>by
  obtain⟨o',es',ep',ho',r'⟩:=hm;rw[ho]at ho';cases ho';exact⟨_,es',ep',hL,r'⟩) hok hg
theorem Yg.turned {it:Addr} (I:Yg X Ya σ H s) (k:∀b o,b≠it->s.heap.get? b=some o->h'.get? b=some o) (hn:H it=none) (hL:it≠X.env.locals)
 (h1:it∈X.ex\/X.s₀.heap.objs.size<=it) (h2:∀x c,X.env.cells.lookup x=some c->c≠it) (h3:∀p∈X.pn++Ya,p.1≠it):Yg X Ya σ H { s with heap:=h',toks:=t' }:=by
 have nit:∀b u,H b=some u->b≠it:=fun b u e z=>by rw[z,hn]at e;cases e
 refine I.step (g':=s.gens) (d':=s.drawn) (ch:=[it]) (fun b hb=>?_) (fun b o _ _ hc e _=>k b o (fun z=>hc (by simp[z])) e) (fun b o _ _ hc e _=>⟨o.slots,k b o (fun z=>hc (by simp[z])) e⟩) (fun _ _ _ _ n=>n)
  (fun b o hc e=>⟨o,k b o (fun z=>hc (by simp[z])) e⟩) (fun _ _ e=>e) (fun _ _ _ e=>e) (fun b ps e=>⟨#[],by rw[e];simp⟩) (fun m hm=>?_) (fun b u e=>?_) I.bare
 ·have e:b=it:=by simpa using hb
  subst e;exact⟨h1,hL,h2,h3⟩
 ·obtain⟨o,es,ep,ho,r⟩:=hm;exact⟨o,es,ep,k _ o (Ne.symm hL) ho,r⟩
 ·refine(I.hok b u e).stay (fun c v hc q=>k c v ?_ q) (fun _ q=>q) fun _ _ q=>q
  rcases hc with z | z
  ·rw[z];exact nit b u e
  ·exact nit c _ z
theorem Yg.tok(I:Yg X Ya σ H s)(t:Nat):Yg X Ya σ H { s with toks:=t }:=I.un (h':=s.heap) (t':=t) Un.refl I.hok
theorem Yg.kept(I:Yg X Ya σ H s)(k:∀b u,s.heap.get? b=some u->h'.get? b=some u):Yg X Ya σ H { s with heap:=h',toks:=t' }:=I.un (Un.kept k) (I.hok.kept k)
theorem Yg.laid(I:Yg X Ya σ H s)(k:∀b u,s.heap.get? b=some u->h'.get? b=some u)(hp:s.heap.objs.size<=a)(new:ObjOk X.prog X.w (upd H a o) h' a o) :
 Yg X Ya σ (upd H a o) { s with heap:=h',toks:=t' }:=I.un (Un.laid k hp (I.hok.fresh hp)) (I.hok.laid k hp new)
theorem Yg.write {x e:Addr} (I:Yg X Ya σ H s) (mu:Mut (H x)) (he:e=x\/H e=some (.own x)) (k:∀b u,b≠e->s.heap.get? b=some u->h'.get? b=some u) (heo:∃u,h'.get? e=some u)
 (new:ObjOk X.prog X.w (upd H x o) h' x o):Yg X Ya σ (upd H x o) { s with heap:=h',toks:=t' }:=I.un (Un.write mu he k heo) (I.hok.write mu he k heo new)
theorem Yg.weak{σ':List (Option V)}(I:Yg X Ya σ H s)(hl:σ'.length=σ.length)(w:∀(i:Nat) v,σ'[i]? = some (some v)->σ[i]? = some (some v)):Yg X Ya σ' H s :=
 ⟨I.ok,I.os,I.bare,I.base,let ⟨m,hn,hl'⟩:=I.loc;⟨m,hn,fun i x v e1 e2 e3=>hl' i x v e1 (w i v e2) e3⟩,I.cell,I.free,I.freeC,I.pin,I.hok,hl.trans I.len⟩
theorem Yg.pins_of{pins':List (Addr × Obj)}(I:Yg X Ya σ H s)(h:∀p∈pins',s.heap.get? p.1=some p.2/\H p.1=none/\p.1≠X.env.locals/\p.1∉X.fs/\∀v,p.2.data≠.cell v):Yg X pins' σ H s :=
 ⟨I.ok,I.os,I.bare,I.base,I.loc,I.cell,I.free,I.freeC,fun p hp=>(Ze.mp hp).elim (fun z=>I.pin p (Zt _ z)) (h p),I.hok,I.len⟩
theorem KH{N:List Str}(hN:N.Nodup){j:Nat}(a:N[i]? = some x)(b:N[j]? = some x):i=j:=by
 obtain⟨h1,e1⟩:=Zg.mp a;obtain⟨h2,e2⟩:=Zg.mp b;exact(List.getElem_inj hN).mp (e1.trans e2.symm)
theorem LK {M:Model} {Q:Unit->Shared->Prop} (I:Yg X Ya σ H s) (hN:X.N.Nodup) (hi:X.N[i]? = some x) (hx:Loc X.env.scope x) (r:Yi v u)
 (h:∀s',Yg X Ya (σ.set i (some v)) H s'->(∃a,Heap.SameBut a s.heap s'.heap/\(a=X.env.locals\/X.env.cells.lookup x=some a))->Q () s') (hf:X.fn x=true\/X.env.scope.names.lookup x=some .local:=by first | exact .inl rfl | exact .inr rfl | assumption):wpAny M A (storeName X.env x u) Q E s:=by
 obtain⟨m,hn,hl⟩:=id I.loc;have hcls:(X.env.scope.kind == .class || (X.env.scope.kind == .module && X.env.locals != X.env.globals))=false:=by rw[I.ok.kind];rfl
 have hiσ:i < σ.length:=by rw[I.len];exact(Zg.mp hi).1
 have cne:=I.cne
 have tracked:∀{a:Addr} {h':Heap},(∃o,s.heap.get? a=some o/\H a=none)->Heap.SameBut a s.heap h'->HOk X.prog X.w H h':=fun {a h'} ha hs b ob e=>by
  obtain⟨_,_,hfree⟩:=ha;refine(I.hok b ob e).stay (fun c w' hc q=>(hs.2 c ?_).trans q) (fun _ q=>q) fun _ _ q=>q
  rintro rfl
  rcases hc with rfl | hc
  ·rw[hfree]at e;cases e
  ·rw[hfree]at hc;cases hc
 rcases hx with hk | hk
 ·refine wpAny_storeName_local hk hn (fun h' hn' hs=>?_) hcls;obtain⟨oL,_,_,hoL,_⟩:=id hn;refine h _ ⟨I.ok,I.os,I.bare,⟨fun b o e n hb hx=>?_,fun b o e n hb hx=>?_,I.base.free,fun b o e hx=>?_,I.base.tups,I.base.frzs,I.base.tbls⟩,⟨_,hn',fun j y v' e1 e2 e3=>?_⟩,fun y c e=>?_,I.free,I.freeC,fun p hp=>?_,tracked ⟨oL,hoL,I.free⟩ hs,by simpa using I.len⟩ ⟨_,hs,.inl rfl⟩
  ·exact(hs.2 b (ZO (ZX (ZG e) I.ok.above))).trans (I.base.keep b o e n hb hx)
  ·obtain⟨sl,e1⟩:=I.base.slot b o e n hb hx;exact⟨sl,(hs.2 b (ZO (ZX (ZG e) I.ok.above))).trans e1⟩
  ·obtain⟨o',e1⟩:=I.base.there b o e hx;exact⟨o',(hs.2 b (ZO (ZX (ZG e) I.ok.above))).trans e1⟩
  ·by_cases hj:j=i
   ·subst hj;rw[hi]at e1;cases e1;rw[List.getElem?_set_self hiσ]at e2;cases e2;exact⟨u,r,.inl ⟨hk,by simp⟩⟩
   ·rw[List.getElem?_set_ne (Ne.symm hj)]at e2;obtain⟨u',r',q⟩:=hl j y v' e1 e2 e3;refine⟨u',r',?_⟩
    rcases q with ⟨k,e⟩ | ⟨k,c,e,z⟩
    ·refine .inl ⟨k,?_⟩
     have:y≠x:=fun e=>hj (KH hN e1 (e ▸ hi))
     simp[this,e]
    ·exact .inr ⟨k,c,e,z.sameBut hs (cne y c e)⟩
  ·obtain⟨w',z⟩:=I.cell y c e;exact⟨w',z.sameBut hs (cne y c e)⟩
  ·obtain⟨e,n,ne,nf,d⟩:=I.pin p hp;exact⟨(hs.2 p.1 ne).trans e,n,ne,nf,d⟩
 ·have hfn:X.fn x=true:=by
   rcases hf with z | z
   ·exact z
   ·rw[z]at hk;cases hk
  obtain⟨c,hc⟩:=I.ok.has x (.inl hk);obtain⟨w',z⟩:=I.cell x c hc;refine wpAny_storeName_cell I.ok.kind hk hc z (fun h' hc' hs=>?_);obtain⟨oc,hoc,hocd⟩:=id z;refine h { s with heap:=h' } ⟨I.ok,I.os,I.bare,⟨fun b o e n hb hx=>?_,fun b o e n hb hx=>?_,I.base.free,fun b o e hx=>?_,I.base.tups,I.base.frzs,I.base.tbls⟩,⟨m,hn.sameBut hs (Ne.symm (cne x c hc)),fun j y v' e1 e2 e3=>?_⟩,fun y c' e=>?_,I.free,I.freeC,fun p hp=>?_,tracked ⟨oc,hoc,I.freeC x c hc⟩ hs,by simpa using I.len⟩ ⟨c,hs,.inr hc⟩
  ·exact(hs.2 b (ZO (ZX (ZG e) (I.ok.cab x c hfn hc)))).trans (I.base.keep b o e n hb hx)
  ·obtain⟨sl,e1⟩:=I.base.slot b o e n hb hx;exact⟨sl,(hs.2 b (ZO (ZX (ZG e) (I.ok.cab x c hfn hc)))).trans e1⟩
  ·obtain⟨o',e1⟩:=I.base.there b o e hx;exact⟨o',(hs.2 b (ZO (ZX (ZG e) (I.ok.cab x c hfn hc)))).trans e1⟩
  ·by_cases hj:j=i
   ·subst hj;rw[hi]at e1;cases e1;rw[List.getElem?_set_self hiσ]at e2;cases e2;exact⟨u,r,.inr ⟨.inl hk,c,hc,hc'⟩⟩
   ·rw[List.getElem?_set_ne (Ne.symm hj)]at e2;obtain⟨u',r',q⟩:=hl j y v' e1 e2 e3;refine⟨u',r',?_⟩
    rcases q with q | ⟨k,c',e,z'⟩
    ·exact .inl q
    ·refine .inr ⟨k,c',e,z'.sameBut hs ?_⟩;rintro rfl;exact hj (KH hN e1 (I.ok.inj _ _ _ e hc ▸ hi))
  ·by_cases hcc:c'=c
   ·subst hcc;exact⟨_,hc'⟩
   ·obtain⟨w2,z2⟩:=I.cell y c' e;exact⟨w2,z2.sameBut hs hcc⟩
  ·obtain⟨e,n,ne,nf,d⟩:=I.pin p hp;refine⟨(hs.2 p.1 ?_).trans e,n,ne,nf,d⟩;intro q;rw[q,hoc]at e;have q':oc=p.2:=ZS e;exact d w' (by rw[<- q'];exact hocd)
theorem GQ {M:Model} {Q:Unit->Shared->Prop} (I:Yg X Ya σ H s) (hN:X.N.Nodup) (hi:X.N[i]? = some x) (hx:Loc X.env.scope x) (r:Yi v u)
 (h:∀s',Yg X Ya (σ.set i (some v)) H s'->Q () s') (hf:X.fn x=true\/X.env.scope.names.lookup x=some .local:=by first | exact .inl rfl | exact .inr rfl | assumption):wpAny M A (storeName X.env x u) Q E s :=
 LK I hN hi hx r (fun s' I' _=>h s' I') hf
theorem Yg.call' {s':Shared} {ch:List Addr} (I:Yg X Ya σ H s) (ho:s'.os=s.os) (u:Un (frs X.stack) ch H H' s.heap s'.heap) (hok:HOk X.prog X.w H' s'.heap) (hg:AllBare s'.gens)
 (hch:∀b∈ch,(b∈X.ex\/X.s₀.heap.objs.size<=b)/\b≠X.env.locals/\(∀x c,X.env.cells.lookup x=some c->c≠b)/\∀p∈X.pn++Ya,p.1≠b):Yg X Ya σ H' s':=by
 obtain⟨h',g',d',t',o'⟩:=s';have e:o'=s.os:=ho;subst e;exact I.call (g':=g') (t':=t') (d':=d') u hok hg hch
end
abbrev XK:=Value->Option Addr->Hp->Prop
abbrev St:=List (Option V)
abbrev VK:=V->Hp->Prop
abbrev TE:=St->Hp->VK->Prop
abbrev TT:=St->Hp->(Bool->Hp->Prop)->Prop
abbrev TA:=St->Hp->(List V->Hp->Prop)->Prop
structure Ends where
 nx:St->Hp->Prop
 rt:VK
 bk:St->Hp->Prop:=fun _ _=>False
 ct:St->Hp->Prop:=fun _ _=>False
abbrev TS:=Ends->St->Hp->Prop
def EP(X:Cx)(Ya:List (Addr × Obj))(σ:St)(Q:VK)(u:Value)(s':Shared):Prop:=∃v H',Yg X Ya σ H' s'/\Yi v u/\Q v H'
def TP(X:Cx)(Ya:List (Addr × Obj))(σ:St)(Q:Bool->Hp->Prop)(b:Bool)(s':Shared):Prop:=∃H',Yg X Ya σ H' s'/\Q b H'
def AP(X:Cx)(Ya:List (Addr × Obj))(σ:St)(Q:List V->Hp->Prop)(us:List Value)(s':Shared):Prop:=∃vs H',Yg X Ya σ H' s'/\Yj vs us/\Q vs H'
def SP(X:Cx)(Ya:List (Addr × Obj))(D:Ends)(f:Flow)(s':Shared):Prop :=
 match f with
 | .next=>∃σ' H',Yg X Ya σ' H' s'/\D.nx σ' H'
 | .brk=>∃σ' H',Yg X Ya σ' H' s'/\D.bk σ' H'
 | .cont=>∃σ' H',Yg X Ya σ' H' s'/\D.ct σ' H'
 | .ret u=>∃v σ' H',Yg X Ya σ' H' s'/\Yi v u/\D.rt v H'
def PE(X:Cx)(e:Expr)(t:TE):Prop :=
 ∀(Ya:List (Addr × Obj)) (s:Shared) (σ:St) (H:Hp) (Q:VK),Yg X Ya σ H s->t σ H Q->wpAny (model X.prog X.w) X.A (eval e X.env) (EP X Ya σ Q) X.xe s
def PT(X:Cx)(e:Expr)(t:TT):Prop :=
 ∀(Ya:List (Addr × Obj)) (s:Shared) (σ:St) (H:Hp) (Q:Bool->Hp->Prop),Yg X Ya σ H s->t σ H Q->wpAny (model X.prog X.w) X.A (isTrue e X.env (eval e X.env)) (TP X Ya σ Q) X.xe s
def PW(X:Cx)(e:Expr)(t:TT):Prop :=
 ∀(whole:Sem Value) (Ya:List (Addr × Obj)) (s:Shared) (σ:St) (H:Hp) (Q:Bool->Hp->Prop),Yg X Ya σ H s->t σ H Q->wpAny (model X.prog X.w) X.A (isTrue e X.env whole) (TP X Ya σ Q) X.xe s
theorem PW.pt{X:Cx}{e:Expr}{t:TT}(h:PW X e t):PT X e t:=h _
def PA(X:Cx)(es:List Expr)(t:TA):Prop :=
 ∀(pos:Pos) (Ya:List (Addr × Obj)) (s:Shared) (σ:St) (H:Hp) (Q:List V->Hp->Prop),Yg X Ya σ H s->t σ H Q->wpAny (model X.prog X.w) X.A (spliced (backTo pos (starEach es X.env))) (AP X Ya σ Q) X.xe s
def PS(X:Cx)(st:Stmt)(t:TS):Prop :=
 ∀(Ya:List (Addr × Obj)) (s:Shared) (σ:St) (H:Hp) (D:Ends),Yg X Ya σ H s->t D σ H->wpAny (model X.prog X.w) X.A (exec st X.env) (SP X Ya D) X.xe s
def PSs(X:Cx)(st:List Stmt)(t:TS):Prop :=
 ∀(Ya:List (Addr × Obj)) (s:Shared) (σ:St) (H:Hp) (D:Ends),Yg X Ya σ H s->t D σ H->wpAny (model X.prog X.w) X.A (execs st X.env) (SP X Ya D) X.xe s
theorem Ym{α:Type}{t:Sem α}{Q Q':α->Shared->Prop}{M:Model}(h:wpAny M A t Q E s)(hQ:∀a s,Q a s->Q' a s):wpAny M A t Q' E s:=ZZ h hQ fun _ _ x=>x
section
variable {X:Cx}
def Vy(i:Nat):TE:=fun σ H Q=>∃v,σ[i]? = some (some v)/\Q v H
def tC(v:V):TE:=fun _ H Q=>Q v H
theorem QO(hN:X.N[i]? = some x)(hv:Vis X.env.scope x)(hd:(x == ("__debug__" : Str))=false:=by decide)(hcd:(x == ("__classdict__" : Str))=false:=by decide):PE X (.Name x pos) (Vy i):=by
 intro Ya s σ H Q I h;obtain⟨v,e,h⟩:=h;obtain⟨m,hn,hl⟩:=I.loc;obtain⟨u,r,l⟩:=hl i x v hN e hv;have fin:EP X Ya σ Q u s:=⟨v,H,I,r,h⟩
 rcases l with ⟨hk,hm⟩ | ⟨hk,c,hc,hcell⟩
 ·exact wpAny_Name (wpAny_loadName_local I.ok.kind hk hn hm fin) hd
 ·rcases hk with hk | hk
  ·exact wpAny_Name (wpAny_loadName_cell I.ok.kind hk hc hcell fin) hd
  ·exact wpAny_Name (wpAny_loadName_free I.ok.kind hk hc hcell fin hcd) hd
theorem AC{i j pos}:PE X (.Constant (.int i) j pos) (tC (.int i)):=fun _ _ _ H _ I h=>wpAny_Constant_int ⟨.int i,H,I.tok _,⟨_,rfl⟩,h⟩
theorem Av{b j pos}:PE X (.Constant (.bool b) j pos) (tC (.bl b)):=fun _ _ _ H _ I h=>Constant_bool ⟨.bl b,H,I,rfl,h⟩
theorem DN{j pos}:PE X (.Constant .none j pos) (tC .non):=fun _ _ _ H _ I h=>Constant_none ⟨.non,H,I,rfl,h⟩
theorem CH{x j pos}:PE X (.Constant (.str x) j pos) (tC (.str x)):=fun _ _ _ H _ I h=>Calls.Constant_str ⟨.str x,H,I.tok _,⟨_,rfl⟩,h⟩
def Gl(X:Cx)(x:Str):Prop:=X.env.kindOf x=some .globalImplicit
theorem DQ (I:Yg X Ya σ H s) (hg:Gl X x) (hm:X.mg x=some u) (h:Q u s)
 (hd:(x == ("__debug__" : Str))=false:=by decide):wpAny (model X.prog X.w) X.A (eval (.Name x pos) X.env) Q E s :=
 Calls.Name_function_global I.ok.kind hg (Calls.loadGlobal_global (by rw[I.ok.glob];exact I.mod.glob.keeps I.bk) hm h) hd
theorem CI (I:Yg X Ya σ H s) (hg:Gl X x) (hm:X.mg x=none) (hv:bootBuiltins x=some u) (h:Q u s)
 (hn:x ≠ "__name__":=by decide) (hd:(x == ("__debug__" : Str))=false:=by decide):wpAny (model X.prog X.w) X.A (eval (.Name x pos) X.env) Q E s:=by
 obtain⟨mb,h1,h2⟩:=I.mod.blt;exact Calls.Name_function_global I.ok.kind hg (Calls.loadGlobal_builtin (by rw[I.ok.glob];exact I.mod.glob.keeps I.bk) hm (by rw[I.ok.blt];exact h1.keeps I.bk) ((h2 x hn).trans hv) h) hd
theorem Fh(hg:Gl X x)(hm:X.mg x=some u)(r:Yi v u)(hd:(x == ("__debug__" : Str))=false:=by decide):PE X (.Name x pos) (tC v) :=
 fun _ _ _ H _ I h=>DQ I hg hm ⟨v,H,I,r,h⟩ hd
theorem EG(hg:Gl X x)(hm:X.mg x=none)(hv:bootBuiltins x=some u)(r:Yi v u)(hn:x ≠ "__name__":=by decide)(hd:(x == ("__debug__" : Str))=false:=by decide):PE X (.Name x pos) (tC v) :=
 fun _ _ _ H _ I h=>CI I hg hm hv ⟨v,H,I,r,h⟩ hn hd
variable {a b:Expr}{ta tb:TE}{pos:Pos}
theorem GS(b:Expr){op:CmpOp}(h:op≠.In)(h2:op≠.NotIn):behindInMarks op b=false:=by
 have e1:(op == CmpOp.In)=false:=by cases op <;> first | rfl | exact absurd rfl h
 have e2:(op == CmpOp.NotIn)=false:=by cases op <;> first | rfl | exact absurd rfl h2
 cases b <;> simp[behindInMarks,e1,e2]
variable {tA tB':TT}{rest:List Expr}
def Iu(t u:TT):TT:=fun σ H Q=>t σ H fun c H1=>if c=true then u σ H1 Q else Q false H1
def tOr(t u:TT):TT:=fun σ H Q=>t σ H fun c H1=>if c=true then Q true H1 else u σ H1 Q
def MK(t:TT):TT:=fun σ H Q=>t σ H fun c H1=>Q (!c) H1
theorem Bq(ha:PT X a tA):PW X (.BoolOp .And [a] pos) tA:=by
 intro wh Ya s σ H Q I h;refine isTrue_and (Ym (ha Ya s σ H Q I h) fun c s1 e=>?_);cases c with
 | true=>exact isTrue_and_nil e
 | false=>exact e
theorem C7(ha:PT X a tA):PW X (.BoolOp .Or [a] pos) tA:=by
 intro wh Ya s σ H Q I h;refine isTrue_or (Ym (ha Ya s σ H Q I h) fun c s1 e=>?_);cases c with
 | false=>exact isTrue_or_nil e
 | true=>exact e
theorem Bm(ha:PT X a tA)(hb:PW X (.BoolOp .And (b::rest) pos) tB'):PW X (.BoolOp .And (a::b::rest) pos) (Iu tA tB'):=by
 intro wh Ya s σ H Q I h;refine isTrue_and (Ym (ha Ya s σ H _ I h) fun c s1 ⟨H1,I1,q1⟩=>?_);cases c with
 | true=>exact hb wh Ya s1 σ H1 Q I1 q1
 | false=>exact⟨H1,I1,q1⟩
theorem Ce(ha:PT X a tA)(hb:PW X (.BoolOp .Or (b::rest) pos) tB'):PW X (.BoolOp .Or (a::b::rest) pos) (tOr tA tB'):=by
 intro wh Ya s σ H Q I h;refine isTrue_or (Ym (ha Ya s σ H _ I h) fun c s1 ⟨H1,I1,q1⟩=>?_);cases c with
 | true=>exact⟨H1,I1,q1⟩
 | false=>exact hb wh Ya s1 σ H1 Q I1 q1
theorem By(ha:PT X a tA):PT X (.UnaryOp .Not a pos) (MK tA):=by
 intro Ya s σ H Q I h;exact isTrue_not (ha Ya s σ H (fun c H1=>Q (!c) H1) I h)
def VV(ta tb:TE):TE:=fun σ H Q=>ta σ H fun x H1=>∃c,x=.bl c/\if c=true then tb σ H1 Q else Q (.bl false) H1
def Tv(ta tb:TE):TE:=fun σ H Q=>ta σ H fun x H1=>∃c,x=.bl c/\if c=true then Q (.bl true) H1 else tb σ H1 Q
def SS(ta:TE):TE:=fun σ H Q=>ta σ H fun x H1=>∃c,x=.bl c/\Q (.bl (!c)) H1
theorem CA{op}{t:TE}(h:PE X a t):PE X (.BoolOp op [a] pos) t:=fun Ya s σ H Q I hw=>BoolOp_one (h Ya s σ H Q I hw)
theorem QI(ha:PE X a ta)(hb:PE X (.BoolOp .And (b::rest) pos) tb):PE X (.BoolOp .And (a::b::rest) pos) (VV ta tb):=by
 intro Ya s σ H Q I h;refine BoolOp_and (Ym (ha Ya s σ H _ I h) fun v s1 ⟨x,H1,I1,r1,q1⟩=>?_);obtain⟨c,rfl,q1⟩:=q1;cases r1;refine ZBC ?_;cases c with
 | true=>exact hb Ya s1 σ H1 Q I1 q1
 | false=>exact⟨.bl false,H1,I1,rfl,q1⟩
theorem TB(ha:PE X a ta)(hb:PE X (.BoolOp .Or (b::rest) pos) tb):PE X (.BoolOp .Or (a::b::rest) pos) (Tv ta tb):=by
 intro Ya s σ H Q I h;refine BoolOp_or (Ym (ha Ya s σ H _ I h) fun v s1 ⟨x,H1,I1,r1,q1⟩=>?_);obtain⟨c,rfl,q1⟩:=q1;cases r1;refine ZBC ?_;cases c with
 | false=>exact hb Ya s1 σ H1 Q I1 q1
 | true=>exact⟨.bl true,H1,I1,rfl,q1⟩
theorem P0(ha:PE X a ta):PE X (.UnaryOp .Not a pos) (SS ta):=by
 intro Ya s σ H Q I h;refine UnaryOp_ (Ym (ha Ya s σ H _ I h) fun v s1 ⟨x,H1,I1,r1,q1⟩=>?_);obtain⟨c,rfl,q1⟩:=q1;cases r1;exact not_of (ZBC ⟨.bl (!c),H1,I1,rfl,q1⟩)
def tIf(t:TT)(ta tb:TE):TE:=fun σ H Q=>t σ H fun c H1=>if c=true then ta σ H1 Q else tb σ H1 Q
theorem Cu{c:Expr}(hc:PT X c tA)(ha:PE X a ta)(hb:PE X b tb):PE X (.IfExp c a b pos) (tIf tA ta tb):=by
 intro Ya s σ H Q I h;refine wpAny_IfExp (Ym (hc Ya s σ H _ I h) fun d s1 ⟨H1,I1,q1⟩=>?_);cases d with
 | true=>exact ha Ya s1 σ H1 Q I1 q1
 | false=>exact hb Ya s1 σ H1 Q I1 q1
end
def Yv(K:W.Frag)(H:Hp)(a:Addr)(xs:List V):Prop :=
 Rd H a (.lst xs) \/
  ∃(o:Obj) (Yf:Array Value) (n:Nat),K.lookup a=some o/\o.cls=.type "list" /\ o.dict=none/\o.data=.seq Yf n/\Yf.size<=sizeLine/\Yj xs Yf.toList
def Ys(K:W.Frag)(H:Hp)(a:Addr)(xs:List V):Prop :=
 Rd H a (.tup xs) \/
  ∃(o:Obj) (Yf:Array Value) (n:Nat),K.lookup a=some o/\o.cls=.type "tuple" /\ o.dict=none/\o.data=.seq Yf n/\Yf.size<=sizeLine/\Yj xs Yf.toList
def Rg:Value->Option V
 | .none=>some .non
 | .bool b=>some (.bl b)
 | .int i _=>some (.int i)
 | .str x _=>some (.str x)
 | .bytes b _=>some (.byt b)
 | .float b _=>some (.flt b)
 | .ref a=>some (.ref a)
 | .type n=>some (.ty n)
 | _=>none
theorem Yi.abs{x:V}(r:Yi x u):Rg u=some x:=by
 cases x with
 | non=>cases r;rfl
 | bl _=>cases r;rfl
 | int _=>obtain⟨t,rfl⟩:=r;rfl
 | str _=>obtain⟨t,rfl⟩:=r;rfl
 | byt _=>obtain⟨t,rfl⟩:=r;rfl
 | flt _=>obtain⟨t,rfl⟩:=r;rfl
 | ref _=>cases r;rfl
 | ty _=>cases r;rfl
theorem Yi.inj{x y:V}(r:Yi x u)(q:Yi y u):x=y:=ZS (r.abs.symm.trans q.abs)
theorem Yj.inj:∀{xs ys:List V} {us:List Value},Yj xs us->Yj ys us->xs=ys
 | _,_,_,.nil,.nil=>rfl
 | _,_,_,.cons r t,.cons r' t'=>by rw[r.inj r',Yj.inj t t']
section
variable {X:Cx}{Ya:List (Addr × Obj)}{σ:St}{H:Hp}{s:Shared}{a:Addr}{xs ys:List V}
theorem Yv.of(h:H a=some (.lst xs)):Yv K H a xs:=.inl (.inl h)
theorem Ys.of(h:H a=some (.tup xs)):Ys K H a xs:=.inl (.inl h)
theorem Yg.list(I:Yg X Ya σ H s)(h:Yv X.K H a xs):∃Yf:List Value,Yj xs Yf/\PlainL s.heap a Yf.toArray/\xs.length<=sizeLine:=by
 rcases h with h | ⟨o,Yf,n,hk,hc,hd,hs,hz,r⟩
 ·obtain⟨z,Yf,n,r,e⟩:=h.ok I.hok;exact⟨Yf,r,⟨_,n,e,rfl,rfl,rfl⟩,z⟩
 ·refine⟨Yf.toList,r,⟨o,n,I.kIn a o hk,hc,hd,by simpa using hs⟩,?_⟩;have e:=r.length;simp only[Zh]at e;lia
theorem Yg.tuple(I:Yg X Ya σ H s)(h:Ys X.K H a xs):∃Yf:List Value,Yj xs Yf/\IsTup s.heap a Yf.toArray/\xs.length<=sizeLine:=by
 rcases h with h | ⟨o,Yf,n,hk,hc,hdd,hs,hz,r⟩
 ·obtain⟨z,Yf,r,p⟩:=h.ok I.hok;exact⟨Yf,r,p.tup,z⟩
 ·refine⟨Yf.toList,r,⟨o,I.kIn a o hk,hc,n,by simpa using hs⟩,?_⟩;have e:=r.length;simp only[Zh]at e;lia
theorem Yg.list_inj(I:Yg X Ya σ H s)(h:Yv X.K H a xs)(h':Yv X.K H a ys):xs=ys:=by
 obtain⟨Yf,r,⟨o,n,e,_,_,d⟩,_⟩:=I.list h;obtain⟨its',r',⟨o',n',e',_,_,d'⟩,_⟩:=I.list h';rw[e]at e';cases e';rw[d]at d';injection d' with d1 _
 have:Yf=its':=by simpa using congrArg Array.toList d1
 subst this;exact r.inj r'
theorem Yg.tuple_inj(I:Yg X Ya σ H s)(h:Ys X.K H a xs)(h':Ys X.K H a ys):xs=ys:=by
 obtain⟨Yf,r,⟨o,e,_,n,d⟩,_⟩:=I.tuple h;obtain⟨its',r',⟨o',e',_,n',d'⟩,_⟩:=I.tuple h';rw[e]at e';cases e';rw[d]at d';injection d' with d1 _
 have:Yf=its':=by simpa using congrArg Array.toList d1
 subst this;exact r.inj r'
end
abbrev Cx.wish(X:Cx)(E:Value->Shared->Prop):Cx:={ X with xe:=E }
abbrev Cx.nox(X:Cx):Cx:=X.wish fun _ _=>False
theorem Cx.Ok.wish{X:Cx}(ok:X.Ok)(E:Value->Shared->Prop):(X.wish E).Ok :=
 ⟨ok.mod,ok.kind,ok.glob,ok.blt,ok.above,ok.inj,ok.has,ok.cab,ok.hd,ok.frames,ok.stk,ok.exf,ok.bs,ok.bsz,ok.noex,ok.exfs,ok.funs,ok.frf⟩
theorem Cx.Ok.unwish{X:Cx}(ok:(X.wish E).Ok):X.Ok :=
 ⟨ok.mod,ok.kind,ok.glob,ok.blt,ok.above,ok.inj,ok.has,ok.cab,ok.hd,ok.frames,ok.stk,ok.exf,ok.bs,ok.bsz,ok.noex,ok.exfs,ok.funs,ok.frf⟩
section
variable {X:Cx}{Ya:List (Addr × Obj)}{σ:St}{H:Hp}{s:Shared}{E:Value->Shared->Prop}
theorem Yg.wish(I:Yg X Ya σ H s)(E:Value->Shared->Prop):Yg (X.wish E) Ya σ H s:=⟨I.ok.wish E,I.os,I.bare,I.base,I.loc,I.cell,I.free,I.freeC,I.pin,I.hok,I.len⟩
theorem Yg.unwish(I:Yg (X.wish E) Ya σ H s):Yg X Ya σ H s:=⟨I.ok.unwish,I.os,I.bare,I.base,I.loc,I.cell,I.free,I.freeC,I.pin,I.hok,I.len⟩
theorem SP.unwish{D:Ends}{f:Flow}{s':Shared}(h:SP (X.wish E) Ya D f s'):SP X Ya D f s':=by
 cases f with
 | next=>obtain⟨σ',H',I,q⟩:=h;exact⟨σ',H',I.unwish,q⟩
 | brk=>obtain⟨σ',H',I,q⟩:=h;exact⟨σ',H',I.unwish,q⟩
 | cont=>obtain⟨σ',H',I,q⟩:=h;exact⟨σ',H',I.unwish,q⟩
 | ret u=>obtain⟨v,σ',H',I,r,q⟩:=h;exact⟨v,σ',H',I.unwish,r,q⟩
theorem PT.nox{e:Expr}{t:TT}(h:PT X.nox e t):PT X e t:=fun Ya s σ H Q I hw =>
 ZZ (h Ya s σ H Q (I.wish _) hw) (fun _ _ ⟨H',I',q⟩=>⟨H',I'.unwish,q⟩) fun _ _ z=>False.elim z
theorem PSs.nox{st:List Stmt}{t:TS}(h:PSs X.nox st t):PSs X st t:=fun Ya s σ H D I hw =>
 ZZ (h Ya s σ H D (I.wish _) hw) (fun _ _ q=>q.unwish) fun _ _ z=>False.elim z
end
section
variable {X:Cx}{st:Stmt}{rest:List Stmt}{t u:TS}{e:Expr}{te:TE}{pos:Pos}
def Eu:TS:=fun D σ H=>D.nx σ H
def GK(t u:TS):TS:=fun D σ H=>t { D with nx:=u D } σ H
theorem Aq:PSs X [] Eu:=fun _ _ σ H _ I h=>wpAny_execs_nil ⟨σ,H,I,h⟩
theorem AF(h1:PS X st t)(h2:PSs X rest u):PSs X (st::rest) (GK t u):=by
 intro Ya s σ H D I h;refine wpAny_execs_cons (Ym (h1 Ya s σ H { D with nx:=u D } I h) fun f s1 q=>?_);cases f with
 | next =>
  obtain⟨σ',H',I',q⟩:=q;exact h2 Ya s1 σ' H' D I' q
 | ret v=>exact q
 | brk=>exact q
 | cont=>exact q
theorem AG(h1:PS X st t):PSs X [st] t:=by
 intro Ya s σ H D I h;refine wpAny_execs_cons (Ym (h1 Ya s σ H D I h) fun f s1 q=>?_);cases f with
 | next=>exact wpAny_execs_nil q
 | ret v=>exact q
 | brk=>exact q
 | cont=>exact q
theorem Yg.quiet(I:Yg X Ya σ H s):interactive X.env=false:=by simp[interactive,I.ok.kind]
def L8(te:TE):TS:=fun D σ H=>te σ H fun _ H1=>D.nx σ H1
theorem DJ(he:PE X e te)(hs:swapsWith e none pos.line X.env=pure false:=by rfl):PS X (.Expr e pos) (L8 te):=by
 intro Ya s σ H D I h;exact wpAny_Expr_any (Ym (he Ya s σ H _ I h) fun v s1 ⟨x,H1,I1,r1,q1⟩=>⟨σ,H1,I1,q1⟩) I.quiet hs
def La(te:TE):TS:=fun D σ H=>te σ H D.rt
theorem AK(he:PE X e te):PS X (.Return (some e) pos) (La te):=by
 intro Ya s σ H D I h;exact wpAny_Return_some (Ym (he Ya s σ H _ I h) fun v s1 ⟨x,H1,I1,r1,q1⟩=>⟨x,σ,H1,I1,r1,q1⟩)
def Gb(c:TT)(t u:TS):TS:=fun D σ H=>c σ H fun b H1=>if b=true then t D σ H1 else u D σ H1
theorem Am{c:Expr}{a b:List Stmt}{tc:TT}(hc:PT X c tc)(ha:PSs X a t)(hb:PSs X b u):PS X (.If c a b pos) (Gb tc t u):=by
 intro Ya s σ H D I h;refine wpAny_If (Ym (hc Ya s σ H _ I h) fun d s1 ⟨H1,I1,q1⟩=>?_);cases d with
 | true=>exact ha Ya s1 σ H1 D I1 q1
 | false=>exact hb Ya s1 σ H1 D I1 q1
end
abbrev TG:=V->St->Hp->(St->Hp->Prop)->Prop
abbrev TGs:=List V->St->Hp->(St->Hp->Prop)->Prop
def PG(X:Cx)(target:Expr)(t:TG):Prop :=
 ∀(Ya:List (Addr × Obj)) (s:Shared) (σ:St) (H:Hp) (v:V) (u:Value) (Q:St->Hp->Prop),Yg X Ya σ H s->Yi v u->t v σ H Q ->
  wpAny (model X.prog X.w) X.A (assign target X.env u) (fun _ s'=>∃σ' H',Yg X Ya σ' H' s'/\Q σ' H') X.xe s
def PGs(X:Cx)(ts:List Expr)(t:TGs):Prop :=
 ∀(Ya:List (Addr × Obj)) (s:Shared) (σ:St) (H:Hp) (vs:List V) (us:List Value) (Q:St->Hp->Prop),Yg X Ya σ H s->Yj vs us->t vs σ H Q ->
  wpAny (model X.prog X.w) X.A (assignInOrder ((assignEach ts X.env).map (·.2)) us) (fun _ s'=>∃σ' H',Yg X Ya σ' H' s'/\Q σ' H') X.xe s
abbrev Dn:=V->V->V->Hp->(Hp->Prop)->Prop
def IR(X:Cx)(t:Dn):Prop :=
 ∀(Ya:List (Addr × Obj)) (s:Shared) (σ:St) (H:Hp) (o i v:V) (ov iv u:Value) (Q:Hp->Prop),Yg X Ya σ H s->Yi o ov->Yi i iv->Yi v u->t o i v H Q ->
  wpAny (model X.prog X.w) X.A (setItem ov iv u) (fun _ s'=>∃H',Yg X Ya σ H' s'/\Q H') X.xe s
section
variable {X:Cx}{pos:Pos}
def Aa(i:Nat):TG:=fun v σ H Q=>Q (σ.set i (some v)) H
theorem AQ(hN:X.N.Nodup)(hi:X.N[i]? = some x)(hx:Loc X.env.scope x)(hf:X.fn x=true\/X.env.scope.names.lookup x=some .local:=by first | exact .inl rfl | exact .inr rfl | assumption):PG X (.Name x pos) (Aa i):=by
 intro Ya s σ H v u Q I r h;exact wpAny_assign_Name (GQ I hN hi hx r (fun s' I'=>⟨_,H,I',h⟩) hf)
def JA:TGs:=fun vs σ H Q=>vs=[]/\Q σ H
def Jd(t:TG)(u:TGs):TGs:=fun vs σ H Q=>∃v r,vs=v::r/\t v σ H fun σ' H'=>u r σ' H' Q
theorem Cf:PGs X [] JA:=by
 intro Ya s σ H vs us Q I r h;obtain⟨e,h⟩:=h;subst e;cases r;exact assignInOrder_nil ⟨σ,H,I,h⟩
theorem BP {e:Expr} {es:List Expr} {t:TG} {u:TGs} (h1:PG X e t) (h2:PGs X es u)
 (hs:(assignEach (e::es) X.env).map (·.2)=assign e X.env::(assignEach es X.env).map (·.2):=by rfl):PGs X (e::es) (Jd t u):=by
 intro Ya s σ H vs us Q I r h;obtain⟨v,vr,e1,h⟩:=h;subst e1;cases r with
 | cons r rr =>
  rw[hs];refine assignInOrder_cons (Ym (h1 Ya s σ H _ _ _ I r h) fun _ s1 ⟨σ1,H1,I1,q1⟩=>?_);exact h2 Ya s1 σ1 H1 _ _ Q I1 rr q1
def HJ(K:W.Frag)(n:Nat)(t:TGs):TG:=fun v σ H Q=>∃a xs,v=.ref a/\Ys K H a xs/\xs.length=n/\t xs σ H Q
theorem MB {es:List Expr} {t:TGs} {n:Nat} (hc:X.calm=true) (h:PGs X es t)
 (hn:(assignEach es X.env).length=n:=by rfl) (hst:(assignEach es X.env).findIdx? (·.1)=none:=by rfl):PG X (.Tuple es k pos) (HJ X.K n t):=by
 intro Ya s σ H v u Q I r hw;obtain⟨a,xs,e1,hq,hl,hw⟩:=hw;subst e1;cases r;obtain⟨Yf,rv,ht,hz⟩:=I.tuple hq;refine assign_Tuple_tuple (I.ok.hd hc) ht (by simp[hn,<- hl,rv.length]) hst fun h' hx=>?_
 have I1:Yg X Ya σ H { s with heap:=h' }:=I.kept (t':=s.toks) fun b o e=>hx b o (ZO (ZG e)) e
 exact h Ya _ σ H xs _ Q I1 (by simpa using rv) hw
def Na(to ti:TE)(t:Dn):TG:=fun v σ H Q=>to σ H fun o H1=>ti σ H1 fun i H2=>t o i v H2 fun H3=>Q σ H3
theorem Dt {o i:Expr} {to ti:TE} {t:Dn} (ho:PE X o to) (hi:PE X i ti) (hs:IR X t)
 (ha:∀v,assign (.Subscript o i pos) X.env v=(do
   let ov <- holding [v] (eval o X.env);let iv <- holding [v,ov] (eval i X.env)
   standAt pos
   holding [v,ov,iv] (setItem ov iv v)
   release [v,ov,iv] []):=by intro _;rfl):PG X (.Subscript o i pos) (Na to ti t):=by
 intro Ya s σ H v u Q I r h;rw[ha];refine ZA (Zc (Ym (ho Ya s σ H _ I h) fun ov s1 ⟨x,H1,I1,r1,q1⟩=>?_));refine ZA (Zc (Ym (hi Ya s1 σ H1 _ I1 q1) fun iv s2 ⟨y,H2,I2,r2,q2⟩=>?_));refine ZA (ZBK (ZA (Zc (Ym (hs Ya s2 σ H2 x y v ov iv u _ I2 r1 r2 r q2) fun _ s3 ⟨H3,I3,q3⟩=>?_))));exact wpAny_release ⟨σ,H3,I3,q3⟩
def EY(te:TE)(g:TG):TS:=fun D σ H=>te σ H fun x H1=>g x σ H1 D.nx
theorem C5 {tg e:Expr} {te:TE} {g:TG} (he:PE X e te) (hg:PG X tg g) (hs:swapsWithSole [tg] e pos.line X.env=pure false:=by rfl) (hw:swappedStores [tg] e X.env=pure none:=by rfl)
 (h1:(assignEach [tg] X.env).map (·.2)=[assign tg X.env]:=by rfl):PS X (.Assign [tg] e pos) (EY te g):=by
 intro Ya s σ H D I h;refine wpAny_Assign_stores (Ym (he Ya s σ H _ I h) fun v s1 ⟨x,H1,I1,r1,q1⟩=>?_) hs hw;rw[h1];exact Ym (hg Ya s1 σ H1 x v _ I1 r1 q1) fun _ s2 q=>q
theorem AN{i:Nat}{x:Str}{e:Expr}{te:TE}{pos':Pos}(hN:X.N.Nodup)(hi:X.N[i]? = some x)(hx:Loc X.env.scope x)(he:PE X e te)(hs:swapsWith e (some (.Name x pos')) pos.line X.env=pure false:=by rfl)(hf:X.fn x=true\/X.env.scope.names.lookup x=some .local:=by first | exact .inl rfl | exact .inr rfl | assumption) :
 PS X (.Assign [.Name x pos'] e pos) (EY te (Aa i)):=by
 intro Ya s σ H D I h;refine wpAny_Assign_Name (Ym (he Ya s σ H _ I h) fun v s1 ⟨y,H1,I1,r1,q1⟩=>?_) hs;exact GQ I1 hN hi hx r1 (fun s2 I2=>⟨_,H1,I2,q1⟩) hf
end
structure It where
 go:Nat->Hp->Prop
 yld:Nat->Hp->V->Hp->Prop
 stop:Nat->Hp->Prop
def A6(X:Cx)(Ya:List (Addr × Obj))(H:Hp)(b:Addr):Prop :=
 H b=none/\b≠X.env.locals/\b∉X.fs/\(b∈X.ex\/X.s₀.heap.objs.size<=b)/\(∀x c,X.env.cells.lookup x=some c->c≠b)/\∀p∈X.pn++Ya,p.1≠b
theorem Yg.fpOk{X:Cx}{H':Hp}(I:Yg X Ya σ H s)(hb:s.heap.objs.size<=b)(hn:H' b=none):A6 X Ya H' b:=by
 refine⟨hn,ZBN (ZX I.lt hb),I.nofs hb,.inr (Zs I.sz hb),fun x c e z=>?_,fun p hp z=>?_⟩
 ·obtain⟨v,q⟩:=I.cell x c e;exact absurd (ZX q.lt (by rw[z];exact hb)) (Za _)
 ·exact absurd (ZX (ZG (I.pin p hp).1) (by rw[z];exact hb)) (Za _)
structure Turn(P:Program)(w:World)(K:W.Frag)(tg:Expr)(J:It)(fp:List Addr)(it:Addr)(tn:Nat->Heap->Prop):Prop where
 mem:it∈fp
 obj:∀i h,tn i h->∀b∈fp,∃o,h.get? b=some o/\∀v,o.data≠.cell v
 keep:∀i h h',tn i h->(∀b∈fp,∀o,h.get? b=some o->h'.get? b=some o)->tn i h'
 item:∀(X:Cx),X.prog=P->X.w=w->X.K=K->X.calm=true->∀(i:Nat) (Ya:List (Addr × Obj)) (s:Shared) (σ:St) (H:Hp) (E:Value->Shared->Prop),Yg X Ya σ H s->(∀b∈fp,A6 X Ya H b)->tn i s.heap->J.go i H ->
  wpAny (model P w) X.A (pyNext (.ref it)) (fun r s1=>∃u,r=some u /\
   wpAny (model P w) X.A (letOwnedTupleGo tg (.ref it) u) (fun _ s2=>∃x H',Yg X Ya σ H' s2/\Yi x u/\J.yld i H x H'/\tn (i+1) s2.heap/\∀b∈fp,H' b=none) E s1) E s
 done:∀(X:Cx),X.prog=P->X.w=w->X.K=K->X.calm=true->∀(i:Nat) (Ya:List (Addr × Obj)) (s:Shared) (σ:St) (H:Hp) (E:Value->Shared->Prop),Yg X Ya σ H s->(∀b∈fp,A6 X Ya H b)->tn i s.heap->J.stop i H ->
  wpAny (model P w) X.A (pyNext (.ref it)) (fun r s1=>r=none/\Yg X Ya σ H s1) E s
 self:∀(A:Around) (i:Nat) (s:Shared) (Q:Value->Shared->Prop) (E:Value->Shared->Prop),tn i s.heap->Q (.ref it) s->wpAny (model P w) A (pyIter (.ref it)) Q E s
abbrev TI:=St->Hp->(It->Hp->Prop)->Prop
def PIE(X:Cx)(Ya:List (Addr × Obj))(σ:St)(tg:Expr)(R:It->Hp->Prop)(itv:Value)(s2:Shared):Prop :=
 ∃(it:Addr) (fp:List Addr) (tn:Nat->Heap->Prop) (J:It) (H':Hp),itv=.ref it/\Yg X Ya σ H' s2/\Turn X.prog X.w X.K tg J fp it tn/\tn 0 s2.heap/\(∀b∈fp,A6 X Ya H' b)/\R J H'
def PI(X:Cx)(tg iter:Expr)(wi:TI):Prop :=
 ∀(Ya:List (Addr × Obj)) (s:Shared) (σ:St) (H:Hp) (R:It->Hp->Prop),Yg X Ya σ H s->wi σ H R ->
  wpAny (model X.prog X.w) X.A (eval iter X.env) (fun v s1=>wpAny (model X.prog X.w) X.A (pyIter v) (PIE X Ya σ tg R) X.xe s1) X.xe s
theorem IQ {M:Model} {tg:Expr} {it:Addr} {o:Obj} {n:String} {vs:Array Value} {Q:Unit->Shared->Prop} (ho:s.heap.get? it=some o) (hc:o.cls=.type n) (hd:o.data=.fields vs)
 (hn:["enumerate","zip","dict_itemiterator","dict_reverseitemiterator","odict_iterator","itertools.zip_longest","itertools.pairwise"].contains n=false) (hQ:Q () s):wpAny M A (letOwnedTupleGo tg (.ref it) u) Q E s:=by
 unfold letOwnedTupleGo
 cases tg <;> first
  | exact ZB hQ
  | (cases u <;> first
      | exact ZB hQ
      | (refine ZA (wpAny_load ho ?_)
         rw[hc,hd];show wpAny M A (if (["enumerate","zip","dict_itemiterator","dict_reverseitemiterator","odict_iterator","itertools.zip_longest","itertools.pairwise"].contains n && vs[0]? == some (rawInt _))=true then _ else _) Q E s;rw[if_neg (by intro h;rw[hn,ZBl]at h;cases h)];exact ZB hQ))
def Itl(K:W.Frag)(a:Addr):It :=
 ⟨fun i H=>∃xs x,Yv K H a xs/\xs[i]? = some x,fun i H x H'=>H'=H/\∀xs,Yv K H a xs->xs[i]? = some x,fun i H=>∃xs,Yv K H a xs/\xs.length<=i⟩
def Itt(K:W.Frag)(a:Addr):It :=
 ⟨fun i H=>∃xs x,Ys K H a xs/\xs[i]? = some x,fun i H x H'=>H'=H/\∀xs,Ys K H a xs->xs[i]? = some x,fun i H=>∃xs,Ys K H a xs/\xs.length<=i⟩
def Itr(lo:Int)(n:Nat):It:=⟨fun i _=>i < n,fun i H x H'=>H'=H/\x=.int (lo+i),fun i _=>n<=i⟩
theorem Nv{tg:Expr}(a it:Addr):Turn P w K tg (Itl K a) [it] it (fun i h=>h.IsListIter it a i) where
 mem:=by simp
 obj:=fun i h st b hb=>by
  have e:b=it:=by simpa using hb
  subst e;obtain⟨o,e,c,d⟩:=st;exact⟨o,e,fun v z=>by rw[d]at z;cases z⟩
 keep:=fun i h h' st k=>st.at fun o e=>k it (by simp) o e
 item:=by
  intro X hP hw hK hc i Ya s σ H E I hf st hg;subst hP hw hK;obtain⟨xs,x,hq,hx⟩:=hg;obtain⟨Yf,rv,p,hz⟩:=I.list hq;obtain⟨u,hu,ru⟩:=rv.get hx;obtain⟨f0,f1,f2,f3,f4,f5⟩:=hf it (by simp);refine wpAny_pyNext_list_item st p.isList (x:=u) (by simpa using hu) fun h' st' sb=>?_
  have I1:Yg X Ya σ H { s with heap:=h' }:=I.turned (t':=s.toks) (fun b o hb e=>(sb.2 b hb).trans e) f0 f1 f3 f4 f5;obtain⟨o,e,c,d⟩:=id st';exact⟨u,rfl,IQ (s:={ s with heap:=h' }) e c d (by decide) ⟨x,H,I1,ru,⟨rfl,fun ys hy=>by rw[I.list_inj hy hq];exact hx⟩,st',fun b hb=>(hf b hb).1⟩⟩
 done:=by
  intro X hP hw hK hc i Ya s σ H E I hf st hg;subst hP hw hK;obtain⟨xs,hq,hx⟩:=hg;obtain⟨Yf,rv,p,hz⟩:=I.list hq;obtain⟨f0,f1,f2,f3,f4,f5⟩:=hf it (by simp);have hl:=rv.length;exact wpAny_pyNext_list_end (I.ok.hd hc) st p.isList (by simp;lia) fun h' eb=>⟨rfl,I.turned (t':=s.toks) (fun b o hb e=>eb b o hb e) f0 f1 f3 f4 f5⟩
 self:=fun _ _ _ _ _ st h=>wpAny_pyIter_listiter st h
theorem Tm{tg:Expr}(a it:Addr):Turn P w K tg (Itt K a) [it] it (fun i h=>h.IsTupleIter it a i) where
 mem:=by simp
 obj:=fun i h st b hb=>by
  have e:b=it:=by simpa using hb
  subst e;obtain⟨o,e,c,d⟩:=st;exact⟨o,e,fun v z=>by rw[d]at z;cases z⟩
 keep:=fun i h h' st k=>st.at fun o e=>k it (by simp) o e
 item:=by
  intro X hP hw hK hc i Ya s σ H E I hf st hg;subst hP hw hK;obtain⟨xs,x,hq,hx⟩:=hg;obtain⟨Yf,rv,p,hz⟩:=I.tuple hq;obtain⟨u,hu,ru⟩:=rv.get hx;obtain⟨f0,f1,f2,f3,f4,f5⟩:=hf it (by simp);refine wpAny_pyNext_tuple_item st (show s.heap.IsTuple a Yf.toArray from p) (x:=u) (by simpa using hu) fun h' st' sb=>?_
  have I1:Yg X Ya σ H { s with heap:=h' }:=I.turned (t':=s.toks) (fun b o hb e=>(sb.2 b hb).trans e) f0 f1 f3 f4 f5;obtain⟨o,e,c,d⟩:=id st';exact⟨u,rfl,IQ (s:={ s with heap:=h' }) e c d (by decide) ⟨x,H,I1,ru,⟨rfl,fun ys hy=>by rw[I.tuple_inj hy hq];exact hx⟩,st',fun b hb=>(hf b hb).1⟩⟩
 done:=by
  intro X hP hw hK hc i Ya s σ H E I hf st hg;subst hP hw hK;obtain⟨xs,hq,hx⟩:=hg;obtain⟨Yf,rv,p,hz⟩:=I.tuple hq;obtain⟨f0,f1,f2,f3,f4,f5⟩:=hf it (by simp);have hl:=rv.length;exact wpAny_pyNext_tuple_end (I.ok.hd hc) st (show s.heap.IsTuple a Yf.toArray from p) (by simp;lia) fun h' eb=>⟨rfl,I.turned (t':=s.toks) (fun b o hb e=>eb b o hb e) f0 f1 f3 f4 f5⟩
 self:=fun _ _ _ _ _ st h=>wpAny_pyIter_tupleiter st h
theorem U0{tg:Expr}(it:Addr)(lo:Int)(n:Nat):Turn P w K tg (Itr lo n) [it] it (fun i h=>IsRangeIter h it (lo+(i:Nat) * 1) ((n:Int) - (i:Nat)) 1) where
 mem:=by simp
 obj:=fun i h st b hb=>by
  have e:b=it:=by simpa using hb
  subst e
  exact⟨_,st,fun v z=>by
   have z':Data.fields _=Data.cell v:=z;cases z'⟩
 keep:=fun i h h' st k=>k it (by simp) _ st
 item:=by
  intro X hP hw hK hc i Ya s σ H E I hf st hg;subst hP hw hK;obtain⟨f0,f1,f2,f3,f4,f5⟩:=hf it (by simp);have W:=Walks.range (prog:=X.prog) (w:=X.w) (I.ok.hd hc) it lo 1 n;refine W.item i s _ _ hg st fun v h' tk hv st' kk=>?_
  obtain⟨t,rfl⟩:=hv;have I1:Yg X Ya σ H { s with heap:=h',toks:=tk }:=I.turned (fun b o hb e=>kk b o (by simpa using hb) e) f0 f1 f3 f4 f5;refine⟨_,rfl,IQ (s:={ s with heap:=h',toks:=tk }) (n:="range_iterator") st' rfl rfl (by decide) ⟨.int (lo+i),H,I1,⟨t,?_⟩,⟨rfl,rfl⟩,st',fun b hb=>(hf b hb).1⟩⟩;rw[Int.mul_one]
 done:=by
  intro X hP hw hK hc i Ya s σ H E I hf st hg;subst hP hw hK;obtain⟨f0,f1,f2,f3,f4,f5⟩:=hf it (by simp);exact wpAny_pyNext_range_end (I.ok.hd hc) st (by have:n<=i:=hg;lia) fun h' eb=>⟨rfl,I.turned (t':=s.toks) (fun b o hb e=>eb b o hb e) f0 f1 f3 f4 f5⟩
 self:=fun _ _ _ _ _ st h=>wpAny_pyIter_rangeiter st h
section
variable {X:Cx}{tg:Expr}
theorem Mj {R:It->Hp->Prop} {lo hi:Int} {t u v:Tok} {tk:Nat} (I:Yg X Ya σ H s) (h1 : -(2 ^ 62)<=lo) (h2:lo < 2 ^ 62) (h3 : -(2 ^ 62)<=hi) (h4:hi < 2 ^ 62)
 (q:R (Itr lo (hi - lo).toNat) H):wpAny (model X.prog X.w) X.A (pyIter (.ref s.heap.objs.size)) (PIE X Ya σ tg R) E { s with heap:=s.heap.push { cls:=.type "range",data:=.fields #[.int lo t,.int hi u,.int 1 v] },toks:=tk }:=by
 refine wpAny_pyIter_range (IsRange.new ..) (small_one h1 h2 h3 h4) ?_;have I1:Yg X Ya σ H { s with heap:=s.heap.push { cls:=.type "range",data:=.fields #[.int lo t,.int hi u,.int 1 v] },toks:=tk }:=I.kept fun b o e=>ZF _ e
 refine⟨(s.heap.push { cls:=.type "range",data:=.fields #[.int lo t,.int hi u,.int 1 v] }).objs.size,[(s.heap.push { cls:=.type "range",data:=.fields #[.int lo t,.int hi u,.int 1 v] }).objs.size],_,_,H,rfl,
  I1.kept (t':=tk) fun b o e=>ZF _ e,U0 _ lo (hi - lo).toNat,?_,fun b hb=>?_,q⟩
 ·have e1:lo+((0:Nat):Int) * 1=lo:=by simp
  have e2:(((hi - lo).toNat:Nat):Int) - ((0:Nat):Int)=Builtin.Range.rangeSize lo hi 1:=by rw[rangeSize_one];split <;> lia
  show IsRangeIter _ _ (lo+((0:Nat):Int) * 1) ((((hi - lo).toNat:Nat):Int) - ((0:Nat):Int)) 1;rw[e1,e2];exact ZN _ rfl
 ·have e:b=(s.heap.push { cls:=.type "range",data:=.fields #[.int lo t,.int hi u,.int 1 v] }).objs.size:=by simpa using hb
  subst e;exact I1.fpOk (ZD _) (I1.hok.fresh (ZD _))
def L6(ta:TA):TI:=fun σ H R=>ta σ H fun vs H1=>∃j:Int,vs=[.int j] /\ -(2 ^ 62)<=j/\j < 2 ^ 62/\R (Itr 0 j.toNat) H1
def K0(ta:TA):TI:=fun σ H R=>ta σ H fun vs H1=>∃i j:Int,vs=[.int i,.int j]/\(-(2 ^ 62)<=i/\i < 2 ^ 62 /\ -(2 ^ 62)<=j/\j < 2 ^ 62)/\R (Itr i (j - i).toNat) H1
theorem BR{a:Expr}{ta:TA}{p:Pos}(hg:Gl X "range")(hm:X.mg "range" = none)(ha:PA X [a] ta)(hs:starEach [a] X.env=[(false,eval a X.env)]:=by rfl):PI X tg (.Call (.Name "range" p) [a] [] pos) (L6 ta):=by
 intro Ya s σ H R I h;refine Call_ (CI I hg hm boot_range (PyProof.Rows.callWith_type1 (Ym (ha pos Ya s σ H _ I h) fun us s1 ⟨vs,H1,I1,r1,q1⟩=>?_) hs rfl));obtain⟨j,e,q1,q2,q⟩:=q1;subst e;cases r1 with
 | cons r rr =>
  cases rr;obtain⟨t,rfl⟩:=r;exact call_range_1 (Mj I1 (by lia) (by lia) q1 q2 (by simpa using q))
theorem Va{a b:Expr}{ta:TA}{p:Pos}(hg:Gl X "range")(hm:X.mg "range" = none)(ha:PA X [a,b] ta)(hs:starEach [a,b] X.env=[(false,eval a X.env),(false,eval b X.env)]:=by rfl)(hs2:starEach [b] X.env=[(false,eval b X.env)]:=by rfl) :
 PI X tg (.Call (.Name "range" p) [a,b] [] pos) (K0 ta):=by
 intro Ya s σ H R I h;refine Call_ (CI I hg hm boot_range (PyProof.Rows.callWith_type1 (Ym (ha pos Ya s σ H _ I h) fun us s1 ⟨vs,H1,I1,r1,q1⟩=>?_) (by rw[hs,hs2]) (by rw[hs2];rfl)));obtain⟨i,j,e,⟨q1,q2,q3,q4⟩,q⟩:=q1;subst e;cases r1 with
 | cons r rr =>
  cases rr with
  | cons r' rr =>
   cases rr;obtain⟨t,rfl⟩:=r;obtain⟨t',rfl⟩:=r';exact call_range_2 (Mj I1 q1 q2 q3 q4 q)
def MT(wi:TI)(g:TG)(tb:TS):TS:=fun D σ H=>wi σ H fun J H1=>∃W:Nat->Nat->St->Hp->Prop,(∃m,W 0 m σ H1)/\∀i m σ H,W i m σ H ->
 (J.stop i H/\D.nx σ H)\/(J.go i H/\∃N:St->Hp->Prop,(∀σ' H',N σ' H'->∃m',m' < m/\W (i+1) m' σ' H')/\∀x H',J.yld i H x H'->g x σ H' fun σ2 H2=>tb { D with nx:=N,ct:=N,bk:=D.nx } σ2 H2)
def Bx(fp:List Addr)(h:Heap):List (Addr × Obj):=fp.filterMap fun b=>(h.get? b).map fun o=>(b,o)
theorem CO{fp:List Addr}{o:Obj}(hb:b∈fp)(e:h.get? b=some o):(b,o)∈Bx fp h:=ZB1.mpr ⟨b,hb,by rw[e];rfl⟩
theorem Jt{fp:List Addr}{p:Addr × Obj}(hp:p∈Bx fp h):p.1∈fp/\h.get? p.1=some p.2:=by
 obtain⟨b,hb,e⟩:=ZB1.mp hp;cases q:h.get? b with
 | none=>rw[q]at e;cases e
 | some o =>
  rw[q]at e;have e':(b,o)=p:=ZS e;subst e';exact⟨hb,q⟩
theorem Yg.pinned{fp:List Addr}(I:Yg X Ya σ H s)(hf:∀b∈fp,A6 X Ya H b)(ho:∀b∈fp,∃o,s.heap.get? b=some o/\∀v,o.data≠.cell v):Yg X (Ya++Bx fp s.heap) σ H s :=
 I.pins_of fun p hp=>(Ze.mp hp).elim (fun z=>I.pin p (ZY _ z)) fun z=>by
  obtain⟨hb,e⟩:=Jt z;obtain⟨f0,f1,f2,_⟩:=hf p.1 hb;obtain⟨o,e',d⟩:=ho p.1 hb;rw[e]at e';cases e';exact⟨e,f0,f1,f2,d⟩
theorem Yg.unpinned{pl:List (Addr × Obj)}(I:Yg X (Ya++pl) σ H s):Yg X Ya σ H s:=I.pins_of fun p hp=>I.pin p (ZY _ (Zt _ hp))
theorem Be {iter:Expr} {body:List Stmt} {wi:TI} {g:TG} {tb:TS} {pos:Pos} (hp:PassesOwn (model X.prog X.w) X.A X.env X.xe) (hc:X.calm=true) (hi:PI X tg iter wi) (hg:PG X tg g) (hb:PSs X body tb)
 (hs:∀x,foldedSetIterable iter X.env x=pure x:=by intro _;rfl):PS X (.For tg iter body [] pos) (MT wi g tb):=by
 intro Ya s σ H D I h;refine wpAny_For (Ym (hi Ya s σ H _ I h) fun v s1 h1=>Ym h1 fun itv s2 h2=>?_) hs;obtain⟨it,fp,tn,J,H2,e,I2,T,st2,f2,W,⟨m0,w0⟩,turn⟩:=h2;subst e
 -- what stays true of the iterator's objects through the loop
 have stat:∀{H':Hp},(∀b∈fp,H' b=none)->∀b∈fp,A6 X Ya H' b:=fun hn b hb=>⟨hn b hb,(f2 b hb).2⟩
 refine codeAny_forLoop_any (fun n s'=>∃i σ' H',Yg X Ya σ' H' s'/\tn i s'.heap/\(∀b∈fp,H' b=none)/\W i n σ' H') ?_ m0 ⟨0,σ,H2,I2,st2,fun b hb=>(f2 b hb).1,w0⟩;rintro n s3 ⟨i,σ3,H3,I3,st3,fr3,w3⟩
 rcases turn i n σ3 H3 w3 with ⟨stop,qn⟩ | ⟨go,N,hN,step⟩
 ·refine wpAny_passesOwn hp (Ym (T.done X rfl rfl rfl hc i Ya s3 σ3 H3 X.xe I3 (stat fr3) st3 stop) fun r s4 ⟨hr,I4⟩=>?_);subst hr;exact wpAny_execs_nil ⟨σ3,H3,I4,qn⟩
 ·refine wpAny_passesOwn hp (Ym (T.item X rfl rfl rfl hc i Ya s3 σ3 H3 X.xe I3 (stat fr3) st3 go) fun r s4 ⟨u,hr,h4⟩=>?_);subst hr;refine wpAny_passesOwn hp (Ym h4 fun _ s5 ⟨x,H5,I5,r5,y5,st5,fr5⟩=>?_);have I5':=I5.pinned (stat fr5) (T.obj _ _ st5);refine wpAny_passesOwn hp (Ym (hg _ s5 σ3 H5 x u _ I5' r5 (step x H5 y5)) fun _ s6 ⟨σ6,H6,I6,q6⟩=>?_);refine wpAny_passesOwn hp (Ym (hb _ s6 σ6 H6 _ I6 q6) fun f s7 q7=>?_)
  have again:∀{σ7:St} {H7:Hp},Yg X (Ya++Bx fp s5.heap) σ7 H7 s7->N σ7 H7->∃m,m < n/\∃i σ' H',Yg X Ya σ' H' s7/\tn i s7.heap/\(∀b∈fp,H' b=none)/\W i m σ' H':=fun {σ7 H7} I7 n7=>by
   obtain⟨m',hm,w7⟩:=hN σ7 H7 n7;refine⟨m',hm,i+1,σ7,H7,I7.unpinned,T.keep _ _ _ st5 fun b hb o e=>(I7.pin (b,o) (ZY _ (ZY _ (CO hb e)))).1,fun b hb=>?_,w7⟩;obtain⟨o,e,d⟩:=T.obj _ _ st5 b hb;exact(I7.pin (b,o) (ZY _ (ZY _ (CO hb e)))).2.1
  cases f with
  | next=>obtain⟨σ7,H7,I7,n7⟩:=q7;exact again I7 n7
  | cont=>obtain⟨σ7,H7,I7,n7⟩:=q7;exact again I7 n7
  | brk=>obtain⟨σ7,H7,I7,q7⟩:=q7;exact⟨σ7,H7,I7.unpinned,q7⟩
  | ret v=>obtain⟨x7,σ7,H7,I7,r7,q7⟩:=q7;exact⟨x7,σ7,H7,I7.unpinned,r7,q7⟩
end
theorem Hr {xs:List V} {g:TG} {tb:TS} {D:Ends} (Pv:Nat->St->Hp->Prop) (h0:Pv 0 σ H) (hl:∀i σ H,i<=xs.length->Pv i σ H->Yv K H a xs)
 (hs:∀i x σ H,xs[i]? = some x->Pv i σ H->g x σ H fun σ2 H2=>tb { D with nx:=Pv (i+1),ct:=Pv (i+1),bk:=D.nx } σ2 H2) (hd:∀σ H,Pv xs.length σ H->D.nx σ H) :
 ∃W:Nat->Nat->St->Hp->Prop,(∃m,W 0 m σ H)/\∀i m σ H,W i m σ H ->
  ((Itl K a).stop i H/\D.nx σ H)\/((Itl K a).go i H/\∃N:St->Hp->Prop,(∀σ' H',N σ' H'->∃m',m' < m/\W (i+1) m' σ' H')/\∀x H',(Itl K a).yld i H x H'->g x σ H' fun σ2 H2=>tb { D with nx:=N,ct:=N,bk:=D.nx } σ2 H2):=by
 refine⟨fun i m σ H=>m=xs.length - i/\i<=xs.length/\Pv i σ H,⟨xs.length,by simp,ZP _,h0⟩,?_⟩;rintro i m σ H ⟨rfl,hi,p⟩;have q:=hl i σ H hi p
 by_cases Yr:i < xs.length
 ·refine .inr ⟨⟨xs,xs[i],q,by simp[Yr]⟩,Pv (i+1),fun σ' H' p'=>⟨xs.length - (i+1),by lia,rfl,Yr,p'⟩,fun x H' y=>?_⟩;obtain⟨e,y⟩:=y;subst e;exact hs i x σ _ (y xs q) p
 ·have e:i=xs.length:=by lia
  subst e;exact .inl ⟨⟨xs,q,ZD _⟩,hd σ H p⟩
theorem Iq {xs:List V} {g:TG} {tb:TS} {D:Ends} (Pv:Nat->St->Hp->Prop) (h0:Pv 0 σ H) (hl:∀i σ H,i<=xs.length->Pv i σ H->Ys K H a xs)
 (hs:∀i x σ H,xs[i]? = some x->Pv i σ H->g x σ H fun σ2 H2=>tb { D with nx:=Pv (i+1),ct:=Pv (i+1),bk:=D.nx } σ2 H2) (hd:∀σ H,Pv xs.length σ H->D.nx σ H) :
 ∃W:Nat->Nat->St->Hp->Prop,(∃m,W 0 m σ H)/\∀i m σ H,W i m σ H ->
  ((Itt K a).stop i H/\D.nx σ H)\/((Itt K a).go i H/\∃N:St->Hp->Prop,(∀σ' H',N σ' H'->∃m',m' < m/\W (i+1) m' σ' H')/\∀x H',(Itt K a).yld i H x H'->g x σ H' fun σ2 H2=>tb { D with nx:=N,ct:=N,bk:=D.nx } σ2 H2):=by
 refine⟨fun i m σ H=>m=xs.length - i/\i<=xs.length/\Pv i σ H,⟨xs.length,by simp,ZP _,h0⟩,?_⟩;rintro i m σ H ⟨rfl,hi,p⟩;have q:=hl i σ H hi p
 by_cases Yr:i < xs.length
 ·refine .inr ⟨⟨xs,xs[i],q,by simp[Yr]⟩,Pv (i+1),fun σ' H' p'=>⟨xs.length - (i+1),by lia,rfl,Yr,p'⟩,fun x H' y=>?_⟩;obtain⟨e,y⟩:=y;subst e;exact hs i x σ _ (y xs q) p
 ·have e:i=xs.length:=by lia
  subst e;exact .inl ⟨⟨xs,q,ZD _⟩,hd σ H p⟩
theorem DF {lo:Int} {n:Nat} {g:TG} {tb:TS} {D:Ends} (Pv:Nat->St->Hp->Prop) (h0:Pv 0 σ H)
 (hs:∀i σ H,i < n->Pv i σ H->g (.int (lo+i)) σ H fun σ2 H2=>tb { D with nx:=Pv (i+1),ct:=Pv (i+1),bk:=D.nx } σ2 H2) (hd:∀σ H,Pv n σ H->D.nx σ H) :
 ∃W:Nat->Nat->St->Hp->Prop,(∃m,W 0 m σ H)/\∀i m σ H,W i m σ H ->
  ((Itr lo n).stop i H/\D.nx σ H)\/((Itr lo n).go i H/\∃N:St->Hp->Prop,(∀σ' H',N σ' H'->∃m',m' < m/\W (i+1) m' σ' H')/\∀x H',(Itr lo n).yld i H x H'->g x σ H' fun σ2 H2=>tb { D with nx:=N,ct:=N,bk:=D.nx } σ2 H2):=by
 refine⟨fun i m σ H=>m=n - i/\i<=n/\Pv i σ H,⟨n,by simp,ZP _,h0⟩,?_⟩;rintro i m σ H ⟨rfl,hi,p⟩
 by_cases Yr:i < n
 ·refine .inr ⟨Yr,Pv (i+1),fun σ' H' p'=>⟨n - (i+1),by lia,rfl,Yr,p'⟩,fun x H' y=>?_⟩;obtain⟨e,y⟩:=y;subst e y;exact hs i σ _ Yr p
 ·have e:i=n:=by lia
  subst e;exact .inl ⟨ZD _,hd σ H p⟩
abbrev R2:=V->V->Hp->VK->Prop
def Yx(X:Cx)(f:Value->Value->Sem Value)(r:R2):Prop :=
 ∀(Ya:List (Addr × Obj)) (s:Shared) (σ:St) (H:Hp) (x y:V) (v u:Value) (Q:VK),Yg X Ya σ H s->Yi x v->Yi y u->r x y H Q ->
  wpAny (model X.prog X.w) X.A (f v u) (EP X Ya σ Q) X.xe s
def UnR(X:Cx)(f:Value->Sem Value)(r:V->Hp->VK->Prop):Prop :=
 ∀(Ya:List (Addr × Obj)) (s:Shared) (σ:St) (H:Hp) (x:V) (v:Value) (Q:VK),Yg X Ya σ H s->Yi x v->r x H Q ->
  wpAny (model X.prog X.w) X.A (f v) (EP X Ya σ Q) X.xe s
def CallR(X:Cx)(f:Value)(r:List V->Hp->VK->Prop):Prop :=
 ∀(Ya:List (Addr × Obj)) (s:Shared) (σ:St) (H:Hp) (xs:List V) (us:List Value) (Q:VK),Yg X Ya σ H s->Yj xs us->r xs H Q ->
  wpAny (model X.prog X.w) X.A (call f us) (EP X Ya σ Q) X.xe s
def tOp(r:R2)(ta tb:TE):TE:=fun σ H Q=>ta σ H fun x H1=>tb σ H1 fun y H2=>r x y H2 Q
def tUn(r:V->Hp->VK->Prop)(ta:TE):TE:=fun σ H Q=>ta σ H fun x H1=>r x H1 Q
def rI(C:Int->Int->Prop)(g:Int->Int->V):R2:=fun x y H Q=>∃i j,x=.int i/\y=.int j/\C i j/\Q (g i j) H
def rI0(g:Int->Int->V):R2:=fun x y H Q=>∃i j,x=.int i/\y=.int j/\Q (g i j) H
def rU(g:Int->V):V->Hp->VK->Prop:=fun x H Q=>∃i,x=.int i/\Q (g i) H
section
variable {X:Cx}{a b c:Expr}{ta tb tc:TE}{pos:Pos}
theorem JD (ha:PE X a ta) (hb:PE X b tb) {R:V->V->Hp->Prop} (I:Yg X Ya σ H s)
 (h:ta σ H fun x H1=>tb σ H1 fun y H2=>R x y H2) {f:Value->Value->Sem Value}
 (hf:∀v u s2 x y H2,Yg X Ya σ H2 s2->Yi x v->Yi y u->R x y H2->wpAny (model X.prog X.w) X.A (f v u) Q X.xe s2) :
 wpAny (model X.prog X.w) X.A (eval a X.env) (fun v s₁=>wpAny (model X.prog X.w) X.A (eval b X.env) (fun u s₂=>wpAny (model X.prog X.w) X.A (f v u) Q X.xe s₂) X.xe s₁) X.xe s:=by
 refine Ym (ha Ya s σ H _ I h) fun v s1 ⟨x,H1,I1,r1,q1⟩=>?_
 refine Ym (hb Ya s1 σ H1 _ I1 q1) fun u s2 ⟨y,H2,I2,r2,q2⟩=>?_
 exact hf v u s2 x y H2 I2 r1 r2 q2
theorem AW{op:Operator}{r:R2}(ho:Yx X (binaryOp op) r)(ha:PE X a ta)(hb:PE X b tb):PE X (.BinOp a op b pos) (tOp r ta tb):=by
 intro Ya s σ H Q I h;exact wpAny_BinOp (JD ha hb I h fun v u s2 x y H2 I2 rx ry q=>ho Ya s2 σ H2 x y v u Q I2 rx ry q)
theorem Lu{op:UnaryOp}{r:V->Hp->VK->Prop}(ho:UnR X (unaryOp op) r)(ha:PE X a ta):PE X (.UnaryOp op a pos) (tUn r ta):=by
 intro Ya s σ H Q I h;exact UnaryOp_ (Ym (ha Ya s σ H _ I h) fun v s1 ⟨x,H1,I1,r1,q1⟩=>ho Ya s1 σ H1 x v Q I1 r1 q1)
theorem opI {f:Value->Value->Sem Value} {C:Int->Int->Prop} {g:Int->Int->Int}
 (rule:∀(i j:Int) (t u:Tok) (s:Shared) (Q:Value->Shared->Prop) (E:Value->Shared->Prop),C i j->Q (.int (g i j) s.toks) { s with toks:=s.toks+1 } -> wpAny (model X.prog X.w) X.A (f (.int i t) (.int j u)) Q E s) :
 Yx X f (rI C fun i j=>.int (g i j)):=by
 intro Ya s σ H x y v u Q I rx ry h;obtain⟨i,j,rfl,rfl,hc,q⟩:=h;obtain⟨t,rfl⟩:=rx;obtain⟨t',rfl⟩:=ry;exact rule i j t t' s _ _ hc ⟨.int (g i j),H,I.tok _,⟨_,rfl⟩,q⟩
theorem IK {f:Value->Value->Sem Value} {g:Int->Int->Int}
 (rule:∀(i j:Int) (t u:Tok) (s:Shared) (Q:Value->Shared->Prop) (E:Value->Shared->Prop),Q (.int (g i j) s.toks) { s with toks:=s.toks+1 } -> wpAny (model X.prog X.w) X.A (f (.int i t) (.int j u)) Q E s) :
 Yx X f (rI0 fun i j=>.int (g i j)):=by
 intro Ya s σ H x y v u Q I rx ry h;obtain⟨i,j,rfl,rfl,q⟩:=h;obtain⟨t,rfl⟩:=rx;obtain⟨t',rfl⟩:=ry;exact rule i j t t' s _ _ ⟨.int (g i j),H,I.tok _,⟨_,rfl⟩,q⟩
theorem Fo {f:Value->Value->Sem Value} {g:Int->Int->Bool}
 (rule:∀(i j:Int) (t u:Tok) (s:Shared) (Q:Value->Shared->Prop) (E:Value->Shared->Prop),Q (.bool (g i j)) s->wpAny (model X.prog X.w) X.A (f (.int i t) (.int j u)) Q E s) :
 Yx X f (rI0 fun i j=>.bl (g i j)):=by
 intro Ya s σ H x y v u Q I rx ry h;obtain⟨i,j,rfl,rfl,q⟩:=h;obtain⟨t,rfl⟩:=rx;obtain⟨t',rfl⟩:=ry;exact rule i j t t' s _ _ ⟨.bl (g i j),H,I,rfl,q⟩
def Mq(i j:Int):Prop:=0<=j/\j<=1000000/\i.natAbs < 2 ^ 64
def CMul(i j:Int):Prop:=(-(2 ^ 64) < i/\i < 2 ^ 64)\/(-(2 ^ 64) < j/\j < 2 ^ 64)
theorem CMul.ok{i j:Int}(h:CMul i j):IntMulOk i j:=by
 rcases h with ⟨h1,h2⟩ | ⟨h1,h2⟩
 ·exact .of_left (intBits_le_64 h1 h2)
 ·exact .of_right (intBits_le_64 h1 h2)
theorem VH:Yx X (binaryOp .Add) (rI0 fun i j=>.int (i+j)):=IK fun _ _ _ _ _ _ _ q=>add_int q
theorem TJ:Yx X (binaryOp .Sub) (rI0 fun i j=>.int (i - j)):=IK fun _ _ _ _ _ _ _ q=>sub_int q
theorem Pa:Yx X (binaryOp .Mod) (rI (fun _ j=>0 < j) fun i j=>.int (i % j)):=opI fun i j _ _ _ _ _ hc q=>by
 have h1:(0:Int) < j:=hc;exact mod_int' (by lia) (by rw[Int.fmod_eq_emod_of_nonneg i (by lia)];exact q)
theorem UA:Yx X (binaryOp .Pow) (rI Mq fun i j=>.int (i ^ j.toNat)):=opI fun _ _ _ _ _ _ _ hc q=>pow_int_small hc.1 hc.2.1 hc.2.2 q
theorem Ri:Yx X (binaryOp .BitAnd) (rI0 fun i j=>.int (Builtin.bitAnd i j)):=IK fun _ _ _ _ _ _ _ q=>and_int q
theorem unI {f:Value->Sem Value} {g:Int->Int}
 (rule:∀(i:Int) (t:Tok) (s:Shared) (Q:Value->Shared->Prop) (E:Value->Shared->Prop),Q (.int (g i) s.toks) { s with toks:=s.toks+1 } -> wpAny (model X.prog X.w) X.A (f (.int i t)) Q E s) :
 UnR X f (rU fun i=>.int (g i)):=by
 intro Ya s σ H x v Q I rx h;obtain⟨i,rfl,q⟩:=h;obtain⟨t,rfl⟩:=rx;exact rule i t s _ _ ⟨.int (g i),H,I.tok _,⟨_,rfl⟩,q⟩
theorem U4:UnR X (unaryOp .USub) (rU fun i=>.int (-i)):=unI fun _ _ _ _ _ q=>neg_int q
end
section
variable {X:Cx}{a b c:Expr}{ta tb tc:TE}{pos:Pos}
theorem K5{Q:VK}{k k':Bool}(I:Yg X Ya σ H s)(q:Q (.bl k) H)(e:k=k'):EP X Ya σ Q (.bool k') s:=by
 subst e;exact⟨.bl k,H,I,rfl,q⟩
theorem V8:Yx X (compareOp .Lt) (rI0 fun i j=>.bl (decide (i < j))):=Fo fun _ _ _ _ _ _ _ q=>lt_int q
theorem Nl:Yx X (compareOp .LtE) (rI0 fun i j=>.bl (decide (i<=j))):=Fo fun _ _ _ _ _ _ _ q=>le_int q
theorem Vo:Yx X (compareOp .Gt) (rI0 fun i j=>.bl (decide (j < i))):=Fo fun _ _ _ _ _ _ _ q=>gt_int q
theorem Ps:Yx X (compareOp .GtE) (rI0 fun i j=>.bl (decide (j<=i))):=Fo fun _ _ _ _ _ _ _ q=>ge_int q
theorem Um:Yx X (compareOp .Is) (fun x y H Q=>y=.non/\Q (.bl (decide (x=.non))) H):=by
 intro Ya s σ H x y v u Q I rx ry h;obtain⟨rfl,q⟩:=h;cases ry;refine is_none_gen (K5 I q ?_)
 cases x <;> first
  | (cases rx;rfl)
  | (obtain⟨t,rfl⟩:=rx;rfl)
theorem Re:Yx X (compareOp .IsNot) (fun x y H Q=>y=.non/\Q (.bl (!decide (x=.non))) H):=by
 intro Ya s σ H x y v u Q I rx ry h;obtain⟨rfl,q⟩:=h;cases ry;refine isnot_none_gen (K5 I q ?_)
 cases x <;> first
  | (cases rx;rfl)
  | (obtain⟨t,rfl⟩:=rx;rfl)
theorem Rq{op:CmpOp}{r:R2}(ho:Yx X (compareOp op) r)(ha:PE X a ta)(hb:PE X b tb)(hm:behindInMarks op b=false):PE X (.Compare a [op] [b] pos) (tOp r ta tb):=by
 intro Ya s σ H Q I h;exact wpAny_Compare1 (JD ha hb I h fun v u s2 x y H2 I2 rx ry q=>ho Ya s2 σ H2 x y v u Q I2 rx ry q) hm
theorem Ee:(sizeLine:Nat) < 2 ^ 63:=by rw[sizeLine_eq];decide
theorem UK:Yx X (binaryOp .Add) (fun x y H Q=>∃i j,x=.str i/\y=.str j/\i.length+j.length<=sizeLine/\Q (.str (i++j)) H):=by
 intro Ya s σ H x y v u Q I rx ry h;obtain⟨i,j,rfl,rfl,hz,q⟩:=h;obtain⟨t,rfl⟩:=rx;obtain⟨t',rfl⟩:=ry;exact add_str (fun t' tk=>⟨.str (i++j),H,I.tok _,⟨_,rfl⟩,q⟩) hz
theorem BU{x:V}(r:Yj [x] us):∃u,us=[u]/\Yi x u:=by
 cases r with
 | cons r1 r2=>cases r2;exact⟨_,rfl,r1⟩
theorem DB{x y:V}(r:Yj [x,y] us):∃u w',us=[u,w']/\Yi x u/\Yi y w':=by
 cases r with
 | cons r1 r2 =>
  cases r2 with
  | cons r3 r4=>cases r4;exact⟨_,_,rfl,r1,r3⟩
theorem OP(hc:X.calm=true):CallR X (.builtin "max") (fun xs H Q=>∃i j,xs=[.int i,.int j]/\Q (.int (if j > i then j else i)) H):=by
 intro Ya s σ H xs us Q I r h;obtain⟨i,j,rfl,q⟩:=h;obtain⟨u,w',rfl,⟨t,rfl⟩,⟨t',rfl⟩⟩:=DB r;refine max_two_ints (I.ok.hd hc) fun h' tk k=>⟨_,H,I.kept k,?_,q⟩
 by_cases hj:j > i
 ·rw[if_pos hj,if_pos hj];exact⟨_,rfl⟩
 ·rw[if_neg hj,if_neg hj];exact⟨_,rfl⟩
theorem Ug(hc:X.calm=true):CallR X (.builtin "min") (fun xs H Q=>∃i j,xs=[.int i,.int j]/\Q (.int (if j < i then j else i)) H):=by
 intro Ya s σ H xs us Q I r h;obtain⟨i,j,rfl,q⟩:=h;obtain⟨u,w',rfl,⟨t,rfl⟩,⟨t',rfl⟩⟩:=DB r;refine min_two_ints (I.ok.hd hc) fun h' tk k=>⟨_,H,I.kept k,?_,q⟩
 by_cases hj:j < i
 ·rw[if_pos hj,if_pos hj];exact⟨_,rfl⟩
 ·rw[if_neg hj,if_neg hj];exact⟨_,rfl⟩
theorem call_int1:CallR X (.type "int") (fun xs H Q=>(∃i,xs=[.int i]/\Q (.int i) H)\/∃k,xs=[.bl k]/\Q (.int (if k then 1 else 0)) H):=by
 intro Ya s σ H xs us Q I r h
 rcases h with ⟨i,rfl,q⟩ | ⟨k,rfl,q⟩
 ·obtain⟨u,rfl,t,rfl⟩:=BU r;exact call_int_int ⟨.int i,H,I,⟨_,rfl⟩,q⟩
 ·obtain⟨u,rfl,r1⟩:=BU r;cases r1;exact call_int_bool ⟨.int (if k then 1 else 0),H,I.tok _,⟨_,rfl⟩,q⟩
def K7(K:W.Frag)(x:V)(H:Hp)(n:Nat):Prop :=
 match x with
 | .str y=>y.length<=sizeLine/\n=y.length
 | .byt y=>y.size<=sizeLine/\n=y.size
 | .ref p=>(∃xs,Yv K H p xs/\n=xs.length)\/∃xs,Ys K H p xs/\n=xs.length
 | _=>False
theorem call_len:CallR X (.builtin "len") (fun xs H Q=>∃x n,xs=[x]/\K7 X.K x H n/\Q (.int n) H):=by
 intro Ya s σ H xs us Q I r h;obtain⟨x,n,rfl,e,q⟩:=h;obtain⟨u,rfl,rx⟩:=BU r;have hl:=Ee;have hs:sizeLine=16777216:=sizeLine_eq;cases x with
 | str y =>
  obtain⟨t,rfl⟩:=rx;obtain⟨hy,e'⟩:y.length<=sizeLine/\n=y.length:=e;subst e';exact len_str (by lia) ⟨.int _,H,I.tok _,⟨_,rfl⟩,q⟩
 | byt y =>
  obtain⟨t,rfl⟩:=rx;obtain⟨hy,e'⟩:y.size<=sizeLine/\n=y.size:=e;subst e';exact PySem.W.len_bytes (by lia) ⟨.int _,H,I.tok _,⟨_,rfl⟩,q⟩
 | ref p =>
  cases rx;have e':(∃xs,Yv X.K H p xs/\n=xs.length)\/∃xs,Ys X.K H p xs/\n=xs.length:=e
  rcases e' with ⟨xs,hx,e'⟩ | ⟨xs,hx,e'⟩
  ·subst e';obtain⟨Yf,r',pl,hz⟩:=I.list hx;have Yk:=r'.length;exact Calls.call_len_list pl.isList (by simp only[ZJ];lia) ⟨.int xs.length,H,I.tok _,⟨_,by simp only[ZJ];rw[Yk]⟩,q⟩
  ·subst e';obtain⟨Yf,r',pl,hz⟩:=I.tuple hx;have Yk:=r'.length;exact len_tuple pl (by simp only[ZJ];lia) ⟨.int xs.length,H,I.tok _,⟨_,by simp only[ZJ];rw[Yk]⟩,q⟩
 | _=>exact(show False from e).elim
end
structure ObjM(h:Heap)(x dx C:Addr)(mA:Str->Option Value):Prop where
 obj:h.get? x=some (PySem.W.instObj C dx)
 ns:h.Ns1 dx mA
 ne:dx≠x
theorem TQ{dx:Addr}{mA:Str->Option Value}(n:h.Ns1 dx mA):∃od,h.get? dx=some od/\∀name,PySem.W.lookIn name od=some (mA name):=by
 obtain⟨o,es,ep,ho,hd,hk,_,hm⟩:=n;refine⟨o,ho,fun name=>?_⟩;have e:=hm name;unfold nsFind findBy at e;rw[<- Array.find?_toList]at e;unfold PySem.W.lookIn;rw[hd];dsimp only;split
 ·rename_i y q;rw[q]at e;exact congrArg some e
 ·rename_i q;rw[q]at e
  have a:es.toList.any (·.refKey)=false:=by
   rw[List.any_eq_false];intro y hy;obtain⟨z,t,hkey⟩:=hk y (Array.mem_toList_iff.mp hy);simp[DictEntry.refKey,hkey]
  have a':¬es.toList.any (·.refKey)=true:=by rw[a];exact Z7
  rw[if_neg a'];exact congrArg some e
theorem ObjM.look{x dx:Addr}{mA:Str->Option Value}(I:ObjM h x dx C mA):∃od,PySem.W.InstAt h x (PySem.W.instObj C dx) C (some od)/\∀name,PySem.W.lookIn name od=some (mA name) :=
 let ⟨od,ho,hl⟩:=TQ I.ns
 ⟨od,⟨I.obj,rfl,rfl,ho⟩,hl⟩
section
variable {prog:Program}{w:World}{A:Around}{E:Value->Shared->Prop}{s:Shared}{K:W.Frag}{x dx C f:Addr}{mA:Str->Option Value}{name:Str}{v:Value}
theorem Uc {expr:Bool} (X:K.In s.heap) (I:ObjM s.heap x dx C mA) (hg:PySem.W.plainGet K C name=true) (hh:PySem.W.hasDictIn K C=true)
 (ha:PySem.W.findIn K (.ref C) name=some none) (hv:mA name=some v) (hv':PySem.W.handedIn v=true) (h:Q v { s with toks:=s.toks+1 }) :
 wpAny (model prog w) A (getAttr (.ref x) name expr) Q E s:=by
 obtain⟨od,J,hl⟩:=I.look;exact PySem.W.get_value X J (PySem.W.plainGet_of hg).1 (PySem.W.findObj_own hh ha rfl (by rw[hl,hv])) hv' h
theorem Rh {pl:Sem Bool} {Q:Value × List Value->Shared->Prop} (X:K.In s.heap) (I:ObjM s.heap x dx C mA) (hg:PySem.W.plainGet K C name=true)
 (hf:PySem.W.findIn K (.ref C) name=some (some (.ref f))) (ht:PySem.W.isFn K (.ref f)=true) (hv:mA name=none) (h:Q (.ref f,[.ref x]) s) :
 wpAny (model prog w) A (getMethod (.ref x) name pl) Q E s:=by
 obtain⟨od,J,hl⟩:=I.look;exact PySem.W.method_fn X J (PySem.W.plainGet_of hg).1 (PySem.W.plainGet_of hg).2 hf (beq_iff_eq.mp ht) (by show(PySem.W.lookIn name od).map (·.isSome)=some false;rw[hl,hv];rfl) h
theorem PJ {ns:List Str} {Q:Unit->Shared->Prop} (X:K.In s.heap) (I:ObjM s.heap x dx C mA)
 (hs:PySem.W.findIn K (.ref C) "__setattr__" = some (some (.builtin "object.__setattr__"))) (hp:PySem.W.plainOver K C=true) (ht:PySem.W.takerIn K C name=some none) (hh:PySem.W.hasDictIn K C=true)
 (hw:PySem.Within mA ns) (hsz:ns.length<=sizeLine)
 (h:∀h',ObjM h' x dx C (fun y=>if y=name then some v else mA y)->Heap.SameBut dx s.heap h'->Q () { s with heap:=h',toks:=s.toks+2 }) :
 wpAny (model prog w) A (setAttr (.ref x) name v) Q E s:=by
 obtain⟨od,J,hl⟩:=I.look;refine PySem.W.set_plain X J hs (PySem.W.osa_open (s:={ s with toks:=s.toks+1 }) (r:=none) X J hp ht fun b=>?_);obtain⟨cd,hc,hd'⟩:=PySem.W.any_some hh;have hx:s.heap.get? x=some ⟨.ref C,some dx,.plain,#[]⟩:=I.obj;refine ZA (ZB (ZA (ZA (wpAny_loadPart hx (ZA (PySem.W.Looks.here (s:={ s with toks:=s.toks+1 }) (PySem.W.looks_clsIn X hc) ?_))))));rw[hd'];refine ZB (a:=some dx) (ZA (ZB (ZA ?_)));refine wpAny_nsSet1 (s:={ s with toks:=s.toks+1 }) I.ns fun h' hn2 hs2=>?_
 obtain⟨oD,esD,epD,hoD,hdD,hcD⟩:=hn2.count (PySem.Within.cons name v hw);refine ZA (wpAny_lookBehind hoD (by rw[hdD];exact pastItsLine_dict (Zs hcD (by rw[Zi];lia))) ?_);exact ZB (h _ ⟨(hs2.2 _ (Ne.symm I.ne)).trans I.obj,hn2,I.ne⟩ hs2)
theorem UC {R:Result->Shared->Prop} {vs:List Value} {kw:List (Str × Value)} (X:K.In s.heap) (hm:PySem.W.makesIn K C=true)
 (hi:PySem.W.findIn K (.ref C) "__init__" = some (some (.ref f))) (hf:PySem.W.typeIn K (.ref f)=some (.type "function"))
 (h:codeAny (model prog w) (A.under (.builtin "type.__call__" ⟨.ref C::vs,kw⟩)) (.call (.ref f) ⟨.ref (s.heap.objs.size+1)::vs,kw⟩) (PySem.W.InitBack (s.heap.objs.size+1) R)
   { s with heap:=(s.heap.push PySem.W.emptyDict).push (PySem.W.instObj C s.heap.objs.size) }) :
 codeAny (model prog w) A (.call (.ref C) ⟨vs,kw⟩) R s:=by
 obtain⟨hh,g,d,t,os⟩:=s;exact PySem.W.make_core (PySem.W.makes_of X hm) (PySem.W.looks_findIn X hi) (fun self=>PySem.W.bind_fn X self hf) (.inl rfl) h
end
def AU(f:Str)(v:V):List (Str × V)->List (Str × V)
 | []=>[(f,v)]
 | (g,x)::r=>if g=f then (g,v)::r else (g,x)::AU f v r
theorem HR(f g:Str)(v:V):∀fs:List (Str × V),(AU f v fs).lookup g=if g=f then some v else fs.lookup g
 | []=>by
  show List.lookup g [(f,v)]=_
  by_cases h:g=f
  ·have hb:(g == f)=true:=beq_iff_eq.mpr h;simp only[List.lookup,hb,if_pos h]
  ·have hb:(g == f)=false:=beq_eq_false_iff_ne.mpr h;simp only[List.lookup,hb,if_neg h]
 | (k,x)::r=>by
  have ih:=HR f g v r;rw[show AU f v ((k,x)::r)=(if k=f then (k,v)::r else (k,x)::AU f v r) from rfl]
  by_cases hk:k=f
  ·rw[if_pos hk]
   by_cases h:g=k
   ·have hb:(g == k)=true:=beq_iff_eq.mpr h;simp only[List.lookup,hb,if_pos (h.trans hk)]
   ·have hb:(g == k)=false:=beq_eq_false_iff_ne.mpr h;simp only[List.lookup,hb,if_neg (fun e:g=f=>h (e.trans hk.symm))]
  ·rw[if_neg hk]
   by_cases h:g=k
   ·have hb:(g == k)=true:=beq_iff_eq.mpr h;simp only[List.lookup,hb,if_neg (fun e:g=f=>hk (h.symm.trans e))]
   ·have hb:(g == k)=false:=beq_eq_false_iff_ne.mpr h;simp only[List.lookup,hb];exact ih
theorem Gk(f:Str)(v:V):∀fs:List (Str × V),f∈(AU f v fs).map (·.1)/\∀g,g∈fs.map (·.1)->g∈(AU f v fs).map (·.1)
 | []=>⟨by simp[AU],fun g h=>by simp at h⟩
 | (k,x)::r=>by
  obtain⟨i1,i2⟩:=Gk f v r;rw[show AU f v ((k,x)::r)=(if k=f then (k,v)::r else (k,x)::AU f v r) from rfl]
  by_cases hk:k=f
  ·rw[if_pos hk];subst hk;exact⟨by simp,fun g h=>by simpa using h⟩
  ·rw[if_neg hk];refine⟨?_,fun g h=>?_⟩
   ·rw[Zd];exact ZW _ i1
   ·rw[Zd]at h ⊢
    rcases ZH.mp h with e | e
    ·exact ZH.mpr (.inl e)
    ·exact ZW _ (i2 g e)
theorem LX(f:Str)(v:V):∀fs:List (Str × V),(AU f v fs).length<=fs.length+1
 | []=>by simp[AU]
 | (k,x)::r=>by
  have ih:=LX f v r;rw[show AU f v ((k,x)::r)=(if k=f then (k,v)::r else (k,x)::AU f v r) from rfl]
  by_cases hk:k=f
  ·rw[if_pos hk,Zi,Zi];lia
  ·rw[if_neg hk,Zi,Zi];lia
theorem RelO.some_of{o:Option Value}(r:RelO (some v) o):∃u,o=some u/\Yi v u:=by
 cases o with
 | none=>exact(show False from r).elim
 | some u=>exact⟨u,rfl,r⟩
theorem RelO.none_of{o:Option Value}(r:RelO none o):o=none:=by
 cases o with
 | none=>rfl
 | some u=>exact(show False from r).elim
theorem VI(r:Yi v u):PySem.W.handedIn u=true:=by
 cases v with
 | non=>cases (show u=Value.none from r);rfl
 | bl b=>cases (show u=Value.bool b from r);rfl
 | int i=>obtain⟨t,e⟩:=(show ∃t,u=Value.int i t from r);cases e;rfl
 | str x=>obtain⟨t,e⟩:=(show ∃t,u=Value.str x t from r);cases e;rfl
 | byt b=>obtain⟨t,e⟩:=(show ∃t,u=Value.bytes b t from r);cases e;rfl
 | flt b=>obtain⟨t,e⟩:=(show ∃t,u=Value.float b t from r);cases e;rfl
 | ref a=>cases (show u=Value.ref a from r);rfl
 | ty n=>cases (show u=Value.type n from r);rfl
section
variable {P:Program}{w:World}{H H':Hp}{h h':Heap}{a C dx:Addr}{fs fs':List (Str × V)}
theorem Fv(hok:HOk P w H h)(e:H a=some (.ins C dx fs)):∃mA,ObjM h a dx C mA/\(∀f,RelO (fs.lookup f) (mA f))/\PySem.Within mA (fs.map (·.1))/\fs.length<=1000/\H dx=some (.own a):=by
 obtain⟨d,z,ne,ob,mA,n,r,q⟩:=(show ObjOk P w H h a (.ins C dx fs) from hok a _ e);exact⟨mA,⟨ob,n,ne⟩,r,q,z,d⟩
end
structure Cls(K:W.Frag)(C:Addr):Prop where
 pg:PySem.W.plainGet K C Str.empty=true
 hd:PySem.W.hasDictIn K C=true
 po:PySem.W.plainOver K C=true
 sa:PySem.W.findIn K (.ref C) "__setattr__" = some (some (.builtin "object.__setattr__"))
theorem Cls.get(c:Cls K C)(f:Str):PySem.W.plainGet K C f=true:=c.pg
def NoAttr(K:W.Frag)(C:Addr)(f:Str):Prop:=PySem.W.findIn K (.ref C) f=some none
theorem NoAttr.taker{f:Str}(n:NoAttr K C f):PySem.W.takerIn K C f=some none:=by
 unfold PySem.W.takerIn;rw[show PySem.W.findIn K (.ref C) f=some none from n];rfl
structure Meth(K:W.Frag)(C:Addr)(m:Str)(f:Addr):Prop where
 at_:PySem.W.findIn K (.ref C) m=some (some (.ref f))
 fn:PySem.W.isFn K (.ref f)=true
 kp:PySem.W.keepIn K (.ref f)=true
section
variable {X:Cx}{Ya:List (Addr × Obj)}{σ:St}{H:Hp}{s:Shared}{a C dx:Addr}{fs:List (Str × V)}{f:Str}{v:V}{A:Around}{E:Value->Shared->Prop}
theorem On {b:Bool} (I:Yg X Ya σ H s) (e:H a=some (.ins C dx fs)) (c:Cls X.K C) (n:NoAttr X.K C f) (l:fs.lookup f=some v)
 (h:∀u s',Yg X Ya σ H s'->Yi v u->Q u s'):wpAny (model X.prog X.w) A (getAttr (.ref a) f b) Q E s:=by
 obtain⟨mA,O,r,_,_,_⟩:=Fv I.hok e;obtain⟨u,hu,ru⟩:=RelO.some_of (v:=v) (o:=mA f) (by rw[<- l];exact r f);exact Uc I.kIn O (c.get f) c.hd n hu (VI ru) (h u _ (I.tok _) ru)
theorem KY {m:Str} {g:Addr} {pl:Sem Bool} {Q:Value × List Value->Shared->Prop} (I:Yg X Ya σ H s) (e:H a=some (.ins C dx fs)) (c:Cls X.K C) (k:Meth X.K C m g) (l:fs.lookup m=none)
 (h:Q (.ref g,[.ref a]) s):wpAny (model X.prog X.w) A (getMethod (.ref a) m pl) Q E s:=by
 obtain⟨mA,O,r,_,_,_⟩:=Fv I.hok e;have hn:mA m=none:=RelO.none_of (by rw[<- l];exact r m);exact Rh I.kIn O (c.get m) k.at_ k.fn hn h
theorem N9 {y:V} {Q:Unit->Shared->Prop} (I:Yg X Ya σ H s) (e:H a=some (.ins C dx fs)) (c:Cls X.K C) (n:NoAttr X.K C f) (hl:fs.length < 1000) (ry:Yi y u)
 (h:∀s',Yg X Ya σ (upd H a (.ins C dx (AU f y fs))) s'->Q () s'):wpAny (model X.prog X.w) A (setAttr (.ref a) f u) Q E s:=by
 obtain⟨mA,O,r,wi,_,ho⟩:=Fv I.hok e;have hz:(fs.map (·.1)).length<=sizeLine:=by rw[ZC,sizeLine_eq];lia
 refine PJ I.kIn O c.sa c.po n.taker c.hd wi hz fun h' O' sb=>h _ ?_
 have hd:∃o,h'.get? dx=some o:=let ⟨o,_,_,e',_⟩:=O'.ns;⟨o,e'⟩;refine I.write (x:=a) (e:=dx) (by rw[e];exact True.intro) (.inr ho) (fun b q hb z=>(sb.2 b hb).trans z) hd ?_;refine⟨by rw[AI O.ne];exact ho,?_,O.ne,O'.obj,_,O'.ns,fun g=>?_,fun g hg=>?_⟩
 ·have:=LX f y fs;lia
 ·show RelO ((AU f y fs).lookup g) (if g=f then some u else mA g);rw[HR]
  by_cases q:g=f
  ·rw[if_pos q,if_pos q];exact ry
  ·rw[if_neg q,if_neg q];exact r g
 ·by_cases q:g=f
  ·rw[q];exact(Gk f y fs).1
  ·refine(Gk f y fs).2 g (wi g fun z=>hg ?_)
   show(if g=f then some u else mA g)=none
   rw[if_neg q];exact z
theorem Yg.made(I:Yg X Ya σ H s):Yg X Ya σ (upd (upd H s.heap.objs.size (.own (s.heap.objs.size+1))) (s.heap.objs.size+1) (.ins C s.heap.objs.size []))
 { s with heap:=(s.heap.push PySem.W.emptyDict).push (PySem.W.instObj C s.heap.objs.size) }:=by
 have e1:(s.heap.push PySem.W.emptyDict).get? s.heap.objs.size=some PySem.W.emptyDict:=ZN s.heap rfl
 have e2:((s.heap.push PySem.W.emptyDict).push (PySem.W.instObj C s.heap.objs.size)).get? (s.heap.objs.size+1)=some (PySem.W.instObj C s.heap.objs.size):=by
  have:=ZN (s.heap.push PySem.W.emptyDict) (o:=PySem.W.instObj C s.heap.objs.size) rfl
  rwa [Z1]at this
 have e3:(s.heap.push PySem.W.emptyDict).Ns s.heap.objs.size (fun _=>none):=⟨PySem.W.emptyDict,#[],_,e1,rfl,(fun e he=>absurd he (by simp)),fun _=>rfl⟩;have I1:=I.laid (a:=s.heap.objs.size) (o:=.own (s.heap.objs.size+1)) (h':=s.heap.push PySem.W.emptyDict) (t':=s.toks) (fun b u q=>ZF _ q) (ZD _) ⟨_,e1⟩;refine I1.laid (a:=s.heap.objs.size+1) (o:=.ins C s.heap.objs.size []) (t':=s.toks) (fun b u q=>ZF _ q) (ZBc (Z1 _ _)) ?_;have ne:s.heap.objs.size≠s.heap.objs.size+1:=ZO (ZBO _);refine⟨by rw[AI ne,AD],ZP _,ne,e2,fun _=>none,(Heap.Ns1.of_empty e3).at fun o q=>ZF _ q,fun _=>True.intro,fun y hy=>absurd rfl hy⟩
theorem Oe {prog:Program} {env:Env} {e:Expr} {f:Str} (hb:attributeBase e f env (eval e env)=eval e env)
 (h:wpAny (model prog w) A (eval e env) (fun o s₁=>wpAny (model prog w) A (getAttr o f true) Q E s₁) E s):wpAny (model prog w) A (eval (.Attribute e f pos) env) Q E s :=
 Attribute_any_ h (by rw[arm_eval_Attribute,hb])
end
section
variable {X:Cx}{Ya:List (Addr × Obj)}{σ:St}{H:Hp}{s:Shared}{A:Around}{E:Value->Shared->Prop}{Q:Value->Shared->Prop}{c:Value}{b:Bool}
inductive TyOf (K:W.Frag) (H:Hp):V->Value->Prop where
 | non:TyOf K H .non (.type "NoneType")
 | bl (x:Bool):TyOf K H (.bl x) (.type "bool")
 | int (i:Int):TyOf K H (.int i) (.type "int")
 | str (x:Str):TyOf K H (.str x) (.type "str")
 | flt (x:UInt64):TyOf K H (.flt x) (.type "float")
 | lst {a:Addr} {xs:List V} (e:H a=some (.lst xs)):TyOf K H (.ref a) (.type "list")
 | frz {a:Addr} {o:Obj} {xs:List V} (e:H a=some (.frz o (.lst xs))):TyOf K H (.ref a) (.type "list")
 | tup {a:Addr} {xs:List V} (e:H a=some (.tup xs)):TyOf K H (.ref a) (.type "tuple")
 | dK {a:Addr} {Yd:List (Key × V)} (e:H a=some (.dK Yd)):TyOf K H (.ref a) (.type "dict")
 | dT {a:Addr} {Yd:List (List Key × V)} (e:H a=some (.dT Yd)):TyOf K H (.ref a) (.type "dict")
 | ins {a C dx:Addr} {fs:List (Str × V)} (e:H a=some (.ins C dx fs)) (cl:Cls K C) (ha:PySem.W.findIn K (.ref C) "__class__" = some (some (.builtin "object.__class__")))
  (hn:PySem.W.specialIn K (.builtin "object.__class__") "__get__" = some (some (.builtin "getset_descriptor.__get__"))) (htk:PySem.W.takesIn K (.builtin "object.__class__")=some true)
  (hm:PySem.W.mroIn K C (.type "object")=some true):TyOf K H (.ref a) (.ref C)
theorem Om{x:V}{t:Value}(I:Yg X Ya σ H s)(rx:Yi x u)(ty:TyOf X.K H x t)(e:PySem.W.kitOne X.K t c=some b)(h:∀tk,Q (.bool b) { s with toks:=tk }) :
 wpAny (model X.prog X.w) A (call (.builtin "isinstance") [u,c]) Q E s:=by
 cases ty with
 | non=>cases (show u=Value.none from rx);exact PySem.W.kia_one PySem.W.kitx_none I.kIn True.intro e (fun z=>nomatch z) h
 | bl y=>cases (show u=Value.bool y from rx);exact PySem.W.kia_one PySem.W.kitx_bool I.kIn True.intro e (fun z=>nomatch z) h
 | int i=>obtain⟨t,q⟩:=(show ∃t,u=Value.int i t from rx);cases q;exact PySem.W.kia_one PySem.W.kitx_int I.kIn True.intro e (fun z=>nomatch z) h
 | str y=>obtain⟨t,q⟩:=(show ∃t,u=Value.str y t from rx);cases q;exact PySem.W.kia_one PySem.W.kitx_str I.kIn True.intro e (fun z=>nomatch z) h
 | flt y=>obtain⟨t,q⟩:=(show ∃t,u=Value.float y t from rx);cases q;exact PySem.W.kia_one PySem.W.kitx_float I.kIn True.intro e (fun z=>nomatch z) h
 | @lst a xs ea =>
  cases (show u=Value.ref a from rx);obtain⟨_,_,n,_,h1⟩:=(show ObjOk X.prog X.w H s.heap a (.lst xs) from I.hok a _ ea);exact PySem.W.kia_one PySem.W.kitx_list I.kIn ⟨_,h1,rfl⟩ e (fun z=>nomatch z) h
 | @frz a ob xs ea =>
  cases (show u=Value.ref a from rx);obtain⟨_,_,_,n,_,h1⟩:=(show ObjOk X.prog X.w H s.heap a (.frz ob (.lst xs)) from I.hok a _ ea);exact PySem.W.kia_one PySem.W.kitx_list I.kIn ⟨_,h1,rfl⟩ e (fun z=>nomatch z) h
 | @tup a xs ea =>
  cases (show u=Value.ref a from rx);obtain⟨_,_,_,p⟩:=(show ObjOk X.prog X.w H s.heap a (.tup xs) from I.hok a _ ea);obtain⟨o,h1,h2,_⟩:=p;exact PySem.W.kia_one PySem.W.kitx_tuple I.kIn ⟨o,h1,h2⟩ e (fun z=>nomatch z) h
 | @dK a Yd ea =>
  cases (show u=Value.ref a from rx);obtain⟨_,_,vs,_,p⟩:=(show ObjOk X.prog X.w H s.heap a (.dK Yd) from I.hok a _ ea);obtain⟨o,es,ep,h1,h2,_⟩:=p;exact PySem.W.kia_one PySem.W.kitx_dict I.kIn ⟨o,h1,h2.1⟩ e (fun z=>nomatch z) h
 | @dT a Yd ea =>
  cases (show u=Value.ref a from rx);obtain⟨_,_,xs,_,o,es,ep,h1,h2,_⟩:=(show ObjOk X.prog X.w H s.heap a (.dT Yd) from I.hok a _ ea);exact PySem.W.kia_one PySem.W.kitx_dict I.kIn ⟨o,h1,h2.1⟩ e (fun z=>nomatch z) h
 | @ins a C dx fs ea cl ha hn htk hm =>
  cases (show u=Value.ref a from rx);obtain⟨mA,O,_⟩:=Fv I.hok ea;obtain⟨od,J,_⟩:=O.look;exact PySem.W.kia_one (PySem.W.kitx_own (cl.get _) cl.hd ha hn htk hm) I.kIn J e (fun z=>nomatch z) h
end
structure Room(k:Nat)(A:Around):Prop where
 hd:A.handled=none
 dp:A.depth+3 * k+5 < recursionLimit
 un:A.units+16 * k+200 < cLine
 gd:A.guards=some []
theorem Room.mono{j:Nat}(r:Room k A)(h:j<=k):Room j A:=⟨r.hd,by have:=r.dp;lia,by have:=r.un;lia,r.gd⟩
theorem Room.deeper(r:Room (k+1) A)(env:Env):Room k (A.deeper env) :=
 ⟨r.hd,by have:=r.dp;show A.depth+1+3 * k+5 < _;lia,by have:=r.un;show A.units+3+16 * k+200 < _;lia,r.gd⟩
theorem Room.in1(r:Room (k+1) A):Room k A.in1 :=
 ⟨r.hd,by have:=r.dp;show A.depth+3 * k+5 < _;lia,by have:=r.un;show A.units+1+16 * k+200 < _;lia,r.gd⟩
theorem PC{kw:List (Str × Value)}:(A.under (.builtin "type.__call__" ⟨.ref C::us,kw⟩)).depth=A.depth+1:=by
 first | rfl | simp[Around.under,Code.weight,Code.isCreation,Code.isGuard,Code.isCaller,Code.frames,Code.isFrame,guardIds]
theorem VM{kw:List (Str × Value)}:(A.under (.builtin "type.__call__" ⟨.ref C::us,kw⟩)).units=A.units+1:=by
 first | rfl | simp[Around.under,Code.cUnits,Code.frames,Code.isFrame]
theorem Room.make(r:Room (k+1) A)(C:Addr)(us:List Value)(kw:List (Str × Value)):Room k (A.under (.builtin "type.__call__" ⟨.ref C::us,kw⟩)) :=
 ⟨r.hd,by have:=r.dp;rw[PC];lia,by have:=r.un;rw[VM];lia,by first | exact r.gd | (simpa [Around.under,Code.guards,Code.isGuard,guardIds,pushGuards] using r.gd)⟩
theorem Room.depth(r:Room k A):A.depth < recursionLimit:=by have:=r.dp;lia
def DT:TA:=fun _ H Q=>Q [] H
def DH(ta:TE)(tr:TA):TA:=fun σ H Q=>ta σ H fun x H1=>tr σ H1 fun xs H2=>Q (x::xs) H2
section
variable {X:Cx}{e:Expr}{es:List Expr}{te:TE}{t:TA}{pos:Pos}
theorem AB:PA X [] DT:=fun _ _ _ _ H Q I h=>Calls.spliced_nil ⟨[],H,I,.nil,h⟩
theorem AA(ha:PE X e te)(hr:PA X es t)(hs:starEach (e::es) X.env=(false,eval e X.env)::starEach es X.env:=by rfl):PA X (e::es) (DH te t):=by
 intro pos Ya s σ H Q I h;rw[hs];show wpAny _ _ (spliced ((false,eval e X.env)::backTo pos (starEach es X.env))) _ _ s;refine Calls.spliced_cons (Ym (ha Ya s σ H _ I h) fun u s1 ⟨x,H1,I1,r1,q1⟩=>?_);exact Ym (hr pos Ya s1 σ H1 _ I1 q1) fun us s2 ⟨xs,H2,I2,r2,q2⟩=>⟨x::xs,H2,I2,.cons r1 r2,q2⟩
def IN(t:TA):TE:=fun σ H Q=>t σ H fun xs H1=>xs.length<=sizeLine/\∀p,H1 p=none->Q (.ref p) (upd H1 p (.tup xs))
def JK(t:TA):TE:=fun σ H Q=>t σ H fun xs H1=>xs.length<=sizeLine/\∀p,H1 p=none->Q (.ref p) (upd H1 p (.lst xs))
theorem A5{x1}(h:PA X es t):PE X (.Tuple es x1 pos) (IN t):=by
 intro Ya s σ H Q I hq;refine wpAny_Tuple_spliced (Ym (h pos Ya s σ H _ I hq) fun us s1 ⟨xs,H1,I1,r,z,q⟩=>⟨by rw[<- r.length];exact z,?_⟩);have hf:H1 s1.heap.objs.size=none:=I1.hok.fresh (ZD _);refine⟨.ref s1.heap.objs.size,upd H1 s1.heap.objs.size (.tup xs),I1.laid (t':=s1.toks) (fun b u e=>ZF _ e) (ZD _) ?_,rfl,q _ hf⟩;exact⟨z,us,r,⟨_,ZN _ rfl,rfl,⟨_,rfl⟩,rfl⟩⟩
theorem BY(h:PA X es t):PE X (.List es pos) (JK t):=by
 intro Ya s σ H Q I hq;refine wpAny_List_spliced (Ym (h pos Ya s σ H _ I hq) fun us s1 ⟨xs,H1,I1,r,z,q⟩=>⟨by rw[<- r.length];exact z,?_⟩);have hf:H1 s1.heap.objs.size=none:=I1.hok.fresh (ZD _);refine⟨.ref s1.heap.objs.size,upd H1 s1.heap.objs.size (.lst xs),I1.laid (t':=s1.toks) (fun b u e=>ZF _ e) (ZD _) ?_,rfl,q _ hf⟩;exact⟨z,us,0,r,ZN _ rfl⟩
end
abbrev Sp:=List V->Hp->VK->XK->Prop
abbrev CXT:=List Env->Hp->Shared->XK->Value->Shared->Prop
structure Env0(P:Program)(w:World)(K:W.Frag)(mg:Str->Option Value)(base:Heap)(A:Around)(outer:List Env)(s:Shared)(H:Hp):Prop where
 frames:A.frames=some outer
 mod:Mod K mg base
 bs:∀b o,base.get? b=some o->s.heap.get? b=some o/\H b=none
 bsz:base.objs.size<=s.heap.objs.size
 funs:s.heap.FunFrames base outer
 frf:∀b∈frs outer,H b=none
 hok:HOk P w H s.heap
 bare:AllBare s.gens
def CE(outer:List Env)(P:Program)(w:World)(H:Hp)(s:Shared)(Q:VK)(u:Value)(s':Shared):Prop :=
 ∃v H',s'.os=s.os/\AllBare s'.gens/\Un (frs outer) [] H H' s.heap s'.heap/\HOk P w H' s'.heap/\Yi v u/\Q v H'
def CR(CX:CXT)(outer:List Env)(P:Program)(w:World)(H:Hp)(s:Shared)(Q:VK)(E:XK)(r:Result)(s':Shared):Prop :=
 match r with
 | .ok (.ret u)=>CE outer P w H s Q u s'
 | .ok _=>False
 | .error e=>CX outer H s E e s'
structure FnOk(P:Program)(w:World)(K:W.Frag)(mg:Str->Option Value)(base:Heap)(CX:CXT)(k:Nat)(f:Addr)(fd:FuncData)(ps:List Str)(sp:Sp):Prop where
 len:∀vs H Q E,sp vs H Q E->vs.length=ps.length
 run:∀(A:Around) (outer:List Env) (s:Shared) (H:Hp) (args:Args) (us:List Value) (vs:List V) (Q:VK) (E:XK),Room k A->Env0 P w K mg base A outer s H->BindsTo s fd args (ps.zip us)->Yj vs us->sp vs H Q E ->
  codeAny (model P w) A (.call (.ref f) args) (CR CX outer P w H s Q E) s
theorem Env0.make{mg:Str->Option Value}{base:Heap}{outer:List Env}(e:Env0 P w K mg base A outer s H)(C:Addr)(us:List Value)(kw:List (Str × Value)) :
 Env0 P w K mg base (A.under (.builtin "type.__call__" ⟨.ref C::us,kw⟩)) outer s H:=⟨by first | exact e.frames | (simpa [Around.under,Code.envs,Code.isFrame,pushEnvs] using e.frames),e.mod,e.bs,e.bsz,e.funs,e.frf,e.hok,e.bare⟩
theorem Env0.in1{mg:Str->Option Value}{base:Heap}{outer:List Env}(e:Env0 P w K mg base A outer s H) :
 Env0 P w K mg base A.in1 outer s H:=⟨e.frames,e.mod,e.bs,e.bsz,e.funs,e.frf,e.hok,e.bare⟩
section
variable {X:Cx}{Ya:List (Addr × Obj)}{σ:St}{H:Hp}{s s':Shared}
theorem Yg.env0(I:Yg X Ya σ H s):Env0 X.prog X.w X.K X.mg X.base X.A X.stack s H :=
 ⟨I.ok.frames,I.ok.mod,I.bs,Zs I.ok.bsz I.sz,I.stack,I.stkFree,I.hok,I.bare⟩
theorem Yg.after{Q:VK}(I:Yg X Ya σ H s)(h:CE X.stack X.prog X.w H s Q u s'):EP X Ya σ Q u s':=by
 obtain⟨v,H',os,bare,un,hok,r,q⟩:=h;obtain⟨hh,g,d,t,os'⟩:=s';obtain rfl:os'=s.os:=os;exact⟨v,H',I.call (h':=hh) (g':=g) (d':=d) (t':=t) (ch:=[]) un hok bare (fun b z=>absurd z (by simp)),r,q⟩
end
def Iw(sp:Sp)(dvs:List V)(E:XK)(t:TA):TE:=fun σ H Q=>t σ H fun vs H1=>sp (vs++dvs) H1 Q E
def IY(C:Addr)(m:Str)(sp:Sp)(dvs:List V)(E:XK)(ta:TE)(t:TA):TE:=fun σ H Q=>ta σ H fun x H1=>∃a dx fs,x=.ref a/\H1 a=some (.ins C dx fs)/\fs.lookup m=none /\
 t σ H1 fun vs H2=>sp (x::(vs++dvs)) H2 Q E
def QF(C:Addr)(sp:Sp)(dvs:List V)(E:XK)(t:TA):TE:=fun σ H Q=>t σ H fun vs H1=>∀x dx,H1 x=none->H1 dx=none->dx≠x ->
 sp (.ref x::(vs++dvs)) (upd (upd H1 dx (.own x)) x (.ins C dx [])) (fun v H2=>v=.non/\Q (.ref x) H2) E
def Binds(K:W.Frag)(fd:FuncData)(ps:List Str)(ds:List Value):Prop :=
 ∀(s:Shared) (us:List Value),K.In s.heap->(us++ds).length=ps.length->BindsTo s fd ⟨us,[]⟩ (ps.zip (us++ds))
theorem Binds.all{fd:FuncData}{ps:List Str}(h:∀us:List Value,us.length=ps.length->bindArgs fd ⟨us,[]⟩=pure (ps.zip us)):Binds K fd ps []:=fun s us _ hl=>by
 rw[Zj]at hl ⊢;exact .of_eq (h us hl)
def Ck(CX:CXT)(X:Cx)(E:XK):Prop:=∀(Ya:List (Addr × Obj)) (σ:St) (H:Hp) (s:Shared) (e:Value) (s':Shared),Yg X Ya σ H s->CX X.stack H s E e s'->X.xe e s'
section
variable {X:Cx}{CX:CXT}{k:Nat}{f C:Addr}{fd:FuncData}{ps:List Str}{sp:Sp}{dvs:List V}{ds:List Value}{E:XK}{x m:Str}{p pos apos:Pos}{e o:Expr}{es:List Expr}{ta:TE}{t:TA}
theorem GA {Q:VK} {vs:List V} (F:FnOk X.prog X.w X.K X.mg X.base CX k f fd ps sp) (hr:Room k X.A) (hb:Binds X.K fd ps ds) (hd:Yj dvs ds) (hx:Ck CX X E)
 (I:Yg X Ya σ H s) (r:Yj vs us) (h:sp (vs++dvs) H Q E):wpAny (model X.prog X.w) X.A (call (.ref f) us) (EP X Ya σ Q) X.xe s:=by
 have r2:Yj (vs++dvs) (us++ds):=r.append hd;have hl:(us++ds).length=ps.length:=by rw[<- r2.length];exact F.len _ _ _ _ h
 refine wpAny_call (ZBF (F.run X.A X.stack s H ⟨us,[]⟩ (us++ds) (vs++dvs) Q E hr I.env0 (hb s us I.kIn hl) r2 h) fun r s' hq=>?_);cases r with
 | error e=>exact hx Ya σ H s e s' I hq
 | ok fl =>
  cases fl with
  | ret u=>exact I.after hq
  | next=>exact False.elim hq
  | brk=>exact False.elim hq
  | cont=>exact False.elim hq
theorem AL (F:FnOk X.prog X.w X.K X.mg X.base CX k f fd ps sp) (hr:Room k X.A) (hg:Gl X x) (hm:X.mg x=some (.ref f)) (hk:PySem.W.keepIn X.K (.ref f)=true) (hb:Binds X.K fd ps ds) (hd:Yj dvs ds) (hx:Ck CX X E)
 (ha:PA X (e::es) t) (hdb:(x == ("__debug__" : Str))=false:=by decide) (he:starEach (e::es) X.env=(false,eval e X.env)::starEach es X.env:=by rfl) (hpl:(backTo pos (starEach es X.env)).any (·.1)=false:=by rfl) :
 PE X (.Call (.Name x p) (e::es) [] pos) (Iw sp dvs E t):=by
 intro Ya s σ H Q I h;refine wpAny_Call_Name_kw (DQ I hg hm ?_ hdb);refine PySem.W.callWith_K (h₀:=X.base) I.ok.mod.kin hk (Ym (ha pos Ya s σ H _ I h) fun us s1 ⟨vs,H1,I1,r,q⟩=>⟨I1.kIn,?_⟩) he hpl;exact GA F hr hb hd hx I1 r q
theorem An {pl:Sem Bool} (he:PE X o ta) (c:Cls X.K C) (hm:Meth X.K C m f) (F:FnOk X.prog X.w X.K X.mg X.base CX k f fd ps sp) (hr:Room k X.A) (hb:Binds X.K fd ps ds) (hd:Yj dvs ds) (hx:Ck CX X E) (ha:PA X (e::es) t)
 (hst:starEach (e::es) X.env=(false,eval e X.env)::starEach es X.env:=by rfl) (hpl:(backTo pos (starEach es X.env)).any (·.1)=false:=by rfl)
 (ht:eval (.Call (.Attribute o m apos) (e::es) [] pos) X.env=(do
   let ov <- eval o X.env
   standAt apos.atName
   let (f,first) <- holding [ov] (getMethod ov m pl)
   callWith pos f first (backTo pos (starEach (e::es) X.env)) (backToKw pos (keywordEach [] X.env))):=by rfl) :
 PE X (.Call (.Attribute o m apos) (e::es) [] pos) (IY C m sp dvs E ta t):=by
 intro Ya s σ H Q I h;refine PySem.W.methodCall_KW (pl:=pl) (Ym (he Ya s σ H _ I h) fun u s1 ⟨x,H1,I1,rx,a,dx,fs,ex,ea,l,q⟩=>?_) ht;subst ex;obtain rfl:u=Value.ref a:=rx;refine KY I1 ea c hm l ?_;refine PySem.W.callWith_K (first:=[.ref a]) (h₀:=X.base) I.ok.mod.kin hm.kp (Ym (ha pos Ya s1 σ H1 _ I1 q) fun us s2 ⟨vs,H2,I2,r,q2⟩=>⟨I2.kIn,?_⟩) hst hpl;exact GA (us:=.ref a::us) (vs:=.ref a::vs) F hr hb hd hx I2 (.cons rfl r) q2
theorem Ma {pl:Sem Bool} (he:PE X o ta) (c:Cls X.K C) (hm:Meth X.K C m f) (F:FnOk X.prog X.w X.K X.mg X.base CX k f fd ps sp) (hr:Room k X.A) (hb:Binds X.K fd ps ds) (hd:Yj dvs ds) (hx:Ck CX X E)
 (ht:eval (.Call (.Attribute o m apos) [] [] pos) X.env=(do
   let ov <- eval o X.env
   standAt apos.atName
   let (f,first) <- holding [ov] (getMethod ov m pl)
   callWith pos f first (backTo pos (starEach [] X.env)) (backToKw pos (keywordEach [] X.env))):=by rfl) :
 PE X (.Call (.Attribute o m apos) [] [] pos) (IY C m sp dvs E ta DT):=by
 intro Ya s σ H Q I h;refine PySem.W.methodCall_KW (pl:=pl) (Ym (he Ya s σ H _ I h) fun u s1 ⟨x,H1,I1,rx,a,dx,fs,ex,ea,l,q⟩=>?_) ht;subst ex;obtain rfl:u=Value.ref a:=rx;refine KY I1 ea c hm l ?_;exact PySem.W.callWith_K0 (first:=[.ref a]) I1.kIn hm.kp (GA (us:=[.ref a]) (vs:=[.ref a]) F hr hb hd hx I1 (.cons rfl .nil) q)
structure Mk(K:W.Frag)(C f:Addr):Prop where
 makes:PySem.W.makesIn K C=true
 init:PySem.W.findIn K (.ref C) "__init__" = some (some (.ref f))
 fn:PySem.W.isFn K (.ref f)=true
 kp:PySem.W.keepIn K (.ref C)=true
theorem VB {Q:VK} {vs:List V} (M:Mk X.K C f) (F:FnOk X.prog X.w X.K X.mg X.base CX k f fd ps sp) (hr:Room (k+1) X.A) (hb:Binds X.K fd ps ds) (hd:Yj dvs ds)
 (hx:Ck CX X E) (I:Yg X Ya σ H s) (r:Yj vs us)
 (h:∀x dx,H x=none->H dx=none->dx≠x->sp (.ref x::(vs++dvs)) (upd (upd H dx (.own x)) x (.ins C dx [])) (fun v H2=>v=.non/\Q (.ref x) H2) E) :
 wpAny (model X.prog X.w) X.A (call (.ref C) us) (EP X Ya σ Q) X.xe s:=by
 have hq:=h (s.heap.objs.size+1) s.heap.objs.size (I.hok.fresh (ZBV _)) (I.hok.fresh (ZD _)) (ZO (ZBO _));have I2:=Yg.made (C:=C) I;have r2:Yj (V.ref (s.heap.objs.size+1)::(vs++dvs)) (Value.ref (s.heap.objs.size+1)::(us++ds)):=.cons rfl (r.append hd)
 have hl:(Value.ref (s.heap.objs.size+1)::us++ds).length=ps.length:=by
  have e:=r2.length;rw[F.len _ _ _ _ hq]at e;exact e.symm
 refine wpAny_call (UC (f:=f) I.kIn M.makes M.init (beq_iff_eq.mp M.fn) (ZBF (F.run _ X.stack _ _ ⟨Value.ref (s.heap.objs.size+1)::us,[]⟩ (Value.ref (s.heap.objs.size+1)::(us++ds)) _ _ E (hr.make C us [])
  (I2.env0.make C us []) (hb _ (Value.ref (s.heap.objs.size+1)::us) I2.kIn hl) r2 hq) fun r s' hq'=>?_))
 cases r with
 | error e=>exact hx Ya σ _ _ e s' I2 hq'
 | ok fl =>
  cases fl with
  | ret u =>
   obtain⟨v,H',I3,rv,ev,q3⟩:=I2.after hq';subst ev;exact⟨rv,⟨V.ref (s.heap.objs.size+1),H',I3,rfl,q3⟩⟩
  | next=>exact False.elim hq'
  | brk=>exact False.elim hq'
  | cont=>exact False.elim hq'
theorem MU (M:Mk X.K C f) (F:FnOk X.prog X.w X.K X.mg X.base CX k f fd ps sp) (hr:Room (k+1) X.A) (hg:Gl X x) (hm:X.mg x=some (.ref C)) (hb:Binds X.K fd ps ds) (hd:Yj dvs ds) (hx:Ck CX X E)
 (ha:PA X (e::es) t) (hdb:(x == ("__debug__" : Str))=false:=by decide) (he:starEach (e::es) X.env=(false,eval e X.env)::starEach es X.env:=by rfl) (hpl:(backTo pos (starEach es X.env)).any (·.1)=false:=by rfl) :
 PE X (.Call (.Name x p) (e::es) [] pos) (QF C sp dvs E t):=by
 intro Ya s σ H Q I h;refine wpAny_Call_Name_kw (DQ I hg hm ?_ hdb);refine PySem.W.callWith_K (h₀:=X.base) I.ok.mod.kin M.kp (Ym (ha pos Ya s σ H _ I h) fun us s1 ⟨vs,H1,I1,r,q⟩=>⟨I1.kIn,?_⟩) he hpl;exact VB M F hr hb hd hx I1 r q
end
structure FnScope(N P:List Str)(sc:Scope):Prop where
 kind:sc.kind=.function
 co:sc.isCoroutine=false
 gen:sc.isGenerator=false
 nd:N.Nodup
 pre:N.take P.length=P
 par:∀x∈P,sc.names.lookup x=some .local\/sc.names.lookup x=some .cell
 nofree:∀y∈sc.names,y.2≠.free
theorem LU{kindOf:Str->Option NameKind}:∀{binds:List (Str × Value)} {m:Str->Option Value},(∀v,(x,v)∉binds)->bindL kindOf binds m x=m x
 | [],_,_=>rfl
 | (n,v)::r,m,h=>by
  unfold bindL;rw[LU fun w hw=>h w (ZW _ hw)];split
  ·have:x≠n:=by rintro rfl;exact h v Zb
   simp[this]
  ·rfl
theorem Mv{kindOf:Str->Option NameKind}:∀{binds:List (Str × Value)} {m:Str->Option Value},(∀v,(x,v)∉binds)->bindC kindOf binds m x=m x
 | [],_,_=>rfl
 | (n,v)::r,m,h=>by
  unfold bindC;rw[Mv fun w hw=>h w (ZW _ hw)];split
  ·rfl
  ·have:x≠n:=by rintro rfl;exact h v Zb
   simp[this]
theorem Li{kindOf:Str->Option NameKind}{v:Value}:∀{P:List Str} {vs:List Value} {i:Nat} {m:Str->Option Value},P.Nodup->P[i]? = some x->vs[i]? = some v->kindOf x=some .local ->
 bindL kindOf (P.zip vs) m x=some v
 | [],_,_,_,_,h,_,_=>by simp at h
 | _::_,[],_,_,_,_,h,_=>by simp at h
 | p::P,w::vs,0,m,nd,h1,h2,hk=>by
  simp at h1 h2;subst h1;subst h2;show bindL kindOf ((p,w)::P.zip vs) m p=_;unfold bindL;rw[LU fun v hv=>(ZBd.mp nd).1 (List.of_mem_zip hv).1,if_pos hk];simp
 | p::P,w::vs,i+1,m,nd,h1,h2,hk=>by
  show bindL kindOf ((p,w)::P.zip vs) m x=_;unfold bindL;exact Li (i:=i) (ZBd.mp nd).2 (by simpa using h1) (by simpa using h2) hk
theorem Mp{kindOf:Str->Option NameKind}{v:Value}:∀{P:List Str} {vs:List Value} {i:Nat} {m:Str->Option Value},P.Nodup->P[i]? = some x->vs[i]? = some v->kindOf x≠some .local ->
 bindC kindOf (P.zip vs) m x=some v
 | [],_,_,_,_,h,_,_=>by simp at h
 | _::_,[],_,_,_,_,h,_=>by simp at h
 | p::P,w::vs,0,m,nd,h1,h2,hk=>by
  simp at h1 h2;subst h1;subst h2;show bindC kindOf ((p,w)::P.zip vs) m p=_;unfold bindC;rw[Mv fun v hv=>(ZBd.mp nd).1 (List.of_mem_zip hv).1,if_neg hk];simp
 | p::P,w::vs,i+1,m,nd,h1,h2,hk=>by
  show bindC kindOf ((p,w)::P.zip vs) m x=_;unfold bindC;exact Mp (i:=i) (ZBd.mp nd).2 (by simpa using h1) (by simpa using h2) hk
def CS(N:List Str)(vs:List V):St:=vs.map some++List.replicate (N.length - vs.length) none
def Bz(CX:CXT)(P:Program)(w:World)(K:W.Frag)(mg:Str->Option Value)(base:Heap)(N:List Str)(qual:Str)(scope:Scope)(f:Addr)(cd:Value)(A:Around)(outer:List Env)(s:Shared)(H:Hp)(E:XK):Cx where
 prog:=P
 w:=w
 K:=K
 mg:=mg
 base:=base
 A:=A.deeper (envOfC qual scope s.heap.objs.size f cd)
 N:=N
 s₀:=s
 H₀:=H
 env:=envOfC qual scope s.heap.objs.size f cd
 outer:=outer
 stack:=envOfC qual scope s.heap.objs.size f cd::outer
 ex:=[]
 calm:=true
 fn:=fun _=>true
 pn:=[]
 xe:=fun e s'=>wpAny (model P w) (A.deeper (envOfC qual scope s.heap.objs.size f cd)) (leaving (envOfC qual scope s.heap.objs.size f cd) e) (fun _ s''=>CX outer H s E e s'') (fun e' s''=>CX outer H s E e' s'') s'
theorem Lr{sc:Scope}{n:Nat}(h:sc.names.lookup x=some .cell):∃c,(cellsFrom n sc.names []).lookup x=some c:=by
 have q:=PySem.W.cellsFrom_some sc.names n [] (.inl h);exact Option.isSome_iff_exists.mp q
theorem U9 {CX:CXT} {mg:Str->Option Value} {base:Heap} {N ps:List Str} {qual:Str} {scope:Scope} {f:Addr} {cd:Value} {outer:List Env} {s1:Shared} {E:XK} {vs:List V}
 (S:FnScope N ps scope) (hd:A.handled=none) (e0:Env0 P w K mg base A outer s H) (hl:vs.length=ps.length) (r:Yj vs us)
 (x:InCallC s s.heap.objs.size (bindL (envOfC qual scope s.heap.objs.size f cd).kindOf (ps.zip us) fun _=>none) (cellsFrom (s.heap.objs.size+1) scope.names []) (bindC (envOfC qual scope s.heap.objs.size f cd).kindOf (ps.zip us) fun _=>none) s1) :
 Yg (Bz CX P w K mg base N qual scope f cd A outer s H E) [] (CS N vs) H s1:=by
 have hpl:ps.length<=N.length:=by have:=congrArg List.length S.pre;rw[Zf]at this;lia
 obtain⟨h1,tk,rfl,hk⟩:=x.done;have noA:∀b:Addr,b∉(Bz CX P w K mg base N qual scope f cd A outer s H E).ex:=fun b z=>absurd (show b∈([]:List Addr) from z) (by simp)
 refine⟨⟨e0.mod,S.kind,rfl,rfl,ZD _,fun y z c h1 h2=>?_,fun y hy=>?_,fun y c _ h=>?_,fun _=>hd,Around.frames_deeper e0.frames,.inr ⟨rfl,rfl⟩,fun b z=>absurd z (noA b),e0.bs,e0.bsz,fun b _ _=>noA b,fun b z=>absurd z (noA b),e0.funs,e0.frf⟩,
  rfl,e0.bare,Un.kept hk,⟨_,x.toInCall.ns,fun i y v h1 h2 h3=>?_⟩,fun y c h=>⟨_,x.cell y c h⟩,e0.hok.fresh (ZD _),fun y c h=>?_,fun p hp=>absurd (show p∈([]:List (Addr × Obj)) from hp) (by simp),e0.hok.kept hk,?_⟩
 ·exact name_of_addr x.apart (PySem.mem_of_lookup h1) (PySem.mem_of_lookup h2)
 ·have hy:scope.names.lookup y=some .cell\/scope.names.lookup y=some .free:=hy
  rcases hy with hy | hy
  ·exact Lr hy
  ·exact absurd rfl (S.nofree _ (PySem.mem_of_lookup hy))
 ·exact Z0 (x.above y c (PySem.mem_of_lookup h))
 ·have hi:i < vs.length:=by
   unfold CS at h2
   by_cases hi:i < vs.length
   ·exact hi
   ·rw[ZBL (by simpa using hi)]at h2;rw[List.getElem?_replicate]at h2;split at h2 <;> cases h2
  have ha:vs[i]? = some v:=by
   unfold CS at h2;rw[ZBP (by simpa using hi),ZT]at h2;cases e:vs[i]? with
   | none=>rw[e]at h2;cases h2
   | some a=>rw[e]at h2;cases h2;rfl
  obtain⟨u,hu,rv⟩:=r.get ha
  have hp:ps[i]? = some y:=by
   rw[<- S.pre,List.getElem?_take_of_lt (by lia)];exact h1
  have ndP:ps.Nodup:=by rw[<- S.pre];exact S.nd.sublist (List.take_sublist _ _)
  refine⟨u,rv,?_⟩
  rcases S.par y (Zo hp) with k | k
  ·exact .inl ⟨k,Li ndP hp hu k⟩
  ·obtain⟨c,e⟩:=Lr (n:=s.heap.objs.size+1) k;refine .inr ⟨.inl k,c,e,?_⟩;have q:=x.cell y c e;rw[Mp ndP hp hu (by show scope.names.lookup y≠_;rw[k];decide)]at q;exact q
 ·exact e0.hok.fresh (Z0 (x.above y c (PySem.mem_of_lookup h)))
 ·unfold CS;show _=N.length;rw[ZU,ZC,List.length_replicate];lia
theorem Hc {CX:CXT} {mg:Str->Option Value} {base:Heap} {f:Addr} {name qual:Str} {params:Arguments} {body:List Stmt} {scope:Scope} {dV kV doc pm Yy ct oc:Value} {an od:Option Addr}
 {osl:Array (Option Value)} {N ps:List Str} {sp:Sp} (lk:K.lookup f=some ⟨oc,od,.func (PySem.W.fnOf name qual params body scope dV kV doc pm an Yy ct),osl⟩) (hcd:PySem.W.codeIn K Yy qual=true) (S:FnScope N ps scope)
 (len:∀vs H Q E,sp vs H Q E->vs.length=ps.length)
 (hbody:∀(A:Around) (outer:List Env) (s:Shared) (H:Hp) (vs:List V) (Q:VK) (E:XK),Room k (A.deeper (envOfC qual scope s.heap.objs.size f Yy))->sp vs H Q E ->
   ∃t,PSs (Bz CX P w K mg base N qual scope f Yy A outer s H E) body t/\t { nx:=fun _ H'=>Q .non H',rt:=Q } (CS N vs) H) :
 FnOk P w K mg base CX (k+1) f (PySem.W.fnOf name qual params body scope dV kV doc pm an Yy ct) ps sp:=by
 refine⟨len,fun A outer s H args us vs Q E hr e0 hb r hsp=>?_⟩;have hl:=len _ _ _ _ hsp;have KX:K.In s.heap:=e0.mod.kin.keeps fun b o e=>(e0.bs b o e).1
 have lim:s.heap.NoLimit:=e0.mod.nolimit.keeps fun b o e=>(e0.bs b o e).1
 have hkind:∀y∈ps.zip us,scope.names.lookup y.1=some .local\/(scope.names.lookup y.1=some .cell/\((cellsFrom (s.heap.objs.size+1) scope.names []).lookup y.1).isSome=true):=fun⟨n,v⟩ hy=>by
  rcases S.par n (List.of_mem_zip hy).1 with q | q
  ·exact .inl q
  ·exact .inr ⟨q,PySem.W.cellsFrom_some _ _ _ (.inl q)⟩
 refine codeAny_call_function hr.depth (KX _ _ lk) rfl S.co S.gen rfl (PySem.W.codeRec_of KX hcd) (hb _ _ _ _ ?_);refine wpAny_newFunctionEnv_cells S.kind hkind fun env he s1 x=>?_
 subst he;refine⟨lim.keeps x.toInCall.keep,codeAny_func ?_⟩;obtain⟨t,ht,hq⟩:=hbody A outer s H vs Q E (hr.deeper _) hsp;have I:Yg (Bz CX P w K mg base N qual scope f Yy A outer s H E) [] (CS N vs) H s1:=U9 S hr.hd e0 hl r x;refine ZZ (ht [] s1 (CS N vs) H _ I hq) (fun fl s' hs=>?_) fun e s' hs=>hs
 have fin:∀{σ':St} {H':Hp} {v:V} {u:Value},Yg (Bz CX P w K mg base N qual scope f Yy A outer s H E) [] σ' H' s'->Yi v u->Q v H'->CE outer P w H s Q u s' :=
  fun {σ' H' v u} J rv q=>⟨v,H',J.os,J.bare,J.base,J.hok,rv,q⟩
 cases fl with
 | ret u =>
  obtain⟨v,σ',H',J,rv,q⟩:=hs;exact fin J rv q
 | next =>
  obtain⟨σ',H',J,q⟩:=hs;exact fin (v:=V.non) (u:=Value.none) J rfl q
 | brk =>
  obtain⟨_,_,_,q⟩:=hs;exact False.elim q
 | cont =>
  obtain⟨_,_,_,q⟩:=hs;exact False.elim q
section
variable {X:Cx}{x:Str}{p pos:Pos}{e:Expr}{es:List Expr}{t:TA}{id T:String}{r:List V->Hp->VK->Prop}
def tCB(r:List V->Hp->VK->Prop)(t:TA):TE:=fun σ H Q=>t σ H fun vs H1=>r vs H1 Q
theorem AZ (hc:CallR X (.builtin id) r) (hg:Gl X x) (hm:X.mg x=none) (hv:bootBuiltins x=some (.builtin id)) (ha:PA X (e::es) t) (hn:x ≠ "__name__":=by decide) (hdb:(x == ("__debug__" : Str))=false:=by decide)
 (he:starEach (e::es) X.env=(false,eval e X.env)::starEach es X.env:=by rfl) (hpl:(backTo pos (starEach es X.env)).any (·.1)=false:=by rfl):PE X (.Call (.Name x p) (e::es) [] pos) (tCB r t):=by
 intro Ya s σ H Q I h;refine wpAny_Call_Name_kw (CI I hg hm hv ?_ hn hdb);exact PyProof.Rows.callWith_builtin1 (Ym (ha pos Ya s σ H _ I h) fun us s1 ⟨vs,H1,I1,r1,q1⟩=>hc Ya s1 σ H1 vs us Q I1 r1 q1) he hpl
theorem Bb (hc:CallR X (.type T) r) (hg:Gl X x) (hm:X.mg x=none) (hv:bootBuiltins x=some (.type T)) (ha:PA X (e::es) t) (hn:x ≠ "__name__":=by decide) (hdb:(x == ("__debug__" : Str))=false:=by decide)
 (he:starEach (e::es) X.env=(false,eval e X.env)::starEach es X.env:=by rfl) (hpl:(backTo pos (starEach es X.env)).any (·.1)=false:=by rfl):PE X (.Call (.Name x p) (e::es) [] pos) (tCB r t):=by
 intro Ya s σ H Q I h;refine wpAny_Call_Name_kw (CI I hg hm hv ?_ hn hdb);exact PyProof.Rows.callWith_type1 (Ym (ha pos Ya s σ H _ I h) fun us s1 ⟨vs,H1,I1,r1,q1⟩=>hc Ya s1 σ H1 vs us Q I1 r1 q1) he hpl
end
end L2
namespace HT
open PySem PyProof.Rows
section
open PySem.SeqAt
open PySem.AutoSeq1 (wpAny_loadPart')
open PySem.MeetsSeq PySem.MeetsSeq2 PySem.MeetsSeq3
end
section
variable {prog:Program}{w:World}{A:Around}{E:Value->Shared->Prop}{s:Shared}
theorem cat_tup {t b:Addr} {vs ws:List Value} {Q:Value->Shared->Prop} (ht:IsTup s.heap t vs.toArray) (hb:IsTup s.heap b ws.toArray) (hv:vs≠[])
 (h1:ws=[]->Q (.ref t) s) (h2:ws≠[]->Q (.ref s.heap.objs.size) { s with heap:=s.heap.push { cls:=.type "tuple",data:=.seq (vs++ws).toArray } })
 (hsz:vs.length+ws.length<=sizeLine):wpAny (model prog w) A (binaryOp .Add (.ref t) (.ref b)) Q E s:=by
 obtain⟨⟨cls,dd,data,sl⟩,ho,hc,n,hd⟩:=id ht;obtain⟨⟨cls2,dd2,data2,sl2⟩,ho2,hc2,n2,hd2⟩:=id hb;simp only at hc hd hc2 hd2;subst hc hd hc2 hd2;have e:vs.toArray++ws.toArray=(vs++ws).toArray:=by simp
 by_cases hw:ws=[]
 ·exact concat_meets ⟨_,ho,rfl⟩ ⟨_,ho2,rfl⟩ noFill_tuple_add seq_tuple_add PySem.F.slot_tuple_add PySem.F.entry_tuple_add (PySem.F.args_tuple_add_2 _ _)
   (tuple_addW1 t b vs.toArray ws.toArray n n2 dd dd2 sl sl2 (by simpa using hv) (by simp[hw])) ⟨ho,ho2,h1 hw⟩
 ·refine concat_meets ⟨_,ho,rfl⟩ ⟨_,ho2,rfl⟩ noFill_tuple_add seq_tuple_add PySem.F.slot_tuple_add PySem.F.entry_tuple_add (PySem.F.args_tuple_add_2 _ _)
   (tuple_addW2 t b vs.toArray ws.toArray n n2 dd dd2 sl sl2 (by simpa using hv) (by simpa using hw) (by rw[ZJ,ZJ];exact hsz)) ⟨ho,ho2,?_⟩
  rw[e];exact h2 hw
def sIx(n d:Nat):Option Int->Nat
 | none=>d
 | some v=>if v < 0 then (v+(n:Int)).toNat else min v.toNat n
theorem SO(n d:Nat)(hd:d<=n)(o:Option Int):sIx n d o<=n:=by
 cases o with
 | none=>exact hd
 | some v =>
  show(if v < 0 then (v+(n:Int)).toNat else min v.toNat n)<=n
  by_cases hv:v < 0
  ·rw[if_pos hv];lia
  ·rw[if_neg hv];exact Nat.min_le_right _ _
theorem MM(v:Int)(n d:Nat):(if v < 0 then max (v+(n:Int)) 0 else min v (n:Int))=((sIx n d (some v):Nat):Int):=by
 show(if v < 0 then max (v+(n:Int)) 0 else min v (n:Int))=(((if v < 0 then (v+(n:Int)).toNat else min v.toNat n):Nat):Int)
 by_cases hv:v < 0
 ·simp only[if_pos hv];lia
 ·simp only[if_neg hv];lia
theorem Qo(lo hi:Option Int)(n:Nat):Builtin.Slice.sliceAdjust lo hi 1 (n:Int)=(((sIx n 0 lo:Nat):Int),((sIx n n hi:Nat):Int)):=by
 have h1:¬((1:Int) < 0):=by lia
 unfold Builtin.Slice.sliceAdjust;simp only[h1,if_false];refine Prod.ext ?_ ?_
 ·cases lo with
  | none=>rfl
  | some v=>exact MM v n 0
 ·cases hi with
  | none=>rfl
  | some v=>exact MM v n n
theorem Uw(i j:Nat):Builtin.Slice.slicePlaces (i:Int) (j:Int) 1=j - i:=by
 unfold Builtin.Slice.slicePlaces;have h1:(1:Int) > 0:=by lia
 simp only[h1,if_true,Int.ediv_one];split <;> lia
theorem Kr{v:Value}{o:Option Int}{Q:Option Int->Shared->Prop}(p:IsPart v o)(h:Q o s):wpAny (model prog w) A (Builtin.Slice.slicePartIndex v) Q E s:=by
 cases p with
 | none=>exact slicePart_none h
 | int i t=>exact slicePart_int h
theorem MO {sl:Addr} {vl vu:Value} {lo hi:Option Int} {n:Nat} {Q:Int × Int × Nat->Shared->Prop} (hs:s.heap.IsSliceOf sl vl vu .none) (pl:IsPart vl lo) (pu:IsPart vu hi)
 (h:Q (((sIx n 0 lo:Nat):Int),1,sIx n n hi - sIx n 0 lo) s):wpAny (model prog w) A (Builtin.Slice.sliceApplied (.ref sl) (pure (n:Int))) Q E s:=by
 obtain⟨os,hos,hcs,hds⟩:=id hs;unfold Builtin.Slice.sliceApplied Builtin.Slice.sliceFields;refine ZA (ZA (ZBD hos hds (x:=vl) rfl (ZA (ZBD hos hds (x:=vu) rfl (ZA (ZBD hos hds (x:=.none) rfl (ZB ?_)))))));refine ZA (slicePart_none ?_);show wpAny _ _ (if ((1:Int) == 0)=true then _ else _) _ _ s;rw[if_neg (by decide)];refine ZA (Kr pl (ZA (Kr pu (ZA (ZB ?_)))));show wpAny _ _ (match Builtin.Slice.sliceAdjust lo hi 1 (n:Int) with | (lo,hi)=>pure (lo,(1:Int),Builtin.Slice.slicePlaces lo hi 1)) _ _ s;rw[Qo lo hi n];show wpAny _ _ (pure (((sIx n 0 lo:Nat):Int),(1:Int),Builtin.Slice.slicePlaces ((sIx n 0 lo:Nat):Int) ((sIx n n hi:Nat):Int) 1)) _ _ s;rw[Uw];exact ZB h
theorem Wp(xs:Array Value)(i k:Nat):((List.range k).filterMap fun(m:Nat)=>xs[((i:Int)+(m:Int) * 1).toNat]?).toArray=((xs.toList.drop i).take k).toArray:=by
 have e:(fun(m:Nat)=>xs[((i:Int)+(m:Int) * 1).toNat]?)=fun m=>xs[i+m]?:=by
  funext m
  have:((i:Int)+(m:Int) * 1).toNat=i+m:=by lia
  rw[this]
 rw[e]
 have:=pick_run xs i k
 rw[List.filterMap_map]at this;have e2:((fun x=>xs[x]?) ∘ fun x=>i+x)=fun m=>xs[i+m]?:=rfl
 rw[e2]at this;rw[this]
theorem getItem_tuple_cut {t sl:Addr} {items:Array Value} {vl vu:Value} {lo hi:Option Int} {Q:Value->Shared->Prop} (ht:IsTup s.heap t items) (hs:s.heap.IsSliceOf sl vl vu .none) (pl:IsPart vl lo) (pu:IsPart vu hi)
 (hw:¬(sIx items.size 0 lo=0/\sIx items.size items.size hi=items.size))
 (h:Q (.ref s.heap.objs.size) { s with heap:=s.heap.push { cls:=.type "tuple",data:=.seq ((items.toList.drop (sIx items.size 0 lo)).take (sIx items.size items.size hi - sIx items.size 0 lo)).toArray } })
 (hsz:items.size<=sizeLine):wpAny (model prog w) A (getItem (.ref t) (.ref sl)) Q E s:=by
 have htake:sizeOk (.seq ((items.toList.drop (sIx items.size 0 lo)).take (sIx items.size items.size hi - sIx items.size 0 lo)).toArray):=by
  show((items.toList.drop (sIx items.size 0 lo)).take (sIx items.size items.size hi - sIx items.size 0 lo)).toArray.size<=sizeLine
  rw[ZJ,Zf,ZBm,Zh];lia
 have hj:sIx items.size items.size hi<=items.size:=SO _ _ (ZD _) hi;obtain⟨os,hos,hcs,hds⟩:=id hs;have hTs:s.TypeIs (.ref sl) "slice":=⟨os,hos,hcs⟩;unfold getItem
 try with_reducible refine Zc ?_
 first | refine ZA (ZB ?_) | skip
 refine ZA (wpAny_sequenceKey ht.typeIs (by decide) ?_)
 refine ZA (wpAny_callSpecial?_slot (name:=Str.ofString "__getitem__") ht.typeIs PyProof.Rows.slot_tuple_getitem
  (Zx PyProof.Rows.slot_tuple_getitem ht.typeIs entry_tuple_getitem ?_ (args_tuple_getitem _ _)))
 show wpAny _ _ (Builtin.Tuple.tupleItemsOf (.ref t) >>= _) _ _ s;refine ZA (tupleItemsOf_ ht ?_);refine ZA (wpAny_typeOf hTs ?_);rw[if_pos (by decide)];refine ZA (MO hs pl pu ?_)
 have hno:¬((((sIx items.size 0 lo:Nat):Int) == 0 && (1:Int) == 1 && (sIx items.size items.size hi - sIx items.size 0 lo) == items.size)=true):=by
  intro q;rw[ZQ,ZQ]at q;have q1:((sIx items.size 0 lo:Nat):Int)=0:=eq_of_beq q.1.1;have q2:sIx items.size items.size hi - sIx items.size 0 lo=items.size:=eq_of_beq q.2;exact hw ⟨by lia,by lia⟩
 show wpAny _ _ (if (((sIx items.size 0 lo:Nat):Int) == 0 && (1:Int) == 1 && (sIx items.size items.size hi - sIx items.size 0 lo) == items.size)=true then _ else _) _ _ s;rw[if_neg hno,Wp]
 first
  | exact ZA (m:=Builtin.Tuple.tupleExact _) (Zn (ZB ⟨_,rfl,ZB h⟩) htake)
  | exact ZA (m:=Builtin.Tuple.tupleExact _) (Zn (ZA (ZB (ZB ⟨_,rfl,ZB h⟩))) htake)
  | exact ZA (ZA (m:=Builtin.Tuple.tupleExact _) (Zn (ZB (ZB ⟨_,rfl,ZB h⟩)) htake))
  | exact ZA (ZA (m:=Builtin.Tuple.tupleExact _) (Zn (ZB ⟨_,rfl,ZB h⟩) htake))
end
end HT
namespace L2
open PySem PySem.Spec PyProof.Rows
abbrev TO:=St->Hp->(Option Int->Hp->Prop)->Prop
def PO(X:Cx)(e:Option Expr)(t:TO):Prop :=
 ∀(Ya:List (Addr × Obj)) (s:Shared) (σ:St) (H:Hp) (Q:Option Int->Hp->Prop),Yg X Ya σ H s->t σ H Q ->
  wpAny (model X.prog X.w) X.A (evalPart e X.env) (fun u s'=>∃o H',Yg X Ya σ H' s'/\IsPart u o/\Q o H') X.xe s
def WN:TO:=fun _ H Q=>Q none H
def Wu(t:TE):TO:=fun σ H Q=>t σ H fun x H1=>∃i,x=.int i/\Q (some i) H1
theorem Ey{ns:List Int}:∀{us:List Value},Yj (ns.map V.int) us->IntsAre us ns:=by
 induction ns with
 | nil=>intro us r;rw[List.map_nil]at r;cases r;exact .nil
 | cons n ns ih =>
  intro us r;rw[Zd]at r;cases r with
  | cons r1 r2 =>
   obtain⟨t,e⟩:=r1;subst e;exact .cons n t (ih r2)
section
variable {X:Cx}{e:Expr}{te:TE}{lo hi:Option Expr}{tl th:TO}{pos p2:Pos}
theorem SL:PO X none WN:=by
 intro Ya s σ H Q I h;rw[evalPart_none];exact ZB ⟨none,H,I,.none,h⟩
theorem Nq(h:PE X e te):PO X (some e) (Wu te):=by
 intro Ya s σ H Q I hw;rw[evalPart_some];refine Ym (h Ya s σ H _ I hw) fun u s1 ⟨x,H1,I1,r1,q1⟩=>?_
 obtain⟨i,rfl,q⟩:=q1;obtain⟨t,rfl⟩:=r1;exact⟨some i,H1,I1,.int i t,q⟩
def SlR(X:Cx)(r:V->Option Int->Option Int->Hp->VK->Prop):Prop :=
 ∀(Ya:List (Addr × Obj)) (s:Shared) (σ:St) (H:Hp) (x:V) (v vl vu:Value) (lo hi:Option Int) (sl:Addr) (Q:VK),Yg X Ya σ H s->Yi x v->s.heap.IsSliceOf sl vl vu .none->IsPart vl lo->IsPart vu hi->r x lo hi H Q ->
  ∃T id,typeLookup (.type T) "__getitem__" = pure (some (.builtin id))/\s.TypeIs v T/\wpAny (model X.prog X.w) X.A (getItem v (.ref sl)) (EP X Ya σ Q) X.xe s
def tSl(r:V->Option Int->Option Int->Hp->VK->Prop)(te:TE)(tl th:TO):TE:=fun σ H Q=>te σ H fun x H1=>tl σ H1 fun l H2=>th σ H2 fun u H3=>r x l u H3 Q
theorem Ry{r:V->Option Int->Option Int->Hp->VK->Prop}(hr:SlR X r)(he:PE X e te)(hl:PO X lo tl)(hu:PO X hi th):PE X (.Subscript e (.Slice lo hi none p2) pos) (tSl r te tl th):=by
 intro Ya s σ H Q I h;refine Subscript_ (Ym (he Ya s σ H _ I h) fun v s1 ⟨x,H1,I1,r1,q1⟩=>?_);refine wpAny_Slice (Ym (hl Ya s1 σ H1 _ I1 q1) fun vl s2 ⟨l,H2,I2,pl,q2⟩=>Ym (hu Ya s2 σ H2 _ I2 q2) fun vu s3 ⟨u,H3,I3,pu,q3⟩=>?_);rw[evalPart_none];refine ZB ?_;have I4:Yg X Ya σ H3 { s3 with heap:=s3.heap.push { cls:=.type "slice",data:=.fields #[vl,vu,.none] } }:=I3.kept (t':=s3.toks) fun b ob q=>ZF _ q
 obtain⟨T,id,hT,ht,hg⟩:=hr Ya { s3 with heap:=s3.heap.push { cls:=.type "slice",data:=.fields #[vl,vu,.none] } } σ H3 x v vl vu l u s3.heap.objs.size Q I4 r1 (Heap.IsSliceOf.new ..) pl pu q3;show wpAny (model X.prog X.w) X.A (subscriptTail e (.Slice lo hi none p2) v (.ref s3.heap.objs.size)) (EP X Ya σ Q) X.xe { s3 with heap:=s3.heap.push { cls:=.type "slice",data:=.fields #[vl,vu,.none] } };exact tail_any (ops:=[.ref s3.heap.objs.size,v]) ht hT hg (by with_unfolding_all rfl)
def DS(xs:List V)(lo hi:Option Int):List V:=(xs.drop (HT.sIx xs.length 0 lo)).take (HT.sIx xs.length xs.length hi - HT.sIx xs.length 0 lo)
theorem RO(xs:List V)(lo hi:Option Int):(DS xs lo hi).length<=xs.length:=by
 unfold DS;rw[Zf,ZBm];lia
def SR(K:W.Frag):V->Option Int->Option Int->Hp->VK->Prop:=fun x lo hi H Q=>∃a xs,x=.ref a/\Ys K H a xs /\
 ¬(HT.sIx xs.length 0 lo=0/\HT.sIx xs.length xs.length hi=xs.length)/\∀p,H p=none->Q (.ref p) (upd H p (.tup (DS xs lo hi)))
theorem V5:SlR X (SR X.K):=by
 intro Ya s σ H x v vl vu lo hi sl Q I rx hs pl pu h;obtain⟨a,xs,rfl,hx,hw,q⟩:=h;cases rx;obtain⟨Yf,r,ht,hz⟩:=I.tuple hx;have Yk:Yf.toArray.size=xs.length:=by rw[ZJ];exact r.length.symm
 refine⟨"tuple",_,PyProof.Rows.slot_tuple_getitem.lookup,ht.typeIs,?_⟩;refine HT.getItem_tuple_cut ht hs pl pu (by rw[Yk];exact hw) ?_ (by rw[Yk];exact hz);rw[Yk];refine⟨.ref s.heap.objs.size,_,I.laid (t':=s.toks) (o:=.tup (DS xs lo hi)) (fun b ob q=>ZF _ q) (ZD _) ?_,rfl,q _ (I.hok.fresh (ZD _))⟩;exact⟨Zs (RO xs lo hi) hz,_,(r.drop (HT.sIx xs.length 0 lo)).take (HT.sIx xs.length xs.length hi - HT.sIx xs.length 0 lo),IsTupN.new _ _⟩
def Lp(K:W.Frag):R2:=fun x y H Q=>∃a b xs ys,x=.ref a/\y=.ref b/\Ys K H a xs/\Ys K H b ys/\xs≠[]/\xs.length+ys.length<=sizeLine /\
 (ys=[]->Q (.ref a) H)/\(ys≠[]->∀p,H p=none->Q (.ref p) (upd H p (.tup (xs++ys))))
theorem Yj.nil_iff{xs:List V}{us:List Value}(r:Yj xs us):us=[] ↔ xs=[]:=by
 cases r with
 | nil=>simp
 | cons _ _=>simp
theorem OQ:Yx X (binaryOp .Add) (Lp X.K):=by
 intro Ya s σ H x y v u Q I rx ry h;obtain⟨a,b,xs,ys,rfl,rfl,ha,hb,hx,hz,q1,q2⟩:=h;cases rx;cases ry;obtain⟨Yf,r1,p1,_⟩:=I.tuple ha;obtain⟨its2,r2,p2,_⟩:=I.tuple hb;refine HT.cat_tup p1 p2 (fun z=>hx (r1.nil_iff.mp z)) (fun z=>⟨.ref a,H,I,rfl,q1 (r2.nil_iff.mp z)⟩) (fun z=>?_) (by rw[<- r1.length,<- r2.length];exact hz);refine⟨.ref s.heap.objs.size,_,I.laid (t':=s.toks) (o:=.tup (xs++ys)) (fun b ob q=>ZF _ q) (ZD _) ?_,rfl,q2 (fun w=>z (r2.nil_iff.mpr w)) _ (I.hok.fresh (ZD _))⟩;exact⟨by rw[ZU];exact hz,_,r1.append r2,IsTupN.new _ _⟩
end
def ixN(n:Nat)(i:Int):Option Nat:=if 0<=i then (if i < n then some i.toNat else none) else if -(n:Int)<=i then some (i+n).toNat else none
def atI{α:Type}(xs:List α)(i:Int):Option α:=(ixN xs.length i).bind fun j=>xs[j]?
theorem J5{n:Nat}{i:Int}{j:Nat}(h:ixN n i=some j):seqIndex? i n=some j/\j < n /\ -(n:Int)<=i/\i < n:=by
 unfold ixN at h
 by_cases h0:0<=i
 ·rw[if_pos h0]at h
  by_cases h1:i < n
  ·rw[if_pos h1]at h;have e:i.toNat=j:=ZS h;exact⟨by rw[seqIndex_of h0 h1,e],by lia,by lia,h1⟩
  ·rw[if_neg h1]at h;cases h
 ·rw[if_neg h0]at h
  by_cases h1 : -(n:Int)<=i
  ·rw[if_pos h1]at h;have e:(i+n).toNat=j:=ZS h;exact⟨by rw[seqIndex_neg (by lia) h1,e],by lia,h1,by lia⟩
  ·rw[if_neg h1]at h;cases h
theorem Hy{α:Type}{xs:List α}{i:Int}{v:α}(h:atI xs i=some v):∃j,seqIndex? i xs.length=some j/\xs[j]? = some v/\j < xs.length /\ -(xs.length:Int)<=i/\i < xs.length:=by
 unfold atI at h;cases e:ixN xs.length i with
 | none=>rw[e]at h;cases h
 | some j =>
  rw[e]at h;obtain⟨h1,h2,h3,h4⟩:=J5 e;exact⟨j,h1,h,h2,h3,h4⟩
def GZ(b:Expr):Prop:=∀o i,subscripted b false o i=operate [o,i] (getItem o i)
def IxR(X:Cx)(r:R2):Prop :=
 ∀(value slice:Expr) (Ya:List (Addr × Obj)) (s:Shared) (σ:St) (H:Hp) (x y:V) (v u:Value) (Q:VK),Yg X Ya σ H s->Yi x v->Yi y u->r x y H Q ->
  subscripted slice false v u=operate [v,u] (getItem v u)->wpAny (model X.prog X.w) X.A (subscriptTail value slice v u) (EP X Ya σ Q) X.xe s
def MtR(X:Cx)(id:String)(r:V->List V->Hp->VK->Prop):Prop :=
 ∀(Ya:List (Addr × Obj)) (s:Shared) (σ:St) (H:Hp) (x:V) (xs:List V) (v:Value) (us:List Value) (Q:VK),Yg X Ya σ H s->Yi x v->Yj xs us->r x xs H Q ->
  wpAny (model X.prog X.w) X.A (call (.builtin id) (v::us)) (EP X Ya σ Q) X.xe s
section
variable {X:Cx}{a b:Expr}{ta tb:TE}{pos:Pos}
theorem IxR.or{r r':R2}(h:IxR X r)(h':IxR X r'):IxR X (fun x y H Q=>r x y H Q\/r' x y H Q):=by
 intro value slice Ya s σ H x y v u Q I rx ry q hs
 rcases q with q | q
 ·exact h value slice Ya s σ H x y v u Q I rx ry q hs
 ·exact h' value slice Ya s σ H x y v u Q I rx ry q hs
theorem UF{r:R2}(hr:IxR X r)(ha:PE X a ta)(hb:PE X b tb)(hs:GZ b):PE X (.Subscript a b pos) (tOp r ta tb):=by
 intro Ya s σ H Q I h;exact Subscript_ (JD ha hb I h fun v u s2 x y H2 I2 rx ry q=>hr a b Ya s2 σ H2 x y v u Q I2 rx ry q (hs _ _))
def NR(K:W.Frag):R2:=fun x y H Q=>∃p xs i v,x=.ref p/\y=.int i/\Yv K H p xs/\atI xs i=some v/\Q v H
def LQ(K:W.Frag):R2:=fun x y H Q=>∃p xs i v,x=.ref p/\y=.int i/\Ys K H p xs/\atI xs i=some v/\Q v H
def Ml:R2:=fun x y H Q=>∃z i c,x=.str z/\y=.int i/\z.length<=sizeLine/\atI z.cps.toList i=some c/\Q (.str ⟨#[c]⟩) H
theorem ix_list:IxR X (NR X.K):=by
 intro value slice Ya s σ H x y v u Q I rx ry h hs;obtain⟨p,xs,i,z,rfl,rfl,hq,he,q⟩:=h;cases rx;obtain⟨t,rfl⟩:=ry;obtain⟨Yf,r,pl,hz⟩:=I.list hq;obtain⟨j,h1,h2,h3,h4,h5⟩:=Hy he;obtain⟨w,ew,rw'⟩:=r.get h2;have hl:=r.length;have hn:=Ee;have fin:EP X Ya σ Q w s:=⟨z,H,I,rw',q⟩
 by_cases h0:0<=i
 ·have hj:i.toNat=j:=by
   rw[seqIndex_of h0 h5]at h1;exact ZS h1
  exact item_listR pl.isList h0 (by lia) (by rw[hj];simpa using ew) fin hs
 ·have hj:(i+(Yf.toArray.size:Int)).toNat=j:=by
   rw[seqIndex_neg (by lia) h4]at h1;rw[ZJ,<- hl];exact ZS h1
  exact subscriptTail_builtinR (x:=w) pl.isList.typeIs slot_list_getitem.lookup
   (wpAny_getItem_list_neg (Q:=fun r s'=>r=w/\EP X Ya σ Q r s') pl.isList (by lia) (by rw[ZJ] <;> lia) (by lia) (by rw[hj];simpa using ew) ⟨rfl,fin⟩) hs
theorem ix_tup:IxR X (LQ X.K):=by
 intro value slice Ya s σ H x y v u Q I rx ry h hs;obtain⟨p,xs,i,z,rfl,rfl,hq,he,q⟩:=h;cases rx;obtain⟨t,rfl⟩:=ry;obtain⟨Yf,r,pl,hz⟩:=I.tuple hq;obtain⟨j,h1,h2,h3,h4,h5⟩:=Hy he;obtain⟨w,ew,rw'⟩:=r.get h2;have hl:=r.length;have hn:=Ee;have fin:EP X Ya σ Q w s:=⟨z,H,I,rw',q⟩
 exact subscriptTail_builtinR (x:=w) pl.typeIs slot_tuple_getitem.lookup
  (getItem_tuple (j:=j) (Q:=fun r s'=>r=w/\EP X Ya σ Q r s') pl (by lia) (by lia) (by rw[ZJ,<- hl];exact h1) (by simpa using ew) ⟨rfl,fin⟩) hs
theorem WM:IxR X Ml:=by
 intro value slice Ya s σ H x y v u Q I rx ry h hs;obtain⟨z,i,c,rfl,rfl,hz,he,q⟩:=h;obtain⟨t,rfl⟩:=rx;obtain⟨t',rfl⟩:=ry;obtain⟨j,h1,h2,h3,h4,h5⟩:=Hy he;have hl:z.cps.toList.length=z.length:=by simp[Str.length]
 rw[hl]at h1 h4 h5;have hn:=Ee
 exact tail_any (typeIs_str s z t) slot_str_getitem.lookup (getItem_str (c:=c) (by
  have e1:decide (i < -(2 ^ 63:Int))=false:=Zw (by lia);have e2:decide (i ≥ 2 ^ 63)=false:=Zw (by lia);rw[e1,e2,Bool.or_false]) (by rw[h1];simpa using h2) ⟨.str ⟨#[c]⟩,H,I.tok _,⟨_,rfl⟩,q⟩) hs
def rIx(K:W.Frag):R2:=fun x y H Q=>NR K x y H Q\/LQ K x y H Q\/Ml x y H Q
theorem ix_seq:IxR X (rIx X.K):=ix_list.or (ix_tup.or WM)
theorem Vs(Yf:List Value)(n j:Nat)(u:Value):Obj.mapSeq (·.setIfInBounds j u) { cls:=.type "list",data:=.seq Yf.toArray n } = { cls:=.type "list",data:=.seq (Yf.set j u).toArray n }:=by
 simp[Obj.mapSeq]
theorem Yg.lst{Ya:List (Addr × Obj)}{σ:St}{H:Hp}{s:Shared}{p:Addr}{xs:List V}(I:Yg X Ya σ H s)(h:H p=some (.lst xs)) :
 ∃(Yf:List Value) (n:Nat),Yj xs Yf/\s.heap.get? p=some { cls:=.type "list",data:=.seq Yf.toArray n } /\ xs.length<=sizeLine:=by
 obtain⟨z,Yf,n,r,e⟩:=I.hok p _ h;exact⟨Yf,n,r,e,z⟩
theorem Yg.lstUpd {Ya:List (Addr × Obj)} {σ:St} {H:Hp} {s:Shared} {p:Addr} {xs ys:List V} {Yf its':List Value} {n n':Nat} {f:Obj->Obj} (I:Yg X Ya σ H s) (h:H p=some (.lst xs))
 (ho:s.heap.get? p=some { cls:=.type "list",data:=.seq Yf.toArray n }) (hf:f { cls:=.type "list",data:=.seq Yf.toArray n } = { cls:=.type "list",data:=.seq its'.toArray n' }) (r:Yj ys its') (hz:ys.length<=sizeLine) (t:Nat) :
 Yg X Ya σ (upd H p (.lst ys)) { s with heap:=s.heap.update p f,toks:=t }:=by
 have e:(s.heap.update p f).get? p=some { cls:=.type "list",data:=.seq its'.toArray n' }:=by
  rw[ZBG f ho (by rw[hf] <;> rfl),hf]
 refine I.write (x:=p) (e:=p) (by rw[h];trivial) (.inl rfl) (fun b u hb q=>(Zu _ _ (Ne.symm hb)).trans q) ⟨_,e⟩ ?_;exact⟨hz,its',n',r,e⟩
def RG:V->V->V->Hp->(Hp->Prop)->Prop:=fun o i v H Q=>∃p xs k j,o=.ref p/\i=.int k/\H p=some (.lst xs)/\ixN xs.length k=some j/\Q (upd H p (.lst (xs.set j v)))
theorem Rp:IR X RG:=by
 intro Ya s σ H o i v ov iv u Q I ro ri rv h;obtain⟨p,xs,k,j,rfl,rfl,hp,hj,q⟩:=h;cases ro;obtain⟨t,rfl⟩:=ri;obtain⟨Yf,n,r,ho,hz⟩:=I.lst hp;obtain⟨h1,h2,h3,h4⟩:=J5 hj;have hl:=r.length;have hn:=Ee
 have I':Yg X Ya σ (upd H p (.lst (xs.set j v))) { s with heap:=s.heap.update p (Obj.mapSeq (·.setIfInBounds j u)) } :=
  I.lstUpd hp ho (Vs Yf n j u) (r.set rv j) (by rw[List.length_set];exact hz) s.toks
 by_cases h0:0<=k
 ·have hk:k.toNat=j:=by
   rw[seqIndex_of h0 h4]at h1;exact ZS h1
  exact PySem.W.ki_setAt ho h0 (by lia) (by rw[ZJ,<- hl];exact h4) (by rw[hk];exact⟨_,I',q⟩)
 ·have hk:(k+(Yf.toArray.size:Int)).toNat=j:=by
   rw[seqIndex_neg (by lia) h3]at h1;rw[ZJ,<- hl];exact ZS h1
  exact PySem.W.ki_setBack ho (by lia) (by rw[ZJ,<- hl];exact h3) (by lia) (by rw[hk];exact⟨_,I',q⟩)
theorem call_list_of:CallR X (.type "list") (fun xs H Q=>∃p ys,xs=[.ref p]/\(Yv X.K H p ys\/Ys X.K H p ys)/\∀l,H l=none->Q (.ref l) (upd H l (.lst ys))):=by
 intro Ya s σ H xs us Q I r h;obtain⟨p,ys,rfl,hq,q⟩:=h;obtain⟨u,rfl,rx⟩:=BU r;cases rx
 have fin:∀(Yf:List Value),Yj ys Yf->ys.length<=sizeLine->∀(h':Heap) (c':Nat),(∀b o',s.heap.get? b=some o'->h'.get? b=some o') ->
  h'.get? s.heap.objs.size=some { cls:=.type "list",dict:=none,data:=.seq Yf.toArray c',slots:=#[] } -> EP X Ya σ Q (.ref s.heap.objs.size) { s with heap:=h' }:=fun Yf r' hz h' c' kp e =>
  ⟨.ref s.heap.objs.size,_,I.laid (t':=s.toks) kp (ZD _) (show ObjOk X.prog X.w _ h' _ (.lst ys) from⟨hz,Yf,c',r',e⟩),rfl,q _ (I.hok.fresh (ZD _))⟩
 rcases hq with hq | hq
 ·obtain⟨Yf,r',pl,hz⟩:=I.list hq;have Yk:=r'.length;obtain⟨o,ho,hc,n,hd⟩:=pl.isList;exact call_list_seq p (.inl rfl) ho hc hd (fun h' c' kp e=>fin Yf r' hz h' c' kp e) (by simp only[ZJ] <;> lia)
 ·obtain⟨Yf,r',pl,hz⟩:=I.tuple hq;have Yk:=r'.length;obtain⟨o,ho,hc,n,hd⟩:=pl;exact call_list_seq p (.inr rfl) ho hc hd (fun h' c' kp e=>fin Yf r' hz h' c' kp e) (by simp only[ZJ] <;> lia)
theorem call_tuple_of:CallR X (.type "tuple") (fun xs H Q=>∃p ys,xs=[.ref p]/\((Yv X.K H p ys/\∀l,H l=none->Q (.ref l) (upd H l (.tup ys)))\/(Ys X.K H p ys/\Q (.ref p) H))):=by
 intro Ya s σ H xs us Q I r h;obtain⟨p,ys,rfl,h⟩:=h;obtain⟨u,rfl,rx⟩:=BU r;cases rx
 rcases h with ⟨hq,q⟩ | ⟨hq,q⟩
 ·obtain⟨Yf,r',pl,hz⟩:=I.list hq;have Yk:=r'.length;refine call_tuple_list pl.isList (fun h' kp=>?_) (by simp only[ZJ] <;> lia);have I1:Yg X Ya σ H { s with heap:=h' }:=I.kept (t':=s.toks) kp
  have I2:Yg X Ya σ (upd H h'.objs.size (.tup ys)) { s with heap:=h'.push { cls:=.type "tuple",data:=.seq Yf.toArray } } :=
   I1.laid (t':=s.toks) (fun b o e=>ZF _ e) (ZD _) (show ObjOk X.prog X.w _ _ _ (.tup ys) from⟨hz,Yf,r',IsTupN.new _ _⟩)
  exact⟨.ref h'.objs.size,_,I2,rfl,q _ (I1.hok.fresh (ZD _))⟩
 ·obtain⟨Yf,r',pl,hz⟩:=I.tuple hq;exact call_tuple_same pl ⟨.ref p,H,I,rfl,q⟩
def tyV(K:W.Frag)(T:String)(x:V)(H:Hp):Prop:=match x with
 | .str _=>T = "str"
 | .int _=>T = "int"
 | .ref p=>(T = "list" /\ ∃xs,Yv K H p xs)\/(T = "tuple" /\ ∃o,K.lookup p=some o/\o.cls=.type "tuple" /\ o.dict=none) \/
  (T = "dict" /\ ((∃Yd,H p=some (.dK Yd))\/∃Yd,H p=some (.dT Yd)))\/(T = "set" /\ ∃S n,H p=some (.set S n))
 | _=>False
theorem NF{Ya:List (Addr × Obj)}{σ:St}{H:Hp}{s:Shared}{T:String}{x:V}{v:Value}(I:Yg X Ya σ H s)(r:Yi x v)(ty:tyV X.K T x H) :
 s.TypeIs v T/\∀a,v=.ref a->∃ob,s.heap.get? a=some ob/\ob.dict=none:=by
 cases x with
 | str z =>
  obtain⟨t,rfl⟩:=r;cases (show T = "str" from ty);exact⟨typeIs_str s z t,fun _ e=>nomatch e⟩
 | int i =>
  obtain⟨t,rfl⟩:=r;cases (show T = "int" from ty);exact⟨typeIs_int s i t,fun _ e=>nomatch e⟩
 | ref p =>
  cases r
  rcases ty with ⟨rfl,xs,hq⟩ | ⟨rfl,o,hk,hc,hd⟩ | ⟨rfl,hk⟩ | ⟨rfl,S,n,hk⟩
  ·obtain⟨Yf,_,pl,_⟩:=I.list hq;refine⟨pl.isList.typeIs,fun a e=>?_⟩;cases e;obtain⟨o,n,e,c,hd,_⟩:=pl;exact⟨o,e,hd⟩
  ·refine⟨⟨o,I.kIn p o hk,hc⟩,fun a e=>?_⟩;cases e;exact⟨o,I.kIn _ o hk,hd⟩
  ·have z:∃o,s.heap.get? p=some o/\o.ExactDict:=by
    rcases hk with ⟨Yd,hk⟩ | ⟨Yd,hk⟩
    ·obtain⟨_,_,_,_,o,_,_,e,ex,_⟩:=I.hok p _ hk;exact⟨o,e,ex⟩
    ·obtain⟨_,_,_,_,o,_,_,e,ex,_⟩:=I.hok p _ hk;exact⟨o,e,ex⟩
   obtain⟨o,e,ex⟩:=z;refine⟨⟨o,e,ex.1⟩,fun a e2=>?_⟩;cases e2;exact⟨o,e,ex.2.1⟩
  ·obtain⟨o,_,_,_,e,ex,_⟩:=I.hok p _ hk;refine⟨⟨o,e,ex.1⟩,fun a e2=>?_⟩;cases e2;exact⟨o,e,ex.2.1⟩
 | _=>exact False.elim ty
def Mu(K:W.Frag)(T:String)(r:V->List V->Hp->VK->Prop)(to:TE):TE:=fun σ H Q=>to σ H fun x H1=>tyV K T x H1/\r x [] H1 Q
def tBM(K:W.Frag)(T:String)(r:V->List V->Hp->VK->Prop)(to:TE)(t:TA):TE:=fun σ H Q=>to σ H fun x H1=>tyV K T x H1/\t σ H1 fun xs H2=>r x xs H2 Q
variable {o e:Expr}{es:List Expr}{to:TE}{t:TA}{name:Str}{apos cpos:Pos}{T id:String}{r:V->List V->Hp->VK->Prop}
theorem TD (pa:PlainAttrs T) (slot:Slot T name id) (hty:typeOf (.builtin id)=pure (.type "method_descriptor")) (hm:MtR X id r) (ho:PE X o to)
 (hbase:attributeBase o name X.env (eval o X.env)=eval o X.env:=by rfl) (hline:(apos.endLine == cpos.line)=true:=by rfl):PE X (.Call (.Attribute o name apos) [] [] cpos) (Mu X.K T r to):=by
 intro Ya s σ H Q I h;refine wpAny_Call_method0_late hbase hline (Ym (ho Ya s σ H _ I h) fun v s1 ⟨x,H1,I1,r1,ty,q1⟩=>?_);obtain⟨h1,h2⟩:=NF I1 r1 ty;exact⟨T,id,pa,slot,hty,h1,h2,Calls.callWith_builtin rfl (PySem.evalArgs_none (hm Ya s1 σ H1 x [] v [] Q I1 r1 .nil q1))⟩
theorem Ej (pa:PlainAttrs T) (slot:Slot T name id) (hty:typeOf (.builtin id)=pure (.type "method_descriptor")) (hm:MtR X id r) (ho:PE X o to) (ha:PA X (e::es) t)
 (hbase:attributeBase o name X.env (eval o X.env)=eval o X.env:=by rfl)
 (hfew:((backTo cpos (starEach (e::es) X.env)).all (fun x=>!x.1) && (backToKw cpos (keywordEach [] X.env)).all (fun x=>x.1.isSome)
   && decide ((e::es).length+([]:List Keyword).length+(if ([]:List Keyword).isEmpty then 0 else 1) < 30))=true:=by rfl)
 (hline:(apos.endLine == cpos.line)=true:=by rfl) (hs:starEach (e::es) X.env=(false,eval e X.env)::starEach es X.env:=by rfl) (hplain:(backTo cpos (starEach es X.env)).any (·.1)=false:=by rfl) :
 PE X (.Call (.Attribute o name apos) (e::es) [] cpos) (tBM X.K T r to t):=by
 intro Ya s σ H Q I h;refine wpAny_Call_method_late hbase hfew hline rfl (Ym (ho Ya s σ H _ I h) fun v s1 ⟨x,H1,I1,r1,ty,q1⟩=>?_);obtain⟨h1,h2⟩:=NF I1 r1 ty;refine⟨T,id,pa,slot,hty,h1,h2,?_⟩;have hA:=ha cpos Ya s1 σ H1 _ I1 q1;rw[hs]at hA ⊢;refine Calls.callWith_builtin (by show(false || (backTo cpos (starEach es X.env)).any (·.1))=false;rw[hplain] <;> rfl) (Calls.evalArgs_plain ?_);exact Ym hA fun us s2 ⟨vs,H2,I2,r2,q2⟩=>hm Ya s2 σ H2 x vs v us Q I2 r1 r2 q2
end
def MtM(X:Cx)(id:String)(r:V->List V->Hp->VK->Prop):Prop :=
 ∀(Ya:List (Addr × Obj)) (s:Shared) (σ:St) (H:Hp) (x:V) (xs:List V) (v:Value) (us:List Value) (Q:VK),Yg X Ya σ H s->Yi x v->Yj xs us->r x xs H Q ->
  wpAny (model X.prog X.w) X.A (call (.builtin id) (v::us)) (EP X Ya σ Q) X.xe s
theorem Yj.one:∀{x:V} {us:List Value},Yj [x] us->∃u,us=[u]/\Yi x u
 | _,_,.cons r .nil=>⟨_,rfl,r⟩
theorem Yj.eraseIdx:∀{xs:List V} {us:List Value} (i:Nat),Yj xs us->Yj (xs.eraseIdx i) (us.eraseIdx i)
 | _,_,_,.nil=>.nil
 | _,_,0,.cons _ t=>t
 | _,_,i+1,.cons r t=>.cons r (Yj.eraseIdx i t)
theorem Yj.rep{xs:List V}{us:List Value}(h:Yj xs us):∀k:Nat,Yj (List.replicate k xs).flatten (List.replicate k us).flatten
 | 0=>.nil
 | k+1=>by
  rw[ZBu,ZBu,List.flatten_cons,List.flatten_cons];exact Yj.append h (Yj.rep h k)
theorem Jw{α:Type}:∀(l:List α) (i:Nat),(l.eraseIdx i).length<=l.length
 | [],_=>ZD _
 | _::_,0=>ZBV _
 | _::r,i+1=>Nat.succ_le_succ (Jw r i)
theorem NK(Yf:List Value):∀(k:Nat) (Yo:List Value),
 List.foldl (fun x1 x2=>x1++x2) Yo.toArray (List.replicate k Yf.toArray)=(Yo++(List.replicate k Yf).flatten).toArray
 | 0,Yo=>by simp
 | k+1,Yo=>by
  have e:Yo.toArray++Yf.toArray=(Yo++Yf).toArray:=by simp
  have e2:(Yo++Yf)++(List.replicate k Yf).flatten=Yo++(List.replicate (k+1) Yf).flatten:=by
   rw[ZBu,List.flatten_cons,List.append_assoc]
  rw[<- e2,<- NK Yf k (Yo++Yf),<- e,ZBu,List.foldl_cons]
section
variable {X:Cx}{Ya:List (Addr × Obj)}{σ:St}{H:Hp}{s:Shared}{l b:Addr}{xs ys zs:List V}
theorem Yg.lset {Yf its':List Value} {n:Nat} {f:Array Value->Array Value} {t':Nat} (I:Yg X Ya σ H s) (hH:H l=some (.lst xs))
 (e:s.heap.get? l=some { cls:=.type "list",data:=.seq Yf.toArray n }) (hf:f Yf.toArray=its'.toArray) (hv:Yj ys its') (hz:ys.length<=sizeLine) :
 Yg X Ya σ (upd H l (.lst ys)) { s with heap:=s.heap.update l (Obj.mapSeq f),toks:=t' }:=by
 have q:=PySem.IsL.update e f;rw[hf]at q;refine I.write (x:=l) (e:=l) (by rw[hH];exact trivial) (.inl rfl) (fun b' u hb hu=>(Zu s.heap (Obj.mapSeq f) (Ne.symm hb)).trans hu) ⟨_,q⟩ ?_;exact⟨hz,its',_,hv,q⟩
theorem Yg.lnew{Yf:List Value}{t':Nat}(I:Yg X Ya σ H s)(hv:Yj ys Yf)(hz:ys.length<=sizeLine) :
 Yg X Ya σ (upd H s.heap.objs.size (.lst ys)) { s with heap:=s.heap.push { cls:=.type "list",data:=.seq Yf.toArray },toks:=t' } :=
 I.laid (fun _ _ q=>ZF _ q) (ZD _) ⟨hz,Yf,0,hv,ZN _ rfl⟩
theorem Yg.fresh(I:Yg X Ya σ H s):H s.heap.objs.size=none:=I.hok.fresh (ZD _)
theorem Yg.lstM(I:Yg X Ya σ H s)(hH:H l=some (.lst xs)):xs.length<=sizeLine/\∃(Yf:List Value) (n:Nat),Yj xs Yf/\xs.length=Yf.length/\s.heap.get? l=some { cls:=.type "list",data:=.seq Yf.toArray n }:=by
 obtain⟨z,Yf,n,r,e⟩:=I.hok l _ hH;exact⟨z,Yf,n,r,r.length,e⟩
theorem Uh{n:Nat}(h:n<=sizeLine):Builtin.List.listTooLong n=false:=by
 unfold Builtin.List.listTooLong;exact Zw (by lia)
end
section
variable {X:Cx}
def OL:V->List V->Hp->VK->Prop:=fun x vs H Q=>∃l xs y,x=.ref l/\vs=[y]/\H l=some (.lst xs)/\xs.length < sizeLine/\Q .non (upd H l (.lst (xs++[y])))
theorem RF:MtM X "list.append" OL:=by
 intro Ya s σ H x vs v us Q I rx rv h;obtain⟨l,xs,y,rfl,rfl,hH,hz,q⟩:=h;cases rx;obtain⟨u,rfl,ru⟩:=rv.one;obtain⟨z,Yf,n,r,hl,e⟩:=I.lstM hH;refine call_meets F.slot_list_append ⟨_,e,rfl⟩ F.entry_list_append (F.args_list_append_2 _ _) (PySem.list_append l Yf.toArray n u (by rw[ZJ];lia)) ⟨e,?_⟩;refine⟨.non,_,I.lset (its':=Yf++[u]) hH e (by simp) (r.append (.cons ru .nil)) ?_,rfl,q⟩;rw[ZU,List.length_singleton];lia
def Rv:V->List V->Hp->VK->Prop:=fun x vs H Q=>∃l xs i k y,x=.ref l/\vs=[.int i]/\H l=some (.lst xs) /\ -(2 ^ 63)<=i/\i < 2 ^ 63/\seqIndex? i xs.length=some k/\xs[k]? = some y/\Q y (upd H l (.lst (xs.eraseIdx k)))
theorem Nt:MtM X "list.pop" Rv:=by
 intro Ya s σ H x vs v us Q I rx rv h;obtain⟨l,xs,i,k,y,rfl,rfl,hH,h1,h2,hk,hy,q⟩:=h;cases rx;obtain⟨u,rfl,ru⟩:=rv.one;obtain⟨t,rfl⟩:=ru;obtain⟨z,Yf,n,r,hl,e⟩:=I.lstM hH;obtain⟨w,hw,rw'⟩:=r.get hy
 refine call_meets F.slot_list_pop ⟨_,e,rfl⟩ F.entry_list_pop (F.args_list_pop_2 _ _)
  (MeetsSeq.list_pop_at l Yf.toArray n i t k w (fitsIndex_both h1 h2) (by rw[ZJ,<- hl];exact hk) (by rw[<- ZBe];exact hw) (by rw[ZJ];lia)) ⟨e,?_⟩
 refine⟨y,_,I.lset (its':=Yf.eraseIdx k) hH e ?_ (r.eraseIdx k) ?_,rw',q⟩
 ·show Yf.toArray.eraseIdxIfInBounds k=(Yf.eraseIdx k).toArray;rw[List.eraseIdxIfInBounds_toArray]
 ·have:=Jw xs k
  lia
def MH:R2:=fun x y H Q=>∃l b xs zs,x=.ref l/\y=.ref b/\H l=some (.lst xs)/\H b=some (.lst zs)/\xs.length+zs.length<=sizeLine/\∀p,H p=none->Q (.ref p) (upd H p (.lst (xs++zs)))
theorem V3:Yx X (binaryOp .Add) MH:=by
 intro Ya s σ H x y v u Q I rx ry h;obtain⟨l,b,xs,zs,rfl,rfl,hH,hB,hz,q⟩:=h;cases rx;cases ry;obtain⟨z,Yf,n,r,hl,e⟩:=I.lstM hH;obtain⟨z2,its2,n2,r2,hl2,e2⟩:=I.lstM hB;refine PySem.P.add_list e e2 ?_ (by rw[ZJ,ZJ];lia);have ea:Yf.toArray++its2.toArray=(Yf++its2).toArray:=by simp
 rw[ea];exact⟨.ref _,_,I.lnew (t':=s.toks) (r.append r2) (by rw[ZU];lia),rfl,q _ I.fresh⟩
def MA:R2:=fun x y H Q=>∃l k xs,x=.ref l/\y=.int k/\H l=some (.lst xs) /\ -(2 ^ 63)<=k/\k < 2 ^ 63/\xs.length * k.toNat<=sizeLine /\
 ∀p,H p=none->Q (.ref p) (upd H p (.lst (List.replicate k.toNat xs).flatten))
theorem OS{α:Type}(xs:List α)(k:Nat):(List.replicate k xs).flatten.length=k * xs.length:=by
 induction k with
 | zero=>simp
 | succ k ih=>rw[ZBu,List.flatten_cons,ZU,ih,Nat.succ_mul,Nat.add_comm]
theorem Qf:Yx X (binaryOp .Mult) MA:=by
 intro Ya s σ H x y v u Q I rx ry h;obtain⟨l,k,xs,rfl,rfl,hH,h1,h2,hz,q⟩:=h;cases rx;obtain⟨t,rfl⟩:=ry;obtain⟨z,Yf,n,r,hl,e⟩:=I.lstM hH;have Yk:Yf.toArray.size * k.toNat<=sizeLine:=by rw[ZJ,<- hl];exact hz
 have hcap:¬Yf.toArray.size * k.toNat > (2 ^ 63 - 1) / 8:=by
  have:(sizeLine:Nat)<=(2 ^ 63 - 1) / 8:=by decide
  lia
 have hfit:¬(!Builtin.List.listFitsIndex k)=true:=by
  rw[fitsIndex_both h1 h2];exact Z7
 have hlong:¬Builtin.List.listTooLong (Yf.toArray.size * k.toNat)=true:=by
  rw[Uh Yk];exact Z7
 have hnew:List.foldl (fun x1 x2=>x1++x2) #[] (List.replicate (if Yf.toArray.isEmpty=true then 0 else k.toNat) Yf.toArray)=(List.replicate k.toNat Yf).flatten.toArray:=by
  have f0:∀m:Nat,List.foldl (fun x1 x2=>x1++x2) #[] (List.replicate m Yf.toArray)=(List.replicate m Yf).flatten.toArray:=fun m=>by
   have:=NK Yf m []
   rw[List.nil_append]at this;exact this
  rw[f0];cases Yf with
  | nil=>simp
  | cons a r'=>rw[if_neg (by simp)]
 refine wpAny_binaryOp_repeat_ref (T:="list") (U:="int") (by decide) ⟨_,e,rfl⟩ (fun s'=>typeIs_int s' k t) noFill_list_mul F.fills_int_mul F.slot_int_rmul repeat_list F.slot_int_index.lookup
  (call_meets F.slot_int_rmul (typeIs_int s k t) F.entry_int_rmul (F.args_int_rmul_2 _ _) (int___rmul___int_list k t l Yf.toArray n)
    ⟨e,rfl,⟨_,e,rfl⟩,call_meets F.slot_list_mul ⟨_,e,rfl⟩ F.entry_list_mul (F.args_list_mul_2 _ _) (AutoListH.list___mul___list_int_3 l Yf.toArray n k t hfit hcap hlong) ⟨e,?_⟩⟩)
 rw[hnew];exact⟨.ref _,_,I.lnew (t':=s.toks) (r.rep k.toNat) (by rw[OS,Nat.mul_comm];exact hz),rfl,q _ I.fresh⟩
end
end L2
namespace Att
open PySem PySem.W PySem.Calls PyProof.Rows
theorem U8{P:Params}{h:Heap}:∀(ns:List Int) (vs:List Value),WellAll P h vs (ns.map WData.int)->IntsAre vs ns:=by
 intro ns
 induction ns with
 | nil =>
  intro vs w;rw[List.map_nil]at w;cases w;exact .nil
 | cons n ns ih =>
  intro vs w;rw[Zd]at w;cases w with
  | cons a b =>
   cases a;exact .cons _ _ (ih _ b)
theorem Uv {l:OpenLaw} {n:Nat} (hn:l.most=some n) {P:Params} {h:Heap} {args:List WData} {vals:List Value}
 (hpre:l.row.toRowW.claim.pre args=true) (hwl:WellAll P h vals args) :
 ∃a vs ns,vals=[Value.ref a]/\args=[WData.list (ns.map WData.int)]/\h.get? a=some { cls:=.type "list",data:=.seq vs.toArray } /\ IntsAre vs ns/\ns.length<=n:=by
 have hsh:WShape.hasAll [] args [.list .int]=true:=(pre_splitW hpre).1;have hc:l.pre.holds [] { args:=args } = true:=(pre_splitW hpre).2;obtain⟨d,r,rfl,h1,h2⟩:=hasAllW_cons hsh;obtain rfl:=hasAllW_nil h2;obtain⟨xs,rfl,h3⟩:=hasW_list h1;obtain⟨ns,rfl⟩:=items_int h3
 have Yk:ns.length<=n:=by
  unfold OpenLaw.pre at hc
  have h4:(WTm.not (.lt (.lit (.int (n:Int))) (.len (.arg 0)))).holds [] { args:=[.list (ns.map .int)] } = true:=by
   have h4:=(holds_andW hc).1;rw[hn]at h4;exact h4
  have h5:=condW_of h4 (w_not (w_lt w_lit (w_len_list (w_arg rfl))));rw[ZC]at h5;refine Nat.le_of_not_lt fun q=>?_
  have q':(n:Int) < ((ns.length:Nat):Int):=by lia
  first
   | (rw[ZL q']at h5;exact absurd h5 (by decide))
   | (simp at h5;lia)
 cases hwl with
 | cons w1 w2 =>
  cases w2;cases w1 with
  | list ho hall=>exact⟨_,_,ns,rfl,rfl,ho,U8 ns _ hall,Yk⟩
theorem O5(l:OpenLaw)(args:List WData):l.row.toRowW.claim.post args (.bool true) args=true :=
 postW_of (r:=l.row.toRowW) (X:=(true == true))
  (show WShape.has [] (.bool true) .bool=true by first | rfl | decide | simp[WShape.has,WShape.arms,WShape.armsAll])
  (show(WTm.eq .res (.lit (.bool true))).value [] { args:=args,res:=some (.bool true),after:=args } = some (.bool (true == true)) from w_eq_bool (w_res rfl) w_lit) rfl
theorem attach_call {l:OpenLaw} {n:Nat} {q:Program} {loose:List Str} {XP:(Str->Option Value)->Heap->Prop} {YP:World->Heap->Prop} {d:DefRec}
 (hn:l.most=some n) (hdf:d.params.defaults=[])
 (call:∀(w:World) (s₀ s₁:Shared) (mg mb:Str->Option Value) (fa:Addr) (o:Obj) (pm cd doc:Value) (a:Addr) (vs:List Value) (ns:List Int),
   Ground q loose [] XP w s₀ mg mb s₁.heap->YP w s₁.heap ->
   s₁.heap.get? fa=some o->o.data=.func (docDef d.name d.params d.body d.scope pm cd doc)->s₁.heap.CodeRec cd d.name->mg d.name=some (.ref fa) ->
   s₁.heap.get? a=some { cls:=.type "list",data:=.seq vs.toArray } -> IntsAre vs ns->ns.length<=n->s₁.gens = #[] ->
   codeAny (model l.prog w) callerA (.call (.ref fa) ⟨[.ref a],[]⟩) (fun r s'=>r=.ok (.ret (.bool true))/\OldK s₁.heap s'.heap/\s'.os=s₁.os/\AllBare s'.gens) s₁) :
 WalkO q loose XP YP l.row.toRowW d [] (fun f vs=>PySem.call f vs):=by
 intro w s₀ s₁ mg mb G Y fa o pm cd doc dV kV ho hd hcd hD hmg hg args vals as hpre hlay hrd hwl hlo;obtain rfl:dV=.none:=Dflts.none hD hdf;obtain rfl:kV=.none:=Dflts.noKw hD;obtain⟨a,vs,ns,rfl,rfl,hobj,hints,Yk⟩:=Uv hn hpre hwl;refine enter_call (ZBF (call w s₀ s₁ mg mb fa o pm cd doc a vs ns G Y ho (fd_plain hd) hcd hmg hobj hints Yk hg) fun r s' hq=>?_);obtain⟨rfl,h2,h3,h4⟩:=hq;exact⟨.inl ⟨.bool true,.bool true,[],rfl,fun _=>rfl,.bool true,O5 l _,fun _=>⟨List.Pairwise.nil,fun _ hm=>(nomatch hm)⟩⟩,h2,h3,h4⟩
section
variable {prog:Program}{w:World}{A:Around}{E:Value->Shared->Prop}{s:Shared}{K:Frag}
def Fz(h:Heap):Heap:={ h with objs:=#[] }
theorem Kt(h:Heap)(b:Addr):(Fz h).get? b=none:=by
 cases e:(Fz h).get? b with
 | none=>rfl
 | some o=>exact absurd (ZG e) (ZBQ _)
theorem Vh{h:Heap}{L:Addr}{m:Str->Option Value}(n:h.Ns L m):Fr (Fz h) L h m :=
 ⟨n,fun b o e=>(by rw[Kt]at e;cases e),ZP _⟩
end
end Att
namespace L2
open PySem PySem.Spec PyProof.Rows
variable {X:Cx}{x:Str}{i n own:Nat}{H H':Hp}{a b l p:Addr}{pos:Pos}{K:W.Frag}{σ σc:St}{v y:V}{r:R2}{ds:List Dv}{xs:List V}{A:Around}{Q:Value->Shared->Prop}{o:HO}{ns:List Int}{te:TE}{es:List Expr}{s:Shared}{u:Value}{P:Program}{w:World}{Yd:List (List Key × V)}
theorem Ni:∀{vs:List Value} {ns:List Int},IntsAre vs ns->Yj (ns.map V.int) vs
 | _,_,.nil=>.nil
 | _,_,.cons n t h=>.cons ⟨t,rfl⟩ (Ni h)
def BK(s:Stmt)(j:Nat):Stmt:=match s with
 | .ClassDef _ _ _ body _ _ _ _ _ _ _=>body.getD j (.Pass ⟨0,0,0,0⟩)
 | _=>.Pass ⟨0,0,0,0⟩
def Ba(s:Stmt):Arguments:=match s with
 | .FunctionDef _ a _ _ _ _ _ _ _ _=>a
 | _=>{ posonlyargs:=[],args:=[],vararg:=none,kwonlyargs:=[],kw_defaults:=[],kwarg:=none,defaults:=[] }
def BD(s:Stmt):List Stmt:=match s with
 | .FunctionDef _ _ b _ _ _ _ _ _ _=>b
 | _=>[]
def AJ(s:Stmt):Scope:=match s with
 | .FunctionDef _ _ _ _ _ _ sc _ _ _=>sc
 | _=>{ kind:=.function,names:=[],isGenerator:=false,isCoroutine:=false }
abbrev CX0:CXT:=fun _ _ _ _ _ _=>False
abbrev E0:XK:=fun _ _ _=>False
theorem AH:Ck CX0 X E0:=fun _ _ _ _ _ _ _ h=>h.elim
structure Fun(K:W.Frag)(x qual:Str)(st:Stmt)(f:Addr)(fd:FuncData):Prop where
 ex:∃(oc:Value) (od:Option Addr) (kV doc pm:Value) (an:Option Addr) (Yy ct:Value) (osl:Array (Option Value)),
  fd=PySem.W.fnOf x qual (Ba st) (BD st) (AJ st) .none kV doc pm an Yy ct/\K.lookup f=some ⟨oc,od,.func fd,osl⟩/\PySem.W.codeIn K Yy qual=true
 kp:PySem.W.keepIn K (.ref f)=true
section
variable {P:Program}{w:World}{K:W.Frag}{mg:Str->Option Value}{base:Heap}
theorem Fun.ok {qual:Str} {st:Stmt} {f:Addr} {fd:FuncData} {N ps:List Str} {k:Nat} {sp:Sp} (F:Fun K x qual st f fd) (S:FnScope N ps (AJ st)) (len:∀vs H Q E,sp vs H Q E->vs.length=ps.length)
 (hbody:∀(Yy:Value) (A:Around) (outer:List Env) (s:Shared) (H:Hp) (vs:List V) (Q:VK) (E:XK),Room k (A.deeper (envOfC qual (AJ st) s.heap.objs.size f Yy))->sp vs H Q E ->
   ∃t,PSs (Bz CX0 P w K mg base N qual (AJ st) f Yy A outer s H E).nox (BD st) t/\t { nx:=fun _ H'=>Q .non H',rt:=Q } (CS N vs) H):FnOk P w K mg base CX0 (k+1) f fd ps sp:=by
 obtain⟨oc,od,kV,doc,pm,an,Yy,ct,osl,rfl,lk,hcd⟩:=F.ex;refine Hc lk hcd S len fun A outer s H vs Q E hr hsp=>?_
 obtain⟨t,h,q⟩:=hbody Yy A outer s H vs Q E hr hsp;exact⟨t,h.nox,q⟩
theorem Fun.binds {qual:Str} {st:Stmt} {f:Addr} {fd:FuncData} {ps:List Str} (F:Fun K x qual st f fd)
 (h:∀(kV doc pm:Value) (an:Option Addr) (Yy ct:Value) (us:List Value),us.length=ps.length->bindArgs (PySem.W.fnOf x qual (Ba st) (BD st) (AJ st) .none kV doc pm an Yy ct) ⟨us,[]⟩=pure (ps.zip us)):Binds K fd ps []:=by
 obtain⟨oc,od,kV,doc,pm,an,Yy,ct,osl,rfl,lk,hcd⟩:=F.ex;exact .all (h kV doc pm an Yy ct)
theorem Ct {qual:Str} {st:Stmt} {f:Addr} {oc:Value} {od an:Option Addr} {osl:Array (Option Value)} {kV doc pm Yy ct:Value} (l:K.lookup f=some ⟨oc,od,.func (PySem.W.fnOf x qual (Ba st) (BD st) (AJ st) .none kV doc pm an Yy ct),osl⟩)
 (c:PySem.W.codeIn K Yy qual=true) (k:PySem.W.keepIn K (.ref f)=true):Fun K x qual st f (PySem.W.fnOf x qual (Ba st) (BD st) (AJ st) .none kV doc pm an Yy ct):=⟨⟨oc,od,kV,doc,pm,an,Yy,ct,osl,rfl,l,c⟩,k⟩
end
theorem Al(h:n<=1000):n < sizeLine:=ZB2 h (by decide)
theorem Vl{A B:Prop}(h:B):if false=true then A else B:=by
 rw[if_neg Z7];exact h
theorem AY{c A B:Prop}[Decidable c](h1:c->A)(h2:¬c->B):if c then A else B:=by
 by_cases h:c
 ·rw[if_pos h];exact h1 h
 ·rw[if_neg h];exact h2 h
def Yc(H H':Hp):Prop:=∀b o,H b=some o->H' b=some o
theorem Yc.refl(H:Hp):Yc H H:=fun _ _ h=>h
theorem Yc.trans{H1 H2:Hp}(a:Yc H H1)(b:Yc H1 H2):Yc H H2:=fun c o h=>b c o (a c o h)
theorem Yc.free(e:Yc H H')(h:H' l=Option.none):H l=Option.none:=by
 cases q:H l with
 | none=>rfl
 | some o =>
  rw[e l o q]at h;cases h
theorem D2:∀(names:List (Str × NameKind)) (n:Nat) (Yo:List (Str × Addr)),cellsFrom n names Yo=cellsFrom n names []++Yo
 | [],_,_=>rfl
 | (name,kind)::r,n,Yo=>by
  unfold cellsFrom;split
  ·rw[D2 r (n+1) ((name,n)::Yo),D2 r (n+1) [(name,n)],List.append_assoc];rfl
  ·exact D2 r n Yo
theorem cellsFrom_kind:∀(names:List (Str × NameKind)) (n:Nat) (Yo:List (Str × Addr)) (x:Str) (c:Addr),(x,c)∈cellsFrom n names Yo->(x,c)∈Yo\/(x,NameKind.cell)∈names
 | [],_,_,_,_,h=>.inl h
 | (name,kind)::r,n,Yo,x,c,h=>by
  unfold cellsFrom at h;split at h
  ·rename_i hk
   rcases cellsFrom_kind r _ _ x c h with h | h
   ·rcases ZH.mp h with e | h
    ·cases e
     have:kind=.cell:=by simpa using hk
     subst this;exact .inr Zb
    ·exact .inl h
   ·exact .inr (ZW _ h)
  ·rcases cellsFrom_kind r _ _ x c h with h | h
   ·exact .inl h
   ·exact .inr (ZW _ h)
theorem GO{α:Type}:∀(l r:List (Str × α)),(l++r).lookup x=(match l.lookup x with | some c=>some c | none=>r.lookup x)
 | [],r=>rfl
 | (k,v)::l,r=>by
  show List.lookup x ((k,v)::(l++r))=_;rw[Zy,Zy];cases x == k with
  | true=>rfl
  | false=>exact GO l r
theorem NJ{α:Type}:∀{l:List (Str × α)},(∀c,(x,c)∉l)->l.lookup x=none
 | [],_=>rfl
 | (k,v)::l,h=>by
  rw[Zy];cases hb:x == k with
  | true =>
   have:x=k:=by simpa using hb
   subst this;exact absurd Zb (h v)
  | false=>exact NJ fun c hc=>h c (ZW _ hc)
def BI(cells:List (Str × Addr)):List (Str × NameKind)->List (Str × Addr)->List (Str × Addr)
 | [],Yo=>Yo
 | (n,k)::r,Yo=>if k == .free then BI cells r ((n,(cells.lookup n).getD 0)::Yo) else BI cells r Yo
theorem Kn{scope:Scope}{env:Env}(h:∀y∈scope.names,y.2=.free->∃c,env.cells.lookup y.1=some c):closureFor scope env=pure (BI env.cells scope.names []):=by
 have all:∀(names:List (Str × NameKind)) (Yo:List (Str × Addr)),(∀y∈names,y.2=.free->∃c,env.cells.lookup y.1=some c) ->
  (forIn names Yo fun(x:Str × NameKind) cs=>(if (x.2 == NameKind.free)=true then (do let a <- cellOf env x.1;pure (ForInStep.yield ((x.1,a)::cs))) else pure (ForInStep.yield cs):Sem (ForInStep (List (Str × Addr)))))=(pure (BI env.cells names Yo):Sem _):=by
  intro names
  induction names with
  | nil=>intro Yo _;rfl
  | cons y r ih =>
   intro Yo hy;obtain⟨n,k⟩:=y;rw[List.forIn_cons];have hr:∀y∈r,y.2=.free->∃c,env.cells.lookup y.1=some c:=fun y hm=>hy y (ZW _ hm)
   unfold BI
   by_cases hk:(k == NameKind.free)=true
   ·obtain⟨c,e⟩:=hy (n,k) Zb (by simpa using hk);rw[if_pos hk,if_pos hk];have e2:cellOf env n=pure c:=by unfold cellOf;rw[show env.cells.lookup n=some c from e]
    rw[e2];rw[show env.cells.lookup n=some c from e];exact ih _ hr
   ·rw[if_neg hk,if_neg hk];exact ih _ hr
 have q:=all scope.names [] h;unfold closureFor;refine Eq.trans ?_ (congrArg (fun t=>t >>= pure) q |>.trans (by rfl))
 congr 1
theorem clOf_mem{cells:List (Str × Addr)}:∀(names:List (Str × NameKind)) (Yo:List (Str × Addr)) (x:Str) (c:Addr),(∀y∈names,y.2=.free->∃c,cells.lookup y.1=some c)->(x,c)∈BI cells names Yo->(x,c)∈Yo\/((x,NameKind.free)∈names/\cells.lookup x=some c)
 | [],_,_,_,_,h=>.inl h
 | (n,k)::r,Yo,x,c,hy,h=>by
  have hr:∀y∈r,y.2=.free->∃c,cells.lookup y.1=some c:=fun y hm=>hy y (ZW _ hm)
  unfold BI at h;split at h
  ·rename_i hk;have hk':k=.free:=by simpa using hk
   subst hk';obtain⟨d,e⟩:=hy (n,.free) Zb rfl
   rcases clOf_mem r _ x c hr h with h | ⟨h,h'⟩
   ·rcases ZH.mp h with e' | h
    ·obtain⟨e1,e2⟩:=Prod.mk.inj e';rw[show cells.lookup n=some d from e]at e2;subst e1;exact .inr ⟨Zb,by rw[e2];exact e⟩
    ·exact .inl h
   ·exact .inr ⟨ZW _ h,h'⟩
  ·rcases clOf_mem r _ x c hr h with h | ⟨h,h'⟩
   ·exact .inl h
   ·exact .inr ⟨ZW _ h,h'⟩
theorem Jk{cells:List (Str × Addr)}:∀(names:List (Str × NameKind)) (Yo:List (Str × Addr)),(∃c,(x,c)∈Yo)->∃c,(x,c)∈BI cells names Yo
 | [],_,h=>h
 | (n,k)::r,Yo,⟨c,h⟩=>by
  unfold BI;split
  ·exact Jk r _ ⟨c,ZW _ h⟩
  ·exact Jk r _ ⟨c,h⟩
theorem JH{cells:List (Str × Addr)}:∀(names:List (Str × NameKind)) (Yo:List (Str × Addr)),(x,NameKind.free)∈names->∃c,(x,c)∈BI cells names Yo
 | (n,k)::r,Yo,h=>by
  unfold BI
  rcases ZH.mp h with e | h
  ·cases e;rw[if_pos (by decide)];exact Jk r _ ⟨_,Zb⟩
  ·split
   ·exact JH r _ h
   ·exact JH r _ h
theorem KQ{α:Type}:∀{l:List (Str × α)},(∃c,(x,c)∈l)->∃c,l.lookup x=some c
 | (k,v)::l,⟨c,h⟩=>by
  rw[Zy];cases hb:x == k with
  | true=>exact⟨v,rfl⟩
  | false =>
   rcases ZH.mp h with e | h
   ·cases e;simp at hb
   ·exact KQ ⟨c,h⟩
def Ef(scope sc:Scope):Scope :=
 { scope with names:=scope.names.map fun(n,k)=>if (k == .free && sc.kind == .function && sc.names.lookup n == some .cell) then (n,.cell) else (n,k) }
structure CompScope(scope sc:Scope):Prop where
 kind:scope.kind=.function
 nd:(scope.names.map (·.1)).Nodup
 fr:∀y∈scope.names,y.2=.free->sc.names.lookup y.1=some .cell\/sc.names.lookup y.1=some .free
theorem DK{α:Type}:∀{l:List (Str × α)} {x:Str} {c:α},(l.map (·.1)).Nodup->(x,c)∈l->l.lookup x=some c
 | (k,v)::l,x,c,nd,h=>by
  obtain⟨n1,n2⟩:=ZBd.mp (show(k::l.map (·.1)).Nodup from nd);rw[Zy]
  rcases ZH.mp h with e | h
  ·cases e;simp
  ·have Yw:¬x=k:=fun e=>n1 (by rw[<- e];exact ZK.mpr ⟨(x,c),h,rfl⟩)
   have:(x == k)=false:=by simpa using Yw
   rw[this];exact DK n2 h
theorem NP{scope sc:Scope}:(Ef scope sc).names.lookup x=(scope.names.lookup x).map fun k=>if (k == .free && sc.kind == .function && sc.names.lookup x == some .cell) then NameKind.cell else k:=by
 show(scope.names.map _).lookup x=_
 generalize scope.names=names
 induction names with
 | nil=>rfl
 | cons y r ih =>
  obtain⟨n,k⟩:=y;rw[Zd]
  by_cases hc:(k == .free && sc.kind == .function && sc.names.lookup n == some .cell)=true
  ·show List.lookup x ((if (k == .free && sc.kind == .function && sc.names.lookup n == some .cell)=true then (n,NameKind.cell) else (n,k))::_)=_;rw[if_pos hc,Zy,Zy];cases hb:x == n with
   | true =>
    have hx:x=n:=by simpa using hb
    subst hx;show some NameKind.cell=some (if _ then _ else _);rw[if_pos hc]
   | false=>exact ih
  ·show List.lookup x ((if (k == .free && sc.kind == .function && sc.names.lookup n == some .cell)=true then (n,NameKind.cell) else (n,k))::_)=_;rw[if_neg hc,Zy,Zy];cases hb:x == n with
   | true =>
    have hx:x=n:=by simpa using hb
    subst hx;show some k=some (if _ then _ else _);rw[if_neg hc]
   | false=>exact ih
structure CArgs where
 Ya:List (Addr × Obj)
 cells:List (Str × Addr)
 s:Shared
 H:Hp
 fp:List Addr
 C:Addr
def Cx.comp(X:Cx)(scope:Scope)(N':List Str)(c:CArgs):Cx where
 prog:=X.prog
 w:=X.w
 K:=X.K
 mg:=X.mg
 base:=X.base
 A:=X.A
 N:=N'
 s₀:=c.s
 H₀:=c.H
 env:=compEnvC scope c.cells c.C X.env
 outer:=X.stack
 stack:=X.stack
 ex:=c.fp
 fn:=fun x=>scope.names.lookup x == some .cell
 calm:=X.calm
 pn:=X.pn++c.Ya
 xe:=fun _ _=>False
def cSt(own:Nat)(ix:List Nat)(σ:St):St:=List.replicate own none++ix.map fun i=>(σ[i]?).join
section
variable {X:Cx}{Ya:List (Addr × Obj)}{σ:St}{H:Hp}{s s4:Shared}{fp:List Addr}{scope:Scope}{N':List Str}{own:Nat}{ix:List Nat}
theorem Sg (I:Yg X Ya σ H s) (f2:∀b∈fp,A6 X Ya H b) (hob:∀b∈fp,∃o,s.heap.get? b=some o) (S:CompScope scope X.env.scope)
 (Yk:N'.length=own+ix.length) (hN:(N'.drop own).map some=ix.map (X.N[·]?)) (hfr:∀x∈N'.drop own,scope.names.lookup x=some .free)
 {C:Addr} (hC:s.heap.objs.size < C) (k4:∀b o,s.heap.get? b=some o->s4.heap.get? b=some o) (os4:s4.os=s.os) (g4:s4.gens=s.gens)
 (n4:∃m,s4.heap.Ns C m) (own4:∀x c,(x,c)∈cellsFrom (C+1) scope.names []->s4.heap.IsCell c none/\C+1<=c)
 (apart:(cellsFrom (C+1) scope.names []).Pairwise fun x y=>x.2≠y.2) :
 Yg (X.comp scope N' ⟨Ya,cellsFrom (C+1) scope.names (BI X.env.cells scope.names []),s,H,fp,C⟩) [] (cSt own ix σ) H s4:=by
 have hfree:∀y∈scope.names,y.2=.free->∃c,X.env.cells.lookup y.1=some c:=fun y hy h=>I.ok.has y.1 (S.fr y hy h)
 -- a cell of the block
 have cases:∀x c,(cellsFrom (C+1) scope.names (BI X.env.cells scope.names [])).lookup x=some c ->
  ((x,c)∈cellsFrom (C+1) scope.names []/\scope.names.lookup x=some .cell)\/((x,NameKind.free)∈scope.names/\X.env.cells.lookup x=some c):=fun x c h=>by
  rw[D2,GO]at h;cases e:(cellsFrom (C+1) scope.names []).lookup x with
  | some d =>
   rw[e]at h;cases h;have m:=mem_of_lookup e
   rcases cellsFrom_kind _ _ _ _ _ m with z | z
   ·exact absurd z (by simp)
   ·exact .inl ⟨m,DK S.nd z⟩
  | none =>
   rw[e]at h
   rcases clOf_mem _ _ _ _ hfree (mem_of_lookup h) with z | z
   ·exact absurd z (by simp)
   ·exact .inr z
 have oldlt:∀x c,X.env.cells.lookup x=some c->c < s.heap.objs.size:=fun x c e=>let ⟨v,q⟩:=I.cell x c e;q.lt
 have kin:∀x,(Ef scope X.env.scope).names.lookup x=some .cell\/(Ef scope X.env.scope).names.lookup x=some .free->(scope.names.lookup x=some .cell\/scope.names.lookup x=some .free):=fun x h=>by
  rw[NP]at h;cases e:scope.names.lookup x with
  | none=>rw[e]at h;simp at h
  | some k =>
   rw[e]at h;cases k with
   | cell=>exact .inl rfl
   | free=>exact .inr rfl
   | _=>exact absurd h (by simp)
 have hCn:∀b o,s.heap.get? b=some o->b≠C:=fun b o e z=>by have:=ZG e;rw[z]at this;exact Za _ (ZBR this hC)
 have lk:∀x,(x,NameKind.free)∈scope.names->∀c,X.env.cells.lookup x=some c->(cellsFrom (C+1) scope.names (BI X.env.cells scope.names [])).lookup x=some c:=fun x hx c hc=>by
  have hl:scope.names.lookup x=some .free:=DK S.nd hx;rw[D2,GO,NJ (l:=cellsFrom (C+1) scope.names []) fun d hd=>?_]
  ·obtain⟨d,hd⟩:=KQ (JH (cells:=X.env.cells) scope.names [] hx)
   rcases clOf_mem _ _ _ _ hfree (mem_of_lookup hd) with z | ⟨_,z⟩
   ·exact absurd z (by simp)
   ·rw[hc]at z;cases z;exact hd
  ·rcases cellsFrom_kind _ _ _ _ _ hd with z | z
   ·exact absurd z (by simp)
   ·rw[DK S.nd z]at hl;cases hl
 refine⟨⟨I.ok.mod,S.kind,I.ok.glob,I.ok.blt,Z0 hC,fun x y c hx hy=>?_,fun x hx=>?_,fun x c hf hx=>?_,I.ok.hd,I.ok.frames,.inl rfl,fun b hb=>⟨?_,fun x c hx=>?_⟩,fun b o e=>I.bs b o e,Zs I.ok.bsz I.sz,fun b o e hb=>?_,fun b hb z=>?_,I.stack,I.stkFree⟩,
  os4,by rw[g4];exact I.bare,Un.kept k4,?_,fun x c hx=>?_,?_,fun x c hx=>?_,fun p hp=>?_,I.hok.kept k4,?_⟩
 ·-- inj
  rcases cases x c hx with ⟨m1,_⟩ | ⟨_,m1⟩ <;> rcases cases y c hy with ⟨m2,_⟩ | ⟨_,m2⟩
  ·exact name_of_addr apart m1 m2
  ·exact absurd (ZX (ZBR (oldlt y c m2) hC) (ZBn (own4 x c m1).2)) (Za _)
  ·exact absurd (ZX (ZBR (oldlt x c m1) hC) (ZBn (own4 y c m2).2)) (Za _)
  ·exact I.ok.inj x y c m1 m2
 ·-- has
  rcases kin x hx with h | h
  ·have q:=PySem.W.cellsFrom_some scope.names (C+1) (BI X.env.cells scope.names []) (.inl h);exact Option.isSome_iff_exists.mp q
  ·obtain⟨c,e⟩:=hfree (x,.free) (mem_of_lookup h) rfl;exact⟨c,lk x (mem_of_lookup h) c e⟩
 ·-- cab
  rcases cases x c hx with ⟨m1,_⟩ | ⟨m1,_⟩
  ·exact Z0 (ZX hC (ZBn (own4 x c m1).2))
  ·have hl:=DK S.nd m1;have hf':(scope.names.lookup x == some NameKind.cell)=true:=hf;rw[hl]at hf';cases hf'
 ·obtain⟨o,e⟩:=hob b hb;exact hCn b o e
 ·intro z;obtain⟨o,e⟩:=hob b hb;have Yr:=ZG e
  rcases cases x c hx with ⟨m1,_⟩ | ⟨_,m1⟩
  ·subst z;exact absurd (ZX (ZBR Yr hC) (ZBn (own4 x c m1).2)) (Za _)
  ·exact(f2 b hb).2.2.2.2.1 x c m1 z
 ·-- noex
  have e1:=(I.ok.bs b o e).1
  rcases(f2 b hb).2.2.2.1 with z | z
  ·exact I.ok.noex b o e z
  ·exact absurd (ZX (ZG e1) z) (Za _)
 ·-- exfs
  rcases ZH.mp (I.stkSub b z) with e | z
  ·exact(f2 b hb).2.1 e
  ·exact(f2 b hb).2.2.1 z
 ·-- loc
  obtain⟨m,hm⟩:=n4;obtain⟨m0,hn0,hl0⟩:=I.loc;refine⟨m,hm,fun i x v h1 h2 h3=>?_⟩;have h1:N'[i]? = some x:=h1;unfold cSt at h2
  by_cases hi:i < own
  ·rw[ZBP (by simpa using hi),List.getElem?_replicate]at h2;split at h2 <;> cases h2
  ·rw[ZBL (by simpa using hi),List.length_replicate,ZT]at h2;obtain⟨j,hj⟩:∃j,i=own+j:=⟨i - own,by lia⟩;subst hj;rw[Nat.add_sub_cancel_left]at h2;cases e:ix[j]? with
   | none=>rw[e]at h2;cases h2
   | some q =>
    rw[e]at h2;have h2:some (σ[q]?).join=some (some v):=h2;have h2:(σ[q]?).join=some v:=ZS h2
    have hσ:σ[q]? = some (some v):=by
     cases eq:σ[q]? with
     | none=>rw[eq]at h2;cases h2
     | some z=>rw[eq]at h2;simp at h2;rw[h2]
    have hx:(N'.drop own)[j]? = some x:=by rw[List.getElem?_drop];exact h1
    have hNq:X.N[q]? = some x:=by
     have:=congrArg (·[j]?) hN
     simp only[ZT,hx,e,ZBf]at this;exact(ZS this).symm
    have hfx:=hfr x (Zo hx);have hmem:=mem_of_lookup hfx;have kx:=S.fr (x,.free) hmem rfl;have vis:Vis X.env.scope x:=.inr kx;obtain⟨u,r,l⟩:=hl0 q x v hNq hσ vis;refine⟨u,r,?_⟩
    rcases l with ⟨k,_⟩ | ⟨k,c,hc,z⟩
    ·exfalso;have k':X.env.scope.names.lookup x=some .local:=k
     rcases kx with kx | kx
     ·rw[show X.env.scope.names.lookup x=some .cell from kx]at k';cases k'
     ·rw[show X.env.scope.names.lookup x=some .free from kx]at k';cases k'
    ·refine .inr ⟨?_,c,lk x hmem c hc,z.keeps k4⟩
     show(Ef scope X.env.scope).names.lookup x=some .cell\/(Ef scope X.env.scope).names.lookup x=some .free
     rw[NP,hfx]
     by_cases hc:(NameKind.free == .free && X.env.scope.kind == .function && X.env.scope.names.lookup x == some .cell)=true
     ·exact .inl (by rw[ZBf,if_pos hc])
     ·exact .inr (by rw[ZBf,if_neg hc])
 ·rcases cases x c hx with ⟨m1,_⟩ | ⟨_,m1⟩
  ·exact⟨_,(own4 x c m1).1⟩
  ·obtain⟨v,q⟩:=I.cell x c m1;exact⟨v,q.keeps k4⟩
 ·exact I.hok.fresh (Z0 hC)
 ·rcases cases x c hx with ⟨m1,_⟩ | ⟨_,m1⟩
  ·exact I.hok.fresh (Z0 (ZX hC (ZBn (own4 x c m1).2)))
  ·exact I.freeC x c m1
 ·have hp:p∈X.pn++Ya:=by
   have:p∈(X.pn++Ya)++[]:=hp
   rwa [Zj]at this
  obtain⟨e,n,ne,nf,d⟩:=I.pin p hp;refine⟨k4 _ _ e,n,hCn _ _ e,fun z=>?_,d⟩
  rcases ZH.mp (I.stkSub _ z) with q | q
  ·exact ne q
  ·exact nf q
 ·unfold cSt;rw[ZU,List.length_replicate,ZC];exact Yk.symm
end
section
variable {prog:Program}{w:World}{A:Around}{R:Result->Shared->Prop}{s:Shared}
theorem Ud {elt target iter:Expr} {ifs:List Expr} {scope:Scope} {it Yo:Value} {env:Env} (I:Nat->Shared->Prop)
 (turn:∀n s,I n s->wpAny (model prog w) A (pyNext it) (fun r s₁=>match r with
   | none=>R (.ok .next) s₁
   | some v=>wpAny (model prog w) A (letOwnedTupleGo target it v) (fun _ s₁'=>wpAny (model prog w) A (assign target env v) (fun _ s₂ =>
    wpAny (model prog w) A (forIn ifs true fun c r=>if r=true then do let ok <- isTrue c env (eval c env);pure (ForInStep.yield ok) else pure (ForInStep.yield r)) (fun ok s₃ =>
     if ok=true then wpAny (model prog w) A (eval elt env) (fun x s₄ =>
      wpAny (model prog w) A (call (.builtin "list.append") [Yo,x]) (fun _ s₅=>∃m,m < n/\I m s₅) (fun _ _=>False) s₄) (fun _ _=>False) s₃
     else ∃m,m < n/\I m s₃) (fun _ _=>False) s₂) (fun _ _=>False) s₁') (fun _ _=>False) s₁) (fun _ _=>False) s)
 (n:Nat) (h:I n s) :
 codeAny (model prog w) A (.compLoop (.ListComp elt [⟨target,iter,ifs,0⟩] scope pos) 0 it Yo env) R s:=by
 refine codeAny_loop rfl I (fun n s hI=>?_) n h;show wpAny _ A ((compTurn (.ListComp elt [⟨target,iter,ifs,0⟩] scope pos) 0 it Yo env).onRaise (fun x=>do noteFrame x env;theTreesLotGoes x)) _ _ s;refine wpAny_noted ?_;rw[compTurn_list];refine ZA (ZBK (ZA (ZZ (turn n s hI) (fun r s₁ h₁=>?_) fun _ _ h'=>h'.elim)));cases r with
 | none=>exact ZB h₁
 | some v =>
  refine ZA (ZZ h₁ (fun _ s₁' h₁'=>?_) fun _ _ h'=>h'.elim);refine ZA (ZZ h₁' (fun _ s₂ h₂=>ZA (ZZ h₂ (fun ok s₃ h₃=>?_) fun _ _ h'=>h'.elim)) fun _ _ h'=>h'.elim);cases ok with
  | false=>exact ZB ⟨rfl,h₃⟩
  | true =>
   exact ZA (ZA (ZZ h₃ (fun x s₄ h₄=>ZA (ZZ h₄ (fun _ s₅ h₅=>ZB (ZB ⟨rfl,h₅⟩)) fun _ _ h'=>h'.elim)) fun _ _ h'=>h'.elim))
end
def PTs(X:Cx)(ifs:List Expr)(t:TT):Prop :=
 ∀(Ya:List (Addr × Obj)) (s:Shared) (σ:St) (H:Hp) (Q:Bool->Hp->Prop),Yg X Ya σ H s->t σ H Q ->
  wpAny (model X.prog X.w) X.A (forIn ifs true fun c r=>if r=true then do let ok <- isTrue c X.env (eval c X.env);pure (ForInStep.yield ok) else pure (ForInStep.yield r)) (TP X Ya σ Q) X.xe s
def WD:TT:=fun _ H Q=>Q true H
theorem BB:PTs X [] WD:=fun _ _ _ H _ I h=>wpAny_tests_nil ⟨H,I,h⟩
theorem CD{c:Expr}{t:TT}(h:PT X c t):PTs X [c] t:=fun Ya s σ H Q I hq=>wpAny_tests_one (h Ya s σ H Q I hq)
def Cp(own:Nat)(g:TG):Prop:=∀x σ H Q,g x σ H Q->g x σ H fun σ' H'=>(σ'.length=σ.length/\∀i,own<=i->σ'[i]? = σ[i]?)/\Q σ' H'
def GG(own:Nat)(g:TGs):Prop:=∀x σ H Q,g x σ H Q->g x σ H fun σ' H'=>(σ'.length=σ.length/\∀i,own<=i->σ'[i]? = σ[i]?)/\Q σ' H'
theorem Af(h:i < own):Cp own (Aa i):=fun x σ H Q q =>
 ⟨⟨by simp,fun j hj=>by rw[List.getElem?_set_ne (by lia)]⟩,q⟩
theorem Dm:GG own JA:=fun x σ H Q ⟨e,q⟩=>⟨e,⟨rfl,fun _ _=>rfl⟩,q⟩
def DP(g:TG):Prop:=∀x σ H (Q Q':St->Hp->Prop),(∀σ H,Q σ H->Q' σ H)->g x σ H Q->g x σ H Q'
def Ek(g:TGs):Prop:=∀x σ H (Q Q':St->Hp->Prop),(∀σ H,Q σ H->Q' σ H)->g x σ H Q->g x σ H Q'
theorem BG:DP (Aa i):=fun _ _ _ _ _ h q=>h _ _ q
theorem Bo:Ek JA:=fun _ _ _ _ _ h ⟨e,q⟩=>⟨e,h _ _ q⟩
theorem DG{t:TG}{u:TGs}(h1:DP t)(h2:Ek u):Ek (Jd t u):=fun _ _ _ _ _ h ⟨v,r,e,q⟩=>⟨v,r,e,h1 _ _ _ _ _ (fun _ _ q=>h2 _ _ _ _ _ h q) q⟩
theorem Bu{t:TG}{u:TGs}(m:DP t)(mu:Ek u)(h1:Cp own t)(h2:GG own u):GG own (Jd t u):=fun x σ H Q ⟨v,r,e,q⟩ =>
 ⟨v,r,e,m _ _ _ _ _ (fun σ' H' ⟨⟨e1,e2⟩,q⟩=>mu _ _ _ _ _ (fun σ'' H'' ⟨⟨e3,e4⟩,q⟩=>⟨⟨e3.trans e1,fun i hi=>(e4 i hi).trans (e2 i hi)⟩,q⟩) (h2 r σ' H' Q q)) (h1 v σ H _ q)⟩
theorem D6{t:TGs}(h:GG own t):Cp own (HJ K n t):=fun x σ H Q ⟨a,xs,e,s,l,q⟩=>⟨a,xs,e,s,l,h _ _ _ _ q⟩
theorem OF{ix:List Nat}(h:(cSt own ix σ)[i]? = some (some v)):own<=i:=by
 unfold cSt at h
 by_cases hi:i < own
 ·rw[ZBP (by simpa using hi),List.getElem?_replicate]at h;split at h <;> cases h
 ·lia
def C3(J:It)(g:TG)(tc:TT)(te:TE)(σc:St)(Q:VK)(H1:Hp):Prop :=
 ∃W:Nat->Nat->List V->Hp->Prop,(∃m,W 0 m [] H1)/\∀i m ys H,W i m ys H ->
  (J.stop i H/\∀p,H p=none->Q (.ref p) (upd H p (.lst ys))) \/
  (J.go i H/\ys.length < sizeLine/\∃N:List V->Hp->Prop,(∀ys' H',N ys' H'->∃m',m' < m/\W (i+1) m' ys' H')/\∀x H',J.yld i H x H'->g x σc H' fun σ4 H4=>tc σ4 H4 fun b H5 =>
    if b=true then te σ4 H5 fun y H6=>N (ys++[y]) H6 else N ys H5)
def Ex(wi:TI)(own:Nat)(ix:List Nat)(g:TG)(tc:TT)(te:TE):TE:=fun σ H Q=>wi σ H fun J H1=>C3 J g tc te (cSt own ix σ) Q H1
section
variable {X:Cx}{Ya:List (Addr × Obj)}{σ:St}{H:Hp}{s:Shared}{fp:List Addr}{it:Addr}{tn:Nat->Heap->Prop}{J:It}{tg iter elt:Expr}{ifs:List Expr}{scope:Scope}{pos:Pos}{N':List Str}{own:Nat}{ix:List Nat}{g:TG}{tc:TT}{te:TE}{Q:VK}{E:Value->Shared->Prop}
theorem MV (I:Yg X Ya σ H s) (T:Turn X.prog X.w X.K tg J fp it tn) (st:tn 0 s.heap) (f2:∀b∈fp,A6 X Ya H b) (hc:X.calm=true) (S:CompScope scope X.env.scope)
 (Yk:N'.length=own+ix.length) (hN:(N'.drop own).map some=ix.map (X.N[·]?)) (hfr:∀x∈N'.drop own,scope.names.lookup x=some .free)
 (hg:∀c,PG (X.comp scope N' c) tg g) (hgo:Cp own g) (ht:∀c,PTs (X.comp scope N' c) ifs tc) (he:∀c,PE (X.comp scope N' c) elt te)
 (hq:C3 J g tc te (cSt own ix σ) Q H) {RR:Value->Addr->Result->Shared->Prop}
 (fin:∀(D C:Addr) (s':Shared) (H':Hp) (ys:List V) (Yf:List Value) (n:Nat),s'.os=s.os->AllBare s'.gens->Un (frs X.stack) fp H H' s.heap s'.heap->HOk X.prog X.w H' s'.heap->(∃m,s'.heap.Ns C m)->H' C=none->s.heap.objs.size<=C ->
   H' D=none->s.heap.objs.size<=D->D≠C->s'.heap.get? D=some { cls:=.type "list",data:=.seq Yf.toArray n } -> Yj ys Yf->ys.length<=sizeLine->(∀p,H' p=none->Q (.ref p) (upd H' p (.lst ys)))->RR (.ref D) C (.ok .next) s') :
 wpAny (model X.prog X.w) X.A (newList []) (fun Yo s₃=>wpAny (model X.prog X.w) X.A (newFunctionEnv scope X.env.globals (BI X.env.cells scope.names []) [] X.env.qual none .none (some X.env)) (fun cenv s₄ =>
  codeAny (model X.prog X.w) X.A (.compStart (.ListComp elt [⟨tg,iter,ifs,0⟩] scope pos) 0 (.ref it) Yo { cenv with scope:=relabel scope X.env }) (RR Yo cenv.locals) s₄) E s₃) E s:=by
 obtain⟨W,⟨m0,w0⟩,turn⟩:=hq;have hob:∀b∈fp,∃o,s.heap.get? b=some o:=fun b hb=>let ⟨o,e,_⟩:=T.obj 0 _ st b hb;⟨o,e⟩
 refine Zn ?_;generalize hH1:s.heap.push { cls:=.type "list",dict:=none,data:=.seq ([]:List Value).toArray } = h1;have hs1:h1.objs.size=s.heap.objs.size+1:=by rw[<- hH1,Z1]
 have k1:∀b o,s.heap.get? b=some o->h1.get? b=some o:=fun b o e=>by rw[<- hH1];exact ZF _ e
 have d1:h1.get? s.heap.objs.size=some { cls:=.type "list",data:=.seq ([]:List Value).toArray }:=by rw[<- hH1];exact ZN _ rfl
 simp only[newFunctionEnv,Option.isSome_some,if_true];refine ZA (wpAny_alloc ?_);generalize hH2:(({ s with heap:=h1 }:Shared).heap.push { cls:=.type "dict",data:=.dict #[] })=h2;have hH2':h1.push { cls:=.type "dict",data:=.dict #[] } = h2:=hH2;have hs2:h2.objs.size=h1.objs.size+1:=by rw[<- hH2',Z1]
 have k2:∀b o,h1.get? b=some o->h2.get? b=some o:=fun b o e=>by rw[<- hH2'];exact ZF _ e
 have n2:h2.Ns h1.objs.size (fun _=>none):=by rw[<- hH2'];exact Heap.Ns.new h1 (.type "dict")
 refine ZA (wpAny_layCells _ (fun name kind cells=>by cases hkc:kind == NameKind.cell <;> simp[hkc]) _ _ _ _ ?_);have ok:=cellsFrom_ok scope.names h2 (h1.objs.size+1) [] ⟨fun _ _ hm=>(nomatch hm),List.Pairwise.nil⟩ (by rw[hs2];exact ZD _);rw[hs2]at ok;show wpAny _ _ (forIn ([]:List (Str × Value)) PUnit.unit _ >>= _) _ _ _;rw[List.forIn_nil];refine ZA (ZB (ZB ?_));show codeAny _ _ (.compStart _ 0 (.ref it) (.ref s.heap.objs.size) (compEnvC scope (cellsFrom h2.objs.size scope.names (BI X.env.cells scope.names [])) h1.objs.size X.env)) (RR (.ref s.heap.objs.size) h1.objs.size) { s with heap:=pushCells h2 scope.names };rw[hs2];generalize hH3:pushCells h2 scope.names=h3 at ok ⊢;have k3:∀b o,h2.get? b=some o->h3.get? b=some o:=fun b o e=>by rw[<- hH3];exact pushCells_keeps _ _ b o e
 have kk:∀b o,s.heap.get? b=some o->h3.get? b=some o:=fun b o e=>k3 b o (k2 b o (k1 b o e))
 have d3:h3.get? s.heap.objs.size=some { cls:=.type "list",data:=.seq ([]:List Value).toArray }:=k3 _ _ (k2 _ _ d1);have hC:s.heap.objs.size < h1.objs.size:=by rw[hs1];exact ZBO _
 have I3:Yg (X.comp scope N' ⟨Ya,cellsFrom (h1.objs.size+1) scope.names (BI X.env.cells scope.names []),s,H,fp,h1.objs.size⟩) [] (cSt own ix σ) H { s with heap:=h3 } :=
  Sg (s4:={ s with heap:=h3 }) I f2 hob S Yk hN hfr hC kk rfl rfl ⟨_,n2.keeps k3⟩ (fun x c hm=>ok.empty x c hm) ok.apart
 generalize hcs:cellsFrom (h1.objs.size+1) scope.names (BI X.env.cells scope.names [])=cs at I3 ⊢;generalize hCC:h1.objs.size=C at *;generalize hDD:s.heap.objs.size=D at *;have hY:=I3.ok
 -- what is fixed of the records
 have sD:D≠C/\(∀x c,cs.lookup x=some c->c≠D)/\D∉frs X.stack/\∀p∈X.pn++Ya,p.1≠D:=by
  refine⟨ZO hC,fun x c e z=>?_,fun z=>?_,fun p hp z=>?_⟩
  ·subst z;have e':=e;rw[<- hcs,D2,GO]at e';cases q:(cellsFrom (C+1) scope.names []).lookup x with
   | some d =>
    rw[q]at e';cases e'
    have:=(ok.empty x c (mem_of_lookup q)).2
    exact absurd (ZX hC (ZBn this)) (Za _)
   | none =>
    rw[q]at e';have hfree:∀y∈scope.names,y.2=.free->∃c,X.env.cells.lookup y.1=some c:=fun y hy h=>I.ok.has y.1 (S.fr y hy h)
    rcases clOf_mem _ _ _ _ hfree (mem_of_lookup e') with z | ⟨_,z⟩
    ·exact absurd z (by simp)
    ·obtain⟨v,q⟩:=I.cell x c z
     have:=q.lt
     rw[hDD]at this;exact Za _ this
  ·exact(I3.nofs (a:=D) (by exact absurd z (by
    intro z';obtain⟨_,o,ho,_⟩:=(show s.heap.FunFrames X.base X.stack from I.stack).mem z'
    have:=ZG ho
    rw[hDD]at this;exact Za _ this))) z
  ·have:=ZG (I.pin p hp).1
   rw[z,hDD]at this;exact Za _ this
 have stat:∀{H':Hp},(∀b∈fp,H' b=none)->∀b∈fp,A6 (X.comp scope N' ⟨Ya,cs,s,H,fp,C⟩) [] H' b:=fun {H'} hn b hb=>by
  refine⟨hn b hb,(hY.exf b hb).1,hY.exfs b hb,.inl hb,(hY.exf b hb).2,fun p hp=>?_⟩;have hp:p∈(X.pn++Ya)++[]:=hp;rw[Zj]at hp;exact(f2 b hb).2.2.2.2.2 p hp
 have statD:∀{H':Hp},H' D=none->A6 (X.comp scope N' ⟨Ya,cs,s,H,fp,C⟩) [] H' D:=fun {H'} hn=>by
  refine⟨hn,sD.1,sD.2.2.1,.inr (ZBc hDD),sD.2.1,fun p hp=>?_⟩;have hp:p∈(X.pn++Ya)++[]:=hp;rw[Zj]at hp;exact sD.2.2.2 p hp
 have loop:codeAny (model X.prog X.w) X.A (.compLoop (.ListComp elt [⟨tg,iter,ifs,0⟩] scope pos) 0 (.ref it) (.ref D) (compEnvC scope cs C X.env)) (RR (.ref D) C) { s with heap:=h3 }:=by
  refine Ud (fun n s'=>∃(i:Nat) (H':Hp) (ys:List V) (Yf:List Value) (k:Nat),Yg (X.comp scope N' ⟨Ya,cs,s,H,fp,C⟩) [] (cSt own ix σ) H' s'/\tn i s'.heap/\(∀b∈fp,H' b=none)/\H' D=none /\
   s'.heap.get? D=some { cls:=.type "list",data:=.seq Yf.toArray k } /\ Yj ys Yf/\ys.length<=sizeLine/\W i n ys H') ?_ m0
   ⟨0,H,[],[],0,I3,T.keep _ _ _ st fun b _ o e=>kk b o e,fun b hb=>(f2 b hb).1,I.hok.fresh (ZBc hDD),d3,.nil,ZP _,w0⟩
  rintro n s4 ⟨i,H4,ys,Yf,k,I4,st4,fr4,dn4,d4,rv4,z4,w4⟩
  rcases turn i n ys H4 w4 with ⟨stop,qn⟩ | ⟨go,zl,N,hN2,step⟩
  ·have ID:=I4.pinned (fp:=[D]) (fun b hb=>by rw[ZI.mp hb];exact statD dn4) (fun b hb=>by rw[ZI.mp hb];exact⟨_,d4,fun v z=>nomatch z⟩)
   have nD:∀b∈fp,b≠D:=fun b hb z=>by
    obtain⟨o,e⟩:=hob b hb
    have:=ZG e
    rw[z,hDD]at this;exact Za _ this
   have stat':∀b∈fp,A6 (X.comp scope N' ⟨Ya,cs,s,H,fp,C⟩) ([]++Bx [D] s4.heap) H4 b:=fun b hb=>by
    obtain⟨q1,q2,q3,q4,q5,q6⟩:=stat fr4 b hb;refine⟨q1,q2,q3,q4,q5,fun p hp=>?_⟩
    rcases Ze.mp hp with z | z
    ·exact q6 p (Zt _ z)
    ·have:=(Jt (by simpa using z:p∈Bx [D] s4.heap)).1
     rw[ZI.mp this];exact fun z=>nD b hb z.symm
   refine Ym (T.done (X.comp scope N' ⟨Ya,cs,s,H,fp,C⟩) rfl rfl rfl hc i _ s4 _ H4 (fun _ _=>False) ID stat' st4 stop) fun r s5 ⟨hr,I5⟩=>?_
   subst hr;obtain⟨m,hm,_⟩:=I5.loc;refine fin D C s5 H4 ys Yf k I5.os I5.bare I5.base I5.hok ⟨m,hm⟩ I5.free (Z0 hC) dn4 (ZD _) sD.1 ?_ rv4 z4 qn
   ·exact(I5.pin (D,_) (ZY _ (ZY _ (CO (ZI.mpr rfl) d4)))).1
  ·have nD:∀b∈fp,b≠D:=fun b hb z=>by
    obtain⟨o,e⟩:=hob b hb
    have:=ZG e
    rw[z,hDD]at this;exact Za _ this
   have ID:=I4.pinned (fp:=[D]) (fun b hb=>by rw[ZI.mp hb];exact statD dn4) (fun b hb=>by rw[ZI.mp hb];exact⟨_,d4,fun v z=>nomatch z⟩)
   have statP:∀{H':Hp},(∀b∈fp,H' b=none)->∀b∈fp,A6 (X.comp scope N' ⟨Ya,cs,s,H,fp,C⟩) ([]++Bx [D] s4.heap) H' b:=fun {H'} hn b hb=>by
    obtain⟨q1,q2,q3,q4,q5,q6⟩:=stat hn b hb;refine⟨q1,q2,q3,q4,q5,fun p hp=>?_⟩
    rcases Ze.mp hp with z | z
    ·exact q6 p (Zt _ z)
    ·have:=(Jt (by simpa using z:p∈Bx [D] s4.heap)).1
     rw[ZI.mp this];exact fun z=>nD b hb z.symm
   refine Ym (T.item (X.comp scope N' ⟨Ya,cs,s,H,fp,C⟩) rfl rfl rfl hc i _ s4 _ H4 (fun _ _=>False) ID (statP fr4) st4 go) fun r s5 ⟨u,hr,h5⟩=>?_
   subst hr;refine Ym h5 fun _ s6 ⟨x,H6,I6,r6,y6,st6,fr6⟩=>?_
   have I6':=I6.pinned (statP fr6) (T.obj _ _ st6);refine Ym (hg _ _ s6 _ H6 x u _ I6' r6 (hgo _ _ _ _ (step x H6 y6))) fun _ s7 ⟨σ7,H7,I7,⟨e7,k7⟩,q7⟩=>?_
   have I7':Yg (X.comp scope N' ⟨Ya,cs,s,H,fp,C⟩) ([]++Bx [D] s4.heap++Bx fp s6.heap) σ7 H7 s7:=I7;refine Ym (ht _ _ s7 σ7 H7 _ I7' q7) fun b s8 ⟨H8,I8,q8⟩=>?_
   -- what is kept through the turn
   have back:∀{s9:Shared} {H9:Hp},Yg (X.comp scope N' ⟨Ya,cs,s,H,fp,C⟩) ([]++Bx [D] s4.heap++Bx fp s6.heap) σ7 H9 s9 ->
    Yg (X.comp scope N' ⟨Ya,cs,s,H,fp,C⟩) [] (cSt own ix σ) H9 s9/\tn (i+1) s9.heap/\(∀b∈fp,H9 b=none)/\H9 D=none/\s9.heap.get? D=some { cls:=.type "list",data:=.seq Yf.toArray k }:=fun {s9 H9} I9=>by
    have pD:=I9.pin (D,_) (ZY _ (Zt _ (ZY _ (CO (ZI.mpr rfl) d4))));refine⟨I9.unpinned.unpinned.weak (by rw[e7]) fun j v hj=>?_,T.keep _ _ _ st6 fun b hb o e=>(I9.pin (b,o) (ZY _ (ZY _ (CO hb e)))).1,fun b hb=>?_,pD.2.1,pD.1⟩
    ·rw[k7 j (OF hj)];exact hj
    ·obtain⟨o,e,_⟩:=T.obj _ _ st6 b hb;exact(I9.pin (b,o) (ZY _ (ZY _ (CO hb e)))).2.1
   cases b with
   | false =>
    rw[if_neg Z7]at q8;obtain⟨m',hm,w8⟩:=hN2 _ _ q8;obtain⟨b1,b2,b3,b4,b5⟩:=back I8;exact⟨m',hm,i+1,H8,ys,Yf,k,b1,b2,b3,b4,b5,rv4,z4,w8⟩
   | true =>
    rw[if_pos rfl]at q8;rw[if_pos rfl];refine Ym (he _ _ s8 σ7 H8 _ I8 q8) fun yv s9 ⟨y,H9,I9,r9,q9⟩=>?_
    obtain⟨m',hm,w9⟩:=hN2 _ _ q9;obtain⟨b1,b2,b3,b4,b5⟩:=back I9;have hl:=rv4.length;refine call_meets F.slot_list_append ⟨_,b5,rfl⟩ F.entry_list_append (F.args_list_append_2 _ _) (PySem.list_append D Yf.toArray k yv (by rw[ZJ];lia)) ⟨b5,?_⟩;have up:=PySem.IsL.update b5 (fun a=>a.push yv);have keep:∀b o,b≠D->s9.heap.get? b=some o->(s9.heap.update D (Obj.mapSeq fun a=>a.push yv)).get? b=some o:=fun b o hb q=>(Zu _ _ (Ne.symm hb)).trans q
    obtain⟨f0,f1,f2',f3,f4,f5⟩:=statD b4;refine⟨m',hm,i+1,H9,ys++[y],Yf++[yv],(if ((Yf.toArray.push yv).size == Yf.toArray.size)=true then k else k+1),b1.turned (t':=s9.toks) keep b4 f1 f3 f4 f5,?_,b3,b4,?_,rv4.append (.cons r9 .nil),?_,w9⟩
    ·exact T.keep _ _ _ b2 fun b hb o e=>keep b o (nD b hb) e
    ·have e2:(Yf.toArray.push yv)=(Yf++[yv]).toArray:=by simp
     rw[<- e2];exact up
    ·rw[ZU,List.length_singleton];lia
 exact codeAny_compStart_list loop (T.self X.A 0 _ _ _ (T.keep _ _ _ st fun b _ o e=>kk b o e) loop)
end
section
variable {X:Cx}{Ya:List (Addr × Obj)}{σ:St}{H:Hp}{s:Shared}{fp:List Addr}{it:Addr}{tn:Nat->Heap->Prop}{J:It}{tg iter elt:Expr}{ifs:List Expr}{scope:Scope}{pos:Pos}{N':List Str}{own:Nat}{ix:List Nat}{g:TG}{tc:TT}{te:TE}{wi:TI}{E:Value->Shared->Prop}
theorem Md {s':Shared} {D:Addr} {ys:List V} {Yf:List Value} (I:Yg X Ya σ H s) (f2:∀b∈fp,A6 X Ya H b) (ho:s'.os=s.os) (hg:AllBare s'.gens) (u:Un (frs X.stack) fp H H' s.heap s'.heap) (hok:HOk X.prog X.w H' s'.heap)
 (dn:H' D=none) (ds:s.heap.objs.size<=D) (d:s'.heap.get? D=some { cls:=.type "list",data:=.seq Yf.toArray n }) (rv:Yj ys Yf) (z:ys.length<=sizeLine):Yg X Ya σ (upd H' D (.lst ys)) s':=by
 have nD:∀b o,s.heap.get? b=some o->b≠D:=fun b o e q=>by rw[q,ZBU ds]at e;cases e
 have nH:∀b o,H' b=some o->b≠D:=fun b o e q=>by rw[q,dn]at e;cases e
 refine I.call' (ch:=fp) ho ⟨u.keep,u.slot,fun b o e q hx=>?_,u.there,fun b xs e=>?_,fun b o v e=>?_,fun b ps e=>?_⟩ (fun b o e=>?_) hg fun b hb=>?_
 ·rw[AI (nD b o e)];exact u.free b o e q hx
 ·have:=u.tups b xs e
  rw[AI (nH _ _ this)];exact this
 ·have:=u.frzs b o v e
  rw[AI (nH _ _ this)];exact this
 ·obtain⟨more,q⟩:=u.tbls b ps e;exact⟨more,by rw[AI (nH _ _ q)];exact q⟩
 ·by_cases hb:b=D
  ·subst hb;rw[AD]at e;cases e;exact⟨z,Yf,n,rv,d⟩
  ·rw[AI hb]at e;exact(hok b o e).stay (fun _ _ _ q=>q) (fun c q=>by rw[AI (nH _ _ q)];exact q) fun c xs q=>by rw[AI (nH _ _ q)];exact q
 ·obtain⟨q1,q2,q3,q4,q5,q6⟩:=f2 b hb;exact⟨q4,q2,q5,q6⟩
theorem Yg.dictGone{s':Shared}{h':Heap}{C:Addr}{σ':St}(I:Yg X Ya σ H s)(J:Yg X Ya σ' H' s')(hC:s.heap.objs.size<=C)(hn:H' C=none)(k:Heap.SameBut C s'.heap h'):Yg X Ya σ' H' { s' with heap:=h' }:=by
 have hC0:=ZBU hC;refine J.turned (t':=s'.toks) (fun b o hb e=>(k.2 b hb).trans e) hn (fun z=>?_) (.inr (Zs I.sz hC)) (fun x c e z=>?_) fun p hp z=>?_
 ·obtain⟨m,⟨o,_,_,ho,_⟩,_⟩:=I.loc;rw[<- z,hC0]at ho;cases ho
 ·obtain⟨v,o,ho,_⟩:=I.cell x c e;rw[z,hC0]at ho;cases ho
 ·have:=(I.pin p hp).1
  rw[z,hC0]at this;cases this
theorem RK (hc:X.calm=true) (hi:PI X tg iter wi) (S:CompScope scope X.env.scope)
 (Yk:N'.length=own+ix.length) (hN:(N'.drop own).map some=ix.map (X.N[·]?)) (hfr:∀x∈N'.drop own,scope.names.lookup x=some .free)
 (hg:∀c,PG (X.comp scope N' c) tg g) (hgo:Cp own g) (ht:∀c,PTs (X.comp scope N' c) ifs tc) (he:∀c,PE (X.comp scope N' c) elt te)
 (hs:∀x,foldedSetIterable iter X.env x=pure x:=by intro _;rfl):PE X (.ListComp elt [⟨tg,iter,ifs,0⟩] scope pos) (Ex wi own ix g tc te):=by
 intro Ya s σ H Q I h;rw[eval_ListComp];have hfree:∀y∈scope.names,y.2=.free->∃c,X.env.cells.lookup y.1=some c:=fun y hy h=>I.ok.has y.1 (S.fr y hy h)
 refine wpAny_comprehension_free (use:=none) rfl hs (Kn hfree) S.kind (fun y hy hl=>DK S.nd (by rw[<- hl];exact hy)) ?_;refine Ym (hi Ya s σ H _ I h) fun v s1 h1=>Ym h1 fun itv s2 h2=>?_
 obtain⟨it,fp,tn,J,H2,e,I2,T,st2,f2,q2⟩:=h2;subst e;refine MV (RR:=fun Yo C=>compPost (model X.prog X.w) X.A X.xe none (EP X Ya σ Q) Yo C) I2 T st2 f2 hc S Yk hN hfr hg hgo ht he q2 ?_;intro D C s' H' ys Yf n ho hgn u hok hm hC hCs hD hDs hDC d rv z q;obtain⟨m,hm⟩:=hm;have I3:=Md I2 f2 ho hgn u hok hD hDs d rv z;refine⟨m,hm,fun h' hs'=>?_⟩;exact⟨.ref D,_,I2.dictGone I3 hCs (by rw[AI (Ne.symm hDC)];exact hC) hs',rfl,q D hD⟩
theorem Qx {y:Str} {py spos:Pos} (hc:X.calm=true) (hnd:X.N.Nodup) (hiy:X.N[i]? = some y) (hy:X.env.scope.names.lookup y=some .local) (hi:PI X tg iter wi) (S:CompScope scope X.env.scope)
 (Yk:N'.length=own+ix.length) (hN:(N'.drop own).map some=ix.map (X.N[·]?)) (hfr:∀x∈N'.drop own,scope.names.lookup x=some .free)
 (hg:∀c,PG (X.comp scope N' c) tg g) (hgo:Cp own g) (ht:∀c,PTs (X.comp scope N' c) ifs tc) (he:∀c,PE (X.comp scope N' c) elt te)
 (hsw:swapsWith (.ListComp elt [⟨tg,iter,ifs,0⟩] scope pos) (some (.Name y py)) spos.line X.env=pure true)
 (hs:∀x,foldedSetIterable iter X.env x=pure x:=by intro _;rfl):PS X (.Assign [.Name y py] (.ListComp elt [⟨tg,iter,ifs,0⟩] scope pos) spos) (EY (Ex wi own ix g tc te) (Aa i)):=by
 intro Ya s σ H D I h;rw[exec_Assign_Name_used _ _ _ _ hsw];refine ZA (ZBK (ZA ?_));show wpAny _ _ (do let _ <- comprehension (.ListComp elt [⟨tg,iter,ifs,0⟩] scope pos) scope X.env _ (newList []) false (eval iter X.env) (some (assign (.Name y py) X.env))) _ _ s;have hfree:∀y∈scope.names,y.2=.free->∃c,X.env.cells.lookup y.1=some c:=fun y hy h=>I.ok.has y.1 (S.fr y hy h)
 refine ZA (ZZ (wpAny_comprehension_free (use:=some (assign (.Name y py) X.env)) (Q:=fun _ s'=>SP X Ya D .next s') rfl hs (Kn hfree) S.kind (fun y hy hl=>DK S.nd (by rw[<- hl];exact hy)) ?_) (fun _ s' hq=>ZB (ZB hq)) fun _ _ e=>e);refine Ym (hi Ya s σ H _ I h) fun v s1 h1=>Ym h1 fun itv s2 h2=>?_
 obtain⟨it,fp,tn,J,H2,e,I2,T,st2,f2,q2⟩:=h2;subst e;refine MV (RR:=fun Yo C=>compPost (model X.prog X.w) X.A X.xe (some (assign (.Name y py) X.env)) (fun _ s'=>SP X Ya D .next s') Yo C) I2 T st2 f2 hc S Yk hN hfr hg hgo ht he q2 ?_;intro d C s' H' ys Yf n ho hgn u hok hm hC hCs hD hDs hDC hd rv z q;obtain⟨m,hm⟩:=hm;have I3:=Md I2 f2 ho hgn u hok hD hDs hd rv z;show wpAny _ _ (assign (.Name y py) X.env (.ref d)) _ _ s';have hCn:(upd H' d (.lst ys)) C=none:=by rw[AI (Ne.symm hDC)];exact hC
 refine wpAny_assign_Name (LK I3 hnd hiy (.inl hy) (v:=.ref d) rfl (fun s3 I4 ⟨a,sb,ha⟩=>?_) (.inr hy))
 have ha':a≠C:=fun e=>by
  have hC0:=ZBU hCs
  rcases ha with z | z
  ·obtain⟨m,⟨o,_,_,ho,_⟩,_⟩:=I2.loc;rw[<- z,e,hC0]at ho;cases ho
  ·obtain⟨v,o,ho,_⟩:=I2.cell y a z;rw[e,hC0]at ho;cases ho
 refine⟨m,hm.sameBut sb (Ne.symm ha'),fun h' hs'=>?_⟩;exact⟨_,_,I2.dictGone I4 hCs hCn hs',q d hD⟩
end
section
variable {X:Cx}
theorem PE.imp{e:Expr}{t t':TE}(h:PE X e t)(f:∀σ H Q,t' σ H Q->t σ H Q):PE X e t':=fun Ya s σ H Q I q=>h Ya s σ H Q I (f σ H Q q)
theorem Yx.imp{f:Value->Value->Sem Value}{r':R2}(h:Yx X f r)(g:∀x y H Q,r' x y H Q->r x y H Q):Yx X f r':=fun Ya s σ H x y v u Q I rx ry q=>h Ya s σ H x y v u Q I rx ry (g _ _ _ _ q)
theorem CallR.imp{f:Value}{r r':List V->Hp->VK->Prop}(h:CallR X f r)(g:∀x H Q,r' x H Q->r x H Q):CallR X f r':=fun Ya s σ H xs us Q I r q=>h Ya s σ H xs us Q I r (g _ _ _ q)
def CY(i:Nat):TE:=fun σ H Q=>match σ[i]? with
 | some (some v)=>Q v H
 | _=>False
theorem vv (i:Nat) (hN:X.N[i]? = some x:=by rfl) (hv:Vis X.env.scope x:=by first | exact Or.inl rfl | exact Or.inr (Or.inl rfl) | exact Or.inr (Or.inr rfl)) (hd:(x == ("__debug__" : Str))=false:=by decide)
 (hcd:(x == ("__classdict__" : Str))=false:=by decide):PE X (.Name x pos) (CY i):=(QO hN hv hd hcd).imp fun σ H Q q=>by
 unfold CY at q;split at q
 ·rename_i v e;exact⟨v,e,q⟩
 ·exact q.elim
def okMul(i j:Int):Prop:=(i.natAbs < 2 ^ 4096/\j.natAbs < 2 ^ 4096)\/(-(2 ^ 64) < i/\i < 2 ^ 64)\/(-(2 ^ 64) < j/\j < 2 ^ 64)
theorem Mw{i:Int}(h:i.natAbs < 2 ^ 4096):Builtin.Int.intBits i<=2 ^ 20:=by
 unfold Builtin.Int.intBits;split
 ·exact ZP _
 ·rename_i hz
  have Yw:i.natAbs≠0:=by
   have:¬i=0:=by simpa using hz
   lia
  have:=(Nat.log2_lt Yw).mpr h
  have e:(2:Nat) ^ 20=1048576:=by decide
  lia
theorem okMul.ok{i j:Int}(h:okMul i j):IntMulOk i j:=by
 rcases h with ⟨h1,h2⟩ | h | h
 ·exact .of_bits (Mw h1) (Mw h2)
 ·exact CMul.ok (.inl h)
 ·exact CMul.ok (.inr h)
def okDiv(j:Int):Prop:=0 < j/\j < 2 ^ 4096
theorem okDiv.ok{i j:Int}(h:okDiv j):Builtin.divisionGoesByPylong i j=false:=by
 refine PyProof.noPylong_of_log2 ?_;obtain⟨h1,h2⟩:=h;have Yw:j.natAbs≠0:=by lia
 have h3:j.natAbs < 2 ^ 4096:=by
  have e:((j.natAbs:Int))=j:=by lia
  have h2':((j.natAbs:Nat):Int) < ((2 ^ 4096:Nat):Int):=by rw[e,Int.natCast_pow];exact h2
  exact Int.ofNat_lt.mp h2'
 have:=(Nat.log2_lt Yw).mpr h3
 lia
def ET(K:W.Frag):R2:=fun x y H Q=>match x,y with
 | .int i,.int j=>Q (.int (i+j)) H
 | .str a,.str b=>a.length+b.length<=sizeLine/\Q (.str (a++b)) H
 | .ref a,.ref b=>MH (.ref a) (.ref b) H Q\/Lp K (.ref a) (.ref b) H Q
 | _,_=>False
theorem Rc:Yx X (binaryOp .Add) (ET X.K):=by
 intro Ya s σ H x y v u Q I rx ry q
 cases x <;> cases y <;> first
  | exact False.elim q
  | exact VH Ya s σ H _ _ v u Q I rx ry ⟨_,_,rfl,rfl,q⟩
  | exact UK Ya s σ H _ _ v u Q I rx ry ⟨_,_,rfl,rfl,q.1,q.2⟩
  | (rcases q with q | q
     ·exact V3 Ya s σ H _ _ v u Q I rx ry q
     ·exact OQ Ya s σ H _ _ v u Q I rx ry q)
def Pw:R2:=fun x y H Q=>match x,y with
 | .int i,.int j=>Q (.int (i - j)) H
 | _,_=>False
theorem DD:Yx X (binaryOp .Sub) Pw:=by
 intro Ya s σ H x y v u Q I rx ry q
 cases x <;> cases y <;> first
  | exact False.elim q
  | exact TJ Ya s σ H _ _ v u Q I rx ry ⟨_,_,rfl,rfl,q⟩
def QM:R2:=fun x y H Q=>match x,y with
 | .int i,.int j=>okMul i j/\Q (.int (i * j)) H
 | .ref a,.int k=>MA (.ref a) (.int k) H Q
 | _,_=>False
theorem Eh:Yx X (binaryOp .Mult) QM:=by
 have hI:Yx X (binaryOp .Mult) (rI okMul fun i j=>.int (i * j)):=opI fun _ _ _ _ _ _ _ hc q=>mul_int q hc.ok
 intro Ya s σ H x y v u Q I rx ry q
 cases x <;> cases y <;> first
  | exact False.elim q
  | exact hI Ya s σ H _ _ v u Q I rx ry ⟨_,_,rfl,rfl,q.1,q.2⟩
  | exact Qf Ya s σ H _ _ v u Q I rx ry q
def IL:R2:=fun x y H Q=>match x,y with
 | .int i,.int j=>okDiv j/\Q (.int (i / j)) H
 | _,_=>False
theorem IP:Yx X (binaryOp .FloorDiv) IL:=by
 have hI:Yx X (binaryOp .FloorDiv) (rI (fun _ j=>okDiv j) fun i j=>.int (i / j)):=opI fun i j _ _ _ _ _ hc q=>by
  refine floordiv_int (by have:=hc.1;lia) ?_ (.inl hc.ok);rw[Int.fdiv_eq_ediv_of_nonneg i (by have:=hc.1;lia)];exact q
 intro Ya s σ H x y v u Q I rx ry q
 cases x <;> cases y <;> first
  | exact False.elim q
  | exact hI Ya s σ H _ _ v u Q I rx ry ⟨_,_,rfl,rfl,q.1,q.2⟩
def Jo:R2:=fun x y H Q=>match x,y with
 | .int i,.int j=>0 < j/\Q (.int (i % j)) H
 | _,_=>False
theorem Cs:Yx X (binaryOp .Mod) Jo:=by
 intro Ya s σ H x y v u Q I rx ry q
 cases x <;> cases y <;> first
  | exact False.elim q
  | exact Pa Ya s σ H _ _ v u Q I rx ry ⟨_,_,rfl,rfl,q.1,q.2⟩
def Hd:R2:=fun x y H Q=>match x,y with
 | .int i,.int j=>Mq i j/\Q (.int (i ^ j.toNat)) H
 | _,_=>False
theorem TW:Yx X (binaryOp .Pow) Hd:=by
 intro Ya s σ H x y v u Q I rx ry q
 cases x <;> cases y <;> first
  | exact False.elim q
  | exact UA Ya s σ H _ _ v u Q I rx ry ⟨_,_,rfl,rfl,q.1,q.2⟩
def GM(f:Int->Int->Int):R2:=fun x y H Q=>match x,y with
 | .int i,.int j=>Q (.int (f i j)) H
 | _,_=>False
theorem FB:Yx X (binaryOp .BitAnd) (GM Builtin.bitAnd):=by
 intro Ya s σ H x y v u Q I rx ry q
 cases x <;> cases y <;> first
  | exact False.elim q
  | exact Ri Ya s σ H _ _ v u Q I rx ry ⟨_,_,rfl,rfl,q⟩
def HL:V->Hp->VK->Prop:=fun x H Q=>match x with
 | .int i=>Q (.int (-i)) H
 | _=>False
theorem K3:UnR X (unaryOp .USub) HL:=by
 intro Ya s σ H x v Q I rx q
 cases x <;> first
  | exact False.elim q
  | exact U4 Ya s σ H _ v Q I rx ⟨_,rfl,q⟩
def Dl(p:Int->Int->Bool):R2:=fun x y H Q=>match x,y with
 | .int i,.int j=>Q (.bl (p i j)) H
 | _,_=>False
theorem Ca:Yx X (compareOp .Lt) (Dl fun i j=>decide (i < j)):=by
 intro Ya s σ H x y v u Q I rx ry q
 cases x <;> cases y <;> first
  | exact False.elim q
  | exact V8 Ya s σ H _ _ v u Q I rx ry ⟨_,_,rfl,rfl,q⟩
theorem FA:Yx X (compareOp .LtE) (Dl fun i j=>decide (i<=j)):=by
 intro Ya s σ H x y v u Q I rx ry q
 cases x <;> cases y <;> first
  | exact False.elim q
  | exact Nl Ya s σ H _ _ v u Q I rx ry ⟨_,_,rfl,rfl,q⟩
theorem Bg:Yx X (compareOp .Gt) (Dl fun i j=>decide (j < i)):=by
 intro Ya s σ H x y v u Q I rx ry q
 cases x <;> cases y <;> first
  | exact False.elim q
  | exact Vo Ya s σ H _ _ v u Q I rx ry ⟨_,_,rfl,rfl,q⟩
theorem FK:Yx X (compareOp .GtE) (Dl fun i j=>decide (j<=i)):=by
 intro Ya s σ H x y v u Q I rx ry q
 cases x <;> cases y <;> first
  | exact False.elim q
  | exact Ps Ya s σ H _ _ v u Q I rx ry ⟨_,_,rfl,rfl,q⟩
end
inductive Dv where
 | non | bl (b:Bool) | int (i:Int) | str (x:Str) | tup (ds:List Dv) | lst (ds:List Dv)
mutual
def Yh(K:W.Frag)(H:Hp):Dv->V->Prop
 | .non,v=>v=.non
 | .bl b,v=>v=.bl b
 | .int i,v=>v=.int i
 | .str x,v=>v=.str x
 | .tup ds,v=>∃a xs,v=.ref a/\Ys K H a xs/\Ye K H ds xs
 | .lst ds,v=>∃a xs,v=.ref a/\Yv K H a xs/\Ye K H ds xs
def Ye(K:W.Frag)(H:Hp):List Dv->List V->Prop
 | [],xs=>xs=[]
 | d::ds,xs=>∃x r,xs=x::r/\Yh K H d x/\Ye K H ds r
end
mutual
def eqD:Dv->Dv->Bool
 | .non,.non=>true
 | .bl a,.bl b=>a == b
 | .bl a,.int b=>(if a then 1 else 0) == b
 | .int a,.bl b=>a == (if b then 1 else 0)
 | .int a,.int b=>a == b
 | .str a,.str b=>a == b
 | .tup ds,.tup es=>BH ds es
 | .lst ds,.lst es=>BH ds es
 | _,_=>false
def BH:List Dv->List Dv->Bool
 | [],[]=>true
 | d::ds,e::es=>eqD d e && BH ds es
 | _,_=>false
end
mutual
def BC:Dv->Nat
 | .tup ds=>CZ ds+1
 | .lst ds=>CZ ds+1
 | _=>0
def CZ:List Dv->Nat
 | []=>0
 | d::ds=>max (BC d) (CZ ds)
end
theorem Qr(ds es:List Dv):eqD (.tup ds) (.tup es)=BH ds es:=by rw[eqD]
theorem Ha(ds es:List Dv):eqD (.lst ds) (.lst es)=BH ds es:=by rw[eqD]
theorem Ye.length:∀{ds:List Dv} {xs:List V},Ye K H ds xs->ds.length=xs.length
 | [],xs,h=>by unfold Ye at h;subst h;rfl
 | d::ds,xs,h=>by
  unfold Ye at h;obtain⟨x,r,rfl,_,h⟩:=h;rw[Zi,Zi,Ye.length h]
theorem Ye.get:∀{ds:List Dv} {xs:List V} {i:Nat} {d:Dv},Ye K H ds xs->ds[i]? = some d->∃x,xs[i]? = some x/\Yh K H d x
 | [],_,_,_,_,e=>by simp at e
 | d::ds,xs,0,_,h,e=>by
  unfold Ye at h;obtain⟨x,r,rfl,h1,_⟩:=h;simp at e;subst e;exact⟨x,rfl,h1⟩
 | d::ds,xs,i+1,_,h,e=>by
  unfold Ye at h;obtain⟨x,r,rfl,_,h⟩:=h;obtain⟨y,h1,h2⟩:=Ye.get (i:=i) h (by simpa using e);exact⟨y,by simpa using h1,h2⟩
theorem Ki{d:Dv}(h:ds[i]? = some d):BC d<=CZ ds:=by
 induction ds generalizing i with
 | nil=>simp at h
 | cons e es ih =>
  unfold CZ;cases i with
  | zero=>simp at h;subst h;lia
  | succ i=>have:=ih (i:=i) (by simpa using h);lia
theorem HN:∀(ds es:List Dv),ds.length=es.length->BH ds es=(List.range ds.length).all fun i=>match ds[i]?,es[i]? with | some d,some e=>eqD d e | _,_=>false
 | [],[],_=>by unfold BH;rfl
 | d::ds,e::es,h=>by
  unfold BH;rw[Zi,List.range_succ_eq_map,List.all_cons,List.all_map,HN ds es (by simpa using h)]
  congr 1
 | [],e::es,h=>by simp at h
 | d::ds,[],h=>by simp at h
theorem Gf:∀(ds es:List Dv),ds.length≠es.length->BH ds es=false
 | [],[],h=>absurd rfl h
 | [],_::_,_=>by unfold BH;rfl
 | _::_,[],_=>by unfold BH;rfl
 | d::ds,e::es,h=>by unfold BH;rw[Gf ds es (fun z=>h (by simp[z])),Bool.and_false]
mutual
theorem GT:∀d:Dv,eqD d d=true
 | .non=>by unfold eqD;rfl
 | .bl b=>by unfold eqD;simp
 | .int i=>by unfold eqD;simp
 | .str x=>by unfold eqD;simp
 | .tup ds=>by unfold eqD;exact Ft ds
 | .lst ds=>by unfold eqD;exact Ft ds
theorem Ft:∀ds:List Dv,BH ds ds=true
 | []=>by unfold BH;rfl
 | d::ds=>by unfold BH;rw[GT d,Ft ds];rfl
end
section
variable {X:Cx}{Ya:List (Addr × Obj)}{σ:St}{H:Hp}{s:Shared}
theorem KL{ys:List V}(I:Yg X Ya σ H s)(h:Yv X.K H a xs)(h':Ys X.K H a ys):False:=by
 obtain⟨Yf,_,⟨o,n,e,c,_⟩,_⟩:=I.list h;obtain⟨its',_,⟨o',e',c',_⟩,_⟩:=I.tuple h';rw[e]at e';cases e';rw[c]at c';exact absurd c' (by decide)
mutual
theorem Gp(I:Yg X Ya σ H s):∀(d e:Dv) (x:V),Yh X.K H d x->Yh X.K H e x->d=e
 | .non,e,x,h,h'=>by
  unfold Yh at h;subst h;cases e <;> unfold Yh at h' <;> first | rfl | (obtain⟨a,xs,q,_⟩:=h';cases q;done) | (cases h';done)
 | .bl b,e,x,h,h'=>by
  unfold Yh at h;subst h;cases e <;> unfold Yh at h' <;> first | (obtain⟨a,xs,q,_⟩:=h';cases q;done) | (cases h';rfl) | (cases h';done)
 | .int b,e,x,h,h'=>by
  unfold Yh at h;subst h;cases e <;> unfold Yh at h' <;> first | (obtain⟨a,xs,q,_⟩:=h';cases q;done) | (cases h';rfl) | (cases h';done)
 | .str b,e,x,h,h'=>by
  unfold Yh at h;subst h;cases e <;> unfold Yh at h' <;> first | (obtain⟨a,xs,q,_⟩:=h';cases q;done) | (cases h';rfl) | (cases h';done)
 | .tup ds,e,x,h,h'=>by
  unfold Yh at h;obtain⟨a,xs,rfl,hs,hr⟩:=h;cases e with
  | tup es =>
   unfold Yh at h';obtain⟨b,ys,q,hs',hr'⟩:=h';cases q;rw[I.tuple_inj hs' hs]at hr';rw[G0 I ds es xs hr hr']
  | lst es =>
   unfold Yh at h';obtain⟨b,ys,q,hs',hr'⟩:=h';cases q;exact(KL I hs' hs).elim
  | _=>unfold Yh at h';cases h'
 | .lst ds,e,x,h,h'=>by
  unfold Yh at h;obtain⟨a,xs,rfl,hs,hr⟩:=h;cases e with
  | lst es =>
   unfold Yh at h';obtain⟨b,ys,q,hs',hr'⟩:=h';cases q;rw[I.list_inj hs' hs]at hr';rw[G0 I ds es xs hr hr']
  | tup es =>
   unfold Yh at h';obtain⟨b,ys,q,hs',hr'⟩:=h';cases q;exact(KL I hs hs').elim
  | _=>unfold Yh at h';cases h'
theorem G0(I:Yg X Ya σ H s):∀(ds es:List Dv) (xs:List V),Ye X.K H ds xs->Ye X.K H es xs->ds=es
 | [],es,xs,h,h'=>by
  unfold Ye at h;subst h;cases es with
  | nil=>rfl
  | cons e es=>unfold Ye at h';obtain⟨x,r,q,_⟩:=h';cases q
 | d::ds,es,xs,h,h'=>by
  unfold Ye at h;obtain⟨x,r,rfl,h1,h2⟩:=h;cases es with
  | nil=>unfold Ye at h';cases h'
  | cons e es =>
   unfold Ye at h';obtain⟨y,r',q,h3,h4⟩:=h';cases q;rw[Gp I d e _ h1 h3,G0 I ds es _ h2 h4]
end
abbrev Eq3(A:Around)(s:Shared)(u v:Value)(b:Bool):Prop:=SeqAt.EqAt A s u v b/\SeqAt.RcAt A s u v b/\SeqAt.RcNeAt A s u v (!b)
theorem UN {ys:List V} {es:List Dv} (I:Yg X Ya σ H s) (hu:A.units < cLine) (ha:Ys X.K H a xs) (hb:Ys X.K H b ys) (hd:Ye X.K H ds xs) (he:Ye X.K H es ys)
 (ih:∀(i:Nat) (d e:Dv) (x y:V) (u v:Value),ds[i]? = some d->es[i]? = some e->xs[i]? = some x->ys[i]? = some y->Yi x u->Yi y v->SeqAt.EqAt A.in1 s u v (eqD d e)):Eq3 A s (.ref a) (.ref b) (eqD (.tup ds) (.tup es)):=by
 obtain⟨Yf,r1,p1,_⟩:=I.tuple ha;obtain⟨its2,r2,p2,_⟩:=I.tuple hb;have l1:=hd.length;have l2:=he.length;have l3:=r1.length;have l4:=r2.length
 have hitem:∀j (h1:j < Yf.toArray.size) (h2:j < its2.toArray.size),SeqAt.EqAt A.in1 s Yf.toArray[j] its2.toArray[j] (match ds[j]?,es[j]? with | some d,some e=>eqD d e | _,_=>false):=fun j h1 h2=>by
  rw[ZJ]at h1 h2;have e1:ds[j]? = some ds[j]:=ZE (by lia);have e2:es[j]? = some es[j]:=ZE (by lia);have e3:xs[j]? = some xs[j]:=ZE (by lia);have e4:ys[j]? = some ys[j]:=ZE (by lia);obtain⟨u,q1,q2⟩:=r1.get e3;obtain⟨v,q3,q4⟩:=r2.get e4;rw[e1,e2];have z1:Yf.toArray[j]=u:=by rw[ZB3];rw[ZE h1]at q1;exact ZS q1
  have z2:its2.toArray[j]=v:=by rw[ZB3];rw[ZE h2]at q3;exact ZS q3
  rw[z1,z2];exact ih j _ _ _ _ _ _ e1 e2 e3 e4 q2 q4
 have val:((List.range (min Yf.toArray.size its2.toArray.size)).all (fun j=>match ds[j]?,es[j]? with | some d,some e=>eqD d e | _,_=>false) && Yf.toArray.size == its2.toArray.size)=eqD (.tup ds) (.tup es):=by
  rw[ZJ,ZJ,<- l3,<- l4,<- l1,<- l2,Qr]
  by_cases h:ds.length=es.length
  ·rw[h,Nat.min_self,<- h,HN ds es h];simp
  ·rw[Gf ds es h]
   have:(ds.length == es.length)=false:=by simpa using h
   rw[this,Bool.and_false]
 have R:=SeqAt.RcAt.tuples (A:=A) p1 p2 hu hitem;have N:=SeqAt.RcNeAt.tuples (A:=A) p1 p2 hu hitem;rw[val]at R N;refine⟨?_,R,N⟩
 by_cases hab:a=b
 ·subst hab
  have e:ds=es:=by
   have:=Gp I (.tup ds) (.tup es) (.ref a) (by unfold Yh;exact⟨a,xs,rfl,ha,hd⟩) (by unfold Yh;exact⟨a,ys,rfl,hb,he⟩)
   cases this;rfl
  subst e;rw[GT];exact SeqAt.EqAt.same _
 ·exact .of_refs hab R
theorem WV {ys:List V} {es:List Dv} (I:Yg X Ya σ H s) (hu:A.units < cLine) (ha:Yv X.K H a xs) (hb:Yv X.K H b ys) (hd:Ye X.K H ds xs) (he:Ye X.K H es ys)
 (ih:∀(i:Nat) (d e:Dv) (x y:V) (u v:Value),ds[i]? = some d->es[i]? = some e->xs[i]? = some x->ys[i]? = some y->Yi x u->Yi y v->SeqAt.EqAt A.in1 s u v (eqD d e)):Eq3 A s (.ref a) (.ref b) (eqD (.lst ds) (.lst es)):=by
 obtain⟨Yf,r1,p1,_⟩:=I.list ha;obtain⟨its2,r2,p2,_⟩:=I.list hb;have l1:=hd.length;have l2:=he.length;have l3:=r1.length;have l4:=r2.length
 have hitem:∀j (h1:j < Yf.toArray.size) (h2:j < its2.toArray.size),SeqAt.EqAt A.in1 s Yf.toArray[j] its2.toArray[j] (match ds[j]?,es[j]? with | some d,some e=>eqD d e | _,_=>false):=fun j h1 h2=>by
  rw[ZJ]at h1 h2;have e1:ds[j]? = some ds[j]:=ZE (by lia);have e2:es[j]? = some es[j]:=ZE (by lia);have e3:xs[j]? = some xs[j]:=ZE (by lia);have e4:ys[j]? = some ys[j]:=ZE (by lia);obtain⟨u,q1,q2⟩:=r1.get e3;obtain⟨v,q3,q4⟩:=r2.get e4;rw[e1,e2];have z1:Yf.toArray[j]=u:=by rw[ZB3];rw[ZE h1]at q1;exact ZS q1
  have z2:its2.toArray[j]=v:=by rw[ZB3];rw[ZE h2]at q3;exact ZS q3
  rw[z1,z2];exact ih j _ _ _ _ _ _ e1 e2 e3 e4 q2 q4
 have RN:SeqAt.RcAt A s (.ref a) (.ref b) (eqD (.lst ds) (.lst es))/\SeqAt.RcNeAt A s (.ref a) (.ref b) (!eqD (.lst ds) (.lst es)):=by
  by_cases h:ds.length=es.length
  ·have hsz:Yf.toArray.size=its2.toArray.size:=by rw[ZJ,ZJ];lia
   have val:(List.range Yf.toArray.size).all (fun j=>match ds[j]?,es[j]? with | some d,some e=>eqD d e | _,_=>false)=eqD (.lst ds) (.lst es):=by
    rw[Ha,ZJ,<- l3,<- l1,HN ds es h]
   have R:=SeqAt.RcAt.lists (A:=A) p1.isList p2.isList hsz hu hitem;have N:=SeqAt.RcNeAt.lists (A:=A) p1.isList p2.isList hsz hu hitem;rw[val]at R N;exact⟨R,N⟩
  ·have hsz:(Yf.toArray.size != its2.toArray.size)=true:=by rw[ZJ,ZJ];simp;lia
   have val:eqD (.lst ds) (.lst es)=false:=by rw[Ha];exact Gf ds es h
   rw[val];exact⟨SeqAt.RcAt.lists_lengths p1.isList p2.isList hsz hu,SeqAt.RcNeAt.lists_lengths p1.isList p2.isList hsz hu⟩
 refine⟨?_,RN.1,RN.2⟩
 by_cases hab:a=b
 ·subst hab
  have e:ds=es:=by
   have:=Gp I (.lst ds) (.lst es) (.ref a) (by unfold Yh;exact⟨a,xs,rfl,ha,hd⟩) (by unfold Yh;exact⟨a,ys,rfl,hb,he⟩)
   cases this;rfl
  subst e;rw[GT];exact SeqAt.EqAt.same _
 ·exact .of_refs hab RN.1
theorem J4(I:Yg X Ya σ H s):∀(n:Nat) (A:Around) (d e:Dv) (x y:V) (u v:Value),BC d<=n->A.units+n < cLine->Yh X.K H d x->Yh X.K H e y->Yi x u->Yi y v->Eq3 A s u v (eqD d e):=by
 intro n
 induction n with
 | zero =>
  intro A d e x y u v hd hu hx hy ru rv;have hu':A.units < cLine:=by lia
  cases d with
  | tup ds=>unfold BC at hd;lia
  | lst ds=>unfold BC at hd;lia
  | non =>
   unfold Yh at hx;subst hx;cases ru;cases e <;> unfold Yh at hy
   case non=>subst hy;cases rv;exact⟨SeqAt.EqAt.same _,SeqAt.RcAt.none_none,SeqAt.RcNeAt.none_none⟩
   case bl=>subst hy;cases rv;exact⟨.none_bool _,.none_bool _,.none_bool _⟩
   case int=>subst hy;obtain⟨t,rfl⟩:=rv;exact⟨.none_int _ _,.none_int _ _,.none_int _ _⟩
   case str=>subst hy;obtain⟨t,rfl⟩:=rv;exact⟨.none_str _ _,.none_str _ _,.none_str _ _⟩
   case tup=>obtain⟨a,xs,rfl,ha,_⟩:=hy;cases rv;obtain⟨Yf,_,p,_⟩:=I.tuple ha;exact⟨.none_tuple p hu',.none_tuple p hu',.none_tuple p hu'⟩
   case lst=>obtain⟨a,xs,rfl,ha,_⟩:=hy;cases rv;obtain⟨Yf,_,p,_⟩:=I.list ha;exact⟨.none_list p.isList hu',.none_list p.isList hu',.none_list p.isList hu'⟩
  | bl c =>
   unfold Yh at hx;subst hx;cases ru;cases e <;> unfold Yh at hy
   case non=>subst hy;cases rv;exact⟨.bool_none _,.bool_none _,.bool_none _⟩
   case bl=>subst hy;cases rv;unfold eqD;exact⟨.bool_bool _ _,.bool_bool _ _,.bool_bool _ _⟩
   case int=>subst hy;obtain⟨t,rfl⟩:=rv;unfold eqD;exact⟨.bool_int _ _ _,.bool_int _ _ _,.bool_int _ _ _⟩
   case str=>subst hy;obtain⟨t,rfl⟩:=rv;exact⟨.bool_str _ _ _,.bool_str _ _ _,.bool_str _ _ _⟩
   case tup=>obtain⟨a,xs,rfl,ha,_⟩:=hy;cases rv;obtain⟨Yf,_,p,_⟩:=I.tuple ha;exact⟨.bool_tuple _ p hu',.bool_tuple _ p hu',.bool_tuple _ p hu'⟩
   case lst=>obtain⟨a,xs,rfl,ha,_⟩:=hy;cases rv;obtain⟨Yf,_,p,_⟩:=I.list ha;exact⟨.bool_list _ p.isList hu',.bool_list _ p.isList hu',.bool_list _ p.isList hu'⟩
  | int c =>
   unfold Yh at hx;subst hx;obtain⟨t0,rfl⟩:=ru;cases e <;> unfold Yh at hy
   case non=>subst hy;cases rv;exact⟨.int_none _ _,.int_none _ _,.int_none _ _⟩
   case bl=>subst hy;cases rv;unfold eqD;exact⟨.int_bool _ _ _,.int_bool _ _ _,.int_bool _ _ _⟩
   case int=>subst hy;obtain⟨t,rfl⟩:=rv;unfold eqD;exact⟨.int_int _ _ _ _,.int_int _ _ _ _,.int_int _ _ _ _⟩
   case str=>subst hy;obtain⟨t,rfl⟩:=rv;exact⟨.int_str _ _ _ _,.int_str _ _ _ _,.int_str _ _ _ _⟩
   case tup=>obtain⟨a,xs,rfl,ha,_⟩:=hy;cases rv;obtain⟨Yf,_,p,_⟩:=I.tuple ha;exact⟨.int_tuple _ _ p hu',.int_tuple _ _ p hu',.int_tuple _ _ p hu'⟩
   case lst=>obtain⟨a,xs,rfl,ha,_⟩:=hy;cases rv;obtain⟨Yf,_,p,_⟩:=I.list ha;exact⟨.int_list _ _ p.isList hu',.int_list _ _ p.isList hu',.int_list _ _ p.isList hu'⟩
  | str c =>
   unfold Yh at hx;subst hx;obtain⟨t0,rfl⟩:=ru;cases e <;> unfold Yh at hy
   case non=>subst hy;cases rv;exact⟨.str_none _ _,.str_none _ _,.str_none _ _⟩
   case bl=>subst hy;cases rv;exact⟨.str_bool _ _ _,.str_bool _ _ _,.str_bool _ _ _⟩
   case int=>subst hy;obtain⟨t,rfl⟩:=rv;exact⟨.str_int _ _ _ _,.str_int _ _ _ _,.str_int _ _ _ _⟩
   case str=>subst hy;obtain⟨t,rfl⟩:=rv;unfold eqD;exact⟨.str_str _ _ _ _,.str_str _ _ _ _,.str_str _ _ _ _⟩
   case tup=>obtain⟨a,xs,rfl,ha,_⟩:=hy;cases rv;obtain⟨Yf,_,p,_⟩:=I.tuple ha;exact⟨.str_tuple _ _ p hu',.str_tuple _ _ p hu',.str_tuple _ _ p hu'⟩
   case lst=>obtain⟨a,xs,rfl,ha,_⟩:=hy;cases rv;obtain⟨Yf,_,p,_⟩:=I.list ha;exact⟨.str_list _ _ p.isList hu',.str_list _ _ p.isList hu',.str_list _ _ p.isList hu'⟩
 | succ n ih =>
  intro A d e x y u v hd hu hx hy ru rv;have hu':A.units < cLine:=by lia
  have hin:A.in1.units+n < cLine:=by show A.units+1+n < cLine;lia
  cases d with
  | tup ds =>
   unfold BC at hd;unfold Yh at hx;obtain⟨a,xs,rfl,ha,hr⟩:=hx;cases ru;cases e <;> unfold Yh at hy
   case tup es =>
    obtain⟨b,ys,rfl,hb,hr'⟩:=hy;cases rv;refine UN I hu' ha hb hr hr' fun i d e x y u v e1 e2 e3 e4 ru rv=>?_
    obtain⟨x',q1,q2⟩:=hr.get e1;obtain⟨y',q3,q4⟩:=hr'.get e2;rw[e3]at q1;cases q1;rw[e4]at q3;cases q3;exact(ih A.in1 d e x y u v (by have:=Ki e1;lia) hin q2 q4 ru rv).1
   case non=>subst hy;cases rv;obtain⟨Yf,_,p,_⟩:=I.tuple ha;exact⟨.tuple_none p hu',.tuple_none p hu',.tuple_none p hu'⟩
   case bl=>subst hy;cases rv;obtain⟨Yf,_,p,_⟩:=I.tuple ha;exact⟨.tuple_bool _ p hu',.tuple_bool _ p hu',.tuple_bool _ p hu'⟩
   case int=>subst hy;obtain⟨t,rfl⟩:=rv;obtain⟨Yf,_,p,_⟩:=I.tuple ha;exact⟨.tuple_int _ _ p hu',.tuple_int _ _ p hu',.tuple_int _ _ p hu'⟩
   case str=>subst hy;obtain⟨t,rfl⟩:=rv;obtain⟨Yf,_,p,_⟩:=I.tuple ha;exact⟨.tuple_str _ _ p hu',.tuple_str _ _ p hu',.tuple_str _ _ p hu'⟩
   case lst=>obtain⟨b,ys,rfl,hb,_⟩:=hy;cases rv;obtain⟨Yf,_,p,_⟩:=I.tuple ha;obtain⟨its2,_,p2,_⟩:=I.list hb;exact⟨.tuple_list p p2.isList hu',.tuple_list p p2.isList hu',.tuple_list p p2.isList hu'⟩
  | lst ds =>
   unfold BC at hd;unfold Yh at hx;obtain⟨a,xs,rfl,ha,hr⟩:=hx;cases ru;cases e <;> unfold Yh at hy
   case lst es =>
    obtain⟨b,ys,rfl,hb,hr'⟩:=hy;cases rv;refine WV I hu' ha hb hr hr' fun i d e x y u v e1 e2 e3 e4 ru rv=>?_
    obtain⟨x',q1,q2⟩:=hr.get e1;obtain⟨y',q3,q4⟩:=hr'.get e2;rw[e3]at q1;cases q1;rw[e4]at q3;cases q3;exact(ih A.in1 d e x y u v (by have:=Ki e1;lia) hin q2 q4 ru rv).1
   case non=>subst hy;cases rv;obtain⟨Yf,_,p,_⟩:=I.list ha;exact⟨.list_none p.isList hu',.list_none p.isList hu',.list_none p.isList hu'⟩
   case bl=>subst hy;cases rv;obtain⟨Yf,_,p,_⟩:=I.list ha;exact⟨.list_bool _ p.isList hu',.list_bool _ p.isList hu',.list_bool _ p.isList hu'⟩
   case int=>subst hy;obtain⟨t,rfl⟩:=rv;obtain⟨Yf,_,p,_⟩:=I.list ha;exact⟨.list_int _ _ p.isList hu',.list_int _ _ p.isList hu',.list_int _ _ p.isList hu'⟩
   case str=>subst hy;obtain⟨t,rfl⟩:=rv;obtain⟨Yf,_,p,_⟩:=I.list ha;exact⟨.list_str _ _ p.isList hu',.list_str _ _ p.isList hu',.list_str _ _ p.isList hu'⟩
   case tup=>obtain⟨b,ys,rfl,hb,_⟩:=hy;cases rv;obtain⟨Yf,_,p,_⟩:=I.list ha;obtain⟨its2,_,p2,_⟩:=I.tuple hb;exact⟨.list_tuple p.isList p2 hu',.list_tuple p.isList p2 hu',.list_tuple p.isList p2 hu'⟩
  | non=>exact ih A .non e x y u v (by unfold BC;lia) (by lia) hx hy ru rv
  | bl c=>exact ih A (.bl c) e x y u v (by unfold BC;lia) (by lia) hx hy ru rv
  | int c=>exact ih A (.int c) e x y u v (by unfold BC;lia) (by lia) hx hy ru rv
  | str c=>exact ih A (.str c) e x y u v (by unfold BC;lia) (by lia) hx hy ru rv
end
section
variable {X:Cx}
def mEq(neg:Bool)(K:W.Frag):R2:=fun x y H Q=>match x,y with
 | .non,.non=>Q (.bl (neg ^^ true)) H
 | .bl a,.bl b=>Q (.bl (neg ^^ (a == b))) H
 | .int a,.int b=>Q (.bl (neg ^^ (a == b))) H
 | .str a,.str b=>Q (.bl (neg ^^ (a == b))) H
 | x,y=>∃d e,Yh K H d x/\Yh K H e y/\BC d<=60/\Q (.bl (neg ^^ eqD d e)) H
theorem Qe(hu:X.A.units+60 < cLine):Yx X (compareOp .Eq) (fun x y H Q=>∃d e,Yh X.K H d x/\Yh X.K H e y/\BC d<=60/\Q (.bl (eqD d e)) H):=by
 intro Ya s σ H x y v u Q I rx ry h;obtain⟨d,e,h1,h2,h3,q⟩:=h;exact(J4 I 60 X.A d e x y v u h3 hu h1 h2 rx ry).2.1 X.prog X.w _ _ ⟨.bl _,H,I,rfl,q⟩
theorem om_neAll(hu:X.A.units+60 < cLine):Yx X (compareOp .NotEq) (fun x y H Q=>∃d e,Yh X.K H d x/\Yh X.K H e y/\BC d<=60/\Q (.bl (!eqD d e)) H):=by
 intro Ya s σ H x y v u Q I rx ry h;obtain⟨d,e,h1,h2,h3,q⟩:=h;exact(J4 I 60 X.A d e x y v u h3 hu h1 h2 rx ry).2.2 X.prog X.w _ _ ⟨.bl _,H,I,rfl,q⟩
theorem Kq{neg:Bool}{x:V}{Q:VK}(h:mEq neg K x y H Q):∃d e,Yh K H d x/\Yh K H e y/\BC d<=60/\Q (.bl (neg ^^ eqD d e)) H:=by
 unfold mEq at h;split at h
 ·exact⟨.non,.non,by unfold Yh;rfl,by unfold Yh;rfl,by unfold BC;lia,by unfold eqD;exact h⟩
 ·rename_i a b;exact⟨.bl a,.bl b,by unfold Yh;rfl,by unfold Yh;rfl,by unfold BC;lia,by unfold eqD;exact h⟩
 ·rename_i a b;exact⟨.int a,.int b,by unfold Yh;rfl,by unfold Yh;rfl,by unfold BC;lia,by unfold eqD;exact h⟩
 ·rename_i a b;exact⟨.str a,.str b,by unfold Yh;rfl,by unfold Yh;rfl,by unfold BC;lia,by unfold eqD;exact h⟩
 ·exact h
theorem N1(hu:X.A.units+60 < cLine):Yx X (compareOp .Eq) (mEq false X.K):=(Qe hu).imp fun x y H Q h=>by
 obtain⟨d,e,h1,h2,h3,q⟩:=Kq h;exact⟨d,e,h1,h2,h3,by rw[Z2]at q;exact q⟩
theorem Oq(hu:X.A.units+60 < cLine):Yx X (compareOp .NotEq) (mEq true X.K):=(om_neAll hu).imp fun x y H Q h=>by
 obtain⟨d,e,h1,h2,h3,q⟩:=Kq h;exact⟨d,e,h1,h2,h3,by rw[Bool.true_xor]at q;exact q⟩
end
section
variable {X:Cx}{a b c e:Expr}{es:List Expr}{ta tb tc te:TE}{tA tB':TT}{t:TA}{pos p:Pos}{x:Str}
def isB(v:V)(Q:Bool->Prop):Prop:=match v with
 | .bl c=>Q c
 | _=>False
theorem C0{Q:Bool->Prop}(h:isB v Q):∃c,v=.bl c/\Q c:=by
 cases v <;> first | exact False.elim h | exact⟨_,rfl,h⟩
def Ad(t:TE):Prop:=∀σ H (Q Q':VK),(∀v H,Q v H->Q' v H)->t σ H Q->t σ H Q'
def uB(t:TE):TT:=fun σ H Q=>t σ H fun x H1=>isB x fun c=>Q c H1
theorem AV{op:CmpOp}(ho:Yx X (compareOp op) r)(ha:PE X a ta)(hb:PE X b tb)(hm:behindInMarks op b=false:=by first | exact GS _ (by decide) (by decide) | rfl):PT X (.Compare a [op] [b] pos) (uB (tOp r ta tb)):=by
 intro Ya s σ H Q I h
 refine wpAny_isTrue_Compare1 (Ym (ha Ya s σ H _ I h) fun v s1 ⟨x,H1,I1,r1,q1⟩=>Ym (hb Ya s1 σ H1 _ I1 q1) fun u s2 ⟨y,H2,I2,r2,q2⟩ =>
  Ym (ho Ya s2 σ H2 x y v u _ I2 r1 r2 q2) fun c s3 ⟨z,H3,I3,r3,q⟩=>?_) hm
 obtain⟨k,e,q3⟩:=C0 q;subst e;cases r3;exact ZBC ⟨H3,I3,q3⟩
theorem BN{op:CmpOp}(ho:Yx X (compareOp op) r)(ha:PE X a ta)(hb:PE X b tb)(hm:behindInMarks op b=false:=by first | exact GS _ (by decide) (by decide) | rfl):PE X (.Compare a [op] [b] pos) (tOp r ta tb):=Rq ho ha hb hm
theorem Az(h:PE X e te)(he:∀whole,isTrue e X.env whole=(do let v <- whole;standAt e.pos;holding [v] (truthy v)):=by intro _;rfl):PT X e (uB te):=by
 intro Ya s σ H Q I hq;refine isTrue_plain (Ym (h Ya s σ H _ I hq) fun v s1 ⟨x,H1,I1,r1,q1⟩=>?_) (he _);obtain⟨k,e,q⟩:=C0 q1;subst e;cases r1;exact ZBC ⟨H1,I1,q⟩
def LO(r r':R2)(ta tb tc:TE):TE:=fun σ H Q=>ta σ H fun x H1=>tb σ H1 fun y H2=>r x y H2 fun z H3=>isB z fun k =>
 (if k=true then tc σ H3 fun w' H4=>r' y w' H4 Q else Q (.bl false) H3)
theorem Ru {op op':CmpOp} {r':R2} (ho:Yx X (compareOp op) r) (ho':Yx X (compareOp op') r') (ha:PE X a ta) (hb:PE X b tb) (hc:PE X c tc)
 (hm:lastMarks [op,op'] [b,c]=false:=by with_unfolding_all rfl):PE X (.Compare a [op,op'] [b,c] pos) (LO r r' ta tb tc):=by
 intro Ya s σ H Q I h
 refine Compare_chain (Ym (ha Ya s σ H _ I h) fun v s1 ⟨x,H1,I1,r1,q1⟩=>chain_link (Ym (hb Ya s1 σ H1 _ I1 q1) fun u s2 ⟨y,H2,I2,r2,q2⟩ =>
  Ym (ho Ya s2 σ H2 x y v u _ I2 r1 r2 q2) fun d s3 ⟨z,H3,I3,r3,q⟩=>?_)) hm
 obtain⟨k,e,q3⟩:=C0 q;subst e;cases r3;refine ZBC ?_;cases k with
 | false=>exact ite_ff ⟨.bl false,H3,I3,rfl,q3⟩
 | true=>exact ite_tt (chain_last (Ym (hc Ya s3 σ H3 _ I3 q3) fun w' s4 ⟨z',H4,I4,r4,q4⟩=>ho' Ya s4 σ H4 y z' u w' Q I4 r2 r4 q4))
theorem Oo {op op':CmpOp} {r':R2} (ho:Yx X (compareOp op) r) (ho':Yx X (compareOp op') r') (ha:PE X a ta) (hb:PE X b tb) (hc:PE X c tc)
 (hm:lastMarks [op,op'] [b,c]=false:=by with_unfolding_all rfl):PT X (.Compare a [op,op'] [b,c] pos) (uB (LO r r' ta tb tc)):=by
 intro Ya s σ H Q I h
 refine isTrue_chain (Ym (ha Ya s σ H _ I h) fun v s1 ⟨x,H1,I1,r1,q1⟩=>test_link (Ym (hb Ya s1 σ H1 _ I1 q1) fun u s2 ⟨y,H2,I2,r2,q2⟩ =>
  Ym (ho Ya s2 σ H2 x y v u _ I2 r1 r2 q2) fun d s3 ⟨z,H3,I3,r3,q⟩=>?_)) hm
 obtain⟨k,e,q3⟩:=C0 q;subst e;cases r3;refine ZBC ?_;cases k with
 | false =>
  have q3:Q false H3:=q3;exact ite_ff ⟨H3,I3,q3⟩
 | true =>
  refine ite_tt (test_last (Ym (hc Ya s3 σ H3 _ I3 q3) fun w' s4 ⟨z',H4,I4,r4,q4⟩=>Ym (ho' Ya s4 σ H4 y z' u w' _ I4 r2 r4 q4) fun d' s5 ⟨z2,H5,I5,r5,q5⟩=>?_));obtain⟨k2,e2,q5⟩:=C0 q5;subst e2;cases r5;exact ZBC ⟨H5,I5,q5⟩
def Rl(ta tb:TE):TE:=fun σ H Q=>ta σ H fun x H1=>isB x fun c=>if c=true then tb σ H1 Q else Q (.bl false) H1
def vOr(ta tb:TE):TE:=fun σ H Q=>ta σ H fun x H1=>isB x fun c=>if c=true then Q (.bl true) H1 else tb σ H1 Q
def Oi(ta:TE):TE:=fun σ H Q=>ta σ H fun x H1=>isB x fun c=>Q (.bl (!c)) H1
theorem CU(ha:PE X a ta)(hb:PE X (.BoolOp .And (b::es) pos) tb):PE X (.BoolOp .And (a::b::es) pos) (Rl ta tb):=by
 have ha':PE X a (fun σ H Q=>ta σ H fun x H1=>isB x fun c=>Q (.bl c) H1):=fun Ya s σ H Q I h=>Ym (ha Ya s σ H _ I h) fun v s1 ⟨x,H1,I1,r1,q1⟩=>by
  obtain⟨c,e,q⟩:=C0 q1;subst e;exact⟨.bl c,H1,I1,r1,q⟩
 have h:=QI (pos:=pos) ha' hb
 exact h.imp fun σ H Q q=>by
  show ta σ H fun x H1=>isB x fun c=>∃c',V.bl c=.bl c'/\if c'=true then tb σ H1 Q else Q (.bl false) H1
  have e:(fun(x:V) (H1:Hp)=>isB x fun c=>∃c',V.bl c=.bl c'/\if c'=true then tb σ H1 Q else Q (.bl false) H1)=fun x H1=>isB x fun c=>if c=true then tb σ H1 Q else Q (.bl false) H1:=by
   funext x H1
   cases x <;> first | rfl | (apply propext;constructor;(rintro⟨c',e,h⟩;cases e;exact h);(intro h;exact⟨_,rfl,h⟩))
  rw[e];exact q
theorem HG(ha:PE X a ta)(hb:PE X (.BoolOp .Or (b::es) pos) tb):PE X (.BoolOp .Or (a::b::es) pos) (vOr ta tb):=by
 have ha':PE X a (fun σ H Q=>ta σ H fun x H1=>isB x fun c=>Q (.bl c) H1):=fun Ya s σ H Q I h=>Ym (ha Ya s σ H _ I h) fun v s1 ⟨x,H1,I1,r1,q1⟩=>by
  obtain⟨c,e,q⟩:=C0 q1;subst e;exact⟨.bl c,H1,I1,r1,q⟩
 have h:=TB (pos:=pos) ha' hb
 exact h.imp fun σ H Q q=>by
  show ta σ H fun x H1=>isB x fun c=>∃c',V.bl c=.bl c'/\if c'=true then Q (.bl true) H1 else tb σ H1 Q
  have e:(fun(x:V) (H1:Hp)=>isB x fun c=>∃c',V.bl c=.bl c'/\if c'=true then Q (.bl true) H1 else tb σ H1 Q)=fun x H1=>isB x fun c=>if c=true then Q (.bl true) H1 else tb σ H1 Q:=by
   funext x H1
   cases x <;> first | rfl | (apply propext;constructor;(rintro⟨c',e,h⟩;cases e;exact h);(intro h;exact⟨_,rfl,h⟩))
  rw[e];exact q
theorem Qw(ha:PE X a ta):PE X (.UnaryOp .Not a pos) (Oi ta):=by
 have ha':PE X a (fun σ H Q=>ta σ H fun x H1=>isB x fun c=>Q (.bl c) H1):=fun Ya s σ H Q I h=>Ym (ha Ya s σ H _ I h) fun v s1 ⟨x,H1,I1,r1,q1⟩=>by
  obtain⟨c,e,q⟩:=C0 q1;subst e;exact⟨.bl c,H1,I1,r1,q⟩
 have h:=P0 (pos:=pos) ha'
 exact h.imp fun σ H Q q=>by
  show ta σ H fun x H1=>isB x fun c=>∃c',V.bl c=.bl c'/\Q (.bl (!c')) H1
  have e:(fun(x:V) (H1:Hp)=>isB x fun c=>∃c',V.bl c=.bl c'/\Q (.bl (!c')) H1)=fun x H1=>isB x fun c=>Q (.bl (!c)) H1:=by
   funext x H1
   cases x <;> first | rfl | (apply propext;constructor;(rintro⟨c',e,h⟩;cases e;exact h);(intro h;exact⟨_,rfl,h⟩))
  rw[e];exact q
def SqA(K:W.Frag)(H:Hp)(p:Addr)(xs:List V):Prop:=Yv K H p xs\/Ys K H p xs
def mIx(K:W.Frag):R2:=fun x y H Q=>match x,y with
 | .ref p,.int i=>∃xs v,SqA K H p xs/\atI xs i=some v/\Q v H
 | .str z,.int i=>∃c,z.length<=sizeLine/\atI z.cps.toList i=some c/\Q (.str ⟨#[c]⟩) H
 | _,_=>False
theorem IxR.imp{r':R2}(h:IxR X r)(g:∀x y H Q,r' x y H Q->r x y H Q):IxR X r':=fun a b Ya s σ H x y v u Q I rx ry q z=>h a b Ya s σ H x y v u Q I rx ry (g _ _ _ _ q) z
theorem V6:IxR X (mIx X.K):=ix_seq.imp fun x y H Q q=>by
 cases x <;> cases y <;> first
  | exact False.elim q
  | (obtain⟨xs,v,h | h,e,q⟩:=q
     ·exact .inl ⟨_,xs,_,v,rfl,rfl,h,e,q⟩
     ·exact .inr (.inl ⟨_,xs,_,v,rfl,rfl,h,e,q⟩))
  | (obtain⟨c,hz,e,q⟩:=q
     exact .inr (.inr ⟨_,_,c,rfl,rfl,hz,e,q⟩))
theorem QA(ha:PE X a ta)(hb:PE X b tb)(hs:GZ b:=by intro _ _;rfl):PE X (.Subscript a b pos) (tOp (mIx X.K) ta tb):=UF V6 ha hb hs
def Eg(K:W.Frag):List V->Hp->VK->Prop:=fun xs H Q=>match xs with
 | [x]=>∃n,K7 K x H n/\Q (.int n) H
 | _=>False
theorem RW:CallR X (.builtin "len") (Eg X.K):=call_len.imp fun xs H Q q=>by
 match xs,q with
 | [x],⟨n,h,q⟩=>exact⟨x,n,rfl,h,q⟩
def G6:List V->Hp->VK->Prop:=fun xs H Q=>match xs with
 | [.int i,.int j]=>Q (.int (max i j)) H
 | _=>False
theorem FS(hc:X.calm=true):CallR X (.builtin "max") G6:=(OP hc).imp fun xs H Q q=>by
 match xs,q with
 | [.int i,.int j],q =>
  refine⟨i,j,rfl,?_⟩;have e:(if j > i then j else i)=max i j:=by split <;> lia
  rw[e];exact q
def HX:List V->Hp->VK->Prop:=fun xs H Q=>match xs with
 | [.int i,.int j]=>Q (.int (min i j)) H
 | _=>False
theorem V4(hc:X.calm=true):CallR X (.builtin "min") HX:=(Ug hc).imp fun xs H Q q=>by
 match xs,q with
 | [.int i,.int j],q =>
  refine⟨i,j,rfl,?_⟩;have e:(if j < i then j else i)=min i j:=by split <;> lia
  rw[e];exact q
def Uf:List V->Hp->VK->Prop:=fun xs H Q=>match xs with
 | [.int i]=>Q (.int i) H
 | [.bl k]=>Q (.int (if k then 1 else 0)) H
 | _=>False
theorem OT:CallR X (.type "int") Uf:=call_int1.imp fun xs H Q q=>by
 match xs,q with
 | [.int i],q=>exact .inl ⟨i,rfl,q⟩
 | [.bl k],q=>exact .inr ⟨k,rfl,q⟩
def GI(K:W.Frag):List V->Hp->VK->Prop:=fun xs H Q=>match xs with
 | [.ref p]=>∃ys,(Yv K H p ys/\∀l,H l=none->Q (.ref l) (upd H l (.tup ys)))\/(Ys K H p ys/\Q (.ref p) H)
 | _=>False
theorem Pr:CallR X (.type "tuple") (GI X.K):=call_tuple_of.imp fun xs H Q q=>by
 match xs,q with
 | [.ref p],⟨ys,q⟩=>exact⟨p,ys,rfl,q⟩
def J6(K:W.Frag):List V->Hp->VK->Prop:=fun xs H Q=>match xs with
 | [.ref p]=>∃ys,SqA K H p ys/\∀l,H l=none->Q (.ref l) (upd H l (.lst ys))
 | _=>False
theorem Qb:CallR X (.type "list") (J6 X.K):=call_list_of.imp fun xs H Q q=>by
 match xs,q with
 | [.ref p],⟨ys,h,q⟩=>exact⟨p,ys,rfl,h,q⟩
def LZ(K:W.Frag)(T:String)(x:V)(H:Hp)(b:Bool):Prop:=match x with
 | .non=>b=(T == "NoneType")
 | .bl _=>b=(T == "bool" || T == "int")
 | .int _=>b=(T == "int")
 | .str _=>b=(T == "str")
 | .ref a=>(∃xs,(H a=some (.lst xs)\/∃o,H a=some (.frz o (.lst xs)))/\b=(T == "list"))\/(∃xs,H a=some (.tup xs)/\b=(T == "tuple"))\/((∃Yd,H a=some (.dK Yd))/\b=(T == "dict"))\/((∃Yd,H a=some (.dT Yd))/\b=(T == "dict"))
 | _=>False
def kinds:List String:=["int","bool","str","tuple","list","dict"]
theorem Wq(K:W.Frag):∀T∈kinds,PySem.W.kitOne K (.type "NoneType") (.type T)=some (T == "NoneType")/\PySem.W.kitOne K (.type "bool") (.type T)=some (T == "bool" || T == "int") /\
 PySem.W.kitOne K (.type "int") (.type T)=some (T == "int")/\PySem.W.kitOne K (.type "str") (.type T)=some (T == "str")/\PySem.W.kitOne K (.type "list") (.type T)=some (T == "list") /\
 PySem.W.kitOne K (.type "tuple") (.type T)=some (T == "tuple")/\PySem.W.kitOne K (.type "dict") (.type T)=some (T == "dict"):=by
 intro T h;unfold kinds at h
 rcases ZH.mp h with rfl | h
 ·exact⟨rfl,rfl,rfl,rfl,rfl,rfl,rfl⟩
 rcases ZH.mp h with rfl | h
 ·exact⟨rfl,rfl,rfl,rfl,rfl,rfl,rfl⟩
 rcases ZH.mp h with rfl | h
 ·exact⟨rfl,rfl,rfl,rfl,rfl,rfl,rfl⟩
 rcases ZH.mp h with rfl | h
 ·exact⟨rfl,rfl,rfl,rfl,rfl,rfl,rfl⟩
 rcases ZH.mp h with rfl | h
 ·exact⟨rfl,rfl,rfl,rfl,rfl,rfl,rfl⟩
 rcases ZH.mp h with rfl | h
 ·exact⟨rfl,rfl,rfl,rfl,rfl,rfl,rfl⟩
 ·exact absurd h (by simp)
theorem WC{T:String}{k:Bool}(hT:T∈kinds)(h:LZ K T v H k):∃ty,TyOf K H v ty/\PySem.W.kitOne K ty (.type T)=some k:=by
 obtain⟨k1,k2,k3,k4,k5,k6,k7⟩:=Wq K T hT;cases v with
 | non=>cases (show k=_ from h);exact⟨_,.non,k1⟩
 | bl _=>cases (show k=_ from h);exact⟨_,.bl _,k2⟩
 | int _=>cases (show k=_ from h);exact⟨_,.int _,k3⟩
 | str _=>cases (show k=_ from h);exact⟨_,.str _,k4⟩
 | ref q =>
  rcases h with ⟨xs,h | ⟨o,h⟩,e⟩ | ⟨xs,h,e⟩ | ⟨⟨Yd,h⟩,e⟩ | ⟨⟨Yd,h⟩,e⟩
  ·subst e;exact⟨_,.lst h,k5⟩
  ·subst e;exact⟨_,.frz h,k5⟩
  ·subst e;exact⟨_,.tup h,k6⟩
  ·subst e;exact⟨_,.dK h,k7⟩
  ·subst e;exact⟨_,.dT h,k7⟩
 | _=>exact False.elim h
def Tl(K:W.Frag):List V->Hp->VK->Prop:=fun xs H Q=>match xs with
 | [x,.ty T]=>T∈kinds/\∃k,LZ K T x H k/\Q (.bl k) H
 | _=>False
theorem JR:CallR X (.builtin "isinstance") (Tl X.K):=by
 intro Ya s σ H xs us Q I r q
 match xs,q with
 | [x,.ty T],q =>
  obtain⟨hT,k,h,q⟩:=q;obtain⟨u,w',rfl,ru,rw'⟩:=DB r;cases rw';obtain⟨ty,h1,h2⟩:=WC hT h;exact Om I ru h1 h2 fun tk=>⟨.bl k,H,I.tok _,rfl,q⟩
end
def FH(scope sc:Scope):Bool :=
 decide (scope.kind=.function) && decide (scope.names.map (·.1)).Nodup && scope.names.all fun y=>!(y.2 == .free) || (sc.names.lookup y.1 == some .cell || sc.names.lookup y.1 == some .free)
theorem CompScope.of{scope sc:Scope}(h:FH scope sc=true):CompScope scope sc:=by
 unfold FH at h;rw[ZQ,ZQ]at h;obtain⟨⟨h1,h2⟩,h3⟩:=h;refine⟨ZM h1,ZM h2,fun y hy hf=>?_⟩
 have:=ZBH.mp h3 y hy
 rw[hf]at this
 rcases(Bool.or_eq_true _ _).mp this with z | z
 ·exact absurd z (by decide)
 ·rcases(Bool.or_eq_true _ _).mp z with z | z
  ·exact .inl (by simpa using z)
  ·exact .inr (by simpa using z)
section
variable {X:Cx}{tg iter elt:Expr}{ifs:List Expr}{scope:Scope}{pos:Pos}{N':List Str}{own:Nat}{ix:List Nat}{g:TG}{tc:TT}{te:TE}{wi:TI}
theorem frB{l:List Str}(h:(l.all fun x=>scope.names.lookup x == some .free)=true):∀x∈l,scope.names.lookup x=some .free:=fun x hx=>by
 have:=ZBH.mp h x hx
 simpa using this
theorem Ao (hc:X.calm=true) (hi:PI X tg iter wi) (S:FH scope X.env.scope=true)
 (Yk:N'.length=own+ix.length) (hN:(N'.drop own).map some=ix.map (X.N[·]?)) (hfr:((N'.drop own).all fun x=>scope.names.lookup x == some .free)=true)
 (hg:∀c,PG (X.comp scope N' c) tg g) (hgo:Cp own g) (ht:∀c,PTs (X.comp scope N' c) ifs tc) (he:∀c,PE (X.comp scope N' c) elt te)
 (hs:∀x,foldedSetIterable iter X.env x=pure x:=by intro _;rfl):PE X (.ListComp elt [⟨tg,iter,ifs,0⟩] scope pos) (Ex wi own ix g tc te) :=
 RK hc hi (.of S) Yk hN (frB hfr) hg hgo ht he hs
theorem He {i:Nat} {y:Str} {py spos:Pos} (hc:X.calm=true) (hnd:X.N.Nodup) (hiy:X.N[i]? = some y) (hy:X.env.scope.names.lookup y=some .local) (hi:PI X tg iter wi) (S:FH scope X.env.scope=true)
 (Yk:N'.length=own+ix.length) (hN:(N'.drop own).map some=ix.map (X.N[·]?)) (hfr:((N'.drop own).all fun x=>scope.names.lookup x == some .free)=true)
 (hg:∀c,PG (X.comp scope N' c) tg g) (hgo:Cp own g) (ht:∀c,PTs (X.comp scope N' c) ifs tc) (he:∀c,PE (X.comp scope N' c) elt te)
 (hsw:swapsWith (.ListComp elt [⟨tg,iter,ifs,0⟩] scope pos) (some (.Name y py)) spos.line X.env=pure true)
 (hs:∀x,foldedSetIterable iter X.env x=pure x:=by intro _;rfl):PS X (.Assign [.Name y py] (.ListComp elt [⟨tg,iter,ifs,0⟩] scope pos) spos) (EY (Ex wi own ix g tc te) (Aa i)) :=
 Qx hc hnd hiy hy hi (.of S) Yk hN (frB hfr) hg hgo ht he hsw hs
def Jl(K:W.Frag)(tl:TE):TI:=fun σ H R=>tl σ H fun x H1=>match x with
 | .ref a=>((∃xs,Yv K H1 a xs)/\R (Itl K a) H1)\/((∃xs,Ys K H1 a xs)/\R (Itt K a) H1)
 | _=>False
theorem O9{l:Expr}{tl:TE}(hl:PE X l tl):PI X tg l (Jl X.K tl):=by
 intro Ya s σ H R I h;refine Ym (hl Ya s σ H _ I h) fun v s1 ⟨x,H1,I1,r1,q1⟩=>?_
 cases x with
 | ref a =>
  cases r1
  rcases q1 with ⟨⟨xs,hq⟩,q⟩ | ⟨⟨xs,hq⟩,q⟩
  ·obtain⟨Yf,rv,p,hz⟩:=I1.list hq;refine wpAny_pyIter_list p.isList ?_;refine⟨s1.heap.objs.size,[s1.heap.objs.size],_,_,H1,rfl,I1.kept (t':=s1.toks) fun b o e=>ZF _ e,Nv a _,⟨_,ZN _ rfl,rfl,rfl⟩,fun b hb=>?_,q⟩;have e:b=s1.heap.objs.size:=by simpa using hb
   subst e;exact I1.fpOk (ZD _) (I1.hok.fresh (ZD _))
  ·obtain⟨Yf,rv,p,hz⟩:=I1.tuple hq;refine wpAny_pyIter_tuple (show s1.heap.IsTuple a Yf.toArray from p) ?_;refine⟨s1.heap.objs.size,[s1.heap.objs.size],_,_,H1,rfl,I1.kept (t':=s1.toks) fun b o e=>ZF _ e,Tm a _,⟨_,ZN _ rfl,rfl,rfl⟩,fun b hb=>?_,q⟩;have e:b=s1.heap.objs.size:=by simpa using hb
   subst e;exact I1.fpOk (ZD _) (I1.hok.fresh (ZD _))
 | _=>exact False.elim q1
def HA:Dn:=fun o i v H Q=>match o,i with
 | .ref p,.int k=>∃xs j,H p=some (.lst xs)/\ixN xs.length k=some j/\Q (upd H p (.lst (xs.set j v)))
 | _,_=>False
theorem D9:IR X HA:=by
 intro Ya s σ H o i v ov iv u Q I ro ri rv h
 cases o <;> cases i <;> first
  | exact False.elim h
  | (obtain⟨xs,j,h1,h2,q⟩:=h
     exact Rp Ya s σ H _ _ v ov iv u Q I ro ri rv ⟨_,xs,_,j,rfl,rfl,h1,h2,q⟩)
theorem EE {Q:VK} (Pv:Nat->List V->Hp->Prop) (h0:Pv 0 [] H) (hl:∀i ys H,i<=xs.length->Pv i ys H->Yv K H a xs) (hz:∀i ys H,i < xs.length->Pv i ys H->ys.length < sizeLine)
 (hs:∀i x ys H,xs[i]? = some x->Pv i ys H->g x σc H fun σ2 H2=>tc σ2 H2 fun b H3=>if b=true then te σ2 H3 fun y H4=>Pv (i+1) (ys++[y]) H4 else Pv (i+1) ys H3)
 (hd:∀ys H,Pv xs.length ys H->∀p,H p=none->Q (.ref p) (upd H p (.lst ys))):C3 (Itl K a) g tc te σc Q H:=by
 refine⟨fun i m ys H=>m=xs.length - i/\i<=xs.length/\Pv i ys H,⟨xs.length,by simp,ZP _,h0⟩,?_⟩;rintro i m ys H ⟨rfl,hi,p⟩;have q:=hl i ys H hi p
 by_cases Yr:i < xs.length
 ·refine .inr ⟨⟨xs,xs[i],q,by simp[Yr]⟩,hz i ys H Yr p,Pv (i+1),fun ys' H' p'=>⟨xs.length - (i+1),by lia,rfl,Yr,p'⟩,fun x H' y=>?_⟩;obtain⟨e,y⟩:=y;subst e;exact hs i x ys _ (y xs q) p
 ·have e:i=xs.length:=by lia
  subst e;exact .inl ⟨⟨xs,q,ZD _⟩,hd ys H p⟩
theorem CT {Q:VK} (Pv:Nat->List V->Hp->Prop) (h0:Pv 0 [] H) (hl:∀i ys H,i<=xs.length->Pv i ys H->Ys K H a xs) (hz:∀i ys H,i < xs.length->Pv i ys H->ys.length < sizeLine)
 (hs:∀i x ys H,xs[i]? = some x->Pv i ys H->g x σc H fun σ2 H2=>tc σ2 H2 fun b H3=>if b=true then te σ2 H3 fun y H4=>Pv (i+1) (ys++[y]) H4 else Pv (i+1) ys H3)
 (hd:∀ys H,Pv xs.length ys H->∀p,H p=none->Q (.ref p) (upd H p (.lst ys))):C3 (Itt K a) g tc te σc Q H:=by
 refine⟨fun i m ys H=>m=xs.length - i/\i<=xs.length/\Pv i ys H,⟨xs.length,by simp,ZP _,h0⟩,?_⟩;rintro i m ys H ⟨rfl,hi,p⟩;have q:=hl i ys H hi p
 by_cases Yr:i < xs.length
 ·refine .inr ⟨⟨xs,xs[i],q,by simp[Yr]⟩,hz i ys H Yr p,Pv (i+1),fun ys' H' p'=>⟨xs.length - (i+1),by lia,rfl,Yr,p'⟩,fun x H' y=>?_⟩;obtain⟨e,y⟩:=y;subst e;exact hs i x ys _ (y xs q) p
 ·have e:i=xs.length:=by lia
  subst e;exact .inl ⟨⟨xs,q,ZD _⟩,hd ys H p⟩
theorem B7 {lo:Int} {Q:VK} (Pv:Nat->List V->Hp->Prop) (h0:Pv 0 [] H) (hz:∀i ys H,i < n->Pv i ys H->ys.length < sizeLine)
 (hs:∀i ys H,i < n->Pv i ys H->g (.int (lo+i)) σc H fun σ2 H2=>tc σ2 H2 fun b H3=>if b=true then te σ2 H3 fun y H4=>Pv (i+1) (ys++[y]) H4 else Pv (i+1) ys H3)
 (hd:∀ys H,Pv n ys H->∀p,H p=none->Q (.ref p) (upd H p (.lst ys))):C3 (Itr lo n) g tc te σc Q H:=by
 refine⟨fun i m ys H=>m=n - i/\i<=n/\Pv i ys H,⟨n,by simp,ZP _,h0⟩,?_⟩;rintro i m ys H ⟨rfl,hi,p⟩
 by_cases Yr:i < n
 ·refine .inr ⟨Yr,hz i ys H Yr p,Pv (i+1),fun ys' H' p'=>⟨n - (i+1),by lia,rfl,Yr,p'⟩,fun x H' y=>?_⟩;obtain⟨e,y⟩:=y;subst e y;exact hs i ys _ Yr p
 ·have e:i=n:=by lia
  subst e;exact .inl ⟨ZD _,hd ys H p⟩
def Lo(c:TT)(tb:TS):TS:=fun D σ H=>∃W:Nat->St->Hp->Prop,(∃m,W m σ H)/\∀m σ H,W m σ H ->
 c σ H fun b H1=>if b=true then tb { D with nx:=fun σ' H'=>∃m',m' < m/\W m' σ' H',ct:=fun σ' H'=>∃m',m' < m/\W m' σ' H',bk:=D.nx } σ H1 else D.nx σ H1
theorem GE{c:Expr}{body:List Stmt}{tc:TT}{tb:TS}(hp:PassesOwn (model X.prog X.w) X.A X.env X.xe)(hc:PT X c tc)(hb:PSs X body tb):PS X (.While c body [] pos) (Lo tc tb):=by
 intro Ya s σ H D I h;obtain⟨W,⟨m0,w0⟩,turn⟩:=h;refine wpAny_While (codeAny_whileLoop (fun n s'=>∃σ' H',Yg X Ya σ' H' s'/\W n σ' H') ?_ m0 ⟨σ,H,I,w0⟩);rintro n s1 ⟨σ1,H1,I1,w1⟩;refine wpAny_passesOwn hp (Ym (hc Ya s1 σ1 H1 _ I1 (turn n σ1 H1 w1)) fun b s2 ⟨H2,I2,q2⟩=>?_);cases b with
 | true =>
  rw[if_pos rfl]at q2;rw[if_pos rfl];refine wpAny_passesOwn hp (Ym (hb Ya s2 σ1 H2 _ I2 q2) fun f s3 q3=>?_);cases f with
  | next =>
   obtain⟨σ3,H3,I3,m',hm,w3⟩:=q3;exact⟨m',hm,σ3,H3,I3,w3⟩
  | cont =>
   obtain⟨σ3,H3,I3,m',hm,w3⟩:=q3;exact⟨m',hm,σ3,H3,I3,w3⟩
  | brk=>exact q3
  | ret v=>exact q3
 | false =>
  rw[if_neg Z7]at q2;rw[if_neg Z7];exact wpAny_execs_nil ⟨σ1,H2,I2,q2⟩
end
theorem AT{k:Nat}(hr:Room k A):A.units+60 < cLine:=by have:=hr.un;lia
def Yl(t:Addr)(H H':Hp):Prop:=∀b o,b≠t->H b=some o->H' b=some o
theorem Yl.refl{t:Addr}:Yl t H H:=fun _ _ _ h=>h
theorem Yl.trans{t:Addr}{H1 H2:Hp}(a:Yl t H H1)(b:Yl t H1 H2):Yl t H H2:=fun c o n h=>b c o n (a c o n h)
theorem Yl.upd{t:Addr}(h:H p=none):Yl t H (upd H p o):=fun b u _ e=>by rw[AI (BX e h)];exact e
theorem Yl.updT{t:Addr}:Yl t H (L2.upd H t o):=fun b u n e=>by rw[AI n];exact e
theorem Yc.upd(h:H p=none):Yc H (L2.upd H p o):=fun b u e=>by rw[AI (BX e h)];exact e
theorem Yc.frm{t:Addr}(h:Yc H H'):Yl t H H':=fun b o _ e=>h b o e
theorem NO(h:Yv K H a xs)(k:∀o,H a=some o->H' a=some o):Yv K H' a xs:=by
 rcases h with (h | ⟨o,h⟩) | h
 ·exact .inl (.inl (k _ h))
 ·exact .inl (.inr ⟨o,k _ h⟩)
 ·exact .inr h
theorem FR(h:Ys K H a xs)(k:∀o,H a=some o->H' a=some o):Ys K H' a xs:=by
 rcases h with (h | ⟨o,h⟩) | h
 ·exact .inl (.inl (k _ h))
 ·exact .inl (.inr ⟨o,k _ h⟩)
 ·exact .inr h
def ScrAt(K:W.Frag)(H:Hp)(t a:Addr)(ns:List Int):Prop :=
 (Rd H a (.lst (ns.map V.int))/\a≠t)\/∃(o:Obj) (Yf:Array Value) (n:Nat),K.lookup a=some o/\o.cls=.type "list" /\ o.dict=none/\o.data=.seq Yf n/\Yf.size<=sizeLine/\Yj (ns.map V.int) Yf.toList
theorem ScrAt.sq{t:Addr}(h:ScrAt K H t a ns):Yv K H a (ns.map V.int):=by
 rcases h with ⟨h,_⟩ | h
 ·exact .inl h
 ·exact .inr h
theorem ScrAt.stay{t:Addr}(h:ScrAt K H t a ns)(k:∀o,a≠t->H a=some o->H' a=some o):ScrAt K H' t a ns:=by
 rcases h with ⟨h | ⟨o,h⟩,n⟩ | h
 ·exact .inl ⟨.inl (k _ n h),n⟩
 ·exact .inl ⟨.inr ⟨o,k _ n h⟩,n⟩
 ·exact .inr h
theorem ScrAt.of{t:Addr}(h:Yv K H a (ns.map V.int))(ht:H t=none):ScrAt K H t a ns:=by
 rcases h with h | h
 ·refine .inl ⟨h,fun e=>?_⟩;subst e
  rcases h with h | ⟨o,h⟩ <;> rw[ht]at h <;> cases h
 ·exact .inr h
structure Tape(K:W.Frag)(H:Hp)(t a:Addr)(ns:List Int):Prop where
 at_:∃i r c:Int,0<=i/\0<=r/\H t=some (.lst [.ref a,.int i,.int r,.int c])
 scr:ScrAt K H t a ns
theorem Tape.same{t:Addr}(T:Tape K H t a ns)(h:Yc H H'):Tape K H' t a ns:=by
 obtain⟨i,r,c,h1,h2,h3⟩:=T.at_;exact⟨⟨i,r,c,h1,h2,h _ _ h3⟩,T.scr.stay fun o _ e=>h a o e⟩
theorem Tape.upd{t:Addr}(T:Tape K H t a ns)(h:H p=none):Tape K (L2.upd H p o) t a ns:=T.same (Yc.upd h)
theorem Tape.free{t:Addr}(T:Tape K H' t a ns)(h:Yl t H H')(hp:H' p=none):H p=none:=by
 cases e:H p with
 | none=>rfl
 | some o =>
  by_cases hpt:p=t
  ·subst hpt;obtain⟨i,r,c,_,_,h3⟩:=T.at_;rw[h3]at hp;cases hp
  ·rw[h p o hpt e]at hp;cases hp
theorem Tape.neT{t:Addr}(T:Tape K H t a ns)(hp:H p=none):p≠t:=fun e=>by
 obtain⟨i,r,c,_,_,h3⟩:=T.at_;rw[e,h3]at hp;cases hp
def Dx(K:W.Frag):Sp:=fun vs H Q _=>match vs with
 | [.ref t,.int m]=>∃a ns,Tape K H t a ns/\okDiv m/\∀d H',0<=d->d < m->Tape K H' t a ns->(∀b,b≠t->H' b=H b)->Q (.int d) H'
 | _=>False
def G7(K:W.Frag):Sp:=fun vs H Q _=>match vs with
 | [.ref a]=>∀p,H p=none->Q (.ref p) (upd H p (.lst [.ref a,.int 0,.int 0,.int 0]))
 | _=>False
theorem AO{i:Int}(h:i=(n:Int))(hx:xs[n]? = some v):atI xs i=some v:=by
 subst h;have hn:n < xs.length:=(Zg.mp hx).1;unfold atI ixN;rw[if_pos (Int.natCast_nonneg n),if_pos (by lia)];simpa using hx
theorem LF{i:Int}(h0:0<=i)(h1:i < ns.length):∃z,atI (ns.map V.int) i=some (.int z):=by
 obtain⟨n,rfl⟩:=ZBo h0;have hn:n < ns.length:=by lia
 exact⟨ns[n],AO rfl (by rw[ZT,ZE hn];rfl)⟩
theorem Nr(h:H p=none)(hs:Yv K H a (ns.map V.int)):Tape K (L2.upd H p (.lst [.ref a,.int 0,.int 0,.int 0])) p a ns :=
 ⟨⟨0,0,0,Int.le_refl _,Int.le_refl _,AD⟩,(ScrAt.of hs h).stay fun o n e=>by rw[AI n];exact e⟩
theorem BF{j:Int}(h1:0 < j)(h2:j<=2 ^ 1000):okDiv j:=⟨h1,Int.lt_of_le_of_lt h2 (by decide)⟩
theorem EM(h:n<=1000):n<=sizeLine:=Z0 (Al h)
theorem smq(h:Nat.ble n 1000=true):n<=sizeLine:=EM (Nat.le_of_ble_eq_true h)
def B3(t:TT):Prop:=∀σ H (Q Q':Bool->Hp->Prop),(∀b H,Q b H->Q' b H)->t σ H Q->t σ H Q'
def Bj(t:TA):Prop:=∀σ H (Q Q':List V->Hp->Prop),(∀b H,Q b H->Q' b H)->t σ H Q->t σ H Q'
def B6(r:R2):Prop:=∀x y H (Q Q':VK),(∀v H,Q v H->Q' v H)->r x y H Q->r x y H Q'
def LY(r:V->Hp->VK->Prop):Prop:=∀x H (Q Q':VK),(∀v H,Q v H->Q' v H)->r x H Q->r x H Q'
def CP(r:List V->Hp->VK->Prop):Prop:=∀xs H (Q Q':VK),(∀v H,Q v H->Q' v H)->r xs H Q->r xs H Q'
def Dq(r:V->List V->Hp->VK->Prop):Prop:=∀x xs H (Q Q':VK),(∀v H,Q v H->Q' v H)->r x xs H Q->r x xs H Q'
def AM(sp:Sp):Prop:=∀vs H (Q Q':VK) E,(∀v H,Q v H->Q' v H)->sp vs H Q E->sp vs H Q' E
def De(t:TI):Prop:=∀σ H (Q Q':It->Hp->Prop),(∀J H,Q J H->Q' J H)->t σ H Q->t σ H Q'
def LN(t:Dn):Prop:=∀o i v H (Q Q':Hp->Prop),(∀H,Q H->Q' H)->t o i v H Q->t o i v H Q'
structure Ends.le(D D':Ends):Prop where
 nx:∀σ H,D.nx σ H->D'.nx σ H
 rt:∀v H,D.rt v H->D'.rt v H
 bk:∀σ H,D.bk σ H->D'.bk σ H
 ct:∀σ H,D.ct σ H->D'.ct σ H
def BV(t:TS):Prop:=∀D D' σ H,Ends.le D D'->t D σ H->t D' σ H
theorem Wl:Ad (CY i):=fun σ H Q Q' h q=>by
 unfold CY at *;split at q
 ·exact h _ _ q
 ·exact q.elim
theorem Td:Ad (tC v):=fun _ _ _ _ h q=>h _ _ q
theorem Qg{ta tb:TE}(hr:B6 r)(ha:Ad ta)(hb:Ad tb):Ad (tOp r ta tb):=fun σ H Q Q' h q=>ha _ _ _ _ (fun _ _ q=>hb _ _ _ _ (fun _ _ q=>hr _ _ _ _ _ h q) q) q
theorem WE{r:V->Hp->VK->Prop}{ta:TE}(hr:LY r)(ha:Ad ta):Ad (tUn r ta):=fun σ H Q Q' h q=>ha _ _ _ _ (fun _ _ q=>hr _ _ _ _ h q) q
theorem RL{K}:B6 (ET K):=fun x y H Q Q' h q=>by
 unfold ET at *;split at q
 ·exact h _ _ q
 ·exact⟨q.1,h _ _ q.2⟩
 ·rcases q with ⟨l,b,xs,zs,e1,e2,h1,h2,h3,q⟩ | ⟨a,b,xs,ys,e1,e2,h1,h2,h3,h4,q1,q2⟩
  ·exact .inl ⟨l,b,xs,zs,e1,e2,h1,h2,h3,fun p hp=>h _ _ (q p hp)⟩
  ·exact .inr ⟨a,b,xs,ys,e1,e2,h1,h2,h3,h4,fun e=>h _ _ (q1 e),fun e p hp=>h _ _ (q2 e p hp)⟩
 ·exact q.elim
theorem Wb:B6 IL:=fun x y H Q Q' h q=>by unfold IL at *;split at q <;> first | exact⟨q.1,h _ _ q.2⟩ | exact q.elim
theorem O2:B6 Jo:=fun x y H Q Q' h q=>by unfold Jo at *;split at q <;> first | exact⟨q.1,h _ _ q.2⟩ | exact q.elim
theorem Po:B6 Hd:=fun x y H Q Q' h q=>by unfold Hd at *;split at q <;> first | exact⟨q.1,h _ _ q.2⟩ | exact q.elim
theorem Tu{f}:B6 (GM f):=fun x y H Q Q' h q=>by unfold GM at *;split at q <;> first | exact h _ _ q | exact q.elim
theorem QL:LY HL:=fun x H Q Q' h q=>by unfold HL at *;split at q <;> first | exact h _ _ q | exact q.elim
theorem RV{p}:B6 (Dl p):=fun x y H Q Q' h q=>by unfold Dl at *;split at q <;> first | exact h _ _ q | exact q.elim
theorem QX{n K}:B6 (mEq n K):=fun x y H Q Q' h q=>by
 unfold mEq at *;split at q <;> first | exact h _ _ q | (obtain⟨d,e,h1,h2,h3,q⟩:=q;exact⟨d,e,h1,h2,h3,h _ _ q⟩)
theorem Tx{K}:B6 (mIx K):=fun x y H Q Q' h q=>by
 unfold mIx at *;split at q
 ·obtain⟨xs,v,h1,h2,q⟩:=q;exact⟨xs,v,h1,h2,h _ _ q⟩
 ·obtain⟨c,h1,h2,q⟩:=q;exact⟨c,h1,h2,h _ _ q⟩
 ·exact q.elim
theorem No{Q Q':Bool->Prop}(h:∀b,Q b->Q' b)(q:isB v Q):isB v Q':=by
 cases v <;> first | exact h _ q | exact q
theorem N0{t:TE}(h:Ad t):B3 (uB t):=fun σ H Q Q' k q=>h _ _ _ _ (fun _ _ q=>No (fun b q=>k b _ q) q) q
theorem RD{t:TT}{ta tb:TE}(ht:B3 t)(ha:Ad ta)(hb:Ad tb):Ad (tIf t ta tb):=fun σ H Q Q' h q=>ht _ _ _ _ (fun b _ q=>by
 cases b with
 | true=>exact ha _ _ _ _ h q
 | false=>exact hb _ _ _ _ h q) q
theorem UY{t u:TT}(ht:B3 t)(hu:B3 u):B3 (Iu t u):=fun σ H Q Q' h q=>ht _ _ _ _ (fun b _ q=>by
 cases b with
 | true=>exact hu _ _ _ _ h q
 | false=>exact h _ _ q) q
theorem Vc{t u:TT}(ht:B3 t)(hu:B3 u):B3 (tOr t u):=fun σ H Q Q' h q=>ht _ _ _ _ (fun b _ q=>by
 cases b with
 | true=>exact h _ _ q
 | false=>exact hu _ _ _ _ h q) q
theorem Oa{t:TT}(ht:B3 t):B3 (MK t):=fun σ H Q Q' h q=>ht _ _ _ _ (fun b _ q=>h _ _ q) q
theorem TR:Bj DT:=fun _ _ _ _ h q=>h _ _ q
theorem V2{ta:TE}{t:TA}(ha:Ad ta)(ht:Bj t):Bj (DH ta t):=fun σ H Q Q' h q=>ha _ _ _ _ (fun _ _ q=>ht _ _ _ _ (fun _ _ q=>h _ _ q) q) q
theorem US{r}{t:TA}(hr:CP r)(ht:Bj t):Ad (tCB r t):=fun σ H Q Q' h q=>ht _ _ _ _ (fun _ _ q=>hr _ _ _ _ h q) q
theorem SI{sp dvs E}{t:TA}(hs:AM sp)(ht:Bj t):Ad (Iw sp dvs E t):=fun σ H Q Q' h q=>ht _ _ _ _ (fun _ _ q=>hs _ _ _ _ _ h q) q
theorem VA{t:TA}(ht:Bj t):Ad (IN t):=fun σ H Q Q' h q=>ht _ _ _ _ (fun _ _ q=>⟨q.1,fun p hp=>h _ _ (q.2 p hp)⟩) q
theorem Vf{t:TA}(ht:Bj t):Ad (JK t):=fun σ H Q Q' h q=>ht _ _ _ _ (fun _ _ q=>⟨q.1,fun p hp=>h _ _ (q.2 p hp)⟩) q
theorem UG{wi own ix g tc te}(hi:De wi):Ad (Ex wi own ix g tc te):=fun σ H Q Q' h q=>hi _ _ _ _ (fun J H1 q=>by
 obtain⟨W,w0,turn⟩:=q;refine⟨W,w0,fun i m ys H w=>?_⟩
 rcases turn i m ys H w with ⟨a,b⟩ | r
 ·exact .inl ⟨a,fun p hp=>h _ _ (b p hp)⟩
 ·exact .inr r) q
theorem Sx{K}:CP (Eg K):=fun xs H Q Q' h q=>by unfold Eg at *;split at q <;> first | (obtain⟨n,a,q⟩:=q;exact⟨n,a,h _ _ q⟩) | exact q.elim
theorem Tq:CP G6:=fun xs H Q Q' h q=>by unfold G6 at *;split at q <;> first | exact h _ _ q | exact q.elim
theorem Uk:CP HX:=fun xs H Q Q' h q=>by unfold HX at *;split at q <;> first | exact h _ _ q | exact q.elim
theorem Vv{K}:CP (GI K):=fun xs H Q Q' h q=>by
 unfold GI at *;split at q
 ·obtain⟨ys,⟨a,q⟩ | ⟨a,q⟩⟩:=q
  ·exact⟨ys,.inl ⟨a,fun l hl=>h _ _ (q l hl)⟩⟩
  ·exact⟨ys,.inr ⟨a,h _ _ q⟩⟩
 ·exact q.elim
theorem Ql{K}{tl:TE}(h:Ad tl):De (Jl K tl):=fun σ H Q Q' k q=>h _ _ _ _ (fun v H1 q=>by
 cases v <;> first | exact q.elim | (rcases q with ⟨a,q⟩ | ⟨a,q⟩
                                     ·exact .inl ⟨a,k _ _ q⟩
                                     ·exact .inr ⟨a,k _ _ q⟩)) q
theorem OM{ta:TA}(h:Bj ta):De (L6 ta):=fun σ H Q Q' k q=>h _ _ _ _ (fun _ _ ⟨j,e,a,b,q⟩=>⟨j,e,a,b,k _ _ q⟩) q
theorem UD{ta:TA}(h:Bj ta):De (K0 ta):=fun σ H Q Q' k q=>h _ _ _ _ (fun _ _ ⟨i,j,e,a,q⟩=>⟨i,j,e,a,k _ _ q⟩) q
theorem Pd:LN HA:=fun o i v H Q Q' h q=>by
 unfold HA at *;split at q
 ·obtain⟨xs,j,a,b,q⟩:=q;exact⟨xs,j,a,b,h _ q⟩
 ·exact q.elim
theorem Qv{to ti:TE}{t:Dn}(h1:Ad to)(h2:Ad ti)(h3:LN t):DP (Na to ti t):=fun v σ H Q Q' h q=>h1 _ _ _ _ (fun _ _ q=>h2 _ _ _ _ (fun _ _ q=>h3 _ _ _ _ _ _ (fun H q=>h _ _ q) q) q) q
theorem To:BV Eu:=fun D D' σ H h q=>h.nx _ _ q
theorem Nz{t u:TS}(h1:BV t)(h2:BV u):BV (GK t u):=fun D D' σ H h q=>h1 { D with nx:=u D } { D' with nx:=u D' } σ H ⟨fun σ H q=>h2 D D' σ H h q,h.rt,h.bk,h.ct⟩ q
theorem Ue{g:TG}(h1:Ad te)(h2:DP g):BV (EY te g):=fun D D' σ H h q=>h1 _ _ _ _ (fun _ _ q=>h2 _ _ _ _ _ h.nx q) q
theorem P9(h1:Ad te):BV (La te):=fun D D' σ H h q=>h1 _ _ _ _ h.rt q
theorem VX(h1:Ad te):BV (L8 te):=fun D D' σ H h q=>h1 _ _ _ _ (fun _ _ q=>h.nx _ _ q) q
theorem Nj{c:TT}{t u:TS}(hc:B3 c)(h1:BV t)(h2:BV u):BV (Gb c t u):=fun D D' σ H h q=>hc _ _ _ _ (fun b _ q=>by
 cases b with
 | true=>exact h1 _ _ _ _ h q
 | false=>exact h2 _ _ _ _ h q) q
theorem Qk{c:TT}{tb:TS}(hc:B3 c)(h1:BV tb):BV (Lo c tb):=fun D D' σ H h q=>by
 obtain⟨W,w0,turn⟩:=q;refine⟨W,w0,fun m σ H w=>hc _ _ _ _ (fun b H1 q=>?_) (turn m σ H w)⟩;cases b with
 | true=>exact h1 { D with nx:=fun σ' H'=>∃m',m' < m/\W m' σ' H',ct:=fun σ' H'=>∃m',m' < m/\W m' σ' H',bk:=D.nx } _ _ _ ⟨fun _ _ q=>q,h.rt,h.nx,fun _ _ q=>q⟩ q
 | false=>exact h.nx _ _ q
theorem Pp{wi:TI}{g:TG}{tb:TS}(hi:De wi)(hg:DP g)(h1:BV tb):BV (MT wi g tb):=fun D D' σ H h q=>hi _ _ _ _ (fun J H1 q=>by
 obtain⟨W,w0,turn⟩:=q;refine⟨W,w0,fun i m σ H w=>?_⟩
 rcases turn i m σ H w with ⟨a,b⟩ | ⟨a,N,hN,step⟩
 ·exact .inl ⟨a,h.nx _ _ b⟩
 ·exact .inr ⟨a,N,hN,fun x H' y=>hg _ _ _ _ _ (fun σ2 H2 q=>h1 { D with nx:=N,ct:=N,bk:=D.nx } _ _ _ ⟨fun _ _ q=>q,h.rt,h.nx,fun _ _ q=>q⟩ q) (step x H' y)⟩) q
theorem Aj{t u:TS}{D:Ends}(J:St->Hp->Prop)(h1:t { D with nx:=J } σ H)(h2:∀σ' H',J σ' H'->u D σ' H')(hm:BV t):GK t u D σ H :=
 hm { D with nx:=J } { D with nx:=u D } σ H ⟨h2,fun _ _ q=>q,fun _ _ q=>q,fun _ _ q=>q⟩ h1
theorem UE{K}:AM (Dx K):=fun vs H Q Q' E h q=>by
 unfold Dx at *;split at q
 ·obtain⟨a,ns,x,y,q⟩:=q;exact⟨a,ns,x,y,fun d H' e1 e2 e3 e4=>h _ _ (q d H' e1 e2 e3 e4)⟩
 ·exact q.elim
section
variable {X:Cx}{K:W.Frag}{a b c e l tg:Expr}{es:List Expr}{ta tb tc te tl:TE}{pos p:Pos}
theorem A9(hK:X.K=K:=by rfl):Yx X (binaryOp .Add) (ET K):=hK ▸ Rc
theorem kEq(hu:X.A.units+60 < cLine)(hK:X.K=K:=by rfl):Yx X (compareOp .Eq) (mEq false K):=hK ▸ N1 hu
theorem kNe(hu:X.A.units+60 < cLine)(hK:X.K=K:=by rfl):Yx X (compareOp .NotEq) (mEq true K):=hK ▸ Oq hu
theorem Yp(ha:PE X a ta)(hb:PE X b tb)(hs:GZ b:=by intro _ _;rfl)(hK:X.K=K:=by rfl):PE X (.Subscript a b pos) (tOp (mIx K) ta tb):=hK ▸ QA ha hb hs
theorem At(hK:X.K=K:=by rfl):CallR X (.builtin "len") (Eg K):=hK ▸ RW
theorem CM(hK:X.K=K:=by rfl):CallR X (.type "tuple") (GI K):=hK ▸ Pr
theorem OA(hK:X.K=K:=by rfl):CallR X (.type "list") (J6 K):=hK ▸ Qb
theorem BA(hl:PE X l tl)(hK:X.K=K:=by rfl):PI X tg l (Jl K tl):=hK ▸ O9 hl
theorem Dy {k:Nat} {t:TGs} (hc:X.calm=true) (h:PGs X es t)
 (hn:(assignEach es X.env).length=n:=by rfl) (hst:(assignEach es X.env).findIdx? (·.1)=none:=by rfl) (hK:X.K=K:=by rfl):PG X (.Tuple es k pos) (HJ K n t):=hK ▸ MB hc h hn hst
end
theorem Yg.turnedNew {Ya:List (Addr × Obj)} {h':Heap} {ch:List Addr} {T:Addr} (I:Yg X Ya σ H s) (hf:∀b∈ch,A6 X Ya H b) (hT:s.heap.objs.size<=T)
 (k:∀b u,b∉ch->s.heap.get? b=some u->h'.get? b=some u) (new:ObjOk X.prog X.w (upd H T o) h' T o) (th:∀b∈ch,∃u,h'.get? b=some u):Yg X Ya σ (upd H T o) { s with heap:=h' }:=by
 have hTn:H T=none:=I.hok.fresh hT;have nT:∀b u,H b=some u->b≠T:=fun b u e z=>by rw[z,hTn]at e;cases e
 have nc:∀b u,H b=some u->b∉ch:=fun b u e z=>by rw[(hf b z).1]at e;cases e
 refine I.step (g':=s.gens) (d':=s.drawn) (t':=s.toks) (ch:=ch) (fun b hb=>?_) (fun b u _ _ hc e _=>k b u hc e) (fun b u _ _ hc e _=>⟨u.slots,k b u hc e⟩) (fun b u hc e n=>?_) (fun b u hc e=>⟨u,k b u hc e⟩)
  (fun b xs e=>by rw[AI (nT _ _ e)];exact e) (fun b u v e=>by rw[AI (nT _ _ e)];exact e) (fun b ps e=>⟨#[],by rw[AI (nT _ _ e),e];simp⟩) (fun m hm=>?_) (fun b u e=>?_) I.bare
 ·obtain⟨q1,q2,q3,q4,q5,q6⟩:=hf b hb;exact⟨q4,q2,q5,q6⟩
 ·rw[AI (ZO (ZX (ZG e) hT))];exact n
 ·obtain⟨u,es,ep,ho,r⟩:=hm;exact⟨u,es,ep,k _ u (fun z=>(hf _ z).2.1 rfl) ho,r⟩
 ·by_cases hb:b=T
  ·subst hb;rw[AD]at e;cases e;exact new
  ·rw[AI hb]at e;refine(I.hok b u e).stay (fun c v hc q=>k c v ?_ q) (fun c q=>by rw[AI (nT _ _ q)];exact q) fun c xs q=>by rw[AI (nT _ _ q)];exact q
   rcases hc with z | z
   ·rw[z];exact nc b u e
   ·exact nc c _ z
section
variable {X:Cx}{K:W.Frag}{o e:Expr}{es:List Expr}{to:TE}{t:TA}{apos cpos:Pos}
def FZ:V->List V->Hp->VK->Prop:=fun x vs H Q=>match x,vs with
 | .ref l,[y]=>∃xs,H l=some (.lst xs)/\xs.length < sizeLine/\Q .non (upd H l (.lst (xs++[y])))
 | _,_=>False
theorem WB:MtR X "list.append" FZ:=by
 intro Ya s σ H x vs v us Q I rx rv q
 match x,vs,q with
 | .ref l,[y],⟨xs,h1,h2,q⟩=>exact RF Ya s σ H _ _ v us Q I rx rv ⟨l,xs,y,rfl,rfl,h1,h2,q⟩
theorem Ku (ho:PE X o to) (ha:PA X [e] t) (hbase:attributeBase o "append" X.env (eval o X.env)=eval o X.env:=by rfl)
 (hfew:((backTo cpos (starEach [e] X.env)).all (fun x=>!x.1) && (backToKw cpos (keywordEach [] X.env)).all (fun x=>x.1.isSome)
   && decide ([e].length+([]:List Keyword).length+(if ([]:List Keyword).isEmpty then 0 else 1) < 30))=true:=by rfl)
 (hline:(apos.endLine == cpos.line)=true:=by rfl) (hs:starEach [e] X.env=(false,eval e X.env)::starEach [] X.env:=by rfl) (hplain:(backTo cpos (starEach [] X.env)).any (·.1)=false:=by rfl) (hK:X.K=K:=by rfl) :
 PE X (.Call (.Attribute o "append" apos) [e] [] cpos) (tBM K "list" FZ to t):=hK ▸ Ej PySem.F.plainAttrs_list PySem.F.slot_list_append PySem.F.type_list_append WB ho ha hbase hfew hline hs hplain
theorem TH{T:String}{r:V->List V->Hp->VK->Prop}(h1:Ad to)(h2:Bj t)(h3:Dq r):Ad (tBM K T r to t):=fun σ H Q Q' h q=>h1 _ _ _ _ (fun _ _ q=>⟨q.1,h2 _ _ _ _ (fun _ _ q=>h3 _ _ _ _ _ h q) q.2⟩) q
theorem OG:Dq FZ:=fun x xs H Q Q' h q=>by
 unfold FZ at *;split at q
 ·obtain⟨ys,a,b,q⟩:=q;exact⟨ys,a,b,h _ _ q⟩
 ·exact q.elim
def Lf(K:W.Frag):List V->Hp->VK->Prop:=fun xs H Q=>match xs with
 | [.ref l]=>∃ns:List Int,Yv K H l (ns.map V.int)/\Q (.int ns.sum) H
 | _=>False
theorem UU(hc:X.calm=true):CallR X (.builtin "sum") (Lf X.K):=by
 intro Ya s σ H xs us Q I r q
 match xs,q with
 | [.ref l],q =>
 obtain⟨ns,hl,q⟩:=q;obtain⟨u,rfl,ru⟩:=BU r;cases ru;obtain⟨Yf,rv,pl,hz⟩:=I.list hl;have hi:IntsAre Yf ns:=by simpa using Ey rv
 obtain⟨zs,hzs⟩:=(hi.allInts).items;have e:(numsOf Yf).sum=ns.sum:=by rw[hi.numsOf]
 have pl':=pl.isList;rw[hzs]at pl';refine sum_intListG (I.ok.hd hc) pl' fun h' tk t' hk=>?_
 refine⟨.int _,H,I.kept hk,⟨t',rfl⟩,?_⟩
 have e2:preSum (numAt zs) zs.size=ns.sum:=by
  rw[preSum_eq,ZBp (by simp),<- e];rw[show Yf=Yf.toArray.toList by simp,hzs,nums_intItems]
 rw[e2];exact q
theorem Tb(hc:X.calm=true)(hK:X.K=K:=by rfl):CallR X (.builtin "sum") (Lf K):=hK ▸ UU hc
def Fg(K:W.Frag):List V->Hp->VK->Prop:=fun xs H Q=>match xs with
 | [.ref l]=>∃bs:List Bool,Yv K H l (bs.map V.bl)/\Q (.bl (bs.all id)) H
 | _=>False
theorem QH(hc:X.calm=true):CallR X (.builtin "all") (Fg X.K):=by
 intro Ya s σ H xs us Q I r q
 match xs,q with
 | [.ref l],q =>
 obtain⟨bs,hl,q⟩:=q;obtain⟨u,rfl,ru⟩:=BU r;cases ru;obtain⟨Yf,rv,pl,hz⟩:=I.list hl;have Yk:=rv.length;rw[ZC]at Yk;obtain⟨o1,n1,g1,_⟩:=id pl;have Yr:=ZG g1;refine call_all_walk (wpAny_pyIter_list pl.isList ?_);have Yw:l≠s.heap.objs.size:=ZO Yr;refine⟨_,_,_,_,_,_,fun i=>bs.getD i false,rfl,Walks.list (A:=X.A.in1) (I.ok.hd hc) s.heap.objs.size l Yw Yf.toArray,?_,?_,fun h' tk hk=>?_⟩
 ·exact⟨⟨_,ZN _ rfl,rfl,rfl⟩,(show s.heap.IsList l Yf.toArray from pl.isList).at fun o e=>ZF _ e⟩
 ·intro i v s' Q' E' hv hq;have hv:Yf.toArray[i]? = some v:=hv
  have hi:i < Yf.length:=by
   have:=(ZBq.mp hv).1
   simpa using this
  have hb:(bs.map V.bl)[i]? = some (.bl bs[i]):=by rw[ZT,ZE (by lia)];rfl
  obtain⟨w',q1,q2⟩:=rv.get hb;have e:v=w':=by simp at hv;rw[q1]at hv;exact(ZS hv).symm
  subst e;cases q2;refine ZBC ?_;have e2:bs.getD i false=bs[i]:=by rw[ZV,ZE (by lia)];rfl
  have hq:Q' (bs.getD i false) s':=hq;rw[e2]at hq;exact hq
 ·refine⟨.bl _,H,I.kept (fun b o e=>hk b o ?_ (ZF _ e)),rfl,?_⟩
  ·simp only[ZI];exact ZO (ZG e)
  ·have e:(List.range Yf.toArray.size).all (fun i=>bs.getD i false)=bs.all id:=by
    rw[ZJ,<- Yk];rw[ZBS,ZBH,ZBH];constructor
    ·intro h b hb;obtain⟨i,hi,rfl⟩:=List.mem_iff_getElem.mp hb
     have:=h i (Zl.mpr hi)
     rw[ZV,ZE hi]at this;exact this
    ·intro h i hi;have hi':=Zl.mp hi;rw[ZV,ZE hi'];exact h _ (Zk hi')
   rw[e];exact q
theorem IA(hc:X.calm=true)(hK:X.K=K:=by rfl):CallR X (.builtin "all") (Fg K):=hK ▸ QH hc
theorem Up:CP (Fg K):=fun xs H Q Q' h q=>by
 unfold Fg at *;split at q
 ·obtain⟨ns,a,q⟩:=q;exact⟨ns,a,h _ _ q⟩
 ·exact q.elim
end
section
variable {prog:Program}{w:World}{A:Around}{E:Value->Shared->Prop}{s:Shared}
theorem Kb{it t:Addr}{items:Array Value}(Yw:t≠it):∀(n i:Nat) (s:Shared) (Q:List Value->Shared->Prop),s.heap.IsListIter it t i->s.heap.IsList t items->i+n<=items.size ->
 (∀h',h'.IsListIter it t (i+n)->Heap.SameBut it s.heap h'->Q ((items.toList.drop i).take n) { s with heap:=h' })->wpAny (model prog w) A (draw (.ref it) n) Q E s
 | 0,i,s,Q,hit,_,_,hQ=>by
  show wpAny _ _ (pure []) Q E s;exact ZB (by simpa using hQ s.heap hit (Heap.SameBut.refl ..))
 | n+1,i,s,Q,hit,ht,hle,hQ=>by
  have Yr:i < items.size:=by lia
  show wpAny _ _ (pyNext (.ref it) >>= _) Q E s;refine ZA (wpAny_pyNext_list_item hit ht (x:=items[i]) (by simp[Yr]) fun h₁ hit₁ hs₁=>?_);refine ZA (Zc (Kb Yw n (i+1) _ _ hit₁ (ht.extBut hs₁.extBut Yw) (by lia) fun h₂ hit₂ hs₂=>ZB ?_));have hd:items.toList.drop i=items[i]::items.toList.drop (i+1):=by simp[List.drop_eq_getElem_cons,Yr]
  have:=hQ h₂ (by rw[show i+(n+1)=i+1+n by lia];exact hit₂) (hs₁.trans hs₂)
  rw[hd,List.take_succ_cons]at this;exact this
theorem Sy {t:Addr} {items:Array Value} {Q:List Value->Shared->Prop} (hh:A.handled=none) (ht:s.heap.IsList t items)
 (hQ:∀h',Heap.ExtBut s.heap.objs.size s.heap h'->Q items.toList { s with heap:=h' }):wpAny (model prog w) A (unpackItems (.ref t) items.size none) Q E s:=by
 have Yr:t≠s.heap.objs.size:=by obtain⟨o,ho,_⟩:=ht;exact ZO (ZG ho)
 unfold unpackItems;refine ZA ?_
 ·unfold notIterableAtAll;refine ZA (wpAny_specialOf ht.typeIs slot_list_iter.lookup ?_);refine ZB ?_;simp only[ZB4,if_false];refine ZA (Zc (wpAny_pyIter_list ht ?_));refine ZA (Zc (Kb Yr items.size 0 _ _ ⟨_,ZN _ rfl,rfl,rfl⟩ (ht.at fun o e=>ZF _ e) (by lia) fun h₁ hit₁ hs₁=>?_))
  have hall:List.take items.size (List.drop 0 items.toList)=items.toList:=by
   rw[List.drop_zero];exact ZBp (by simp)
  rw[hall];rw[if_neg (by simp)];have ht₁:h₁.IsList t items:=(Heap.IsList.at ht fun o e=>ZF _ e).extBut hs₁.extBut Yr;refine ZA (Zc (wpAny_pyNext_list_end hh hit₁ ht₁ (by simp) fun h₂ he₂=>?_));simp only[Option.isSome_none,ZB4,if_false];refine ZB (hQ h₂ fun b o hb e=>he₂ b o hb (hs₁.extBut b o hb (ZF _ e)))
theorem VN {env:Env} {elts:List Expr} {x1} {t:Addr} {items:Array Value} {Q:Unit->Shared->Prop} (hh:A.handled=none) (ht:s.heap.IsList t items)
 (hn:(assignEach elts env).length=items.size) (hstar:(assignEach elts env).findIdx? (·.1)=none)
 (h:∀h',Heap.ExtBut s.heap.objs.size s.heap h'->wpAny (model prog w) A (assignInOrder ((assignEach elts env).map (·.2)) items.toList) Q E { s with heap:=h' }) :
 wpAny (model prog w) A (assign (.Tuple elts x1 pos) env (.ref t)) Q E s:=by
 rw[assign_Tuple];refine ZA (ZBK ?_);unfold unpack;rw[hn,hstar];exact ZA (Zc (Sy hh ht h))
end
section
variable {X:Cx}{K:W.Frag}{pos p2:Pos}{e:Expr}{lo hi:Option Expr}{te:TE}{tl th:TO}
def Lg(K:W.Frag)(n:Nat)(t:TGs):TG:=fun v σ H Q=>match v with
 | .ref a=>∃xs,SqA K H a xs/\xs.length=n/\t xs σ H Q
 | _=>False
theorem HQ {k:Nat} {t:TGs} (hc:X.calm=true) (h:PGs X es t)
 (hn:(assignEach es X.env).length=n:=by rfl) (hst:(assignEach es X.env).findIdx? (·.1)=none:=by rfl) (hK:X.K=K:=by rfl):PG X (.Tuple es k pos) (Lg K n t):=by
 subst hK;intro Ya s σ H v u Q I r hw;cases v with
 | ref a =>
  obtain⟨xs,hq | hq,hl,hw⟩:=hw
  ·cases r;obtain⟨Yf,rv,ht,hz⟩:=I.list hq;refine VN (I.ok.hd hc) ht.isList (by simp[hn,<- hl,rv.length]) hst fun h' hx=>?_
   have I1:Yg X Ya σ H { s with heap:=h' }:=I.kept (t':=s.toks) fun b o e=>hx b o (ZO (ZG e)) e
   exact h Ya _ σ H xs _ Q I1 (by simpa using rv) hw
  ·exact MB hc h hn hst Ya s σ H _ u Q I r ⟨a,xs,rfl,hq,hl,hw⟩
 | _=>exact False.elim hw
theorem VY{t:TGs}(h:Ek t):DP (Lg K n t):=fun v _ _ _ _ k q=>by
 cases v <;> first | exact False.elim q | (obtain⟨xs,s,l,q⟩:=q;exact⟨xs,s,l,h _ _ _ _ _ k q⟩)
end
theorem NI(h:Ys K H a xs)(s:Yc H H'):Ys K H' a xs:=FR h fun o e=>s a o e
mutual
theorem Yh.same(s:Yc H H'):∀(d:Dv) (v:V),Yh K H d v->Yh K H' d v
 | .non,v,h=>by unfold Yh at *;exact h
 | .bl b,v,h=>by unfold Yh at *;exact h
 | .int i,v,h=>by unfold Yh at *;exact h
 | .str x,v,h=>by unfold Yh at *;exact h
 | .tup ds,v,h=>by
  unfold Yh at *;obtain⟨a,xs,e,h1,h2⟩:=h;exact⟨a,xs,e,NI h1 s,Ye.same s ds xs h2⟩
 | .lst ds,v,h=>by
  unfold Yh at *;obtain⟨a,xs,e,h1,h2⟩:=h;exact⟨a,xs,e,NO h1 fun o e=>s a o e,Ye.same s ds xs h2⟩
theorem Ye.same(s:Yc H H'):∀(ds:List Dv) (xs:List V),Ye K H ds xs->Ye K H' ds xs
 | [],xs,h=>by unfold Ye at *;exact h
 | d::ds,xs,h=>by
  unfold Ye at *;obtain⟨x,r,e,h1,h2⟩:=h;exact⟨x,r,e,Yh.same s d x h1,Ye.same s ds r h2⟩
end
mutual
def Ar:Dv->Bool
 | .tup ds=>Ag ds
 | .lst _=>false
 | _=>true
def Ag:List Dv->Bool
 | []=>true
 | d::ds=>Ar d && Ag ds
end
mutual
theorem Yh.frm{t:Addr}(s:Yl t H H')(ht:∃zs,H t=some (.lst zs)):∀(d:Dv) (v:V),Ar d=true->Yh K H d v->Yh K H' d v
 | .non,v,_,h=>by unfold Yh at *;exact h
 | .bl b,v,_,h=>by unfold Yh at *;exact h
 | .int i,v,_,h=>by unfold Yh at *;exact h
 | .str x,v,_,h=>by unfold Yh at *;exact h
 | .tup ds,v,hd,h=>by
  unfold Ar at hd;unfold Yh at *;obtain⟨a,xs,e,h1,h2⟩:=h;refine⟨a,xs,e,?_,Ye.frm s ht ds xs hd h2⟩;obtain⟨zs,hz⟩:=ht
  rcases h1 with (h1 | ⟨o,h1⟩) | h1
  ·exact .inl (.inl (s a _ (fun q=>by rw[q,hz]at h1;cases h1) h1))
  ·exact .inl (.inr ⟨o,s a _ (fun q=>by rw[q,hz]at h1;cases h1) h1⟩)
  ·exact .inr h1
 | .lst ds,v,hd,h=>by unfold Ar at hd;cases hd
theorem Ye.frm{t:Addr}(s:Yl t H H')(ht:∃zs,H t=some (.lst zs)):∀(ds:List Dv) (xs:List V),Ag ds=true->Ye K H ds xs->Ye K H' ds xs
 | [],xs,_,h=>by unfold Ye at *;exact h
 | d::ds,xs,hd,h=>by
  unfold Ag at hd;rw[ZQ]at hd;unfold Ye at *;obtain⟨x,r,e,h1,h2⟩:=h;exact⟨x,r,e,Yh.frm s ht d x hd.1 h1,Ye.frm s ht ds r hd.2 h2⟩
end
theorem Tape.lst{K:W.Frag}{H:Hp}{t a:Addr}{ns:List Int}(T:Tape K H t a ns):∃zs,H t=some (.lst zs):=by
 obtain⟨i,r,c,_,_,h⟩:=T.at_;exact⟨_,h⟩
theorem Fm(h:H p=some (.tup xs))(r:Ye K H ds xs):Yh K H (.tup ds) (.ref p):=by unfold Yh;exact⟨p,xs,rfl,.of h,r⟩
theorem Ah:Ye K H [] []:=by unfold Ye;rfl
theorem AR{d:Dv}{x:V}(h:Yh K H d x)(r:Ye K H ds xs):Ye K H (d::ds) (x::xs):=by unfold Ye;exact⟨x,xs,rfl,h,r⟩
theorem OR{x:Int}:Yh K H (.int x) (.int x):=by unfold Yh;rfl
theorem SZ{x:Bool}:Yh K H (.bl x) (.bl x):=by unfold Yh;rfl
theorem Ye.append:∀{ds es:List Dv} {xs ys:List V},Ye K H ds xs->Ye K H es ys->Ye K H (ds++es) (xs++ys)
 | [],es,xs,ys,h,h'=>by unfold Ye at h;subst h;exact h'
 | d::ds,es,xs,ys,h,h'=>by
  unfold Ye at h;obtain⟨x,r,rfl,h1,h2⟩:=h;exact AR h1 (Ye.append h2 h')
section
variable {κ:Type}[DecidableEq κ]
def valV(Yd:List (κ × V))(k:κ):Option V:=(Yd.find? fun kv=>decide (kv.1=k)).map (·.2)
def Ae(Yd:List (κ × V))(k:κ)(v:V):List (κ × V) :=
 if (Yd.any fun kv=>decide (kv.1=k))=true then Yd.map (fun kv=>if kv.1=k then (kv.1,v) else kv) else Yd++[(k,v)]
theorem Bl{p:κ × V}{r:List (κ × V)}{k:κ}(e:p.1=k):valV (p::r) k=some p.2:=by simp[valV,ZBr,e]
theorem Bk{p:κ × V}{r:List (κ × V)}{k:κ}(e:¬p.1=k):valV (p::r) k=valV r k:=by simp[valV,ZBr,e]
theorem Ff(k:κ):∀Yd:List (κ × V),(Yd.any fun kv=>decide (kv.1=k))=(valV Yd k).isSome
 | []=>rfl
 | p::r=>by
  rw[List.any_cons]
  by_cases e:p.1=k
  ·simp only[Bl e,ZL e,Bool.true_or,Option.isSome_some]
  ·rw[Bk e,Zw e,Bool.false_or];exact Ff k r
theorem Mf(k j:κ)(y:V):∀Yd:List (κ × V),valV (Yd.map fun kv=>if kv.1=k then (kv.1,y) else kv) j=(valV Yd j).map fun x=>if j=k then y else x
 | []=>rfl
 | p::r=>by
  have ih:=Mf k j y r;rw[Zd]
  by_cases h:p.1=k
  ·rw[if_pos h]
   by_cases e:p.1=j
   ·rw[Bl (p:=(p.1,y)) e,Bl e,ZBf,if_pos (e.symm.trans h)]
   ·rw[Bk (p:=(p.1,y)) e,Bk e,ih]
  ·rw[if_neg h]
   by_cases e:p.1=j
   ·rw[Bl (p:=p) e,Bl e,ZBf,if_neg (fun z=>h (e.trans z))]
   ·rw[Bk (p:=p) e,Bk e,ih]
theorem Kw(k j:κ)(y:V):∀Yd:List (κ × V),valV Yd k=none->valV (Yd++[(k,y)]) j=if j=k then some y else valV Yd j
 | [],_=>by
  by_cases e:k=j
  ·rw[if_pos e.symm];exact Bl (p:=(k,y)) e
  ·rw[if_neg (fun z=>e z.symm)];exact Bk (p:=(k,y)) e
 | p::r,hn=>by
  rw[List.cons_append];have hk:¬p.1=k:=fun z=>by rw[Bl z]at hn;cases hn
  rw[Bk hk]at hn;have ih:=Kw k j y r hn
  by_cases e:p.1=j
  ·rw[Bl e,Bl e,if_neg (fun z=>hk (e.trans z))]
  ·rw[Bk e,Bk e,ih]
theorem IV(Yd:List (κ × V))(k j:κ)(y:V):valV (Ae Yd k y) j=if j=k then some y else valV Yd j:=by
 unfold Ae
 by_cases a:(Yd.any fun kv=>decide (kv.1=k))=true
 ·rw[if_pos a,Mf];rw[Ff]at a
  by_cases e:j=k
  ·obtain⟨x,hx⟩:=Option.isSome_iff_exists.mp a;rw[if_pos e,e,hx,ZBf,if_pos rfl]
  ·rw[if_neg e];cases valV Yd j with
   | none=>rfl
   | some x=>rw[ZBf,if_neg e]
 ·rw[if_neg a];refine Kw k j y Yd ?_;rw[Ff]at a;cases q:valV Yd k with
  | none=>rfl
  | some x=>rw[q]at a;exact(a rfl).elim
theorem KF(Yd:List (κ × V))(k:κ)(v:V):(Ae Yd k v).length<=Yd.length+1:=by
 unfold Ae;split
 ·rw[ZC];lia
 ·rw[ZU,Zi,List.length_nil];lia
theorem RelO.isSome_eq{o:Option V}{u:Option Value}(r:RelO o u):o.isSome=u.isSome:=by
 cases o with
 | none=>cases u with
  | none=>rfl
  | some _=>exact(show False from r).elim
 | some _=>cases u with
  | none=>exact(show False from r).elim
  | some _=>rfl
theorem RelO.getD{o:Option V}{u:Option Value}{d:V}{d':Value}(r:RelO o u)(rd:Yi d d'):Yi (o.getD d) (u.getD d'):=by
 cases o with
 | none=>cases u with
  | none=>exact rd
  | some _=>exact(show False from r).elim
 | some _=>cases u with
  | none=>exact(show False from r).elim
  | some _=>exact r
theorem KV.val{Yd:List (κ × V)}{vs:List (κ × Value)}(r:KV Yd vs)(k:κ):RelO (valV Yd k) (valueAt vs k):=by
 unfold KV at r
 induction r with
 | nil=>exact True.intro
 | @cons p q ps qs h t ih =>
  obtain⟨h1,h2⟩:=h
  by_cases e:p.1=k
  ·have e':q.1=k:=h1.symm.trans e;have b:valueAt (q::qs) k=some q.2:=by simp[valueAt,ZBr,e']
   rw[Bl e,b];exact h2
  ·have e':¬q.1=k:=fun z=>e (h1.trans z)
   have b:valueAt (q::qs) k=valueAt qs k:=by simp[valueAt,ZBr,e']
   rw[Bk e,b];exact ih
theorem KV.any{Yd:List (κ × V)}{vs:List (κ × Value)}(r:KV Yd vs)(k:κ):(Yd.any fun kv=>decide (kv.1=k))=vs.any fun kv=>decide (kv.1=k):=by
 unfold KV at r
 induction r with
 | nil=>rfl
 | cons h t ih=>rw[List.any_cons,List.any_cons,ih,h.1]
theorem KV.repl{Yd:List (κ × V)}{vs:List (κ × Value)}(r:KV Yd vs)(k:κ)(ry:Yi y u) :
 KV (Yd.map fun kv=>if kv.1=k then (kv.1,y) else kv) (vs.map fun kv=>if kv.1=k then (kv.1,u) else kv):=by
 unfold KV at r ⊢
 induction r with
 | nil=>exact .nil
 | @cons p q ps qs h t ih =>
  rw[Zd,Zd];refine .cons ?_ ih;obtain⟨h1,h2⟩:=h
  by_cases e:p.1=k
  ·rw[if_pos e,if_pos (h1.symm.trans e)];exact⟨h1,ry⟩
  ·rw[if_neg e,if_neg (fun z=>e (h1.trans z))];exact⟨h1,h2⟩
theorem KV.put{Yd:List (κ × V)}{vs:List (κ × Value)}(r:KV Yd vs)(k:κ)(ry:Yi y u):KV (Ae Yd k y) (stored vs k u):=by
 unfold Ae stored;rw[r.any k]
 by_cases e:(vs.any fun kv=>decide (kv.1=k))=true
 ·rw[if_pos e,if_pos e];exact r.repl k ry
 ·rw[if_neg e,if_neg e];exact Paired.snoc r ⟨rfl,ry⟩
theorem KV.length{Yd:List (κ × V)}{vs:List (κ × Value)}(r:KV Yd vs):Yd.length=vs.length:=Paired.length r
end
theorem Ev{k:Key}(r:Yi (kV k) u):(BJ P w).is k u=true:=by
 cases k with
 | inl i=>obtain⟨t,e⟩:=(show ∃t,u=Value.int i t from r);subst e;exact TC P w i t
 | inr x=>obtain⟨t,e⟩:=(show ∃t,u=Value.str x t from r);subst e;exact RX P w x t
theorem Jz:∀{ks:List Key} {us:List Value},Yj (ks.map kV) us->ItemsAre (BJ P w) ks us
 | [],_,r=>by rw[List.map_nil]at r;cases r;exact .nil
 | k::ks,_,r=>by
  rw[Zd]at r;cases r with
  | cons h t=>exact .cons (Ev h) (Jz t)
abbrev KT(H:Hp):List (List Key × V)->List (List Key × Addr × Value)->Prop:=Paired fun p q=>p.1=q.1/\H q.2.1=some (.tup (p.1.map kV))/\Yi p.2 q.2.2
theorem KT.val{xs:List (List Key × Addr × Value)}(r:KT H Yd xs)(k:List Key):RelO (valV Yd k) ((atKey xs k).map (·.2)):=by
 induction r with
 | nil=>exact True.intro
 | @cons p q ps qs h t ih =>
  obtain⟨h1,_,h2⟩:=h
  by_cases e:p.1=k
  ·have e':q.1=k:=h1.symm.trans e;have b:atKey (q::qs) k=some q.2:=by simp[atKey,ZBr,e']
   rw[Bl e,b];exact h2
  ·have e':¬q.1=k:=fun z=>e (h1.trans z)
   have b:atKey (q::qs) k=atKey qs k:=by simp[atKey,ZBr,e']
   rw[Bk e,b];exact ih
theorem KT.repl{xs:List (List Key × Addr × Value)}(r:KT H Yd xs)(k:List Key)(ry:Yi y u) :
 KT H (Yd.map fun kv=>if kv.1=k then (kv.1,y) else kv) (xs.map (putAt k u)):=by
 induction r with
 | nil=>exact .nil
 | @cons p q ps qs h t ih =>
  rw[Zd,Zd];refine .cons ?_ ih;obtain⟨h1,h2,h3⟩:=h;unfold putAt
  by_cases e:p.1=k
  ·rw[if_pos e,if_pos (h1.symm.trans e)];exact⟨h1,h2,ry⟩
  ·rw[if_neg e,if_neg (fun z=>e (h1.trans z))];exact⟨h1,h2,h3⟩
theorem KT.put{xs:List (List Key × Addr × Value)}(r:KT H Yd xs)(k:List Key)(hb:H b=some (.tup (k.map kV)))(ry:Yi y u) :
 KT H (Ae Yd k y) (storedH xs k b u):=by
 have e:(Yd.any fun kv=>decide (kv.1=k))=(atKey xs k).isSome:=by
  rw[Ff,(r.val k).isSome_eq,Option.isSome_map]
 unfold Ae storedH;rw[e]
 by_cases q:(atKey xs k).isSome=true
 ·rw[if_pos q,if_pos q];exact r.repl k ry
 ·rw[if_neg q,if_neg q];exact Paired.snoc r ⟨rfl,hb,ry⟩
theorem KT.keeps{xs:List (List Key × Addr × Value)}(r:KT H Yd xs)(ht:∀b ys,H b=some (.tup ys)->H' b=some (.tup ys)):KT H' Yd xs :=
 Paired.mapP r fun _ _ z=>⟨z.1,ht _ _ z.2.1,z.2.2⟩
section
variable {P:Program}{w:World}{H:Hp}{h:Heap}{a:Addr}
theorem ND{u:HO}(ok:HOk P w H h)(e:Rd H a u):ObjOk P w H h a u:=e.ok ok
theorem EF{Yd:List (Key × V)}(ok:HOk P w H h)(e:Rd H a (.dK Yd)):Yd.length<=sizeLine/\(a == sysModules)=false/\∃vs,KV Yd vs/\h.DictOf (BJ P w) a vs :=
 show ObjOk P w H h a (.dK Yd) from ND ok e
theorem PN{Yd:List (Key × V)}(ok:HOk P w H h)(e:H a=some (.dK Yd)):Yd.length<=sizeLine/\(a == sysModules)=false/\∃vs,KV Yd vs/\h.DictOf (BJ P w) a vs:=EF ok (.inl e)
theorem E6{ks:List Key}(ok:HOk P w H h)(e:H a=some (.tup (ks.map kV))):(tupleKind (BJ P w)).is h ks a:=by
 obtain⟨_,Yf,r,o,h1,h2,⟨n,h3⟩,_⟩:=(show ObjOk P w H h a (.tup (ks.map kV)) from ok a _ e);exact⟨o,Yf.toArray,n,h1,h2,h3,by simpa using Jz r⟩
theorem Df(ok:HOk P w H h)(e:Rd H a (.dT Yd)):Yd.length<=sizeLine/\(a == sysModules)=false /\
 ∃xs,KT H Yd xs/\h.DictOfH (tupleKind (BJ P w)) a xs:=by
 obtain⟨z,y,xs,r,o,es,ep,h1,h2,h3,h4,h5⟩:=(show ObjOk P w H h a (.dT Yd) from ND ok e);refine⟨z,y,xs,r,o,es,ep,h1,h2,h3,h4,fun x hx=>?_,h5⟩
 have all:∀{l:List (List Key × V)} {m:List (List Key × Addr × Value)},KT H l m->∀x∈m,(tupleKind (BJ P w)).is h x.1 x.2.1:=by
  intro l m q
  induction q with
  | nil=>intro x hx;exact nomatch hx
  | @cons p q ps qs hq t ih =>
   intro x hx
   rcases ZH.mp hx with e | hx
   ·subst e;exact E6 ok (by rw[<- hq.1];exact hq.2.1)
   ·exact ih x hx
 exact all r x hx
theorem Wd(ok:HOk P w H h)(e:H a=some (.dT Yd)):Yd.length<=sizeLine/\(a == sysModules)=false /\
 ∃xs,KT H Yd xs/\h.DictOfH (tupleKind (BJ P w)) a xs:=Df ok (.inl e)
end
def DGet(H:Hp)(a:Addr)(y:V)(r:Option V):Prop :=
 (∃Yd k,Rd H a (.dK Yd)/\y=kV k/\r=valV Yd k)\/∃Yd k b,Rd H a (.dT Yd)/\y=.ref b/\H b=some (.tup (k.map kV))/\r=valV Yd k
def DPut(H:Hp)(a:Addr)(y v:V)(H':Hp):Prop :=
 (∃Yd k,H a=some (.dK Yd)/\y=kV k/\Yd.length < sizeLine/\H'=upd H a (.dK (Ae Yd k v))) \/
 ∃Yd k b,H a=some (.dT Yd)/\y=.ref b/\H b=some (.tup (k.map kV))/\Yd.length < sizeLine/\H'=upd H a (.dT (Ae Yd k v))
theorem DGet.k{Yd:List (Key × V)}{k:Key}(e:H a=some (.dK Yd)):DGet H a (kV k) (valV Yd k):=.inl ⟨Yd,k,.inl e,rfl,rfl⟩
theorem DGet.t{k:List Key}(e:H a=some (.dT Yd))(eb:H b=some (.tup (k.map kV))):DGet H a (.ref b) (valV Yd k):=.inr ⟨Yd,k,b,.inl e,rfl,eb,rfl⟩
theorem DPut.k{Yd:List (Key × V)}{k:Key}(e:H a=some (.dK Yd))(hl:Yd.length < sizeLine):DPut H a (kV k) v (upd H a (.dK (Ae Yd k v))):=.inl ⟨Yd,k,e,rfl,hl,rfl⟩
theorem DPut.t{k:List Key}(e:H a=some (.dT Yd))(eb:H b=some (.tup (k.map kV)))(hl:Yd.length < sizeLine) :
 DPut H a (.ref b) v (upd H a (.dT (Ae Yd k v))):=.inr ⟨Yd,k,b,e,rfl,eb,hl,rfl⟩
section
variable {X:Cx}{Ya:List (Addr × Obj)}{σ:St}{H:Hp}{s:Shared}{a:Addr}{y v:V}{u r:Value}{o:Option V}{A:Around}{E:Value->Shared->Prop}
theorem Yg.big(I:Yg X Ya σ H s):sysModules < s.heap.objs.size:=by
 have h:mainGlobals < s.heap.objs.size:=(I.mod.glob.keeps I.bk).lt;exact ZBR (by decide) h
theorem N4(hu:A.units+1 < cLine)(I:Yg X Ya σ H s)(g:DGet H a y (some v))(ry:Yi y u)(h:∀w' s',Yg X Ya σ H s'->Yi v w'->Q w' s') :
 wpAny (model X.prog X.w) A (getItem (.ref a) u) Q E s:=by
 rcases g with ⟨Yd,k,e,ey,l⟩ | ⟨Yd,k,b,e,ey,eb,l⟩
 ·subst ey;obtain⟨z,hd,vs,rel,dd⟩:=EF I.hok e;obtain⟨w',hw,rw'⟩:=RelO.some_of (v:=v) (o:=valueAt vs k) (by rw[l];exact rel.val k);exact wpAny_getItem_of (Ev ry) dd.mapOf hw (h w' _ (I.tok _) rw')
 ·subst ey;cases (show u=Value.ref b from ry);obtain⟨z,hd,xs,rel,dd⟩:=Df I.hok e;obtain⟨w',hw,rw'⟩:=RelO.some_of (v:=v) (o:=(atKey xs k).map (·.2)) (by rw[l];exact rel.val k);obtain⟨p,hp,hp2⟩:=ZBg.mp hw;refine wpAny_getItem_heap (tupleKind_room_in1 hu) (E6 I.hok eb) dd hp ?_;rw[hp2];exact h w' _ (I.tok _) rw'
theorem Ts(hu:A.units+1 < cLine)(I:Yg X Ya σ H s)(g:DGet H a y o)(ry:Yi y u)(h:∀s',Yg X Ya σ H s'->Q (.bool (!o.isSome)) s') :
 wpAny (model X.prog X.w) A (compareOp .NotIn u (.ref a)) Q E s:=by
 rcases g with ⟨Yd,k,e,ey,l⟩ | ⟨Yd,k,b,e,ey,eb,l⟩
 ·subst ey;obtain⟨z,hd,vs,rel,dd⟩:=EF I.hok e;refine wpAny_notIn_of (Ev ry) hd dd.mapOf ?_;rw[<- (rel.val k).isSome_eq,<- l];exact h _ (I.tok _)
 ·subst ey;cases (show u=Value.ref b from ry);obtain⟨z,hd,xs,rel,dd⟩:=Df I.hok e;refine wpAny_notIn_heap (tupleKind_room_in1 hu) (E6 I.hok eb) hd dd ?_;have q:=(rel.val k).isSome_eq;rw[Option.isSome_map]at q;rw[<- q,<- l];exact h _ (I.tok _)
theorem NW{h':Heap}{t':Nat}{ob:HO}(I:Yg X Ya σ H s)(mu:Mut (H a))(hs:Heap.SameBut a s.heap h')(he:∃q,h'.get? a=some q)(new:ObjOk X.prog X.w (upd H a ob) h' a ob) :
 Yg X Ya σ (upd H a ob) { s with heap:=h',toks:=t' } :=
 I.write (x:=a) (e:=a) mu (.inl rfl) (fun b q hb z=>(hs.2 b hb).trans z) he new
theorem Pq{h':Heap}{Yd:List (Key × V)}{vs:List (Key × Value)}(z:Yd.length<=sizeLine)(hd:(a == sysModules)=false)(rel:KV Yd vs)(dd:h'.DictOf (BJ P w) a vs) :
 ObjOk P w H' h' a (.dK Yd):=⟨z,hd,vs,rel,dd⟩
theorem QE{Q:Unit->Shared->Prop}(hu:A.units+1 < cLine)(I:Yg X Ya σ H s)(g:DPut H a y v H')(ry:Yi y u)(rv:Yi v r)(h:∀s',Yg X Ya σ H' s'->Q () s') :
 wpAny (model X.prog X.w) A (setItem (.ref a) u r) Q E s:=by
 rcases g with ⟨Yd,k,e,ey,l,eH⟩ | ⟨Yd,k,b,e,ey,eb,l,eH⟩
 ·subst ey eH;obtain⟨z,hd,vs,rel,dd⟩:=PN I.hok e;have hz:vs.length<=sizeLine:=by rw[<- rel.length];exact z
  have hl:(Ae Yd k v).length<=sizeLine:=by have:=KF Yd k v;lia
  refine wpAny_setItem_pairs (hsz:=hz) (Ev ry) dd fun h' dd' hs=>h _ ?_
  have he:∃q,h'.get? a=some q:=let ⟨q,_,_,hq,_⟩:=dd';⟨q,hq⟩;exact NW I (by rw[e];exact True.intro) hs he (Pq hl hd (rel.put k rv) dd')
 ·subst ey eH;cases (show u=Value.ref b from ry);obtain⟨z,hd,xs,rel,dd⟩:=Wd I.hok e;have hz:xs.length<=sizeLine:=by rw[<- Paired.length rel];exact z
  have hl:(Ae Yd k v).length<=sizeLine:=by have:=KF Yd k v;lia
  refine wpAny_setItem_heap (hsz:=hz) (tupleKind_room_in1 hu) (E6 I.hok eb) dd fun h' dd' hs=>h _ ?_
  obtain⟨q,es,ep,hq,h2,h3,h4,_,h5⟩:=dd';refine NW I (by rw[e];exact True.intro) hs ⟨q,hq⟩ ⟨hl,hd,_,(rel.put k eb rv).keeps fun c ys ec=>?_,q,es,ep,hq,h2,h3,h4,h5⟩;rw[AI (BO ec e (fun z=>nomatch z))];exact ec
end
def Ln(i:Expr):Prop:=∀ov iv,subscripted i false ov iv=operate [ov,iv] (getItem ov iv)
theorem Tj {prog:Program} {E:Value->Shared->Prop} {env:Env} {value slice:Expr} {T id:String} 
 (hl:typeLookup (.type T) "__getitem__" = pure (some (.builtin id))) (hs:Ln slice)
 (h:wpAny (model prog w) A (eval value env) (fun o s₁=>wpAny (model prog w) A (eval slice env) (fun i s₂=>s₂.TypeIs o T/\wpAny (model prog w) A (getItem o i) Q E s₂) E s₁) E s) :
 wpAny (model prog w) A (eval (.Subscript value slice pos) env) Q E s:=by
 refine Subscript_ (ZZ h (fun o s₁ h₁=>ZZ h₁ (fun i s₂ h₂=>?_) fun _ _ x=>x) fun _ _ x=>x);obtain⟨hT,h₂⟩:=h₂;unfold subscriptTail;refine ZA ?_;rw[getitemInPython_of_ne hT.not_modules];refine ZA (wpAny_specialOf hT hl ?_)
 have fin:wpAny (model prog w) A (subscripted slice false o i) (fun r s₃=>wpAny (model prog w) A (letTemporaryGo value o r >>= fun _=>pure r) Q E s₃) E s₂:=by
  rw[hs o i];exact wpAny_operating (ZZ h₂ (fun r s₃ h₃=>ZA (wpAny_letTemporaryGo (ZB h₃))) fun _ _ x=>x)
 first
  | exact ZB (ZA fin)
  | exact ZA (ZB (ZA fin))
  | exact ZA fin
theorem WQ{Ya:List (Addr × Obj)}{o:Option V}(I:Yg X Ya σ H s)(g:DGet H a y o):s.TypeIs (.ref a) "dict":=by
 rcases g with ⟨Yd,k,e,_,_⟩ | ⟨Yd,k,b,e,_,_,_⟩
 ·obtain⟨_,_,vs,_,dd⟩:=EF I.hok e;exact dd.typeIs
 ·obtain⟨_,_,xs,_,dd⟩:=Df I.hok e;exact dd.typeIs
def Vd(td ty:TE):TE:=fun σ H Q=>td σ H fun x H1=>ty σ H1 fun y H2=>∃a v,x=.ref a/\DGet H2 a y (some v)/\Q v H2
def M0(td ty tv:TE):TS:=fun D σ H=>tv σ H fun v H1=>td σ H1 fun x H2=>ty σ H2 fun y H3=>∃a H4,x=.ref a/\DPut H3 a y v H4/\D.nx σ H4
section
variable {X:Cx}{o i e value:Expr}{pos pos' tpos:Pos}{td ty tv:TE}
theorem JC(hu:X.A.units+1 < cLine)(ho:PE X o td)(hi:PE X i ty)(hs:Ln i):PE X (.Subscript o i pos) (Vd td ty):=by
 intro Ya s σ H Q I h;refine Tj PySem.F.slot_dict_getitem.lookup hs (Ym (ho Ya s σ H _ I h) fun u s1 ⟨x,H1,I1,rx,q1⟩=>Ym (hi Ya s1 σ H1 _ I1 q1) fun iv s2 ⟨y,H2,I2,ry,a,v,ex,g,q2⟩=>?_);subst ex;obtain rfl:u=Value.ref a:=rx;exact⟨WQ I2 g,N4 hu I2 g ry fun w' s3 I3 rw'=>⟨v,H2,I3,rw',q2⟩⟩
theorem Ez(hu:X.A.units+1 < cLine)(ho:PE X o td)(hi:PE X i ty)(hv:PE X value tv)(hs:swapsWith value (some (.Subscript o i pos')) pos.line X.env=pure false) :
 PS X (.Assign [.Subscript o i pos'] value pos) (M0 td ty tv):=by
 intro Ya s σ H D I h;refine wpAny_Assign_Subscript (Ym (hv Ya s σ H _ I h) fun r s1 ⟨v,H1,I1,rv,q1⟩=>Ym (ho Ya s1 σ H1 _ I1 q1) fun u s2 ⟨x,H2,I2,rx,q2⟩=>Ym (hi Ya s2 σ H2 _ I2 q2) fun iv s3 ⟨y,H3,I3,ry,a,H4,ex,g,q3⟩=>?_) hs;subst ex;obtain rfl:u=Value.ref a:=rx;exact QE hu I3 g ry rv fun s4 I4=>⟨σ,H4,I4,q3⟩
end
theorem OO(h:Heap)(hb:sysModules < h.objs.size):ObjOk P w H (h.push { cls:=.type "dict",data:=.dict #[] }) h.objs.size (.dK []) :=
 ⟨ZP _,beq_eq_false_iff_ne.mpr (Ne.symm (ZO hb)),[],.nil,Heap.DictOf.new h⟩
theorem QP(h:Heap)(hb:sysModules < h.objs.size):ObjOk P w H (h.push { cls:=.type "dict",data:=.dict #[] }) h.objs.size (.dT []) :=
 ⟨ZP _,beq_eq_false_iff_ne.mpr (Ne.symm (ZO hb)),[],.nil,_,#[],0,ZN _ rfl,⟨rfl,rfl,rfl⟩,rfl,rfl,List.nodup_nil⟩
def SE:TE:=fun _ H Q=>∀p,H p=none->Q (.ref p) (upd H p (.dK []))
def KJ:TE:=fun _ H Q=>∀p,H p=none->Q (.ref p) (upd H p (.dT []))
section
variable {X:Cx}{pos:Pos}
theorem FJ:PE X (.Dict [] [] pos) SE:=fun Ya s σ H Q I h =>
 wpAny_Dict_empty ⟨.ref s.heap.objs.size,_,I.laid (a:=s.heap.objs.size) (o:=.dK []) (t':=s.toks) (fun _ _ q=>ZF _ q) (ZD _) (OO s.heap I.big),rfl,h _ (I.hok.fresh (ZD _))⟩
theorem Oc:PE X (.Dict [] [] pos) KJ:=fun Ya s σ H Q I h =>
 wpAny_Dict_empty ⟨.ref s.heap.objs.size,_,I.laid (a:=s.heap.objs.size) (o:=.dT []) (t':=s.toks) (fun _ _ q=>ZF _ q) (ZD _) (QP s.heap I.big),rfl,h _ (I.hok.fresh (ZD _))⟩
end
structure M2(X:Cx)(o:Expr)(m:Str)(apos:Pos)(e f:Expr)(cpos:Pos):Prop where
 base:attributeBase o m X.env (eval o X.env)=eval o X.env
 few:((backTo cpos (starEach [e,f] X.env)).all (fun x=>!x.1) && (backToKw cpos (keywordEach [] X.env)).all (fun x=>x.1.isSome)
  && decide (([e,f]:List Expr).length+([]:List Keyword).length+(if ([]:List Keyword).isEmpty then 0 else 1) < 30))=true
 line:(apos.endLine == cpos.line)=true
 trees:backTo cpos (starEach [e,f] X.env)=[(false,eval e X.env),(false,eval f X.env)]
def IsD(H:Hp)(a:Addr):Prop:=(∃Yd,Rd H a (.dK Yd))\/∃Yd,Rd H a (.dT Yd)
theorem QU{Ya:List (Addr × Obj)}(I:Yg X Ya σ H s)(d:IsD H a) :
 s.TypeIs (.ref a) "dict" /\ (∀b,Value.ref a=.ref b->∃ob,s.heap.get? b=some ob/\ob.dict=none)/\(a == sysModules)=false:=by
 rcases d with ⟨Yd,e⟩ | ⟨Yd,e⟩
 ·obtain⟨_,hd,vs,_,dd⟩:=EF I.hok e;refine⟨dd.typeIs,fun b q=>?_,hd⟩;cases q;obtain⟨ob,_,_,h1,h2,_⟩:=dd;exact⟨ob,h1,h2.2.1⟩
 ·obtain⟨_,hd,xs,_,dd⟩:=Df I.hok e;refine⟨dd.typeIs,fun b q=>?_,hd⟩;cases q;obtain⟨ob,_,_,h1,h2,_⟩:=dd;exact⟨ob,h1,h2.2.1⟩
section
variable {X:Cx}{Ya:List (Addr × Obj)}{σ:St}{H:Hp}{s:Shared}{a:Addr}{y d:V}{u r:Value}{o:Option V}{A:Around}{E:Value->Shared->Prop}
theorem UH(hu:A.units+1 < cLine)(I:Yg X Ya σ H s)(g:DGet H a y o)(ry:Yi y u)(rd:Yi d r)(h:∀w' s',Yg X Ya σ H s'->Yi (o.getD d) w'->Q w' s') :
 wpAny (model X.prog X.w) A (call (.builtin "dict.get") [.ref a,u,r]) Q E s:=by
 rcases g with ⟨Yd,k,e,ey,l⟩ | ⟨Yd,k,b,e,ey,eb,l⟩
 ·subst ey;obtain⟨z,hd,vs,rel,dd⟩:=EF I.hok e;refine call_meetsIn PySem.F.slot_dict_get dd.typeIs PySem.F.entry_dict_get (PySem.F.args_dict_get_3 _ _ _) (meets_dict_get_default (BJ X.prog X.w) a (Ev ry) hd r) ⟨_,dd.mapOf,h _ _ (I.tok _) ?_⟩;rw[l];exact(rel.val k).getD rd
 ·subst ey;cases (show u=Value.ref b from ry);obtain⟨z,hd,xs,rel,dd⟩:=Df I.hok e;refine call_meetsIn PySem.F.slot_dict_get dd.typeIs PySem.F.entry_dict_get (PySem.F.args_dict_get_3 _ _ _) (meetsH_dict_get_default (tupleKind (BJ X.prog X.w)) a b hd r) ⟨tupleKind_room_in1 hu,k,xs,E6 I.hok eb,dd,h _ _ (I.tok _) ?_⟩;rw[l];exact(rel.val k).getD rd
end
def RE(td ty tx:TE):TE:=fun σ H Q=>td σ H fun x H1=>∃a,x=.ref a/\IsD H1 a/\ty σ H1 fun y H2=>tx σ H2 fun z H3=>∃o,DGet H3 a y o/\Q (o.getD z) H3
section
variable {X:Cx}{o e f:Expr}{apos cpos:Pos}{td ty tx:TE}
theorem KD(hu:X.A.units+1 < cLine)(ho:PE X o td)(he:PE X e ty)(hf:PE X f tx)(m:M2 X o "get" apos e f cpos):PE X (.Call (.Attribute o "get" apos) [e,f] [] cpos) (RE td ty tx):=by
 intro Ya s σ H Q I h;refine wpAny_Call_method m.base m.few m.line PySem.F.plainAttrs_dict PySem.F.slot_dict_get PySem.F.type_dict_get (Ym (ho Ya s σ H _ I h) fun u s1 ⟨x,H1,I1,rx,a,ex,d,q1⟩=>?_);subst ex;obtain rfl:u=Value.ref a:=rx;obtain⟨t1,t2,_⟩:=QU I1 d;refine⟨t1,t2,?_⟩;rw[m.trees]
 refine Calls.callWith_builtin rfl (Calls.evalArgs_plain (Calls.spliced_cons (Ym (he Ya s1 σ H1 _ I1 q1) fun iv s2 ⟨y,H2,I2,ry,q2⟩ =>
  Calls.spliced_cons (Ym (hf Ya s2 σ H2 _ I2 q2) fun fv s3 ⟨z,H3,I3,rz,ov,g,q3⟩=>Calls.spliced_nil ?_))))
 exact UH hu I3 g ry rz fun w' s4 I4 rw'=>⟨_,H3,I4,rw',q3⟩
end
section
variable {X:Cx}{K:W.Frag}{o:Expr}{to:TE}{apos cpos:Pos}
def J9:V->List V->Hp->VK->Prop:=fun x vs H Q=>match x,vs with
 | .int i,[]=>Q (.int (Builtin.Int.intBits i:Nat)) H
 | _,_=>False
theorem Tz:MtR X "int.bit_length" J9:=by
 intro Ya s σ H x vs v us Q I rx rv q
 match x,vs,q with
 | .int i,[],q =>
  cases rv;obtain⟨t,rfl⟩:=(show ∃t,v=Value.int i t from rx);exact PyProof.Rows.call_int_bit_length ⟨.int (Builtin.Int.intBits i:Nat),H,I.tok _,⟨_,rfl⟩,q⟩
theorem Pj(ho:PE X o to)(hbase:attributeBase o "bit_length" X.env (eval o X.env)=eval o X.env:=by rfl)(hline:(apos.endLine == cpos.line)=true:=by rfl)(hK:X.K=K:=by rfl) :
 PE X (.Call (.Attribute o "bit_length" apos) [] [] cpos) (Mu K "int" J9 to):=hK ▸ TD PySem.F.plainAttrs_int PySem.F.slot_int_bit_length PySem.F.type_int_bit_length Tz ho hbase hline
end
def Ite(K:W.Frag)(l:Addr):It :=
 ⟨fun i H=>∃xs x,Yv K H l xs/\xs[i]? = some x,
  fun i H v H'=>∃p x,H p=none/\v=.ref p/\H'=upd H p (.tup [.int i,x])/\∀xs,Yv K H l xs->xs[i]? = some x,
  fun i H=>∃xs,Yv K H l xs/\xs.length<=i⟩
theorem OB{kt:Nat}{tpos:Pos}{e it:Addr}(Yw:e≠it) :
 Turn P w K (.Tuple es kt tpos) (Ite K l) [e,it] e (fun i h=>(∃old,IsEnum h e it (i:Int) old)/\h.IsListIter it l i) where
 mem:=by simp
 obj:=fun i h st b hb=>by
  obtain⟨⟨old,hz⟩,⟨o1,e1,c1,d1⟩⟩:=st;simp only[ZH,Z8,or_false]at hb
  rcases hb with rfl | rfl
  ·exact⟨_,hz,fun v q=>nomatch q⟩
  ·exact⟨o1,e1,fun v q=>by rw[d1]at q;cases q⟩
 keep:=fun i h h' ⟨⟨old,hz⟩,h1⟩ k=>⟨⟨old,k e (by simp) _ hz⟩,h1.at fun o q=>k it (by simp) o q⟩
 item:=by
  intro X hP hw hK hc i Ya s σ H E I hf st hg;subst hP hw hK;obtain⟨xs,x,hq1,hx⟩:=hg;obtain⟨⟨old,hz⟩,h1⟩:=st;obtain⟨Yf,rv,p,_⟩:=I.list hq1;obtain⟨u,hu,ru⟩:=rv.get hx;refine wpAny_pyNext_enum_item hz h1 p.isList (x:=u) (by simpa using hu) Yw fun h' z1 z2 z3 z4 z5=>?_
  refine⟨_,rfl,?_⟩
  have z5':∀b v,b∉[e,it]->s.heap.get? b=some v->h'.get? b=some v:=fun b v hb q=>by
   simp only[ZH,Z8,or_false,not_or]at hb;exact z5 b v hb.1 hb.2 q
  have I1:Yg X Ya σ (upd H s.heap.objs.size (.tup [.int i,x])) { s with heap:=h' }:=by
   refine I.turnedNew (ch:=[e,it]) (fun b hb=>hf b hb) (ZD _) z5' ?_ fun b hb=>?_
   ·exact⟨smq rfl,[.int i s.toks,u],.cons ⟨_,rfl⟩ (.cons ru .nil),⟨_,z3,rfl,⟨_,rfl⟩,rfl⟩⟩
   ·simp only[ZH,Z8,or_false]at hb
    rcases hb with rfl | rfl
    ·exact⟨_,z1⟩
    ·obtain⟨o,q,_⟩:=z2;exact⟨o,q⟩
  refine wpAny_letOwnedTupleGo_enum (s:={ s with heap:=h',toks:=s.toks+1 }) z1 fun h'' z8 z9=>?_
  have hfz:=hf e (by simp)
  have neT:∀b,b∈[e,it]->b≠s.heap.objs.size:=fun b hb q=>by
   have st':∃o,s.heap.get? b=some o:=by
    simp only[ZH,Z8,or_false]at hb
    rcases hb with rfl | rfl
    ·exact⟨_,hz⟩
    ·obtain⟨o,q,_⟩:=h1;exact⟨o,q⟩
   obtain⟨o,ho⟩:=st'
   have:=ZG ho
   rw[q]at this;exact Za _ this
  have hTH:∀b∈[e,it],upd H s.heap.objs.size (.tup [.int i,x]) b=none:=fun b hb=>by rw[AI (neT b hb)];exact(hf b hb).1
  have I2:Yg X Ya σ (upd H s.heap.objs.size (.tup [.int i,x])) { s with heap:=h'',toks:=s.toks+1 } :=
   I1.turned (t':=s.toks+1) (fun b o hb q=>(z9.2 b hb).trans q) (hTH e (by simp)) hfz.2.1 hfz.2.2.2.1 hfz.2.2.2.2.1 hfz.2.2.2.2.2
  have up:∀b o,b≠e->h'.get? b=some o->h''.get? b=some o:=fun b o hb q=>(z9.2 b hb).trans q
  exact⟨.ref s.heap.objs.size,_,I2,rfl,⟨_,x,I.hok.fresh (ZD _),rfl,rfl,fun xs' h=>by rw[I.list_inj h hq1];exact hx⟩,⟨⟨_,z8⟩,z2.at fun o q=>up _ o (Ne.symm Yw) q⟩,hTH⟩
 done:=by
  intro X hP hw hK hc i Ya s σ H E I hf st hg;subst hP hw hK;obtain⟨xs,hq1,hl⟩:=hg;obtain⟨⟨old,hz⟩,h1⟩:=st;obtain⟨Yf,rv,p,_⟩:=I.list hq1;have e1:=rv.length;refine wpAny_pyNext_enum_end (I.ok.hd hc) hz h1 p.isList (by simp;lia) fun h' z7=>⟨rfl,?_⟩
  obtain⟨f0,f1,f2,f3,f4,f5⟩:=hf it (by simp);exact I.turned (t':=s.toks) (fun b o hb q=>z7 b o hb q) f0 f1 f3 f4 f5
 self:=fun _ _ _ _ _ st h=>wpAny_pyIter_enum st.1.choose_spec h
section
variable {X:Cx}
def WJ(K:W.Frag)(ta:TA):TI:=fun σ H R=>ta σ H fun vs H1=>match vs with
 | [.ref a]=>(∃xs,Yv K H1 a xs)/\R (Ite K a) H1
 | _=>False
theorem UJ {a:Expr} {ta:TA} {p:Pos} {kt:Nat} {tpos:Pos} (hg:Gl X "enumerate") (hm:X.mg "enumerate" = none) (ha:PA X [a] ta)
 (hs:starEach [a] X.env=[(false,eval a X.env)]:=by rfl) (hK:X.K=K:=by rfl) :
 PI X (.Tuple es kt tpos) (.Call (.Name "enumerate" p) [a] [] pos) (WJ K ta):=by
 subst hK;intro Ya s σ H R I h;refine Call_ (CI I hg hm (by rfl:bootBuiltins "enumerate" = some (.type "enumerate")) (PyProof.Rows.callWith_type1 (Ym (ha pos Ya s σ H _ I h) fun us s1 ⟨vs,H1,I1,r1,q1⟩=>?_) (by rw[hs];rfl) (by rfl)))
 match vs,q1,r1 with
 | [.ref l1],⟨⟨xs,hx⟩,q⟩,r1 =>
 cases r1 with
 | cons r rr =>
 cases rr;cases r;obtain⟨Yf,rv,p1,_⟩:=I1.list hx;refine call_enumerate_list p1.isList fun h' z1 z2 z3 z4=>?_
 refine wpAny_pyIter_enum (s:={ s1 with heap:=h' }) z1 ?_;have I2:Yg X Ya σ H1 { s1 with heap:=h' }:=I1.kept (t':=s1.toks) z4;refine⟨_,_,_,_,H1,rfl,I2,OB (l:=l1) (it:=s1.heap.objs.size) (ZBN (ZBO _)),⟨⟨_,z1⟩,z2⟩,fun b hb=>?_,q⟩;refine I1.fpOk ?_ (I1.hok.fresh ?_)
 all_goals
  simp only[ZH,Z8,or_false]at hb
  rcases hb with rfl | rfl
  ·exact ZBV _
  ·exact ZD _
theorem WP {g:TG} {tc:TT} {Q:VK} (Pv:Nat->List V->Hp->Prop) (h0:Pv 0 [] H) (hl:∀i zs H,i<=xs.length->Pv i zs H->Yv K H l xs) (hz:∀i zs H,i < xs.length->Pv i zs H->zs.length < sizeLine)
 (hs:∀i x zs H p,xs[i]? = some x->Pv i zs H->H p=none->g (.ref p) σc (upd H p (.tup [.int (i:Nat),x])) fun σ2 H2=>tc σ2 H2 fun b H3=>if b=true then te σ2 H3 fun v H4=>Pv (i+1) (zs++[v]) H4 else Pv (i+1) zs H3)
 (hd:∀zs H,Pv xs.length zs H->∀p,H p=none->Q (.ref p) (upd H p (.lst zs))):C3 (Ite K l) g tc te σc Q H:=by
 refine⟨fun i m zs H=>m=xs.length - i/\i<=xs.length/\Pv i zs H,⟨xs.length,by simp,ZP _,h0⟩,?_⟩;rintro i m zs H ⟨rfl,hi,p⟩;have q1:=hl i zs H hi p
 by_cases Yr:i < xs.length
 ·refine .inr ⟨⟨xs,xs[i],q1,by simp[Yr]⟩,hz i zs H Yr p,Pv (i+1),fun zs' H' p'=>⟨xs.length - (i+1),by lia,rfl,Yr,p'⟩,?_⟩;rintro v H' ⟨pp,x,hp,rfl,rfl,k1⟩;exact hs i x zs H pp (k1 xs q1) p hp
 ·have e:i=xs.length:=by lia
  subst e;exact .inl ⟨⟨xs,q1,ZD _⟩,hd zs H p⟩
end
def TyS(K:W.Frag)(H:Hp)(x:V)(t:String):Prop:=match x with
 | .int _=>t = "int"
 | .bl _=>t = "bool"
 | .ref a=>(t = "tuple" /\ ∃xs,Ys K H a xs)\/(t = "list" /\ ∃xs,Yv K H a xs)
 | _=>False
def Bf(t T:String):Bool:=t == T || (t == "bool" && T == "int")
section
variable {X:Cx}{K:W.Frag}
theorem LI{Ya:List (Addr × Obj)}{x:V}{t:String}(I:Yg X Ya σ H s)(rx:Yi x u)(h:TyS X.K H x t) :
 (t = "int" \/ t = "bool" \/ t = "tuple" \/ t = "list")/\u≠Value.builtin "__main__.__loader__#opaque" /\ ∃Hh:Heap->Prop,PySem.W.KitX X.K u (.type t) Hh/\Hh s.heap:=by
 cases x with
 | int i =>
  obtain⟨k,rfl⟩:=(show ∃t,u=Value.int i t from rx);cases (show t = "int" from h);exact⟨.inl rfl,(fun z=>nomatch z),_,PySem.W.kitx_int,True.intro⟩
 | bl b =>
  cases (show u=Value.bool b from rx);cases (show t = "bool" from h);exact⟨.inr (.inl rfl),(fun z=>nomatch z),_,PySem.W.kitx_bool,True.intro⟩
 | ref a =>
  cases (show u=Value.ref a from rx)
  rcases h with ⟨rfl,xs,hq⟩ | ⟨rfl,xs,hq⟩
  ·obtain⟨Yf,rv,p,_⟩:=I.tuple hq;obtain⟨o,h1,h2,_⟩:=p;exact⟨.inr (.inr (.inl rfl)),(fun z=>nomatch z),_,PySem.W.kitx_tuple,⟨o,h1,h2⟩⟩
  ·obtain⟨Yf,rv,p,_⟩:=I.list hq;obtain⟨o,n,h1,h2,_⟩:=p;exact⟨.inr (.inr (.inr rfl)),(fun z=>nomatch z),_,PySem.W.kitx_list,⟨o,h1,h2⟩⟩
 | _=>exact False.elim h
end
open AutoSeq1 (wpAny_loadPart')
section
variable {prog:Program}{w:World}{A:Around}{E:Value->Shared->Prop}{s:Shared}
theorem T9 {j tp:Addr} {k:Nat} {Yf:Array Value} {z:Value} (hj:s.heap.IsTupleIter j tp k) (hp:s.heap.IsTuple tp Yf) (hz:Yf[k]? = some z)
 (q:∀h',h'.IsTupleIter j tp (k+1)->Heap.SameBut j s.heap h'->Q z { s with heap:=h' }):wpAny (model prog w) A (Builtin.SmallTypes.nextOf (.ref j)) Q E s:=by
 obtain⟨ob,g1,g2,g3⟩:=id hj;obtain⟨ol,k1,_,nl,k3⟩:=hp;unfold Builtin.SmallTypes.nextOf;refine ZA (wpAny_callSpecial?_slot (name:=Str.ofString "__next__") hj.typeIs F.slot_tuple_iterator_next (Zx F.slot_tuple_iterator_next hj.typeIs F.entry_tuple_iterator_next ?_ (F.args_tuple_iterator_next_1 _)));show wpAny _ _ (field (.ref j) 0 >>= _) _ _ s;refine ZA (ZBD g1 g3 (x:=.ref tp) rfl ?_);show wpAny _ _ (if (Value.ref tp == Value.none)=true then _ else _) _ _ s;rw[if_neg (c:=(Value.ref tp == Value.none)=true) (fun z=>Z7 z)];show wpAny _ _ (field (.ref j) 1 >>= _) _ _ s;refine ZA (ZBD g1 g3 (x:=.int k 0) rfl ?_);show wpAny _ _ (seqItems? (.ref tp) >>= _) _ _ s;refine ZA (wpAny_seqItems k1 k3 ?_);simp only[Zm,hz];refine ZA (ZBI g1 g3 (by simp) (ZB ⟨z,rfl,ZB (q _ ?_ (Z3 ..))⟩));refine⟨_,ZBG _ g1 (Obj.isFreed_of_fields (Obj.data_mapFields g3 _)),(Obj.cls_mapFields ..).trans g2,?_⟩;rw[Obj.data_mapFields g3];simp[rawInt]
theorem Ks {j tp:Addr} {k:Nat} {Yf:Array Value} (hh:A.handled=none) (hj:s.heap.IsTupleIter j tp k) (hp:s.heap.IsTuple tp Yf) (hz:Yf[k]? = none)
 (q:∀h' e,Heap.ExtBut j s.heap h'->(∃o,h'.get? e=some o/\o.cls=.type "StopIteration")->E (.ref e) { s with heap:=h' }):wpAny (model prog w) A (Builtin.SmallTypes.nextOf (.ref j)) Q E s:=by
 obtain⟨ob,g1,g2,g3⟩:=id hj;obtain⟨ol,k1,_,nl,k3⟩:=hp;unfold Builtin.SmallTypes.nextOf;refine ZA (wpAny_callSpecial?_slot (name:=Str.ofString "__next__") hj.typeIs F.slot_tuple_iterator_next (Zx F.slot_tuple_iterator_next hj.typeIs F.entry_tuple_iterator_next ?_ (F.args_tuple_iterator_next_1 _)));show wpAny _ _ (field (.ref j) 0 >>= _) _ _ s;refine ZA (ZBD g1 g3 (x:=.ref tp) rfl ?_);show wpAny _ _ (if (Value.ref tp == Value.none)=true then _ else _) _ _ s;rw[if_neg (c:=(Value.ref tp == Value.none)=true) (fun z=>Z7 z)];show wpAny _ _ (field (.ref j) 1 >>= _) _ _ s;refine ZA (ZBD g1 g3 (x:=.int k 0) rfl ?_);show wpAny _ _ (seqItems? (.ref tp) >>= _) _ _ s;refine ZA (wpAny_seqItems k1 k3 ?_);simp only[Zm,hz];refine ZA (wpAny_rule (ZA (ZBI g1 g3 (by simp) ?_)));show wpAny _ _ (newExc (.type "StopIteration") [] >>= fun z=>_) _ _ _;refine ZA ?_;simp only[newExc,newTuple];refine ZA (Zn (hd:=by size_fits) ?_);refine ZA (m:=firstArgMember _ _) (wpAny_of_eq (a:=Value.none) (by first | (simp only[firstArgMember];rfl) | rfl) ?_);refine Zn (hd:=by size_fits) ?_;simp only[raiseNew];refine ZA (wpAny_handled ?_)
 first | rw[hh] | rw[show A.in1.handled=none from hh]
 refine ZA (ZB (wpAny_throw ?_));exact q _ _ (((Z3 ..).extBut.push _).push _) ⟨_,ZN _ rfl,rfl⟩
theorem VJ(hh:A.handled=none)(j tp:Addr)(Yw:tp≠j)(Yf:Array Value) :
 Draws prog w A j [j,tp] Yf.size (fun k v=>Yf[k]? = some v) (fun k h=>h.IsTupleIter j tp k/\h.IsTuple tp Yf) where
 live:=fun _ _ st=>by obtain⟨⟨o,ho,_⟩,_⟩:=st;exact⟨o,ho⟩
 frame:=fun _ _ _ st hk=>by
  obtain⟨st1,o,h1,h2⟩:=st;exact⟨st1.at fun o e=>hk j (by simp) o e,o,hk tp (by simp) o h1,h2⟩
 item:=fun k s Q E hi st hQ=>by
  refine T9 st.1 st.2 (z:=Yf[k]) (by simp[hi]) fun h' h1 h2=>?_
  exact hQ _ h' s.toks (by simp[hi]) ⟨h1,st.2.extBut h2.extBut Yw⟩ h2
 done:=fun s Q E st hE=>Ks hh st.1 st.2 (by simp) hE
theorem Uq(tp:Addr)(Yf:Array Value)(n:Nat)(dct:Option Addr)(sl:Array (Option Value)) :
 Meets (Builtin.«enumerate.__new__» ⟨[.type "enumerate",.ref tp],[]⟩) (fun _ R s=>s.heap.get? tp=some { cls:=.type "tuple",dict:=dct,data:=.seq Yf n,slots:=sl } /\
  R (.ok (.ret (.ref (s.heap.push { cls:=.type "tuple_iterator",data:=.fields #[.ref tp,.int 0 0] }).objs.size)))
   { s with heap:=(s.heap.push { cls:=.type "tuple_iterator",data:=.fields #[.ref tp,.int 0 0] }).push { cls:=.type "enumerate",data:=.fields #[.none,.bool false,.ref s.heap.objs.size,rawInt 0,.none,.none] } }) :=
 .of_wp fun prog w A R s h=>by
  obtain⟨hp,g,d,tk,os⟩:=s;obtain⟨hl,h⟩:=h;have hsub:=sub_enumerate;have ht:Heap.IsTuple (Shared.heap ⟨hp,g,d,tk,os⟩) tp Yf:=⟨_,hl,rfl,n,rfl⟩
  wp_walk using wpAny_loadPart' hl
  refine wpAny_stack_any fun st=>ZB ?_
  split
  ·rename_i c _ _ _ _ _;cases (c == Value.type "enumerate") <;> (wp_walk using wpAny_loadPart' hl,wpAny_pyIter_tuple ht;exact⟨_,rfl,h⟩)
  ·wp_walk using wpAny_loadPart' hl,wpAny_pyIter_tuple ht
   exact⟨_,rfl,h⟩
theorem Od {tp:Addr} {Yf:Array Value} (ht:s.heap.IsTuple tp Yf)
 (h:∀h',IsEnum h' (s.heap.objs.size+1) s.heap.objs.size 0 .none->h'.IsTupleIter s.heap.objs.size tp 0->(∀b o,s.heap.get? b=some o->h'.get? b=some o)->Q (.ref (s.heap.objs.size+1)) { s with heap:=h' }) :
 wpAny (model prog w) A (call (.type "enumerate") [.ref tp]) Q E s:=by
 obtain⟨⟨c,dct,dt,sl⟩,hl,hc,n,hd⟩:=ht;cases (show c=.type "tuple" from hc);cases (show dt=.seq Yf n from hd);refine callType_new F.called_enumerate (by decide) (F.typeCall_enumerate_1 _) (F.newCall_enumerate_1 _) (fun obj=>F.args_object_init_2 obj _) F.entry_enumerate_new (Uq tp Yf n dct sl) ⟨hl,?_⟩;have z1:(s.heap.push { cls:=.type "tuple_iterator",data:=.fields #[.ref tp,.int 0 0] }).objs.size=s.heap.objs.size+1:=Z1 ..;show _/\_;rw[z1];have z2:=ZN (s.heap.push { cls:=.type "tuple_iterator",data:=.fields #[.ref tp,.int 0 0] }) (o:={ cls:=.type "enumerate",data:=.fields #[.none,.bool false,.ref s.heap.objs.size,rawInt 0,.none,.none] }) rfl;rw[z1]at z2;have z3:IsEnum _ (s.heap.objs.size+1) s.heap.objs.size 0 .none:=z2;exact⟨⟨_,z2,rfl⟩,h _ z3 ⟨_,ZF _ (ZN _ rfl),rfl,rfl⟩ fun b o x=>ZF _ (ZF _ x)⟩
end
def IU(K:W.Frag)(l:Addr):It :=
 ⟨fun i H=>∃xs x,Ys K H l xs/\xs[i]? = some x,
  fun i H v H'=>∃p x,H p=none/\v=.ref p/\H'=upd H p (.tup [.int i,x])/\∀xs,Ys K H l xs->xs[i]? = some x,
  fun i H=>∃xs,Ys K H l xs/\xs.length<=i⟩
theorem SC{kt:Nat}{tpos:Pos}{e it:Addr}(Yw:e≠it) :
 Turn P w K (.Tuple es kt tpos) (IU K l) [e,it] e (fun i h=>(∃old,IsEnum h e it (i:Int) old)/\h.IsTupleIter it l i) where
 mem:=by simp
 obj:=fun i h st b hb=>by
  obtain⟨⟨old,hz⟩,⟨o1,e1,c1,d1⟩⟩:=st;simp only[ZH,Z8,or_false]at hb
  rcases hb with rfl | rfl
  ·exact⟨_,hz,fun v q=>nomatch q⟩
  ·exact⟨o1,e1,fun v q=>by rw[d1]at q;cases q⟩
 keep:=fun i h h' ⟨⟨old,hz⟩,h1⟩ k=>⟨⟨old,k e (by simp) _ hz⟩,h1.at fun o q=>k it (by simp) o q⟩
 item:=by
  intro X hP hw hK hc i Ya s σ H E I hf st hg;subst hP hw hK;obtain⟨xs,x,hq1,hx⟩:=hg;obtain⟨⟨old,hz⟩,h1⟩:=st;obtain⟨Yf,rv,p,_⟩:=I.tuple hq1;obtain⟨u,hu,ru⟩:=rv.get hx;have hp:s.heap.IsTuple l Yf.toArray:=p;have le:l≠e:=fun q=>by obtain⟨o,g1,g2,_⟩:=hp;rw[q]at g1;rw[show s.heap.get? e=_ from hz]at g1;cases g1;exact absurd (show Value.type "enumerate" = Value.type "tuple" from g2) (by decide)
  have li:l≠it:=fun q=>by obtain⟨o,g1,g2,_⟩:=hp;obtain⟨o',g3,g4,_⟩:=h1;rw[q,g3]at g1;cases g1;rw[g4]at g2;exact absurd g2 (by decide)
  refine wpAny_pyNext_enum_itemD (VJ (A:=X.A.in1) (show X.A.in1.handled=none from I.ok.hd hc) it l li Yf.toArray) hz ⟨h1,hp⟩ ?_ Yw (by simp[Yw,Ne.symm le]) fun y h' tk py z1 z2' z3 z4 z5=>?_
  ·have:=(Zg.mp hu).1
   simpa using this
  obtain⟨z2,_⟩:=z2'
  have ey:y=u:=by
   have:Yf.toArray[i]? = some u:=by simpa using hu
   rw[this]at py;exact(ZS py).symm
  subst ey;refine⟨_,rfl,?_⟩
  have z5':∀b v,b∉[e,it]->s.heap.get? b=some v->h'.get? b=some v:=fun b v hb q=>by
   simp only[ZH,Z8,or_false,not_or]at hb;exact z5 b v hb.1 hb.2 q
  have I1:Yg X Ya σ (upd H s.heap.objs.size (.tup [.int i,x])) { s with heap:=h' }:=by
   refine I.turnedNew (ch:=[e,it]) (fun b hb=>hf b hb) (ZD _) z5' ?_ fun b hb=>?_
   ·exact⟨smq rfl,[.int i tk,y],.cons ⟨_,rfl⟩ (.cons ru .nil),⟨_,z3,rfl,⟨_,rfl⟩,rfl⟩⟩
   ·simp only[ZH,Z8,or_false]at hb
    rcases hb with rfl | rfl
    ·exact⟨_,z1⟩
    ·obtain⟨o,q,_⟩:=z2;exact⟨o,q⟩
  refine wpAny_letOwnedTupleGo_enum (s:={ s with heap:=h',toks:=tk+1 }) z1 fun h'' z8 z9=>?_
  have hfz:=hf e (by simp)
  have neT:∀b,b∈[e,it]->b≠s.heap.objs.size:=fun b hb q=>by
   have st':∃o,s.heap.get? b=some o:=by
    simp only[ZH,Z8,or_false]at hb
    rcases hb with rfl | rfl
    ·exact⟨_,hz⟩
    ·obtain⟨o,q,_⟩:=h1;exact⟨o,q⟩
   obtain⟨o,ho⟩:=st'
   have:=ZG ho
   rw[q]at this;exact Za _ this
  have hTH:∀b∈[e,it],upd H s.heap.objs.size (.tup [.int i,x]) b=none:=fun b hb=>by rw[AI (neT b hb)];exact(hf b hb).1
  have I2:Yg X Ya σ (upd H s.heap.objs.size (.tup [.int i,x])) { s with heap:=h'',toks:=tk+1 } :=
   I1.turned (t':=tk+1) (fun b o hb q=>(z9.2 b hb).trans q) (hTH e (by simp)) hfz.2.1 hfz.2.2.2.1 hfz.2.2.2.2.1 hfz.2.2.2.2.2
  have up:∀b o,b≠e->h'.get? b=some o->h''.get? b=some o:=fun b o hb q=>(z9.2 b hb).trans q
  exact⟨.ref s.heap.objs.size,_,I2,rfl,⟨_,x,I.hok.fresh (ZD _),rfl,rfl,fun xs' h=>by rw[I.tuple_inj h hq1];exact hx⟩,⟨⟨_,z8⟩,z2.at fun o q=>up _ o (Ne.symm Yw) q⟩,hTH⟩
 done:=by
  intro X hP hw hK hc i Ya s σ H E I hf st hg;subst hP hw hK;obtain⟨xs,hq1,hl⟩:=hg;obtain⟨⟨old,hz⟩,h1⟩:=st;obtain⟨Yf,rv,p,_⟩:=I.tuple hq1;have e1:=rv.length;have hp:s.heap.IsTuple l Yf.toArray:=p;have hT:s.TypeIs (.ref e) "enumerate":=⟨_,hz,rfl⟩;unfold pyNext;refine ZA (wpAny_attempt (wpAny_callSpecial?_slot (name:=Str.ofString "__next__") hT F.slot_enumerate_next (Zx F.slot_enumerate_next hT F.entry_enumerate_next ?_ (F.args_enumerate_next_1 _))));show wpAny _ _ (field (.ref e) 2 >>= fun z=>_) _ _ _;refine ZA (ZBD hz rfl (x:=.ref it) rfl ?_);refine ZA (Ks (by first | exact I.ok.hd hc | simpa using I.ok.hd hc) h1 hp (by simp;lia) fun h' x z7 hx'=>?_);obtain⟨o,ho,hcl⟩:=hx';refine ZA (wpAny_isInstance (T:="StopIteration") (b:=true) ⟨o,ho,hcl⟩ isSubtype_stop (ZB ⟨rfl,?_⟩));obtain⟨f0,f1,f2,f3,f4,f5⟩:=hf it (by simp);exact I.turned (t':=s.toks) (fun b o hb q=>z7 b o hb q) f0 f1 f3 f4 f5
 self:=fun _ _ _ _ _ st h=>wpAny_pyIter_enum st.1.choose_spec h
section
variable {X:Cx}
def TV(K:W.Frag)(ta:TA):TI:=fun σ H R=>ta σ H fun vs H1=>match vs with
 | [.ref a]=>(∃xs,Ys K H1 a xs)/\R (IU K a) H1
 | _=>False
theorem HU {a:Expr} {ta:TA} {p:Pos} {kt:Nat} {tpos:Pos} (hg:Gl X "enumerate") (hm:X.mg "enumerate" = none) (ha:PA X [a] ta)
 (hs:starEach [a] X.env=[(false,eval a X.env)]:=by rfl) (hK:X.K=K:=by rfl) :
 PI X (.Tuple es kt tpos) (.Call (.Name "enumerate" p) [a] [] pos) (TV K ta):=by
 subst hK;intro Ya s σ H R I h;refine Call_ (CI I hg hm (by rfl:bootBuiltins "enumerate" = some (.type "enumerate")) (PyProof.Rows.callWith_type1 (Ym (ha pos Ya s σ H _ I h) fun us s1 ⟨vs,H1,I1,r1,q1⟩=>?_) (by rw[hs];rfl) (by rfl)))
 match vs,q1,r1 with
 | [.ref l1],⟨⟨xs,hx⟩,q⟩,r1 =>
 cases r1 with
 | cons r rr =>
 cases rr;cases r;obtain⟨Yf,rv,p1,_⟩:=I1.tuple hx;refine Od (Yf:=Yf.toArray) p1 fun h' z1 z2 z4=>?_
 refine wpAny_pyIter_enum (s:={ s1 with heap:=h' }) z1 ?_;have I2:Yg X Ya σ H1 { s1 with heap:=h' }:=I1.kept (t':=s1.toks) z4;refine⟨_,_,_,_,H1,rfl,I2,SC (l:=l1) (it:=s1.heap.objs.size) (ZBN (ZBO _)),⟨⟨_,z1⟩,z2⟩,fun b hb=>?_,q⟩;refine I1.fpOk ?_ (I1.hok.fresh ?_)
 all_goals
  simp only[ZH,Z8,or_false]at hb
  rcases hb with rfl | rfl
  ·exact ZBV _
  ·exact ZD _
theorem Ii {g:TG} {tc:TT} {Q:VK} (Pv:Nat->List V->Hp->Prop) (h0:Pv 0 [] H) (hl:∀i zs H,i<=xs.length->Pv i zs H->Ys K H l xs) (hz:∀i zs H,i < xs.length->Pv i zs H->zs.length < sizeLine)
 (hs:∀i x zs H p,xs[i]? = some x->Pv i zs H->H p=none->g (.ref p) σc (upd H p (.tup [.int (i:Nat),x])) fun σ2 H2=>tc σ2 H2 fun b H3=>if b=true then te σ2 H3 fun v H4=>Pv (i+1) (zs++[v]) H4 else Pv (i+1) zs H3)
 (hd:∀zs H,Pv xs.length zs H->∀p,H p=none->Q (.ref p) (upd H p (.lst zs))):C3 (IU K l) g tc te σc Q H:=by
 refine⟨fun i m zs H=>m=xs.length - i/\i<=xs.length/\Pv i zs H,⟨xs.length,by simp,ZP _,h0⟩,?_⟩;rintro i m zs H ⟨rfl,hi,p⟩;have q1:=hl i zs H hi p
 by_cases Yr:i < xs.length
 ·refine .inr ⟨⟨xs,xs[i],q1,by simp[Yr]⟩,hz i zs H Yr p,Pv (i+1),fun zs' H' p'=>⟨xs.length - (i+1),by lia,rfl,Yr,p'⟩,?_⟩;rintro v H' ⟨pp,x,hp,rfl,rfl,k1⟩;exact hs i x zs H pp (k1 xs q1) p hp
 ·have e:i=xs.length:=by lia
  subst e;exact .inl ⟨⟨xs,q1,ZD _⟩,hd zs H p⟩
end
theorem FI(a b:Nat):Builtin.bitAnd (a:Int) (b:Int)=((a &&& b:Nat):Int):=by
 unfold Builtin.bitAnd;rw[ZL (Int.natCast_nonneg a),ZL (Int.natCast_nonneg b)];rfl
def iL(xs:List Nat):List V:=xs.map fun i=>V.int (i:Nat)
def iD(xs:List Nat):List Dv:=xs.map fun i=>Dv.int (i:Nat)
theorem Ab(xs:List Nat):(iL xs).length=xs.length:=by unfold iL;rw[ZC]
theorem BW(xs ys:List Nat):iL (xs++ys)=iL xs++iL ys:=by unfold iL;rw[ZR]
theorem Bt{xs:List Nat}(h:(iL xs)[i]? = some v):∃x,xs[i]? = some x/\x∈xs/\v=.int (x:Nat):=by
 unfold iL at h;rw[ZT]at h;cases e:xs[i]? with
 | none=>rw[e]at h;cases h
 | some x=>rw[e]at h;exact⟨x,rfl,Zo e,(ZS h).symm⟩
theorem Fw:∀xs:List Nat,Ye K H (iD xs) (iL xs)
 | []=>by unfold iD iL Ye;rfl
 | x::xs=>by
  show Ye K H (Dv.int (x:Nat)::iD xs) (V.int (x:Nat)::iL xs);unfold Ye;exact⟨_,_,rfl,by unfold Yh;rfl,Fw xs⟩
theorem KR{H0:Hp}{t:Addr}(s:Yc H0 H)(ht:H0 t=none):Yc H0 (upd H t o):=fun b u e=>by
 rw[AI (BX e ht)];exact s b u e
theorem Yc.sqT(e:Yc H H')(h:Ys K H a xs):Ys K H' a xs:=FR h (fun o k=>e _ _ k)
theorem Yc.sqL(e:Yc H H')(h:Yv K H a xs):Yv K H' a xs:=NO h (fun o k=>e _ _ k)
def KZ:Nat->Nat->Nat
 | 0,_=>0
 | f+1,x=>x % 2+KZ f (x / 2)
@[irreducible] def many(x:Nat):Nat:=KZ 64 x
def gB(bs:List Bool)(i:Nat):Bool:=bs.getD i false
theorem U7{bs:List Bool}(h:i < bs.length):gB bs i=bs[i]:=by unfold gB;rw[ZV,ZE h];rfl
theorem En{bs:List Bool}(h:i < bs.length):atI (bs.map V.bl) ((i:Nat):Int)=some (.bl (gB bs i)):=by
 rw[U7 h];exact AO rfl (by rw[ZT,ZE h];rfl)
def Nb(x:Int)(k:Nat):Prop:=x.natAbs < 2 ^ k
theorem Nb.mul{x y:Int}{a b:Nat}(hx:Nb x a)(hy:Nb y b):Nb (x * y) (a+b):=by
 unfold Nb at *;rw[Int.natAbs_mul,Nat.pow_add];exact Nat.mul_lt_mul'' hx hy
theorem Nb.up{x:Int}{a b:Nat}(hx:Nb x a)(h:a<=b):Nb x b:=ZX hx (Zp (by decide) h)
theorem Nb.pow{x:Int}{a:Nat}(hx:Nb x a):∀i,Nb (x ^ i) (a * i+1)
 | 0=>by unfold Nb;rw[Int.pow_zero];show 1 < 2 ^ (a * 0+1);rw[Nat.mul_zero];decide
 | i+1=>by
  rw[Int.pow_succ]
  have:=(hx.pow i).mul hx
  rw[show a * (i+1)+1=a * i+1+a by rw[Nat.mul_succ];lia];exact this
theorem Nb.okMul{x y:Int}(hx:Nb x 4000)(hy:Nb y 4000):okMul x y:=.inl ⟨hx.up (by decide),hy.up (by decide)⟩
def Ga(H:Hp)(Q:VK)(xs:List V):Prop:=∀p H',H p=none->Yc H H'->H' p=some (.lst xs)->Q (.ref p) H'
theorem VR{td ty tv:TE}(h1:Ad td)(h2:Ad ty)(h3:Ad tv):BV (M0 td ty tv):=fun D D' σ H h q=>h3 _ _ _ _ (fun _ _ q=>h1 _ _ _ _ (fun _ _ q=>h2 _ _ _ _ (fun _ _ ⟨a,H4,e,g,q⟩=>⟨a,H4,e,g,h.nx _ _ q⟩) q) q) q
theorem CG(h:A.units+60 < cLine):A.units+1 < cLine:=by lia
end L2
namespace L2
open PySem PySem.Spec PyProof.Rows
variable {K:W.Frag}{H:Hp}{d:Addr}{Yd:List (Key × V)}
section
variable {X:Cx}{K:W.Frag}{e sx:Expr}{te ts:TE}{lo hi:Option Expr}{tl th:TO}{pos p2:Pos}
def mIs(neg:Bool):R2:=fun x y H Q=>match x,y with
 | .bl a,.bl b=>Q (.bl (neg ^^ (a == b))) H
 | x,.non=>Q (.bl (neg ^^ decide (x=.non))) H
 | _,_=>False
theorem MN:Yx X (compareOp .Is) (mIs false):=by
 intro Ya s σ H x y v u Q I rx ry h;unfold mIs at h;split at h
 ·cases rx;cases ry;rename_i a b;exact wpAny_of_eq (show compareOp .Is (.bool a) (.bool b)=pure (.bool (a == b)) by cases a <;> cases b <;> rfl) ⟨.bl (a == b),H,I,rfl,by rw[Z2]at h;exact h⟩
 ·exact Um Ya s σ H _ _ v u Q I rx ry ⟨rfl,by rw[Z2]at h;exact h⟩
 ·exact h.elim
theorem LS:Yx X (compareOp .IsNot) (mIs true):=by
 intro Ya s σ H x y v u Q I rx ry h;unfold mIs at h;split at h
 ·cases rx;cases ry;rename_i a b;exact wpAny_of_eq (show compareOp .IsNot (.bool a) (.bool b)=pure (.bool (!(a == b))) by cases a <;> cases b <;> rfl) ⟨.bl (!(a == b)),H,I,rfl,by rw[Bool.true_xor]at h;exact h⟩
 ·exact Re Ya s σ H _ _ v u Q I rx ry ⟨rfl,by rw[Bool.true_xor]at h;exact h⟩
 ·exact h.elim
theorem Vm{neg:Bool}:B6 (mIs neg):=fun x y H Q Q' h q=>by
 unfold mIs at *;split at q
 ·exact h _ _ q
 ·exact h _ _ q
 ·exact q.elim
end
theorem Hl:∀ns:List Int,Ye K H (ns.map Dv.int) (ns.map V.int)
 | []=>Ah
 | n::ns=>AR OR (Hl ns)
def tyD:Dv->String
 | .non=>"NoneType"
 | .bl _=>"bool"
 | .int _=>"int"
 | .str _=>"str"
 | .tup _=>"tuple"
 | .lst _=>"list"
def Lx(K:W.Frag):List V->Hp->VK->Prop:=fun xs H Q=>match xs with
 | [x,.ty T]=>T∈kinds/\∃d,Yh K H d x/\Q (.bl (Bf (tyD d) T)) H
 | _=>False
theorem HD{t T:String}(ht:t = "int" \/ t = "bool" \/ t = "tuple" \/ t = "list")(hT:T∈kinds):PySem.W.kitOne K (.type t) (.type T)=some (Bf t T):=by
 unfold kinds at hT;simp only[ZH,Z8,or_false]at hT
 rcases ht with rfl | rfl | rfl | rfl <;> rcases hT with rfl | rfl | rfl | rfl | rfl | rfl <;> rfl
theorem E9{X:Cx}:CallR X (.builtin "isinstance") (Lx X.K):=by
 intro Ya s σ H xs us Q I r q
 match xs,q with
 | [x,.ty T],q =>
  obtain⟨hT,d,h,q⟩:=q
  have go:∀t,TyS X.K H x t->Q (.bl (Bf t T)) H->wpAny (model X.prog X.w) X.A (call (.builtin "isinstance") us) (EP X Ya σ Q) X.xe s:=fun t ht hq=>by
   obtain⟨u,w',rfl,ru,rw'⟩:=DB r;cases rw';obtain⟨ht,hn,Hh,k,hh⟩:=LI I ru ht;exact PySem.W.kia_one k I.kIn hh (HD ht hT) hn fun tk=>⟨.bl (Bf t T),H,I.tok _,rfl,hq⟩
  have hT':=hT;unfold kinds at hT';simp only[ZH,Z8,or_false]at hT';cases d with
  | non =>
   unfold Yh at h;subst h;refine JR Ya s σ H _ us Q I r ⟨hT,_,rfl,?_⟩;have e:(T == "NoneType")=Bf (tyD .non) T:=by rcases hT' with rfl | rfl | rfl | rfl | rfl | rfl <;> rfl
   rw[e];exact q
  | str z =>
   unfold Yh at h;subst h;refine JR Ya s σ H _ us Q I r ⟨hT,_,rfl,?_⟩;have e:(T == "str")=Bf (tyD (.str z)) T:=by rcases hT' with rfl | rfl | rfl | rfl | rfl | rfl <;> rfl
   rw[e];exact q
  | bl b=>unfold Yh at h;subst h;exact go _ rfl q
  | int i=>unfold Yh at h;subst h;exact go _ rfl q
  | tup ds=>unfold Yh at h;obtain⟨a,xs,rfl,hs,_⟩:=h;exact go _ (.inl ⟨rfl,xs,hs⟩) q
  | lst ds=>unfold Yh at h;obtain⟨a,xs,rfl,hs,_⟩:=h;exact go _ (.inr ⟨rfl,xs,hs⟩) q
theorem P4{X:Cx}(hK:X.K=K:=by rfl):CallR X (.builtin "isinstance") (Lx K):=hK ▸ E9
theorem Fi:∀bs:List Bool,Ye K H (bs.map Dv.bl) (bs.map V.bl)
 | []=>Ah
 | b::bs=>AR SZ (Fi bs)
theorem Co{ds:List Dv}{v:V}(h:Yh K H (.tup ds) v):∃a xs,v=.ref a/\Ys K H a xs/\Ye K H ds xs:=by unfold Yh at h;exact h
theorem A8{p:Addr}{xs:List V}{ds:List Dv}(h:Ys K H p xs)(r:Ye K H ds xs):Yh K H (.tup ds) (.ref p):=by unfold Yh;exact⟨p,xs,rfl,h,r⟩
theorem NV:∀bs:List Bool,Ag (bs.map Dv.bl)=true
 | []=>rfl
 | b::bs=>by
  show(true && Ag (bs.map Dv.bl))=true
  rw[NV bs];rfl
section
variable {X:Cx}{Ya:List (Addr × Obj)}{σ:St}{H:Hp}{s:Shared}
theorem Yg.hold(I:Yg X Ya σ H s)(h:H d=some (.dK Yd)):∃o,s.heap.get? d=some o/\Yg X Ya σ (upd H d (.frz o (.dK Yd))) s:=by
 obtain⟨hl,hs,vs,r,dd⟩:=(show ObjOk X.prog X.w H s.heap d (.dK Yd) from I.hok d _ h);obtain⟨o,es,ep,ho,rest⟩:=id dd;refine⟨o,ho,?_⟩
 have:=I.write (x:=d) (e:=d) (o:=.frz o (.dK Yd)) (h':=s.heap) (t':=s.toks) (by rw[h];exact True.intro) (.inl rfl) (fun b u _ q=>q) ⟨o,ho⟩ ⟨ho,hl,hs,vs,r,dd⟩
 exact this
theorem Yg.held{o:Obj}(I:Yg X Ya σ H s)(h:H d=some (.frz o (.dK Yd))):s.heap.get? d=some o/\(d == sysModules)=false/\Yd.length<=sizeLine/\∃vs,KV Yd vs/\s.heap.DictOf (BJ X.prog X.w) d vs:=by
 obtain⟨ho,hl,hs,vs,r,dd⟩:=(show ObjOk X.prog X.w H s.heap d (.frz o (.dK Yd)) from I.hok d _ h);exact⟨ho,hs,hl,vs,r,dd⟩
theorem KV.get{vs:List (Key × Value)}(r:KV Yd vs):∀{i:Nat} {q:Key × V},Yd[i]? = some q->∃v,vs[i]? = some (q.1,v)/\Yi q.2 v:=by
 induction r with
 | nil=>intro i q e;simp at e
 | @cons a b l1 l2 h t ih =>
  intro i q e;cases i with
  | zero =>
   simp at e;subst e;obtain⟨b1,b2⟩:=b;obtain⟨h1,h2⟩:=h;exact⟨b2,by simp;exact h1.symm,h2⟩
  | succ i =>
   obtain⟨v,h1,h2⟩:=ih (i:=i) (q:=q) (by simpa using e);exact⟨v,by simpa using h1,h2⟩
theorem KV.len{vs:List (Key × Value)}(r:KV Yd vs):Yd.length=vs.length:=Paired.length r
theorem WA{k:Key}{u:Value}(h:DR k u=true):Yi (kV k) u:=by
 rcases keyIs_shape h with ⟨i,t,rfl,rfl⟩ | ⟨x,t,rfl,rfl⟩
 ·exact⟨t,rfl⟩
 ·exact⟨t,rfl⟩
end
def Itm(d:Addr)(o:Obj):It :=
 ⟨fun i H=>∃Yd q,H d=some (.frz o (.dK Yd))/\Yd[i]? = some q,
  fun i H v H'=>∃p Yd q,H d=some (.frz o (.dK Yd))/\Yd[i]? = some q/\H p=none/\v=.ref p/\H'=upd H p (.tup [kV q.1,q.2]),
  fun i H=>∃Yd,H d=some (.frz o (.dK Yd))/\Yd.length<=i⟩
theorem Gi{P:Program}{w:World}{h:Heap}{o:Obj}{es:Array DictEntry}{ep:Nat}{vs:List (Key × Value)}(ho:h.get? d=some o)(hd:o.data=.dict es ep)(dd:h.DictOf (BJ P w) d vs):h.DictAt (BJ P w) d vs ep/\es.size=vs.length:=by
 obtain⟨o',es',ep',h1,h2,h3,h4,h5,h6⟩:=dd;rw[ho]at h1;cases h1;rw[hd]at h3;cases h3;exact⟨⟨o,es,ho,h2,hd,h4,h5,h6⟩,by rw[<- h5.length];simp⟩
theorem SV:entryFor table "dict_itemiterator.__iter__" = some Builtin.«dict_keyiterator.__iter__» :=
 entryFor_alias (id':="dict_keyiterator.__iter__") (by kernel_rfl) (by first | rfl | decide +kernel) (by decide +kernel) (by kernel_rfl)
theorem Uy{prog:Program}{w:World}{A:Around}{E:Value->Shared->Prop}{s:Shared}{it:Addr}{i n ep:Nat}{ok ov:Value}{Q:Value->Shared->Prop}(hz:IsItemIter s.heap it d i n ep ok ov)(h:Q (.ref it) s):wpAny (model prog w) A (pyIter (.ref it)) Q E s:=by
 have hT:s.TypeIs (.ref it) "dict_itemiterator":=⟨_,hz,rfl⟩;refine wpAny_pyIter_slot hT F.slot_dict_itemiterator_iter (Zx F.slot_dict_itemiterator_iter hT SV ?_ (F.args_dict_itemiterator_iter_1 _));show wpAny _ _ (ret (.ref it)) _ _ s;exact ZB ⟨_,rfl,"dict_itemiterator",_,hT,F.slot_dict_itemiterator_next.lookup,h⟩
theorem SU{P:Program}{w:World}{ts:List Expr}{kt:Nat}{tpos:Pos}{it:Addr}{o:Obj}{es:Array DictEntry}{ep:Nat}(hdat:o.data=.dict es ep) :
 Turn P w K (.Tuple ts kt tpos) (Itm d o) [it] it (fun i h=>∃ok ov,IsItemIter h it d i es.size ep ok ov) where
 mem:=by simp
 obj:=fun i h st b hb=>by
  obtain⟨ok,ov,hz⟩:=st;obtain rfl:b=it:=by simpa using hb
  exact⟨_,hz,fun v q=>nomatch q⟩
 keep:=fun i h h' ⟨ok,ov,hz⟩ k=>⟨ok,ov,k it (by simp) _ hz⟩
 item:=by
  intro X hP hw hK hc i Ya s σ H E I hf st hg;subst hP hw hK;obtain⟨Yd,q,hq1,hx⟩:=hg;obtain⟨ok,ov,hz⟩:=st;obtain⟨ho,hs,hl,vs,rv,dd⟩:=I.held hq1;obtain⟨da,hsz⟩:=Gi ho hdat dd;obtain⟨u,hu,ru⟩:=rv.get hx;rw[hsz]at hz;refine wpAny_pyNext_items_item hz da hu fun key h' z0 z1 z2 z3 z4=>?_
  refine⟨_,rfl,?_⟩;have z4':∀b v,b∉[it]->s.heap.get? b=some v->h'.get? b=some v:=fun b v hb q=>z4 b v (by simpa using hb) q
  have I1:Yg X Ya σ (upd H s.heap.objs.size (.tup [kV q.1,q.2])) { s with heap:=h' }:=by
   refine I.turnedNew (ch:=[it]) (fun b hb=>hf b hb) (ZD _) z4' ?_ fun b hb=>?_
   ·exact⟨smq rfl,[key,u],.cons (WA z0) (.cons ru .nil),⟨_,z2,rfl,⟨_,rfl⟩,rfl⟩⟩
   ·obtain rfl:b=it:=by simpa using hb
    exact⟨_,z1⟩
  refine wpAny_letOwnedTupleGo_items (s:={ s with heap:=h' }) z1 fun h'' z8 z9=>?_
  have hfz:=hf it (by simp)
  have neT:it≠s.heap.objs.size:=fun q=>by
   have:=ZG hz
   rw[q]at this;exact Za _ this
  have hTH:∀b∈[it],upd H s.heap.objs.size (.tup [kV q.1,q.2]) b=none:=fun b hb=>by
   obtain rfl:b=it:=by simpa using hb
   rw[AI neT];exact hfz.1
  have I2:Yg X Ya σ (upd H s.heap.objs.size (.tup [kV q.1,q.2])) { s with heap:=h'' } :=
   I1.turned (t':=s.toks) (fun b o hb q=>(z9.2 b hb).trans q) (hTH it (by simp)) hfz.2.1 hfz.2.2.2.1 hfz.2.2.2.2.1 hfz.2.2.2.2.2
  rw[<- hsz]at z8;exact⟨.ref s.heap.objs.size,_,I2,rfl,⟨_,Yd,q,hq1,hx,I.hok.fresh (ZD _),rfl,rfl⟩,⟨_,_,z8⟩,hTH⟩
 done:=by
  intro X hP hw hK hc i Ya s σ H E I hf st hg;subst hP hw hK;obtain⟨Yd,hq1,hl⟩:=hg;obtain⟨ok,ov,hz⟩:=st;obtain⟨ho,hs,hl',vs,rv,dd⟩:=I.held hq1;obtain⟨da,hsz⟩:=Gi ho hdat dd;have e1:=rv.len;rw[hsz]at hz;refine wpAny_pyNext_items_end (I.ok.hd hc) hz da (by simp;lia) fun h' z7=>⟨rfl,?_⟩
  obtain⟨f0,f1,f2,f3,f4,f5⟩:=hf it (by simp);exact I.turned (t':=s.toks) (fun b o hb q=>z7 b o hb q) f0 f1 f3 f4 f5
 self:=fun A i s Q E st h=>by
  obtain⟨ok,ov,hz⟩:=st;exact Uy hz h
def Ep(x:V)(H:Hp)(R:Addr->Obj->Hp->Prop):Prop:=match x with
 | .ref d=>(∃Yd,H d=some (.dK Yd)/\∀o,R d o (upd H d (.frz o (.dK Yd))))\/∃Yd o,H d=some (.frz o (.dK Yd))/\R d o H
 | _=>False
theorem Wr{X:Cx}{Ya:List (Addr × Obj)}{σ:St}{s:Shared}{x:V}{v:Value}{R:Addr->Obj->Hp->Prop}(I:Yg X Ya σ H s)(r:Yi x v)(h:Ep x H R) :
 ∃d Yd o H2,v=.ref d/\Yg X Ya σ H2 s/\H2 d=some (.frz o (.dK Yd))/\R d o H2:=by
 cases x with
 | ref d =>
  cases r
  rcases h with ⟨Yd,e,q⟩ | ⟨Yd,o,e,q⟩
  ·obtain⟨o,ho,I2⟩:=I.hold e;exact⟨d,Yd,o,_,rfl,I2,AD,q o⟩
  ·exact⟨d,Yd,o,H,rfl,I,e,q⟩
 | _=>exact False.elim h
def Kh(to:TE):TI:=fun σ H R=>to σ H fun x H1=>Ep x H1 fun d o H2=>R (Itm d o) H2
section
variable {X:Cx}{K:W.Frag}{tg oe:Expr}{to:TE}{ts:List Expr}{kt:Nat}{tpos apos cpos:Pos}
theorem Ih(ho:PE X oe to)(hbase:attributeBase oe "items" X.env (eval oe X.env)=eval oe X.env:=by rfl)(hline:(apos.endLine == cpos.line)=true:=by rfl) :
 PI X (.Tuple ts kt tpos) (.Call (.Attribute oe "items" apos) [] [] cpos) (Kh to):=by
 intro Ya s σ H R I h;refine wpAny_Call_method0_late hbase hline (Ym (ho Ya s σ H _ I h) fun v s1 ⟨x,H1,I1,r1,q1⟩=>?_);obtain⟨d,Yd,o,H2,rfl,I2,hd2,q⟩:=Wr I1 r1 q1;obtain⟨ho',hs,hl,vs,rv,dd⟩:=I2.held hd2;obtain⟨o',es,ep,e1,e2,e3,_⟩:=id dd;rw[ho']at e1;cases e1;refine⟨"dict","dict.items",PySem.F.plainAttrs_dict,PySem.F.slot_dict_items,PySem.F.type_dict_items,dd.typeIs,fun a ea=>?_,Calls.callWith_builtin rfl (PySem.evalArgs_none ?_)⟩
 ·cases ea;exact⟨o,ho',e2.2.1⟩
 refine call_meetsIn PySem.F.slot_dict_items dd.typeIs PySem.F.entry_dict_items (PySem.F.args_dict_items_1 _) (meets_dict_items (BJ X.prog X.w) d hs) ⟨⟨vs,dd⟩,?_⟩;have I3:Yg X Ya σ H2 { s1 with heap:=s1.heap.push { cls:=.type "dict_items",data:=.fields #[.ref d] } }:=I2.kept (t':=s1.toks) fun b u e=>ZF _ e
 have hv:(s1.heap.push { cls:=.type "dict_items",data:=.fields #[.ref d] }).IsItemsView s1.heap.objs.size d:=⟨_,ZN _ rfl,rfl,rfl⟩;obtain⟨ho3,_,_,vs3,rv3,dd3⟩:=I3.held hd2;obtain⟨da,hsz⟩:=Gi ho3 e3 dd3;refine wpAny_pyIter_items (s:={ s1 with heap:=s1.heap.push { cls:=.type "dict_items",data:=.fields #[.ref d] } }) hv da ?_;generalize s1.heap.push { cls:=.type "dict_items",data:=.fields #[.ref d] } = h3 at *;refine⟨h3.objs.size,[h3.objs.size],_,_,H2,rfl,I3.kept (t':=s1.toks) fun b o e=>ZF _ e,SU e3,⟨.none,.none,?_⟩,fun b hb=>?_,q⟩
 ·rw[hsz];exact ZN _ rfl
 ·obtain rfl:b=h3.objs.size:=by simpa using hb
  exact I3.fpOk (ZD _) (I3.hok.fresh (ZD _))
end
theorem Rs{x:V}{R R':Addr->Obj->Hp->Prop}(k:∀d o H,R d o H->R' d o H)(h:Ep x H R):Ep x H R':=by
 cases x with
 | ref d =>
  rcases h with ⟨Yd,e,q⟩ | ⟨Yd,o,e,q⟩
  ·exact .inl ⟨Yd,e,fun o=>k _ _ _ (q o)⟩
  ·exact .inr ⟨Yd,o,e,k _ _ _ q⟩
 | _=>exact False.elim h
theorem PP{to:TE}(h:Ad to):De (Kh to):=fun σ H Q Q' k q=>h _ _ _ _ (fun _ _ q=>Rs (fun _ _ _ q=>k _ _ q) q) q
theorem Se {o:Obj} {g:TG} {tb:TS} {D:Ends} {σ:St} (Pv:Nat->St->Hp->Prop) (h0:Pv 0 σ H) (hl:∀i σ H,i<=Yd.length->Pv i σ H->H d=some (.frz o (.dK Yd)))
 (hs:∀i q p σ H,Yd[i]? = some q->Pv i σ H->H p=none->g (.ref p) σ (upd H p (.tup [kV q.1,q.2])) fun σ2 H2=>tb { D with nx:=Pv (i+1),ct:=Pv (i+1),bk:=D.nx } σ2 H2) (hd:∀σ H,Pv Yd.length σ H->D.nx σ H) :
 ∃W:Nat->Nat->St->Hp->Prop,(∃m,W 0 m σ H)/\∀i m σ H,W i m σ H ->
  ((Itm d o).stop i H/\D.nx σ H)\/((Itm d o).go i H/\∃N:St->Hp->Prop,(∀σ' H',N σ' H'->∃m',m' < m/\W (i+1) m' σ' H')/\∀x H',(Itm d o).yld i H x H'->g x σ H' fun σ2 H2=>tb { D with nx:=N,ct:=N,bk:=D.nx } σ2 H2):=by
 refine⟨fun i m σ H=>m=Yd.length - i/\i<=Yd.length/\Pv i σ H,⟨Yd.length,by simp,ZP _,h0⟩,?_⟩;rintro i m σ H ⟨rfl,hi,p⟩;have q:=hl i σ H hi p
 by_cases Yr:i < Yd.length
 ·refine .inr ⟨⟨Yd,Yd[i],q,by simp[Yr]⟩,Pv (i+1),fun σ' H' p'=>⟨Yd.length - (i+1),by lia,rfl,Yr,p'⟩,fun x H' y=>?_⟩;obtain⟨pp,kvs',r,e1,e2,e3,rfl,rfl⟩:=y;rw[q]at e1;cases e1;exact hs i r pp σ H e2 p e3
 ·have e:i=Yd.length:=by lia
  subst e;exact .inl ⟨⟨Yd,q,ZD _⟩,hd σ H p⟩
end L2
namespace L2
open PySem PySem.Spec PyProof.Rows PySem.W
open Att (Fz Kt Vh)
variable {H H':Hp}{Pt:Addr}{K:W.Frag}{ps:Array Value}
def CdO(a:Addr)(q:Str):HO:=.ext fun h=>h.CodeRec (.ref a) q
theorem Wi{P:Program}{w:World}{h:Heap}{a:Addr}{q:Str}(r:h.CodeRec (.ref a) q):ObjOk P w H h a (CdO a q):=by
 refine⟨r,?_,fun h1 h2 p k=>?_⟩
 ·obtain⟨c,o,vs,t,e,g,_⟩:=r;cases e;exact⟨o,g⟩
 ·obtain⟨c,o,vs,t,e,g,z⟩:=p;cases e;exact⟨_,o,vs,t,rfl,k o g,z⟩
def Yz(Pt:Addr)(pos:Pos)(q:Str)(H:Hp):Prop :=
 ∃ps:Array Value,H Pt=some (.tbl ps)/\TriplesOk ps.toList/\(codeAmong pos ps.toList=none\/∃c',codeAmong pos ps.toList=some (.ref c')/\H c'=some (CdO c' q))
def Yu(Pt:Addr)(H H':Hp):Prop:=∀b o,b≠Pt->H b=some o->H' b=some o
theorem Yu.refl(Pt:Addr)(H:Hp):Yu Pt H H:=fun _ _ _ e=>e
theorem Yu.trans{H1 H2:Hp}(a:Yu Pt H H1)(b:Yu Pt H1 H2):Yu Pt H H2:=fun c o n e=>b c o n (a c o n e)
theorem Yu.same(h:Yc H H'):Yu Pt H H':=fun b o _ e=>h b o e
theorem Yz.same{pos:Pos}{q:Str}(l:Yz Pt pos q H)(h:Yc H H'):Yz Pt pos q H':=by
 obtain⟨ps,a,b,c⟩:=l;refine⟨ps,h _ _ a,b,?_⟩
 rcases c with c | ⟨c',c,d⟩
 ·exact .inl c
 ·exact .inr ⟨c',c,h _ _ d⟩
theorem Me{a:Addr}{xs:List V}(s:Yu Pt H H')(hz:H Pt=some (.tbl ps))(h1:Ys K H a xs):Ys K H' a xs:=by
 rcases h1 with (h1 | ⟨o,h1⟩) | h1
 ·exact .inl (.inl (s a _ (fun q=>by rw[q,hz]at h1;cases h1) h1))
 ·exact .inl (.inr ⟨o,s a _ (fun q=>by rw[q,hz]at h1;cases h1) h1⟩)
 ·exact .inr h1
theorem Te{a:Addr}{xs:List V}(s:Yu Pt H H')(hz:H Pt=some (.tbl ps))(h1:Yv K H a xs):Yv K H' a xs:=by
 rcases h1 with (h1 | ⟨o,h1⟩) | h1
 ·exact .inl (.inl (s a _ (fun q=>by rw[q,hz]at h1;cases h1) h1))
 ·exact .inl (.inr ⟨o,s a _ (fun q=>by rw[q,hz]at h1;cases h1) h1⟩)
 ·exact .inr h1
mutual
theorem Yh.tab(s:Yu Pt H H')(hz:H Pt=some (.tbl ps)):∀(d:Dv) (v:V),Yh K H d v->Yh K H' d v
 | .non,v,h=>by unfold Yh at *;exact h
 | .bl b,v,h=>by unfold Yh at *;exact h
 | .int i,v,h=>by unfold Yh at *;exact h
 | .str x,v,h=>by unfold Yh at *;exact h
 | .tup ds,v,h=>by
  unfold Yh at *;obtain⟨a,xs,e,h1,h2⟩:=h;exact⟨a,xs,e,Me s hz h1,Ye.tab s hz ds xs h2⟩
 | .lst ds,v,h=>by
  unfold Yh at *;obtain⟨a,xs,e,h1,h2⟩:=h;exact⟨a,xs,e,Te s hz h1,Ye.tab s hz ds xs h2⟩
theorem Ye.tab(s:Yu Pt H H')(hz:H Pt=some (.tbl ps)):∀(ds:List Dv) (xs:List V),Ye K H ds xs->Ye K H' ds xs
 | [],xs,h=>by unfold Ye at *;exact h
 | d::ds,xs,h=>by
  unfold Ye at *;obtain⟨x,r,e,h1,h2⟩:=h;exact⟨x,r,e,Yh.tab s hz d x h1,Ye.tab s hz ds r h2⟩
end
def BMn(mg:Str->Option Value)(h:Heap):Prop:=∃bm ob,mg "__builtins__" = some (.ref bm)/\bm≠builtinsNs/\h.get? bm=some ob/\ob.cls=.type "module" /\ ob.dict=some builtinsNs/\ob.data=.plain
section
variable {X:Cx}{Ya:List (Addr × Obj)}{σ:List (Option V)}{H:Hp}{s:Shared}{h':Heap}
theorem Yg.grow {c':Addr} {more:Array Value} {t':Nat} {q:Str} (I:Yg X Ya σ H s) (hP:H Pt=some (.tbl ps)) (hx:Heap.ExtBut Pt s.heap h') (hP':h'.get? Pt=some (tabObj (ps++more)))
 (hc:s.heap.objs.size<=c') (hr:h'.CodeRec (.ref c') q):Yg X Ya σ (upd (upd H Pt (.tbl (ps++more))) c' (CdO c' q)) { s with heap:=h',toks:=t' }:=by
 have hcn:H c'=none:=I.hok.fresh hc;have hcP:c'≠Pt:=fun z=>by rw[z,hP]at hcn;cases hcn
 have hn:∀b,H b=none->b≠Pt:=fun b e z=>by rw[z,hP]at e;cases e
 have hs:∀b u,H b=some u->b≠c':=fun b u e z=>by rw[z,hcn]at e;cases e
 have up:∀b,b≠c'->b≠Pt->upd (upd H Pt (.tbl (ps++more))) c' (CdO c' q) b=H b:=fun b n1 n2=>by rw[AI n1,AI n2]
 refine I.un ⟨fun b o e n _ _=>hx b o (hn b n) e,fun b o e n _ _=>⟨o.slots,hx b o (hn b n) e⟩,fun b o e n _=>?_,fun b o e _=>?_,fun b xs e=>?_,fun b o u e=>?_,fun b qs e=>?_⟩ fun b u e=>?_
 ·rw[up b (ZO (ZX (ZG e) hc)) (hn b n)];exact n
 ·by_cases z:b=Pt
  ·subst z;exact⟨_,hP'⟩
  ·exact⟨o,hx b o z e⟩
 ·have z:b≠Pt:=fun z=>by rw[z,hP]at e;cases e
  rw[up b (hs b _ e) z];exact e
 ·have z:b≠Pt:=fun z=>by rw[z,hP]at e;cases e
  rw[up b (hs b _ e) z];exact e
 ·by_cases z:b=Pt
  ·subst z;rw[hP]at e;cases e;exact⟨more,by rw[AI (Ne.symm hcP),AD]⟩
  ·exact⟨#[],by rw[up b (hs b _ e) z,e];simp⟩
 ·by_cases z:b=c'
  ·subst z;rw[AD]at e;cases e;exact Wi hr
  ·rw[AI z]at e
   by_cases y:b=Pt
   ·subst y;rw[AD]at e;cases e;exact hP'
   ·rw[AI y]at e;refine(I.hok b u e).stay (fun c v hc' r=>hx c v ?_ r) (fun c r=>?_) fun c xs r=>?_
    ·rcases hc' with k | k
     ·rw[k];exact y
     ·rintro rfl;rw[hP]at k;cases k
    ·rw[up c (hs c _ r) (fun k=>by rw[k,hP]at r;cases r)];exact r
    ·rw[up c (hs c _ r) (fun k=>by rw[k,hP]at r;cases r)];exact r
end
theorem SX {P:Program} {w:World} {mg mb:Str->Option Value} {CX:CXT} {k:Nat} {fa a:Addr} {fd:FuncData} {x:Str} {sp:Sp} {s₁:Shared} {vs:List Value} {ns:List Int} {ts:List (Addr × Addr)}
 (KX:K.In s₁.heap) (hns:s₁.heap.Ns mainGlobals mg) (hb:s₁.heap.Ns builtinsNs mb) (hbb:∀x:Str,x ≠ "__name__" -> mb x=bootBuiltins x) (hlim:s₁.heap.NoLimit) (hg:s₁.gens = #[])
 (ha:s₁.heap.get? a=some { cls:=.type "list",data:=.seq vs.toArray }) (hi:IntsAre vs ns) (hl:ns.length<=sizeLine) (hr:Room k callerA) (hbm:BMn mg s₁.heap) (hT:TabsAt ts s₁.heap) (hnt:noTabs K=true)
 (F:∀base:Heap,K.In base->base.Ns mainGlobals mg->BMn mg base->FnOk P w K mg base CX k fa fd [x] sp) (hbind:∀(s:Shared) (u:Value),BindsTo s fd ⟨[u],[]⟩ [(x,u)])
 (hsp:∀H:Hp,(∀q∈ts,H q.2=some (.tbl #[]))->Yv K H a (ns.map V.int)->sp [.ref a] H (fun v _=>v=.bl true) fun _ _ _=>False)
 (hCX:∀H e s',CX [] H s₁ (fun _ _ _=>False) e s'->False) :
 codeAny (model P w) callerA (.call (.ref fa) ⟨[.ref a],[]⟩) (fun r s'=>r=.ok (.ret (.bool true))/\OldK s₁.heap s'.heap/\s'.os=s₁.os/\AllBare s'.gens) s₁:=by
 have rv:=Ni hi;have lenV:=hi.length
 have tabK:∀b,b∈ts.map (·.2)->K.lookup b=none:=fun b hb'=>by
  obtain⟨q,hq,rfl⟩:=ZK.mp hb';cases e:K.lookup q.2 with
  | none=>rfl
  | some o =>
   have e1:=KX _ _ e;rw[(hT q hq).2]at e1;cases e1;have h2:=ZBH.mp hnt (q.2,tabObj #[]) (mem_of_lookupK e);exact absurd (show false=true from h2) Z7
 have tabO:∀b,b∈ts.map (·.2)->s₁.heap.get? b=some (tabObj #[]):=fun b hb'=>by
  obtain⟨q,hq,rfl⟩:=ZK.mp hb';exact(hT q hq).2
 have core:∀H:Hp,(∀b,H b=none\/(∃o xs,H b=some (.frz o (.lst xs)))\/(b∈ts.map (·.2)/\H b=some (.tbl #[])))->(∀q∈ts,H q.2=some (.tbl #[]))->Yv K H a (ns.map V.int)->HOk P w H s₁.heap->(∀b,H b≠none->b=a\/b∈ts.map (·.2))->(H a≠none->K.lookup a=none) ->
  codeAny (model P w) callerA (.call (.ref fa) ⟨[.ref a],[]⟩) (fun r s'=>r=.ok (.ret (.bool true))/\OldK s₁.heap s'.heap/\s'.os=s₁.os/\AllBare s'.gens) s₁:=by
  intro H hO hTs hS hok hA hK;have base_of:∀{b:Addr} {o:Obj},s₁.heap.get? b=some o->H b=none->(B9 s₁.heap H).get? b=some o:=fun e n=>KU e n
  have noA:∀{b:Addr} {o:Obj},s₁.heap.get? b=some o->(∀as n,o.data≠.seq as n)->(∀as,o.data≠.fields as)->H b=none:=fun {b o} e d d2=>by
   cases q:H b with
   | none=>rfl
   | some u =>
    rcases hA b (by rw[q];simp) with e' | e'
    ·subst e';rw[ha]at e;cases e;exact absurd rfl (d _ _)
    ·rw[tabO b e']at e;cases e;exact absurd rfl (d2 _)
  have nsK:∀{b:Addr} {m:Str->Option Value},s₁.heap.Ns b m->(B9 s₁.heap H).Ns b m:=fun {b m} ⟨o,es,ep,e,d,r⟩=>⟨o,es,ep,base_of e (noA e (fun _ _=>by rw[d];simp) (fun _=>by rw[d];simp)),d,r⟩
  have hKb:K.In (B9 s₁.heap H):=fun b o e=>base_of (KX b o e) (by
   cases q:H b with
   | none=>rfl
   | some u =>
    rcases hA b (by rw[q];simp) with e' | e'
    ·subst e';rw[hK (by rw[q];simp)]at e;cases e
    ·rw[tabK b e']at e;cases e)
  have hM:Mod K mg (B9 s₁.heap H):=⟨hKb,nsK hns,⟨mb,nsK hb,hbb⟩,let ⟨mc,h1,h2⟩:=hlim;⟨mc,nsK h1,h2⟩⟩
  have hBb:BMn mg (B9 s₁.heap H):=by
   obtain⟨bm,ob,b1,b2,b3,b4,b5,b6⟩:=hbm;exact⟨bm,ob,b1,b2,base_of b3 (noA b3 (fun _ _=>by rw[b6];simp) (fun _=>by rw[b6];simp)),b4,b5,b6⟩
  have e0:Env0 P w K mg (B9 s₁.heap H) callerA [] s₁ H:=⟨rfl,hM,fun b o e=>K9 e,ZBc (LL _ _),trivial,fun b hb=>absurd (show b∈([]:List Addr) from hb) (by simp),hok,.of_eq hg⟩;refine ZBF ((F _ hKb (nsK hns) hBb).run callerA [] s₁ H ⟨[.ref a],[]⟩ [.ref a] [.ref a] _ _ hr e0 (hbind s₁ (.ref a)) (.cons rfl .nil) (hsp H hTs hS)) fun r s' h=>?_
  cases r with
  | error e=>exact(hCX H e s' h).elim
  | ok fl =>
   cases fl with
   | next=>exact False.elim h
   | brk=>exact False.elim h
   | cont=>exact False.elim h
   | ret u =>
    obtain⟨v,H',os,bare,un,hok',r',q⟩:=h;have q':v=.bl true:=q;subst q';obtain rfl:u=Value.bool true:=r'
    have kk:∀b o,s₁.heap.get? b=some o->b∉ts.map (·.2)->s'.heap.get? b=some o:=fun b o e nb=>by
     cases q:H b with
     | none=>exact un.keep b o e q (by intro z;exact absurd (show b∈([]:List Addr) from z) (by simp)) (by simp)
     | some u =>
      rcases hO b with z | ⟨ob,xs,z⟩ | ⟨z,_⟩
      ·rw[q]at z;cases z
      ·have z2:=un.frzs b ob _ z;obtain⟨e1,_⟩:=hok b _ z;obtain⟨e2,_⟩:=hok' b _ z2;rw[e]at e1;cases e1;exact e2
      ·exact absurd z nb
    have tt:∀b,b∈ts.map (·.2)->∃more,s'.heap.get? b=some (tabObj more):=fun b hb'=>by
     obtain⟨q,hq,rfl⟩:=ZK.mp hb';obtain⟨more,e⟩:=un.tbls _ _ (hTs q hq);exact⟨_,hok' _ _ e⟩
    refine⟨rfl,⟨fun b o e=>?_,fun b o e=>?_⟩,os,bare⟩
    ·by_cases z:b∈ts.map (·.2)
     ·obtain⟨more,e2⟩:=tt b z;have e3:=tabO b z;rw[e]at e3;cases e3;obtain⟨q,hq,rfl⟩:=ZK.mp z;refine .inr (.inl ⟨((hT q hq).1.tab (hT q hq).2).isCodeTable,rfl,#[],more,rfl,by rw[e2];simp⟩)
     ·exact .inl (kk b o e z)
    ·by_cases z:b∈ts.map (·.2)
     ·obtain⟨more,e2⟩:=tt b z;exact⟨_,e2⟩
     ·exact⟨o,kk b o e z⟩
 have aT:a∉ts.map (·.2):=fun z=>by
  have e:=tabO a z;rw[ha]at e;cases e
 have tm:∀q∈ts,q.2∈ts.map (·.2):=fun q hq=>List.mem_map_of_mem hq
 cases hk:K.lookup a with
 | some o =>
  have e:=KX a o hk;rw[ha]at e;cases e;refine core (fun b=>if b∈ts.map (·.2) then some (.tbl #[]) else none) (fun b=>?_) (fun q hq=>if_pos (tm q hq)) (.inr ⟨_,vs.toArray,_,hk,rfl,rfl,rfl,by rw[ZJ,lenV];exact hl,by simpa using rv⟩) (fun b u z=>?_) (fun b z=>?_) fun z=>absurd (if_neg aT) z
  ·by_cases z:b∈ts.map (·.2)
   ·exact .inr (.inr ⟨z,if_pos z⟩)
   ·exact .inl (if_neg z)
  ·by_cases y:b∈ts.map (·.2)
   ·have z':=(if_pos y).symm.trans z;cases z';exact tabO b y
   ·have z':=(if_neg y).symm.trans z;cases z'
  ·by_cases y:b∈ts.map (·.2)
   ·exact .inr y
   ·exact absurd (if_neg y) z
 | none =>
  refine core (fun b=>if b=a then some (.frz { cls:=.type "list",data:=.seq vs.toArray } (.lst (ns.map V.int))) else if b∈ts.map (·.2) then some (.tbl #[]) else none) (fun b=>?_) (fun q hq=>?_) (.inl (.inr ⟨{ cls:=.type "list",data:=.seq vs.toArray },if_pos rfl⟩)) (fun b u z=>?_) (fun b z=>?_) fun _=>hk
  ·by_cases hb:b=a
   ·exact .inr (.inl ⟨_,_,if_pos hb⟩)
   ·by_cases y:b∈ts.map (·.2)
    ·exact .inr (.inr ⟨y,(if_neg hb).trans (if_pos y)⟩)
    ·exact .inl ((if_neg hb).trans (if_neg y))
  ·have hb:q.2≠a:=fun z=>aT (z ▸ tm q hq)
   exact(if_neg hb).trans (if_pos (tm q hq))
  ·by_cases hb:b=a
   ·have z':=(if_pos hb).symm.trans z;cases z';subst hb;exact⟨ha,by rw[ZC];exact hl,vs,_,rv,ha⟩
   ·by_cases y:b∈ts.map (·.2)
    ·have z':=((if_neg hb).trans (if_pos y)).symm.trans z;cases z';exact tabO b y
    ·have z':=((if_neg hb).trans (if_neg y)).symm.trans z;cases z'
  ·by_cases hb:b=a
   ·exact .inl hb
   ·by_cases y:b∈ts.map (·.2)
    ·exact .inr y
    ·exact absurd ((if_neg hb).trans (if_neg y)) z
theorem walk_ofT {l:PySem.W.OpenLaw} {n k:Nat} {q:Program} {loose:List Str} {XP:(Str->Option Value)->Heap->Prop} {YP:World->Heap->Prop} {d:DefRec} {K:Params->W.Frag} {sp:World->List Addr->Sp} {x:Str}
 (hn:l.most=some n) (hn2:n<=sizeLine) (hdf:d.params.defaults=[]) (hr:Room k callerA)
 (hY:∀(w:World) (h:Heap),YP w h->(K w.params).In h)
 (F:∀(w:World) (mg:Str->Option Value) (fa:Addr) (h:Heap),YP w h->(K w.params).In h->h.Ns mainGlobals mg->mg d.name=some (.ref fa) ->
   ∃(fd:FuncData) (ts:List (Addr × Addr)),TabsAt ts h/\noTabs (K w.params)=true/\(∀(s:Shared) (u:Value),BindsTo s fd ⟨[u],[]⟩ [(x,u)]) /\
    ∀base:Heap,(K w.params).In base->base.Ns mainGlobals mg->BMn mg base->FnOk l.prog w (K w.params) mg base CX0 k fa fd [x] (sp w (ts.map (·.2))))
 (hsp:∀(w:World) (H:Hp) (a:Addr) (ns:List Int) (ts:List Addr),ns.length<=n->(∀Pt∈ts,H Pt=some (.tbl #[]))->Yv (K w.params) H a (ns.map V.int)->sp w ts [.ref a] H (fun v _=>v=.bl true) fun _ _ _=>False) :
 PySem.W.WalkO q loose XP YP l.row.toRowW d [] (fun f vs=>PySem.call f vs):=by
 refine Att.attach_call hn hdf fun w s₀ s₁ mg mb fa o pm cd doc a vs ns G Y ho hd hcd hmg hobj hints Yk hg=>?_
 have KX:=hY w _ Y;obtain⟨fd,ts,hT,hnt,hb,hF⟩:=F w mg fa _ Y KX G.T.g hmg
 exact SX KX G.T.g G.T.b G.T.builtins G.T.nolimit hg hobj hints (Zs Yk hn2) hr G.T.bmain hT hnt hF hb (fun H hO hS=>hsp w H a ns _ Yk (fun Pt hP=>by
  obtain⟨q,hq,rfl⟩:=ZK.mp hP;exact hO q hq) hS) fun H e s' z=>z
theorem Fun.okC {P:Program} {w:World} {mg:Str->Option Value} {base:Heap} {x qual:Str} {st:Stmt} {f c:Addr} {fd:FuncData} {N ps:List Str} {k:Nat} {sp:Sp} (F:Fun K x qual st f fd) (hc:fd.code=.ref c) (S:FnScope N ps (AJ st)) (len:∀vs H Q E,sp vs H Q E->vs.length=ps.length)
 (hbody:∀(A:Around) (outer:List Env) (s:Shared) (H:Hp) (vs:List V) (Q:VK) (E:XK),Room k (A.deeper (envOfC qual (AJ st) s.heap.objs.size f (.ref c)))->sp vs H Q E ->
   ∃t,PSs (Bz CX0 P w K mg base N qual (AJ st) f (.ref c) A outer s H E).nox (BD st) t/\t { nx:=fun _ H'=>Q .non H',rt:=Q } (CS N vs) H):FnOk P w K mg base CX0 (k+1) f fd ps sp:=by
 obtain⟨oc,od,kV,doc,pm,an,Yy,ct,osl,rfl,lk,hcd⟩:=F.ex;cases hc;refine Hc lk hcd S len fun A outer s H vs Q E hr hsp=>?_
 obtain⟨t,h,q⟩:=hbody A outer s H vs Q E hr hsp;exact⟨t,h.nox,q⟩
end L2
namespace L2
open PySem
def GN(K:W.Frag)(ts:List Addr):Sp:=fun vs H Q _=>∃(a:Addr) (ns:List Int),vs=[.ref a]/\Yv K H a (ns.map V.int)/\ns.length<=63/\(∀Pt∈ts,H Pt=some (.tbl #[]))/\∀H',Q (.bl true) H'
theorem Mn{Pt:Addr}{pos:Pos}{q:Str}{H:Hp}(h:H Pt=some (.tbl #[])):Yz Pt pos q H:=⟨#[],h,trivial,.inl rfl⟩
end L2
namespace L2
open PySem PySem.Spec PyProof.Rows
section
variable {X:Cx}{K:W.Frag}
def Ke(K:W.Frag):List V->Hp->VK->Prop:=fun xs H Q=>match xs with
 | [.ref l]=>∃bs:List Bool,Yv K H l (bs.map V.bl)/\Q (.bl (bs.any id)) H
 | _=>False
theorem OE(hc:X.calm=true):CallR X (.builtin "any") (Ke X.K):=by
 intro Ya s σ H xs us Q I r q
 match xs,q with
 | [.ref l],q =>
 obtain⟨bs,hl,q⟩:=q;obtain⟨u,rfl,ru⟩:=BU r;cases ru;obtain⟨Yf,rv,pl,hz⟩:=I.list hl;have Yk:=rv.length;rw[ZC]at Yk;obtain⟨o1,n1,g1,_⟩:=id pl;have Yr:=ZG g1;refine call_any_walk (wpAny_pyIter_list pl.isList ?_);have Yw:l≠s.heap.objs.size:=ZO Yr;refine⟨_,_,_,_,_,_,fun i=>bs.getD i false,rfl,Walks.list (A:=X.A.in1) (I.ok.hd hc) s.heap.objs.size l Yw Yf.toArray,?_,?_,fun h' tk hk=>?_⟩
 ·exact⟨⟨_,ZN _ rfl,rfl,rfl⟩,(show s.heap.IsList l Yf.toArray from pl.isList).at fun o e=>ZF _ e⟩
 ·intro i v s' Q' E' hv hq;have hv:Yf.toArray[i]? = some v:=hv
  have hi:i < Yf.length:=by
   have:=(ZBq.mp hv).1
   simpa using this
  have hb:(bs.map V.bl)[i]? = some (.bl bs[i]):=by rw[ZT,ZE (by lia)];rfl
  obtain⟨w',q1,q2⟩:=rv.get hb;have e:v=w':=by simp at hv;rw[q1]at hv;exact(ZS hv).symm
  subst e;cases q2;refine ZBC ?_;have e2:bs.getD i false=bs[i]:=by rw[ZV,ZE (by lia)];rfl
  have hq:Q' (bs.getD i false) s':=hq;rw[e2]at hq;exact hq
 ·refine⟨.bl _,H,I.kept (fun b o e=>hk b o ?_ (ZF _ e)),rfl,?_⟩
  ·simp only[ZI];exact ZO (ZG e)
  ·have e:(List.range Yf.toArray.size).any (fun i=>bs.getD i false)=bs.any id:=by
    rw[ZJ,<- Yk];rw[ZBS,ZBM,ZBM];constructor
    ·rintro⟨i,hi,e⟩;have hi':=Zl.mp hi;rw[ZV,ZE hi']at e;exact⟨_,Zk hi',e⟩
    ·rintro⟨b,hb,e⟩;obtain⟨i,hi,rfl⟩:=List.mem_iff_getElem.mp hb;refine⟨i,Zl.mpr hi,?_⟩;rw[ZV,ZE hi];exact e
   rw[e];exact q
theorem Ti(hc:X.calm=true)(hK:X.K=K:=by rfl):CallR X (.builtin "any") (Ke K):=hK ▸ OE hc
end
end L2
namespace L2
theorem on1{α:Type}{P:List α->Prop}(h:∀a,P [a]):∀us:List α,us.length=1->P us
 | [a],_=>h a
theorem on2{α:Type}{P:List α->Prop}(h:∀a b,P [a,b]):∀us:List α,us.length=2->P us
 | [a,b],_=>h a b
theorem on3{α:Type}{P:List α->Prop}(h:∀a b c,P [a,b,c]):∀us:List α,us.length=3->P us
 | [a,b,c],_=>h a b c
theorem on4{α:Type}{P:List α->Prop}(h:∀a b c d,P [a,b,c,d]):∀us:List α,us.length=4->P us
 | [a,b,c,d],_=>h a b c d
open PySem in
theorem Wx{xs es:List PySem.Expr}{p:Pos}{env:Env}:starEach (.List xs p::es) env=(false,eval (.List xs p) env)::starEach es env:=by rfl
end L2
namespace L2
open PySem PyProof.Rows
theorem N2:∀{ns:List Int} {us:List Value},IntsAre us ns->Yj (ns.map V.int) us:=by
 intro ns us h
 induction h with
 | nil=>exact .nil
 | cons _ _ _ ih=>exact .cons ⟨_,rfl⟩ ih
def Fu:V->List V->Hp->VK->Prop:=fun x vs H Q=>match x,vs with
 | .ref l,[.int i,y]=>∃xs,H l=some (.lst xs)/\0<=i/\i<=xs.length/\xs.length < 1000/\Q .non (upd H l (.lst (xs.take i.toNat++y::xs.drop i.toNat)))
 | _,_=>False
theorem Lq:∀{xs:List V} {us:List Value} {y:V} {u:Value} (k:Nat),Yj xs us->Yi y u->Yj (xs.take k++y::xs.drop k) (us.take k++u::us.drop k)
 | _,_,_,_,0,r,ry=>by simpa using Paired.cons ry r
 | _,_,_,_,k+1,.nil,ry=>by simpa using Paired.cons ry .nil
 | _,_,_,_,k+1,.cons r t,ry=>by simpa using Paired.cons r (Lq k t ry)
section
variable {X:Cx}{K:W.Frag}{o e e2:Expr}{to:TE}{t:TA}{apos cpos:Pos}
theorem N5:MtR X "list.insert" Fu:=by
 intro Ya s σ H x vs v us Q I rx rv q
 match x,vs,q with
 | .ref l,[.int i,y],⟨xs,hH,h1,h2,h3,q⟩ =>
 cases rx;obtain⟨u1,u,rfl,⟨tk,rfl⟩,ru⟩:=DB rv;obtain⟨z,Yf,n,r,hl,e⟩:=I.lstM hH;have hi63:i < 2 ^ 63:=by lia
 have hfit:¬(!Builtin.List.listFitsIndex i)=true:=by
  rw[fitsIndex_both (by lia) hi63];exact Z7
 refine call_meets F.slot_list_insert ⟨_,e,rfl⟩ F.entry_list_insert (F.args_list_insert_3 _ _ _) (AutoListH.list_insert_list_int_val_1 l Yf.toArray n i tk u hfit (by rw[ZJ];lia)) ⟨e,?_⟩;refine⟨.non,_,I.lset (its':=Yf.take i.toNat++u::Yf.drop i.toNat) hH e ?_ (Lq i.toNat r ru) ?_,rfl,q⟩
 ·have hm:min i.toNat Yf.length=i.toNat:=by lia
  show(have k:=if i < 0 then (i+((Yf.toArray.size:Nat):Int)).toNat else min i.toNat Yf.toArray.size;(Yf.toArray.extract 0 k).push u++Yf.toArray.extract k)=_
  rw[if_neg (by lia),ZJ,hm];apply Array.toList_inj.mp;simp;exact ZBp (by rw[ZBm];exact ZD _)
 ·rw[ZU,Zi,Zf,ZBm];exact EM (by lia)
theorem Vr (ho:PE X o to) (ha:PA X [e,e2] t) (hbase:attributeBase o "insert" X.env (eval o X.env)=eval o X.env:=by rfl)
 (hfew:((backTo cpos (starEach [e,e2] X.env)).all (fun x=>!x.1) && (backToKw cpos (keywordEach [] X.env)).all (fun x=>x.1.isSome)
   && decide ([e,e2].length+([]:List Keyword).length+(if ([]:List Keyword).isEmpty then 0 else 1) < 30))=true:=by rfl)
 (hline:(apos.endLine == cpos.line)=true:=by rfl) (hs:starEach [e,e2] X.env=(false,eval e X.env)::starEach [e2] X.env:=by rfl) (hplain:(backTo cpos (starEach [e2] X.env)).any (·.1)=false:=by rfl) (hK:X.K=K:=by rfl) :
 PE X (.Call (.Attribute o "insert" apos) [e,e2] [] cpos) (tBM K "list" Fu to t):=hK ▸ Ej PySem.F.plainAttrs_list PySem.F.slot_list_insert PySem.F.type_list_insert N5 ho ha hbase hfew hline hs hplain
def FF:V->List V->Hp->VK->Prop:=fun x vs H Q=>match x,vs with
 | .ref l,[.int i]=>∃xs y,H l=some (.lst xs)/\0<=i/\i < 2 ^ 63/\xs[i.toNat]? = some y/\Q y (upd H l (.lst (xs.eraseIdx i.toNat)))
 | _,_=>False
theorem Tt:MtR X "list.pop" FF:=by
 intro Ya s σ H x vs v us Q I rx rv q
 match x,vs,q with
 | .ref l,[.int i],⟨xs,y,h1,h2,h3,h4,q⟩ =>
 refine Nt Ya s σ H _ _ v us Q I rx rv ⟨l,xs,i,i.toNat,y,rfl,rfl,h1,by lia,h3,?_,h4,q⟩;have hn:i.toNat < xs.length:=(Zg.mp h4).1;unfold seqIndex?;have hi:¬i < 0:=by lia
 have hb:(decide (0<=i) && decide (i < (xs.length:Int)))=true:=by
  rw[ZL h2,ZL (by lia)];rfl
 simp only[if_neg hi,hb];rfl
theorem Ur (ho:PE X o to) (ha:PA X [e] t) (hbase:attributeBase o "pop" X.env (eval o X.env)=eval o X.env:=by rfl)
 (hfew:((backTo cpos (starEach [e] X.env)).all (fun x=>!x.1) && (backToKw cpos (keywordEach [] X.env)).all (fun x=>x.1.isSome)
   && decide ([e].length+([]:List Keyword).length+(if ([]:List Keyword).isEmpty then 0 else 1) < 30))=true:=by rfl)
 (hline:(apos.endLine == cpos.line)=true:=by rfl) (hs:starEach [e] X.env=(false,eval e X.env)::starEach [] X.env:=by rfl) (hplain:(backTo cpos (starEach [] X.env)).any (·.1)=false:=by rfl) (hK:X.K=K:=by rfl) :
 PE X (.Call (.Attribute o "pop" apos) [e] [] cpos) (tBM K "list" FF to t):=hK ▸ Ej PySem.F.plainAttrs_list PySem.F.slot_list_pop PySem.F.type_list_pop Tt ho ha hbase hfew hline hs hplain
theorem Px:Dq Fu:=fun x xs H Q Q' h q=>by
 unfold Fu at *;split at q
 ·obtain⟨ys,a,b,c,d,q⟩:=q;exact⟨ys,a,b,c,d,h _ _ q⟩
 ·exact q.elim
theorem VF:Dq FF:=fun x xs H Q Q' h q=>by
 unfold FF at *;split at q
 ·obtain⟨ys,y,a,b,c,d,q⟩:=q;exact⟨ys,y,a,b,c,d,h _ _ q⟩
 ·exact q.elim
end
theorem LG:∀(n i:Nat) (us:List Value),us.length=n->(∀(j:Nat) (v:Value),us[j]? = some v->∃t,v=Value.int (((i+j:Nat):Int)) t)->Yj ((List.range' i n).map fun(k:Nat)=>V.int (k:Int)) us
 | 0,i,[],_,_=>.nil
 | 0,i,_::_,h,_=>by cases h
 | n+1,i,[],h,_=>by cases h
 | n+1,i,u::us,h,hu=>by
  obtain⟨t,e⟩:=hu 0 u rfl;have r:Yi (V.int ((i:Nat):Int)) u:=⟨t,by rw[e];rfl⟩;rw[List.range'_succ,Zd];refine .cons r (LG n (i+1) us (by simpa using h) fun j v hj=>?_);obtain⟨t,e⟩:=hu (j+1) v (by simpa using hj);exact⟨t,by rw[e];congr 1;lia⟩
end L2
namespace HT
open PySem PyProof.Rows
section
variable {prog:Program}{w:World}{A:Around}{E:Value->Shared->Prop}{s:Shared}
theorem getItem_tuple_whole {t sl:Addr} {items:Array Value} {vl vu:Value} {lo hi:Option Int} {Q:Value->Shared->Prop} (ht:IsTup s.heap t items) (hs:s.heap.IsSliceOf sl vl vu .none) (pl:IsPart vl lo) (pu:IsPart vu hi)
 (hw:sIx items.size 0 lo=0/\sIx items.size items.size hi=items.size)
 (h:Q (.ref t) s):wpAny (model prog w) A (getItem (.ref t) (.ref sl)) Q E s:=by
 obtain⟨os,hos,hcs,hds⟩:=id hs;have hTs:s.TypeIs (.ref sl) "slice":=⟨os,hos,hcs⟩;unfold getItem
 try with_reducible refine Zc ?_
 first | refine ZA (ZB ?_) | skip
 refine ZA (wpAny_sequenceKey ht.typeIs (by decide) ?_)
 refine ZA (wpAny_callSpecial?_slot (name:=Str.ofString "__getitem__") ht.typeIs PyProof.Rows.slot_tuple_getitem
  (Zx PyProof.Rows.slot_tuple_getitem ht.typeIs entry_tuple_getitem ?_ (args_tuple_getitem _ _)))
 show wpAny _ _ (Builtin.Tuple.tupleItemsOf (.ref t) >>= _) _ _ s;refine ZA (tupleItemsOf_ ht ?_);refine ZA (wpAny_typeOf hTs ?_);rw[if_pos (by decide)];refine ZA (MO hs pl pu ?_);rw[hw.1,hw.2];show wpAny _ _ (if (((0:Nat):Int) == 0 && (1:Int) == 1 && (items.size - 0) == items.size)=true then _ else _) _ _ s;have hyes:(((0:Nat):Int) == 0 && (1:Int) == 1 && (items.size - 0) == items.size)=true:=by simp
 rw[if_pos hyes];unfold Builtin.Tuple.tupleIsExact;refine ZA (ZA (wpAny_typeOf ht.typeIs (ZB ?_)));rw[if_pos (by decide)];refine ZA (wpAny_rule ?_)
 first
  | exact ZA (ZB ⟨_,rfl,ZB h⟩)
  | exact ZB ⟨_,rfl,ZB h⟩
  | exact ZA (ZB (ZB ⟨_,rfl,ZB h⟩))
  | exact ZA (ZA (ZB (ZB ⟨_,rfl,ZB h⟩)))
end
end HT
namespace L2
open PySem PySem.Spec PyProof.Rows
section
variable {X:Cx}{K:W.Frag}{e sx:Expr}{te ts:TE}{lo hi:Option Expr}{tl th:TO}{pos p2:Pos}
def ML(K:W.Frag):V->Option Int->Option Int->Hp->VK->Prop:=fun x lo hi H Q=>match x with
 | .ref a=>∃xs,Ys K H a xs/\∀p H',Yc H H'->Ys K H' p (DS xs lo hi)->Q (.ref p) H'
 | _=>False
theorem PK:SlR X (ML X.K):=by
 intro Ya s σ H x v vl vu lo hi sl Q I rx hs pl pu q;cases x with
 | ref a =>
  obtain⟨xs,hx,q⟩:=q
  by_cases hw:HT.sIx xs.length 0 lo=0/\HT.sIx xs.length xs.length hi=xs.length
  ·cases rx;obtain⟨Yf,r,ht,hz⟩:=I.tuple hx;have Yk:Yf.toArray.size=xs.length:=by rw[ZJ];exact r.length.symm
   refine⟨"tuple",_,PyProof.Rows.slot_tuple_getitem.lookup,ht.typeIs,?_⟩;refine HT.getItem_tuple_whole ht hs pl pu (by rw[Yk];exact hw) ⟨.ref a,H,I,rfl,q a H (fun _ _ h=>h) ?_⟩
   have:DS xs lo hi=xs:=by
    unfold DS;rw[hw.1,hw.2,List.drop_zero,ZBp (by lia)]
   rw[this];exact hx
  ·exact V5 Ya s σ H _ v vl vu lo hi sl Q I rx hs pl pu ⟨a,xs,rfl,hx,hw,fun p hp=>q p _ (Yc.upd hp) (.of AD)⟩
 | _=>exact False.elim q
theorem Wn(he:PE X e te)(hl:PO X lo tl)(hu:PO X hi th)(hK:X.K=K:=by rfl):PE X (.Subscript e (.Slice lo hi none p2) pos) (tSl (ML K) te tl th):=hK ▸ Ry PK he hl hu
end
section
variable {X:Cx}{K:W.Frag}
def Fq(K:W.Frag):List V->Hp->VK->Prop:=fun xs H Q=>match xs with
 | [.ref l]=>∃ns:List Int,Yv K H l (ns.map V.int)/\0 < ns.length/\∀M,M∈ns->(∀a∈ns,M<=a)->Q (.int M) H
 | _=>False
theorem Og(hc:X.calm=true):CallR X (.builtin "min") (Fq X.K):=by
 intro Ya s σ H xs us Q I r q
 match xs,q with
 | [.ref l],q =>
 obtain⟨ns,hl,Yw,q⟩:=q;obtain⟨u,rfl,ru⟩:=BU r;cases ru;obtain⟨Yf,rv,pl,hz⟩:=I.list hl;have hi:IntsAre Yf ns:=by simpa using Ey rv
 obtain⟨zs,hzs⟩:=(hi.allInts).items;have pl':=pl.isList;rw[hzs]at pl'
 have hns:ns=zs.toList.map (·.1):=by
  rw[<- hi.numsOf,<- nums_intItems,<- hzs]
 have hsz:0 < zs.size:=by
  rw[hns,ZC,Zh]at Yw;exact Yw
 refine min_intList (I.ok.hd hc) pl' hsz fun v h' tk hv hk=>?_
 obtain⟨t,rfl⟩:=intItems_at hv;obtain⟨h1,h2⟩:=argBest_lt (numAt zs) (zs.size - 1);refine⟨.int _,H,I.kept hk,⟨t,rfl⟩,q _ ?_ fun a ha=>?_⟩
 ·rw[hns,numAt_eq];exact getD_mem (by rw[ZC,Zh];lia)
 ·rw[hns]at ha;obtain⟨j,hj,rfl⟩:=mem_getD ha;rw[ZC,Zh]at hj;rw[<- numAt_eq];exact h2 j (by lia)
theorem Km(hc:X.calm=true)(hK:X.K=K:=by rfl):CallR X (.builtin "min") (Fq K):=hK ▸ Og hc
theorem Ui:CP (Fq K):=fun xs H Q Q' h q=>by
 unfold Fq at *;split at q
 ·obtain⟨ns,a,b,q⟩:=q;exact⟨ns,a,b,fun M x y=>h _ _ (q M x y)⟩
 ·exact q.elim
end
open Classical in
noncomputable def Ww(K:W.Frag)(H:Hp)(u:Value):Dv:=if h:∃d x,Yi x u/\Yh K H d x then h.choose else .non
inductive Dw where
 | non | bl (b:Bool) | int (i:Int) | str (x:Str) | tup (ds:List Dw) | lst (ds:List Dw) | emp
def Mc(a:Addr)(xs:List V):Heap->Prop:=fun h=>a≠sysModules/\∃(Yf:List Value) (n:Nat),Yj xs Yf/\h.get? a=some { cls:=.type "list",data:=.seq Yf.toArray n }
mutual
def Yq(K:W.Frag)(H:Hp):Dw->V->Prop
 | .non,v=>v=.non
 | .bl b,v=>v=.bl b
 | .int i,v=>v=.int i
 | .str x,v=>v=.str x
 | .tup ds,v=>∃a xs,v=.ref a/\Ys K H a xs/\Yn K H ds xs
 | .lst ds,v=>∃a xs,v=.ref a/\H a=some (.ext (Mc a xs))/\Yn K H ds xs
 | .emp,v=>∃a,v=.ref a/\H a=some (.dK [])
def Yn(K:W.Frag)(H:Hp):List Dw->List V->Prop
 | [],xs=>xs=[]
 | d::ds,xs=>∃x r,xs=x::r/\Yq K H d x/\Yn K H ds r
end
theorem Yn.length{K:W.Frag}{H:Hp}:∀{ds:List Dw} {xs:List V},Yn K H ds xs->ds.length=xs.length
 | [],xs,h=>by unfold Yn at h;subst h;rfl
 | d::ds,xs,h=>by
  unfold Yn at h;obtain⟨x,r,rfl,_,h⟩:=h;rw[Zi,Zi,Yn.length h]
theorem Yn.get{K:W.Frag}{H:Hp}:∀{ds:List Dw} {xs:List V} {i:Nat} {d:Dw},Yn K H ds xs->ds[i]? = some d->∃x,xs[i]? = some x/\Yq K H d x
 | [],_,_,_,_,e=>by simp at e
 | d::ds,xs,0,_,h,e=>by
  unfold Yn at h;obtain⟨x,r,rfl,h1,_⟩:=h;simp at e;subst e;exact⟨x,rfl,h1⟩
 | d::ds,xs,i+1,_,h,e=>by
  unfold Yn at h;obtain⟨x,r,rfl,_,h⟩:=h;obtain⟨y,h1,h2⟩:=Yn.get (i:=i) h (by simpa using e);exact⟨y,by simpa using h1,h2⟩
theorem DL{K:W.Frag}{H:Hp}{ds:List Dw}{v:V}(h:Yq K H (.tup ds) v):∃a xs,v=.ref a/\Ys K H a xs/\Yn K H ds xs:=by unfold Yq at h;exact h
mutual
theorem Yq.same{K:W.Frag}{H H':Hp}(s:Yc H H'):∀(d:Dw) (v:V),Yq K H d v->Yq K H' d v
 | .non,v,h=>by unfold Yq at *;exact h
 | .bl b,v,h=>by unfold Yq at *;exact h
 | .int i,v,h=>by unfold Yq at *;exact h
 | .str x,v,h=>by unfold Yq at *;exact h
 | .emp,v,h=>by unfold Yq at *;obtain⟨a,e,h⟩:=h;exact⟨a,e,s _ _ h⟩
 | .tup ds,v,h=>by
  unfold Yq at *;obtain⟨a,xs,e,h1,h2⟩:=h;exact⟨a,xs,e,NI h1 s,Yn.same s ds xs h2⟩
 | .lst ds,v,h=>by
  unfold Yq at *;obtain⟨a,xs,e,h1,h2⟩:=h;exact⟨a,xs,e,s _ _ h1,Yn.same s ds xs h2⟩
theorem Yn.same{K:W.Frag}{H H':Hp}(s:Yc H H'):∀(ds:List Dw) (xs:List V),Yn K H ds xs->Yn K H' ds xs
 | [],xs,h=>by unfold Yn at *;exact h
 | d::ds,xs,h=>by
  unfold Yn at *;obtain⟨x,r,e,h1,h2⟩:=h;exact⟨x,r,e,Yq.same s d x h1,Yn.same s ds r h2⟩
end
mutual
def upW:Dv->Dw
 | .non=>.non
 | .bl b=>.bl b
 | .int i=>.int i
 | .str x=>.str x
 | .tup ds=>.tup (Cn ds)
 | .lst ds=>.lst (Cn ds)
def Cn:List Dv->List Dw
 | []=>[]
 | d::ds=>upW d::Cn ds
end
mutual
theorem MG{K:W.Frag}{H:Hp}:∀(d:Dv) (v:V),Ar d=true->Yh K H d v->Yq K H (upW d) v
 | .non,v,_,h=>by unfold upW Yq;unfold Yh at h;exact h
 | .bl b,v,_,h=>by unfold upW Yq;unfold Yh at h;exact h
 | .int i,v,_,h=>by unfold upW Yq;unfold Yh at h;exact h
 | .str x,v,_,h=>by unfold upW Yq;unfold Yh at h;exact h
 | .tup ds,v,hd,h=>by
  unfold Ar at hd;unfold Yh at h;obtain⟨a,xs,e,h1,h2⟩:=h;unfold upW Yq;exact⟨a,xs,e,h1,Kx ds xs hd h2⟩
 | .lst ds,v,hd,h=>by unfold Ar at hd;cases hd
theorem Kx{K:W.Frag}{H:Hp}:∀(ds:List Dv) (xs:List V),Ag ds=true->Ye K H ds xs->Yn K H (Cn ds) xs
 | [],xs,_,h=>by unfold Cn Yn;unfold Ye at h;exact h
 | d::ds,xs,hd,h=>by
  unfold Ag at hd;rw[ZQ]at hd;unfold Ye at h;obtain⟨x,r,e,h1,h2⟩:=h;unfold Cn Yn;exact⟨x,r,e,MG d x hd.1 h1,Kx ds r hd.2 h2⟩
end
def tyW:Dw->String
 | .non=>"NoneType"
 | .bl _=>"bool"
 | .int _=>"int"
 | .str _=>"str"
 | .tup _=>"tuple"
 | .lst _=>"list"
 | .emp=>"dict"
def FL(K:W.Frag):List V->Hp->VK->Prop:=fun xs H Q=>match xs with
 | [x,.ty T]=>T∈kinds/\∃d,Yq K H d x/\Q (.bl (Bf (tyW d) T)) H
 | _=>False
theorem Rw{X:Cx}:CallR X (.builtin "isinstance") (FL X.K):=by
 intro Ya s σ H xs us Q I r q
 match xs,q with
 | [x,.ty T],q =>
  obtain⟨hT,d,h,q⟩:=q;have hT':=hT;unfold kinds at hT';simp only[ZH,Z8,or_false]at hT';cases d with
  | non =>
   unfold Yq at h;subst h;exact E9 Ya s σ H _ us Q I r ⟨hT,.non,by unfold Yh;rfl,q⟩
  | str z =>
   unfold Yq at h;subst h;exact E9 Ya s σ H _ us Q I r ⟨hT,.str z,by unfold Yh;rfl,q⟩
  | bl b =>
   unfold Yq at h;subst h;exact E9 Ya s σ H _ us Q I r ⟨hT,.bl b,by unfold Yh;rfl,q⟩
  | int i =>
   unfold Yq at h;subst h;exact E9 Ya s σ H _ us Q I r ⟨hT,.int i,by unfold Yh;rfl,q⟩
  | tup ds =>
   unfold Yq at h;obtain⟨a,ys,rfl,hs,_⟩:=h;obtain⟨u,w',rfl,ru,rw'⟩:=DB r;cases rw';obtain⟨ht,hn,Hh,k,hh⟩:=LI I ru (show TyS X.K H (.ref a) "tuple" from .inl ⟨rfl,ys,hs⟩);exact PySem.W.kia_one k I.kIn hh (HD ht hT) hn fun tk=>⟨.bl (Bf "tuple" T),H,I.tok _,rfl,q⟩
  | lst ds =>
   unfold Yq at h;obtain⟨a,ys,rfl,hs,_⟩:=h;obtain⟨u,w',rfl,ru,rw'⟩:=DB r;cases rw';cases ru;obtain⟨⟨_,Yf,n,_,h1⟩,_⟩:=(show ObjOk X.prog X.w H s.heap a (.ext (Mc a ys)) from I.hok a _ hs);exact PySem.W.kia_one PySem.W.kitx_list I.kIn ⟨_,h1,rfl⟩ (HD (.inr (.inr (.inr rfl))) hT) (fun z=>nomatch z) fun tk=>⟨.bl (Bf "list" T),H,I.tok _,rfl,q⟩
  | emp =>
   unfold Yq at h;obtain⟨a,rfl,hs⟩:=h;refine JR Ya s σ H _ us Q I r ⟨hT,_,.inr (.inr (.inl ⟨⟨_,hs⟩,rfl⟩)),?_⟩;have e:(T == "dict")=Bf (tyW .emp) T:=by rcases hT' with rfl | rfl | rfl | rfl | rfl | rfl <;> rfl
   rw[e];exact q
theorem EU{X:Cx}{K:W.Frag}(hK:X.K=K:=by rfl):CallR X (.builtin "isinstance") (FL K):=hK ▸ Rw
theorem Ny{K:W.Frag}:CP (FL K):=fun xs H Q Q' h q=>by
 unfold FL at *;split at q
 ·obtain⟨a,t,b,q⟩:=q;exact⟨a,t,b,h _ _ q⟩
 ·exact q.elim
section
variable {X:Cx}{K:W.Frag}
def FP(K:W.Frag):R2:=fun x y H Q=>match x,y with
 | .int a,.int b=>Q (.bl (!(a == b))) H
 | .ref a,.ref b=>∃xs,((Ys K H a xs/\Ys K H b [])\/(Yv K H a xs/\Yv K H b []))/\Q (.bl (!xs.isEmpty)) H
 | _,_=>False
theorem Rx(hu:X.A.units+60 < cLine):Yx X (compareOp .NotEq) (FP X.K):=by
 intro Ya s σ H x y v u Q I rx ry q;have hu':X.A.units < cLine:=by lia
 cases x <;> cases y <;> first | exact False.elim q | skip
 ·rename_i a b;exact om_neAll hu Ya s σ H _ _ v u Q I rx ry ⟨.int a,.int b,by unfold Yh;rfl,by unfold Yh;rfl,by unfold BC;lia,by unfold eqD;exact q⟩
 rename_i a b;cases rx;cases ry;obtain⟨xs,hq,q⟩:=q
 rcases hq with ⟨ha,hb⟩ | ⟨ha,hb⟩
 ·obtain⟨Yf,r1,p1,_⟩:=I.tuple ha;obtain⟨its2,r2,p2,_⟩:=I.tuple hb;cases r2;have N:=SeqAt.RcNeAt.tuples (A:=X.A) (e:=fun _=>false) p1 p2 hu' (fun j h1 h2=>absurd h2 (by simp));refine N X.prog X.w _ _ ⟨.bl _,H,I,rfl,?_⟩;cases r1 <;> simpa using q
 ·obtain⟨Yf,r1,p1,_⟩:=I.list ha;obtain⟨its2,r2,p2,_⟩:=I.list hb;cases r2;cases r1 with
  | nil =>
   have N:=SeqAt.RcNeAt.lists (A:=X.A) (e:=fun _=>false) p1.isList p2.isList rfl hu' (fun j h1 h2=>absurd h2 (by simp));refine N X.prog X.w _ _ ⟨.bl _,H,I,rfl,?_⟩;simpa using q
  | cons r t =>
   have N:=SeqAt.RcNeAt.lists_lengths (A:=X.A) p1.isList p2.isList (by simp) hu';refine N X.prog X.w _ _ ⟨.bl _,H,I,rfl,?_⟩;simpa using q
theorem D3(hu:X.A.units+60 < cLine)(hK:X.K=K:=by rfl):Yx X (compareOp .NotEq) (FP K):=hK ▸ Rx hu
theorem T4:B6 (FP K):=fun x y H Q Q' m q=>by
 cases x <;> cases y <;> first
  | exact False.elim q
  | exact m _ _ q
  | skip
 obtain⟨xs,h,q⟩:=q;exact⟨xs,h,m _ _ q⟩
end
theorem JQ(val:Nat->Int):∀i,(firstMet val i).Nodup
 | 0=>by rw[firstMet_zero];exact List.nodup_nil
 | i+1=>by
  rw[firstMet_succ];unfold step_dedup;have ih:=JQ val i;split
  ·exact ih
  ·rename_i h;rw[ZBv];refine⟨ih,by simp,?_⟩;intro a ha b hb e;rw[ZI.mp hb]at e;exact h (ZBM.mpr ⟨a,ha,by rw[e];simp⟩)
theorem Ly(ns:List Int)(k:Int):k∈firstMet (fun i=>ns.getD i 0) ns.length ↔ k∈ns:=by
 have h:=firstMet_any (fun i=>ns.getD i 0) ns.length k
 have e:(List.range ns.length).map (fun i=>ns.getD i 0)=ns:=by
  apply List.ext_getElem
  ·simp
  ·intro i h1 h2;simp;rw[ZE h2];rfl
 rw[e]at h;have a1:∀l:List Int,l.any (· == k)=true ↔ k∈l:=fun l=>by simp
 rw[<- a1,<- a1,h]
def Dh(ds:List Int):HO:=.set (fun k=>ds.any (· == k)) ds.length
def FU(K:W.Frag):List V->Hp->VK->Prop:=fun xs H Q=>match xs with
 | [.ref p]=>∃ns:List Int,Yv K H p (ns.map V.int)/\ns.length<=1000/\∀(ds:List Int) q,ds.Nodup->(∀k,k∈ds ↔ k∈ns)->H q=none->Q (.ref q) (upd H q (Dh ds))
 | _=>False
section
variable {X:Cx}{K:W.Frag}
theorem Pl(hh:X.calm=true):CallR X (.type "set") (FU X.K):=by
 intro Ya s σ H xs us Q I r h
 match xs,h with
 | [.ref p],h =>
 obtain⟨ns,hq,hn,q⟩:=h;obtain⟨u,rfl,rx⟩:=BU r;cases rx;obtain⟨Yf,rv,pl,hz⟩:=I.list hq;have hi:IntsAre Yf ns:=by simpa using Ey rv
 have Yk:Yf.length=ns.length:=by rw[<- rv.length,ZC]
 refine call_set_list (ns:=ns) (I.ok.hd hh) pl.isList (by simpa using hi) (by rw[ZJ,Yk];show ns.length+1 < 4096;lia) fun h' tk hs hk=>?_
 have hsz:Yf.toArray.size=ns.length:=by rw[ZJ,Yk]
 rw[hsz]at hs;refine⟨.ref s.heap.objs.size,_,I.laid (t':=tk) (o:=Dh (firstMet (fun i=>ns.getD i 0) ns.length)) (fun b o e=>hk b o (ZG e) e) (ZD _) hs,rfl,q _ _ (JQ _ _) (Ly ns) (I.hok.fresh (ZD _))⟩
theorem MZ(hh:X.calm=true)(hK:X.K=K:=by rfl):CallR X (.type "set") (FU K):=hK ▸ Pl hh
theorem QD:CP (FU K):=fun xs H Q Q' h q=>by
 unfold FU at *;split at q
 ·obtain⟨ns,a,b,q⟩:=q;exact⟨ns,a,b,fun ds p x1 x2 x3=>h _ _ (q ds p x1 x2 x3)⟩
 ·exact q.elim
def II:List V->Hp->VK->Prop:=fun xs H Q=>match xs with
 | [.ref p]=>∃ds:List Int,H p=some (Dh ds)/\Q (.int ds.length) H
 | _=>False
theorem LV:CallR X (.builtin "len") II:=by
 intro Ya s σ H xs us Q I r h
 match xs,h with
 | [.ref p],h =>
 obtain⟨ds,hq,q⟩:=h;obtain⟨u,rfl,rx⟩:=BU r;cases rx;obtain⟨o,es,ep,t,h1,h2,h3,_,_,h6,h7,h8⟩:=(show ObjOk X.prog X.w H s.heap p (Dh ds) from I.hok p _ hq);refine call_len_set h1 h2 h3 h7 (Int.lt_trans (Int.ofNat_lt.mpr h6) (by decide)) ⟨.int ds.length,H,I.tok _,⟨_,by rw[h8]⟩,q⟩
theorem Qh:CP II:=fun xs H Q Q' h q=>by
 unfold II at *;split at q
 ·obtain⟨ds,a,q⟩:=q;exact⟨ds,a,h _ _ q⟩
 ·exact q.elim
end
def Ris(xs:Array Nat):Prop:=xs.toList.Pairwise (· < ·)
theorem Ris.lt{xs:Array Nat}(h:Ris xs){i k:Nat}(hik:i < k)(hk:k < xs.size)(j:Nat):xs.getD i j < xs.getD k j:=by
 have hi:i < xs.size:=ZBR hik hk
 have:=List.pairwise_iff_getElem.mp h i k (by simpa using hi) (by simpa using hk) hik
 simpa [Array.getD,hi,hk] using this
theorem IS{xs:Array Nat}{j:Nat}(h:Ris xs):∀(f lo hi:Nat),hi - lo<=f->lo<=hi->hi<=xs.size->(∀i,i < lo->xs.getD i j < j)->(∀i,hi<=i->i < xs.size->j<=xs.getD i j) ->
 SetTable.below.go xs j f lo hi<=xs.size/\(∀i,i < SetTable.below.go xs j f lo hi->xs.getD i j < j)/\∀i,SetTable.below.go xs j f lo hi<=i->i < xs.size->j<=xs.getD i j
 | 0,lo,hi,h1,h2,h3,h4,h5=>by
  have e:lo=hi:=by lia
  subst e;exact⟨h3,h4,h5⟩
 | f+1,lo,hi,h1,h2,h3,h4,h5=>by
  unfold SetTable.below.go
  by_cases hl:lo < hi
  ·rw[if_pos hl];dsimp only;have hm:(lo+hi) / 2 < xs.size:=by lia
   by_cases hx:xs.getD ((lo+hi) / 2) j < j
   ·rw[if_pos hx];refine IS h f _ _ (by lia) (by lia) h3 (fun i hi'=>?_) h5
    rcases Z4 i ((lo+hi) / 2) with z | z
    ·exact ZBR (h.lt z hm j) hx
    ·have:i=(lo+hi) / 2:=by lia
     rw[this];exact hx
   ·rw[if_neg hx];refine IS h f _ _ (by lia) (by lia) (by lia) h4 (fun i hi' hs=>?_)
    rcases Z4 ((lo+hi) / 2) i with z | z
    ·have:=h.lt z hs j;lia
    ·have:i=(lo+hi) / 2:=by lia
     rw[this];lia
  ·rw[if_neg hl];have e:lo=hi:=by lia
   subst e;exact⟨h3,h4,h5⟩
theorem Gz{xs:Array Nat}(h:Ris xs)(j:Nat):SetTable.below xs j<=xs.size/\(∀i,i < SetTable.below xs j->xs.getD i j < j)/\∀i,SetTable.below xs j<=i->i < xs.size->j<=xs.getD i j :=
 IS h _ _ _ (by lia) (by lia) (ZD _) (fun i z=>by lia) (fun i z y=>by lia)
theorem Qm{xs:Array Nat}(h:Ris xs){k:Nat}(hk:k < xs.size):SetTable.below xs (xs.getD k 0+1)=k+1:=by
 obtain⟨a,b,c⟩:=Gz h (xs.getD k 0+1);generalize SetTable.below xs (xs.getD k 0+1)=r at a b c;have e0:∀i z,i < xs.size->xs.getD i z=xs.getD i 0:=fun i z hi=>by simp[Array.getD,hi]
 rcases ZBW r (k+1) with z | z | z
 ·have:=c k (by lia) hk
  rw[e0 k (xs.getD k 0+1) hk]at this;lia
 ·exact z
 ·have h1:=b (k+1) z;have hs:k+1 < xs.size:=by lia
  have h2:=h.lt (ZBO k) hs 0;rw[e0 (k+1) (xs.getD k 0+1) hs]at h1
  have:xs.getD k 0 < xs.getD (k+1) 0:=h2
  lia
theorem QT{xs:Array Nat}(h:Ris xs):SetTable.below xs 0=0:=by
 obtain⟨a,b,c⟩:=Gz h 0
 rcases ZB5 (SetTable.below xs 0) with z | z
 ·exact z
 ·have:=b 0 z;lia
theorem Rk{xs:Array Nat}(h:Ris xs){j:Nat}(hn:xs[SetTable.below xs j]? ≠ some j):Ris (SetTable.insertAt xs (SetTable.below xs j) j):=by
 obtain⟨a,b,c⟩:=Gz h j;generalize SetTable.below xs j=r at a b c hn;unfold Ris;rw[SetTable.toList_insertAt,List.pairwise_append,ZB6];have g:∀i,i < xs.size->xs.toList[i]? = some (xs.getD i j):=fun i hi=>by simp[Array.getD,hi]
 have lo:∀x∈xs.toList.take r,x < j:=fun x hx=>by
  obtain⟨i,hi,e⟩:=Zq hx;rw[Zf]at hi;rw[List.getElem_take]at e;have hi2:i < xs.size:=by have:=(Nat.lt_min.mp hi).2;simpa using this
  have:=g i hi2
  rw[ZE (by simpa using hi2),e]at this;cases this;exact b i (Nat.lt_min.mp hi).1
 have hi:∀x∈xs.toList.drop r,j < x:=fun x hx=>by
  obtain⟨i,hi,e⟩:=Zq hx;rw[ZBm]at hi;rw[List.getElem_drop]at e
  have hi2:r+i < xs.size:=by have:xs.toList.length=xs.size:=by simp
                             lia
  have e1:=g (r+i) hi2;rw[ZE (by simpa using hi2),e]at e1;have e2:=c (r+i) (Nat.le_add_right _ _) hi2;have e3:x=xs.getD (r+i) j:=ZS e1
  rcases ZB5 i with z | z
  ·subst z
   have:x≠j:=fun q=>hn (by rw[<- ZBe,g r hi2];rw[<- q];exact congrArg some (by rw[e3]at q;rw[e3];exact(by rw[q]:xs.getD (r+0) j=xs.getD (r+0) j) ▸ (by simp[Array.getD,show r < xs.size from hi2])))
   lia
  ·have h1:=h.lt (show r < r+i by lia) hi2 j;have h2:=c r (ZD _) (by lia);lia
 refine⟨List.Pairwise.sublist (List.take_sublist _ _) h,⟨hi,List.Pairwise.sublist (List.drop_sublist _ _) h⟩,fun x hx y hy=>?_⟩
 rcases ZH.mp hy with rfl | hy2
 ·exact lo x hx
 ·exact ZBR (lo x hx) (hi y hy2)
theorem J2(t:SetTable)(p:SetTable.Probe):(t.advance p).dummy=p.dummy:=by
 unfold SetTable.advance;split <;> rfl
def ER(t:SetTable)(j:Nat):Prop:=t.place[SetTable.below t.place j]? ≠ some j
theorem K1{t:SetTable}{j:Nat}(h:∀i,t.slot j≠.live i):ER t j:=fun e=>h _ (by unfold SetTable.slot;dsimp only;rw[if_pos (by rw[e];exact beq_self_eq_true _)])
theorem probe_go{t:SetTable}{g:Nat->Int}{h:Int}{j:Nat}{d:Option Nat}:∀(f:Nat) (p:SetTable.Probe),(∀x,p.dummy=some x->ER t x)->SetTable.probe.go t g h f p=some (.empty j d)->ER t j/\∀x,d=some x->ER t x
 | 0,p,hp,e=>by unfold SetTable.probe.go at e;cases e
 | f+1,p,hp,e=>by
  unfold SetTable.probe.go at e;split at e
  ·rename_i hs;cases e;exact⟨K1 (fun i z=>by rw[hs]at z;cases z),hp⟩
  ·rename_i hs;refine probe_go f _ (fun x hx=>?_) e;rw[J2]at hx;cases hx;exact K1 fun i z=>by rw[hs]at z;cases z
  ·split at e
   ·cases e
   ·exact probe_go f _ (fun x hx=>hp x (by rw[J2]at hx;exact hx)) e
theorem R0{t:SetTable}{h:Int}{j:Nat}{b:Bool}(e:t.freeSlot h=some (j,b)):ER t j:=by
 unfold SetTable.freeSlot at e;split at e
 ·rename_i j' d hm;cases e;obtain⟨a,c⟩:=probe_go _ _ (fun x hx=>by cases hx) (show SetTable.probe.go t _ h _ (t.probeStart h)=_ from hm);cases d with
  | none=>exact a
  | some x=>exact c x rfl
 ·cases e
structure TabG(w:World)(t:SetTable):Prop where
 led:t.led = !w.params.followText "set-order"
 ris:Ris t.place
theorem VG(n:Nat):Ris (Array.range n):=by
 unfold Ris;rw[Array.toList_range];exact ZBw
theorem SM(w:World):TabG w (.fresh 0 0 (!w.params.followText "set-order")):=⟨rfl,List.Pairwise.nil⟩
theorem FC{w:World}{t:SetTable}(g:TabG w t)(n:Nat):TabG w (t.standIn n):=⟨g.led,VG n⟩
theorem tg_orStandIn{w:World}{t:SetTable}(g:TabG w t)(n:Nat):TabG w (t.orStandIn n):=by
 unfold SetTable.orStandIn;split
 ·exact g
 ·exact FC g n
theorem UZ{w:World}{t:SetTable}(g:TabG w t)(es:Array (Int × Value))(h:Int)(x:Value):TabG w (layNew t es h x).2.1:=by
 unfold layNew;split
 ·rename_i j b e;exact tg_orStandIn (t:=(t.put j).1) ⟨g.led,Rk g.ris (R0 e)⟩ _
 ·exact FC g _
theorem Sj{w:World}{t t':SetTable}(g:TabG w t){hs:Array Int}{n:Nat}{o:Array Nat}(e:t.relaid hs n=some (t',o)):TabG w t':=by
 unfold SetTable.relaid SetTable.laid at e;cases q:SetTable.layClean (SetTable.sizeAbove n - 1) hs with
 | none=>rw[q]at e;cases e
 | some ow =>
  rw[q]at e;cases e;refine⟨g.led,?_⟩;unfold Ris;dsimp only;rw[ZBh,List.pairwise_filterMap];refine List.Pairwise.imp (fun {a b} hab x hx y hy=>?_) ZBw;cases h1:ow.getD a none with
  | none=>rw[h1]at hx;cases hx
  | some u =>
   cases h2:ow.getD b none with
   | none=>rw[h2]at hy;cases hy
   | some v =>
    rw[h1]at hx;rw[h2]at hy;cases hx;cases hy;exact hab
theorem OW{w:World}{t:SetTable}(g:TabG w t)(es:Array (Int × Value))(n:Nat):TabG w (relayAll t es n).2.1:=by
 unfold relayAll;split
 ·rename_i t' o e;dsimp only;split
  ·exact Sj g e
  ·exact FC g _
 ·exact FC g _
theorem UT{w:World}{t:SetTable}(g:TabG w t)(b:Bool):TabG w { t with plain:=b }:=⟨g.led,g.ris⟩
def SetW(P:Program)(w:World)(h:Heap)(a:Addr)(S:Int->Bool)(n:Nat):Prop :=
 ∃o es ep t,h.get? a=some o/\o.ExactSet/\o.data=.set es ep t/\ElemsOf (intKind P w) es.toList/\(∀k,S k=true ↔ ∃e∈es.toList,(intKind P w).is k e.2=true)/\es.size < scanBound/\t.fits es.size=true/\es.size=n/\TabG w t
section
variable {P:Program}{w:World}{A:Around}{E:Value->Shared->Prop}{s:Shared}{a:Addr}
theorem SetW.at{h h':Heap}{S:Int->Bool}{n:Nat}(x:SetW P w h a S n)(k:∀o,h.get? a=some o->h'.get? a=some o):SetW P w h' a S n:=by
 obtain⟨o,es,ep,t,h1,r⟩:=x;exact⟨o,es,ep,t,k _ h1,r⟩
theorem SetW.of{h:Heap}{S:Int->Bool}{n:Nat}(x:SetW P w h a S n):h.SetOf (intKind P w) a S n:=by
 obtain⟨o,es,ep,t,h1,h2,h3,h4,h5,h6,h7,h8,_⟩:=x;exact⟨o,es,ep,t,h1,h2,h3,h4,h5,h6,h7,h8⟩
theorem Mm {h:Heap} {o:Obj} {es es':Array (Int × Value)} {ep:Nat} {t t':SetTable} {S:Int->Bool} (h1:h.get? a=some o) (h2:o.ExactSet) (h3:o.data=.set es ep t) (h4:ElemsOf (intKind P w) es'.toList)
 (h5:∀k,S k=true ↔ ∃e∈es'.toList,(intKind P w).is k e.2=true) (h6:es'.size < scanBound) (h7:t'.fits es'.size=true) (g:TabG w t') :
 (h.update a (Obj.putSet es' t')).get? a=some { o with data:=.set es' (ep+1) t' } /\ SetW P w (h.update a (Obj.putSet es' t')) a S es'.size :=
 have q:=SetOf_store (knd:=intKind P w) h1 h2 h3 h4 h5 h6 h7
 ⟨q.1,_,es',ep+1,t',q.1,h2,rfl,h4,h5,h6,h7,rfl,g⟩
theorem QW{b:Bool}{Q:Unit->Shared->Prop}{s₁:Shared}(q:Q () s₁):wpAny (model P w) A (match b with | true=>rule "set.scan.the-table-gave-way" | false=>pure ()) Q E s₁:=by
 cases b with
 | true=>exact wpAny_rule q
 | false=>exact ZB q
theorem Kv {g:Bool->Sem Unit} (hg:∀(b:Bool) (s₁:Shared) (Q:Unit->Shared->Prop),Q () s₁->wpAny (model P w) A (g b) Q E s₁) {o:Obj} {es es1:Array (Int × Value)} {ep:Nat} {t t2:SetTable} {S:Int->Bool} {wd:Bool} {R:Option Bool->Shared->Prop}
 (h1:s.heap.get? a=some o) (h2:o.ExactSet) (h3:o.data=.set es ep t) (h4:ElemsOf (intKind P w) es1.toList) (h5:∀k,S k=true ↔ ∃e∈es1.toList,(intKind P w).is k e.2=true) (h6:es1.size < scanBound) (h7:t2.fits es1.size=true) (gd:TabG w t2)
 (fin:∀h',Heap.SameBut a s.heap h'->SetW P w h' a S es1.size->R (some true) { s with heap:=h' }) :
 wpAny (model P w) A (do
  storeSet a es1 t2
  if (!wd && t2.tooFull)=true then do
   g (relayAll t2 es1 (SetTable.grown es1.size)).2.2;storeSet a (relayAll t2 es1 (SetTable.grown es1.size)).1 (relayAll t2 es1 (SetTable.grown es1.size)).2.1
   pure (some true)
   else
    pure (some true)) R E s:=by
 obtain⟨k1,k2⟩:=Mm h1 h2 h3 h4 h5 h6 h7 gd;refine ZA (wpAny_storeSet_of h1 h3 ?_ (fits_of_scanBound h6));have sb:=Z3 s.heap a (Obj.putSet es1 t2);split
 ·have pm:=relayAll_perm t2 es1 (SetTable.grown es1.size);have ft:=relayAll_fits t2 es1 (SetTable.grown es1.size);have tg:=OW gd es1 (SetTable.grown es1.size);generalize relayAll t2 es1 (SetTable.grown es1.size)=V at pm ft tg ⊢;obtain⟨e2,t3,gv⟩:=V;dsimp only at pm ft tg ⊢;have z:e2.size=es1.size:=by rw[<- Zh,pm.length_eq,Zh]
  obtain⟨_,k4⟩:=Mm (S:=S) k1 h2 rfl (h4.perm pm) (fun k=>(h5 k).trans ⟨fun⟨e,x,y⟩=>⟨e,pm.mem_iff.mpr x,y⟩,fun⟨e,x,y⟩=>⟨e,pm.mem_iff.mp x,y⟩⟩) (by rw[z];exact h6) ft tg;rw[z]at k4;exact ZA (hg _ _ _ (ZA (wpAny_storeSet_of k1 rfl (ZB (fin _ (sb.trans (Z3 _ a _)) k4)) (fits_of_scanBound (by rw[z];exact h6)))))
 ·exact ZB (fin _ sb k2)
theorem TK {S:Int->Bool} {n:Nat} {k:Int} {x:Value} {Q:Bool->Shared->Prop} (hk:(intKind P w).is k x=true) (hx:x.scannable=true) (hS:SetW P w s.heap a S n) (hn:n+1 < scanBound)
 (fin:∀h',Heap.SameBut a s.heap h'->SetW P w h' a (fun k'=>S k' || decide (k'=k)) (if S k then n else n+1)->Q (!S k) { s with heap:=h' }) :
 wpAny (model P w) A (setAddHashed a x ((intKind P w).hash k)) Q E s:=by
 obtain⟨o,es,ep,t,h1,h2,h3,h4,h5,h6,h7,h8,gd⟩:=hS;unfold setAddHashed setAddHashedIn;refine Zc (ZA (wpAny_setState_of h1 h3 h7 ?_));dsimp only;rw[byScan_of hx h6 h4];simp only[↓reduceIte];unfold setAddByScan;refine ZA (ZA (wpAny_rule (ZA (wpAny_setScan_of hk h1 h3 h7 h4 ?_))));cases hr:List.findIdx? (fun e=>(intKind P w).is k e.2) es.toList with
 | some j =>
  dsimp only;obtain⟨hj,hp,_⟩:=List.findIdx?_eq_some_iff_getElem.mp hr;have sk:S k=true:=(h5 k).mpr ⟨es.toList[j],Zk hj,hp⟩
  have q:=fin s.heap (Heap.SameBut.refl a s.heap) ⟨o,es,ep,t,h1,h2,h3,h4,(fun k'=>by
   rw[Bool.or_eq_true,decide_eq_true_eq,<- h5 k'];exact⟨fun z=>z.elim id (fun e=>e ▸ sk),.inl⟩),h6,h7,(by rw[sk];exact h8),gd⟩
  rw[sk]at q;exact ZB (ZB q)
 | none =>
  dsimp only
  have sk:S k=false:=by
   cases z:S k with
   | false=>rfl
   | true =>
    obtain⟨e,he,hp⟩:=(h5 k).mp z
    have:=List.findIdx?_eq_none_iff.mp hr e he;rw[hp]at this;cases this
  have pm:=layNew_perm t es ((intKind P w).hash k) x;have ft:=layNew_fits t es ((intKind P w).hash k) x;have tg:=UZ gd es ((intKind P w).hash k) x;generalize layNew t es ((intKind P w).hash k) x=V at pm ft tg ⊢;obtain⟨e1,t1,wd,gv⟩:=V;dsimp only at pm ft tg ⊢;rw[Array.toList_push]at pm;have z1:e1.size=n+1:=by rw[<- Zh,pm.length_eq,ZU,Zh,h8];rfl
  have c1:ElemsOf (intKind P w) e1.toList:=(h4.push hk hx).perm pm;have c2:∀k',(S k' || decide (k'=k))=true ↔ ∃e∈e1.toList,(intKind P w).is k' e.2=true:=mem_push_iff hk h5 pm
  have en:∀h',Heap.SameBut a s.heap h'->SetW P w h' a (fun k'=>S k' || decide (k'=k)) e1.size->Q true { s with heap:=h' }:=fun h' sb q=>by
   have r:=fin h' sb;rw[sk]at r;rw[z1]at q;exact r q
  have gw:∀(b:Bool) (s₁:Shared) (Q':Unit->Shared->Prop),Q' () s₁->wpAny (model P w) A (match b with | true=>rule "set.scan.the-table-gave-way" | false=>pure ()) Q' E s₁:=fun b s₁ Q' q=>QW q
  refine ZA (gw _ _ _ ?_);split
  ·refine ZA ?_;rw[hashByValue_scannable 8 hx];refine ZB (Kv gw h1 h2 h3 c1 c2 (by rw[z1];exact hn) ?_ ?_ fun h' sb q=>ZB (en h' sb q))
   ·split
    ·exact ft
    ·exact SetTable.fits_plain_off ft
   ·split
    ·exact tg
    ·exact UT tg _
  ·refine ZA (ZB ?_);simp only[↓reduceIte];exact Kv gw h1 h2 h3 c1 c2 (by rw[z1];exact hn) ft tg fun h' sb q=>ZB (en h' sb q)
end
section
variable {P:Program}{w:World}{A:Around}{E:Value->Shared->Prop}{s:Shared}{a:Addr}
theorem SetW.congr{h:Heap}{S S':Int->Bool}{n n':Nat}(x:SetW P w h a S n)(e:∀k,S k=S' k)(en:n=n'):SetW P w h a S' n':=by
 obtain rfl:S=S':=funext e;subst en;exact x
def Ew(P:Program)(w:World)(h:Heap)(a:Addr)(f:Nat->Int)(i:Nat):Prop:=SetW P w h a (fun k=>(firstMet f i).any (· == k)) (firstMet f i).length
theorem Kp {R:Result->Shared->Prop} {I:Addr} {fp wr:List Addr} {G:Array GenState->Array GenState->Prop} {n:Nat} {Pv:Nat->Value->Prop} {St:Nat->Shared->Prop} (W:WalksS P w A.in1 I fp wr G n Pv St) (ha:a∉fp)
 (f:Nat->Int) (hf:∀i v,Pv i v->∃t,v=.int (f i) t) (hb:n+1 < scanBound):∀(k i:Nat) (s:Shared),n - i=k->i<=n->St i s->Ew P w s.heap a f i ->
  (∀s',Moved (a::wr) G s s'->Ew P w s'.heap a f n->R (.ok (.ret .none)) s')->codeAny (model P w) A (.builtin "set.update.loop" ⟨[.ref a,.ref I],[]⟩) R s
 | 0,i,s,hk,hi,st,hS,hR=>by
  obtain rfl:i=n:=by lia
  refine Z9 PyProof.Rows.F.entry_set_update_loop ?_;rw[ZBE PyProof.Rows.F.plain_set_update_loop _];show wpAny _ A.in1 (pyNext (.ref I) >>= _) _ _ s;refine ZA (W.done s _ _ st fun s' hm=>ZB (hR s' (hm.mono fun b hb=>ZW _ hb) (hS.at fun o e=>hm.heap a o (fun z=>ha (W.sub _ z)) e)))
 | k+1,i,s,hk,hi,st,hS,hR=>by
  have Yr:i < n:=by lia
  refine Z9 PyProof.Rows.F.entry_set_update_loop ?_;rw[ZBE PyProof.Rows.F.plain_set_update_loop _];show wpAny _ A.in1 (pyNext (.ref I) >>= _) _ _ s;refine ZA (W.item i s _ _ Yr st fun v s' hP st' hm=>?_);obtain⟨t,rfl⟩:=hf i v hP;have hS':Ew P w s'.heap a f i:=hS.at fun o e=>hm.heap a o (fun z=>ha (W.sub _ z)) e
  show wpAny _ A.in1 (holding [Value.int (f i) t] (setAdd a (.int (f i) t)) >>= _) _ _ s';refine ZA (Zc ?_);unfold setAdd;refine Zc (ZA ((intKind P w).pyHash (k:=f i) (intKind_is _ _ _ _) ?_));refine TK (s:={ s' with toks:=s'.toks+1 }) (intKind_is _ _ _ _) rfl hS' (by have:=firstMet_length_le f i;lia) fun h' sb q=>?_
  refine ZB ⟨ZBA PyProof.Rows.F.plain_set_update_loop _,Kp W ha f hf hb k (i+1) _ (by lia) Yr (W.frame _ s' _ _ st' (ZBV _) fun b hb' o e=>?_)
   (q.congr (fun k'=>by rw[firstMet_succ,step_any]) (by rw[firstMet_succ,step_length])) fun s'' hm2 hS2=>?_⟩
  ·rw[sb.2 b (fun z:b=a=>ha (by rw[<- z];exact hb'))];exact e
  ·refine hR s'' (Moved.trans W.gtrans ((hm.mono fun b hb=>ZW _ hb).then_heap (ZBV _) fun b o hb' e=>?_) hm2) hS2;rw[sb.2 b (fun z:b=a=>hb' (by rw[z];exact Zb))];exact e
theorem Nn:isSubtype (.type "tuple") (.type "set")=pure false:=by rw[isSubtype_type];kernel_rfl
theorem U1:isSubtype (.type "tuple") (.type "frozenset")=pure false:=by rw[isSubtype_type];kernel_rfl
theorem RY(v:Value){Q:Value->Shared->Prop}(h:Q (.ref s.heap.objs.size) { s with heap:=s.heap.push { cls:=.type "set",dict:=none,data:=.set #[] 0 (.fresh 0 0 (!w.params.followText "set-order")) } }) :
 codeAny (model P w) A (.call (.builtin "set.__new__") ⟨[.type "set",v],[]⟩) (wants Q E) s:=by
 refine codeAny_of_tree ?_;show wpAny _ A.in1 (do checkBuiltinCall "set.__new__" ⟨[.type "set",v],[]⟩;again (.builtin "set.__new__" ⟨[.type "set",v],[]⟩)) _ _ s;refine ZA (wpAny_of_eq (PySem.F.newCall_set_1 v) (ZB ⟨ZBA PySem.F.plain_set_new _,Z9 PySem.F.entry_set_new ?_⟩));rw[ZBE PySem.F.plain_set_new _];unfold Builtin.«set.__new__» Builtin.Frozenset.newClass;have hsub:=PySem.sub_set_self;obtain⟨hp,g,d,tk,os⟩:=s;dsimp only;wp_walk;refine wpAny_askSetting (ZB ?_);dsimp only;simp only[newObj];exact ZA (wpAny_alloc (ZB (ZB h)))
set_option maxHeartbeats 6400000 in
theorem Ou {l:Addr} {Yf:Array Value} {ns:List Int} {Q:Value->Shared->Prop} (hh:A.handled=none) (hl:s.heap.IsTuple l Yf) (hi:IntsAre Yf.toList ns) (hb:Yf.size+1 < scanBound)
 (fin:∀(h':Heap) (tk:Nat),Ew P w h' s.heap.objs.size (fun i=>ns.getD i 0) Yf.size->(∀b o,b < s.heap.objs.size->s.heap.get? b=some o->h'.get? b=some o)->Q (.ref s.heap.objs.size) { s with heap:=h',toks:=tk }) :
 wpAny (model P w) A (call (.type "set") [.ref l]) Q E s:=by
 obtain⟨c,tl,hmro⟩:=PySem.F.called_set.mro;have hmade:=PySem.F.called_set.made;have hsub:=PySem.F.called_set.sub;refine wpAny_call (codeAny_of_tree ?_);show wpAny _ _ (callAny (.type "set") _) _ _ _;refine ZB ⟨Code.quiet_builtin _ (by decide +kernel),Z9 PySem.F.entry_type_call ?_⟩;rw[Around.under_plain (weight_type_call_type "set" [.ref l] []) rfl];have k1:=PySem.F.called_set.notType;have k2:=PySem.F.called_set.canCreate;have k3:=PySem.F.typeCall_set_1 (.ref l)
 (repeat (any_goals (first | assumption | wp_step)));refine ZBF (RY (.ref l) (E:=E) (Q:=fun v s₁=>v=.ref s.heap.objs.size/\s₁ = { s with heap:=s.heap.push { cls:=.type "set",dict:=none,data:=.set #[] 0 (.fresh 0 0 (!w.params.followText "set-order")) } }) ⟨rfl,rfl⟩) fun r s₁ hr=>?_
 cases r with
 | error e=>exact hr
 | ok fl =>
  cases fl with
  | ret ob =>
   obtain⟨rfl,rfl⟩:=hr;generalize hled:(!w.params.followText "set-order")=led;have hS:(s.heap.push { cls:=.type "set",dict:=none,data:=.set #[] 0 (.fresh 0 0 led) }).get? s.heap.objs.size=some { cls:=.type "set",dict:=none,data:=.set #[] 0 (.fresh 0 0 led) }:=ZN _ rfl;have hT:Shared.TypeIs { s with heap:=s.heap.push { cls:=.type "set",dict:=none,data:=.set #[] 0 (.fresh 0 0 led) } } (.ref s.heap.objs.size) "set":=⟨_,hS,rfl⟩;have k4:=PySem.F.called_set.init.lookup;have k5:=PySem.F.called_set.init.bind (.ref s.heap.objs.size)
   (repeat (any_goals (first | assumption | wp_step)));refine ZBF (codeAny_call_builtin (R:=wants (fun r s₂=>r=.none/\∃h' tk,s₂ = { s with heap:=h',toks:=tk } /\ Ew P w h' s.heap.objs.size (fun i=>ns.getD i 0) Yf.size /\
    (∀b o,b < s.heap.objs.size->s.heap.get? b=some o->h'.get? b=some o)) E) PySem.F.called_set.init.plain PySem.F.entry_set_init (check_set_init_1 hT ?_)) fun r₂ s₂ hr₂=>?_
   ·obtain⟨ol,hol,hcl,nl,hdl⟩:=hl;obtain⟨ocls,odict,odata,oslots⟩:=ol;simp only at hcl hdl;subst hcl;subst hdl;have hol':(s.heap.push { cls:=.type "set",dict:=none,data:=.set #[] 0 (.fresh 0 0 led) }).get? l=some { cls:=.type "tuple",dict:=odict,data:=.seq Yf nl,slots:=oslots }:=ZF _ hol;have s1:=Nn;have s2:=U1;have s3:(Value.type "tuple" == Value.type "dict")=false:=by decide
    have hl1:(s.heap.push { cls:=.type "set",dict:=none,data:=.set #[] 0 (.fresh 0 0 led) }).IsTuple l Yf:=⟨_,hol',rfl,nl,rfl⟩;unfold Builtin.«set.__init__» noKeywords Builtin.Frozenset.updateFrom;generalize hPI:pyIter=PI
    wp_walk
    subst hPI;refine wpAny_pyIter_tuple hl1 (ZA (wpAny_runValue ?_))
    have hlS:l < s.heap.objs.size:=ZG hol;have z1:l≠(s.heap.push { cls:=.type "set",dict:=none,data:=.set #[] 0 (.fresh 0 0 led) }).objs.size:=by
     rw[Z1];exact(ZO (Nat.lt_succ_of_lt hlS))
    have z2:s.heap.objs.size∉[(s.heap.push { cls:=.type "set",dict:=none,data:=.set #[] 0 (.fresh 0 0 led) }).objs.size,l]:=by
     rw[Z1];simp only[ZH,ZI,List.not_mem_nil,or_false,not_or];exact⟨ZO (ZBO _),ZBN hlS⟩
    refine Kp ((Walks.tuple (A:=A.in1.in1.in1) (by simp[hh]) _ l z1 Yf).toS) z2 (fun i=>ns.getD i 0) (fun i v hv=>PyProof.Rows.IntsAre.int_at hi i v (by rw[ZBe];exact hv)) hb (Yf.size - 0) 0 _ (by lia) (ZP _)
     ⟨⟨_,ZN _ rfl,rfl,rfl⟩,(hl1.push _)⟩ ?b0 ?bR
    case b0 =>
     refine⟨_,#[],0,_,ZF _ hS,⟨rfl,rfl,rfl⟩,rfl,fun e he=>by simp at he,fun k=>by simp[firstMet],by decide,by rfl,rfl,?_⟩;rw[<- hled];exact SM w
    case bR =>
     intro s' hm hS';obtain⟨h',g',d',tk',os'⟩:=s';obtain rfl:g'=s.gens:=hm.gens;obtain rfl:d'=s.drawn:=hm.drawn;obtain rfl:os'=s.os:=hm.os;refine ZB ?_;show wpAny _ _ (ret Value.none) _ _ _;refine ZB ⟨rfl,h',tk',rfl,hS',fun b o hb e=>hm.heap b o ?_ (ZF _ (ZF _ e))⟩;rw[Z1];simp only[ZH,ZI,List.not_mem_nil,or_false,not_or];exact⟨ZO hb,ZO (Nat.lt_succ_of_lt hb)⟩
   ·cases r₂ with
    | error e=>exact hr₂
    | ok fl₂ =>
     cases fl₂ with
     | ret r =>
      obtain⟨rfl,h',tk,rfl,hS',hk'⟩:=hr₂;repeat (any_goals (first | assumption | wp_step))
      exact fin _ _ hS' hk'
     | _=>exact hr₂.elim
  | _=>exact hr.elim
end
namespace F
theorem slot_set_iterator_next:Slot "set_iterator" "__next__" "set_iterator.__next__" :=
 .of (owner:="set_iterator") (n:="__next__") (by rw[typeLookup_type,builtinLookup_eq_fast];kernel_rfl) (by decide +kernel) (by decide +kernel) (by decide +kernel) (by first | exact .inl (by decide +kernel) | exact .inr (by decide +kernel)) (by rw[isSubtype_type];kernel_rfl)
theorem slot_set_iterator_iter:Slot "set_iterator" "__iter__" "set_iterator.__iter__" :=
 .of (owner:="set_iterator") (n:="__iter__") (by rw[typeLookup_type,builtinLookup_eq_fast];kernel_rfl) (by decide +kernel) (by decide +kernel) (by decide +kernel) (by first | exact .inl (by decide +kernel) | exact .inr (by decide +kernel)) (by rw[isSubtype_type];kernel_rfl)
theorem entry_set_iterator_next:entryFor table "set_iterator.__next__" = some Builtin.«set_iterator.__next__»:=entryFor_of_tree (by kernel_rfl)
theorem entry_set_iterator_iter:entryFor table "set_iterator.__iter__" = some Builtin.«dict_keyiterator.__iter__»:=entryFor_alias (id':="dict_keyiterator.__iter__") (by kernel_rfl) (by first | rfl | decide +kernel | (unfold String.splitOn;simp +decide [String.splitOnAux])) (by decide +kernel) (by kernel_rfl)
theorem entry_set_iter:entryFor table "set.__iter__" = some Builtin.«frozenset.__iter__»:=entryFor_alias (id':="frozenset.__iter__") (by kernel_rfl) rfl (by decide +kernel) (by kernel_rfl)
theorem args_set_iterator_next(a:Value):argsOk "set_iterator.__next__" ⟨[a],[]⟩:=by unfold argsOk;kernel_rfl
theorem args_set_iterator_iter(a:Value):argsOk "set_iterator.__iter__" ⟨[a],[]⟩:=by unfold argsOk;kernel_rfl
end F
theorem UM{M:Model}{A:Around}{E:Value->Shared->Prop}{s:Shared}{src:Source}{n:Nat}{Q:Nat->Shared->Prop}(hn:n≠0)(h:∀i d,i < n->Q i { s with drawn:=d }):wpAny M A (choose src n) Q E s :=
 fun _ _ _=>⟨hn,h _ _ (Nat.mod_lt _ (Nat.pos_of_ne_zero hn))⟩
theorem J8{α:Type}{l:List α}{i:Nat}(h:i < l.length):(l[i]::l.eraseIdx i).Perm l:=by
 rw[List.eraseIdx_eq_take_drop_succ];have e:l=l.take i++l[i]::l.drop (i+1):=by rw[<- List.drop_eq_getElem_cons h,List.take_append_drop]
 exact List.perm_middle.symm.trans (e ▸ .rfl)
theorem L0{M:Model}{A:Around}{E:Value->Shared->Prop}{α:Type}:∀(n:Nat) (xs:List α) (s:Shared) (Q:List α->Shared->Prop),xs.length=n->(∀ys d,ys.Perm xs->Q ys { s with drawn:=d })->wpAny M A (drawOrder n xs) Q E s
 | 0,xs,s,Q,hl,h=>by
  obtain rfl:xs=[]:=List.length_eq_zero_iff.mp hl;unfold drawOrder;exact ZB (h [] s.drawn .nil)
 | n+1,[],s,Q,hl,h=>by cases hl
 | n+1,x0::r,s,Q,hl,h=>by
  unfold drawOrder;refine ZA (UM (by simp) fun i d hi=>?_);obtain⟨x,hx⟩:∃x,(x0::r)[i]? = some x:=⟨_,ZE hi⟩;rw[hx];dsimp only;refine ZA (L0 n _ _ _ (by rw[List.length_eraseIdx];simp only[hi,if_true];lia) fun ys d2 hp=>ZB ?_);refine h _ d2 ?_;have e:(x0::r)[i]=x:=by rw[ZE hi]at hx;exact ZS hx
  exact(List.Perm.cons x hp).trans (e ▸ J8 hi)
theorem KM{α:Type}(nx:Nat->Nat):∀(f k:Nat) (l:List α) (out:Array α),l.length=f->(pickOrder.go nx f k l out).toList.Perm (out.toList++l)
 | 0,k,l,out,hl=>by
  obtain rfl:l=[]:=List.length_eq_zero_iff.mp hl;unfold pickOrder.go;rw[Zj]
 | f+1,k,l,out,hl=>by
  unfold pickOrder.go;have hi:nx k % l.length < l.length:=Nat.mod_lt _ (by lia);rw[ZE hi];dsimp only;refine(KM nx f (k+1) _ _ (by rw[List.length_eraseIdx];simp only[hi,if_true];lia)).trans ?_;rw[Array.toList_push,List.append_assoc];exact List.Perm.append_left _ (J8 hi)
theorem IB{α:Type}(nx:Nat->Nat)(xs:Array α):(pickOrder nx xs).toList.Perm xs.toList:=by
 have:=KM nx xs.size 0 xs.toList #[] (by simp)
 rw[List.nil_append]at this;exact this
def IsSetIter(h:Heap)(I:Addr)(f:Value)(i:Nat)(a:Addr)(n ep:Nat):Prop:=∃o,h.get? I=some o/\o.cls=.type "set_iterator" /\ o.data=.fields #[f,.int i 0,.ref a,.int n 0,.int ep 0]
theorem IsSetIter.typeIs{s:Shared}{I a:Addr}{f:Value}{i n ep:Nat}(x:IsSetIter s.heap I f i a n ep):s.TypeIs (.ref I) "set_iterator":=let ⟨o,ho,hc,_⟩:=x;⟨o,ho,hc⟩
theorem IsSetIter.at{h h':Heap}{I a:Addr}{f:Value}{i n ep:Nat}(x:IsSetIter h I f i a n ep)(e:∀o,h.get? I=some o->h'.get? I=some o):IsSetIter h' I f i a n ep:=let ⟨o,ho,r⟩:=x;⟨o,e _ ho,r⟩
section
variable {P:Program}{w:World}{A:Around}{E:Value->Shared->Prop}{s:Shared}{a I:Addr}
theorem Fj{h:Heap}{o:Obj}{vs:Array Value}(ho:h.get? I=some o)(hd:o.data=.fields vs)(k:Nat)(x:Value):∃o',(h.update I (Obj.mapFields (·.setIfInBounds k x))).get? I=some o'/\o'.cls=o.cls/\o'.data=.fields (vs.setIfInBounds k x) :=
 ⟨_,ZBG _ ho (Obj.isFreed_of_fields (Obj.data_mapFields hd _)),Obj.cls_mapFields ..,Obj.data_mapFields hd _⟩
theorem Kd {o:Obj} {es:Array (Int × Value)} {ep i slot nx:Nat} {t:SetTable} {x:Value} {Q:Option Value->Shared->Prop} (hit:IsSetIter s.heap I (.int slot 0) i a es.size ep) (h1:s.heap.get? a=some o) (h3:o.data=.set es ep t) (h7:t.fits es.size=true)
 (hn:∀(A:Around) (E:Value->Shared->Prop) (Q:Option (Value × Nat)->Shared->Prop),Q (some (x,nx)) s->wpAny (model P w) A (setNext a slot i ep) Q E s)
 (hQ:∀h',IsSetIter h' I (.int nx 0) (i+1) a es.size ep->Heap.SameBut I s.heap h'->Q (some x) { s with heap:=h' }):wpAny (model P w) A (pyNext (.ref I)) Q E s:=by
 obtain⟨oi,ho,hc,hd⟩:=id hit;unfold pyNext;refine ZA (wpAny_attempt (wpAny_callSpecial?_slot (name:=Str.ofString "__next__") hit.typeIs F.slot_set_iterator_next (Zx F.slot_set_iterator_next hit.typeIs F.entry_set_iterator_next ?_ (F.args_set_iterator_next _))));show wpAny _ _ (fieldsOf (.ref I) >>= _) _ _ s;refine ZA (wpAny_fieldsOf ho hd ?_);dsimp only;refine ZA (wpAny_setEntries_of h1 h3 h7 ?_);refine Zz (fun hab=>absurd hab (by simp)) (fun _=>?_);refine ZA (hn _ _ _ ?_);dsimp only;obtain⟨o1,ho1,hc1,hd1⟩:=Fj ho hd 0 (rawInt nx);refine ZA (ZBI ho hd (by simp) (ZA (ZBI ho1 hd1 (by simp) (ZB ⟨x,rfl,ZB (hQ _ ?_ ((Z3 ..).trans (Z3 ..)))⟩))));obtain⟨o2,ho2,hc2,hd2⟩:=Fj ho1 hd1 1 (rawInt (i+1));exact⟨o2,ho2,hc2.trans (hc1.trans hc),by rw[hd2];simp[rawInt]⟩
theorem Lw {o:Obj} {es:Array (Int × Value)} {ep i slot:Nat} {t:SetTable} {Q:Option Value->Shared->Prop} (hh:A.handled=none) (hit:IsSetIter s.heap I (.int slot 0) i a es.size ep) (h1:s.heap.get? a=some o) (h3:o.data=.set es ep t) (h7:t.fits es.size=true)
 (hn:∀(A:Around) (E:Value->Shared->Prop) (Q:Option (Value × Nat)->Shared->Prop),Q none s->wpAny (model P w) A (setNext a slot i ep) Q E s)
 (hQ:∀h',Heap.ExtBut I s.heap h'->Q none { s with heap:=h' }):wpAny (model P w) A (pyNext (.ref I)) Q E s:=by
 obtain⟨oi,ho,hc,hd⟩:=id hit;unfold pyNext;refine ZA (wpAny_attempt (wpAny_callSpecial?_slot (name:=Str.ofString "__next__") hit.typeIs F.slot_set_iterator_next (Zx F.slot_set_iterator_next hit.typeIs F.entry_set_iterator_next ?_ (F.args_set_iterator_next _))));show wpAny _ _ (fieldsOf (.ref I) >>= _) _ _ s;refine ZA (wpAny_fieldsOf ho hd ?_);dsimp only;refine ZA (wpAny_setEntries_of h1 h3 h7 ?_);refine Zz (fun hab=>absurd hab (by simp)) (fun _=>?_);refine ZA (hn _ _ _ ?_);dsimp only;refine ZA (ZBI ho hd (by simp) ?_);show wpAny _ _ (newExc (.type "StopIteration") [] >>= _) _ _ _;refine ZA ?_;simp only[newExc,newTuple];refine ZA (Zn (ZA (m:=firstArgMember _ _) (wpAny_of_eq (a:=Value.none) (by first | rfl | (simp only[firstArgMember];rfl)) (Zn ?_ (by size_fits)))) (by size_fits));simp only[raiseNew];refine ZA (wpAny_handled ?_);first | rw[show A.in1.handled=none from hh] | rw[hh]
 refine ZA (ZB (wpAny_throw ?st));refine ZA (wpAny_isInstance (T:="StopIteration") (b:=true) ⟨_,ZN _ rfl,rfl⟩ isSubtype_stop ?_);exact ZB (hQ _ ((((Z3 ..)).extBut.push _).push _))
theorem O4 {o ot:Obj} {es:Array (Int × Value)} {ep i tp nt:Nat} {t:SetTable} {ps:Array Value} {p:Nat} {x:Int × Value} {Q:Option Value->Shared->Prop} (hit:IsSetIter s.heap I (.ref tp) i a es.size ep) (h1:s.heap.get? a=some o) (h3:o.data=.set es ep t) (h7:t.fits es.size=true)
 (ht:s.heap.get? tp=some ot) (hdt:ot.data=.seq ps nt) (hp:ps[i]? = some (.int p 0)) (hx:es[p]? = some x)
 (hQ:∀h',IsSetIter h' I (.ref tp) (i+1) a es.size ep->Heap.SameBut I s.heap h'->Q (some x.2) { s with heap:=h' }):wpAny (model P w) A (pyNext (.ref I)) Q E s:=by
 obtain⟨oi,ho,hc,hd⟩:=id hit;unfold pyNext;refine ZA (wpAny_attempt (wpAny_callSpecial?_slot (name:=Str.ofString "__next__") hit.typeIs F.slot_set_iterator_next (Zx F.slot_set_iterator_next hit.typeIs F.entry_set_iterator_next ?_ (F.args_set_iterator_next _))));show wpAny _ _ (fieldsOf (.ref I) >>= _) _ _ s;refine ZA (wpAny_fieldsOf ho hd ?_);dsimp only;refine ZA (wpAny_setEntries_of h1 h3 h7 ?_);refine Zz (fun hab=>absurd hab (by simp)) (fun _=>?_);refine ZA (wpAny_seqItems ht hdt ?_);simp only[Zm,hp];unfold setNextDrawn;refine ZA (ZA (wpAny_setState_of h1 h3 h7 ?_));dsimp only;refine Zz (fun hab=>absurd hab (by simp)) (fun _=>?_);rw[hx];refine ZB (ZA (ZBI ho hd (by simp) (ZB ⟨x.2,rfl,ZB (hQ _ ?_ (Z3 ..))⟩)));obtain⟨o2,ho2,hc2,hd2⟩:=Fj ho hd 1 (rawInt (i+1));exact⟨o2,ho2,hc2.trans hc,by rw[hd2];simp[rawInt]⟩
theorem QY {o ot:Obj} {es:Array (Int × Value)} {ep i tp nt:Nat} {t:SetTable} {ps:Array Value} {Q:Option Value->Shared->Prop} (hh:A.handled=none) (hit:IsSetIter s.heap I (.ref tp) i a es.size ep) (h1:s.heap.get? a=some o) (h3:o.data=.set es ep t) (h7:t.fits es.size=true)
 (ht:s.heap.get? tp=some ot) (hdt:ot.data=.seq ps nt) (hp:ps[i]? = none)
 (hQ:∀h',Heap.ExtBut I s.heap h'->Q none { s with heap:=h' }):wpAny (model P w) A (pyNext (.ref I)) Q E s:=by
 obtain⟨oi,ho,hc,hd⟩:=id hit;unfold pyNext;refine ZA (wpAny_attempt (wpAny_callSpecial?_slot (name:=Str.ofString "__next__") hit.typeIs F.slot_set_iterator_next (Zx F.slot_set_iterator_next hit.typeIs F.entry_set_iterator_next ?_ (F.args_set_iterator_next _))));show wpAny _ _ (fieldsOf (.ref I) >>= _) _ _ s;refine ZA (wpAny_fieldsOf ho hd ?_);dsimp only;refine ZA (wpAny_setEntries_of h1 h3 h7 ?_);refine Zz (fun hab=>absurd hab (by simp)) (fun _=>?_);refine ZA (wpAny_seqItems ht hdt ?_);simp only[Zm,hp];obtain⟨o1,ho1,hc1,hd1⟩:=Fj ho hd 0 (rawInt 0);refine ZA (ZBI ho hd (by simp) (ZA (ZBI ho1 hd1 (by simp) ?_)));show wpAny _ _ (newExc (.type "StopIteration") [] >>= _) _ _ _;refine ZA ?_;simp only[newExc,newTuple];refine ZA (Zn (ZA (m:=firstArgMember _ _) (wpAny_of_eq (a:=Value.none) (by first | rfl | (simp only[firstArgMember];rfl)) (Zn ?_ (by size_fits)))) (by size_fits));simp only[raiseNew];refine ZA (wpAny_handled ?_);first | rw[show A.in1.handled=none from hh] | rw[hh]
 refine ZA (ZB (wpAny_throw ?st));refine ZA (wpAny_isInstance (T:="StopIteration") (b:=true) ⟨_,ZN _ rfl,rfl⟩ isSubtype_stop ?_);exact ZB (hQ _ ((((Z3 ..).trans (Z3 ..)).extBut.push _).push _))
theorem JL{f:Value}{i n ep:Nat}{Q:Value->Shared->Prop}(hit:IsSetIter s.heap I f i a n ep)(h:Q (.ref I) s):wpAny (model P w) A (pyIter (.ref I)) Q E s:=by
 refine wpAny_pyIter_slot hit.typeIs F.slot_set_iterator_iter (Zx F.slot_set_iterator_iter hit.typeIs F.entry_set_iterator_iter ?_ (F.args_set_iterator_iter _));show wpAny _ _ (ret (.ref I)) _ _ s;exact ZB ⟨_,rfl,"set_iterator",_,hit.typeIs,F.slot_set_iterator_next.lookup,h⟩
end
section
variable {P:Program}{w:World}{A:Around}{E:Value->Shared->Prop}{s:Shared}{a I:Addr}
theorem NL{l:List (Int × Value)}(h:ElemsOf (intKind P w) l){e:Int × Value}(he:e∈l):∃t,e.2=.int (numOf e.2) t:=by
 obtain⟨⟨k,hk,_⟩,_⟩:=h e he;obtain⟨t,et⟩:=Value.isInt_shape (show Value.isInt k e.2=true from hk);exact⟨t,by rw[et];rfl⟩
theorem Ik{l:List (Int × Value)}(h:ElemsOf (intKind P w) l)(k:Int):k∈l.map (fun(e:Int × Value)=>numOf e.2) ↔ ∃e∈l,(intKind P w).is k e.2=true:=by
 rw[ZK];constructor
 ·rintro⟨e,he,rfl⟩;obtain⟨t,et⟩:=NL h he;exact⟨e,he,by rw[et];exact intKind_is _ _ _ _⟩
 ·rintro⟨e,he,hk⟩;obtain⟨t,et⟩:=Value.isInt_shape (show Value.isInt k e.2=true from hk);exact⟨e,he,by rw[et];rfl⟩
theorem FW{Q:Bool->Shared->Prop}(h:Q (w.params.followText "set-order") s):wpAny (model P w) A setsByText Q E s:=by
 unfold setsByText;exact ZA (wpAny_askSetting (ZB h))
theorem Jx {o:Obj} {es:Array (Int × Value)} {ep i:Nat} {t:SetTable} (hx:w.params.followText "set-order" = true) (h1:s.heap.get? a=some o) (h3:o.data=.set es ep t) (h7:t.fits es.size=true) {Q:Option (Value × Nat)->Shared->Prop}
 (h:Q (((pickOrder (w.params.setOrder a ep) es)[i]?).map fun e=>(e.2,0)) s):wpAny (model P w) A (setNext a 0 i ep) Q E s:=by
 unfold setNext;refine ZA (wpAny_setState_of h1 h3 h7 ?_);dsimp only;refine ZA (FW ?_);rw[hx];simp only[↓reduceIte];refine Zz (fun hab=>absurd hab (by simp)) (fun _=>?_);unfold setWalk;refine ZA (ZA (wpAny_setState_of h1 h3 h7 ?_));dsimp only;refine ZA (FW ?_);rw[hx];simp only[↓reduceIte];exact ZA (wpAny_askSetting (ZB (ZB h)))
theorem NM {o:Obj} {es:Array (Int × Value)} {ep i sl:Nat} {t:SetTable} (hx:w.params.followText "set-order" = false) (h1:s.heap.get? a=some o) (h3:o.data=.set es ep t) (h7:t.fits es.size=true) (hl:t.led=true) (hd:(!t.plain && decide (es.size > 1))=false)
 {k:Nat} (hk:SetTable.below t.place sl=k) {Q:Option (Value × Nat)->Shared->Prop}
 (h:Q (match es[k]?,t.place[k]? with | some (_,x),some j=>some (x,j+1) | _,_=>none) s):wpAny (model P w) A (setNext a sl i ep) Q E s:=by
 unfold setNext;refine ZA (wpAny_setState_of h1 h3 h7 ?_);dsimp only;refine ZA (FW ?_);rw[hx];refine Zz (fun hab=>absurd hab (by simp)) (fun _=>?_);refine Zz (fun hab=>absurd (show(!t.plain && decide (es.size > 1))=true from hab) (by rw[hd];simp)) (fun _=>?_);refine ZA ?_;show wpAny _ _ (if (!t.led && !es.isEmpty)=true then unsupported "set:maker-not-led" else pure ()) _ _ _;refine Zz (fun hab=>absurd hab (by rw[hl];simp)) (fun _=>ZB ?_);subst hk;exact ZB h
def GC(L:List (Int × Value))(i:Nat)(v:Value):Prop:=∃t,v=.int ((L.map fun(e:Int × Value)=>numOf e.2).getD i 0) t
theorem JY{L:List (Int × Value)}(h:ElemsOf (intKind P w) L){i:Nat}{e:Int × Value}(he:L[i]? = some e):GC L i e.2:=by
 obtain⟨t,et⟩:=NL h (Zo he);refine⟨t,?_⟩;rw[ZV,ZT,he];exact et
theorem WI{o:Obj}{es:Array (Int × Value)}{ep:Nat}{t:SetTable}(hh:A.handled=none)(Yw:a≠I)(hx:w.params.followText "set-order" = true)(h3:o.data=.set es ep t)(h4:ElemsOf (intKind P w) es.toList)(h7:t.fits es.size=true) :
 Walks P w A I [I,a] [I] es.size (GC (pickOrder (w.params.setOrder a ep) es).toList) (fun i h=>IsSetIter h I (.int 0 0) i a es.size ep/\h.get? a=some o) where
 sub:=fun b hb=>by simp at hb;simp[hb]
 frame:=fun _ _ _ st hk=>⟨st.1.at fun o e=>hk I (by simp) o e,hk a (by simp) _ st.2⟩
 item:=fun i s Q E hi st hQ=>by
  have pm:=IB (w.params.setOrder a ep) es;have hl:i < (pickOrder (w.params.setOrder a ep) es).size:=by rw[<- Zh,pm.length_eq,Zh];exact hi
  refine Kd (slot:=0) (nx:=0) (x:=(pickOrder (w.params.setOrder a ep) es)[i].2) st.1 st.2 h3 h7 (fun A E Q q=>Jx hx st.2 h3 h7 (by rw[ZBX hl];exact q)) fun h' hit' sb=>?_
  exact hQ _ h' s.toks (JY (h4.perm pm) (by rw[ZBe,ZBX hl])) ⟨hit',(sb.2 a Yw).trans st.2⟩ fun b o hb e=>sb.extBut b o (fun h=>hb (by simp[h])) e
 done:=fun s Q E st hQ=>by
  have pm:=IB (w.params.setOrder a ep) es;refine Lw (slot:=0) hh st.1 st.2 h3 h7 (fun A E Q q=>Jx hx st.2 h3 h7 ?_) fun h' he'=>hQ h' s.toks fun b o hb e=>he' b o (fun h=>hb (by simp[h])) e
  rw[Array.getElem?_eq_none (by rw[<- Zh,pm.length_eq,Zh];exact ZD _)];exact q
 self:=fun _ _ _ _ st hQ=>JL st.1 hQ
def Fe(t:SetTable)(i:Nat):Nat:=match i with | 0=>0 | k+1=>t.place.getD k 0+1
theorem Le{t:SetTable}(g:Ris t.place){i:Nat}(h:i<=t.place.size):SetTable.below t.place (Fe t i)=i:=by
 cases i with
 | zero=>exact QT g
 | succ k=>exact Qm g h
theorem Ow{o:Obj}{es:Array (Int × Value)}{ep:Nat}{t:SetTable}(hh:A.handled=none)(Yw:a≠I)(hx:w.params.followText "set-order" = false)(hd:(!t.plain && decide (es.size > 1))=false)(h3:o.data=.set es ep t)(h4:ElemsOf (intKind P w) es.toList)(h7:t.fits es.size=true)(g:TabG w t) :
 Walks P w A I [I,a] [I] es.size (GC es.toList) (fun i h=>IsSetIter h I (.int (Fe t i) 0) i a es.size ep/\h.get? a=some o) where
 sub:=fun b hb=>by simp at hb;simp[hb]
 frame:=fun _ _ _ st hk=>⟨st.1.at fun o e=>hk I (by simp) o e,hk a (by simp) _ st.2⟩
 item:=fun i s Q E hi st hQ=>by
  have hz:t.place.size=es.size:=by have:=h7;unfold SetTable.fits at this;simp at this;exact this.1
  have hl:t.led=true:=by rw[g.led,hx];rfl
  refine Kd (nx:=Fe t (i+1)) (x:=es[i].2) st.1 st.2 h3 h7 (fun A E Q q=>NM hx st.2 h3 h7 hl hd (Le g.ris (by lia)) ?_) fun h' hit' sb=>?_
  ·rw[ZBX hi,ZBX (show i < t.place.size by lia)];have e:Fe t (i+1)=t.place[i]+1:=by show t.place.getD i 0+1=_;simp[Array.getD,show i < t.place.size by lia]
   rw[e]at q;exact q
  ·exact hQ _ h' s.toks (JY h4 (by rw[ZBe,ZBX hi])) ⟨hit',(sb.2 a Yw).trans st.2⟩ fun b o hb e=>sb.extBut b o (fun h=>hb (by simp[h])) e
 done:=fun s Q E st hQ=>by
  have hz:t.place.size=es.size:=by have:=h7;unfold SetTable.fits at this;simp at this;exact this.1
  have hl:t.led=true:=by rw[g.led,hx];rfl
  refine Lw hh st.1 st.2 h3 h7 (fun A E Q q=>NM hx st.2 h3 h7 hl hd (Le g.ris (by lia)) ?_) fun h' he'=>hQ h' s.toks fun b o hb e=>he' b o (fun h=>hb (by simp[h])) e
  rw[Array.getElem?_eq_none (ZD _)];exact q
 self:=fun _ _ _ _ st hQ=>JL st.1 hQ
theorem MC{α:Type}(es:Array α):∀(l:List Nat),(∀x∈l,x < es.size)->∀i:Nat,(l.filterMap (es[·]?))[i]? = (l[i]?).bind (es[·]?)
 | [],_,i=>by simp
 | x::r,hx,i=>by
  have hx0:x < es.size:=hx x Zb;rw[ZBb,ZBX hx0];cases i with
  | zero=>simp[hx0]
  | succ j=>simpa using MC es r (fun y hy=>hx y (ZW _ hy)) j
theorem Qc {o ot:Obj} {es:Array (Int × Value)} {ep tp nt:Nat} {t:SetTable} {ps:List Nat} (hh:A.handled=none) (Yw:a≠I) (hnt:tp≠I) (h3:o.data=.set es ep t) (h4:ElemsOf (intKind P w) es.toList) (h7:t.fits es.size=true)
 (hdt:ot.data=.seq (ps.map fun(i:Nat)=>rawInt i).toArray nt) (hp:ps.Perm (List.range es.size)) :
 Walks P w A I [I,a,tp] [I] es.size (GC (ps.filterMap (es[·]?))) (fun i h=>IsSetIter h I (.ref tp) i a es.size ep/\h.get? a=some o/\h.get? tp=some ot) where
 sub:=fun b hb=>by simp at hb;simp[hb]
 frame:=fun _ _ _ st hk=>⟨st.1.at fun o e=>hk I (by simp) o e,hk a (by simp) _ st.2.1,hk tp (by simp) _ st.2.2⟩
 item:=fun i s Q E hi st hQ=>by
  have hl:ps.length=es.size:=by rw[hp.length_eq,ZBB]
  have hi':i < ps.length:=by lia
  have hpi:ps[i] < es.size:=Zl.mp (hp.mem_iff.mp (Zk hi'));have pm:(ps.filterMap (es[·]?)).Perm es.toList:=(hp.filterMap _).trans (by rw[filterMap_getElem?_range]);refine O4 (p:=ps[i]) (x:=es[ps[i]]) st.1 st.2.1 h3 h7 st.2.2 hdt (by simp[hi',rawInt]) (ZBX hpi) fun h' hit' sb=>?_
  exact hQ _ h' s.toks (JY (h4.perm pm) (by rw[MC es ps (fun x hx=>Zl.mp (hp.mem_iff.mp hx)) i,ZE hi'];exact ZBX hpi)) ⟨hit',(sb.2 a Yw).trans st.2.1,(sb.2 tp hnt).trans st.2.2⟩ fun b o hb e=>sb.extBut b o (fun h=>hb (by simp[h])) e
 done:=fun s Q E st hQ=>by
  have hl:ps.length=es.size:=by rw[hp.length_eq,ZBB]
  exact QY hh st.1 st.2.1 h3 h7 st.2.2 hdt (by simp[hl]) fun h' he'=>hQ h' s.toks fun b o hb e=>he' b o (fun h=>hb (by simp[h])) e
 self:=fun _ _ _ _ st hQ=>JL st.1 hQ
theorem Tf {S:Int->Bool} {n:Nat} {Q:Value->Shared->Prop} (hS:SetW P w s.heap a S n)
 (fin:∀(h':Heap) d (I:Addr) (fp:List Addr) (St:Nat->Heap->Prop) (ms:List Int),ms.length=n->(∀k,k∈ms ↔ S k=true)->(∀b o,s.heap.get? b=some o->h'.get? b=some o)->s.heap.objs.size<=I->(∀b∈fp,b=a\/s.heap.objs.size<=b) ->
   (∀A:Around,A.handled=none->Walks P w A I fp [I] n (fun i v=>∃t,v=.int (ms.getD i 0) t) St)->St 0 h'->Q (.ref I) { s with heap:=h',drawn:=d }):wpAny (model P w) A (pyIter (.ref a)) Q E s:=by
 obtain⟨o,es,ep,t,h1,h2,h3,h4,h5,h6,h7,h8,g⟩:=hS;have hT:s.TypeIs (.ref a) "set":=⟨o,h1,h2.1⟩;have Yr:=ZG h1;subst h8;refine wpAny_pyIter_slot hT PySem.F.slot_set_iter (Zx PySem.F.slot_set_iter hT F.entry_set_iter ?_ (PySem.F.args_set_iter_1 _));show wpAny _ _ (Builtin.Frozenset.sizeOf a >>= _) _ _ s;refine ZA (ZA (wpAny_setEntries_of h1 h3 h7 (ZB ?_)));show wpAny _ _ (setDrawn a >>= _) _ _ s;unfold setDrawn;refine ZA (ZA (wpAny_setState_of h1 h3 h7 ?_));dsimp only;refine ZA (FW (ZB ?_));cases hx:w.params.followText "set-order" with
 | true =>
  refine Zz (fun hab=>absurd hab (by simp)) (fun _=>?_);refine ZA (ZB (ZA (wpAny_setEpoch_of h1 h3 h7 ?_)));have pm:=IB (w.params.setOrder a ep) es;refine ZA (Zn (ZB ⟨_,rfl,"set_iterator",_,⟨_,ZN _ rfl,rfl⟩,F.slot_set_iterator_next.lookup,?_⟩))
  refine fin _ s.drawn s.heap.objs.size [s.heap.objs.size,a] _ ((pickOrder (w.params.setOrder a ep) es).toList.map fun(e:Int × Value)=>numOf e.2) (by rw[ZC,pm.length_eq,Zh]) (fun k=>by rw[Ik (h4.perm pm),h5 k];exact⟨fun⟨e,x,y⟩=>⟨e,pm.mem_iff.mp x,y⟩,fun⟨e,x,y⟩=>⟨e,pm.mem_iff.mpr x,y⟩⟩) (fun b o e=>ZF _ e) (ZD _)
   (fun b hb=>by simp at hb;rcases hb with rfl | rfl <;> simp) (fun A hh=>WI hh (ZO Yr) hx h3 h4 h7) ⟨⟨_,ZN _ rfl,rfl,rfl⟩,ZF _ h1⟩
 | false =>
  by_cases hd:(!t.plain && decide (es.size > 1))=true
  ·refine Zz (fun _=>?_) (fun hab=>absurd (show(!false && (!t.plain && decide (es.size > 1)))=true by rw[hd];rfl) hab);refine ZA (L0 es.size (List.range es.size) _ _ (by simp) fun ps d hp=>?_);refine ZA (wpAny_newTuple ?_ (by rw[ZC,hp.length_eq,ZBB];exact fits_of_scanBound h6));refine ZA (wpAny_setEpoch_of (ZF _ h1) h3 h7 ?_);have pm:(ps.filterMap (es[·]?)).Perm es.toList:=(hp.filterMap _).trans (by rw[filterMap_getElem?_range]);refine ZA (Zn (ZB ⟨_,rfl,"set_iterator",_,⟨_,ZN _ rfl,rfl⟩,F.slot_set_iterator_next.lookup,?_⟩))
   refine fin _ d (s.heap.push { cls:=.type "tuple",data:=.seq (ps.map fun(i:Nat)=>rawInt i).toArray }).objs.size [(s.heap.push { cls:=.type "tuple",data:=.seq (ps.map fun(i:Nat)=>rawInt i).toArray }).objs.size,a,s.heap.objs.size] _ ((ps.filterMap (es[·]?)).map fun(e:Int × Value)=>numOf e.2) (by rw[ZC,pm.length_eq,Zh])
    (fun k=>by rw[Ik (h4.perm pm),h5 k];exact⟨fun⟨e,x,y⟩=>⟨e,pm.mem_iff.mp x,y⟩,fun⟨e,x,y⟩=>⟨e,pm.mem_iff.mpr x,y⟩⟩) (fun b o e=>ZF _ (ZF _ e)) (by rw[Z1];exact ZBV _)
    (fun b hb=>by rw[Z1]at hb;simp at hb;rcases hb with rfl | rfl | rfl <;> simp) (fun A hh=>Qc hh (by rw[Z1];exact ZO (Nat.lt_succ_of_lt Yr)) (by rw[Z1];exact ZO (ZBO _)) h3 h4 h7 rfl hp)
    ⟨⟨_,ZN _ rfl,rfl,rfl⟩,ZF _ (ZF _ h1),ZF _ (ZN _ rfl)⟩
  ·have hd':(!t.plain && decide (es.size > 1))=false:=by simpa using hd
   refine Zz (fun hab=>absurd (show(!t.plain && decide (es.size > 1))=true from hab) (by rw[hd'];simp)) (fun _=>?_);refine ZA (ZB (ZA (wpAny_setEpoch_of h1 h3 h7 ?_)));refine ZA (Zn (ZB ⟨_,rfl,"set_iterator",_,⟨_,ZN _ rfl,rfl⟩,F.slot_set_iterator_next.lookup,?_⟩))
   refine fin _ s.drawn s.heap.objs.size [s.heap.objs.size,a] _ (es.toList.map fun(e:Int × Value)=>numOf e.2) (by rw[ZC,Zh]) (fun k=>by rw[Ik h4,h5 k]) (fun b o e=>ZF _ e) (ZD _)
    (fun b hb=>by simp at hb;rcases hb with rfl | rfl <;> simp) (fun A hh=>Ow hh (ZO Yr) hx hd' h3 h4 h7 g) ⟨⟨_,ZN _ rfl,rfl,rfl⟩,ZF _ h1⟩
end
end L2
namespace L2
open PySem PySem.Spec PyProof.Rows PySem.W PySem.Calls
section
variable {P:Program}{w:World}{A:Around}{E:Value->Shared->Prop}{s:Shared}{a I:Addr}
theorem Tn{Q:Bool->Shared->Prop}(hT:s.TypeIs (.ref a) "set")(h:Q false s):wpAny (model P w) A (Builtin.List.listLengthHint (.ref a)) Q E s:=by
 unfold Builtin.List.listLengthHint;refine ZA (wpAny_specialOf hT PySem.F.slot_set_len.lookup ?_);generalize hid:("set.__len__" : String)=id0
 wp_delta
 rw[show splitId id0=some ("set","__len__") from by subst hid;decide +kernel];subst hid;refine ZA (wpAny_isInstance (T:="set") (b:=true) hT (by rw[isSubtype_type];kernel_rfl) ?_);refine Zz (fun hab=>absurd hab (by decide)) (fun _=>Zz (fun _=>ZA (wpAny_typeOf hT (ZB h))) (fun hab=>absurd (by decide +kernel) hab))
theorem QB {R:Result->Shared->Prop} {S:Int->Bool} {n:Nat} {l:Addr} {c0:Nat} (hh:A.handled=none) (hS:SetW P w s.heap a S n) (hn:n<=sizeLine) (hl:s.heap.get? l=some { cls:=.type "list",data:=.seq #[] c0 }) (res:Value)
 (fin:∀(h':Heap) d tk (Yo:Array Value) (c:Nat) (ms:List Int),ms.length=n->(∀k,k∈ms ↔ S k=true)->(∀b o,b≠l->s.heap.get? b=some o->h'.get? b=some o)->h'.get? l=some { cls:=.type "list",dict:=none,data:=.seq Yo c,slots:=#[] } ->
   ItemsOf (fun i v=>∃t,v=.int (ms.getD i 0) t) Yo n->R (.ok (.ret res)) { s with heap:=h',drawn:=d,toks:=tk }) :
 wpAny (model P w) A.in1 (Builtin.List.listExtendWith (.ref l) (.ref a) res)
  (fun fin s'=>match fin with | .done f=>R (.ok f) s' | .again c'=>c'.quiet=true/\codeAny (model P w) A c' R s') (fun e s'=>R (.error e) s') s:=by
 have hT:s.TypeIs (.ref a) "set":=hS.of.typeIs
 have hla:l≠a:=fun e=>by
  obtain⟨o,es,ep,t,h1,h2,_⟩:=hS;rw[<- e,hl]at h1;cases h1;exact absurd h2.1 (show ¬(Value.type "list" = Value.type "set") by decide)
 unfold Builtin.List.listExtendWith;refine ZA (wpAny_typeOf (T:="set") hT ?_);have e1:Builtin.List.listSameRef (.ref l) (.ref a)=false:=by simp[Builtin.List.listSameRef,hla]
 have e2:(Value.type "set" == Value.type "list")=false:=by decide
 have e3:(Value.type "set" == Value.type "tuple")=false:=by decide
 simp only[e1,e2,e3,Bool.or_false,ZB4,if_false];refine ZA (Tf hS fun h1 d I fp St ms hm1 hm2 hk hI hfp W st=>?_)
 have hlf:l∉fp:=fun z=>by
  rcases hfp l z with q | q
  ·exact hla q
  ·exact absurd (ZG hl) (Nat.not_lt.mpr q)
 have key:∀(h2:Heap) (c1 tk:Nat),St 0 h2->(∀b o,b≠l->s.heap.get? b=some o->h2.get? b=some o)->h2.get? l=some { cls:=.type "list",data:=.seq #[] c1 } ->
  codeAny (model P w) A (.builtin "list.extend.loop" ⟨[.ref l,.ref I,res],[]⟩) R { s with heap:=h2,drawn:=d,toks:=tk }:=fun h2 c1 tk st2 hk2 hl2=>by
  refine codeAny_extend_loopS (W A.in1 hh).toS hn l hlf res n 0 _ #[] c1 rfl (ZP _) st2 hl2 (ItemsOf.nil _) fun s' Yo c hm hs' hacc=>?_
  rw[Moved.eq_with hm];refine fin s'.heap d s'.toks Yo c ms hm1 hm2 (fun b o hb e=>hm.heap b o (fun z=>?_) (hk2 b o hb e)) hs' hacc
  rcases ZH.mp z with q | q
  ·exact hb q
  ·rw[ZI]at q;exact absurd (ZG e) (by rw[q];exact Nat.not_lt.mpr hI)
 have hl1:=hk _ _ hl;refine ZA (Zc (Tn (SetW.of (hS.at fun o e=>hk _ _ e)).typeIs ?_));refine Zz (fun _=>?_) (fun _=>ZB ⟨ZBA PySem.F.plain_extend_loop _,key _ c0 _ st (fun b o _ e=>hk b o e) hl1⟩);refine ZA (wpAny_rule (ZA ?_));show wpAny _ _ (updateSeq l (·.push .none) >>= fun _=>updateSeq l (·.pop)) _ _ _;have g1:=ZBG (Obj.mapSeq (·.push Value.none)) hl1 rfl;have g2:=ZBG (Obj.mapSeq (·.pop)) g1 rfl;refine ZA (wpAny_updateSeq hl1 rfl (wpAny_updateSeq (hz:=by seq_fits) g1 rfl (ZB ⟨ZBA PySem.F.plain_extend_loop _,key _ _ _ ?_ (fun b o hb e=>?_) g2⟩)))
 ·refine(W A hh).frame 0 _ _ st fun b hb o e=>?_
  have hbl:b≠l:=fun h=>hlf (h ▸ hb)
  exact(Zu _ _ (Ne.symm hbl)).trans ((Zu _ _ (Ne.symm hbl)).trans e)
 ·exact(Zu _ _ (Ne.symm hb)).trans ((Zu _ _ (Ne.symm hb)).trans (hk b o e))
theorem Wv {S:Int->Bool} {n:Nat} {R:List Value->Shared->Prop} (hh:A.handled=none) (hS:SetW P w s.heap a S n) (hn:n<=sizeLine)
 (fin:∀(h':Heap) d tk (Yo:Array Value) (ms:List Int),ms.length=n->(∀k,k∈ms ↔ S k=true)->(∀b o,s.heap.get? b=some o->h'.get? b=some o)->s.heap.objs.size < h'.objs.size->ItemsOf (fun i v=>∃t,v=.int (ms.getD i 0) t) Yo n->R Yo.toList { s with heap:=h',drawn:=d,toks:=tk }) :
 wpAny (model P w) A (collect (.ref a)) R E s:=by
 unfold collect;refine ZA (wpAny_runValue (Z9 entry_proto_collect' ?_));rw[ZBE PySem.F.plain_proto_collect _];show wpAny _ A.in1 (newList [] >>= fun l=>again (.builtin "list.__iadd__" ⟨[l,.ref a],[]⟩)) _ _ s;refine ZA (Zn (ZB ⟨ZBA PySem.F.plain_list_iadd _,Z9 entry_list_iadd' ?_⟩));rw[ZBE PySem.F.plain_list_iadd _];have g1:(s.heap.push { cls:=.type "list",data:=.seq ([]:List Value).toArray }).get? s.heap.objs.size=some { cls:=.type "list",data:=.seq #[] }:=ZN _ rfl;show wpAny _ A.in1 (Builtin.List.listExtendWith (.ref s.heap.objs.size) (.ref a) (.ref s.heap.objs.size)) _ _ _
 refine ZZ (QB (A:=A) (s:={ s with heap:=s.heap.push { cls:=.type "list",data:=.seq ([]:List Value).toArray } })
  (R:=fun(q:Result) (s':Shared)=>∃(h':Heap) (d:_) (tk:Nat) (Yo:Array Value) (c:Nat) (ms:List Int),q=.ok (.ret (.ref s.heap.objs.size))/\s' = { s with heap:=h',drawn:=d,toks:=tk } /\ ms.length=n/\(∀k,k∈ms ↔ S k=true) /\
    (∀b o,s.heap.get? b=some o->h'.get? b=some o)/\h'.get? s.heap.objs.size=some { cls:=.type "list",dict:=none,data:=.seq Yo c,slots:=#[] } /\ ItemsOf (fun i v=>∃t,v=.int (ms.getD i 0) t) Yo n)
  hh (hS.at fun o e=>ZF _ e) hn g1 (.ref s.heap.objs.size) fun h' d tk Yo c ms m1 m2 hk g2 hacc=>⟨h',d,tk,Yo,c,ms,rfl,rfl,m1,m2,fun b o e=>hk b o (ZO (ZG e)) (ZF _ e),g2,hacc⟩) (fun fn s' x=>?_) fun e s' x=>?_
 ·cases fn with
  | done f =>
   obtain⟨h',d,tk,Yo,c,ms,e,rfl,m1,m2,hk,g2,hacc⟩:=x;cases e;show wpAny _ A (load s.heap.objs.size >>= _) _ _ _;exact ZA (wpAny_load g2 (ZB (fin h' d tk Yo ms m1 m2 hk (ZG g2) hacc)))
  | again c₁ =>
   refine⟨x.1,ZBF x.2 fun q s₂ y=>?_⟩;obtain⟨h',d,tk,Yo,c,ms,rfl,rfl,m1,m2,hk,g2,hacc⟩:=y;show wpAny _ A (load s.heap.objs.size >>= _) _ _ _;exact ZA (wpAny_load g2 (ZB (fin h' d tk Yo ms m1 m2 hk (ZG g2) hacc)))
 ·obtain⟨_,_,_,_,_,_,e',_⟩:=x;cases e'
theorem Pg{Yo:Array Value}{ms:List Int}(h:ItemsOf (fun i v=>∃t,v=.int (ms.getD i 0) t) Yo ms.length):IntsAre Yo.toList ms:=by
 have e:Yo.toList.map numOf=ms:=by
  apply List.ext_getElem
  ·rw[ZC,Zh,h.1]
  ·intro i h1 h2;rw[List.getElem_map];have h3:i < Yo.size:=by rw[h.1];exact h2
   obtain⟨t,et⟩:=h.2 i Yo[i] (by simp[h3]);rw[Array.getElem_toList,et];show ms.getD i 0=_;rw[ZV,ZE h2];rfl
 have:=intsAre_map Yo.toList (fun v hv=>by
  obtain⟨i,hi,ei⟩:=Zq hv;obtain⟨t,et⟩:=h.2 i v (by rw[<- ZBe,ZE hi,ei]);exact⟨_,t,et⟩)
 rw[e]at this;exact this
theorem Qd {S:Int->Bool} {n:Nat} {Q:Value->Shared->Prop} (hh:A.handled=none) (hS:SetW P w s.heap a S n) (h64:n < 64)
 (fin:∀(h':Heap) d tk (p:Addr) (ms:List Int) (out:Array Value) (e:Nat),ms.length=n->(∀k,k∈ms ↔ S k=true)->ms.Pairwise (· <= ·)->IntsAre out.toList ms->h'.get? p=some (seqObj "list" out e)->s.heap.objs.size<=p->(∀b o,s.heap.get? b=some o->h'.get? b=some o)->Q (.ref p) { s with heap:=h',drawn:=d,toks:=tk }) :
 wpAny (model P w) A (call (.builtin "sorted") [.ref a]) Q E s:=by
 have hz:n<=sizeLine:=Zs (Z0 h64) (by decide);refine call_function_entry kind_sorted plain_sorted entry_sorted (args_sorted1 _) ?_;unfold Builtin.«sorted»;refine ZA (m:=checkCount "sorted" 1 1 _) (ZB (ZA (Wv (A:=A.in1) hh hS hz fun h' d tk Yo ms m1 m2 hk Yr hacc=>?_)));subst m1;have hI:=Pg hacc;have hl:Yo.toList.length=ms.length:=by rw[Zh,hacc.1]
 refine ZA (wpAny_newList ?_ (by rw[hl];exact hz));have hoL:(h'.push (seqObj "list" Yo.toList.toArray 0)).get? h'.objs.size=some (seqObj "list" Yo.toList.toArray 0):=ZN _ rfl;refine ZA (Zc (Zx slot_list_sort ⟨_,hoL,rfl⟩ entry_list_sort (list_sort_tree hoL hI (by lia) fun out ns' a1 a2 a3=>⟨_,rfl,?_⟩) (args_list_sort _)));obtain⟨e,he⟩:=sortedHeap_at (out:=out) hoL;refine ZB ⟨_,rfl,fin _ d tk h'.objs.size ns' out e (a2.length_eq) (fun k=>by rw[a2.mem_iff];exact m2 k) a3 a1 he (Z0 Yr) fun b o q=>?_⟩;have hb:=hk b o q;have hlt2:=ZG hb;rw[sortedHeap_old (ZO hlt2) (by rw[Z1];exact Nat.lt_succ_of_lt hlt2)];exact ZF _ hb
end
end L2
namespace L2
open PySem PySem.Spec PyProof.Rows
def Cd(P:Program)(w:World)(a:Addr)(ds:List Int):Heap->Prop:=fun h=>SetW P w h a (fun k=>ds.any (· == k)) ds.length
theorem Ra{P:Program}{w:World}{H:Hp}{h:Heap}{a:Addr}{ds:List Int}(x:Cd P w a ds h):ObjOk P w H h a (.ext (Cd P w a ds)) :=
 ⟨x,(by obtain⟨o,_,_,_,e,_⟩:=x;exact⟨o,e⟩),fun h1 h2 y k=>SetW.at y k⟩
def J7(K:W.Frag)(P:Program)(w:World):List V->Hp->VK->Prop:=fun xs H Q=>match xs with
 | [.ref p]=>∃ns:List Int,Ys K H p (ns.map V.int)/\ns.length<=1000/\∀(ds:List Int) q,ds.Nodup->(∀k,k∈ds ↔ k∈ns)->H q=none->Q (.ref q) (upd H q (.ext (Cd P w q ds)))
 | _=>False
def NH(P:Program)(w:World):List V->Hp->VK->Prop:=fun xs H Q=>match xs with
 | [.ref p]=>∃ds:List Int,H p=some (.ext (Cd P w p ds))/\ds.length < 64/\∀(ms:List Int) q,ms.length=ds.length->(∀k,k∈ms ↔ k∈ds)->ms.Pairwise (· <= ·)->H q=none->Q (.ref q) (upd H q (.lst (ms.map V.int)))
 | _=>False
section
variable {X:Cx}{K:W.Frag}{P:Program}{w:World}
theorem Yg.drew{Ya:List (Addr × Obj)}{σ:List (Option V)}{H:Hp}{s:Shared}(I:Yg X Ya σ H s)(d:Drawn):Yg X Ya σ H { s with drawn:=d }:=⟨I.ok,I.os,I.bare,I.base,I.loc,I.cell,I.free,I.freeC,I.pin,I.hok,I.len⟩
theorem V7(hh:X.calm=true):CallR X (.type "set") (J7 X.K X.prog X.w):=by
 intro Ya s σ H xs us Q I r h
 match xs,h with
 | [.ref p],h =>
 obtain⟨ns,hq,hn,q⟩:=h;obtain⟨u,rfl,rx⟩:=BU r;cases rx;obtain⟨Yf,rv,pl,hz⟩:=I.tuple hq;have hi:IntsAre Yf ns:=by simpa using Ey rv
 have Yk:Yf.length=ns.length:=by rw[<- rv.length,ZC]
 refine Ou (ns:=ns) (I.ok.hd hh) pl (by simpa using hi) (by rw[ZJ,Yk];show ns.length+1 < 4096;lia) fun h' tk hs hk=>?_
 have hsz:Yf.toArray.size=ns.length:=by rw[ZJ,Yk]
 rw[hsz]at hs;exact⟨.ref s.heap.objs.size,_,I.laid (t':=tk) (o:=.ext (Cd X.prog X.w s.heap.objs.size (firstMet (fun i=>ns.getD i 0) ns.length))) (fun b o e=>hk b o (ZG e) e) (ZD _) (Ra hs),rfl,q _ _ (JQ _ _) (Ly ns) (I.hok.fresh (ZD _))⟩
theorem Pm(hh:X.calm=true)(hK:X.K=K:=by rfl)(hP:X.prog=P:=by rfl)(hw:X.w=w:=by rfl):CallR X (.type "set") (J7 K P w):=by subst hK hP hw;exact V7 hh
theorem Tw(hh:X.calm=true):CallR X (.builtin "sorted") (NH X.prog X.w):=by
 intro Ya s σ H xs us Q I r h
 match xs,h with
 | [.ref p],h =>
 obtain⟨ds,hq,hn,q⟩:=h;obtain⟨u,rfl,rx⟩:=BU r;cases rx;obtain⟨hs,_⟩:=(show ObjOk X.prog X.w H s.heap p (.ext (Cd X.prog X.w p ds)) from I.hok p _ hq);refine Qd (I.ok.hd hh) hs hn fun h' d tk b ms out e m1 m2 m3 hi hb hp hk=>?_
 refine⟨.ref b,_,(I.laid (t':=tk) (o:=.lst (ms.map V.int)) (fun b o e=>hk b o e) hp ?_).drew d,rfl,q ms _ m1 (fun k=>(m2 k).trans (by simp)) m3 (I.hok.fresh hp)⟩;exact⟨by rw[ZC,m1];exact Zs (Z0 hn) (by decide),out.toList,e,N2 hi,hb⟩
theorem VP(hh:X.calm=true)(hP:X.prog=P:=by rfl)(hw:X.w=w:=by rfl):CallR X (.builtin "sorted") (NH P w):=by subst hP hw;exact Tw hh
def Ju(C:Addr)(ta:TE)(f:Str):TE:=fun σ H Q=>ta σ H fun x H1=>match x with
 | .ref a=>∃dx fs v,H1 a=some (.ins C dx fs)/\fs.lookup f=some v/\Q v H1
 | _=>False
def Ol(C:Addr)(ta tv:TE)(f:Str):TS:=fun D σ H=>tv σ H fun y H1=>ta σ H1 fun x H2=>match x with
 | .ref a=>∃dx fs,H2 a=some (.ins C dx fs)/\fs.length < 1000/\D.nx σ (upd H2 a (.ins C dx (AU f y fs)))
 | _=>False
variable {C:Addr}{f:Str}{e o value:Expr}{ta tv td ty:TE}{pos pos':Pos}
theorem BE(c:Cls K C)(n:NoAttr K C f)(he:PE X e ta)(hK:X.K=K:=by rfl)(hb:attributeBase e f X.env (eval e X.env)=eval e X.env:=by rfl):PE X (.Attribute e f pos) (Ju C ta f):=by
 subst hK;intro Ya s σ H Q I h;refine Oe hb (Ym (he Ya s σ H _ I h) fun u s1 ⟨x,H1,I1,rx,q⟩=>?_)
 match x,q with
 | .ref a,⟨dx,fs,v,ea,l,q⟩ =>
 obtain rfl:u=Value.ref a:=rx;exact On I1 ea c n l fun u' s2 I2 ru=>⟨v,H1,I2,ru,q⟩
theorem DC(c:Cls K C)(n:NoAttr K C f)(ha:PE X o ta)(hv:PE X value tv)(hK:X.K=K:=by rfl)(hs:swapsWith value (some (.Attribute o f pos')) pos.line X.env=pure false:=by rfl):PS X (.Assign [.Attribute o f pos'] value pos) (Ol C ta tv f):=by
 subst hK;intro Ya s σ H D I h;refine plainObj_wpAny_Assign_Attribute (Ym (hv Ya s σ H _ I h) fun u s1 ⟨y,H1,I1,ry,q⟩=>Ym (ha Ya s1 σ H1 _ I1 q) fun ov s2 ⟨x,H2,I2,rx,q2⟩=>?_) hs
 match x,q2 with
 | .ref a,⟨dx,fs,ea,l,q2⟩ =>
 obtain rfl:ov=Value.ref a:=rx;exact N9 I2 ea c n l ry fun s3 I3=>⟨σ,_,I3,q2⟩
theorem Wk(h:Ad ta):Ad (Ju C ta f):=fun σ H Q Q' k q=>h _ _ _ _ (fun v H1 q=>by
 cases v <;> first | exact q.elim | (obtain⟨dx,fs,v,a,b,q⟩:=q;exact⟨dx,fs,v,a,b,k _ _ q⟩)) q
theorem VQ{m:Str}{sp:Sp}{dvs:List V}{E:XK}{t:TA}(hs:AM sp)(h1:Ad ta)(h2:Bj t):Ad (IY C m sp dvs E ta t):=fun σ H Q Q' h q =>
 h1 _ _ _ _ (fun v H1 ⟨a,dx,fs,e1,e2,e3,q⟩=>⟨a,dx,fs,e1,e2,e3,h2 _ _ _ _ (fun _ _ q=>hs _ _ _ _ _ h q) q⟩) q
def Il(neg:Bool):R2:=fun y x H Q=>match x with
 | .ref a=>∃o,DGet H a y o/\Q (.bl (xor neg o.isSome)) H
 | _=>False
theorem Fd(hu:X.A.units+60 < cLine):Yx X (compareOp .NotIn) (Il true):=by
 intro Ya s σ H y x v u Q I ry rx q
 match x,q with
 | .ref a,⟨o,g,q⟩ =>
 obtain rfl:u=Value.ref a:=rx;exact Ts (CG hu) I g ry fun s3 I3=>⟨.bl (!o.isSome),H,I3,rfl,(by cases o <;> exact q)⟩
theorem Vi{b:Bool}:B6 (Il b):=fun x y H Q Q' h q=>by
 unfold Il at *;split at q
 ·obtain⟨o,a,q⟩:=q;exact⟨o,a,h _ _ q⟩
 ·exact q.elim
end
theorem Ph:Ad KJ:=fun σ H Q Q' h q p hp=>h _ _ (q p hp)
end L2
namespace L2
open PySem PySem.Spec PyProof.Rows PySem.W
def Fb(K:W.Frag)(base:Heap)(f:Addr):Prop:=PySem.W.keepIn K (.ref f)=true\/∃o fd,base.get? f=some o/\o.data=.func fd
def MY(f:Addr)(sp:Sp)(tn:TE)(t:TA):TE:=fun σ H Q=>tn σ H fun v H1=>v=.ref f/\t σ H1 fun vs H2=>sp vs H2 Q E0
section
variable {X:Cx}{k:Nat}{f:Addr}{fd:FuncData}{ps:List Str}{sp:Sp}{x:Str}{p pos:Pos}{e:Expr}{es:List Expr}{t:TA}{tn:TE}
theorem JE (hn:PE X (.Name x p) tn) (F:FnOk X.prog X.w X.K X.mg X.base CX0 k f fd ps sp) (hr:Room k X.A) (hf:Fb X.K X.base f) (hb:Binds X.K fd ps []) (ha:PA X (e::es) t)
 (he:starEach (e::es) X.env=(false,eval e X.env)::starEach es X.env:=by rfl) (hpl:(backTo pos (starEach es X.env)).any (·.1)=false:=by rfl) :
 PE X (.Call (.Name x p) (e::es) [] pos) (MY f sp tn t):=by
 intro Ya s σ H Q I h;refine wpAny_Call_Name_kw (Ym (hn Ya s σ H _ I h) fun v s1 ⟨y,H1,I1,r1,q1⟩=>?_);obtain⟨rfl,q1⟩:=q1;cases r1
 have fin:∀(us:List Value) (s2:Shared),(∃vs H2,Yg X Ya σ H2 s2/\Yj vs us/\sp vs H2 Q E0)->wpAny (model X.prog X.w) X.A (call (.ref f) us) (EP X Ya σ Q) X.xe s2:=fun us s2 ⟨vs,H2,I2,r,q⟩ =>
  GA F hr hb .nil AH I2 r (by rw[Zj];exact q)
 rcases hf with hk | ⟨o,fd',e1,e2⟩
 ·refine PySem.W.callWith_K (h₀:=X.base) I.ok.mod.kin hk (Ym (ha pos Ya s1 σ H1 _ I1 q1) fun us s2 ⟨vs,H2,I2,r,q⟩=>⟨I2.kIn,fin us s2 ⟨vs,H2,I2,r,q⟩⟩) he hpl
 ·have h0:=Ym (ha pos Ya s1 σ H1 _ I1 q1) fun us s2 ⟨vs,H2,I2,r,q⟩=>(show s2.heap.get? f=some o/\wpAny (model X.prog X.w) X.A (call (.ref f) ([]++us)) (EP X Ya σ Q) X.xe s2 from⟨I2.bk _ _ e1,fin us s2 ⟨vs,H2,I2,r,q⟩⟩)
  rw[he]at h0 ⊢;refine callWith_of (P:=fun h=>h.get? f=some o) (by show((false || (backTo pos (starEach es X.env)).any (·.1)) || false)=false;rw[hpl];rfl) (fun h hh=>⟨.frame,.inl rfl,(Looks.ld (part:=none) hh).andThen ?_⟩) (Calls.evalArgs_plain h0);rw[e2];exact .now
theorem WZ(h1:Ad tn)(h2:Bj t)(hs:AM sp):Ad (MY f sp tn t):=fun σ H Q Q' k q=>h1 _ _ _ _ (fun v H1 q=>⟨q.1,h2 _ _ _ _ (fun vs H2 q=>hs vs H2 Q Q' E0 k q) q.2⟩) q
end
section
variable {X:Cx}{Ya:List (Addr × Obj)}{σ:St}{H:Hp}{s:Shared}
theorem Yg.pin1(I:Yg X Ya σ H s){a:Addr}{o:Obj}(ha:s.heap.get? a=some o)(n:H a=none)(h1:a≠X.env.locals)(h2:a∉X.fs)(h3:∀v,o.data≠.cell v):Yg X ((a,o)::Ya) σ H s:=by
 refine⟨I.ok,I.os,I.bare,I.base,I.loc,I.cell,I.free,I.freeC,fun p hp=>?_,I.hok,I.len⟩
 rcases Ze.mp hp with z | z
 ·exact I.pin p (Zt _ z)
 ·rcases ZH.mp z with rfl | z
  ·exact⟨ha,n,h1,h2,h3⟩
  ·exact I.pin p (ZY _ z)
theorem Yg.unpin1{q:Addr × Obj}(I:Yg X (q::Ya) σ H s):Yg X Ya σ H s:=by
 refine⟨I.ok,I.os,I.bare,I.base,I.loc,I.cell,I.free,I.freeC,fun p hp=>?_,I.hok,I.len⟩
 rcases Ze.mp hp with z | z
 ·exact I.pin p (Zt _ z)
 ·exact I.pin p (ZY _ (ZW _ z))
def G2(X:Cx)(H:Hp):Hp:=fun b=>if b∈frs X.stack then some (.tup []) else H b
def CQ(X:Cx)(H:Hp)(s:Shared):Heap:=B9 s.heap (G2 X H)
theorem EJ{b:Addr}{o:Obj}(e:s.heap.get? b=some o)(n:H b=none)(f:b∉frs X.stack):(CQ X H s).get? b=some o:=KU e (by unfold G2;rw[if_neg f];exact n)
theorem Jr{b:Addr}{o:Obj}(e:(CQ X H s).get? b=some o):s.heap.get? b=some o/\H b=none/\b∉frs X.stack:=by
 obtain⟨h1,h2⟩:=K9 e;unfold G2 at h2
 by_cases f:b∈frs X.stack
 ·rw[if_pos f]at h2;cases h2
 ·rw[if_neg f]at h2;exact⟨h1,h2,f⟩
theorem LP{h base base':Heap}:∀{l:List Env},h.FunFrames base l->(∀b∈frs l,base'.get? b=none)->h.FunFrames base' l
 | [],_,_=>trivial
 | env::l,⟨a,⟨L,o,e1,_,e3,e4⟩,r⟩,hb=>by
  refine⟨a,⟨L,o,e1,hb L ?_,e3,e4⟩,LP r fun b hb'=>hb b ?_⟩
  ·rw[frs,ZBb,e1];exact Zb ..
  ·rw[frs,ZBb,e1];exact ZW _ hb'
theorem Hu(I:Yg X Ya σ H s):∀b o,X.base.get? b=some o->(CQ X H s).get? b=some o:=fun b o e =>
 EJ (I.bs b o e).1 (I.bs b o e).2 fun z=>by
  have:=(I.stack.mem z).1
  rw[e]at this;cases this
theorem KI(I:Yg X Ya σ H s):Env0 X.prog X.w X.K X.mg (CQ X H s) X.A X.stack s H:=by
 have sub:=Hu I;refine⟨I.ok.frames,⟨I.ok.mod.kin.keeps sub,I.ok.mod.glob.keeps sub,let ⟨mb,h1,h2⟩:=I.ok.mod.blt;⟨mb,h1.keeps sub,h2⟩,I.ok.mod.nolimit.keeps sub⟩,fun b o e=>⟨(Jr e).1,(Jr e).2.1⟩,ZBc (LL _ _),LP I.stack fun b hb=>?_,I.stkFree,I.hok,I.bare⟩;cases e:(CQ X H s).get? b with
 | none=>rfl
 | some o=>exact absurd hb (Jr e).2.2
theorem RC {k:Nat} {f:Addr} {fd:FuncData} {ps:List Str} {sp:Sp} {us:List Value} {vs:List V} {Q:VK} (I:Yg X Ya σ H s) (F:FnOk X.prog X.w X.K X.mg (CQ X H s) CX0 k f fd ps sp) (hr:Room k X.A) (hb:Binds X.K fd ps [])
 (r:Yj vs us) (h:sp vs H Q E0):wpAny (model X.prog X.w) X.A (call (.ref f) us) (EP X Ya σ Q) X.xe s:=by
 have hl:(us++[]).length=ps.length:=by rw[Zj,<- r.length];exact F.len _ _ _ _ h
 have hbb:=hb s us I.kIn hl;rw[Zj]at hbb;refine wpAny_call (ZBF (F.run X.A X.stack s H ⟨us,[]⟩ us vs Q E0 hr (KI I) hbb r h) fun r s' hq=>?_);cases r with
 | error e=>exact False.elim hq
 | ok fl =>
  cases fl with
  | ret u=>exact I.after hq
  | next=>exact False.elim hq
  | brk=>exact False.elim hq
  | cont=>exact False.elim hq
end
section
variable {X:Cx}{Pt c f:Addr}{fd:FuncData}{ps:List Str}{k i:Nat}{kn a:Str}{kp pos lpos:Pos}{params:Arguments}{body:Expr}{scope:Scope}{e:Expr}{es:List Expr}{t:TA}{qual:Str}{spK:Addr->Addr->V->Sp}
def RH(Pt:Addr)(lpos:Pos)(qual:Str)(i:Nat)(spK:Addr->Addr->V->Sp)(t:TA):TE:=fun σ H Q=>∃vA,σ[i]? = some (some vA)/\Yz Pt lpos qual H /\
 ∀Yt c' H1,Yu Pt H H1->Yz Pt lpos qual H1->H1 c'=some (CdO c' qual)->H1 Yt=none->t σ H1 fun vs H2=>spK Yt c' vA (.ref Yt::vs) H2 Q E0
theorem Rn (hg:Gl X kn) (hm:X.mg kn=some (.ref f)) (hk:PySem.W.keepIn X.K (.ref f)=true) (hr:Room k X.A) (hb:Binds X.K fd ps []) (hcode:X.env.code=.ref c) (hcK:codeHdIn X.K c Pt=true) (hbm:BMn X.mg X.base)
 (hq:X.env.qual ++ "<lambda>" = qual) (hdef:defaultsOf params X.env=([],[])) (hN:X.N[i]? = some a) (hcl:∀cell,X.env.cells.lookup a=some cell->closureFor scope X.env=pure [(a,cell)]) (hka:X.env.kindOf a=some .cell) (hfn:X.fn a=true)
 (hF:∀(base':Heap) (Yt cell c':Addr) (pm ctv uA:Value) (vA:V),(∀b o,X.base.get? b=some o->base'.get? b=some o)->base'.get? Yt=some (kla_obj "<lambda>" qual params body scope [(a,cell)] pm c' ctv)->base'.IsCell cell (some uA)->Yi vA uA->FnOk X.prog X.w X.K X.mg base' CX0 k f fd ps (spK Yt c' vA))
 (ha:PA X (e::es) t) (hd:(kn == ("__debug__" : Str))=false:=by decide)
 (he:starEach (.Lambda params body scope lpos::e::es) X.env=(false,eval (.Lambda params body scope lpos) X.env)::starEach (e::es) X.env:=by rfl) (hpl:(backTo pos (starEach (e::es) X.env)).any (·.1)=false:=by rfl) :
 PE X (.Call (.Name kn kp) (.Lambda params body scope lpos::e::es) [] pos) (RH Pt lpos qual i spK t):=by
 intro Ya s1 σ H1 Q I1 h;subst hq;obtain⟨vA,hv,hL,hQ⟩:=h;refine wpAny_Call_Name_kw (DQ I1 hg hm ?_ hd);refine PySem.W.callWith_K (h₀:=X.base) I1.ok.mod.kin hk ?_ he hpl;rw[he];show wpAny _ _ (spliced ((false,eval (.Lambda params body scope lpos) X.env)::backTo pos (starEach (e::es) X.env))) _ _ s1;refine Calls.spliced_cons ?_;obtain⟨Pps,hP,htr,hcs⟩:=id hL
 have fin:∀(H2:Hp) (s2:Shared) (Yt c' cell:Addr) (pm ctv:Value),Yg X Ya σ H2 s2->X.env.cells.lookup a=some cell->s2.heap.get? Yt=some (kla_obj "<lambda>" (X.env.qual ++ "<lambda>") params body scope [(a,cell)] pm c' ctv) ->
  H2 Yt=none->Yt≠X.env.locals->Yt∉X.fs->Yu Pt H1 H2->Yz Pt lpos (X.env.qual ++ "<lambda>") H2->H2 c'=some (CdO c' (X.env.qual ++ "<lambda>")) ->
  wpAny (model X.prog X.w) X.A (spliced (backTo pos (starEach (e::es) X.env))) (fun us s3=>X.K.In s3.heap/\wpAny (model X.prog X.w) X.A (call (.ref f) ([]++Value.ref Yt::us)) (EP X Ya σ Q) X.xe s3) X.xe s2:=by
  intro H2 s2 Yt c' cell pm ctv I2 hcell hf hn hnl hnf hG hL2 hc';have J:=I2.pin1 hf hn hnl hnf (fun v z=>by cases z);refine Ym (ha pos _ s2 σ H2 _ J (hQ Yt c' H2 hG hL2 hc' hn)) fun us s3 ⟨vs,H3,I3,r3,q3⟩=>⟨I3.kIn,?_⟩
  have hl3:=(I3.pin (Yt,_) (ZY _ (Zb ..)));obtain⟨m,hns,hloc⟩:=I3.loc;obtain⟨uA,rA,look⟩:=hloc i a vA hN hv (.inr (.inl hka))
  rcases look with ⟨z,_⟩ | ⟨_,cell',e1,e2⟩
  ·rw[hka]at z;cases z
  rw[hcell]at e1;cases e1;have I4:=I3.unpin1
  have lamS:Yt∉frs X.stack:=fun z=>by
   rcases ZH.mp (I3.stkSub _ z) with z | z
   ·exact hl3.2.2.1 z
   ·exact hl3.2.2.2.1 z
  have cellS:cell∉frs X.stack:=fun z=>by
   rcases ZH.mp (I3.stkSub _ z) with z | z
   ·exact I3.cne _ _ hcell z
   ·obtain⟨_,o,ho,_⟩:=I3.ok.funs.mem z;exact absurd (ZX (ZG ho) (I3.ok.cab a cell hfn hcell)) (Za _)
  refine RC I4 (hF _ Yt cell c' pm ctv uA vA (Hu I4) (EJ hl3.1 hl3.2.1 lamS) ?_ rA) hr hb (.cons (show Yi (.ref Yt) (.ref Yt) from rfl) r3) q3;obtain⟨o,ho,hd'⟩:=e2;exact⟨o,EJ ho (I3.freeC _ _ hcell) cellS,hd'⟩
 obtain⟨cell,hcell⟩:=I1.ok.has a (.inl hka);have gl:∀{s:Shared} {H:Hp},Yg X Ya σ H s->s.heap.Ns mainGlobals X.mg:=fun J=>J.mod.glob.keeps J.bk
 have C:CodeHd s1.heap c Pt:=codeHd_of_K I1.kIn hcK;have hPt:s1.heap.get? Pt=some (tabObj Pps):=I1.hok _ _ hP
 have gP:mainGlobals≠Pt:=fun z=>by
  obtain⟨o,es,ep,e,hd,_⟩:=gl I1;rw[z,hPt]at e;cases e;cases hd
 have hB:s1.heap.BuiltinsAt X.mg Pt:=by
  obtain⟨bm,ob,b1,b2,b3,b4,b5,b6⟩:=hbm;have e:=I1.bk _ _ b3;refine⟨bm,ob,b1,b2,fun z=>?_,fun z=>?_,e,b4,b5,b6⟩
  ·obtain⟨o,es,ep,e',hd,_⟩:=gl I1;rw[z,e']at e;cases e;rw[hd]at b6;cases b6
  ·rw[z,hPt]at e;cases e;cases b4
 refine kla_eval hdef ?_
 rcases hcs with hnf | ⟨c',hf,hc'⟩
 ·refine kla_makeFunction (hcl cell hcell) I1.ok.glob (gl I1) hcode C hPt htr hnf gP hB fun c' ctv h' tk hx' hge Yr hrec htb=>?_
  have J:=I1.grow (t':=tk) hP hx' htb hge hrec;have J':=J.kept (h':=h'.push _) (t':=tk) fun b u e=>ZF (kla_obj "<lambda>" (X.env.qual ++ "<lambda>") params body scope [(a,cell)] ((X.mg "__name__").getD .none) c' ctv) e
  have hcn:H1 c'=none:=I1.hok.fresh hge;have hcP:c'≠Pt:=fun z=>by rw[z,hP]at hcn;cases hcn
  refine fin _ _ h'.objs.size c' cell _ ctv J' hcell (ZN _ rfl) (J.hok.fresh (ZD _)) (ZBN J.lt) (J.nofs (ZD _)) (fun b o n e=>?_) ⟨_,by rw[AI (Ne.symm hcP),AD],?_,.inr ⟨c',?_,AD⟩⟩ AD
  ·have hbc:b≠c':=fun z=>by rw[z,hcn]at e;cases e
   rw[AI hbc,AI n];exact e
  ·rw[ZB7];exact TriplesOk_snoc _ _ _ _ htr
  ·rw[ZB7];exact codeAmong_snoc _ htr hnf
 ·refine kla_makeFunctionHit (hcl cell hcell) I1.ok.glob (gl I1) hcode C hPt htr hf hB fun ctv h' tk hk' hsz=>?_
  have J0:Yg X Ya σ H1 { s1 with heap:=h',toks:=tk }:=I1.kept hk';have J:=I1.kept (h':=h'.push _) (t':=tk) fun b u e=>ZF (kla_obj "<lambda>" (X.env.qual ++ "<lambda>") params body scope [(a,cell)] ((X.mg "__name__").getD .none) c' ctv) (hk' b u e)
  exact fin _ _ h'.objs.size c' cell _ ctv J hcell (ZN _ rfl) (J0.hok.fresh (ZD _)) (ZBN J0.lt) (J0.nofs (ZD _)) (Yu.refl _ _) hL hc'
end
abbrev Fc(scope:Scope)(L:Addr)(a:Str)(cell:Addr)(qual:Str)(Yt c':Addr):Env:=newEnv scope L mainGlobals [(a,cell)] (qual ++ ".<locals>.") (some Yt) (.ref c') none builtinsNs
def Hw(P:Program)(w:World)(K:W.Frag)(mg:Str->Option Value)(base:Heap)(scope:Scope)(a x:Str)(cell:Addr)(qual:Str)(Yt c':Addr)(A:Around)(outer:List Env)(s:Shared)(H:Hp):Cx where
 prog:=P
 w:=w
 K:=K
 mg:=mg
 base:=base
 A:=A.deeper (Fc scope s.heap.objs.size a cell qual Yt c')
 N:=[x,a]
 s₀:=s
 H₀:=H
 env:=Fc scope s.heap.objs.size a cell qual Yt c'
 outer:=outer
 stack:=Fc scope s.heap.objs.size a cell qual Yt c'::outer
 ex:=[]
 calm:=true
 fn:=fun _=>false
 pn:=[]
 xe:=fun _ _=>False
def Bv(c':Addr)(qual:Str)(spB:V->Hp->VK->Prop):Sp:=fun vs H Q _=>match vs with
 | [v]=>H c'=some (CdO c' qual)/\spB v H Q
 | _=>False
theorem Qp{c':Addr}{qual:Str}{spB:V->Hp->VK->Prop}(h:∀v H Q Q',(∀y H',Q y H'->Q' y H')->spB v H Q->spB v H Q'):AM (Bv c' qual spB):=fun vs H Q Q' E k q=>by
 unfold Bv at *;split at q
 ·exact⟨q.1,h _ _ _ _ k q.2⟩
 ·exact q.elim
theorem We {P:Program} {w:World} {K:W.Frag} {mg:Str->Option Value} {base:Heap} {k:Nat} {Yt cell c':Addr} {qual a x:Str} {params:Arguments} {body:Expr} {scope:Scope} {pm ctv:Value} {spB:V->Hp->VK->Prop} {vA:V} {uA:Value}
 (hl:base.get? Yt=some (kla_obj "<lambda>" qual params body scope [(a,cell)] pm c' ctv)) (hc:base.IsCell cell (some uA)) (rA:Yi vA uA)
 (hx:scope.names.lookup x=some .local) (ha:scope.names.lookup a=some .free) (hfr:∀y,scope.names.lookup y=some .free->y=a) (hco:scope.isCoroutine=false) (hgen:scope.isGenerator=false) (hkind:scope.kind=.function)
 (hcell:∀y∈scope.names,y.2≠.cell)
 (hbody:∀(A:Around) (outer:List Env) (s:Shared) (H:Hp) (v:V) (Q:VK),Room k (A.deeper (Fc scope s.heap.objs.size a cell qual Yt c'))->spB v H Q ->
   ∃te,PE (Hw P w K mg base scope a x cell qual Yt c' A outer s H) body te/\te [some v,some vA] H Q) :
 FnOk P w K mg base CX0 (k+1) Yt (kla_fn "<lambda>" qual params body scope [(a,cell)] pm (.ref c') ctv) [x] (Bv c' qual spB):=by
 refine⟨fun vs H Q E h=>by unfold Bv at h;split at h;rfl;exact h.elim,fun A outer s H args us vs Q E hr e0 hbd r hsp=>?_⟩
 match vs,hsp,r with
 | [v],⟨hcd,hq⟩,r =>
 obtain⟨u,rfl,ru⟩:=BU r;have lim:s.heap.NoLimit:=e0.mod.nolimit.keeps fun b o e=>(e0.bs b o e).1
 obtain⟨hcr,_⟩:=e0.hok _ _ hcd;refine kla_callFunE hr.depth (e0.bs _ _ hl).1 rfl hco hgen rfl hcr (hbd _ _ _ _ ?_);refine wpAny_newFunctionEnv hcell (fun y hy=>by rw[ZI.mp hy];exact hx) (fun h₁ hns hsb=>⟨lim.fresh _ hsb,?_⟩) hkind;have hk₁:∀b o,s.heap.get? b=some o->h₁.get? b=some o:=fun b o e=>hsb.extBut b o (ZO (ZG e)) (ZF _ e)
 refine kla_codeExpr ?_;obtain⟨te,ht,hte⟩:=hbody A outer s H v Q (hr.deeper _) hq
 have hcell1:h₁.IsCell cell (some uA):=by
  obtain⟨o,e,d⟩:=hc;exact⟨o,hk₁ _ _ (e0.bs _ _ e).1,d⟩
 have hcH:H cell=none:=by
  obtain⟨o,e,d⟩:=hc;exact(e0.bs _ _ e).2
 have lk:∀y c,List.lookup y [(a,cell)]=some c->y=a/\c=cell:=fun y c e=>by
  rw[Zy]at e
  by_cases z:y=a
  ·subst z;simp at e;exact⟨rfl,e.symm⟩
  ·rw[beq_eq_false_iff_ne.mpr z]at e;cases e
 have noA:∀b:Addr,b∉(Hw P w K mg base scope a x cell qual Yt c' A outer s H).ex:=fun b z=>absurd (show b∈([]:List Addr) from z) (by simp)
 have kindc:∀y,scope.names.lookup y≠some .cell:=fun y z=>hcell _ (PySem.mem_of_lookup z) rfl
 have nax:a≠x:=fun z=>by rw[z,hx]at ha;cases ha
 have I:Yg (Hw P w K mg base scope a x cell qual Yt c' A outer s H) [] [some v,some vA] H { s with heap:=h₁,toks:=s.toks+[(x,u)].length }:=by
  refine⟨⟨e0.mod,hkind,rfl,rfl,ZD _,fun y z c h1 h2=>?_,fun y hy=>?_,fun y c hf _=>?_,fun _=>hr.hd,Around.frames_deeper e0.frames,.inr ⟨rfl,rfl⟩,fun b z=>absurd z (noA b),e0.bs,e0.bsz,fun b _ _=>noA b,fun b z=>absurd z (noA b),e0.funs,e0.frf⟩,
   rfl,e0.bare,Un.kept hk₁,⟨_,hns,fun i y z h1 h2 h3=>?_⟩,fun y c h=>?_,e0.hok.fresh (ZD _),fun y c h=>?_,fun p hp=>absurd (show p∈([]:List (Addr × Obj)) from hp) (by simp),e0.hok.kept hk₁,rfl⟩
  ·exact(lk _ _ h1).1.trans (lk _ _ h2).1.symm
  ·have hy:scope.names.lookup y=some .cell\/scope.names.lookup y=some .free:=hy
   rcases hy with hy | hy
   ·exact absurd hy (kindc y)
   ·rw[hfr y hy];exact⟨cell,by show List.lookup a [(a,cell)]=_;simp⟩
  ·cases hf
  ·match i,h1,h2 with
   | 0,h1,h2 =>
    cases h1;cases h2;exact⟨u,ru,.inl ⟨hx,by simp⟩⟩
   | 1,h1,h2 =>
    cases h1;cases h2;exact⟨uA,rA,.inr ⟨.inr ha,cell,by show List.lookup a [(a,cell)]=_;simp,hcell1⟩⟩
   | n+2,h1,h2=>cases h2
  ·obtain⟨_,rfl⟩:=lk y c h;exact⟨_,hcell1⟩
  ·obtain⟨_,rfl⟩:=lk y c h;exact hcH
 refine ZZ (ht [] _ _ _ _ I hte) (fun u' s' hs=>?_) fun e s' hs=>False.elim hs
 obtain⟨v',H',J,rv,q⟩:=hs;exact⟨v',H',J.os,J.bare,J.base,J.hok,rv,q⟩
end L2
namespace L2
open PySem PyProof.Rows
def GH(K:W.Frag):V->List V->Hp->VK->Prop:=fun x vs H Q=>match x,vs with
 | .ref l,[.ref b]=>∃xs ys,H l=some (.lst xs)/\Ys K H b ys/\xs.length+ys.length<=100000/\Q .non (upd H l (.lst (xs++ys)))
 | _,_=>False
section
variable {X:Cx}{K:W.Frag}{o e:Expr}{to:TE}{t:TA}{apos cpos:Pos}
theorem QS:MtR X "list.extend" (GH X.K):=by
 intro Ya s σ H x vs v us Q I rx rv q
 match x,vs,q with
 | .ref l,[.ref b],⟨xs,ys,hH,hb,h3,q⟩ =>
 cases rx;obtain⟨u,rfl,ru⟩:=BU rv;cases ru;obtain⟨z,Yf,n,r,hl,e⟩:=I.lstM hH;obtain⟨its2,r2,⟨o2,e2,c2,n2,d2⟩,hz2⟩:=I.tuple hb;have l1:=r.length;have l2:=r2.length
 have hlb:l≠b:=fun q=>by
  rw[q,e2]at e;cases e;exact absurd c2 (by simp)
 refine Zx F.slot_list_extend ⟨_,e,rfl⟩ F.entry_list_extend ?_ (F.args_list_extend_2 _ _);show wpAny _ _ (Builtin.List.listExtendWith (.ref l) (.ref b) .none) _ _ s;unfold Builtin.List.listExtendWith;refine ZA (wpAny_typeOf (T:="tuple") ⟨o2,e2,c2⟩ ?_);have h1:Builtin.List.listSameRef (.ref l) (.ref b)=false:=by simp[Builtin.List.listSameRef,hlb]
 have h2:(Value.type "tuple" == Value.type "list")=false:=by decide
 have h3':(Value.type "tuple" == Value.type "tuple")=true:=by decide
 simp only[h1,h2,h3',Bool.or_true,if_true];refine ZA (listItems_at e2 d2 (ZA (listItems_at e rfl ?_)))
 rw[if_neg (by
  rw[ZQ];rintro⟨_,q⟩;unfold Builtin.List.listTooLong at q;simp[sizeLine_eq]at q;lia)]
 refine ZA (listUpdate_at e rfl ?_ (by rw[ZJ,sizeLine_eq];lia) (by rw[Array.size_append,ZJ,ZJ,sizeLine_eq];lia));refine ZB ⟨_,rfl,?_⟩;exact⟨.non,_,I.lset (its':=Yf++its2) hH e (by simp) (r.append r2) (by rw[ZU,sizeLine_eq];lia),rfl,q⟩
theorem Sf (ho:PE X o to) (ha:PA X [e] t) (hbase:attributeBase o "extend" X.env (eval o X.env)=eval o X.env:=by rfl)
 (hfew:((backTo cpos (starEach [e] X.env)).all (fun x=>!x.1) && (backToKw cpos (keywordEach [] X.env)).all (fun x=>x.1.isSome)
   && decide ([e].length+([]:List Keyword).length+(if ([]:List Keyword).isEmpty then 0 else 1) < 30))=true:=by rfl)
 (hline:(apos.endLine == cpos.line)=true:=by rfl) (hs:starEach [e] X.env=(false,eval e X.env)::starEach [] X.env:=by rfl) (hplain:(backTo cpos (starEach [] X.env)).any (·.1)=false:=by rfl) (hK:X.K=K:=by rfl) :
 PE X (.Call (.Attribute o "extend" apos) [e] [] cpos) (tBM K "list" (GH K) to t):=hK ▸ Ej PySem.F.plainAttrs_list PySem.F.slot_list_extend PySem.F.type_list_extend QS ho ha hbase hfew hline hs hplain
theorem SB:Dq (GH K):=fun x xs H Q Q' h q=>by
 unfold GH at *;split at q
 ·obtain⟨a,b,c,d,e,q⟩:=q;exact⟨a,b,c,d,e,h _ _ q⟩
 ·exact q.elim
end
end L2
namespace L2
open PySem PySem.Spec PyProof.Rows
theorem WG {prog:Program} {w:World} {A:Around} {R:Result->Shared->Prop} {I S:Addr} {fp wr:List Addr} {n:Nat} {P:Nat->Value->Prop} {St:Nat->Heap->Prop} {x0:Str} {d0:Value}
 (W:Walks prog w A.in1 I fp wr n P St) (val:Nat->Int) (hval:∀i v,P i v->∃t,v=.int (val i) t) (hSf:S∉fp) :
 ∀(k j:Nat) (s:Shared) (cur:Array Value) (c:Nat),n - j=k->j<=n->St j s.heap->s.heap.get? S=some { cls:=.type "list",dict:=none,data:=.seq cur c,slots:=#[] } ->
  ((j=0/\cur = #[])\/∃i v,i < j/\cur = #[v,v]/\P i v/\∀i',i' < j->val i'<=val i) ->
  (∀v h' tk,((n=0/\v=d0)\/∃i,i < n/\P i v/\∀i',i' < n->val i'<=val i)->(∀b o,b∉wr->b≠S->s.heap.get? b=some o->h'.get? b=some o)->R (.ok (.ret v)) { s with heap:=h',toks:=tk }) ->
  codeAny (model prog w) A (.builtin "max.loop" ⟨[.ref I,.none,.ref S],[(x0,d0)]⟩) R s:=by
 have hSw:S∉wr:=fun h=>hSf (W.sub _ h);have nm:(toString "max" ++ toString ".loop" : String) = "max.loop":=by decide
 intro k
 induction k with
 | zero =>
  intro j s cur c hk hj hst hS hcur hR;obtain rfl:j=n:=by lia
  refine Z9 F.entry_max_loop (by
   rw[ZBE F.plain_max_loop _];show wpAny _ _ (seqItems? (Value.ref S) >>= _) _ _ _;refine ZA (wpAny_seqItems hS rfl (show wpAny _ _ (tryCatch (pyNext (Value.ref I)) _ >>= _) _ _ _ from ZA (ZBT (W.done s _ _ hst fun h' tk hk'=>?_))))
   rcases hcur with ⟨z,rfl⟩ | ⟨i,v,hi,rfl,hP,hm⟩
   ·show wpAny _ _ (rule _ >>= _) _ _ _;exact ZA (wpAny_rule (ZB (hR d0 h' tk (.inl ⟨z,rfl⟩) fun b o hb _ e=>hk' b o hb e)))
   ·show wpAny _ _ (updateSeq S (fun _=>#[]) >>= _) _ _ _;exact ZA (wpAny_updateSeq (hk' S _ hSw hS) rfl (ZA (ZBY (ZB (hR v _ tk (.inr ⟨i,hi,hP,hm⟩) fun b o hb hbS e=>(Zu _ _ (Ne.symm hbS)).trans (hk' b o hb e)))))))
 | succ k ih =>
  intro j s cur c hk hj hst hS hcur hR;have Yr:j < n:=by lia
  have hk1:n - (j+1)=k:=by rw[Nat.sub_add_eq,hk];rfl
  refine Z9 F.entry_max_loop (by
   rw[ZBE F.plain_max_loop _];show wpAny _ _ (seqItems? (Value.ref S) >>= _) _ _ _;refine ZA (wpAny_seqItems hS rfl (show wpAny _ _ (tryCatch (pyNext (Value.ref I)) _ >>= _) _ _ _ from ZA (ZBT (W.item j s _ _ Yr hst fun v h' tk hP hst' hk'=>?_))));have hS':=hk' S _ hSw hS
   have go:∀(h2:Heap) (cur':Array Value) (c':Nat),(∀b,b≠S->h2.get? b=h'.get? b)->h2.get? S=some { cls:=.type "list",dict:=none,data:=.seq cur' c',slots:=#[] } -> (∃i v,i < j+1/\cur' = #[v,v]/\P i v/\∀i',i' < j+1->val i'<=val i) ->
    codeAny (model prog w) A (.builtin "max.loop" ⟨[.ref I,.none,.ref S],[(x0,d0)]⟩) R { s with heap:=h2,toks:=tk }:=fun h2 cur' c' hx hS2 hc2 =>
    ih (j+1) { s with heap:=h2,toks:=tk } cur' c' hk1 Yr (W.frame _ _ _ hst' fun b hb o e=>(hx b fun z=>hSf (z ▸ hb)).trans e) hS2 (.inr hc2) fun v' h3 tk3 hv hk3=>hR v' h3 tk3 hv fun b o hb hbS e=>hk3 b o hb hbS ((hx b hbS).trans (hk' b o hb e))
   rcases hcur with ⟨z,rfl⟩ | ⟨i,u,hi,rfl,hPu,hm⟩
   ·subst z;show wpAny _ _ (updateSeq S (fun _=>#[v,v]) >>= _) _ _ _;refine ZA (wpAny_updateSeq hS' rfl ?_);rw[nm];exact ZB ⟨ZBA F.plain_max_loop _,go _ _ _ (fun b hb=>Zu _ _ (Ne.symm hb)) (ZBG _ hS' rfl) ⟨0,v,by lia,rfl,hP,fun i' h=>by rw[show i'=0 by lia];exact Int.le_refl _⟩⟩
   ·show wpAny _ _ (tryCatch (holding [v,v] (richCompare .Gt v u >>= _)) _ >>= _) _ _ _;refine ZA (ZBT (Zc (ZA (CmpOf.ints_gt val hval j i v u _ _ _ hP hPu (ZA (Zc (ZBC (ZA (ZBY (ZB ?_))))))))));show wpAny _ _ (if decide (val j > val i)=true then _ else _) _ _ _
    by_cases hb:val j > val i
    ·rw[if_pos (ZL hb)];show wpAny _ _ (updateSeq S (fun _=>#[v,v]) >>= _) _ _ _;refine ZA (wpAny_updateSeq hS' rfl (ZA (ZBY ?_)));rw[nm]
     exact ZB ⟨ZBA F.plain_max_loop _,go _ _ _ (fun b hb=>Zu _ _ (Ne.symm hb)) (ZBG _ hS' rfl) ⟨j,v,by lia,rfl,hP,fun i' h=>by
      rcases Z4 i' j with z | z
      ·have:=hm i' z;lia
      ·rw[show i'=j by lia];exact Int.le_refl _⟩⟩
    ·rw[if_neg (fun z=>hb (ZM z))];show wpAny _ _ (letGo [v,v] >>= _) _ _ _;refine ZA (ZBY ?_);rw[nm]
     exact ZB ⟨ZBA F.plain_max_loop _,go h' _ _ (fun b _=>rfl) hS' ⟨i,u,by lia,rfl,hPu,fun i' h=>by
      rcases Z4 i' j with z | z
      ·exact hm i' z
      ·rw[show i'=j by lia];lia⟩⟩)
theorem V1(a d:Value):argsOk "max" ⟨[a],[(Str.ofString "default",d)]⟩:=by unfold argsOk;kernel_rfl
theorem QN {prog:Program} {w:World} {A:Around} {E:Value->Shared->Prop} {s:Shared} {l:Addr} {xs:Array (Int × Tok)} {d0:Value} {Q:Value->Shared->Prop} (hh:A.handled=none) (hl:s.heap.IsList l (intItems xs))
 (h:∀v h' tk,((xs.size=0/\v=d0)\/∃i,i < xs.size/\(intItems xs)[i]? = some v/\∀i',i' < xs.size->numAt xs i'<=numAt xs i)->(∀b o,s.heap.get? b=some o->h'.get? b=some o)->Q v { s with heap:=h',toks:=tk }) :
 wpAny (model prog w) A (call (.builtin "max") [.ref l] [(Str.ofString "default",d0)]) Q E s:=by
 refine kmk_tree F.kind_max F.plain_max F.entry_max (V1 _ _) (by
  show wpAny _ _ (Builtin.Builtins.bindParams "max" ["key","default"] 0 ⟨[],[(Str.ofString "default",d0)]⟩ >>= _) _ _ s;refine ZA (wpAny_of_eq (show Builtin.Builtins.bindParams "max" ["key","default"] 0 ⟨[],[(Str.ofString "default",d0)]⟩=pure [none,some d0] from rfl) (ZA (ZB (ZA (iter_intList hl fun s2 e st hfp hlI=>?_)))));subst e;have W:=Walks.list (prog:=prog) (w:=w) (A:=A.in1) hh s.heap.objs.size l hlI (intItems xs);refine ZA (Zn ?_);have sz:(intItems xs).size=xs.size:=by simp[intItems]
  refine ZB ⟨by rfl,WG W (numAt xs) (fun _ _ z=>intItems_at z) (S:=(s.heap.push { cls:=.type "list_iterator",data:=.fields #[.ref l,.int 0 0] }).objs.size) (fun hm=>Za _ (hfp _ hm)) _ 0 _ #[] _ rfl (ZP _) (W.frame _ _ _ st fun b _ o e=>ZF _ e) (ZN _ rfl) (.inl ⟨rfl,rfl⟩) fun v h' tk hv hk=>?_⟩;refine h v h' tk ?_ (old_kept (l:=l) fun b o hb e=>hk b o hb (ZO (ZG e)) (ZF _ e));rw[sz]at hv;exact hv)
section
variable {X:Cx}{K:W.Frag}{e:Expr}{te:TE}{p pos kpos cp:Pos}{kd:Nat}{i:Int}
def KC(K:W.Frag)(i:Int)(te:TE):TE:=fun σ H Q=>te σ H fun x H1=>∃l ns,x=.ref l/\Yv K H1 l (ns.map V.int)/\∀M:Int,(ns=[]->M=i)->(ns≠[]->M∈ns/\∀a∈ns,a<=M)->Q (.int M) H1
theorem TU(h:Ad te):Ad (KC K i te):=fun σ H Q Q' j q=>h _ _ _ _ (fun x H1 ⟨l,ns,h1,h2,q⟩=>⟨l,ns,h1,h2,fun M a b=>j _ _ (q M a b)⟩) q
theorem L9 (he:PE X e te) (hm:X.mg "max" = none) (hc:X.calm=true) (hg:Gl X "max":=by rfl) (hK:X.K=K:=by rfl)
 (hst:starEach [e] X.env=(false,eval e X.env)::starEach [] X.env:=by rfl) :
 PE X (.Call (.Name "max" p) [e] [⟨some "default",.Constant (.int i) kd cp,kpos⟩] pos) (KC K i te):=by
 intro Ya s σ H Q I h;subst hK;refine wpAny_Call_Name_kw (CI I hg hm (show bootBuiltins "max" = some (.builtin "max") by kernel_rfl) ?_);refine callWith_kw (e:=e) (rest:=[]) (id:="max") ?_ (by rw[hst];rfl) (by rw[hst];rfl);refine Ym ((AA he AB hst) pos Ya s σ H (fun vs H1=>match vs with | [x]=>(∃l ns,x=.ref l/\Yv X.K H1 l (ns.map V.int)/\∀M:Int,(ns=[]->M=i)->(ns≠[]->M∈ns/\∀a∈ns,a<=M)->Q (.int M) H1) | _=>False) I h) fun us s1 ⟨vs,H1,I1,r1,q1⟩=>?_
 match vs,r1,q1 with
 | [_],.cons rx .nil,⟨l,ns,ex,hl,q⟩ =>
 subst ex;cases rx;show wpAny _ _ (evalAll ((do let v <- eval (.Constant (.int i) kd cp) X.env;standAt pos;pure v)::[])) _ _ s1;refine wpAny_evalAll_cons (ZA (wpAny_Constant_int (ZA (ZBK (ZB (wpAny_evalAll_nil ?_))))));obtain⟨Yf,rv,pl,hz⟩:=I1.list hl;have hi:IntsAre Yf ns:=by simpa using Ey rv
 obtain⟨zs,hzs⟩:=(hi.allInts).items;have pl':=pl.isList;rw[hzs]at pl'
 have hns:ns=zs.toList.map (·.1):=by
  rw[<- hi.numsOf,<- nums_intItems,<- hzs]
 have Yk:ns.length=zs.size:=by rw[hns,ZC,Zh]
 have hnum:∀j,j < zs.size->∃z,ns[j]? = some z/\numAt zs j=z:=fun j hj=>by
  rw[hns];exact⟨zs[j].1,by simp[hj],by simp[numAt,hj]⟩
 refine QN (I1.ok.hd hc) pl' fun v h' tk hv hk=>?_
 rcases hv with ⟨z,rfl⟩ | ⟨j,hj,ev,hm⟩
 ·have:ns=[]:=List.length_eq_zero_iff.mp (by lia)
  exact⟨.int i,H1,I1.kept (t':=tk) hk,⟨_,rfl⟩,q i (fun _=>rfl) (fun y=>absurd this y)⟩
 ·obtain⟨t,rfl⟩:=intItems_at ev;obtain⟨z,ez,e2⟩:=hnum j hj;refine⟨.int (numAt zs j),H1,I1.kept (t':=tk) hk,⟨_,rfl⟩,q _ (fun y=>?_) fun _=>⟨?_,fun a ha=>?_⟩⟩
  ·rw[y]at Yk;simp at Yk;lia
  ·rw[e2];exact Zo ez
  ·obtain⟨j',hj'⟩:=List.getElem?_of_mem ha;have Yr:j' < zs.size:=by rw[<- Yk];exact(Zg.mp hj').1
   obtain⟨z',ez',e2'⟩:=hnum j' Yr;rw[hj']at ez';cases ez';rw[<- e2'];exact hm j' Yr
end
end L2
namespace L2
open PySem PyProof.Rows
def EW(K:W.Frag):V->List V->Hp->VK->Prop:=fun x vs H Q=>match x,vs with
 | .ref l,[.ref b]=>∃xs ys,H l=some (.lst xs)/\Yv K H b ys/\b≠l/\xs.length+ys.length<=16000000/\Q .non (upd H l (.lst (xs++ys)))
 | _,_=>False
section
variable {X:Cx}{K:W.Frag}{o e:Expr}{to:TE}{t:TA}{apos cpos:Pos}
theorem O6:MtR X "list.extend" (EW X.K):=by
 intro Ya s σ H x vs v us Q I rx rv q
 match x,vs,q with
 | .ref l,[.ref b],⟨xs,ys,hH,hb,Yw,h3,q⟩ =>
 cases rx;obtain⟨u,rfl,ru⟩:=BU rv;cases ru;obtain⟨z,Yf,n,r,hl,e⟩:=I.lstM hH;obtain⟨its2,r2,pl2,hz2⟩:=I.list hb;obtain⟨o2,e2,c2,n2,d2⟩:=pl2.isList;have l1:=r.length;have l2:=r2.length;have hlb:l≠b:=Ne.symm Yw;refine Zx F.slot_list_extend ⟨_,e,rfl⟩ F.entry_list_extend ?_ (F.args_list_extend_2 _ _);show wpAny _ _ (Builtin.List.listExtendWith (.ref l) (.ref b) .none) _ _ s;unfold Builtin.List.listExtendWith;refine ZA (wpAny_typeOf (T:="list") ⟨o2,e2,c2⟩ ?_);have h1:Builtin.List.listSameRef (.ref l) (.ref b)=false:=by simp[Builtin.List.listSameRef,hlb]
 have h2:(Value.type "list" == Value.type "list")=true:=by decide
 simp only[h1,h2,Bool.true_or,if_true];refine ZA (listItems_at e2 d2 (ZA (listItems_at e rfl ?_)))
 rw[if_neg (by
  rw[ZQ];rintro⟨_,q⟩;unfold Builtin.List.listTooLong at q;simp[sizeLine_eq]at q;lia)]
 refine ZA (listUpdate_at e rfl ?_ (by rw[ZJ,sizeLine_eq];lia) (by rw[Array.size_append,ZJ,ZJ,sizeLine_eq];lia));refine ZB ⟨_,rfl,?_⟩;exact⟨.non,_,I.lset (its':=Yf++its2) hH e (by simp) (r.append r2) (by rw[ZU,sizeLine_eq];lia),rfl,q⟩
theorem T3 (ho:PE X o to) (ha:PA X [e] t) (hbase:attributeBase o "extend" X.env (eval o X.env)=eval o X.env:=by rfl)
 (hfew:((backTo cpos (starEach [e] X.env)).all (fun x=>!x.1) && (backToKw cpos (keywordEach [] X.env)).all (fun x=>x.1.isSome)
   && decide ([e].length+([]:List Keyword).length+(if ([]:List Keyword).isEmpty then 0 else 1) < 30))=true:=by rfl)
 (hline:(apos.endLine == cpos.line)=true:=by rfl) (hs:starEach [e] X.env=(false,eval e X.env)::starEach [] X.env:=by rfl) (hplain:(backTo cpos (starEach [] X.env)).any (·.1)=false:=by rfl) (hK:X.K=K:=by rfl) :
 PE X (.Call (.Attribute o "extend" apos) [e] [] cpos) (tBM K "list" (EW K) to t):=hK ▸ Ej PySem.F.plainAttrs_list PySem.F.slot_list_extend PySem.F.type_list_extend O6 ho ha hbase hfew hline hs hplain
theorem V9:Dq (EW K):=fun x xs H Q Q' h q=>by
 unfold EW at *;split at q
 ·obtain⟨a,b,c,d,n,e,q⟩:=q;exact⟨a,b,c,d,n,e,h _ _ q⟩
 ·exact q.elim
end
theorem K6 {d:Addr} {o:Obj} {Yd:List (Key × V)} {g:TG} {tc:TT} {te:TE} {σc:St} {Q:VK} {H:Hp} (Pv:Nat->List V->Hp->Prop) (h0:Pv 0 [] H) (hl:∀i ys H,i<=Yd.length->Pv i ys H->H d=some (.frz o (.dK Yd))) (hz:∀i ys H,i < Yd.length->Pv i ys H->ys.length < sizeLine)
 (hs:∀i r p ys H,Yd[i]? = some r->Pv i ys H->H p=none->g (.ref p) σc (upd H p (.tup [kV r.1,r.2])) fun σ2 H2=>tc σ2 H2 fun b H3=>if b=true then te σ2 H3 fun y H4=>Pv (i+1) (ys++[y]) H4 else Pv (i+1) ys H3)
 (hd:∀ys H,Pv Yd.length ys H->∀p,H p=none->Q (.ref p) (upd H p (.lst ys))):C3 (Itm d o) g tc te σc Q H:=by
 refine⟨fun i m ys H=>m=Yd.length - i/\i<=Yd.length/\Pv i ys H,⟨Yd.length,by simp,ZP _,h0⟩,?_⟩;rintro i m ys H ⟨rfl,hi,p⟩;have q:=hl i ys H hi p
 by_cases Yr:i < Yd.length
 ·refine .inr ⟨⟨Yd,Yd[i],q,by simp[Yr]⟩,hz i ys H Yr p,Pv (i+1),fun ys' H' p'=>⟨Yd.length - (i+1),by lia,rfl,Yr,p'⟩,fun x H' y=>?_⟩;obtain⟨pp,kvs',r,e1,e2,e3,rfl,rfl⟩:=y;rw[q]at e1;cases e1;exact hs i r pp ys H e2 p e3
 ·have e:i=Yd.length:=by lia
  subst e;exact .inl ⟨⟨Yd,q,ZD _⟩,hd ys H p⟩
end L2
namespace L2
open PySem PySem.Spec PyProof.Rows
variable {base:Heap}{x:Addr}{cls:Value}{od:Option Addr}{Q:Unit->Shared->Prop}{t:Option (Addr × Value)}
def ExA(h:Heap)(x:Addr)(cls:Value)(od:Option Addr)(t:Option (Addr × Value)):Prop :=
 ∃oe vs,h.get? x=some oe/\oe.cls=cls/\oe.dict=od/\oe.data=.fields vs/\match t with
  | none=>vs[1]? = some .none
  | some (T,fl)=>vs[1]? = some (.ref T)/\T≠x/\∃oT ts,h.get? T=some oT/\oT.data=.fields ts/\ts[3]? = some fl
def Sl(fs ch:List Addr)(h h':Heap):Prop:=∀b o,h.get? b=some o->b∉ch->(b∉fs->h'.get? b=some o)/\∃sl,h'.get? b=some { o with slots:=sl }
section
variable {M:Model}{A:Around}{E:Value->Shared->Prop}{s:Shared}
theorem RM(h:Heap)(a:Addr)(f:Obj->Obj):(h.update a f).objs.size=h.objs.size:=by
 have:=(Z3 h a f).1
 exact this
theorem Ll {env:Env} {outer:List Env} {L:Addr} {head:Value} {oe:Obj} {vs:Array Value} {hadNext:Bool} 
 (hfr:A.frames=some (env::outer)) (hl:s.heap.FunFrames base (env::outer)) (hf:env.frame=some L) (he:s.heap.get? x=some oe) (hc:oe.cls=cls) (ho:oe.dict=od) (hd:oe.data=.fields vs) (hsz:1 < vs.size)
 (k:∀h' T,ExA h' x cls od (some (T,rawInt L))->s.heap.get? T=none->Sl (frs (env::outer)) [x] s.heap h'->Q () { s with heap:=h' }) :
 wpAny M A (do let a <- frameOf env;let pl <- entryPlaceOf L hadNext;let b <- EntryCells.newEntry head a .none (rawInt L) .none pl;setField (.ref x) 1 b) Q E s:=by
 have hxf:x∉frs (env::outer):=fun hm=>by
  obtain⟨_,o,h1,h2⟩:=hl.mem hm;rw[he]at h1;cases h1;exact h2 vs hd
 refine ZA (wpAny_frameOf_fun hfr hl hf fun g1 sg=>ZA (wpAny_entryPlaceOf fun pl hpl=>?_));obtain⟨sz1,sm1,so1⟩:=sg;unfold EntryCells.newEntry newFields;refine ZA (Zn ?_ (hpl.sizeOk5 _ _ _ _ _));have e1:g1.get? x=some oe:=by rw[sm1 x hxf];exact he
 generalize hob:({ cls:=.type "traceback",dict:=none,data:=.fields ([head,.ref L,.none,rawInt L,.none]++(if pl.isEmpty then List.replicate 6 Value.none else pl)).toArray }:Obj)=ob;have e2:=ZF ob e1;refine ZBI e2 hd hsz ?_;have nT:g1.objs.size≠x:=ZBN (ZG e1);have obf:ob.isFreed=false:=by rw[<- hob];rfl
 have eT:=ZN g1 obf;have d3:=Obj.data_mapFields hd (·.setIfInBounds 1 (Value.ref g1.objs.size));refine k _ g1.objs.size ⟨_,_,ZBG _ e2 (Obj.isFreed_of_fields d3),(Obj.cls_mapFields ..).trans hc,?_,d3,by simp[hsz],nT,ob,_,?_,by rw[<- hob],?_⟩ (ZBU (by rw[sz1];exact ZD _)) fun b o hb hn=>?_
 ·obtain⟨c,d,dt,sl⟩:=oe;cases dt <;> first | (cases hd;done) | exact ho
 ·rw[Zu _ _ (Ne.symm nT)];exact eT
 ·first | (simp;done) | (rcases hpl with rfl | ⟨_,_,_,_,_,_,_,rfl⟩ <;> simp)
 ·have nb:b≠x:=fun z=>hn (by rw[z];exact ZI.mpr rfl)
  refine⟨fun nf=>?_,?_⟩
  ·rw[Zu _ _ (Ne.symm nb)];exact ZF _ (by rw[sm1 b nf];exact hb)
  ·obtain⟨sl,e5⟩:=so1 b o hb;exact⟨sl,by rw[Zu _ _ (Ne.symm nb)];exact ZF _ e5⟩
theorem Np {env:Env} {outer:List Env} {L:Addr} 
 (hfr:A.frames=some (env::outer)) (hl:s.heap.FunFrames base (env::outer)) (hf:env.frame=some L) (he:ExA s.heap x cls od t) (ht:t=none\/∃T,t=some (T,.none))
 (k:∀h' T,ExA h' x cls od (some (T,rawInt L))->s.heap.get? T=none->Sl (frs (env::outer)) (x::(t.map (·.1)).toList) s.heap h'->Q () { s with heap:=h' }):wpAny M A (noteFrame (.ref x) env) Q E s:=by
 obtain⟨oe,vs,e1,e2,e3,e4,e5⟩:=he;unfold noteFrame;simp only[hf]
 rcases ht with rfl | ⟨T0,rfl⟩
 ·refine ZA (ZBD e1 e4 e5 ?_);rw[if_neg (by decide)];exact Ll hfr hl hf e1 e2 e3 e4 (ZBq.mp e5).1 k
 ·obtain⟨e5,nT,oT,ts,g1,g2,g3⟩:=e5;refine ZA (ZBD e1 e4 e5 ?_);rw[if_pos (by simp)];refine ZA (ZBD g1 g2 g3 ?_);rw[if_neg (by simp[rawInt])];refine ZA (ZBI g1 g2 (ZBq.mp g3).1 ?_);have ot:∀b,b≠T0->(s.heap.update T0 (Obj.mapFields (·.setIfInBounds 3 Value.none))).get? b=s.heap.get? b:=fun b hb=>Zu _ _ (Ne.symm hb)
  have nf:∀b o,s.heap.get? b=some o->(∀vs,o.data≠.fields vs)->b≠T0:=fun b o hb h z=>by
   rw[z,g1]at hb;cases hb;exact h ts g2
  refine Ll hfr (hl.of_keeps fun b o hb h=>⟨o,by rw[ot b (nf b o hb h)];exact hb,rfl⟩) hf (by rw[ot x (Ne.symm nT)];exact e1) e2 e3 e4 (ZBq.mp e5).1 fun h' T a1 a2 a3=>k h' T a1 ?_ fun b o hb hn=>?_
  ·cases q:s.heap.get? T with
   | none=>rfl
   | some o =>
    by_cases z:T=T0
    ·have hf3:=Obj.data_mapFields g2 (·.setIfInBounds 3 Value.none)
     have:=ZBG (Obj.mapFields (·.setIfInBounds 3 Value.none)) g1 (Obj.isFreed_of_fields hf3)
     rw[z]at a2;rw[this]at a2;cases a2
    ·rw[ot T z,q]at a2;cases a2
  ·have n1:b≠x:=fun z=>hn (by rw[z];exact Zb)
   have n2:b≠T0:=fun z=>hn (by rw[z];exact ZW _ (ZI.mpr rfl))
   exact a3 b o (by rw[ot b n2];exact hb) (fun z=>n1 (ZI.mp z))
theorem Mr {T:Addr} {fl:Value} (he:ExA s.heap x cls od (some (T,fl)))
 (k:∀h',ExA h' x cls od (some (T,.none))->(∀b,b≠T->h'.get? b=s.heap.get? b)->h'.objs.size=s.heap.objs.size->Q () { s with heap:=h' }):wpAny M A (setFlight (.ref x) none) Q E s:=by
 obtain⟨oe,vs,e1,e2,e3,e4,e5,nT,oT,ts,g1,g2,g3⟩:=he;have z3:3 < ts.size:=(ZBq.mp g3).1;unfold setFlight;refine ZA (ZBD e1 e4 e5 ?_);rw[if_pos (by simp)];refine ZBI g1 g2 z3 (k _ ⟨oe,vs,?_,e2,e3,e4,e5,nT,_,_,ZBG _ g1 (Obj.isFreed_of_fields (Obj.data_mapFields g2 _)),Obj.data_mapFields g2 _,by simp[z3]⟩ (fun b hb=>Zu _ _ (Ne.symm hb)) (RM ..));rw[Zu _ _ nT];exact e1
theorem Jv {env:Env} {outer:List Env} {L:Addr} 
 (hfr:A.frames=some (env::outer)) (hl:s.heap.FunFrames base (env::outer)) (hf:env.frame=some L) (he:ExA s.heap x cls od t) (ht:t=none\/∃T,t=some (T,.none))
 (k:∀h' T,ExA h' x cls od (some (T,.none))->s.heap.get? T=none->Sl (frs (env::outer)) (x::(t.map (·.1)).toList) s.heap h'->Q () { s with heap:=h' }) :
 wpAny M A (noteFrame (.ref x) env) (fun _ s1=>wpAny M A (setFlight (.ref x) none) Q E s1) E s :=
 Np hfr hl hf he ht fun h1 T a1 a2 a3=>Mr (s:={ s with heap:=h1 }) a1 fun h2 b1 b2 b3=>k h2 T b1 a2 fun b o hb hn=>by
  obtain⟨c1,sl,c2⟩:=a3 b o hb hn;have nT:b≠T:=fun z=>by rw[z,a2]at hb;cases hb
  exact⟨fun nf=>(b2 b nT).trans (c1 nf),sl,(b2 b nT).trans c2⟩
theorem KA {env:Env} {outer:List Env} {L:Addr} 
 (hfr:A.frames=some (env::outer)) (hl:s.heap.FunFrames base (env::outer)) (hf:env.frame=some L) (he:ExA s.heap x cls od t) (ht:t=none\/∃T,t=some (T,.none))
 (k:∀h' T,ExA h' x cls od (some (T,.none))->s.heap.get? T=none->Sl (frs (env::outer)) (x::(t.map (·.1)).toList) s.heap h'->Q () { s with heap:=h' }):wpAny M A (leaving env (.ref x)) Q E s:=by
 unfold leaving;exact ZA (Jv hfr hl hf he ht k)
end
def CXE(P:Program)(w:World):CXT:=fun outer H s E e s'=>∃x cls od T H',e=.ref x/\s'.os=s.os/\AllBare s'.gens/\Un (frs outer) [] H H' s.heap s'.heap/\HOk P w H' s'.heap/\ExA s'.heap x cls od (some (T,.none))/\(s.heap.get? x=none/\s.heap.get? T=none)/\(H' x=none/\H' T=none)/\E cls od H'
theorem Fun.okE {P:Program} {w:World} {K:W.Frag} {mg:Str->Option Value} {x qual:Str} {st:Stmt} {f:Addr} {fd:FuncData} {N ps:List Str} {k:Nat} {sp:Sp} (F:Fun K x qual st f fd) (S:FnScope N ps (AJ st)) (len:∀vs H Q E,sp vs H Q E->vs.length=ps.length)
 (hbody:∀(Yy:Value) (A:Around) (outer:List Env) (s:Shared) (H:Hp) (vs:List V) (Q:VK) (E:XK),Room k (A.deeper (envOfC qual (AJ st) s.heap.objs.size f Yy))->sp vs H Q E ->
   ∃t,PSs (Bz (CXE P w) P w K mg base N qual (AJ st) f Yy A outer s H E) (BD st) t/\t { nx:=fun _ H'=>Q .non H',rt:=Q } (CS N vs) H):FnOk P w K mg base (CXE P w) (k+1) f fd ps sp:=by
 obtain⟨oc,od,kV,doc,pm,an,Yy,ct,osl,rfl,lk,hcd⟩:=F.ex;exact Hc lk hcd S len fun A outer s H vs Q E hr hsp=>hbody Yy A outer s H vs Q E hr hsp
section
variable {X:Cx}{Ya:List (Addr × Obj)}{σ:St}{H H':Hp}{s:Shared}{h':Heap}
theorem PS.nox{st:Stmt}{t:TS}(h:PS X.nox st t):PS X st t:=fun Ya s σ H D I hw =>
 ZZ (h Ya s σ H D (I.wish _) hw) (fun _ _ q=>q.unwish) fun _ _ z=>False.elim z
theorem ObjOk.is{P:Program}{w:World}{h:Heap}{a:Addr}{o:HO}(x:ObjOk P w H h a o):∃u,h.get? a=some u:=by
 cases o with
 | lst xs=>obtain⟨_,_,_,_,e⟩:=x;exact⟨_,e⟩
 | tup xs=>obtain⟨_,_,_,o,e,_⟩:=x;exact⟨_,e⟩
 | dK Yd=>obtain⟨_,_,_,_,o,_,_,e,_⟩:=x;exact⟨_,e⟩
 | dT Yd=>obtain⟨_,_,_,_,o,_,_,e,_⟩:=x;exact⟨_,e⟩
 | set S n=>obtain⟨o,_,_,_,e,_⟩:=x;exact⟨_,e⟩
 | ins C dx fs=>obtain⟨_,_,_,e,_⟩:=x;exact⟨_,e⟩
 | own y=>exact x
 | xd fs=>obtain⟨_,⟨_,_,_,e,_⟩,_⟩:=x;exact⟨_,e⟩
 | rng lo hi=>obtain⟨_,_,_,e⟩:=x;exact⟨_,e⟩
 | frz ob u=>obtain⟨e,_⟩:=x;exact⟨_,e⟩
 | tbl ps=>exact⟨_,x⟩
 | met f y=>exact⟨_,x⟩
 | ext φ=>obtain⟨_,e,_⟩:=x;exact e
theorem EI{P:Program}{w:World}{h:Heap}{a:Addr}(hok:HOk P w H h)(n:h.get? a=none):H a=none:=by
 cases e:H a with
 | none=>rfl
 | some o =>
  obtain⟨u,q⟩:=(hok a o e).is;rw[n]at q;cases q
end
abbrev Jn:List Value:=[.type "ValueError",.type "Exception",.type "BaseException",.type "object"]
def Jh(x:Addr)(cls:Value)(od:Option Addr)(h:Heap):Prop:=∃oe vs,h.get? x=some oe/\oe.cls=cls/\oe.dict=od/\oe.data=.fields vs
abbrev FV(x:Addr)(cls:Value)(od:Option Addr):HO:=.ext (Jh x cls od)
theorem Su{P:Program}{w:World}{H:Hp}{h:Heap}(e:Jh x cls od h):ObjOk P w H h x (FV x cls od) :=
 ⟨e,let ⟨oe,_,q,_⟩:=e;⟨oe,q⟩,fun _ _ ⟨oe,vs,q,r⟩ k=>⟨oe,vs,k oe q,r⟩⟩
theorem ExA.has{h:Heap}(e:ExA h x cls od t):Jh x cls od h:=let ⟨oe,vs,a,b,c,d,_⟩:=e;⟨oe,vs,a,b,c,d⟩
def Cx.hand(X:Cx)(e:Value):Cx:={ X with A:=X.A.mark (some e),calm:=false,xe:=fun _ _=>False }
section
variable {X:Cx}{Ya:List (Addr × Obj)}{σ:St}{H H':Hp}{s s1:Shared}{h:Heap}
theorem Yg.hand(I:Yg X Ya σ H s)(e:Value):Yg (X.hand e) Ya σ H s :=
 ⟨⟨I.ok.mod,I.ok.kind,I.ok.glob,I.ok.blt,I.ok.above,I.ok.inj,I.ok.has,I.ok.cab,(fun z=>by cases z),I.ok.frames,I.ok.stk,I.ok.exf,I.ok.bs,I.ok.bsz,I.ok.noex,I.ok.exfs,I.ok.funs,I.ok.frf⟩,I.os,I.bare,I.base,I.loc,I.cell,I.free,I.freeC,I.pin,I.hok,I.len⟩
theorem Yg.unhand{e:Value}(J:Yg X Ya σ H s){pins':List (Addr × Obj)}{σ':St}{H1:Hp}{s2:Shared}(I:Yg (X.hand e) pins' σ' H1 s2):Yg X pins' σ' H1 s2 :=
 ⟨J.ok,I.os,I.bare,I.base,I.loc,I.cell,I.free,I.freeC,I.pin,I.hok,I.len⟩
theorem NB {T:Addr} (I:Yg X Ya σ H s) (ho:s1.os=s.os) (hb:AllBare s1.gens) (u:Un (frs X.stack) [] H H' s.heap s1.heap) (hk:HOk X.prog X.w H' s1.heap)
 (nx:s.heap.get? x=none) (nT:s.heap.get? T=none) (fx:H' x=none) (fT:H' T=none) (c:Sl (frs X.stack) [x,T] s1.heap h) (ex:ExA h x cls od t):Yg X Ya σ (upd H' x (FV x cls od)) { s1 with heap:=h }:=by
 have I1:Yg X Ya σ H' s1:=I.call' ho u hk hb (ch:=[]) fun b z=>absurd z (by simp)
 have hxH:H x=none:=EI I.hok nx;have up:∀b,b≠x->upd H' x (FV x cls od) b=H' b:=fun b n=>AI n
 have nin:∀b o,s.heap.get? b=some o->b∉[x,T]:=fun b o e z=>by
  rcases ZH.mp z with rfl | z
  ·rw[nx]at e;cases e
  ·rw[ZI.mp z,nT]at e;cases e
 refine I.call' (s':={ s1 with heap:=h }) (ch:=[]) ho ⟨fun b o e n nb hx=>?_,fun b o e n nb hx=>?_,fun b o e n hx=>?_,fun b o e hx=>?_,fun b xs e=>?_,fun b o v e=>?_,fun b ps e=>?_⟩ (fun b ob e=>?_) hb fun b z=>absurd z (by simp)
 ·exact(c b o (u.keep b o e n nb hx) (nin b o e)).1 nb
 ·obtain⟨sl,e1⟩:=u.slot b o e n nb hx;obtain⟨sl2,e2⟩:=(c b _ e1 (nin b o e)).2;exact⟨sl2,e2⟩
 ·rw[up b fun z=>by rw[z,nx]at e;cases e];exact u.free b o e n hx
 ·obtain⟨o1,e1⟩:=u.there b o e hx;obtain⟨sl2,e2⟩:=(c b _ e1 (nin b o e)).2;exact⟨_,e2⟩
 ·rw[up b fun z=>by rw[z,hxH]at e;cases e];exact u.tups b xs e
 ·rw[up b fun z=>by rw[z,hxH]at e;cases e];exact u.frzs b o v e
 ·rw[up b fun z=>by rw[z,hxH]at e;cases e];exact u.tbls b ps e
 ·by_cases z:b=x
  ·subst z;rw[AD]at e;cases e;exact Su ex.has
  ·rw[up b z]at e;have neq:∀c2 o2,H' c2=some o2->c2≠x:=fun c2 o2 q z=>by rw[z,fx]at q;cases q
   refine(hk b ob e).stay (fun c2 v hc q=>?_) (fun c2 q=>by rw[up c2 (neq _ _ q)];exact q) fun c2 xs q=>by rw[up c2 (neq _ _ q)];exact q
   obtain⟨o2,q2⟩:∃o2,H' c2=some o2:=by
    rcases hc with rfl | hc
    ·exact⟨_,e⟩
    ·exact⟨_,hc⟩
   refine(c c2 v q fun m=>?_).1 fun m=>?_
   ·rcases ZH.mp m with z2 | z2
    ·exact neq _ _ q2 z2
    ·rw[ZI.mp z2,fT]at q2;cases q2
   ·rw[I1.stkFree c2 m]at q2;cases q2
end
abbrev TX:=St->Hp->VK->XK->Prop
def PX(X:Cx)(e:Expr)(t:TX):Prop :=
 ∀(Ya:List (Addr × Obj)) (s:Shared) (σ:St) (H:Hp) (Q:VK) (E:XK),Yg X Ya σ H s->t σ H Q E->wpAny (model X.prog X.w) X.A (eval e X.env) (EP X Ya σ Q) (fun ev s'=>∃H1 s1,Yg X Ya σ H1 s1/\CXE X.prog X.w X.stack H1 s1 E ev s') s
def Qy(sp:Sp)(dvs:List V)(t:TA):TX:=fun σ H Q E=>t σ H fun vs H1=>sp (vs++dvs) H1 Q E
section
variable {X:Cx}{k:Nat}{f C:Addr}{fd:FuncData}{ps:List Str}{sp:Sp}{dvs:List V}{ds:List Value}{x c y n:Str}{p p1 p2 p3 pos:Pos}{e:Expr}{es:List Expr}{t:TA}{tx:TX}{ts:TS}{i j:Nat}{b:Stmt}{bs:List Stmt}
theorem SK (F:FnOk X.prog X.w X.K X.mg X.base (CXE X.prog X.w) k f fd ps sp) (hr:Room k X.A) (hg:Gl X x) (hm:X.mg x=some (.ref f)) (hk:PySem.W.keepIn X.K (.ref f)=true) (hb:Binds X.K fd ps ds) (hd:Yj dvs ds)
 (ha:PA X.nox (e::es) t) (hdb:(x == ("__debug__" : Str))=false:=by decide) (he:starEach (e::es) X.env=(false,eval e X.env)::starEach es X.env:=by rfl) (hpl:(backTo pos (starEach es X.env)).any (·.1)=false:=by rfl) :
 PX X (.Call (.Name x p) (e::es) [] pos) (Qy sp dvs t):=by
 intro Ya s σ H Q E I h;refine wpAny_Call_Name_kw (DQ I hg hm ?_ hdb);refine PySem.W.callWith_K (h₀:=X.base) I.ok.mod.kin hk (ZZ (ha pos Ya s σ H _ (I.wish _) h) (fun us s1 ⟨vs,H1,I1,r,q⟩=>⟨I1.kIn,?_⟩) fun _ _ z=>False.elim z) he hpl;have I1:=I1.unwish;have r2:Yj (vs++dvs) (us++ds):=r.append hd;have hl:(us++ds).length=ps.length:=by rw[<- r2.length];exact F.len _ _ _ _ q
 refine wpAny_call (ZBF (F.run X.A X.stack s1 H1 ⟨us,[]⟩ (us++ds) (vs++dvs) Q E hr I1.env0 (hb s1 us I1.kIn hl) r2 q) fun r s' hq=>?_);cases r with
 | error ev=>exact⟨H1,s1,I1,hq⟩
 | ok fl =>
  cases fl with
  | ret u=>exact I1.after hq
  | next=>exact False.elim hq
  | brk=>exact False.elim hq
  | cont=>exact False.elim hq
end
structure ExcC(K:W.Frag)(C:Addr):Prop where
 ga:PySem.W.findIn K (.ref C) "__getattribute__" = some (some (.builtin "BaseException.__getattribute__"))
 nga:PySem.W.findIn K (.ref C) "__getattr__" = some none
 mro:PySem.W.mroIn K C (.type "BaseException")=some true
 obj:PySem.W.mroIn K C (.type "object")=some true
 cl:PySem.W.findIn K (.ref C) "__class__" = some (some (.builtin "object.__class__"))
 ge:PySem.W.specialIn K (.builtin "object.__class__") "__get__" = some (some (.builtin "getset_descriptor.__get__"))
 tk:PySem.W.takesIn K (.builtin "object.__class__")=some true
def ED(K:W.Frag)(C fI:Addr):Bool:=match K.lookup C with
 | some ⟨.type "type",_,.cls cd,sl⟩=>(match cd.mro,sl.toList with
  | .ref C'::bm,[_,_,_,_,some (.builtin n),_]=>C' == C && n == "ValueError.__new__" && !cd.hasDel && cd.hasDict && PySem.W.tailIn K Jn bm && PySem.W.nsOkIn K cd.ns && PySem.W.nsIn K cd.ns "__init__" == some (some (.ref fI))
  | _,_=>false)
 | _=>false
theorem Pf{K:W.Frag}{h:Heap}{N:Addr}{mg:Str->Option Value}{n:Str}{v:Value}(X:K.In h)(G:h.Ns N mg)(e:PySem.W.nsIn K N n=some (some v)):mg n=some v:=by
 obtain⟨o,es,ep,ho,hd,_,hf⟩:=G;unfold PySem.W.nsIn at e;split at e
 ·rename_i c d es' n' sl q;have z:=X _ _ q;rw[ho]at z;cases z;cases hd;split at e
  ·rename_i en he;cases e;rw[<- hf];unfold nsFind findBy;rw[<- Array.find?_toList,he];rfl
  ·split at e <;> cases e
 ·cases e
theorem FX{K:W.Frag}{h:Heap}{C fI:Addr}(X:K.In h)(q:ED K C fI=true):∃(nm qn:Str) (N:Addr) (bs bm:List Value) (sn:List Str) (sub:List Value) (ab:Bool) (col:Option Bool) (dd:Option Addr) (k0 k1 k2 k3 k5:Option Value) (mN:Str->Option Value),
 h.get? C=some (excClassObj nm qn C N bs bm true sn sub ab col dd k0 k1 k2 k3 k5 "ValueError.__new__")/\h.Ns N mN/\mN "__init__" = some (.ref fI)/\OwnTail h Jn bm/\∃cd,PySem.W.clsIn K C=some cd/\cd.mro=.ref C::bm/\cd.hasDict=true:=by
 unfold ED at q;split at q
 case h_2=>cases q
 rename_i od cl sls hlk;split at q
 case h_2=>cases q
 rename_i C2 rest a0 a1 a2 a3 nid a5 hmro hslots;simp only[ZQ,beq_iff_eq,ZBZ]at q;obtain⟨⟨⟨⟨⟨⟨z1,z2⟩,z3⟩,z7⟩,z4⟩,z5⟩,z6⟩:=q;subst z1;subst z2;have hcd:PySem.W.clsIn K C2=some cl:=by unfold PySem.W.clsIn;rw[hlk]
 cases cl with
 | mk nm bs mro ns qn hd sn sub ab col del =>
  have m1:mro=.ref C2::rest:=hmro;have m2:del=false:=z3;have m4:hd=true:=z7;subst m1;subst m2;subst m4
  have m3:sls = #[a0,a1,a2,a3,some (.builtin "ValueError.__new__"),a5]:=by
   cases sls with
   | mk l=>exact congrArg Array.mk hslots
  subst m3;have G:h.Ns ns (h.nsMap ns):=.of_isNs (PySem.W.isNs_of_in X z5);exact⟨nm,qn,ns,bs,rest,sn,sub,ab,col,od,a0,a1,a2,a3,a5,h.nsMap ns,X _ _ hlk,G,Pf X G z6,PySem.W.tail_of_in X z4,_,hcd,rfl,rfl⟩
section
variable {prog:Program} {w:World} {A:Around} {E:Value->Shared->Prop} {h:Heap} {g:Array GenState} {d:Drawn} {t:Nat} {os:OsState}
 {nm q:Str} {C N:Addr} {bs bm bmB:List Value} {hdct:Bool} {sn:List Str} {sub:List Value} {ab:Bool} {col:Option Bool} {dd:Option Addr} {k0 k1 k2 k3 k5:Option Value} {B Bn newId nid initId inN:String} {bmN:List Value}
theorem WS (Fn:ExcBaseFacts Bn newId inN bmN) (hBn:bmB.contains (.type Bn)=true) (F:ExcBaseFacts B nid initId bmB) (T:OwnTail h bmB bm) {mN:Str->Option Value} {rest:List Value} {fI:Addr} {oI:Obj} {Q:Fin->Shared->Prop}
 (hC:h.get? C=some (excClassObj nm q C N bs bm hdct sn sub ab col dd k0 k1 k2 k3 k5 newId)) (hn:h.Ns N mN) (hi:mN "__init__" = some (.ref fI)) (hfI:h.get? fI=some oI) (hfc:oI.cls=.type "function") (hrest:rest.length<=sizeLine)
 (hq:∀h' e,Heap.MadeExcOf h h' e (.ref C) rest->wpAny (model prog w) A (call (.ref fI) (.ref e::rest)) (fun r s'=>r=.none/\Q (.done (.ret (.ref e))) s') E ⟨h',g,d,t,os⟩) :
 wpAny (model prog w) A (Builtin.«type.__call__» ⟨.ref C::rest,[]⟩) Q E ⟨h,g,d,t,os⟩:=by
 repeat (first | with_reducible refine wpAny_loadPart_at hC ?_ | with_reducible refine wpAny_madeBy_exc hC ?_ | wp_step)
 refine codeAny_call_builtin_code (Code.quiet_builtin _ Fn.quiet) (wpAny_check_new_subU Fn hBn T hC ?_);refine codeAny_exc_new_subU Fn hBn F T hC ?_ hrest;show wpAny _ _ _ _ _ _;generalize ho1:({ cls:=.type "tuple",data:=.seq rest.toArray }:Obj)=o1;generalize ho2:({ cls:=.ref C,data:=.fields #[.ref h.objs.size,.none,.none,.none,.bool false,.none] }:Obj)=o2;have up:∀b o,h.get? b=some o->((h.push o1).push o2).get? b=some o:=fun b o e=>ZF _ (ZF _ e)
 have g2:((h.push o1).push o2).get? (h.objs.size+1)=some o2:=by
  have:=ZN (h.push o1) (o:=o2) (by rw[<- ho2];rfl)
  rwa [Z1]at this
 have g1:((h.push o1).push o2).get? h.objs.size=some o1:=ZF _ (ZN h (by rw[<- ho1];rfl));have c2:o2.cls=.ref C:=by rw[<- ho2]
 have hC1:=up _ _ hC;have hn1:((h.push o1).push o2).Ns N mN:=let ⟨o,es,ep,e,r⟩:=hn;⟨o,es,ep,up _ _ e,r⟩;have hcC:(Value.ref C::bm).contains (.ref C)=true:=by simp
 have T1:=T.keeps (h':=(h.push o1).push o2) up;unfold isInstance
 repeat (first | (with_reducible refine wpAny_loadPart_at g2 ?_;rw[c2]) | (with_reducible refine wpAny_isSubtype_exc hC1 ?_;rw[hcC]) | wp_step)
 show wpAny _ _ (typeLookup (.ref C) _) _ _ _;refine wpAny_typeLookup_tail hC1 hn1 T1 F.mroIs F.init.lookup ?_;rw[hi];refine Zc (ZA ?_);unfold bindSpecial;refine ZA (wpAny_typeOf (T:="function") ⟨_,up _ _ hfI,hfc⟩ ?_);rw[if_pos (by decide)];refine ZB (ZA (ZZ (hq _ (h.objs.size+1) ⟨up,ZBU (ZBV _),h.objs.size,by rw[g2,ho2],ZBU (ZD _),by rw[g1,ho1]⟩) (fun r s' hr=>?_) fun _ _ x=>x));obtain⟨rfl,hQ⟩:=hr
 wp_walk
 exact hQ
theorem WR (Fn:ExcBaseFacts Bn newId inN bmN) (hBn:bmB.contains (.type Bn)=true) (F:ExcBaseFacts B nid initId bmB) (T:OwnTail h bmB bm) {mN:Str->Option Value} {rest:List Value} {fI:Addr} {oI:Obj} {Q:Value->Shared->Prop}
 (hC:h.get? C=some (excClassObj nm q C N bs bm hdct sn sub ab col dd k0 k1 k2 k3 k5 newId)) (hn:h.Ns N mN) (hi:mN "__init__" = some (.ref fI)) (hfI:h.get? fI=some oI) (hfc:oI.cls=.type "function") (hrest:rest.length<=sizeLine)
 (hq:∀h' e,Heap.MadeExcOf h h' e (.ref C) rest->wpAny (model prog w) (A.under (.builtin "type.__call__" ⟨.ref C::rest,[]⟩)) (call (.ref fI) (.ref e::rest)) (fun r s'=>r=.none/\Q (.ref e) s') E ⟨h',g,d,t,os⟩) :
 wpAny (model prog w) A (call (.ref C) rest) Q E ⟨h,g,d,t,os⟩:=by
 have f1:=tc_lookup;have f2:=tc_bind (.ref C);have hT:(⟨h,g,d,t,os⟩:Shared).TypeIs (.ref C) "type":=⟨_,hC,rfl⟩;refine wpAny_call (codeAny_of_tree ?_);show wpAny _ _ (callAny (.ref C) _) _ _ _
 repeat (any_goals (first | assumption | with_reducible refine wpAny_loadPart_at hC ?_ | wp_step))
 exact⟨rfl,codeAny_call_builtin_at (Code.quiet_builtin _ (by decide +kernel)) entry_typeCall (wpAny_check_type_call_sub hC (WS Fn hBn F T hC hn hi hfI hfc hrest fun h' e hm=>hq h' e hm))⟩
theorem Sr {M:Model} {env:Env} {s:Shared} {x:Sem Value} {Q:Flow->Shared->Prop} (hbase:bm.contains (.type "BaseException")=true) (hh:A.handled=none)
 (hx:wpAny M A x (fun v s1=>∃e oe,v=.ref e/\s1.heap.get? C=some (excClassObj nm q C N bs bm hdct sn sub ab col dd k0 k1 k2 k3 k5 newId)/\s1.heap.get? e=some oe/\oe.cls=.ref C/\(∃vs,oe.data=.fields vs/\vs[1]? = some .none)/\E (.ref e) s1) E s) :
 wpAny M A (raiseStmt env (some x) none) Q E s:=by
 have hcB:(Value.ref C::bm).contains (.type "BaseException")=true:=by rw[List.contains_cons,hbase,Bool.or_true]
 unfold raiseStmt;refine ZA (ZZ hx (fun v s1 h1=>?_) fun _ _ x=>x);obtain⟨e,oe,rfl,hC,he,hc,⟨vs,hv,h1⟩,hE⟩:=h1;obtain⟨hp,g,d,tk,os⟩:=s1;obtain⟨oc,od,oda,osl⟩:=oe;cases hc;cases hv
 repeat (first | with_reducible refine wpAny_loadPart_at he ?_ | with_reducible refine wpAny_loadPart_at hC ?_ | (with_reducible refine wpAny_isSubtype_exc hC ?_;rw[hcB]) | wp_step)
 rw[h1]
 repeat (first | with_reducible refine wpAny_loadPart_at he ?_ | wp_step)
 exact wpAny_raiseNew_none hh hE
end
section
variable {prog:Program}{w:World}{A:Around}{E:Value->Shared->Prop}{s:Shared}{env:Env}{K:W.Frag}{C fI:Addr}
theorem Nw {x:Str} {np cpos pos:Pos} {args:List Expr} {Q:Flow->Shared->Prop} {h0:Heap} (X0:K.In h0) (q:ED K C fI=true) (hh:A.handled=none) (hplain:(backTo cpos (starEach args env)).any (·.1)=false)
 (hx:wpAny (model prog w) A (eval (.Name x np) env) (fun f s1=>f=.ref C/\wpAny (model prog w) A (evalArgs (.ref C) true (backTo cpos (starEach args env)) [])
   (fun a s2=>a.kw=[]/\a.pos.length<=sizeLine/\K.In s2.heap/\(∃oI,s2.heap.get? fI=some oI/\oI.cls=.type "function") /\
     ∀h' e,Heap.MadeExcOf s2.heap h' e (.ref C) a.pos->wpAny (model prog w) (A.under (.builtin "type.__call__" ⟨.ref C::a.pos,[]⟩)) (call (.ref fI) (.ref e::a.pos)) (fun r s3=>r=.none/\K.In s3.heap/\(∃oe vs,s3.heap.get? e=some oe/\oe.cls=.ref C/\oe.data=.fields vs/\vs[1]? = some .none)/\E (.ref e) s3) E { s2 with heap:=h' }) E s1) E s) :
 wpAny (model prog w) A (exec (.Raise (some (.Call (.Name x np) args [] cpos)) none pos) env) Q E s:=by
 obtain⟨nm,qn,N,bs,bm,sn,sub,ab,col,dd,k0,k1,k2,k3,k5,mN,hC0,hN0,hi0,TL0,cd,hcd,hmro,_⟩:=FX X0 q
 have look:∀{h:Heap},K.In h->h.get? C=some (excClassObj nm qn C N bs bm true sn sub ab col dd k0 k1 k2 k3 k5 "ValueError.__new__"):=fun {h} X=>by
  obtain⟨nm',qn',N',bs',bm',sn',sub',ab',col',dd',k0',k1',k2',k3',k5',mN',hC',_,_,_,cd',hcd',hmro',_⟩:=FX X q
  have e0:∃o,K.lookup C=some o:=by
   unfold ED at q;split at q
   ·rename_i hlk;exact⟨_,hlk⟩
   ·cases q
  obtain⟨o,e0⟩:=e0;have e1:=X0 _ _ e0;rw[hC0]at e1;rw[X _ _ e0,<- e1]
 rw[arm_exec_Raise];have hbase:bm.contains (.type "BaseException")=true:=TL0.hasType (by decide);refine ZA (ZBK (Sr (C:=C) (nm:=nm) (q:=qn) (N:=N) (bs:=bs) (bm:=bm) (hdct:=true) (sn:=sn) (sub:=sub) (ab:=ab) (col:=col) (dd:=dd) (k0:=k0) (k1:=k1) (k2:=k2) (k3:=k3) (k5:=k5) (newId:="ValueError.__new__") hbase hh (ZA (ZZ (wpAny_Call_ofName (ZZ hx (fun f s1 h1=>?_) fun _ _ x=>x)) (fun v s3 h3=>ZA (ZBK (ZB h3))) fun _ _ x=>x))));obtain⟨rfl,h1⟩:=h1;unfold callWith;refine ZA (Zc (ZZ h1 (fun a s2 h2=>ZA (ZBK ?_)) fun _ _ x=>x));obtain⟨apos,akw⟩:=a;obtain⟨hkw,Yk,X2,⟨oI,hfI,hfc⟩,h2⟩:=h2;obtain rfl:akw=[]:=hkw;obtain⟨nm',qn',N',bs',bm',sn',sub',ab',col',dd',k0',k1',k2',k3',k5',mN',hC',hN',hi',TL',_⟩:=FX X2 q;obtain⟨hp,g,d,tk,os⟩:=s2;simp only[hplain];refine ZA (wpAny_keeperOf_exc hC' ?_);refine ZA (WR F.excBase_ValueError (by decide) F.excBase_ValueError TL' hC' hN' hi' hfI hfc Yk fun h' e hm=>?_);refine ZZ (h2 h' e hm) (fun r s3 ⟨e1,X3,⟨oe,vs,g1,g2,g3,g4⟩,hE⟩=>⟨e1,ZA (Zc (wpAny_point (ZB ⟨e,oe,rfl,look X3,g1,g2,⟨vs,g3,g4⟩,hE⟩)))⟩) fun _ _ z=>z
end
end L2
namespace L2
open PySem PySem.Spec PyProof.Rows Builtin Builtin.ObjectAttr
theorem Wt{h:Heap}{l:List Value}(self:Value)(T:OwnTail h Jn l):refuseLoop self "__setattr__" l=pure ():=by
 induction T with
 | base=>exact PySem.F.store_ValueError.passes self
 | own _ _ _ _ ih=>rw[refuseLoop_ref];exact ih
structure ExcI(K:W.Frag)(C fI:Addr):Prop where
 ob:ED K C fI=true
 xc:ExcC K C
 sa:PySem.W.findIn K (.ref C) "__setattr__" = some (some (.builtin "object.__setattr__"))
 fn:PySem.W.isFn K (.ref fI)=true
section
variable {prog:Program}{w:World}{A:Around}{E:Value->Shared->Prop}{s:Shared}{K:W.Frag}{x C fI:Addr}{name:Str}{v:Value}{mA:Str->Option Value}{ns:List Str}
theorem K4 {Q:Unit->Shared->Prop} (X:K.In s.heap) (Z:ExcI K C fI) (n:NoAttr K C name) (I:s.heap.Inst x C mA) (hw:Within mA ns) (hsz:ns.length<=1000)
 (hq:∀h' tk',h'.Inst x C (fun y=>if y=name then some v else mA y) ->
   (∀b o,b≠x->(∀o0 dx,s.heap.get? x=some o0->o0.dict=some dx->b≠dx)->s.heap.get? b=some o->h'.get? b=some o) ->
   (∀o0,s.heap.get? x=some o0->∃o1,h'.get? x=some o1/\o1.cls=o0.cls/\o1.data=o0.data/\(∀dx,o0.dict=some dx->o1=o0)/\(o0.dict=none->o1.dict=some s.heap.objs.size))->Q () { s with heap:=h',toks:=tk' }) :
 wpAny (model prog w) A (setAttr (.ref x) name v) Q E s:=by
 obtain⟨o,hx,hc,hnc,hd⟩:=I;obtain⟨nm,qn,N,bs,bm,sn,sub,ab,col,dd,k0,k1,k2,k3,k5,mN,hC,hN,hi,TL,cd,hcd,hmro,hdict⟩:=FX X Z.ob
 have J:∃od,PySem.W.InstAt s.heap x o C od:=by
  have hn:PySem.W.notCls o=true:=by
   unfold PySem.W.notCls;split
   ·rename_i c e;exact absurd e (hnc c)
   ·rfl
  rcases hd with ⟨h1,_⟩ | ⟨dx,h1,_,⟨od,es,ep,e,r⟩⟩
  ·exact⟨none,hx,hc,hn,by rw[h1];trivial⟩
  ·exact⟨some od,hx,hc,hn,by rw[h1];exact e⟩
 obtain⟨od,J⟩:=J;refine PySem.W.set_plain X J Z.sa ?_;have SF:=PySem.F.store_object;have sub:PySem.W.Looks (model prog w) s.heap (isInstance (.ref x) (.type "object")) true:=J.type.andThen (PySem.W.looks_mroIn X Z.xc.obj);refine codeAny_call_builtin SF.slot.plain SF.entry (@PySem.W.check_slot (model prog w) _ _ { s with toks:=s.toks+1 } "object.__setattr__" "object" "__setattr__" (.ref x) [.str name s.toks,v] [] _ SF.kind SF.split sub (SF.args (.ref x) (.str name s.toks) v) ?_);have hm:PySem.W.Looks (model prog w) s.heap (mroOf (.ref C)) cd.mro:=(PySem.W.looks_clsIn X hcd).andThen .now;rw[PySem.W.osa_eq,refuse_eq];refine ZA (ZA (J.type.here (s:={ s with toks:=s.toks+1 }) (ZA (hm.here (s:={ s with toks:=s.toks+1 }) ?_))));rw[hmro,refuseLoop_ref,Wt _ TL];refine ZB (ZA (J.type.here (s:={ s with toks:=s.toks+1 }) (ZA ((PySem.W.looks_findIn X n).here (s:={ s with toks:=s.toks+1 }) (ZA (PySem.W.Looks.here (s:={ s with toks:=s.toks+1 }) (r:=none) .now ?_))))));refine ZA (ZB (ZA (ZA (wpAny_loadPart hx ?_))));rw[hc];refine ZA (PySem.W.Looks.here (s:={ s with toks:=s.toks+1 }) (PySem.W.looks_clsIn X hcd) ?_);rw[hdict];rw[if_neg (by decide)];dsimp only
 rcases hd with ⟨hdn,hmA⟩ | ⟨dx,hdx,Yw,hns⟩
 ·rw[hdn];dsimp only;rw[if_neg (by simp[typeHasDict])];have hx1:(s.heap.push { cls:=.type "dict",data:=.dict #[] }).get? x=some o:=ZF _ hx;have hxs:x≠s.heap.objs.size:=ZO (ZG hx)
  have hgd:((s.heap.push { cls:=.type "dict",data:=.dict #[] }).update x fun o=>{ cls:=o.cls,dict:=some s.heap.objs.size,data:=o.data,slots:=o.slots }).get? s.heap.objs.size=some { cls:=.type "dict",data:=.dict #[] } :=
   (Heap.get?_update_ne _ _ _ _ hxs.symm).trans (Heap.get?_push_at rfl rfl)
  have hnd:((s.heap.push { cls:=.type "dict",data:=.dict #[] }).update x fun o=>{ cls:=o.cls,dict:=some s.heap.objs.size,data:=o.data,slots:=o.slots }).Ns s.heap.objs.size (fun _=>none) :=
   ⟨_,#[],_,hgd,rfl,fun e he=>absurd he (by simp),fun _=>rfl⟩
  split
  ·rename_i c hcd';exact absurd hcd' (hnc c)
  ·refine ZA (wpAny_alloc' ?_);refine ZA (wpAny_update' hx1 ?_);refine ZB ?_;show wpAny _ _ (storeInDict s.heap.objs.size (.str name s.toks) name v) _ _ _;unfold storeInDict newKeyGuard;refine ZA (ZB (ZA (wpAny_nsSet1 (Heap.Ns1.of_empty hnd) fun h' hn' hs=>?_)));obtain⟨oD,esD,epD,hoD,hdD,hcD⟩:=hn'.count (Within.cons name v Within.nil);refine ZA (wpAny_lookBehind hoD (by rw[hdD];exact pastItsLine_dict (Zs hcD (by rw[Zi,List.length_nil,sizeLine_eq];lia))) ?_)
   have hx':h'.get? x=some { cls:=o.cls,dict:=some s.heap.objs.size,data:=o.data,slots:=o.slots }:=by
    refine(hs.2 x hxs).trans (ZBG _ hx1 ?_);have hfr:=(Heap.get?_some_iff.mp hx).2;obtain⟨oc,od,odt,osl⟩:=o;cases odt <;> first | rfl | exact hfr
   refine ZB (hq h' _ ⟨{ cls:=o.cls,dict:=some s.heap.objs.size,data:=o.data,slots:=o.slots },hx',hc,hnc,.inr ⟨s.heap.objs.size,rfl,hxs.symm,?_⟩⟩ (fun b ob hbx _ hb=>?_)
    (fun o0 h0=>by obtain rfl:o=o0:=ZS (hx.symm.trans h0);exact⟨_,hx',rfl,rfl,(fun dx e=>by rw[hdn]at e;cases e),fun _=>rfl⟩))
   ·obtain⟨o',es,ep,e1,e2,e3,eu,e4⟩:=hn';exact⟨o',es,ep,e1,e2,e3,eu,fun y=>by rw[e4 y];by_cases hy:y=name <;> simp[hy,hmA]⟩
   ·exact(hs.2 b (ZO (ZG hb))).trans ((Heap.get?_update_ne _ _ _ _ hbx).trans (ZF _ hb))
 ·rw[hdx];refine ZB ?_;show wpAny _ _ (storeInDict dx (.str name s.toks) name v) _ _ _;unfold storeInDict newKeyGuard;refine ZA (ZB (ZA (wpAny_nsSet1 (s:={ s with toks:=s.toks+1 }) hns fun h' hn' hs=>?_)));obtain⟨oD,esD,epD,hoD,hdD,hcD⟩:=hn'.count (Within.cons name v hw);refine ZA (wpAny_lookBehind hoD (by rw[hdD];exact pastItsLine_dict (Zs hcD (by rw[Zi,sizeLine_eq];lia))) ?_)
  refine ZB (hq h' _ ⟨o,(hs.2 x Yw.symm).trans hx,hc,hnc,.inr ⟨dx,hdx,Yw,hn'⟩⟩ (fun b ob _ hbd hb=>(hs.2 b (hbd o dx hx hdx)).trans hb)
   (fun o0 h0=>by obtain rfl:o=o0:=ZS (hx.symm.trans h0);exact⟨o,(hs.2 x Yw.symm).trans h0,rfl,rfl,(fun _ _=>rfl),fun e=>by rw[hdx]at e;cases e⟩))
end
end L2
namespace L2
open PySem PySem.Spec PyProof.Rows
abbrev ExN(x:Addr)(cls:Value)(od:Option Addr):HO:=.ext (fun h=>ExA h x cls od none)
def XdP(d:Addr)(fs:List (Str × V))(h:Heap):Prop:=∃mA,h.Ns1 d mA/\∀f,RelO (fs.lookup f) (mA f)
abbrev XdO(d:Addr)(fs:List (Str × V)):HO:=.ext (XdP d fs)
def del(H:Hp)(x:Addr):Hp:=fun b=>if b=x then none else H b
theorem GB{H:Hp}{x b:Addr}(h:b≠x):del H x b=H b:=if_neg h
theorem KW{H:Hp}{x:Addr}:del H x x=none:=if_pos rfl
section
variable {P:Program}{w:World}{H H':Hp}{h h':Heap}{x d:Addr}{cls:Value}{od:Option Addr}{fs:List (Str × V)}
theorem NY(e:ExA h x cls od none):ObjOk P w H h x (ExN x cls od) :=
 ⟨e,let ⟨oe,_,q,_⟩:=e;⟨oe,q⟩,fun _ _ ⟨oe,vs,q,r⟩ k=>⟨oe,vs,k oe q,r⟩⟩
theorem J3(e:XdP d fs h):ObjOk P w H h d (XdO d fs) :=
 ⟨e,let ⟨_,⟨o,_,_,q,_⟩,_⟩:=e;⟨o,q⟩,fun _ _ ⟨mA,n,r⟩ k=>⟨mA,n.at k,r⟩⟩
theorem Oy{mA:Str->Option Value}(r:∀f,RelO (fs.lookup f) (mA f)):Within mA (fs.map (·.1)):=fun y hy=>by
 have z:=r y;cases e:fs.lookup y with
 | none=>rw[e]at z;exact absurd (RelO.none_of z) hy
 | some v=>exact ZK.mpr ⟨(y,v),mem_of_lookup e,rfl⟩
where mem_of_lookup:∀{fs:List (Str × V)} {y:Str} {v:V},fs.lookup y=some v->(y,v)∈fs
 | [],_,_,e=>by cases e
 | (k,u)::r,y,v,e=>by
  rw[Zy]at e;split at e
  ·rename_i h;cases e;rw[eq_of_beq h];exact Zb
  ·exact ZW _ (mem_of_lookup e)
end
section
variable {X:Cx}{Ya:List (Addr × Obj)}{σ:St}{H H':Hp}{s:Shared}{h':Heap}{x C fI:Addr}{K:W.Frag}
theorem Yg.laidN{a:Addr}{o:HO}{t':Nat}(I:Yg X Ya σ H s)(k:∀b u,s.heap.get? b=some u->h'.get? b=some u)(nx:s.heap.get? a=none)(new:ObjOk X.prog X.w (upd H a o) h' a o):Yg X Ya σ (upd H a o) { s with heap:=h',toks:=t' }:=by
 have hn:H a=none:=EI I.hok nx;have ne:∀b u,s.heap.get? b=some u->b≠a:=fun b u e z=>by rw[z,nx]at e;cases e
 have nh:∀b u,H b=some u->b≠a:=fun b u e z=>by rw[z,hn]at e;cases e
 refine I.un ⟨fun b u e _ _ _=>k b u e,fun b u e _ _ _=>⟨u.slots,k b u e⟩,fun b u e n _=>by rw[AI (ne b u e)];exact n,fun b u e _=>⟨u,k b u e⟩,fun b xs e=>by rw[AI (nh b _ e)];exact e,fun b u v e=>by rw[AI (nh b _ e)];exact e,fun b ps e=>⟨#[],by rw[AI (nh b _ e),e];simp⟩⟩ fun b u e=>?_
 by_cases z:b=a
 ·subst z;rw[AD]at e;cases e;exact new
 ·rw[AI z]at e;exact(I.hok b u e).stay (fun c v _ q=>k c v q) (fun c q=>by rw[AI (nh c _ q)];exact q) fun c xs q=>by rw[AI (nh c _ q)];exact q
theorem PD {f:Str} {y:V} {u:Value} {A:Around} {E:Value->Shared->Prop} {Q:Unit->Shared->Prop} (I:Yg X Ya σ H s) (Z:ExcI X.K C fI) (n:NoAttr X.K C f) (e:H x=some (ExN x (.ref C) none)) (ry:Yi y u)
 (hq:∀d s',H d=none->Yg X Ya σ (upd (upd H x (ExN x (.ref C) (some d))) d (XdO d [(f,y)])) s'->Q () s'):wpAny (model X.prog X.w) A (setAttr (.ref x) f u) Q E s:=by
 obtain⟨⟨oe,vs,e1,e2,e3,e4,e5⟩,_⟩:=(show ObjOk X.prog X.w H s.heap x (ExN x (.ref C) none) from I.hok x _ e);refine K4 (mA:=fun _=>none) (ns:=[]) I.kIn Z n ⟨oe,e1,e2,(fun c z=>by rw[e4]at z;cases z),.inl ⟨e3,fun _=>rfl⟩⟩ (fun y z=>absurd rfl z) (ZP _) fun h' tk' I' hk hs=>?_
 obtain⟨o1,g1,g2,g3,_,g4⟩:=hs oe e1;have g4:=g4 e3;have hd:H s.heap.objs.size=none:=I.hok.fresh (ZD _);have nd:s.heap.get? s.heap.objs.size=none:=ZBU (ZD _);have xd:x≠s.heap.objs.size:=ZO (ZG e1);have keep:∀b o,b≠x->s.heap.get? b=some o->h'.get? b=some o:=fun b o nb q=>hk b o nb (fun o0 dx q0 q1=>by rw[e1]at q0;cases q0;rw[e3]at q1;cases q1) q
 have nH:∀b,b≠x->b≠s.heap.objs.size->(upd (upd H x (ExN x (.ref C) (some s.heap.objs.size))) s.heap.objs.size (XdO s.heap.objs.size [(f,y)])) b=H b:=fun b n1 n2=>by rw[AI n2,AI n1]
 have bd:∀b o,s.heap.get? b=some o->b≠s.heap.objs.size:=fun b o q=>ZO (ZG q)
 have bh:∀b o,H b=some o->b≠s.heap.objs.size:=fun b o q z=>by rw[z,hd]at q;cases q
 have XD:XdP s.heap.objs.size [(f,y)] h':=by
  obtain⟨o2,q1,_,_,q3⟩:=I';rw[g1]at q1;cases q1
  rcases q3 with ⟨q,_⟩ | ⟨dx,q,_,q4⟩
  ·rw[g4]at q;cases q
  ·rw[g4]at q;cases q;refine⟨_,q4,fun z=>?_⟩;show RelO (List.lookup z [(f,y)]) (if z=f then some u else none);rw[Zy]
   by_cases hz:z=f
   ·rw[hz,if_pos rfl,beq_self_eq_true];exact ry
   ·rw[if_neg hz,beq_eq_false_iff_ne.mpr hz];exact True.intro
 refine hq _ _ hd (I.un ⟨fun b o q nb _ _=>?_,fun b o q nb _ _=>⟨o.slots,?_⟩,fun b o q nb _=>?_,fun b o q _=>?_,fun b xs q=>?_,fun b o v q=>?_,fun b ps q=>⟨#[],?_⟩⟩ fun b o q=>?_)
 ·exact keep b o (fun z=>by rw[z,e]at nb;cases nb) q
 ·exact keep b o (fun z=>by rw[z,e]at nb;cases nb) q
 ·rw[nH b (fun z=>by rw[z,e]at nb;cases nb) (bd b o q)];exact nb
 ·by_cases z:b=x
  ·rw[z];exact⟨_,g1⟩
  ·exact⟨_,keep b o z q⟩
 ·rw[nH b (fun z=>by rw[z,e]at q;cases q) (bh b _ q)];exact q
 ·rw[nH b (fun z=>by rw[z,e]at q;cases q) (bh b _ q)];exact q
 ·rw[nH b (fun z=>by rw[z,e]at q;cases q) (bh b _ q),q];simp
 ·by_cases z:b=s.heap.objs.size
  ·subst z;rw[AD]at q;cases q;exact J3 XD
  ·rw[AI z]at q
   by_cases z2:b=x
   ·subst z2;rw[AD]at q;cases q;exact NY ⟨o1,vs,g1,by rw[g2,e2],g4,by rw[g3,e4],e5⟩
   ·rw[AI z2]at q;refine(I.hok b o q).stay (fun c v hc r=>keep c v (fun z=>?_) r) (fun c r=>?_) fun c xs r=>?_
    ·rcases hc with hc | hc
     ·exact z2 (hc.symm.trans z)
     ·rw[z,e]at hc;cases hc
    ·rw[nH c (fun z=>by rw[z,e]at r;cases r) (bh c _ r)];exact r
    ·rw[nH c (fun z=>by rw[z,e]at r;cases r) (bh c _ r)];exact r
theorem Vz {f:Str} {y:V} {u:Value} {d:Addr} {fs:List (Str × V)} {A:Around} {E:Value->Shared->Prop} {Q:Unit->Shared->Prop} (I:Yg X Ya σ H s) (Z:ExcI X.K C fI) (n:NoAttr X.K C f) (e:H x=some (ExN x (.ref C) (some d))) (ed:H d=some (XdO d fs)) (Yw:d≠x) (hl:fs.length<=1000) (ry:Yi y u)
 (hq:∀s',Yg X Ya σ (upd H d (XdO d (AU f y fs))) s'->Q () s'):wpAny (model X.prog X.w) A (setAttr (.ref x) f u) Q E s:=by
 obtain⟨⟨oe,vs,e1,e2,e3,e4,e5⟩,_⟩:=(show ObjOk X.prog X.w H s.heap x (ExN x (.ref C) (some d)) from I.hok x _ e);obtain⟨⟨mA,n1,r1⟩,_⟩:=(show ObjOk X.prog X.w H s.heap d (XdO d fs) from I.hok d _ ed);refine K4 (mA:=mA) (ns:=fs.map (·.1)) I.kIn Z n ⟨oe,e1,e2,(fun c z=>by rw[e4]at z;cases z),.inr ⟨d,e3,Yw,n1⟩⟩ (Oy r1) (by rw[ZC];exact hl) fun h' tk' I' hk hs=>?_
 obtain⟨o1,g1,g2,g3,g4,_⟩:=hs oe e1;have g4:=g4 d e3;subst g4;obtain⟨o2,q1,_,_,q3⟩:=I';rw[g1]at q1;cases q1
 have nn:h'.Ns1 d (fun y=>if y=f then some u else mA y):=by
  rcases q3 with ⟨q,_⟩ | ⟨dx,q,_,q4⟩
  ·rw[e3]at q;cases q
  ·rw[e3]at q;cases q;exact q4
 refine hq _ (I.write (x:=d) (e:=d) (by rw[ed];exact True.intro) (.inl rfl) (fun b v nb q=>?_) (let ⟨o,_,_,q,_⟩:=nn;⟨o,q⟩) (J3 ⟨_,nn,fun g=>?_⟩))
 ·by_cases z:b=x
  ·subst z;rw[e1]at q;cases q;exact g1
  ·exact hk b v z (fun o0 dx q0 q1=>by rw[e1]at q0;cases q0;rw[e3]at q1;cases q1;exact nb) q
 ·show RelO ((AU f y fs).lookup g) (if g=f then some u else mA g);rw[HR]
  by_cases q:g=f
  ·rw[if_pos q,if_pos q];exact ry
  ·rw[if_neg q,if_neg q];exact r1 g
end
def OH(C:Addr)(ta tv:TE)(f:Str):TS:=fun D σ H=>tv σ H fun y H1=>ta σ H1 fun v H2=>match v with
 | .ref x=>(H2 x=some (ExN x (.ref C) none)/\∀d,H2 d=none->D.nx σ (upd (upd H2 x (ExN x (.ref C) (some d))) d (XdO d [(f,y)])))\/∃d fs,H2 x=some (ExN x (.ref C) (some d))/\H2 d=some (XdO d fs)/\d≠x/\fs.length<=1000/\D.nx σ (upd H2 d (XdO d (AU f y fs)))
 | _=>False
def Qa(C:Addr)(sp:Sp)(ta:TA)(W:St->Option Addr->Hp->Prop):TS:=fun _ σ H=>ta σ H fun vs H1=>vs.length<=1000/\∀x,H1 x=none->sp (.ref x::vs) (upd H1 x (ExN x (.ref C) none)) (fun v H2=>v=.non/\∃od,H2 x=some (ExN x (.ref C) od)/\W σ od (del H2 x)) E0
section
variable {X:Cx}{K:W.Frag}{C fI:Addr}{fd:FuncData}{ps:List Str}{sp:Sp}{k:Nat}{o e value:Expr}{es:List Expr}{f c:Str}{pos pos' np cpos:Pos}{ta tv:TE}{t:TA}{W:St->Option Addr->Hp->Prop}
theorem NZ(Z:ExcI K C fI)(n:NoAttr K C f)(ha:PE X o ta)(hv:PE X value tv)(hK:X.K=K:=by rfl)(hs:swapsWith value (some (.Attribute o f pos')) pos.line X.env=pure false:=by rfl):PS X (.Assign [.Attribute o f pos'] value pos) (OH C ta tv f):=by
 subst hK;intro Ya s σ H D I h;refine plainObj_wpAny_Assign_Attribute (Ym (hv Ya s σ H _ I h) fun u s1 ⟨y,H1,I1,ry,q⟩=>Ym (ha Ya s1 σ H1 _ I1 q) fun ov s2 ⟨x,H2,I2,rx,q2⟩=>?_) hs;cases x with
 | ref x =>
  obtain rfl:ov=Value.ref x:=rx
  rcases q2 with ⟨g1,q⟩ | ⟨d,fs,g1,g2,g3,g4,q⟩
  ·exact PD I2 Z n g1 ry fun d s' hd I'=>⟨σ,_,I',q d hd⟩
  ·exact Vz I2 Z n g1 g2 g3 g4 ry fun s' I'=>⟨σ,_,I',q⟩
 | _=>exact False.elim q2
theorem Oz (Z:ExcI K C fI) (F:FnOk X.prog X.w X.K X.mg X.base CX0 k fI fd ps sp) (hr:Room (k+1) X.A) (hb:Binds X.K fd ps [])
 (hx:∀(Ya:List (Addr × Obj)) (σ:St) (H:Hp) (s:Shared) (x:Addr) (od:Option Addr),Yg X Ya σ H s->H x=some (ExN x (.ref C) od)->X.s₀.heap.get? x=none->W σ od (del H x)->X.xe (.ref x) s)
 (hex:X.ex=[]) (hc:X.calm=true) (hg:Gl X c) (hm:X.mg c=some (.ref C)) (ha:PA X (e::es) t) (hK:X.K=K:=by rfl) (hdb:(c == ("__debug__" : Str))=false:=by decide)
 (he:starEach (e::es) X.env=(false,eval e X.env)::starEach es X.env:=by rfl) (hpl:(backTo cpos (starEach es X.env)).any (·.1)=false:=by rfl) :
 PS X (.Raise (some (.Call (.Name c np) (e::es) [] cpos)) none pos) (Qa C sp t W):=by
 subst hK;intro Ya s σ H D I h;refine Nw I.kIn Z.ob (I.ok.hd hc) (by rw[he];show(false || (backTo cpos (starEach es X.env)).any (·.1))=false;rw[hpl];rfl) (DQ I hg hm ⟨rfl,?_⟩ hdb);rw[he];refine PySem.Calls.evalArgs_plain ?_;have ha1:=ha cpos Ya s σ H _ I h;rw[he]at ha1;refine Ym ha1 fun us s1 ⟨vs,H1,I1,r,hl,q⟩=>⟨rfl,by rw[<- r.length];exact EM hl,I1.kIn,?_,fun h1 x hm=>?_⟩
 ·have ft:=beq_iff_eq.mp Z.fn;unfold PySem.W.typeIn at ft;obtain⟨oI,l1,l2⟩:=ZBg.mp ft;exact⟨oI,I1.kIn _ _ l1,l2⟩
 obtain⟨tt,ht,htn,_⟩:=hm.there;have nH:H1 x=none:=EI I1.hok hm.new;have I2:Yg X Ya σ (upd H1 x (ExN x (.ref C) none)) { s1 with heap:=h1,toks:=s1.toks }:=I1.laidN (a:=x) (fun b u e=>hm.keeps b u e) hm.new (NY ⟨_,_,ht,rfl,rfl,rfl,rfl⟩);have hq:=q x nH;have r2:Yj (V.ref x::vs) (Value.ref x::us):=.cons rfl r
 have hl2:(Value.ref x::us++[]).length=ps.length:=by
  have e:=r2.length;rw[F.len _ _ _ _ hq]at e;rw[Zj];exact e.symm
 have hx0:X.s₀.heap.get? x=none:=by
  cases e:X.s₀.heap.get? x with
  | none=>rfl
  | some o =>
   obtain⟨o',e'⟩:=I1.base.there x o e (by rw[hex];simp);rw[hm.new]at e';cases e'
 have bb:=hb { s1 with heap:=h1,toks:=s1.toks } (Value.ref x::us) I2.kIn hl2;rw[Zj]at bb;refine wpAny_call (ZBF (F.run _ X.stack _ _ ⟨Value.ref x::us,[]⟩ (Value.ref x::us) _ _ E0 (hr.make C us []) (I2.env0.make C us []) bb r2 hq) fun rr s' hq'=>?_);cases rr with
 | error ev=>exact False.elim hq'
 | ok fl =>
  cases fl with
  | ret u =>
   obtain⟨v,H',I3,rv,ev,od,g1,q3⟩:=I2.after hq';subst ev;obtain⟨⟨oe,vs',e1,e2,e3,e4,e5⟩,_⟩:=(show ObjOk X.prog X.w H' s'.heap x (ExN x (.ref C) od) from I3.hok x _ g1);exact⟨rv,I3.kIn,⟨oe,vs',e1,e2,e4,e5⟩,hx Ya σ H' s' x od I3 g1 hx0 q3⟩
  | next=>exact False.elim hq'
  | brk=>exact False.elim hq'
  | cont=>exact False.elim hq'
end
section
variable {X:Cx}{Ya:List (Addr × Obj)}{σ:St}{H H':Hp}{s:Shared}{h':Heap}{ch:List Addr}
theorem Jy(I:Yg X Ya σ H s)(hex:X.ex=[])(c:Sl (frs X.stack) ch s.heap h')(h0:∀b∈ch,X.s₀.heap.get? b=none)(hH:∀b,b∉ch->H' b=H b)(hn:∀b∈ch,H' b=none)(hc:∀b∈ch,H b=none\/∃φ,H b=some (.ext φ)) :
 Un X.fs [] X.H₀ H' X.s₀.heap h'/\HOk X.prog X.w H' h':=by
 have hx:∀b:Addr,b∉X.ex:=fun b z=>by rw[hex]at z;cases z
 have nl:∀b o,X.s₀.heap.get? b=some o->b≠X.env.locals:=fun b o e=>ZO (ZX (ZG e) I.ok.above)
 have nc:∀b o,X.s₀.heap.get? b=some o->b∉ch:=fun b o e z=>by rw[h0 b z]at e;cases e
 have tr:∀b o,H b=some o->(∀φ,o≠.ext φ)->b∉ch:=fun b o e n z=>by
  rcases hc b z with q | ⟨φ,q⟩
  ·rw[q]at e;cases e
  ·rw[q]at e;cases e;exact n φ rfl
 refine⟨⟨fun b o e n nb _=>?_,fun b o e n nb _=>?_,fun b o e n _=>?_,fun b o e _=>?_,fun b xs e=>?_,fun b o v e=>?_,fun b ps e=>?_⟩,fun a o e=>?_⟩
 ·exact(c b o (I.base.keep b o e n nb (hx b)) (nc b o e)).1 fun z=>(ZH.mp (I.stkSub b z)).elim (nl b o e) nb
 ·obtain⟨sl,e1⟩:=I.base.slot b o e n nb (hx b);obtain⟨sl2,e2⟩:=(c b _ e1 (nc b o e)).2;exact⟨sl2,e2⟩
 ·rw[hH b (nc b o e)];exact I.base.free b o e n (hx b)
 ·obtain⟨o1,e1⟩:=I.base.there b o e (hx b);obtain⟨sl2,e2⟩:=(c b _ e1 (nc b o e)).2;exact⟨_,e2⟩
 ·have q:=I.base.tups b xs e;rw[hH b (tr b _ q fun φ z=>by cases z)];exact q
 ·have q:=I.base.frzs b o v e;rw[hH b (tr b _ q fun φ z=>by cases z)];exact q
 ·obtain⟨m,q⟩:=I.base.tbls b ps e;exact⟨m,by rw[hH b (tr b _ q fun φ z=>by cases z)];exact q⟩
 ·have na:a∉ch:=fun z=>by rw[hn a z]at e;cases e
  rw[hH a na]at e;refine(I.hok a o e).stay (fun b u hb q=>(c b u q fun z=>?_).1 fun z=>?_) (fun b q=>?_) fun b xs q=>?_
  ·rcases hb with rfl | hb
   ·exact na z
   ·exact tr b _ hb (fun φ z=>by cases z) z
  ·have:=I.stkFree b z
   rcases hb with rfl | hb
   ·rw[e]at this;cases this
   ·rw[hb]at this;cases this
  ·rw[hH b (tr b _ q fun φ z=>by cases z)];exact q
  ·rw[hH b (tr b _ q fun φ z=>by cases z)];exact q
theorem Eo(I:Yg X Ya σ H s)(hex:X.ex=[]){b:Addr}(n:s.heap.get? b=none):X.s₀.heap.get? b=none:=by
 cases e:X.s₀.heap.get? b with
 | none=>rfl
 | some o =>
  obtain⟨o',e'⟩:=I.base.there b o e (by rw[hex];simp);rw[n]at e';cases e'
end
section
variable {P:Program}{w:World}{K:W.Frag}{mg:Str->Option Value}{base:Heap}{N:List Str}{qual:Str}{sc:Scope}{f:Addr}{cd:Value}{A:Around}{outer:List Env}{s0:Shared}{H0:Hp}{E:XK}
theorem Sv{Ya:List (Addr × Obj)}{σ:St}{H:Hp}{s:Shared}{x C:Addr}{od:Option Addr}(I:Yg (Bz (CXE P w) P w K mg base N qual sc f cd A outer s0 H0 E) Ya σ H s)(e:H x=some (ExN x (.ref C) od))(hx0:s0.heap.get? x=none)(q:E (.ref C) od (del H x)) :
 (Bz (CXE P w) P w K mg base N qual sc f cd A outer s0 H0 E).xe (.ref x) s:=by
 obtain⟨ex,_⟩:=(show ObjOk P w H s.heap x (ExN x (.ref C) od) from I.hok x _ e);refine KA (base:=base) (L:=s0.heap.objs.size) (t:=none) I.ok.frames I.stack rfl ex (.inl rfl) fun h2 T a1 a2 a3=>?_
 have nT:=Eo I rfl a2;obtain⟨u,hk⟩:=Jy (H':=del H x) I rfl a3 (fun b z=>by rw[ZI.mp z];exact hx0) (fun b z=>GB fun r=>z (by rw[r];exact ZI.mpr rfl)) (fun b z=>by rw[ZI.mp z];exact KW) (fun b z=>by rw[ZI.mp z];exact .inr ⟨_,e⟩)
 have xT:T≠x:=fun z=>by
  obtain⟨_,_,g,_⟩:=ex;rw[<- z,a2]at g;cases g
 exact⟨x,_,od,T,del H x,rfl,I.os,I.bare,u,hk,a1,⟨hx0,nT⟩,⟨KW,by rw[GB xT];exact EI I.hok a2⟩,q⟩
theorem RU:Ck (CXE P w) (Bz (CXE P w) P w K mg base N qual sc f cd A outer s0 H0 E) E:=by
 intro Ya σ H s ev s' I h;obtain⟨x,cls,od,T,H',rfl,ho,hb,u,hk,ex,⟨n1,n2⟩,⟨f1,f2⟩,hE⟩:=h;have J:Yg (Bz (CXE P w) P w K mg base N qual sc f cd A outer s0 H0 E) Ya σ H' s':=I.call' ho u hk hb (ch:=[]) fun b z=>absurd z (by simp)
 refine KA (base:=base) (L:=s0.heap.objs.size) (t:=some (T,.none)) J.ok.frames J.stack rfl ex (.inr ⟨T,rfl⟩) fun h2 T2 a1 a2 a3=>?_
 have two:∀b∈x::(Option.map (fun p:Addr × Value=>p.1) (some (T,Value.none))).toList,b=x\/b=T:=fun b z=>by
  rcases ZH.mp z with z | z
  ·exact .inl z
  ·exact .inr (ZI.mp z)
 obtain⟨u2,hk2⟩:=Jy (H':=H') J rfl a3 (fun b z=>by
  rcases two b z with rfl | rfl
  ·exact Eo I rfl n1
  ·exact Eo I rfl n2) (fun b z=>rfl) (fun b z=>by
  rcases two b z with rfl | rfl
  ·exact f1
  ·exact f2) (fun b z=>by
  rcases two b z with rfl | rfl
  ·exact .inl f1
  ·exact .inl f2)
 exact⟨x,cls,od,T2,H',rfl,J.os,J.bare,u2,hk2,a1,⟨Eo I rfl n1,Eo J rfl a2⟩,⟨f1,EI J.hok a2⟩,hE⟩
end
def JB(C:Addr)(f g:Str):Sp:=fun vs H Q _=>match vs with
 | [.ref x,y,z]=>H x=some (ExN x (.ref C) none)/\∀d,H d=none->Q .non (upd (upd (upd H x (ExN x (.ref C) (some d))) d (XdO d [(f,y)])) d (XdO d (AU g z [(f,y)])))
 | _=>False
abbrev XW:=Addr->Addr->Option Addr->St->Hp->Prop
abbrev TSX:=XW->St->Hp->Prop
end L2
namespace L2
open PySem PyProof.Rows
section
variable {prog:Program}{w:World}{A:Around}{E:Value->Shared->Prop}{s:Shared}
theorem Us {R:Result->Shared->Prop} {r S:Addr} {a b c:Int} {t u v:Tok} {n:Nat} (hh:A.handled=none) (hr:IsRange s.heap r a b c t u v) (hsmall:Builtin.Range.small a b c=true) (hn:Builtin.Range.rangeSize a b c=n) (Yk:n<=2 ^ 24) (hS:s.heap.get? S=some { cls:=.type "list",data:=.seq #[] })
 (hR:∀h' tk acc' c',(∀b o,b≠S->s.heap.get? b=some o->h'.get? b=some o)->h'.get? S=some { cls:=.type "list",dict:=none,data:=.seq acc' c',slots:=#[] } -> ItemsOf (fun i v=>∃t,v=.int (a+i * c) t) acc' n->R (.ok (.ret (.ref S))) { s with heap:=h',toks:=tk }) :
 codeAny (model prog w) A (.builtin "list.__iadd__" ⟨[.ref S,.ref r],[]⟩) R s:=Z9 F.entry_list_iadd (by
 rw[ZBE F.plain_list_iadd _];exact wpAny_extend_range (R:=R) hh hr hsmall hn Yk S (.ref S) 0 hS hR)
theorem SG {Q:List Value->Shared->Prop} {r:Addr} {a b c:Int} {t u v:Tok} {n:Nat} (hh:A.handled=none) (hr:IsRange s.heap r a b c t u v) (hsmall:Builtin.Range.small a b c=true) (hn:Builtin.Range.rangeSize a b c=n) (Yk:n<=2 ^ 24)
 (hQ:∀h' tk Yo,(∀b o,s.heap.get? b=some o->h'.get? b=some o)->ItemsOf (fun i v=>∃t,v=.int (a+i * c) t) Yo n->Q Yo.toList { s with heap:=h',toks:=tk }):wpAny (model prog w) A (collect (.ref r)) Q E s:=by
 unfold collect;refine ZA (wpAny_runValue (Z9 F.entry_proto_collect ?_));rw[ZBE F.plain_proto_collect _];show wpAny _ A.in1 (newList [] >>= fun l=>again (.builtin "list.__iadd__" ⟨[l,.ref r],[]⟩)) _ _ s;refine ZA (Zn ?_);refine ZB ⟨ZBA F.plain_list_iadd _,Us (s:={ s with heap:=s.heap.push { cls:=.type "list",data:=.seq ([]:List Value).toArray } }) (n:=n) hh (ZF _ hr) hsmall hn Yk (ZN _ rfl) fun h' tk Yo c' hk hS hacc=>?_⟩;show wpAny _ A (load s.heap.objs.size >>= _) _ _ _;refine ZA (wpAny_load hS ?_);exact ZB (hQ h' tk Yo (fun b o e=>hk b o (ZO (ZG e)) (ZF _ e)) hacc)
theorem RB {Q:Value->Shared->Prop} {r:Addr} {a b c:Int} {t u v:Tok} {n:Nat} (hh:A.handled=none) (hr:IsRange s.heap r a b c t u v) (hsmall:Builtin.Range.small a b c=true) (hn:Builtin.Range.rangeSize a b c=n) (Yk:n<=1000)
 (h:∀(h':Heap) (tk:Nat) (Yo:Array Value),(∀b o,s.heap.get? b=some o->h'.get? b=some o)->ItemsOf (fun i v=>∃t,v=.int (a+i * c) t) Yo n->Q (.ref h'.objs.size) { s with heap:=h'.push { cls:=.type "tuple",data:=.seq Yo },toks:=tk }) :
 wpAny (model prog w) A (call (.type "tuple") [.ref r]) Q E s:=by
 have M:Meets (Builtin.«tuple.__new__» ⟨[.type "tuple",.ref r],[]⟩) (fun A R s=>A.handled=none/\IsRange s.heap r a b c t u v/\∀(h':Heap) (tk:Nat) (Yo:Array Value),(∀b o,s.heap.get? b=some o->h'.get? b=some o)->ItemsOf (fun i v=>∃t,v=.int (a+i * c) t) Yo n ->
  R (.ok (.ret (.ref h'.objs.size))) { s with heap:=h'.push { cls:=.type "tuple",data:=.seq Yo },toks:=tk }):=.of_wp fun prog w A R s h=>by
  obtain⟨hh,hr,h⟩:=h;have hsub:=sub_tuple_self;have hinit:=init_tuple_lookup;have hmh:=madeHere_tuple;have hT:s.TypeIs (.ref r) "range":=⟨_,hr,rfl⟩;have hh1:A.in1.handled=none:=hh
  wp_walk using wpAny_typeOf hT,SG (n:=n) hh1 hr hsmall hn (by lia)
  intro h' tk Yo hk hacc;show wpAny _ _ (Builtin.Tuple.tupleExact Yo.toList.toArray >>= fun v=>ret v) _ _ _;unfold Builtin.Tuple.tupleExact;refine ZA (Zn ?_ (show Yo.toList.toArray.size<=sizeLine by simp only[Array.toArray_toList];rw[hacc.1,sizeLine_eq];lia));refine ZB ⟨_,rfl,?_⟩;have e:Yo.toList.toArray=Yo:=by simp
  rw[e];exact h h' tk Yo hk hacc
 refine callType_new F.called_tuple (by decide) (F.typeCall_tuple_1 _) (F.newCall_tuple_1 _) (fun obj=>F.args_object_init_2 obj _) F.entry_tuple_new
  M ⟨hh,hr,fun h' tk Yo hk hacc=>⟨⟨_,ZN _ rfl,rfl⟩,h h' tk Yo hk hacc⟩⟩
end
def tTR(ta:TA):TE:=fun σ H Q=>ta σ H fun vs H1=>match vs with
 | [.int j]=>∃n:Nat,j=n/\n<=1000/\∀p,H1 p=none->Q (.ref p) (upd H1 p (.tup ((List.range n).map fun(k:Nat)=>V.int (k:Int))))
 | _=>False
theorem Wa{ta:TA}(h:Bj ta):Ad (tTR ta):=fun σ H Q Q' k q=>h _ _ _ _ (fun vs _ q=>by
 match vs,q with
 | [.int j],⟨n,h1,h2,q⟩=>exact⟨n,h1,h2,fun d hd=>k _ _ (q d hd)⟩) q
section
variable {X:Cx}
theorem P7 {a:Expr} {ta:TA} {p pos p2 pos2:Pos} (hc:X.calm=true) (hg:Gl X "tuple") (hm:X.mg "tuple" = none) (hg2:Gl X "range") (hm2:X.mg "range" = none) (ha:PA X [a] ta)
 (hs:starEach [a] X.env=[(false,eval a X.env)]:=by rfl)
 (hs3:starEach [.Call (.Name "range" p2) [a] [] pos2] X.env=[(false,eval (.Call (.Name "range" p2) [a] [] pos2) X.env)]:=by rfl) :
 PE X (.Call (.Name "tuple" p) [.Call (.Name "range" p2) [a] [] pos2] [] pos) (tTR ta):=by
 intro Ya s σ H Q I h;refine Call_ (CI I hg hm (by rfl:bootBuiltins "tuple" = some (.type "tuple")) (PyProof.Rows.callWith_type1 ?_ (by rw[hs3];rfl) (by rfl)));rw[hs3];show wpAny _ _ (spliced ((false,eval (.Call (.Name "range" p2) [a] [] pos2) X.env)::[])) _ _ s;refine Calls.spliced_cons ?_;refine Call_ (CI I hg2 hm2 (by rfl:bootBuiltins "range" = some (.type "range")) (PyProof.Rows.callWith_type1 (Ym (ha pos2 Ya s σ H _ I h) fun us s1 ⟨vs,H1,I1,r1,q1⟩=>?_) hs rfl))
 match vs,q1,r1 with
 | [.int j],⟨n,hj,hn,q⟩,r1 =>
 subst hj;cases r1 with
 | cons r rr =>
 cases rr;obtain⟨t,rfl⟩:=r;refine call_range_1 ?_;refine Calls.spliced_nil ?_;refine RB (n:=n) (I.ok.hd hc) (IsRange.new ..) (small_one (by lia) (by lia) (by lia) (by lia)) ?_ hn fun h' tk Yo hk hacc=>?_
 ·rw[rangeSize_one];split <;> lia
 have keep:∀b u,s1.heap.get? b=some u->(h'.push { cls:=.type "tuple",data:=.seq Yo }).get? b=some u:=fun b u e=>ZF _ (hk b u (ZF _ e))
 have nx:s1.heap.get? h'.objs.size=none:=by
  cases e:s1.heap.get? h'.objs.size with
  | none=>rfl
  | some o=>exact absurd (ZG (hk _ _ (ZF _ e))) (Za _)
 refine⟨.ref _,_,I1.laidN (t':=tk) (o:=.tup ((List.range n).map fun(k:Nat)=>V.int (k:Int))) keep nx ?_,rfl,q _ (EI I1.hok nx)⟩;refine⟨by rw[ZC,ZBB];exact EM hn,Yo.toList,?_,⟨_,ZN _ rfl,rfl,⟨_,by simp;rfl⟩,rfl⟩⟩;rw[List.range_eq_range'];refine LG n 0 Yo.toList (by rw[Zh];exact hacc.1) fun j v hj=>?_
 obtain⟨t,e⟩:=hacc.2 j v (by rw[<- ZBe];exact hj);exact⟨t,by rw[e];congr 1;lia⟩
end
end L2
namespace L2
open PySem PySem.Spec PyProof.Rows PySem.W
section
variable {X:Cx}{Ya:List (Addr × Obj)}{σ:St}
structure MinSt(X:Cx)(Ya:List (Addr × Obj))(σ:St)(l I S:Addr)(xs:List V)(J:Nat->Hp->Prop)(kf:Nat->Int)(j i:Nat)(vb:Value)(H:Hp)(s:Shared):Prop where
 inv:Yg X Ya σ H s
 fI:A6 X Ya H I
 fS:A6 X Ya H S
 gS:∃tb c,s.heap.get? S=some (seqObj "list" #[vb,.int (kf i) tb] c)
 it:s.heap.IsListIter I l (j+1)
 rb:∃x,xs[i]? = some x/\Yi x vb
 at_:J (j+1) H
abbrev Nd(X:Cx)(Ya:List (Addr × Obj))(σ:St)(q:Addr)(xs:List V)(J:Nat->Hp->Prop)(kf:Nat->Int):Prop :=
 ∀(n:Nat) (x:V) (u:Value) (H:Hp) (s:Shared) (pl:List (Addr × Obj)),xs[n]? = some x->Yi x u->J n H->Yg X (Ya++pl) σ H s ->
  wpAny (model X.prog X.w) X.A.in1 (call (.ref q) [u]) (fun y s'=>∃H' t,y=.int (kf n) t/\Yg X (Ya++pl) σ H' s'/\J (n+1) H') (fun _ _=>False) s
theorem OU {q l I S:Addr} {xs:List V} {J:Nat->Hp->Prop} {kf:Nat->Int} {R:Result->Shared->Prop} (hc:X.calm=true) (hSI:S≠I) (hlI:l≠I)
 (hl:∀n H,J n H->Yv X.K H l xs) (turn:Nd X Ya σ q xs J kf)
 (hR:∀i x v H s,xs[i]? = some x->Yi x v->(∀j,j < xs.length->kf i<=kf j/\(j < i->kf i < kf j))->J xs.length H->Yg X Ya σ H s->R (.ok (.ret v)) s) :
 ∀(r j i:Nat) (vb:Value) (H:Hp) (s:Shared),xs.length - (j+1)=r->j+1<=xs.length->MinSt X Ya σ l I S xs J kf j i vb H s->i<=j->(∀j',j'<=j->kf i<=kf j'/\(j' < i->kf i < kf j')) ->
  codeAny (model X.prog X.w) X.A (.builtin "min.loop" ⟨[.ref I,.ref q,.ref S],[]⟩) R s:=by
 have hname:(toString "min" ++ toString ".loop" : String) = "min.loop":=by decide
 intro r
 induction r with
 | zero =>
  intro j i vb H s hr hj M hij hbest;obtain⟨tb,c,gS⟩:=M.gS;obtain⟨xb,hxb,rb⟩:=M.rb;have hh:=M.inv.ok.hd hc;obtain⟨Yf,rv,pl,hz⟩:=M.inv.list (hl _ _ M.at_);have Yk:=rv.length;have W:=Walks.list (prog:=X.prog) (w:=X.w) (A:=X.A.in1) hh I l hlI Yf.toArray;have hsz:Yf.toArray.size=Yf.length:=ZJ ..;have hin:j+1=Yf.length:=by lia
  refine Z9 PySem.F.entry_min_loop ?_;rw[ZBE PySem.F.plain_min_loop _];show wpAny _ X.A.in1 (seqItems? (.ref S) >>= _) _ _ _;refine ZA (wpAny_seqItems gS rfl ?_);show wpAny _ X.A.in1 (tryCatch (pyNext (.ref I)) _ >>= _) _ _ _;refine ZA (ZBT (W.done _ _ _ ⟨by rw[hsz,<- hin];exact M.it,pl.isList⟩ fun h' tk' hk'=>?_));have I1:Yg X Ya σ H { s with heap:=h',toks:=tk' }:=M.inv.turned (fun b o n e=>hk' b o (by simpa using n) e) M.fI.1 M.fI.2.1 M.fI.2.2.2.1 M.fI.2.2.2.2.1 M.fI.2.2.2.2.2;have hS':=hk' S _ (by simpa using hSI) gS;have s1:=Z3 h' S (Obj.mapSeq fun _=>(#[]:Array Value));show wpAny _ X.A.in1 (updateSeq S (fun _=>#[]) >>= _) _ _ _;refine ZA ?_;refine wpAny_updateSeq hS' rfl (ZA (ZBY (ZB ?_)));have I2:=I1.turned (t':=tk') (h':=h'.update S (Obj.mapSeq fun _=>(#[]:Array Value))) (fun b o n e=>(s1.2 b n).trans e) M.fS.1 M.fS.2.1 M.fS.2.2.2.1 M.fS.2.2.2.2.1 M.fS.2.2.2.2.2;exact hR i xb vb H _ hxb rb (fun j' hj'=>hbest j' (by lia)) (by rw[show xs.length=j+1 by lia];exact M.at_) I2
 | succ r ih =>
  intro j i vb H s hr hj M hij hbest;obtain⟨tb,c,gS⟩:=M.gS;obtain⟨xb,hxb,rb⟩:=M.rb;have hh:=M.inv.ok.hd hc;obtain⟨Yf,rv,pl,hz⟩:=M.inv.list (hl _ _ M.at_);have Yk:=rv.length;have W:=Walks.list (prog:=X.prog) (w:=X.w) (A:=X.A.in1) hh I l hlI Yf.toArray;have hsz:Yf.toArray.size=Yf.length:=ZJ ..;have Yr:j+1 < xs.length:=by lia
  refine Z9 PySem.F.entry_min_loop ?_;rw[ZBE PySem.F.plain_min_loop _];show wpAny _ X.A.in1 (seqItems? (.ref S) >>= _) _ _ _;refine ZA (wpAny_seqItems gS rfl ?_);show wpAny _ X.A.in1 (tryCatch (pyNext (.ref I)) _ >>= _) _ _ _;refine ZA (ZBT (W.item (j+1) _ _ _ (by rw[hsz];lia) ⟨M.it,pl.isList⟩ fun v h' tk' hP hst' hk'=>?_));have hv:Yf[j+1]? = some v:=by simpa using hP
  obtain⟨x,hx⟩:∃x,xs[j+1]? = some x:=⟨_,ZE Yr⟩;obtain⟨u,hu,ru⟩:=rv.get hx;rw[hv]at hu;cases hu;have I1:Yg X Ya σ H { s with heap:=h',toks:=tk' }:=M.inv.turned (fun b o n e=>hk' b o (by simpa using n) e) M.fI.1 M.fI.2.1 M.fI.2.2.2.1 M.fI.2.2.2.2.1 M.fI.2.2.2.2.2;have gS1:=hk' S _ (by simpa using hSI) gS;obtain⟨oI',hoI',hoc,hod⟩:=id hst'.1
  have I2:=I1.pinned (fp:=[I,S]) (fun b hb=>by
   rcases ZH.mp hb with rfl | hb
   ·exact M.fI
   ·rw[ZI.mp hb];exact M.fS) (fun b hb=>by
   rcases ZH.mp hb with rfl | hb
   ·exact⟨oI',hoI',fun v z=>by rw[hod]at z;cases z⟩
   ·rw[ZI.mp hb];exact⟨_,gS1,fun v z=>by cases z⟩)
  show wpAny _ X.A.in1 (tryCatch (holding [v] (call (.ref q) [v])) _ >>= _) _ _ _;refine ZA (ZBT (Zc (ZZ (turn (j+1) x v H _ _ hx ru M.at_ I2) (fun y s2 he=>?_) fun _ _ hF=>hF.elim)));obtain⟨H2,t2,rfl,I3,hJ2⟩:=he;have pI:=I3.pin (I,oI') (ZY _ (ZY _ (CO (by simp) hoI')));have pS:=I3.pin (S,_) (ZY _ (ZY _ (CO (by simp) gS1)));have I4:=I3.unpinned;have fI2:A6 X Ya H2 I:=⟨pI.2.1,M.fI.2⟩;have fS2:A6 X Ya H2 S:=⟨pS.2.1,M.fS.2⟩;show wpAny _ X.A.in1 (tryCatch (holding [v,.int (kf (j+1)) t2] (richCompare .Lt (.int (kf (j+1)) t2) (.int (kf i) tb) >>= _)) _ >>= _) _ _ _;refine ZA (ZBT (Zc (ZA (CmpOf.ints_lt (prog:=X.prog) (w:=X.w) (A:=X.A.in1) (P:=fun i v=>∃t,v=.int (kf i) t) kf (fun i v h=>h) (j+1) i _ _ _ _ _ ⟨t2,rfl⟩ ⟨tb,rfl⟩ ?_))));refine ZA (Zc (ZBC ?_));refine ZA (ZBY (ZB ?_))
  by_cases hb':kf (j+1) < kf i
  ·have s1:=Z3 s2.heap S (Obj.mapSeq fun _=>#[v,.int (kf (j+1)) t2]);obtain⟨c2,hc2⟩:∃c2,(s2.heap.update S (Obj.mapSeq fun _=>#[v,.int (kf (j+1)) t2])).get? S=some (seqObj "list" #[v,.int (kf (j+1)) t2] c2):=⟨_,get?_update_seq pS.1 fun _=>#[v,.int (kf (j+1)) t2]⟩;simp only[hb',decide_true,if_true];refine ZA ?_;refine wpAny_updateSeq pS.1 rfl (ZA (ZBY ?_));rw[hname];have I5:=I4.turned (t':=s2.toks) (h':=s2.heap.update S (Obj.mapSeq fun _=>#[v,.int (kf (j+1)) t2])) (fun b o n e=>(s1.2 b n).trans e) fS2.1 fS2.2.1 fS2.2.2.2.1 fS2.2.2.2.2.1 fS2.2.2.2.2.2;refine ZB ⟨ZBA PySem.F.plain_min_loop _,ih (j+1) (j+1) v H2 _ (by lia) Yr ⟨I5,fI2,fS2,⟨t2,c2,hc2⟩,⟨oI',(s1.2 I hSI.symm).trans pI.1,hoc,hod⟩,⟨x,hx,ru⟩,hJ2⟩ (ZD _) fun j' hj'=>?_⟩
   by_cases e:j'=j+1
   ·subst e;exact⟨by lia,fun _=>by lia⟩
   ·have hb1:=hbest j' (by lia);have hb2:=hb1.1;exact⟨by lia,fun _=>by lia⟩
  ·simp only[hb',decide_false,ZB4,if_false];refine ZA (ZBY ?_);rw[hname];refine ZB ⟨ZBA PySem.F.plain_min_loop _,ih (j+1) i vb H2 _ (by lia) Yr ⟨I4,fI2,fS2,⟨tb,c,pS.1⟩,⟨oI',pI.1,hoc,hod⟩,⟨xb,hxb,rb⟩,hJ2⟩ (by lia) fun j' hj'=>?_⟩
   by_cases e:j'=j+1
   ·subst e;exact⟨by lia,fun _=>by lia⟩
   ·exact hbest j' (by lia)
theorem N3 {q l:Addr} {xs:List V} {J:Nat->Hp->Prop} {kf:Nat->Int} {H:Hp} {s:Shared} {Q:VK} {E:Value->Shared->Prop} (hc:X.calm=true) (I0:Yg X Ya σ H s) (hpos:0 < xs.length) (h0:J 0 H)
 (hl:∀n H,J n H->Yv X.K H l xs) (turn:Nd X Ya σ q xs J kf)
 (hQ:∀i x H,xs[i]? = some x->(∀j,j < xs.length->kf i<=kf j/\(j < i->kf i < kf j))->J xs.length H->Q x H) :
 wpAny (model X.prog X.w) X.A (call (.builtin "min") [.ref l] [(Str.ofString "key",.ref q)]) (EP X Ya σ Q) E s:=by
 have hname:(toString "min" ++ toString ".loop" : String) = "min.loop":=by decide
 have hh:=I0.ok.hd hc;obtain⟨Yf,rv,pl,hz⟩:=I0.list (hl _ _ h0);have Yk:=rv.length;obtain⟨ol,_,hol,_⟩:=id pl;have hll:l < s.heap.objs.size:=ZG hol;refine kmk_tree PySem.F.kind_min PySem.F.plain_min PySem.F.entry_min (kmk_min_key _ _) ?_;show wpAny _ X.A.in1 (Builtin.Builtins.bindParams "min" ["key","default"] 0 ⟨[],[(Str.ofString "key",.ref q)]⟩ >>= _) _ _ s;refine ZA (wpAny_of_eq (show Builtin.Builtins.bindParams "min" ["key","default"] 0 ⟨[],[(Str.ofString "key",.ref q)]⟩=pure [some (.ref q),none] from rfl) ?_);refine ZA (ZB ?_);refine ZA (wpAny_pyIter_list pl.isList ?_);refine ZA (wpAny_newList ?_ (ZP _));rw[hname];refine ZB ⟨ZBA PySem.F.plain_min_loop _,?_⟩;generalize hI:s.heap.objs.size=I at *;generalize hh1:s.heap.push { cls:=.type "list_iterator",data:=.fields #[.ref l,.int 0 0] } = h1 at *;generalize hS:h1.objs.size=S at *;have hSI':S=I+1:=by rw[<- hS,<- hh1,<- hI];exact size_push' ..
 have hSI:S≠I:=by lia
 have hlI:l≠I:=ZO hll;have k1:∀b o,s.heap.get? b=some o->(h1.push (seqObj "list" #[] 0)).get? b=some o:=fun b o e=>ZF _ (by rw[<- hh1];exact ZF _ e)
 have gI:(h1.push (seqObj "list" #[] 0)).get? I=some { cls:=.type "list_iterator",data:=.fields #[.ref l,.int 0 0] }:=ZF _ (by rw[<- hh1,<- hI];exact ZN _ rfl);have gS:(h1.push (seqObj "list" #[] 0)).get? S=some (seqObj "list" #[] 0):=by rw[<- hS];exact ZN _ rfl
 have fI:A6 X Ya H I:=I0.fpOk (ZBc hI) (I0.hok.fresh (ZBc hI));have fS:A6 X Ya H S:=I0.fpOk (by lia) (I0.hok.fresh (by lia));have W:=Walks.list (prog:=X.prog) (w:=X.w) (A:=X.A.in1) hh I l hlI Yf.toArray;have hsz:Yf.toArray.size=Yf.length:=ZJ ..;refine Z9 PySem.F.entry_min_loop ?_;rw[ZBE PySem.F.plain_min_loop _];show wpAny _ X.A.in1 (seqItems? (.ref S) >>= _) _ _ _;refine ZA (wpAny_seqItems gS rfl ?_);show wpAny _ X.A.in1 (tryCatch (pyNext (.ref I)) _ >>= _) _ _ _
 have pl1:(h1.push (seqObj "list" #[] 0)).IsList l Yf.toArray:=by
  obtain⟨o,k,e,z⟩:=pl;have pl':PlainL (h1.push (seqObj "list" #[] 0)) l Yf.toArray:=⟨o,k,k1 _ _ e,z⟩;exact pl'.isList
 refine ZA (ZBT (W.item 0 _ _ _ (by rw[hsz];lia) ⟨⟨_,gI,rfl,rfl⟩,pl1⟩ fun v h' tk' hP hst' hk'=>?_));have hv:Yf[0]? = some v:=by simpa using hP
 obtain⟨x,hx⟩:∃x,xs[0]? = some x:=⟨_,ZE hpos⟩;obtain⟨u,hu,ru⟩:=rv.get hx;rw[hv]at hu;cases hu;have I1:Yg X Ya σ H { s with heap:=h',toks:=tk' }:=(I0.kept (t':=tk') k1).turned (t':=tk') (fun b o n e=>hk' b o (by simpa using n) e) fI.1 fI.2.1 fI.2.2.2.1 fI.2.2.2.2.1 fI.2.2.2.2.2;have gS1:=hk' S _ (by simpa using hSI) gS;obtain⟨oI',hoI',hoc,hod⟩:=id hst'.1
 have I2:=I1.pinned (fp:=[I,S]) (fun b hb=>by
  rcases ZH.mp hb with rfl | hb
  ·exact fI
  ·rw[ZI.mp hb];exact fS) (fun b hb=>by
  rcases ZH.mp hb with rfl | hb
  ·exact⟨oI',hoI',fun v z=>by rw[hod]at z;cases z⟩
  ·rw[ZI.mp hb];exact⟨_,gS1,fun v z=>by cases z⟩)
 show wpAny _ X.A.in1 (tryCatch (holding [v] (call (.ref q) [v])) _ >>= _) _ _ _;refine ZA (ZBT (Zc (ZZ (turn 0 x v H _ _ hx ru h0 I2) (fun y s2 he=>?_) fun _ _ hF=>hF.elim)));obtain⟨H2,t2,rfl,I3,hJ2⟩:=he;have pI:=I3.pin (I,oI') (ZY _ (ZY _ (CO (by simp) hoI')));have pS:=I3.pin (S,_) (ZY _ (ZY _ (CO (by simp) gS1)));have I4:=I3.unpinned;have fI2:A6 X Ya H2 I:=⟨pI.2.1,fI.2⟩;have fS2:A6 X Ya H2 S:=⟨pS.2.1,fS.2⟩;have s1:=Z3 s2.heap S (Obj.mapSeq fun _=>#[v,.int (kf 0) t2]);obtain⟨c2,hc2⟩:∃c2,(s2.heap.update S (Obj.mapSeq fun _=>#[v,.int (kf 0) t2])).get? S=some (seqObj "list" #[v,.int (kf 0) t2] c2):=⟨_,get?_update_seq pS.1 fun _=>#[v,.int (kf 0) t2]⟩;show wpAny _ X.A.in1 (updateSeq S (fun _=>#[v,.int (kf 0) t2]) >>= _) _ _ _;refine ZA ?_;refine wpAny_updateSeq pS.1 rfl ?_;rw[hname];have I5:=I4.turned (t':=s2.toks) (h':=s2.heap.update S (Obj.mapSeq fun _=>#[v,.int (kf 0) t2])) (fun b o n e=>(s1.2 b n).trans e) fS2.1 fS2.2.1 fS2.2.2.2.1 fS2.2.2.2.2.1 fS2.2.2.2.2.2;refine ZB ⟨ZBA PySem.F.plain_min_loop _,OU hc hSI hlI hl turn (fun i x v H s hi hr hb hJ hI=>⟨x,H,hI,hr,hQ i x H hi hb hJ⟩) _ 0 0 v H2 _ rfl hpos ⟨I5,fI2,fS2,⟨t2,c2,hc2⟩,⟨oI',(s1.2 I hSI.symm).trans pI.1,hoc,hod⟩,⟨x,hx,ru⟩,hJ2⟩ (ZD _) fun j' hj'=>?_⟩;have e:j'=0:=by lia
 subst e;exact⟨by lia,fun h=>absurd h (Za _)⟩
end
abbrev GD(scope:Scope)(L:Addr)(a b:Str)(ca cb:Addr)(qual:Str)(Yt c':Addr):Env:=newEnv scope L mainGlobals [(a,ca),(b,cb)] (qual ++ ".<locals>.") (some Yt) (.ref c') none builtinsNs
def Hq(P:Program)(w:World)(K:W.Frag)(mg:Str->Option Value)(base:Heap)(scope:Scope)(a b x:Str)(ca cb:Addr)(qual:Str)(Yt c':Addr)(A:Around)(outer:List Env)(s:Shared)(H:Hp):Cx where
 prog:=P
 w:=w
 K:=K
 mg:=mg
 base:=base
 A:=A.deeper (GD scope s.heap.objs.size a b ca cb qual Yt c')
 N:=[x,a,b]
 s₀:=s
 H₀:=H
 env:=GD scope s.heap.objs.size a b ca cb qual Yt c'
 outer:=outer
 stack:=GD scope s.heap.objs.size a b ca cb qual Yt c'::outer
 ex:=[]
 calm:=true
 fn:=fun _=>false
 pn:=[]
 xe:=fun _ _=>False
theorem look2{a b y:Str}{ca cb c:Addr}(e:List.lookup y [(a,ca),(b,cb)]=some c):(y=a/\c=ca)\/(y=b/\c=cb):=by
 rw[Zy]at e
 by_cases z:y=a
 ·subst z;simp at e;exact .inl ⟨rfl,e.symm⟩
 ·rw[beq_eq_false_iff_ne.mpr z]at e;have e:List.lookup y [(b,cb)]=some c:=e;rw[Zy]at e
  by_cases z:y=b
  ·subst z;simp at e;exact .inr ⟨rfl,e.symm⟩
  ·rw[beq_eq_false_iff_ne.mpr z]at e;cases e
theorem T6 {P:Program} {w:World} {K:W.Frag} {mg:Str->Option Value} {base:Heap} {k:Nat} {Yt ca cb c':Addr} {qual a b x:Str} {params:Arguments} {body:Expr} {scope:Scope} {pm ctv:Value} {spB:V->Hp->VK->Prop} {vA vB:V} {uA uB:Value}
 (hl:base.get? Yt=some (kla_obj "<lambda>" qual params body scope [(a,ca),(b,cb)] pm c' ctv)) (hca:base.IsCell ca (some uA)) (rA:Yi vA uA) (hcb:base.IsCell cb (some uB)) (rB:Yi vB uB) (hab:a≠b) (hcab:ca≠cb)
 (hx:scope.names.lookup x=some .local) (ha:scope.names.lookup a=some .free) (hb:scope.names.lookup b=some .free) (hfr:∀y,scope.names.lookup y=some .free->y=a\/y=b) (hco:scope.isCoroutine=false) (hgen:scope.isGenerator=false) (hkind:scope.kind=.function)
 (hcell:∀y∈scope.names,y.2≠.cell)
 (hbody:∀(A:Around) (outer:List Env) (s:Shared) (H:Hp) (v:V) (Q:VK),Room k (A.deeper (GD scope s.heap.objs.size a b ca cb qual Yt c'))->spB v H Q ->
   ∃te,PE (Hq P w K mg base scope a b x ca cb qual Yt c' A outer s H) body te/\te [some v,some vA,some vB] H Q) :
 FnOk P w K mg base CX0 (k+1) Yt (kla_fn "<lambda>" qual params body scope [(a,ca),(b,cb)] pm (.ref c') ctv) [x] (Bv c' qual spB):=by
 refine⟨fun vs H Q E h=>by unfold Bv at h;split at h;rfl;exact h.elim,fun A outer s H args us vs Q E hr e0 hbd r hsp=>?_⟩
 match vs,hsp,r with
 | [v],⟨hcd,hq⟩,r =>
 obtain⟨u,rfl,ru⟩:=BU r;have lim:s.heap.NoLimit:=e0.mod.nolimit.keeps fun b o e=>(e0.bs b o e).1
 obtain⟨hcr,_⟩:=e0.hok _ _ hcd;refine kla_callFunE hr.depth (e0.bs _ _ hl).1 rfl hco hgen rfl hcr (hbd _ _ _ _ ?_);refine wpAny_newFunctionEnv hcell (fun y hy=>by rw[ZI.mp hy];exact hx) (fun h₁ hns hsb=>⟨lim.fresh _ hsb,?_⟩) hkind;have hk₁:∀b o,s.heap.get? b=some o->h₁.get? b=some o:=fun b o e=>hsb.extBut b o (ZO (ZG e)) (ZF _ e)
 refine kla_codeExpr ?_;obtain⟨te,ht,hte⟩:=hbody A outer s H v Q (hr.deeper _) hq
 have hca1:h₁.IsCell ca (some uA):=by
  obtain⟨o,e,d⟩:=hca;exact⟨o,hk₁ _ _ (e0.bs _ _ e).1,d⟩
 have hcb1:h₁.IsCell cb (some uB):=by
  obtain⟨o,e,d⟩:=hcb;exact⟨o,hk₁ _ _ (e0.bs _ _ e).1,d⟩
 have hcaH:H ca=none:=by
  obtain⟨o,e,d⟩:=hca;exact(e0.bs _ _ e).2
 have hcbH:H cb=none:=by
  obtain⟨o,e,d⟩:=hcb;exact(e0.bs _ _ e).2
 have noA:∀b':Addr,b'∉(Hq P w K mg base scope a b x ca cb qual Yt c' A outer s H).ex:=fun b z=>absurd (show b∈([]:List Addr) from z) (by simp)
 have kindc:∀y,scope.names.lookup y≠some .cell:=fun y z=>hcell _ (PySem.mem_of_lookup z) rfl
 have la:List.lookup a [(a,ca),(b,cb)]=some ca:=by simp
 have lb:List.lookup b [(a,ca),(b,cb)]=some cb:=by
  rw[Zy,beq_eq_false_iff_ne.mpr (Ne.symm hab)];simp
 have I:Yg (Hq P w K mg base scope a b x ca cb qual Yt c' A outer s H) [] [some v,some vA,some vB] H { s with heap:=h₁,toks:=s.toks+[(x,u)].length }:=by
  refine⟨⟨e0.mod,hkind,rfl,rfl,ZD _,fun y z c h1 h2=>?_,fun y hy=>?_,fun y c hf _=>?_,fun _=>hr.hd,Around.frames_deeper e0.frames,.inr ⟨rfl,rfl⟩,fun b z=>absurd z (noA b),e0.bs,e0.bsz,fun b _ _=>noA b,fun b z=>absurd z (noA b),e0.funs,e0.frf⟩,
   rfl,e0.bare,Un.kept hk₁,⟨_,hns,fun i y z h1 h2 h3=>?_⟩,fun y c h=>?_,e0.hok.fresh (ZD _),fun y c h=>?_,fun p hp=>absurd (show p∈([]:List (Addr × Obj)) from hp) (by simp),e0.hok.kept hk₁,rfl⟩
  ·rcases look2 h1 with ⟨e1,e2⟩ | ⟨e1,e2⟩ <;> rcases look2 h2 with ⟨e3,e4⟩ | ⟨e3,e4⟩
   ·rw[e1,e3]
   ·exact absurd (e2.symm.trans e4) hcab
   ·exact absurd (e4.symm.trans e2) hcab
   ·rw[e1,e3]
  ·have hy:scope.names.lookup y=some .cell\/scope.names.lookup y=some .free:=hy
   rcases hy with hy | hy
   ·exact absurd hy (kindc y)
   ·rcases hfr y hy with rfl | rfl
    ·exact⟨ca,la⟩
    ·exact⟨cb,lb⟩
  ·cases hf
  ·match i,h1,h2 with
   | 0,h1,h2 =>
    cases h1;cases h2;exact⟨u,ru,.inl ⟨hx,by simp⟩⟩
   | 1,h1,h2 =>
    cases h1;cases h2;exact⟨uA,rA,.inr ⟨.inr ha,ca,la,hca1⟩⟩
   | 2,h1,h2 =>
    cases h1;cases h2;exact⟨uB,rB,.inr ⟨.inr hb,cb,lb,hcb1⟩⟩
   | n+3,h1,h2=>cases h2
  ·rcases look2 h with ⟨_,rfl⟩ | ⟨_,rfl⟩
   ·exact⟨_,hca1⟩
   ·exact⟨_,hcb1⟩
  ·rcases look2 h with ⟨_,rfl⟩ | ⟨_,rfl⟩
   ·exact hcaH
   ·exact hcbH
 refine ZZ (ht [] _ _ _ _ I hte) (fun u' s' hs=>?_) fun e s' hs=>False.elim hs
 obtain⟨v',H',J,rv,q⟩:=hs;exact⟨v',H',J.os,J.bare,J.base,J.hok,rv,q⟩
section
variable {X:Cx}{Ya:List (Addr × Obj)}{σ:St}{H:Hp}{s:Shared}
theorem Uu {k:Nat} {f:Addr} {fd:FuncData} {ps:List Str} {sp:Sp} {us:List Value} {vs:List V} {Q:VK} {E:Value->Shared->Prop} (I:Yg X Ya σ H s) (F:FnOk X.prog X.w X.K X.mg (CQ X H s) CX0 k f fd ps sp) (hr:Room k X.A.in1) (hb:BindsTo s fd ⟨us,[]⟩ (ps.zip us))
 (r:Yj vs us) (h:sp vs H Q E0):wpAny (model X.prog X.w) X.A.in1 (call (.ref f) us) (EP X Ya σ Q) E s:=by
 refine wpAny_call (ZBF (F.run X.A.in1 X.stack s H ⟨us,[]⟩ us vs Q E0 hr (KI I).in1 hb r h) fun r s' hq=>?_);cases r with
 | error e=>exact False.elim hq
 | ok fl =>
  cases fl with
  | ret u=>exact I.after hq
  | next=>exact False.elim hq
  | brk=>exact False.elim hq
  | cont=>exact False.elim hq
end
section
variable {X:Cx}{Pt c:Addr}{k i j:Nat}{a b x:Str}{p pos kpos lpos:Pos}{params:Arguments}{body:Expr}{scope:Scope}{e:Expr}{te:TE}{qual:Str}{spB:V->V->V->Hp->VK->Prop}
def Wj(K:W.Frag)(Pt:Addr)(lpos:Pos)(qual:Str)(i j:Nat)(spB:V->V->V->Hp->VK->Prop)(te:TE):TE:=fun σ H Q=>te σ H fun y H1=>∃l xs vA vB,y=.ref l/\0 < xs.length/\σ[i]? = some (some vA)/\σ[j]? = some (some vB)/\Yz Pt lpos qual H1 /\
 ∀c' H2,Yu Pt H1 H2->Yz Pt lpos qual H2->H2 c'=some (CdO c' qual)->∃(J:Nat->Hp->Prop) (kf:Nat->Int),J 0 H2/\(∀n H3,J n H3->Yv K H3 l xs/\H3 c'=some (CdO c' qual)) /\
  (∀n v H3,xs[n]? = some v->J n H3->spB vA vB v H3 fun y H4=>y=.int (kf n)/\J (n+1) H4) /\
  ∀n v H3,xs[n]? = some v->(∀m,m < xs.length->kf n<=kf m/\(m < n->kf n < kf m))->J xs.length H3->Q v H3
theorem Nu {K:W.Frag} (he:PE X e te) (hm:X.mg "min" = none) (hr:Room (k+1) X.A) (hc:X.calm=true) (hcode:X.env.code=.ref c) (hcK:codeHdIn X.K c Pt=true) (hbm:BMn X.mg X.base)
 (hq:X.env.qual ++ "<lambda>" = qual) (hdef:defaultsOf params X.env=([],[])) (hNi:X.N[i]? = some a) (hNj:X.N[j]? = some b)
 (hcl:∀ca cb,X.env.cells.lookup a=some ca->X.env.cells.lookup b=some cb->closureFor scope X.env=pure [(a,ca),(b,cb)]) (hka:X.env.kindOf a=some .cell) (hkb:X.env.kindOf b=some .cell) (hfa:X.fn a=true) (hfb:X.fn b=true) (hab:a≠b)
 (hbind:∀(u pm ctv:Value) (ca cb c':Addr),bindArgs (kla_fn "<lambda>" qual params body scope [(a,ca),(b,cb)] pm (.ref c') ctv) ⟨[u],[]⟩=pure [(x,u)])
 (hF:∀(base':Heap) (Yt ca cb c':Addr) (pm ctv uA uB:Value) (vA vB:V),(∀b o,X.base.get? b=some o->base'.get? b=some o)->base'.get? Yt=some (kla_obj "<lambda>" qual params body scope [(a,ca),(b,cb)] pm c' ctv)->ca≠cb ->
   base'.IsCell ca (some uA)->Yi vA uA->base'.IsCell cb (some uB)->Yi vB uB->FnOk X.prog X.w X.K X.mg base' CX0 k Yt (kla_fn "<lambda>" qual params body scope [(a,ca),(b,cb)] pm (.ref c') ctv) [x] (Bv c' qual (spB vA vB)))
 (hg:Gl X "min":=by rfl) (hK:X.K=K:=by rfl)
 (hst:starEach [e] X.env=(false,eval e X.env)::starEach [] X.env:=by rfl) :
 PE X (.Call (.Name "min" p) [e] [⟨some "key",.Lambda params body scope lpos,kpos⟩] pos) (Wj K Pt lpos qual i j spB te):=by
 intro Ya s σ H Q I h;subst hq hK;refine wpAny_Call_Name_kw (CI I hg hm (show bootBuiltins "min" = some (.builtin "min") by kernel_rfl) ?_);refine callWith_kw (e:=e) (rest:=[]) (id:="min") ?_ (by rw[hst];rfl) (by rw[hst];rfl)
 refine Ym ((AA he AB hst) pos Ya s σ H (fun vs H1=>match vs with | [y]=>(∃l xs vA vB,y=.ref l/\0 < xs.length/\σ[i]? = some (some vA)/\σ[j]? = some (some vB)/\Yz Pt lpos (X.env.qual ++ "<lambda>") H1 /\
  ∀c' H2,Yu Pt H1 H2->Yz Pt lpos (X.env.qual ++ "<lambda>") H2->H2 c'=some (CdO c' (X.env.qual ++ "<lambda>"))->∃(J:Nat->Hp->Prop) (kf:Nat->Int),J 0 H2/\(∀n H3,J n H3->Yv X.K H3 l xs/\H3 c'=some (CdO c' (X.env.qual ++ "<lambda>"))) /\
   (∀n v H3,xs[n]? = some v->J n H3->spB vA vB v H3 fun y H4=>y=.int (kf n)/\J (n+1) H4) /\
   ∀n v H3,xs[n]? = some v->(∀m,m < xs.length->kf n<=kf m/\(m < n->kf n < kf m))->J xs.length H3->Q v H3) | _=>False) I h) fun us s1 ⟨vs,H1,I1,r1,q1⟩=>?_
 match vs,r1,q1 with
 | [_],.cons rx .nil,⟨l,xs,vA,vB,ex,hpos,hvA,hvB,hL,hQ⟩ =>
 subst ex;cases rx;obtain⟨ps,hP,htr,hcs⟩:=id hL
 have fin:∀(H2:Hp) (s2:Shared) (Yt c' ca cb:Addr) (pm ctv:Value),Yg X Ya σ H2 s2->X.env.cells.lookup a=some ca->X.env.cells.lookup b=some cb->s2.heap.get? Yt=some (kla_obj "<lambda>" (X.env.qual ++ "<lambda>") params body scope [(a,ca),(b,cb)] pm c' ctv) ->
  H2 Yt=none->Yt≠X.env.locals->Yt∉X.fs->Yu Pt H1 H2->Yz Pt lpos (X.env.qual ++ "<lambda>") H2->H2 c'=some (CdO c' (X.env.qual ++ "<lambda>")) ->
  wpAny (model X.prog X.w) X.A (call (.builtin "min") [.ref l] [(Str.ofString "key",.ref Yt)]) (EP X Ya σ Q) X.xe s2:=by
  intro H2 s2 Yt c' ca cb pm ctv I2 hla hlb hf hn hnl hnf hG hL2 hc';obtain⟨J,kf,h0,hJ,hturn,hend⟩:=hQ c' H2 hG hL2 hc';have I3:=I2.pin1 hf hn hnl hnf (fun v z=>by cases z);have hcab:ca≠cb:=fun z=>hab (I2.ok.inj a b ca hla (by rw[hlb,z]))
  refine Ym (N3 (J:=J) (kf:=kf) (E:=X.xe) hc I3 hpos h0 (fun n H h=>(hJ n H h).1) (fun n y u H s pl hy ru hj I4=>?_) (fun n y H hy hb hj=>hend n y H hy hb hj)) fun u s3 ⟨y,H3,I5,r5,q5⟩=>⟨y,H3,I5.unpin1,r5,q5⟩
  have hl3:=(I4.pin (Yt,_) (ZY _ (Zt _ (Zb ..))));obtain⟨m,hns,hloc⟩:=I4.loc;obtain⟨uA,rA,lookA⟩:=hloc i a vA hNi hvA (.inr (.inl hka));obtain⟨uB,rB,lookB⟩:=hloc j b vB hNj hvB (.inr (.inl hkb))
  rcases lookA with ⟨z,_⟩ | ⟨_,ca',e1,e2⟩
  ·rw[hka]at z;cases z
  rcases lookB with ⟨z,_⟩ | ⟨_,cb',e3,e4⟩
  ·rw[hkb]at z;cases z
  rw[hla]at e1;cases e1;rw[hlb]at e3;cases e3
  have lamS:Yt∉frs X.stack:=fun z=>by
   rcases ZH.mp (I4.stkSub _ z) with z | z
   ·exact hl3.2.2.1 z
   ·exact hl3.2.2.2.1 z
  have cellS:∀y c,X.fn y=true->X.env.cells.lookup y=some c->c∉frs X.stack:=fun y c hy hc z=>by
   rcases ZH.mp (I4.stkSub _ z) with z | z
   ·exact I4.cne _ _ hc z
   ·obtain⟨_,o,ho,_⟩:=I4.ok.funs.mem z;exact absurd (ZX (ZG ho) (I4.ok.cab y c hy hc)) (Za _)
  have cA:(CQ X H s).IsCell ca (some uA):=by
   obtain⟨o,ho,hd'⟩:=e2;exact⟨o,EJ ho (I4.freeC _ _ hla) (cellS a ca hfa hla),hd'⟩
  have cB:(CQ X H s).IsCell cb (some uB):=by
   obtain⟨o,ho,hd'⟩:=e4;exact⟨o,EJ ho (I4.freeC _ _ hlb) (cellS b cb hfb hlb),hd'⟩
  have F:=hF (CQ X H s) Yt ca cb c' pm ctv uA uB vA vB (Hu I4) (EJ hl3.1 hl3.2.1 lamS) hcab cA rA cB rB;refine Ym (Uu (vs:=[y]) (us:=[u]) (Q:=fun v H4=>v=.int (kf n)/\J (n+1) H4) I4 F hr.in1 (.of_eq (hbind u pm ctv ca cb c')) (.cons ru .nil) ⟨(hJ n H hj).2,hturn n y H hy hj⟩) fun y2 s2 h2=>?_
  obtain⟨y3,H4,I6,r6,q6,q7⟩:=h2;subst q6;obtain⟨t,rfl⟩:=r6;exact⟨H4,t,rfl,I6,q7⟩
 show wpAny _ _ (evalAll ((do let v <- eval (.Lambda params body scope lpos) X.env;standAt pos;pure v)::[])) _ _ s1;obtain⟨ca,hla⟩:=I1.ok.has a (.inl hka);obtain⟨cb,hlb⟩:=I1.ok.has b (.inl hkb);have hcl':=hcl ca cb hla hlb;have gl:∀{s:Shared} {H:Hp},Yg X Ya σ H s->s.heap.Ns mainGlobals X.mg:=fun J=>J.mod.glob.keeps J.bk
 have C:CodeHd s1.heap c Pt:=codeHd_of_K I1.kIn hcK;have hPt:s1.heap.get? Pt=some (tabObj ps):=I1.hok _ _ hP
 have gP:mainGlobals≠Pt:=fun z=>by
  obtain⟨o,es,ep,e,hd,_⟩:=gl I1;rw[z,hPt]at e;cases e;cases hd
 have hB:s1.heap.BuiltinsAt X.mg Pt:=by
  obtain⟨bm,ob,b1,b2,b3,b4,b5,b6⟩:=hbm;have e:=I1.bk _ _ b3;refine⟨bm,ob,b1,b2,fun z=>?_,fun z=>?_,e,b4,b5,b6⟩
  ·obtain⟨o,es,ep,e',hd,_⟩:=gl I1;rw[z,e']at e;cases e;rw[hd]at b6;cases b6
  ·rw[z,hPt]at e;cases e;cases b4
 refine wpAny_evalAll_cons (ZA (kla_eval hdef ?_))
 rcases hcs with hnf | ⟨c',hf,hc'⟩
 ·refine kla_makeFunction hcl' I1.ok.glob (gl I1) hcode C hPt htr hnf gP hB fun c' ctv h' tk hx' hge Yr hrec htb=>?_
  refine ZA (ZBK (ZB (wpAny_evalAll_nil ?_)));have J:=I1.grow (t':=tk) hP hx' htb hge hrec;have J':=J.kept (h':=h'.push _) (t':=tk) fun b' u e=>ZF (kla_obj "<lambda>" (X.env.qual ++ "<lambda>") params body scope [(a,ca),(b,cb)] ((X.mg "__name__").getD .none) c' ctv) e
  have hcn:H1 c'=none:=I1.hok.fresh hge;have hcP:c'≠Pt:=fun z=>by rw[z,hP]at hcn;cases hcn
  refine fin _ _ h'.objs.size c' ca cb _ ctv J' hla hlb (ZN _ rfl) (J.hok.fresh (ZD _)) (ZBN J.lt) (J.nofs (ZD _)) (fun b o n e=>?_) ⟨_,by rw[AI (Ne.symm hcP),AD],?_,.inr ⟨c',?_,AD⟩⟩ AD
  ·have hbc:b≠c':=fun z=>by rw[z,hcn]at e;cases e
   rw[AI hbc,AI n];exact e
  ·rw[ZB7];exact TriplesOk_snoc _ _ _ _ htr
  ·rw[ZB7];exact codeAmong_snoc _ htr hnf
 ·refine kla_makeFunctionHit hcl' I1.ok.glob (gl I1) hcode C hPt htr hf hB fun ctv h' tk hk' hsz=>?_
  refine ZA (ZBK (ZB (wpAny_evalAll_nil ?_)));have J0:Yg X Ya σ H1 { s1 with heap:=h',toks:=tk }:=I1.kept hk';have J:=I1.kept (h':=h'.push _) (t':=tk) fun b' u e=>ZF (kla_obj "<lambda>" (X.env.qual ++ "<lambda>") params body scope [(a,ca),(b,cb)] ((X.mg "__name__").getD .none) c' ctv) (hk' b' u e)
  exact fin _ _ h'.objs.size c' ca cb _ ctv J hla hlb (ZN _ rfl) (J0.hok.fresh (ZD _)) (ZBN J0.lt) (J0.nofs (ZD _)) (Yu.refl _ _) hL hc'
end
end L2
namespace L2
open PySem PyProof PyProof.Rows
def Ux(K:W.Frag)(C:Addr)(i:Nat)(tx:TX)(ts:TS):TS:=fun D σ H =>
 tx σ H (fun v H1=>D.nx (σ.set i (some v)) H1) fun cls od H1=>PySem.W.exmOne K cls (.ref C)=some true/\∀x,H1 x=none->ts D σ (upd H1 x (FV x cls od))
section
variable {X:Cx}{C:Addr}{x c:Str}{p p1 p2 p3 pos:Pos}{e:Expr}{tx:TX}{ts:TS}{i:Nat}{b:Stmt}{bs:List Stmt}
theorem Rf (hN:X.N.Nodup) (hi:X.N[i]? = some x) (hx:Loc X.env.scope x) (hstk:X.stack=X.env::X.outer) (hfr:X.env.frame=some X.env.locals) (hg:Gl X c) (hm:X.mg c=some (.ref C))
 (he:PX X e tx) (hs:∀a,PSs (X.hand (.ref a)) (b::bs) ts) (hsw:swapsWith e (some (.Name x p1)) p2.line X.env=pure false:=by rfl) (hf:X.fn x=true\/X.env.scope.names.lookup x=some .local:=by first | exact .inl rfl | exact .inr rfl | assumption)
 (hdb:(c == ("__debug__" : Str))=false:=by decide):PS X (.Try [.Assign [.Name x p1] e p2] [.ExceptHandler (some (.Name c p3)) none (b::bs) p] [] [] pos) (Ux X.K C i tx ts):=by
 intro Ya s σ H D I h;refine wpAny_Try_except (wpAny_execs_cons (wpAny_Assign_Name (ZZ (he Ya s σ H _ _ I h) (fun v s1 ⟨y,H1,I1,r1,q1⟩=>?_) fun ev s' ⟨H1,s1,I1,q⟩=>?_) hsw))
 ·exact GQ I1 hN hi hx r1 (fun s2 I2=>wpAny_execs_nil (wpAny_execs_nil ⟨_,H1,I2,q1⟩)) hf
 obtain⟨a,cls,od,T,H2,rfl,ho,hb,u,hk,ex,⟨n1,n2⟩,⟨f1,f2⟩,hex,ht⟩:=q;have J:Yg X Ya σ H2 s':=I1.call' ho u hk hb (ch:=[]) fun b z=>absurd z (by simp)
 refine Jv (base:=X.base) (outer:=X.outer) (L:=X.env.locals) (by rw[J.ok.frames,hstk]) (by have:=J.stack;rwa [hstk]at this) hfr ex (.inr ⟨T,rfl⟩) fun h2 T2 a1 a2 a3=>?_
 rw[<- hstk]at a3;have I2:=NB (h:=h2) I1 ho hb u hk n1 n2 f1 f2 a3 a1;refine wpAny_handleBy_cons (codeAny_handlers_test (DQ (I2.hand (.ref a)) hg hm ?_ hdb)) (by intro q;cases q);have hob:=a1;obtain⟨oe,vs,o1,o2,_⟩:=hob;subst o2;have LT:PySem.W.Looks (model X.prog X.w) h2 (typeOf (.ref a)) oe.cls:=(PySem.W.Looks.ld o1).andThen .now;refine(PySem.W.exm_one I2.kIn LT hex).here ?_;refine codeAny_handlers_suite (Mr (s:={ s' with heap:=h2 }) a1 fun h3 b1 b2 b3=>?_)
 have I3:=NB (h:=h3) I1 ho hb u hk n1 n2 f1 f2 (fun b o eb nb=>by
  have nT2:b≠T2:=fun z=>by rw[z,a2]at eb;cases eb
  obtain⟨c1,sl,c2⟩:=a3 b o eb nb;exact⟨fun nf=>(b2 b nT2).trans (c1 nf),sl,(b2 b nT2).trans c2⟩) b1
 refine ZZ (hs a Ya _ _ _ _ (I3.hand (.ref a)) (ht a f1)) (fun fl s5 q=>?_) fun _ _ z=>False.elim z
 cases fl with
 | next=>obtain⟨σ5,H5,I5,q⟩:=q;exact⟨_,_,J.unhand I5,q⟩
 | brk=>obtain⟨σ5,H5,I5,q⟩:=q;exact⟨_,_,J.unhand I5,q⟩
 | cont=>obtain⟨σ5,H5,I5,q⟩:=q;exact⟨_,_,J.unhand I5,q⟩
 | ret w=>obtain⟨v5,σ5,H5,I5,r5,q⟩:=q;exact⟨v5,_,_,J.unhand I5,r5,q⟩
end
end L2
namespace Mine
open PySem L2
variable {N S U i j k m n:Nat}{ts ys:List Nat}{ls ns:List Int}{Yd:List (Key × V)}{v:V}{K:W.Frag}{C Pt a b d nd p t tl:Addr}{H H':Hp}{xs:List V}{o:HO}{rs:List (List Bool)}{X ps:List Addr}{es:DO}{pos:Pos}{q:Str}
def top(i:Nat):Stmt:=PySem.Challenge.pw_flips_k95_whole_any_paper_of_asks.main.body.getD i (.Pass ⟨0,0,0,0⟩)
abbrev Hf:Stmt:=top 1
abbrev IT:Stmt:=top 2
abbrev JU:Stmt:=top 3
abbrev Iz:Stmt:=top 4
abbrev GR:Stmt:=top 6
abbrev Ji:Stmt:=top 7
abbrev GU:Stmt:=top 8
abbrev Ia:Stmt:=top 9
abbrev D4:Stmt:=BK (top 12) 0
abbrev Hg:Stmt:=top 14
abbrev Ie:Stmt:=top 16
abbrev Hv:Stmt:=top 17
abbrev Jc:Stmt:=top 18
abbrev Jj:Stmt:=BK (top 19) 0
abbrev JS:Stmt:=BK (top 19) 1
abbrev Jg:Stmt:=BK (top 19) 2
abbrev Hi:Stmt:=BK (top 19) 3
abbrev Hk:Stmt:=BK (top 19) 4
abbrev Hm:Stmt:=BK (top 21) 0
abbrev G5:Stmt:=BK (top 21) 1
abbrev GY:Stmt:=BK (top 21) 2
abbrev Gn:Stmt:=BK (top 21) 3
abbrev HI:Stmt:=BK (top 21) 4
abbrev HW:Stmt:=BK (top 21) 5
abbrev IZ:Stmt:=BK (top 21) 6
abbrev G4:Stmt:=BK (top 21) 7
abbrev G8:Stmt:=BK (top 21) 8
abbrev IJ:Stmt:=BK (top 21) 9
abbrev JF:Stmt:=BK (top 21) 10
abbrev CN:Stmt:=BK (top 21) 11
abbrev GV:Stmt:=top 22
abbrev JJ:Stmt:=top 24
abbrev Ic:Stmt:=top 25
abbrev Io:Stmt:=top 27
abbrev Js:Stmt:=top 28
abbrev Hj:Stmt:=top 29
abbrev Gs:Stmt:=top 31
abbrev Ch:Stmt:=top 35
abbrev JI:Stmt:=top 36
abbrev Hn:Stmt:=top 37
abbrev Ir:Stmt:=top 38
abbrev Hx:Stmt:=top 39
abbrev Iv:Stmt:=top 41
abbrev Gg:Stmt:=top 42
abbrev HV:Stmt:=top 44
abbrev Gw:Stmt:=top 45
abbrev JW:Stmt:=top 46
abbrev Gy:Stmt:=top 47
abbrev HS:Stmt:=top 48
abbrev Im:Stmt:=top 49
abbrev Ja:Stmt:=top 50
abbrev Gc:Stmt:=top 51
abbrev IX:Stmt:=top 52
abbrev Hs:Stmt:=top 53
abbrev CV:Stmt:=top 54
local macro_rules | `(tactic| walk_at "f")=>`(tactic| exact⟨rfl,rfl,rfl,by decide +kernel,rfl,by decide +kernel,by decide +kernel⟩)
theorem Pc:FnScope ["thing"] ["thing"] (AJ Hf):=by walk_at "f"
theorem RP:FnScope ["bound","thing"] ["bound","thing"] (AJ IT):=by walk_at "f"
theorem RQ:FnScope ["n"] ["n"] (AJ JU):=by walk_at "f"
theorem sc_z59:FnScope ["base","times","power","step"] ["base","times"] (AJ Iz):=by walk_at "f"
theorem Sw:FnScope ["place","switch"] ["place","switch"] (AJ GR):=by walk_at "f"
theorem TY:FnScope ["subset","other"] ["subset","other"] (AJ Ji):=by walk_at "f"
theorem Vt:FnScope ["members"] ["members"] (AJ GU):=by walk_at "f"
theorem So:FnScope ["subset"] ["subset"] (AJ Ia):=by walk_at "f"
theorem Pn:FnScope ["self","one","other"] ["self","one","other"] (AJ D4):=by walk_at "f"
theorem UB:FnScope ["thing"] ["thing"] (AJ Hg):=by walk_at "f"
theorem Rz:FnScope ["game","d","thing"] ["game","d","thing"] (AJ Ie):=by walk_at "f"
theorem O7:FnScope ["game","thing"] ["game","thing"] (AJ Hv):=by walk_at "f"
theorem sc_z45:FnScope ["many","thing","last","each"] ["many","thing"] (AJ Jc):=by walk_at "f"
theorem sc_z36:FnScope ["self","game","entries","entry","things"] ["self","game","entries"] (AJ Jj):=by walk_at "f"
theorem sc_z26:FnScope ["self","things","number"] ["self"] (AJ JS):=by walk_at "f"
theorem sc_z32:FnScope ["self","things","number","yes","left_by_yes"] ["self","things","number","yes"] (AJ Jg):=by walk_at "f"
theorem Qt:FnScope ["self","things","number"] ["self","things","number"] (AJ Hi):=by walk_at "f"
theorem sc_z17:FnScope ["self","things","inside"] ["self","things"] (AJ Hk):=by walk_at "f"
theorem PU:FnScope ["self","game"] ["self","game"] (AJ Hm):=by walk_at "f"
theorem QV:FnScope ["self"] ["self"] (AJ G5):=by walk_at "f"
theorem N6:FnScope ["self","things"] ["self","things"] (AJ GY):=by walk_at "f"
theorem Ub:FnScope ["self","things"] ["self","things"] (AJ Gn):=by walk_at "f"
theorem sc_z29:FnScope ["self","things","question","answer","yes"] ["self","things","question","answer"] (AJ HI):=by walk_at "f"
theorem Os:FnScope ["self","things"] ["self","things"] (AJ HW):=by walk_at "f"
theorem Sd:FnScope ["self","things"] ["self","things"] (AJ IZ):=by walk_at "f"
theorem Ut:FnScope ["self","things"] ["self","things"] (AJ G4):=by walk_at "f"
theorem WX:FnScope ["self","things","question"] ["self","things","question"] (AJ G8):=by walk_at "f"
theorem sc_z22:FnScope ["self","things","question","no","yes"] ["self","things","question"] (AJ IJ):=by walk_at "f"
theorem VW:FnScope ["self","things"] ["self","things"] (AJ JF):=by walk_at "f"
theorem Si:FnScope ["self","things"] ["self","things"] (AJ CN):=by walk_at "f"
theorem Sq:FnScope ["wanted","values"] ["wanted","values"] (AJ GV):=by walk_at "f"
theorem sc_z27:FnScope ["game","found"] ["game"] (AJ JJ):=by walk_at "f"
theorem sc_z34:FnScope ["game","labels","answers","one","other"] ["game"] (AJ Ic):=by walk_at "f"
theorem sc_z64:FnScope ["game","reckoner","things"] ["game"] (AJ Io):=by walk_at "f"
theorem sc_z48:FnScope ["reckoner","things","question","no","yes"] ["reckoner","things"] (AJ Js):=by walk_at "f"
theorem sc_z43:FnScope ["reckoner","things","entries","level","below","each","number"] ["reckoner","things"] (AJ Hj):=by walk_at "f"
theorem sc_z58:FnScope ["has_form","parts_within","is_beyond","thing","level","depth","many","below","part"] ["has_form","parts_within","is_beyond","thing"] (AJ Gs):=by walk_at "f"
theorem Qz:FnScope ["game","thing"] ["game","thing"] (AJ Ch):=by walk_at "f"
theorem Rj:FnScope ["questions","thing"] ["questions","thing"] (AJ JI):=by walk_at "f"
theorem Vj:FnScope ["tree"] ["tree"] (AJ Hn):=by walk_at "f"
theorem Ox:FnScope ["many","depth"] ["many","depth"] (AJ Ir):=by walk_at "f"
theorem sc_z68:FnScope ["game","tree","thing","spot","asks"] ["game","tree","thing"] (AJ Hx):=by walk_at "f"
theorem Uz:FnScope ["game","d","thing"] ["game","d","thing"] (AJ Iv):=by walk_at "f"
theorem sc_z46:FnScope ["game","d","tree","hidden","found"] ["game","d","tree","hidden"] (AJ Gg):=by walk_at "f"
theorem VS:FnScope ["_law_script"] ["_law_script"] (AJ HV):=by walk_at "f"
theorem sc_z54:FnScope ["_law_tape_here","_law_many","_law_script","_law_digit","_law_cell","_law_seed"] ["_law_tape_here","_law_many"] (AJ Gw):=by walk_at "f"
theorem sc_z50:FnScope ["_law_tape_here","_law_many","_law_labels","_law_rows","_law_k"] ["_law_tape_here"] (AJ JW):=by walk_at "f"
theorem sc_z52:FnScope ["_law_game_here","_law_things_here","_law_known","_law_labels","_law_rows","_law_found","_law_row","_law_no","_law_yes"] ["_law_game_here","_law_things_here","_law_known"] (AJ Gy):=by walk_at "f"
theorem Ro:FnScope ["_law_tape_here","_law_many"] ["_law_tape_here","_law_many"] (AJ HS):=by walk_at "f"
theorem sc_z31:FnScope ["_law_tape_here","_law_many","_law_paper","_law_entries","_law_turn","_law_way","_law_at"] ["_law_tape_here","_law_many","_law_paper"] (AJ Im):=by walk_at "f"
theorem sc_z49:FnScope ["_law_tape_here","_law_game_here","_law_deep","_law_question"] ["_law_tape_here","_law_game_here","_law_deep"] (AJ Ja):=by walk_at "f"
theorem Wf:FnScope ["_law_tape_here","_law_game_here","_law_tree_here"] ["_law_tape_here","_law_game_here","_law_tree_here"] (AJ Gc):=by walk_at "f"
theorem sc_z56:FnScope ["_law_game_here","_law_tree_here","_law_thing","_law_asks_here"] ["_law_game_here","_law_tree_here","_law_thing"] (AJ IX):=by walk_at "f"
theorem sc_z55:FnScope ["_law_game_here","_law_answer"] ["_law_game_here"] (AJ Hs):=by walk_at "f"
theorem sc_law:FnScope ["_law_script","_law_tape_here","_law_turn","_law_game_here","_law_many","_law_due","_law_found","_law_paper","_law_tree_here","_law_papers","_law_trees","_law_d","_law_one","_law_paths","_law_good"] ["_law_script"] (AJ CV):=by walk_at "f"
def B4:Str:=PySem.Str.ofString "Reckoner.first_question" ++ PySem.Str.ofString ".<locals>." ++ PySem.Str.ofString "<lambda>"
def Em:Pos:=⟨126,45,126,97⟩
def CK:Str:=PySem.Str.ofString "is_tree" ++ PySem.Str.ofString ".<locals>." ++ PySem.Str.ofString "<lambda>"
def Ec:Pos:=⟨188,20,188,66⟩
set_option genInjectivity false
set_option genSizeOf false
structure Fun1(K:W.Frag)(mg:Str->Option Value)(n:Str)(st:Stmt)(ps:List Str) where
 f:Addr
 d:FuncData
 F:Fun K n n st f d
 b:Binds K d ps []
 m:mg n=some (.ref f)
structure Meth1(K:W.Frag)(C:Addr)(n q:Str)(st:Stmt)(ps:List Str) where
 f:Addr
 d:FuncData
 F:Fun K n q st f d
 b:Binds K d ps []
 m:Meth K C n f
structure Txt(K:W.Frag)(mg:Str->Option Value) where
 C_Bearing:Addr
 mC_Bearing:mg "Bearing" = some (.ref C_Bearing)
 cl_Bearing:Cls K C_Bearing
 na_Bearing_yeses:NoAttr K C_Bearing "yeses"
 na_Bearing_numbers:NoAttr K C_Bearing "numbers"
 na_Bearing_found:NoAttr K C_Bearing "found"
 C_Reckoner:Addr
 mC_Reckoner:mg "Reckoner" = some (.ref C_Reckoner)
 cl_Reckoner:Cls K C_Reckoner
 na_Reckoner_labels:NoAttr K C_Reckoner "labels"
 na_Reckoner_yeses:NoAttr K C_Reckoner "yeses"
 na_Reckoner_alike:NoAttr K C_Reckoner "alike"
 na_Reckoner_known:NoAttr K C_Reckoner "known"
 C_NoEnd:Addr
 mC_NoEnd:mg "NoEnd" = some (.ref C_NoEnd)
 xc_NoEnd:ExcC K C_NoEnd
 hd_NoEnd:W.hasDictIn K C_NoEnd=true
 na_NoEnd_one:NoAttr K C_NoEnd "one"
 na_NoEnd_other:NoAttr K C_NoEnd "other"
 xm_NoEnd_NoEnd:W.exmOne K (.ref C_NoEnd) (.ref C_NoEnd)=some true
 z57:Fun1 K mg "is_whole" Hf ["thing"]
 z61:Fun1 K mg "is_below" IT ["bound","thing"]
 z65:Fun1 K mg "two_to" JU ["n"]
 z59:Fun1 K mg "power_of" Iz ["base","times"]
 z67:Fun1 K mg "is_on" GR ["place","switch"]
 z66:Fun1 K mg "within" Ji ["subset","other"]
 z42:Fun1 K mg "set_holding" GU ["members"]
 z44:Fun1 K mg "members_of" Ia ["subset"]
 z39:Meth1 K C_NoEnd "__init__" "NoEnd.__init__" D4 ["self","one","other"]
 xI_NoEnd:ExcI K C_NoEnd z39.f
 z62:Fun1 K mg "is_pair" Hg ["thing"]
 z51:Fun1 K mg "lets_hard" Ie ["game","d","thing"]
 z60:Fun1 K mg "is_entry" Hv ["game","thing"]
 z45:Fun1 K mg "are_things" Jc ["many","thing"]
 z36:Meth1 K C_Bearing "__init__" "Bearing.__init__" Jj ["self","game","entries"]
 mk_Bearing:Mk K C_Bearing z36.f
 z26:Meth1 K C_Bearing "bears_all" "Bearing.bears_all" JS ["self"]
 z32:Meth1 K C_Bearing "bears" "Bearing.bears" Jg ["self","things","number","yes"]
 z24:Meth1 K C_Bearing "has_within" "Bearing.has_within" Hi ["self","things","number"]
 z17:Meth1 K C_Bearing "greatest_within" "Bearing.greatest_within" Hk ["self","things"]
 z33:Meth1 K C_Reckoner "__init__" "Reckoner.__init__" Hm ["self","game"]
 mk_Reckoner:Mk K C_Reckoner z33.f
 z23:Meth1 K C_Reckoner "everything" "Reckoner.everything" G5 ["self"]
 z18:Meth1 K C_Reckoner "has_one_label" "Reckoner.has_one_label" GY ["self","things"]
 z25:Meth1 K C_Reckoner "label_of" "Reckoner.label_of" Gn ["self","things"]
 z29:Meth1 K C_Reckoner "left_of" "Reckoner.left_of" HI ["self","things","question","answer"]
 z19:Meth1 K C_Reckoner "fewest_among" "Reckoner.fewest_among" HW ["self","things"]
 z15:Meth1 K C_Reckoner "fewest_reckoned" "Reckoner.fewest_reckoned" IZ ["self","things"]
 z28:Meth1 K C_Reckoner "parting" "Reckoner.parting" G4 ["self","things"]
 z21:Meth1 K C_Reckoner "worst_behind" "Reckoner.worst_behind" G8 ["self","things","question"]
 z22:Meth1 K C_Reckoner "harder_left" "Reckoner.harder_left" IJ ["self","things","question"]
 z20:Meth1 K C_Reckoner "harder_lefts" "Reckoner.harder_lefts" JF ["self","things"]
 z16:Meth1 K C_Reckoner "first_question" "Reckoner.first_question" CN ["self","things"]
 z38:Fun1 K mg "members_where" GV ["wanted","values"]
 z27:Fun1 K mg "refuse_without_end" JJ ["game"]
 z34:Fun1 K mg "first_unparted" Ic ["game"]
 z64:Fun1 K mg "fewest" Io ["game"]
 z48:Fun1 K mg "best_tree" Js ["reckoner","things"]
 z43:Fun1 K mg "hard_paper" Hj ["reckoner","things"]
 z58:Fun1 K mg "keeps_to" Gs ["has_form","parts_within","is_beyond","thing"]
 z63:Fun1 K mg "is_tree" Ch ["game","thing"]
 z37:Fun1 K mg "has_tree_form" JI ["questions","thing"]
 z40:Fun1 K mg "trees_within" Hn ["tree"]
 z30:Fun1 K mg "is_too_large_tree" Ir ["many","depth"]
 z68:Fun1 K mg "asked" Hx ["game","tree","thing"]
 z53:Fun1 K mg "lets_tree" Iv ["game","d","thing"]
 z46:Fun1 K mg "comes_home" Gg ["game","d","tree","hidden"]
 z47:Fun1 K mg "_law_tape" HV ["_law_script"]
 z54:Fun1 K mg "_law_next" Gw ["_law_tape_here","_law_many"]
 z50:Fun1 K mg "_law_game" JW ["_law_tape_here"]
 z52:Fun1 K mg "_law_asks" Gy ["_law_game_here","_law_things_here","_law_known"]
 z41:Fun1 K mg "_law_things" HS ["_law_tape_here","_law_many"]
 z31:Fun1 K mg "_law_bent_paper" Im ["_law_tape_here","_law_many","_law_paper"]
 z49:Fun1 K mg "_law_tree" Ja ["_law_tape_here","_law_game_here","_law_deep"]
 z35:Fun1 K mg "_law_bent_tree" Gc ["_law_tape_here","_law_game_here","_law_tree_here"]
 z56:Fun1 K mg "_law_led" IX ["_law_game_here","_law_tree_here","_law_thing"]
 z55:Fun1 K mg "_law_told" Hs ["_law_game_here"]
 f_law:Addr
 d_law:FuncData
 F_law:Fun K "law" "law" CV f_law d_law
 b_law:Binds K d_law ["_law_script"] []
 m_law:mg "law" = some (.ref f_law)
 g_z16:Addr
 p_z16:Addr
 gc_z16:z16.d.code=.ref g_z16
 gh_z16:W.codeHdIn K g_z16 p_z16=true
 g_z63:Addr
 p_z63:Addr
 gc_z63:z63.d.code=.ref g_z63
 gh_z63:W.codeHdIn K g_z63 p_z63=true
 np_0:p_z16≠p_z63
 z_all:mg "all" = none
 z_any:mg "any" = none
 z_bool:mg "bool" = none
 z_enumerate:mg "enumerate" = none
 z_int:mg "int" = none
 z_isinstance:mg "isinstance" = none
 z_len:mg "len" = none
 z_list:mg "list" = none
 z_max:mg "max" = none
 z_min:mg "min" = none
 z_range:mg "range" = none
 z_set:mg "set" = none
 z_sorted:mg "sorted" = none
 z_sum:mg "sum" = none
 z_tuple:mg "tuple" = none
 t_MOST_TREES:Tok
 c_MOST_TREES:mg "MOST_TREES" = some (.int 2000 t_MOST_TREES)
 t_MOST_WITHIN:Tok
 c_MOST_WITHIN:mg "MOST_WITHIN" = some (.int 16 t_MOST_WITHIN)
set_option genInjectivity true
set_option genSizeOf true
abbrev Xa(P:Program)(w:World)(base:Heap){K:W.Frag}{mg:Str->Option Value}{n:Str}{st:Stmt}{ps:List Str}(z:Fun1 K mg n st ps)(k:Nat)(sp:Sp):Prop:=FnOk P w K mg base CX0 k z.f z.d ps sp
abbrev Xb(P:Program)(w:World)(mg:Str->Option Value)(base:Heap){K:W.Frag}{C:Addr}{n q:Str}{st:Stmt}{ps:List Str}(z:Meth1 K C n q st ps)(k:Nat)(sp:Sp):Prop:=FnOk P w K mg base CX0 k z.f z.d ps sp
section
variable {P:Program}{w:World}{K:W.Frag}{mg:Str->Option Value}{base:Heap}(T:Txt K mg)
local macro_rules | `(tactic| walk_at "sm")=>`(tactic| repeat' with_reducible first | exact To | apply Nz | apply Ue | apply P9 | apply VX | apply Nj | apply Qk | apply Pp | exact Wl | exact Td | apply Qg | apply WE | apply RD | apply US | apply SI | apply VA | apply Vf | apply UG | exact RL | exact Wb | exact O2 | exact Po | exact Tu | exact QL | exact RV | exact QX | exact Tx | apply N0 | apply UY | apply Vc | apply Oa | exact TR | apply V2 | exact Sx | exact Tq | exact Uk | exact Ui | exact Vv | apply Ql | apply OM | apply UD | apply Qv | exact BG | apply DG | exact Bo | exact Pd | exact UE | exact Vm | apply TU | apply VR | apply Wa | apply PP | exact T4 | exact Ny | exact QD | exact Qh | apply TH | exact OG | exact SB | exact V9 | apply WZ | exact Px | exact VF | exact Up | exact Ph | apply Wk | apply VQ | exact Vi | apply VY | assumption)
set_option hygiene false in
local macro_rules | `(tactic| walk_at "q")=>`(tactic| (split at q;(revert q;repeat' first | exact h _ _ | exact newL_mono h | exact out_mono h | exact outT_mono h | walk_at "m");(exact q.elim)))
set_option hygiene false in
local macro_rules | `(tactic| walk_at "e")=>`(tactic| (split at h <;> first | rfl | exact h.elim))
set_option hygiene false in
local macro_rules | `(tactic| walk_at "f")=>`(tactic| (intro Yy A outer s H vs Q E hr h;have hu:=AT hr))
set_option hygiene false in
local macro_rules | `(tactic| walk_at "g")=>`(tactic| (split at h;rotate_left;(exact h.elim)))
local macro_rules | `(tactic| left)=>`(tactic| exact⟨by rfl,by first | exact Or.inl rfl | exact Or.inr (Or.inl rfl) | exact Or.inr (Or.inr rfl),by decide,by decide⟩)
local macro_rules | `(tactic| walk_at "m")=>`(tactic| with_reducible first | refine Exists.imp fun _=>?_ | refine And.imp_right ?_ | refine forall_imp fun _=>?_)
local macro_rules | `(tactic| walk_at "o")=>`(tactic| first | exact Or.inl rfl | exact Or.inr (Or.inl rfl) | exact Or.inr (Or.inr rfl))
local macro_rules | `(tactic| walk_at "i")=>`(tactic| first | exact .inl rfl | exact .inr rfl | assumption)
local macro_rules | `(tactic| right)=>`(tactic| first | exact Or.inl rfl | exact Or.inr rfl)
local macro_rules | `(tactic| exfalso)=>`(tactic| first | exact GS _ (by decide) (by decide) | rfl)
theorem PF:Xa P w base T.z47 1 (G7 K):=by
 refine T.z47.F.ok VS (fun vs H Q E h=>by unfold G7 at h;walk_at "e") (fun Yy A outer s H vs Q E hr h=>?_);unfold G7 at h;walk_at "g"
 rename_i a;have k:=h;refine⟨_,(@AG _ _ _ (@AK _ _ _ _ (@BY _ _ _ _ (AA (vv 0) (AA AC (AA AC (AA AC AB))))))),?_⟩;exact⟨by show 4<=sizeLine;rw[sizeLine_eq];decide,k⟩
theorem EQ:Xa P w base T.z54 1 (Dx K):=by
 refine T.z54.F.ok sc_z54 (fun vs H Q E h=>by unfold Dx at h;walk_at "e") ?_;walk_at "f";unfold Dx at h;walk_at "g"
 rename_i t m;obtain⟨a,ns,TP,hm,k⟩:=h;obtain⟨⟨i,r,c,hi,hr0,ht⟩,hscr⟩:=id TP;refine⟨_,(@AF _ _ _ _ _ (@AN _ _ 2 _ _ _ _ sc_z54.nd rfl (by right) (Yp (K:=K) (vv 0) AC) (by rfl) (by walk_at "i")) (@AF _ _ _ _ _ (@C5 _ _ _ _ _ _ (AW (A9 (K:=K)) (Yp (K:=K) (vv 0) AC) AC) (Dt (vv 0) AC D9) (by rfl) (by rfl) (by rfl)) (@AF _ _ _ _ _ (@Am _ _ _ _ _ _ _ _ (PW.pt (Bm (AV (kEq (K:=K) hu) (Yp (K:=K) (vv 0) AC) AC) (Bq (AV Ca (Yp (K:=K) (vv 0) AC) (AZ (At (K:=K)) rfl T.z_len (by rfl) (AA (vv 2) AB)))))) (@AF _ _ _ _ _ (@C5 _ _ _ _ _ _ (AZ (FS rfl) rfl T.z_max (by rfl) (AA AC (AA (AW IP (Yp (K:=K) (vv 2) (Yp (K:=K) (vv 0) AC)) (AW TW AC AC)) AB))) (Dt (vv 0) AC D9) (by rfl) (by rfl) (by rfl)) (@AG _ _ _ (@C5 _ _ _ _ _ _ (AW (A9 (K:=K)) (Yp (K:=K) (vv 0) AC) AC) (Dt (vv 0) AC D9) (by rfl) (by rfl) (by rfl)))) Aq) (@AF _ _ _ _ _ (@Am _ _ _ _ _ _ _ _ (AV Bg (Yp (K:=K) (vv 0) AC) AC) (@AF _ _ _ _ _ (@AN _ _ 3 _ _ _ _ sc_z54.nd rfl (by right) (AW Cs (Yp (K:=K) (vv 0) AC) (vv 1)) (by rfl) (by walk_at "i")) (@AF _ _ _ _ _ (@C5 _ _ _ _ _ _ (AW IP (Yp (K:=K) (vv 0) AC) (vv 1)) (Dt (vv 0) AC D9) (by rfl) (by rfl) (by rfl)) (@AG _ _ _ (@AK _ _ _ _ (vv 3))))) Aq) (@AF _ _ _ _ _ (@AN _ _ 4 _ _ _ _ sc_z54.nd rfl (by right) (Cu (AV Bg (AZ (At (K:=K)) rfl T.z_len (by rfl) (AA (vv 2) AB)) AC) (Yp (K:=K) (vv 2) (AW Cs (Yp (K:=K) (vv 0) AC) (AZ (At (K:=K)) rfl T.z_len (by rfl) (AA (vv 2) AB)))) AC) (by rfl) (by walk_at "i")) (@AF _ _ _ _ _ (@AN _ _ 5 _ _ _ _ sc_z54.nd rfl (by right) (AW Cs (AW Eh (AW (A9 (K:=K)) (AW (A9 (K:=K)) (AW Cs (vv 4) AC) (AW Eh AC (Yp (K:=K) (vv 0) AC))) AC) AC) AC) (by rfl) (by walk_at "i")) (@AG _ _ _ (@AK _ _ _ _ (AW Cs (AW Cs (AW Eh (AW Cs (AW (A9 (K:=K)) (AW Eh (vv 5) AC) (Yp (K:=K) (vv 0) AC)) AC) AC) AC) (vv 1)))))))))),?_⟩
 -- script=tape[0];tape[3]=tape[3]+1
 refine⟨_,_,.inl (.of ht),rfl,_,_,.inl (.of ht),rfl,_,_,ht,rfl,?_⟩;have sc0:∀{H1:Hp},(∀b,b≠t->H1 b=H b)->ScrAt K H1 t a ns:=fun h=>hscr.stay fun o n e=>by rw[h a n];exact e
 have sc1:∀{H1:Hp},(∀b,b≠t->H1 b=H b)->Yv K H1 a (ns.map V.int):=fun h=>(sc0 h).sq
 have f1:∀{o:HO} {H1:Hp},(∀b,b≠t->H1 b=H b)->∀b,b≠t->upd H1 t o b=H b:=fun h b n=>by rw[AI n];exact h b n
 dsimp only;refine Aj (fun σ' H1=>σ'=[some (.ref t),some (.int m),some (.ref a),none,none,none]/\(∀b,b≠t->H1 b=H b)/\∃i r c:Int,0<=i/\0<=r/\H1 t=some (.lst [.ref a,.int i,.int r,.int c])) ?_ ?_ (by walk_at "sm")
 ·-- the next number of the script,where the last one is used up
  have h1:∀{o:HO} (b:Addr),b≠t->upd H t o b=H b:=fun b n=>AI n
  refine⟨_,_,.inl (.of AD),rfl,?_⟩;refine AY (fun e=>?_) (fun e=>?_)
  ·refine⟨_,_,.inl (.of AD),rfl,ns.length,.inl ⟨_,sc1 h1,by rw[ZC]⟩,?_⟩;refine AY (fun e=>?_) (fun e=>?_)
   ·have Yr:i < ns.length:=ZM e;obtain⟨z,hz⟩:=LF hi Yr;refine⟨_,_,.inl (.of AD),rfl,_,_,.inl (sc1 h1),hz,⟨by decide,by decide,by decide⟩,⟨by decide,by decide⟩,?_⟩;refine⟨_,_,AD,rfl,_,_,.inl (.of AD),rfl,_,_,AD,rfl,rfl,?_,i+1,max 0 (z / 10 ^ 18),c+1,by lia,by lia,AD⟩;exact f1 (f1 h1)
   ·exact⟨rfl,h1,i,r,c+1,hi,hr0,AD⟩
  ·exact⟨rfl,h1,i,r,c+1,hi,hr0,AD⟩
 rintro σ' H1 ⟨rfl,h1,i,r,c,hi,hr0,ht⟩;have T1:∀{H2:Hp} {i r c:Int},(∀b,b≠t->H2 b=H b)->0<=i->0<=r->H2 t=some (.lst [.ref a,.int i,.int r,.int c])->Tape K H2 t a ns:=fun h h1 h2 h3=>⟨⟨_,_,_,h1,h2,h3⟩,sc0 h⟩
 -- a digit of it
 refine⟨_,_,.inl (.of ht),rfl,?_⟩;have hm0:0 < m:=hm.1;refine AY (fun e=>?_) (fun e=>?_)
 ·refine⟨_,_,.inl (.of ht),rfl,hm0,_,_,.inl (.of ht),rfl,hm,_,_,ht,rfl,?_⟩;exact k _ _ (Int.emod_nonneg _ (by lia)) (Int.emod_lt_of_pos _ hm0) (T1 (f1 h1) hi (Int.ediv_nonneg hr0 (by lia)) AD) (f1 h1)
 -- else a number made of the cell
 dsimp only[Eu];refine Aj (fun σ' H2=>H2=H1/\∃z:Int,σ'=[some (.ref t),some (.int m),some (.ref a),none,some (.int z),none]) ?_ ?_ (by walk_at "sm")
 ·refine⟨ns.length,.inl ⟨_,sc1 h1,by rw[ZC]⟩,?_⟩;refine AY (fun e=>?_) (fun e=>?_)
  ·have Yr:(0:Int) < ns.length:=ZM e;obtain⟨z,hz⟩:=LF (ns:=ns) (Int.emod_nonneg c (show(ns.length:Int)≠0 by lia)) (Int.emod_lt_of_pos c Yr);exact⟨_,_,.inl (.of ht),rfl,ns.length,.inl ⟨_,sc1 h1,by rw[ZC]⟩,Yr,_,_,.inl (sc1 h1),hz,rfl,z,rfl⟩
  ·exact⟨rfl,0,rfl⟩
 rintro σ' H2 ⟨rfl,z,rfl⟩;refine⟨by decide,_,_,.inl (.of ht),rfl,.inr (.inl ⟨by decide,by decide⟩),.inr (.inr ⟨by decide,by decide⟩),by decide,?_⟩;refine⟨.inr (.inr ⟨by decide,by decide⟩),_,_,.inl (.of ht),rfl,by decide,.inr (.inr ⟨by decide,by decide⟩),by decide,hm0,?_⟩;exact k _ _ (Int.emod_nonneg _ (by lia)) (Int.emod_lt_of_pos _ hm0) (T1 h1 hi hr0 ht) h1
def One(L:Nat->Int)(S:Nat->Bool):Prop:=∀i j,S i=true->S j=true->L i=L j
def Can(L:Nat->Int)(Y:List (Nat->Bool)):Nat->(Nat->Bool)->Prop
 | 0,S=>One L S
 | n+1,S=>One L S\/∃y∈Y,Can L Y n (fun k=>S k && y k)/\Can L Y n (fun k=>S k && !y k)
section
variable {L L':Nat->Int}{Y Y':List (Nat->Bool)}{S S':Nat->Bool}{n m a b c:Nat}
theorem LA(h:∀k,S' k=true->S k=true)(o:One L S):One L S':=fun i j x y=>o i j (h i x) (h j y)
theorem BZ:∀{n:Nat} {S S':Nat->Bool},(∀k,S' k=true->S k=true)->Can L Y n S->Can L Y n S'
 | 0,_,_,h,o=>LA h o
 | n+1,S,S',h,.inl o=>.inl (LA h o)
 | n+1,S,S',h,.inr ⟨y,hy,p,q⟩=>.inr ⟨y,hy,BZ (fun k z=>by simp only[ZQ]at z ⊢;exact⟨h k z.1,z.2⟩) p,BZ (fun k z=>by simp only[ZQ]at z ⊢;exact⟨h k z.1,z.2⟩) q⟩
theorem JO:∀{n:Nat} {S:Nat->Bool},Can L Y n S->Can L Y (n+1) S
 | 0,_,o=>.inl o
 | n+1,S,.inl o=>.inl o
 | n+1,S,.inr ⟨y,hy,p,q⟩=>.inr ⟨y,hy,JO p,JO q⟩
theorem Cy(h:n<=m)(p:Can L Y n S):Can L Y m S:=by
 induction h with
 | refl=>exact p
 | step _ ih=>exact JO ih
theorem GJ(h:∀y∈Y,y∈Y'):∀{n:Nat} {S:Nat->Bool},Can L Y n S->Can L Y' n S
 | 0,_,o=>o
 | n+1,S,.inl o=>.inl o
 | n+1,S,.inr ⟨y,hy,p,q⟩=>.inr ⟨y,h y hy,GJ h p,GJ h q⟩
def Ai(L:Nat->Int)(Y:List (Nat->Bool))(S:Nat->Bool)(m:Nat):Prop:=Can L Y m S/\∀n,Can L Y n S->m<=n
theorem GF(x:Ai L Y S a)(y:Ai L Y S b):a=b:=Nat.le_antisymm (x.2 _ y.1) (y.2 _ x.1)
theorem TF(x:Ai L Y S a):a=0 ↔ One L S :=
 ⟨fun e=>by subst e;exact x.1,fun o=>Nat.le_zero.mp (x.2 0 o)⟩
theorem Vq{y:Nat->Bool}(hy:y∈Y)(x:Ai L Y S a)(p:Ai L Y (fun k=>S k && y k) b)(q:Ai L Y (fun k=>S k && !y k) c):a<=1+max b c:=by
 rw[Nat.add_comm];exact x.2 (max b c+1) (.inr ⟨y,hy,Cy (Nat.le_max_left ..) p.1,Cy (Nat.le_max_right ..) q.1⟩)
def A3(S y:Nat->Bool):Prop:=(∃k,S k=true/\y k=true)/\∃k,S k=true/\y k=false
theorem not_parts{y:Nat->Bool}(h:¬A3 S y):(∀k,S k=true->(S k && y k)=true)\/∀k,S k=true->(S k && !y k)=true:=by
 by_cases z:∃k,S k=true/\y k=true
 ·refine .inl fun k hk=>?_
  rw[hk,ZBx];cases e:y k with
  | true=>rfl
  | false=>exact absurd ⟨z,k,hk,e⟩ h
 ·refine .inr fun k hk=>?_
  rw[hk,ZBx];cases e:y k with
  | false=>rfl
  | true=>exact absurd ⟨k,hk,e⟩ z
theorem IM(ho:¬One L S):∀{n:Nat},Can L Y n S->∃y∈Y,A3 S y
 | 0,o=>absurd o ho
 | n+1,.inl o=>absurd o ho
 | n+1,.inr ⟨y,hy,p,q⟩=>by
  by_cases h:A3 S y
  ·exact⟨y,hy,h⟩
  ·rcases not_parts h with z | z
   ·exact IM ho (BZ z p)
   ·exact IM ho (BZ z q)
theorem Kj (ho:¬One L S) (h1:∃y∈Y,A3 S y/\∃b c,Ai L Y (fun k=>S k && y k) b/\Ai L Y (fun k=>S k && !y k) c/\m=max b c)
 (h2:∀y∈Y,A3 S y->∃b c,Ai L Y (fun k=>S k && y k) b/\Ai L Y (fun k=>S k && !y k) c/\m<=max b c):Ai L Y S (1+m):=by
 constructor
 ·obtain⟨y,hy,hp,b,c,p,q,e⟩:=h1;rw[Nat.add_comm];exact .inr ⟨y,hy,Cy (by rw[e];exact Nat.le_max_left ..) p.1,Cy (by rw[e];exact Nat.le_max_right ..) q.1⟩
 ·intro n
  induction n with
  | zero=>exact fun o=>absurd o ho
  | succ n ih =>
   rintro(o | ⟨y,hy,p,q⟩)
   ·exact absurd o ho
   ·by_cases h:A3 S y
    ·obtain⟨b,c,p',q',hm⟩:=h2 y hy h;have x1:=p'.2 _ p;have x2:=q'.2 _ q;lia
    ·rcases not_parts h with z | z
     ·exact Nat.le_succ_of_le (ih (BZ z p))
     ·exact Nat.le_succ_of_le (ih (BZ z q))
theorem Wo:∀{n:Nat} {S:Nat->Bool} (ds:List Int),Can L Y n S->ds.Nodup->(∀d∈ds,∃k,S k=true/\L k=d)->ds.length<=2 ^ n:=by
 have one:∀{S:Nat->Bool} (ds:List Int),One L S->ds.Nodup->(∀d∈ds,∃k,S k=true/\L k=d)->ds.length<=1:=by
  intro S ds o nd h
  match ds,nd,h with
  | [],_,_=>exact ZP _
  | [_],_,_=>exact ZD _
  | x::y::r,nd,h =>
   obtain⟨i,hi,ei⟩:=h x (by simp);obtain⟨j,hj,ej⟩:=h y (by simp)
   have:=o i j hi hj
   rw[ei,ej]at this;simp[this]at nd
 intro n
 induction n with
 | zero=>exact fun ds o nd h=>one ds o nd h
 | succ n ih =>
  intro S ds c nd h
  rcases c with o | ⟨y,hy,p,q⟩
  ·exact Zs (one ds o nd h) Nat.one_le_two_pow
  ·classical
   have e:ds.length=(ds.filter fun d=>decide (∃k,(S k && y k)=true/\L k=d)).length+(ds.filter fun d=>!decide (∃k,(S k && y k)=true/\L k=d)).length:=by
    clear nd h
    induction ds with
    | nil=>rfl
    | cons x r ih2 =>
     rw[ZBi,ZBi];cases decide (∃k,(S k && y k)=true/\L k=x) <;> simp[ih2] <;> lia
   have a1:=ih (ds.filter fun d=>decide (∃k,(S k && y k)=true/\L k=d)) p (nd.filter _) fun d hd=>by
    have:=(Z6.mp hd).2
    exact ZM this
   have a2:=ih (ds.filter fun d=>!decide (∃k,(S k && y k)=true/\L k=d)) q (nd.filter _) fun d hd=>by
    obtain⟨h1,h2⟩:=Z6.mp hd;obtain⟨k,hk,ek⟩:=h d h1;refine⟨k,?_,ek⟩;cases z:y k with
    | false=>rw[hk];rfl
    | true =>
     have:decide (∃k,(S k && y k)=true/\L k=d)=true:=ZL ⟨k,by rw[hk,z];rfl,ek⟩
     rw[this]at h2;cases h2
   rw[Nat.pow_succ];lia
def As(N:Nat)(S:Nat->Bool):Nat:=((List.range N).filter S).length
theorem GX(N:Nat)(S:Nat->Bool):As (N+1) S=As N S+if S N=true then 1 else 0:=by
 unfold As;rw[ZBa,ZBj,ZU];cases h:S N <;> simp[h]
theorem JN(N:Nat)(S y:Nat->Bool):As N S=As N (fun k=>S k && y k)+As N (fun k=>S k && !y k):=by
 induction N with
 | zero=>rfl
 | succ N ih =>
  rw[GX,GX,GX,ih];cases S N <;> cases y N <;> simp <;> lia
theorem Eb{S:Nat->Bool}(hk:k < N)(hs:S k=true):1<=As N S:=ZB8 (Z6.mpr ⟨Zl.mpr hk,hs⟩)
theorem S8{S:Nat->Bool}(hi:i < N)(hj:j < N)(si:S i=true)(sj:S j=true)(ne:i≠j):2<=As N S:=by
 rw[JN N S (fun k=>k == i)]
 have:=Eb (S:=fun k=>S k && k == i) hi (by simp[si])
 have:=Eb (S:=fun k=>S k && !(k == i)) hj (by simp[sj,Ne.symm ne])
 lia
theorem NT(hS:∀k,S k=true->k < N){y:Nat->Bool}(h:A3 S y):As N (fun k=>S k && y k) < As N S/\As N (fun k=>S k && !y k) < As N S:=by
 obtain⟨⟨i,hi,yi⟩,j,hj,yj⟩:=h
 have:=JN N S y
 have:=Eb (S:=fun k=>S k && y k) (hS i hi) (by simp[hi,yi])
 have:=Eb (S:=fun k=>S k && !y k) (hS j hj) (by simp[hj,yj])
 lia
theorem TM(he:∀i j,i < N->j < N->(∀y∈Y,y i=y j)->L i=L j):∀(n:Nat) (S:Nat->Bool),(∀k,S k=true->k < N)->As N S<=n+1->Can L Y n S:=by
 intro n
 induction n with
 | zero =>
  intro S hS hc i j hi hj
  by_cases e:i=j
  ·rw[e]
  ·have:=S8 (hS i hi) (hS j hj) hi hj e
   lia
 | succ n ih =>
  intro S hS hc
  by_cases o:One L S
  ·exact .inl o
  ·have:∃i j,S i=true/\S j=true/\L i≠L j:=by
    refine Classical.byContradiction fun z=>o fun i j hi hj=>Classical.byContradiction fun q=>z ⟨i,j,hi,hj,q⟩
   obtain⟨i,j,hi,hj,ne⟩:=this
   have:∃y∈Y,y i≠y j:=by
    refine Classical.byContradiction fun z=>ne (he i j (hS i hi) (hS j hj) fun y hy=>Classical.byContradiction fun q=>z ⟨y,hy,q⟩)
   obtain⟨y,hy,Yw⟩:=this
   have hp:A3 S y:=by
    cases yi:y i with
    | true =>
     refine⟨⟨i,hi,yi⟩,j,hj,?_⟩;cases yj:y j with
     | false=>rfl
     | true=>rw[yi,yj]at Yw;exact absurd rfl Yw
    | false =>
     refine⟨⟨j,hj,?_⟩,i,hi,yi⟩;cases yj:y j with
     | true=>rfl
     | false=>rw[yi,yj]at Yw;exact absurd rfl Yw
   obtain⟨c1,c2⟩:=NT hS hp;exact .inr ⟨y,hy,ih _ (fun k z=>hS k (by simp only[ZQ]at z;exact z.1)) (by lia),ih _ (fun k z=>hS k (by simp only[ZQ]at z;exact z.1)) (by lia)⟩
theorem M1:∀{n:Nat} {S:Nat->Bool},Can L Y n S->∃m,Ai L Y S m:=by
 intro n S h
 induction n with
 | zero=>exact⟨0,h,fun _ _=>ZP _⟩
 | succ n ih =>
  by_cases z:Can L Y n S
  ·exact ih z
  ·exact⟨n+1,h,fun k hk=>by
    rcases Z4 k (n+1) with q | q
    ·exact absurd (Cy (by lia) hk) z
    ·exact q⟩
end
def msk(ts:List Nat):Nat:=(ts.map (2 ^ ·)).sum
theorem FE(t:Nat)(ts:List Nat):msk (t::ts)=2 ^ t+msk ts:=by unfold msk;rw[Zd,List.sum_cons]
theorem UQ(ts us:List Nat):msk (ts++us)=msk ts+msk us:=by unfold msk;rw[ZR,List.sum_append]
theorem Ky:∀(ts:List Nat) (N:Nat),ts.Pairwise (fun a b=>b < a)->(∀t∈ts,t < N)->msk ts < 2 ^ N/\∀k,(msk ts).testBit k=decide (k∈ts)
 | [],N,_,_=>⟨ZBy N,fun k=>by simp[msk]⟩
 | t::ts,N,hp,hl=>by
  obtain⟨h1,h2⟩:=ZB6.mp hp;obtain⟨i1,i2⟩:=Ky ts t h2 h1;rw[FE];have ht:t < N:=hl t (by simp);have e2:2 ^ t+2 ^ t<=2 ^ N:=by rw[<- Nat.two_mul,Nat.mul_comm,<- Nat.pow_succ];exact Zp (by decide) ht
  refine⟨by lia,fun k=>?_⟩
  rcases ZBW k t with z | z | z
  ·rw[Nat.testBit_two_pow_add_gt z,i2 k];simp only[ZH,show k≠t by lia,false_or]
  ·subst z;rw[Nat.testBit_two_pow_add_eq,i2 k]
   have:k∉ts:=fun q=>Za _ (h1 k q)
   simp[this]
  ·have:2 ^ t+msk ts < 2 ^ k:=by
    have:2 ^ (t+1)<=2 ^ k:=Zp (by decide) z
    rw[Nat.pow_succ]at this;lia
   rw[Nat.testBit_lt_two_pow this];have h3:k∉ts:=fun q=>Za _ (ZBR z (h1 k q))
   simp[h3,show k≠t by lia]
theorem Sa(ts:List Nat):msk ts.reverse=msk ts:=by
 induction ts with
 | nil=>rfl
 | cons t ts ih=>rw[List.reverse_cons,UQ,ih,FE,FE];simp[msk];lia
theorem Cv(hp:ts.Pairwise (· < ·))(hl:∀t∈ts,t < N):msk ts < 2 ^ N/\∀k,(msk ts).testBit k=decide (k∈ts):=by
 have:=Ky ts.reverse N (List.pairwise_reverse.mpr hp) (fun t ht=>hl t (List.mem_reverse.mp ht))
 rw[Sa]at this;exact⟨this.1,fun k=>by rw[this.2 k];simp⟩
theorem Fk(x y k:Nat):(x - (x &&& y)).testBit k=(x.testBit k && !y.testBit k):=by
 have e:x - (x &&& y)=x ^^^ (x &&& y):=by
  have h:∀(n x y:Nat),x < 2 ^ n->(x ^^^ (x &&& y))+(x &&& y)=x:=by
   intro n
   induction n with
   | zero=>intro x y h;have:x=0:=by simpa using h
           subst this;simp
   | succ n ih =>
    intro x y h;have i:=ih (x / 2) (y / 2) (by rw[Nat.pow_succ]at h;lia);have d1:(x ^^^ (x &&& y)) / 2=x / 2 ^^^ (x / 2 &&& y / 2):=by rw[Nat.xor_div_two,Nat.and_div_two]
    have d2:(x &&& y) / 2=x / 2 &&& y / 2:=Nat.and_div_two
    have m1:(x ^^^ (x &&& y)) % 2+(x &&& y) % 2=x % 2:=by
     have g:∀z:Nat,z % 2=(z.testBit 0).toNat:=fun z=>by rw[Nat.toNat_testBit,Nat.pow_zero,Nat.div_one]
     rw[g,g (x &&& y),g x,Nat.testBit_xor,Z5];cases x.testBit 0 <;> cases y.testBit 0 <;> rfl
    lia
  have:=h x x y Nat.lt_two_pow_self
  lia
 rw[e,Nat.testBit_xor,Z5];cases x.testBit k <;> cases y.testBit k <;> rfl
theorem C1(S y:Nat):(S &&& y).testBit=fun k=>S.testBit k && y.testBit k:=funext fun k=>Z5 ..
theorem CL(S y:Nat):(S - (S &&& y)).testBit=fun k=>S.testBit k && !y.testBit k:=funext fun k=>Fk ..
theorem Dc(h:S < 2 ^ n)(hk:S.testBit k=true):k < n:=by
 rcases Z4 k n with z | z
 ·exact z
 ·rw[Nat.testBit_lt_two_pow (ZX h (Zp (by decide) z))]at hk;cases hk
def Je:Sp:=fun vs H Q _=>match vs with
 | [.int b,.int t]=>∃m:Nat,t=m/\m<=64/\((-(2 ^ 64) < b/\b < 2 ^ 64)\/(Nb b 100/\m<=12))/\Q (.int (b ^ m)) H
 | _=>False
theorem SD:Xa P w base T.z59 1 Je:=by
 refine T.z59.F.ok sc_z59 (fun vs H Q E h=>by unfold Je at h;walk_at "e") ?_;walk_at "f";unfold Je at h;walk_at "g"
 rename_i b t;obtain⟨m,e1,h1,b1,q⟩:=h;subst e1;refine⟨_,(@AF _ _ _ _ _ (@AN _ _ 2 _ _ _ _ sc_z59.nd rfl (by right) AC (by rfl) (by walk_at "i")) (@AF _ _ _ _ _ (@Be _ _ _ _ _ _ _ _ PassesOwn.never rfl (BR rfl T.z_range (AA (vv 1) AB)) (AQ (i:=3) sc_z59.nd rfl (by right)) (@AG _ _ _ (@AN _ _ 2 _ _ _ _ sc_z59.nd rfl (by right) (AW Eh (vv 2) (vv 0)) (by rfl) (by walk_at "i"))) (by intro _;rfl)) (@AG _ _ _ (@AK _ _ _ _ (vv 2))))),?_⟩;refine⟨m,rfl,by lia,by lia,?_⟩;refine DF (fun i σ H'=>H'=H/\∃z:Option V,σ=[some (.int b),some (.int m),some (.int (b ^ i)),z]) ⟨rfl,none,by rw[Int.pow_zero];rfl⟩ ?_ ?_
 ·rintro i σ H' hi ⟨rfl,z,rfl⟩;have hi':i < m:=by lia
  have okm:okMul (b ^ i) b:=by
   rcases b1 with b1 | ⟨b1,b2⟩
   ·exact .inr (.inr b1)
   ·exact Nb.okMul ((b1.pow i).up (by lia)) (b1.up (by lia))
  refine⟨okm,rfl,some (.int (0+(i:Int))),?_⟩;rw[Int.pow_succ];rfl
 ·rintro σ H' ⟨rfl,z,rfl⟩
  have:(m:Int).toNat=m:=by lia
  rw[this];exact q
def Gh:Sp:=fun vs H Q _=>match vs with
 | [.int n]=>∃m:Nat,n=m/\m<=64/\Q (.int (2 ^ m:Nat)) H
 | _=>False
theorem IF:Xa P w base T.z65 2 Gh:=by
 refine T.z65.F.ok RQ (fun vs H Q E h=>by unfold Gh at h;walk_at "e") ?_;walk_at "f";unfold Gh at h;walk_at "g"
 rename_i n;obtain⟨m,e1,h1,q⟩:=h;subst e1;refine⟨_,(@AG _ _ _ (@AK _ _ _ _ (AL (@SD P w K mg base T) (hr.mono (show 1<=_ by decide)) rfl T.z59.m T.z59.F.kp T.z59.b .nil AH (AA AC (AA (vv 0) AB))))),?_⟩;refine⟨m,rfl,h1,.inl ⟨by decide,by decide⟩,?_⟩;have e:(2:Int) ^ m=((2 ^ m:Nat):Int):=by rw[Int.natCast_pow];rfl
 rw[e];exact q
def DZ:Sp:=fun vs H Q _=>match vs with
 | [.int x,.int y]=>∃a b:Nat,x=a/\y=b/\Q (.bl (decide (a &&& b=a))) H
 | _=>False
theorem Of:AM DZ:=fun vs H Q Q' E h q=>by
 unfold DZ at *;walk_at "q"
theorem J1:Xa P w base T.z66 1 DZ:=by
 refine T.z66.F.ok TY (fun vs H Q E h=>by unfold DZ at h;walk_at "e") ?_;walk_at "f";unfold DZ at h;walk_at "g"
 rename_i x y;obtain⟨a,b,e1,e2,q⟩:=h;subst e1 e2;refine⟨_,(@AG _ _ _ (@AK _ _ _ _ (BN (kEq (K:=K) hu) (AW FB (vv 0) (vv 1)) (vv 0)))),?_⟩
 have e:(false ^^ (Builtin.bitAnd (a:Int) (b:Int) == (a:Int)))=decide (a &&& b=a):=by
  rw[FI,Z2,ZBS];simp only[beq_iff_eq,decide_eq_true_eq];lia
 show Q (.bl (false ^^ (Builtin.bitAnd (a:Int) (b:Int) == (a:Int)))) H;rw[e];exact q
def whr(bs:List Bool)(n:Nat):List Nat:=(List.range n).filter (gB bs)
theorem Gq(bs:List Bool)(n:Nat):whr bs (n+1)=whr bs n++(if gB bs n=true then [n] else []):=by
 unfold whr;rw[ZBa,ZBj];cases h:gB bs n <;> simp[h]
theorem DY(bs:List Bool)(n:Nat):(whr bs n).length<=n:=by
 have:=ZBk (gB bs) (List.range n)
 rw[ZBB]at this;exact this
theorem HZ(bs:List Bool)(n:Nat):(whr bs n).Pairwise (· < ·):=List.Pairwise.filter _ ZBw
theorem DX{bs:List Bool}{t:Nat}(h:t∈whr bs n):t < n:=Zl.mp (Z6.mp h).1
theorem Mo{bs:List Bool}{t:Nat}:t∈whr bs n ↔ t < n/\gB bs t=true:=by unfold whr;rw[Z6,Zl]
def HM(K:W.Frag):Sp:=fun vs H Q _=>match vs with
 | [.bl b,.ref p]=>∃rb:List Bool,Ys K H p (rb.map V.bl)/\rb.length<=100/\Ga H Q (iL (whr (rb.map (· == b)) rb.length))
 | [.int z,.ref p]=>∃ls:List Int,Ys K H p (ls.map V.int)/\ls.length<=100/\Ga H Q (iL (whr (ls.map (· == z)) ls.length))
 | _=>False
theorem Ed{α:Type}{f:α->Bool}{l:List α}{x:α}(h:l[i]? = some x):gB (l.map f) i=f x:=by
 unfold gB;rw[ZV,ZT,h];rfl
theorem PH:Xa P w base T.z38 1 (HM K):=by
 refine T.z38.F.ok Sq (fun vs H Q E h=>by unfold HM at h;walk_at "e") ?_;walk_at "f";unfold HM at h;split at h
 ·rename_i b p;obtain⟨rb,hp,hl,q⟩:=h;refine⟨_,(@AG _ _ _ (@AK _ _ _ _ (@Ao _ _ _ _ _ _ _ (["member","each","wanted"]) 2 [0] _ _ _ _ rfl (HU (K:=K) rfl T.z_enumerate (AA (vv 1) AB)) (by kernel_rfl) rfl rfl (by kernel_rfl) (fun c=>Dy (K:=K) (n:=2) rfl (BP (AQ (i:=0) (show(["member","each","wanted"]:List Str).Nodup by decide +kernel) rfl (by right)) (BP (AQ (i:=1) (show(["member","each","wanted"]:List Str).Nodup by decide +kernel) rfl (by right)) Cf))) (D6 (Bu BG (DG BG Bo) (Af (by decide)) (Bu BG Bo (Af (by decide)) Dm))) (fun c=>CD (AV (kEq (K:=K) hu) (vv 1) (vv 2))) (fun c=>(vv 0)) (by intro _;rfl)))),?_⟩;refine⟨⟨_,hp⟩,?_⟩
  refine Ii (xs:=rb.map V.bl) (fun i zs H'=>Yc H H'/\zs=iL (whr (rb.map (· == b)) i)) ⟨Yc.refl _,rfl⟩ (fun i zs H' _ ⟨s,_⟩=>s.sqT hp) (fun i zs H' hi ⟨_,e⟩=>by
   rw[ZC]at hi
   have:=DY (rb.map (· == b)) i
   rw[e,Ab];exact Al (by lia)) ?_ ?_
  ·rintro i x zs H2 pp hx ⟨s2,rfl⟩ hpp;rw[ZT]at hx;cases e0:rb[i]? with
   | none=>rw[e0]at hx;cases hx
   | some r =>
    rw[e0]at hx;cases hx;have eg:gB (rb.map (· == b)) i=(r == b):=Ed e0;refine⟨pp,_,rfl,.of AD,rfl,_,_,rfl,_,_,rfl,rfl,?_⟩;rw[Gq,BW,eg];refine AY (fun e=>?_) (fun e=>?_)
    ·have e':(r == b)=true:=by rw[<- Z2 (r == b)];exact e
     rw[if_pos e'];exact⟨s2.trans (Yc.upd hpp),rfl⟩
    ·have e':¬(r == b)=true:=by rw[<- Z2 (r == b)];exact e
     rw[if_neg e'];exact⟨s2.trans (Yc.upd hpp),by show _=_++[];rw[Zj]⟩
  ·rintro zs H2 ⟨s2,rfl⟩ l hl;rw[ZC];exact q l _ (s2.free hl) (s2.trans (Yc.upd hl)) AD
 ·rename_i b p;obtain⟨rb,hp,hl,q⟩:=h;refine⟨_,(@AG _ _ _ (@AK _ _ _ _ (@Ao _ _ _ _ _ _ _ (["member","each","wanted"]) 2 [0] _ _ _ _ rfl (HU (K:=K) rfl T.z_enumerate (AA (vv 1) AB)) (by kernel_rfl) rfl rfl (by kernel_rfl) (fun c=>Dy (K:=K) (n:=2) rfl (BP (AQ (i:=0) (show(["member","each","wanted"]:List Str).Nodup by decide +kernel) rfl (by right)) (BP (AQ (i:=1) (show(["member","each","wanted"]:List Str).Nodup by decide +kernel) rfl (by right)) Cf))) (D6 (Bu BG (DG BG Bo) (Af (by decide)) (Bu BG Bo (Af (by decide)) Dm))) (fun c=>CD (AV (kEq (K:=K) hu) (vv 1) (vv 2))) (fun c=>(vv 0)) (by intro _;rfl)))),?_⟩;refine⟨⟨_,hp⟩,?_⟩
  refine Ii (xs:=rb.map V.int) (fun i zs H'=>Yc H H'/\zs=iL (whr (rb.map (· == b)) i)) ⟨Yc.refl _,rfl⟩ (fun i zs H' _ ⟨s,_⟩=>s.sqT hp) (fun i zs H' hi ⟨_,e⟩=>by
   rw[ZC]at hi
   have:=DY (rb.map (· == b)) i
   rw[e,Ab];exact Al (by lia)) ?_ ?_
  ·rintro i x zs H2 pp hx ⟨s2,rfl⟩ hpp;rw[ZT]at hx;cases e0:rb[i]? with
   | none=>rw[e0]at hx;cases hx
   | some r =>
    rw[e0]at hx;cases hx;have eg:gB (rb.map (· == b)) i=(r == b):=Ed e0;refine⟨pp,_,rfl,.of AD,rfl,_,_,rfl,_,_,rfl,rfl,?_⟩;rw[Gq,BW,eg];refine AY (fun e=>?_) (fun e=>?_)
    ·have e':(r == b)=true:=by rw[<- Z2 (r == b)];exact e
     rw[if_pos e'];exact⟨s2.trans (Yc.upd hpp),rfl⟩
    ·have e':¬(r == b)=true:=by rw[<- Z2 (r == b)];exact e
     rw[if_neg e'];exact⟨s2.trans (Yc.upd hpp),by show _=_++[];rw[Zj]⟩
  ·rintro zs H2 ⟨s2,rfl⟩ l hl;rw[ZC];exact q l _ (s2.free hl) (s2.trans (Yc.upd hl)) AD
 ·exact h.elim
def SqI(K:W.Frag)(H:Hp)(p:Addr)(ts:List Nat):Prop:=Yv K H p (iL ts)\/Ys K H p (iL ts)
def Dp(K:W.Frag):Sp:=fun vs H Q _=>match vs with
 | [.ref p]=>∃ts:List Nat,SqI K H p ts/\ts.length<=64/\(∀t∈ts,t<=60)/\∀H',Yc H H'->Q (.int (msk ts:Nat)) H'
 | _=>False
theorem OX:AM (Dp K):=fun vs H Q Q' E h q=>by
 unfold Dp at *;walk_at "q"
theorem Qn(ts:List Nat):(ts.map fun t=>((2 ^ t:Nat):Int)).sum=(msk ts:Nat):=by
 induction ts with
 | nil=>rfl
 | cons t ts ih=>rw[Zd,List.sum_cons,ih,FE];lia
theorem Lv:Xa P w base T.z42 3 (Dp K):=by
 refine T.z42.F.ok Vt (fun vs H Q E h=>by unfold Dp at h;walk_at "e") ?_;walk_at "f";unfold Dp at h;walk_at "g"
 rename_i p;obtain⟨ts,hp,hl,hb,q⟩:=h;refine⟨_,(@AG _ _ _ (@AK _ _ _ _ (AZ (Tb (K:=K) rfl) rfl T.z_sum (by rfl) (AA (@Ao _ _ _ _ _ _ _ ["member"] 1 [] _ _ _ _ rfl (BA (K:=K) (vv 0)) (by kernel_rfl) rfl rfl (by kernel_rfl) (fun c=>AQ (i:=0) (show(["member"]:List Str).Nodup by decide +kernel) rfl (by right)) (Af (by decide)) (fun c=>BB) (fun c=>(AL (@IF P w K mg base T) (hr.mono (show 2<=_ by decide)) rfl T.z65.m T.z65.F.kp T.z65.b .nil AH (AA (vv 0) AB))) (by intro _;rfl)) AB)))),?_⟩
 have turn:∀(k:Nat) (x:V) (ys:List V) (H':Hp),(iL ts)[k]? = some x->(Yc H H'/\ys=(ts.take k).map fun t=>V.int ((2 ^ t:Nat):Int))->∃t:Nat,x=.int (t:Nat)/\t<=60/\(ts.take (k+1)).map (fun t=>V.int ((2 ^ t:Nat):Int))=ys++[V.int ((2 ^ t:Nat):Int)]:=by
  rintro k x ys H' hx ⟨_,rfl⟩;obtain⟨t,ht,hmem,rfl⟩:=Bt hx;refine⟨t,rfl,hb t hmem,?_⟩;rw[Zr,ht,ZR];rfl
 have fin:∀(ys:List V) (H':Hp),(Yc H H'/\ys=(ts.take (iL ts).length).map fun t=>V.int ((2 ^ t:Nat):Int))->∀l,H' l=none->∃ns:List Int,Yv K (upd H' l (.lst ys)) l (ns.map V.int)/\Q (.int ns.sum) (upd H' l (.lst ys)):=by
  rintro ys H' ⟨s1,rfl⟩ l hl;refine⟨ts.map fun t=>((2 ^ t:Nat):Int),?_,?_⟩
  ·rw[ZBJ,Ab,Zv];exact .of AD
  ·rw[Qn];exact q _ (s1.trans (Yc.upd hl))
 rcases hp with hp | hp
 ·refine .inl ⟨⟨_,hp⟩,?_⟩
  refine EE (xs:=iL ts) (fun k ys H'=>Yc H H'/\ys=(ts.take k).map fun t=>V.int ((2 ^ t:Nat):Int)) ⟨Yc.refl _,rfl⟩ (fun k ys H' _ ⟨s,_⟩=>s.sqL hp) (fun k ys H' hk ⟨_,e⟩=>by
   rw[Ab]at hk;rw[e,ZC,Zf];exact Al (by lia)) ?_ ?_
  ·intro k x ys H' hx hP;obtain⟨t,rfl,t60,e⟩:=turn k x ys H' hx hP;refine⟨t,rfl,by lia,?_⟩;exact⟨hP.1,e.symm⟩
  ·exact fin
 ·refine .inr ⟨⟨_,hp⟩,?_⟩
  refine CT (xs:=iL ts) (fun k ys H'=>Yc H H'/\ys=(ts.take k).map fun t=>V.int ((2 ^ t:Nat):Int)) ⟨Yc.refl _,rfl⟩ (fun k ys H' _ ⟨s,_⟩=>s.sqT hp) (fun k ys H' hk ⟨_,e⟩=>by
   rw[Ab]at hk;rw[e,ZC,Zf];exact Al (by lia)) ?_ ?_
  ·intro k x ys H' hx hP;obtain⟨t,rfl,t60,e⟩:=turn k x ys H' hx hP;refine⟨t,rfl,by lia,?_⟩;exact⟨hP.1,e.symm⟩
  ·exact fin
def AE(ls:List Int)(k:Nat):Int:=ls.getD k 0
def AX(ys:List Nat):List (Nat->Bool):=ys.map Nat.testBit
def BL(a b c d:V):List (Str × V):=[("labels",a),("yeses",b),("alike",c),("known",d)]
theorem lk1(a b c d:V):(BL a b c d).lookup ("labels" : Str)=some a:=by rfl
theorem lk2(a b c d:V):(BL a b c d).lookup ("yeses" : Str)=some b:=by rfl
theorem lk3(a b c d:V):(BL a b c d).lookup ("alike" : Str)=some c:=by rfl
theorem lk4(a b c d:V):(BL a b c d).lookup ("known" : Str)=some d:=by rfl
theorem ln1(a b c d:V):(BL a b c d).lookup ("fewest_among" : Str)=none:=by rfl
theorem ln2(a b c d:V):(BL a b c d).lookup ("fewest_reckoned" : Str)=none:=by rfl
theorem ln3(a b c d:V):(BL a b c d).lookup ("has_one_label" : Str)=none:=by rfl
theorem ln4(a b c d:V):(BL a b c d).lookup ("worst_behind" : Str)=none:=by rfl
theorem ln5(a b c d:V):(BL a b c d).lookup ("parting" : Str)=none:=by rfl
theorem ln6(a b c d:V):(BL a b c d).lookup ("harder_left" : Str)=none:=by rfl
theorem ln7(a b c d:V):(BL a b c d).lookup ("left_of" : Str)=none:=by rfl
theorem pf1(a:V):AU "labels" a []=([("labels",a)]:List (Str × V)):=by rfl
theorem pf2(a b:V):AU "yeses" b [("labels",a)]=([("labels",a),("yeses",b)]:List (Str × V)):=by rfl
theorem pf3(a b c:V):AU "alike" c [("labels",a),("yeses",b)]=([("labels",a),("yeses",b),("alike",c)]:List (Str × V)):=by rfl
theorem pf4(a b c d:V):AU "known" d [("labels",a),("yeses",b),("alike",c)]=BL a b c d:=by rfl
structure Memo(ls:List Int)(ys:List Nat)(Yd:List (Key × V)):Prop where
 nd:(Yd.map (·.1)).Nodup
 ok:∀e∈Yd,∃S m:Nat,e=((Sum.inl (S:Int):Key),V.int (m:Int))/\S < 2 ^ ls.length/\Ai (AE ls) (AX ys) S.testBit m
theorem Cj:∀(N:Nat) (l:List Nat),l.Nodup->(∀x∈l,x < N)->l.length<=N
 | 0,l,_,h=>by
  cases l with
  | nil=>exact ZD _
  | cons x r=>exact absurd (h x (by simp)) (by lia)
 | N+1,l,nd,h=>by
  have:=Cj N (l.erase N) (nd.erase N) (fun x hx=>by
   have h2:=(nd.mem_erase_iff).mp hx
   have:=h x h2.2
   have:=h2.1
   lia)
  by_cases z:N∈l
  ·have e:=List.length_erase_of_mem z;lia
  ·have e:=List.erase_of_not_mem z;rw[e]at this;lia
theorem Memo.len(h:Memo ls ys Yd)(h16:ls.length<=16):Yd.length < 2 ^ 24:=by
 have hl:Yd.length<=2 ^ ls.length:=by
  have e:(Yd.map fun e=>match e.1 with | Sum.inl z=>z.toNat | Sum.inr _=>0).length=Yd.length:=ZC ..;rw[<- e];apply Cj
  ·refine ZBh.mpr ?_;have nd:=ZBh.mp h.nd;refine List.Pairwise.imp_of_mem ?_ nd;intro a b ha hb ne;obtain⟨S,m,ea,_⟩:=h.ok a ha;obtain⟨S',m',eb,_⟩:=h.ok b hb;subst ea eb;intro q;apply ne
   have:(S:Int).toNat=(S':Int).toNat:=q
   have:S=S':=by lia
   rw[this]
  ·intro x hx;obtain⟨a,ha,rfl⟩:=ZK.mp hx;obtain⟨S,m,ea,hs,_⟩:=h.ok a ha;subst ea
   show(S:Int).toNat < _
   rw[Zm];exact hs
 have:2 ^ ls.length<=2 ^ 16:=Zp (by decide) h16
 lia
theorem Du{k:Key}(h:valV Yd k=some v):(k,v)∈Yd:=by
 unfold valV at h;cases e:Yd.find? fun kv=>decide (kv.1=k) with
 | none=>rw[e]at h;cases h
 | some x =>
  rw[e]at h;have h1:=List.find?_some e;have h2:=List.mem_of_find?_eq_some e;cases h
  have:x.1=k:=ZM h1
  rw[<- this];exact h2
theorem Memo.get(h:Memo ls ys Yd)(e:valV Yd (Sum.inl (S:Int):Key)=some v):∃m:Nat,v=.int m/\Ai (AE ls) (AX ys) S.testBit m:=by
 obtain⟨S',m,ee,_,hf⟩:=h.ok _ (Du e);have e1:(Sum.inl (S:Int):Key)=Sum.inl (S':Int):=congrArg Prod.fst ee;have e2:v=V.int m:=congrArg Prod.snd ee
 have:(S:Int)=S':=Sum.inl.inj e1
 have:S=S':=by lia
 subst this;exact⟨m,e2,hf⟩
theorem Memo.put(h:Memo ls ys Yd)(hs:S < 2 ^ ls.length)(hf:Ai (AE ls) (AX ys) S.testBit m):Memo ls ys (Ae Yd (Sum.inl (S:Int):Key) (V.int m)):=by
 unfold Ae;split
 ·refine⟨?_,?_⟩
  ·have e:(Yd.map (fun kv=>if kv.1=(Sum.inl (S:Int):Key) then (kv.1,V.int m) else kv)).map (·.1)=Yd.map (·.1):=by
    rw[ZBJ];apply ZBz;intro a _;simp only[Function.comp];split <;> rfl
   rw[e];exact h.nd
  ·intro e he;obtain⟨a,ha,rfl⟩:=ZK.mp he;split
   ·rename_i q;exact⟨S,m,by rw[q],hs,hf⟩
   ·exact h.ok a ha
 ·rename_i z;refine⟨?_,?_⟩
  ·rw[ZR,ZBv];refine⟨h.nd,by simp,?_⟩;intro a ha b hb q;have hb':b=(Sum.inl (S:Int):Key):=by simpa using hb
   obtain⟨x,hx,rfl⟩:=ZK.mp ha;exact z (ZBM.mpr ⟨x,hx,ZL (q.trans hb')⟩)
  ·intro e he
   rcases Ze.mp he with q | q
   ·exact h.ok e q
   ·rw[ZI]at q;exact⟨S,m,q,hs,hf⟩
def Kk(ls:List Int)(as:List Nat):Prop:=∀S,S < 2 ^ ls.length->(as.any (fun a=>decide (S &&& a=S))=true ↔ One (AE ls) S.testBit)
structure RkAt(K:W.Frag)(C:Addr)(ls:List Int)(ys:List Nat)(H:Hp)(p d:Addr):Prop where
 at_:∃dx tl yl al as Yd,H p=some (.ins C dx (BL (.ref tl) (.ref yl) (.ref al) (.ref d)))/\Ys K H tl (ls.map V.int)/\H yl=some (.lst (iL ys))/\H al=some (.lst (iL as))/\H d=some (.dK Yd)/\as.length<=100/\Kk ls as/\Memo ls ys Yd
 l16:ls.length<=16
 y16:ys.length<=16
theorem RkAt.same(r:RkAt K C ls ys H p d)(s:Yc H H'):RkAt K C ls ys H' p d:=by
 obtain⟨dx,tl,yl,al,as,Yd,h1,h2,h3,h4,h5,h6,h7,h8⟩:=r.at_;exact⟨⟨dx,tl,yl,al,as,Yd,s _ _ h1,s.sqT h2,s _ _ h3,s _ _ h4,s _ _ h5,h6,h7,h8⟩,r.l16,r.y16⟩
def CB(o:HO):Prop:=(∀xs,o≠.tup xs)/\∀ob u,o≠.frz ob u
theorem Cg(f:Yl d H H')(hd:H d=some o)(no:CB o)(h:Ys K H a xs):Ys K H' a xs:=by
 by_cases e:a=d
 ·subst e
  rcases h with (h | ⟨ob,h⟩) | h
  ·rw[hd]at h;exact absurd (ZS h) (no.1 _)
  ·rw[hd]at h;exact absurd (ZS h) (no.2 _ _)
  ·exact .inr h
 ·exact FR h fun o k=>f _ _ e k
theorem Fl:CB (.dK Yd):=⟨(fun _ z=>nomatch z),(fun _ _ z=>nomatch z)⟩
theorem DU{dx:Addr}{fs:List (Str × V)}:CB (.ins C dx fs):=⟨(fun _ z=>nomatch z),(fun _ _ z=>nomatch z)⟩
theorem RkAt.put{kvs':List (Key × V)}(r:RkAt K C ls ys H p d)(f:Yl d H H')(hd:H' d=some (.dK kvs'))(m:Memo ls ys kvs'):RkAt K C ls ys H' p d:=by
 obtain⟨dx,tl,yl,al,as,Yd,h1,h2,h3,h4,h5,h6,h7,h8⟩:=r.at_;exact⟨⟨dx,tl,yl,al,as,kvs',f _ _ (BO h1 h5 (by intro z;cases z)) h1,Cg f h5 Fl h2,f _ _ (BO h3 h5 (by intro z;cases z)) h3,f _ _ (BO h4 h5 (by intro z;cases z)) h4,hd,h6,h7,m⟩,r.l16,r.y16⟩
theorem Aw(s:Yc H H'):Yl t H H':=fun b o _ e=>s b o e
def HC(K:W.Frag)(C:Addr):Sp:=fun vs H Q _=>match vs with
 | [.ref p,.int z]=>∃ls ys d S,RkAt K C ls ys H p d/\z=(S:Nat)/\S < 2 ^ ls.length/\∀b H',(b=true ↔ One (AE ls) S.testBit)->Yc H H'->Q (.bl b) H'
 | _=>False
theorem Ld:Xb P w mg base T.z18 2 (HC K T.C_Reckoner):=by
 refine T.z18.F.ok N6 (fun vs H Q E h=>by unfold HC at h;walk_at "e") ?_;walk_at "f";unfold HC at h;walk_at "g"
 rename_i p z;obtain⟨ls,ys,d,S,R,e1,hS,q⟩:=h;subst e1;obtain⟨dx,tl,yl,al,as,Yd,h1,h2,h3,h4,h5,h6,h7,h8⟩:=R.at_;refine⟨_,(@AG _ _ _ (@AK _ _ _ _ (AZ (Ti (K:=K) rfl) rfl T.z_any (by rfl) (AA (Ao (N':=["alike","things"]) (own:=1) (ix:=[1]) rfl (BA (K:=K) (BE T.cl_Reckoner T.na_Reckoner_alike (vv 0))) (by kernel_rfl) rfl rfl (by kernel_rfl) (fun c=>AQ (i:=0) (show(["alike","things"]:List Str).Nodup by decide +kernel) rfl (by right)) (Af (by decide)) (fun c=>BB) (fun c=>(AL (@J1 P w K mg base T) (hr.mono (show 1<=_ by decide)) rfl T.z66.m T.z66.F.kp T.z66.b .nil AH (AA (vv 1) (AA (vv 0) AB))))) AB)))),?_⟩;refine⟨dx,_,_,h1,lk3 _ _ _ _,.inl ⟨⟨_,.of h4⟩,?_⟩⟩
 refine EE (xs:=iL as) (fun k zs H'=>Yc H H'/\zs=((as.take k).map fun a=>decide (S &&& a=S)).map V.bl) ⟨Yc.refl _,rfl⟩ (fun k zs H' _ ⟨s,_⟩=>s.sqL (.of h4)) (fun k zs H' hk ⟨_,e⟩=>by
  rw[Ab]at hk;rw[e,ZC,ZC,Zf];exact Al (by lia)) ?_ ?_
 ·rintro k x zs H' hx ⟨s1,rfl⟩;obtain⟨a,ha,_,rfl⟩:=Bt hx;refine⟨S,a,rfl,rfl,s1,?_⟩;rw[Zr,ha,ZR,ZR];rfl
 ·rintro zs H' ⟨s1,rfl⟩ l hl;rw[Ab,Zv];refine⟨_,.of AD,q _ _ ?_ (s1.trans (Yc.upd hl))⟩;rw[List.any_map];exact h7 S hS
def NA(K:W.Frag)(C:Addr):Sp:=fun vs H Q _=>match vs with
 | [.ref p,.int z,.int i,.bl ans]=>∃ls ys d S j y,RkAt K C ls ys H p d/\z=(S:Nat)/\i=(j:Nat)/\ys[j]? = some y/\Q (.int ((if ans=true then S &&& y else S - (S &&& y):Nat):Int)) H
 | _=>False
theorem OZ{y:Nat}(h:ys[j]? = some y):atI (iL ys) ((j:Nat):Int)=some (.int (y:Nat)):=AO rfl (by unfold iL;rw[ZT,h];rfl)
theorem Ij:Xb P w mg base T.z29 1 (NA K T.C_Reckoner):=by
 refine T.z29.F.ok sc_z29 (fun vs H Q E h=>by unfold NA at h;walk_at "e") ?_;walk_at "f"
 match vs,h with
 | [.ref p,.int z,.int i,.bl ans],⟨ls,ys,d,S,j,y,R,e1,e2,hj,q⟩ =>
 subst e1 e2;obtain⟨dx,tl,yl,al,as,Yd,h1,h2,h3,h4,h5,h6,h7,h8⟩:=R.at_;refine⟨_,(@AF _ _ _ _ _ (@AN _ _ 4 _ _ _ _ sc_z29.nd rfl (by right) (AW FB (vv 1) (Yp (K:=K) (BE T.cl_Reckoner T.na_Reckoner_yeses (vv 0)) (vv 2))) (by rfl) (by walk_at "i")) (@AG _ _ _ (@AK _ _ _ _ (Cu (Az (vv 3)) (vv 4) (AW DD (vv 1) (vv 4)))))),?_⟩;refine⟨dx,_,_,h1,lk2 _ _ _ _,_,.int (y:Nat),.inl (.of h3),OZ hj,?_⟩;dsimp only[Aa,GM];rw[FI];cases ans with
 | true=>exact q
 | false =>
  have e:((S:Int) - ((S &&& y:Nat):Int))=((S - (S &&& y):Nat):Int):=by
   have:=ZBs (n:=S) (m:=y)
   lia
  show Q (.int ((S:Int) - ((S &&& y:Nat):Int))) H;rw[e];exact q
def Bw(S y:Nat):Bool:=decide (0 < S &&& y) && decide (S &&& y < S)
def Ay(S:Nat)(ys:List Nat)(n:Nat):List Nat:=(List.range n).filter fun i=>Bw S (ys.getD i 0)
theorem RZ(S:Nat)(ys:List Nat)(n:Nat):Ay S ys (n+1)=Ay S ys n++(if Bw S (ys.getD n 0)=true then [n] else []):=by
 unfold Ay;rw[ZBa,ZBj];cases h:Bw S (ys.getD n 0) <;> simp only[ZBi,ZB0,h] <;> rfl
theorem LM(S:Nat)(ys:List Nat)(n:Nat):(Ay S ys n).length<=n:=by
 have:=ZBk (fun i=>Bw S (ys.getD i 0)) (List.range n)
 rw[ZBB]at this;exact this
theorem Fs(S y:Nat):Bw S y=true ↔ A3 S.testBit y.testBit:=by
 unfold Bw A3;rw[ZQ,decide_eq_true_eq,decide_eq_true_eq]
 have h1:0 < S &&& y ↔ ∃k,S.testBit k=true/\y.testBit k=true:=by
  constructor
  ·intro h;obtain⟨k,hk⟩:=Nat.exists_testBit_of_ne_zero (Nat.pos_iff_ne_zero.mp h);rw[Z5,ZQ]at hk;exact⟨k,hk⟩
  ·rintro⟨k,a,b⟩
   rcases ZB5 (S &&& y) with z | z
   ·have:(S &&& y).testBit k=true:=by rw[Z5,a,b];rfl
    rw[z]at this;simp at this
   ·exact z
 have h2:S &&& y < S ↔ ∃k,S.testBit k=true/\y.testBit k=false:=by
  have hle:=ZBs (n:=S) (m:=y);constructor
  ·intro h;obtain⟨k,hk⟩:=Nat.exists_testBit_of_ne_zero (show S - (S &&& y)≠0 by lia);rw[Fk,ZQ]at hk;exact⟨k,hk.1,by simpa using hk.2⟩
  ·rintro⟨k,a,b⟩
   rcases Z4 (S &&& y) S with z | z
   ·exact z
   ·have e:S &&& y=S:=by lia
    have:(S &&& y).testBit k=true:=by rw[e];exact a
    rw[Z5,b]at this;simp at this
 rw[h1,h2]
def IC(K:W.Frag)(C:Addr):Sp:=fun vs H Q _=>match vs with
 | [.ref p,.int z]=>∃ls ys d S,RkAt K C ls ys H p d/\z=(S:Nat)/\Ga H Q (iL (Ay S ys ys.length))
 | _=>False
theorem ME:Xb P w mg base T.z28 1 (IC K T.C_Reckoner):=by
 refine T.z28.F.ok Ut (fun vs H Q E h=>by unfold IC at h;walk_at "e") ?_;walk_at "f";unfold IC at h;walk_at "g"
 rename_i p z;obtain⟨ls,ys,d,S,R,e1,q⟩:=h;subst e1;obtain⟨dx,tl,yl,al,as,Yd,h1,h2,h3,h4,h5,h6,h7,h8⟩:=R.at_;have y16:=R.y16;refine⟨_,(@AG _ _ _ (@AK _ _ _ _ (@Ao _ _ _ _ _ _ _ (["question","yes","things"]) 2 [1] _ _ _ _ rfl (UJ (K:=K) rfl T.z_enumerate (AA (BE T.cl_Reckoner T.na_Reckoner_yeses (vv 0)) AB)) (by kernel_rfl) rfl rfl (by kernel_rfl) (fun c=>Dy (K:=K) (n:=2) rfl (BP (AQ (i:=0) (show(["question","yes","things"]:List Str).Nodup by decide +kernel) rfl (by right)) (BP (AQ (i:=1) (show(["question","yes","things"]:List Str).Nodup by decide +kernel) rfl (by right)) Cf))) (D6 (Bu BG (DG BG Bo) (Af (by decide)) (Bu BG Bo (Af (by decide)) Dm))) (fun c=>CD (Oo Ca Ca AC (AW FB (vv 2) (vv 1)) (vv 2))) (fun c=>(vv 0)) (by intro _;rfl)))),?_⟩;refine⟨dx,_,_,h1,lk2 _ _ _ _,⟨_,.of h3⟩,?_⟩
 refine WP (xs:=iL ys) (fun i zs H'=>Yc H H'/\zs=iL (Ay S ys i)) ⟨Yc.refl _,rfl⟩ (fun i zs H' _ ⟨s,_⟩=>s.sqL (.of h3)) (fun i zs H' hi ⟨_,e⟩=>by
  rw[Ab]at hi
  have:=LM S ys i
  rw[e,Ab];exact Al (by lia)) ?_ ?_
 ·rintro i x zs H2 pp hx ⟨s2,rfl⟩ hpp;obtain⟨y,hy,_,rfl⟩:=Bt hx;refine⟨pp,_,rfl,.of AD,rfl,_,_,rfl,_,_,rfl,rfl,?_⟩;have eg:ys.getD i 0=y:=by rw[ZV,hy];rfl
  rw[RZ,BW,eg];have s3:=s2.trans (Yc.upd (o:=.tup [.int (i:Nat),.int (y:Nat)]) hpp);have eb:Builtin.bitAnd (S:Int) (y:Int)=((S &&& y:Nat):Int):=FI ..;refine AY (fun e=>?_) (fun e=>?_)
  ·rw[eb]at e;have e':0 < S &&& y:=by have:=ZM e;lia
   refine AY (fun f=>?_) (fun f=>?_)
   ·rw[eb]at f;have f':S &&& y < S:=by have:=ZM f;lia
    rw[if_pos (show Bw S y=true by unfold Bw;rw[ZL e',ZL f'];rfl)];exact⟨s3,rfl⟩
   ·rw[eb]at f;have f':¬S &&& y < S:=fun q=>f (ZL (by lia))
    rw[if_neg (show ¬Bw S y=true by unfold Bw;rw[Zw f',Bool.and_false];simp)];exact⟨s3,by show _=_++[];rw[Zj]⟩
  ·rw[eb]at e;have e':¬0 < S &&& y:=fun q=>e (ZL (by lia))
   rw[if_neg (show ¬Bw S y=true by unfold Bw;rw[Zw e',ZBl];simp)];exact⟨s3,by show _=_++[];rw[Zj]⟩
 ·rintro zs H2 ⟨s2,rfl⟩ l hl;rw[Ab];exact q l _ (s2.free hl) (s2.trans (Yc.upd hl)) AD
def BM(K:W.Frag)(C:Addr)(c:Nat):Sp:=fun vs H Q _=>match vs with
 | [.ref p,.int z]=>∃ls ys d S,RkAt K C ls ys H p d/\z=(S:Nat)/\S < 2 ^ ls.length/\(∃n,Can (AE ls) (AX ys) n S.testBit)/\As ls.length S.testBit < c/\∀(m:Nat) H',Ai (AE ls) (AX ys) S.testBit m->RkAt K C ls ys H' p d->Yl d H H'->Q (.int (m:Nat)) H'
 | _=>False
theorem NU{c:Nat}:AM (BM K C c):=fun vs H Q Q' E h q=>by
 unfold BM at *;walk_at "q"
def Iy(K:W.Frag)(C:Addr)(c:Nat):Sp:=fun vs H Q _=>match vs with
 | [.ref p,.int z,.int i]=>∃ls ys d S j y,RkAt K C ls ys H p d/\z=(S:Nat)/\S < 2 ^ ls.length/\(∃n,Can (AE ls) (AX ys) n S.testBit)/\i=(j:Nat)/\ys[j]? = some y/\A3 S.testBit y.testBit/\As ls.length S.testBit < c+1 /\
  ∀(b e X:Nat) H',Ai (AE ls) (AX ys) (S &&& y).testBit b->Ai (AE ls) (AX ys) (S - (S &&& y)).testBit e->(X=S &&& y/\e < b\/X=S - (S &&& y)/\b<=e)->RkAt K C ls ys H' p d->Yl d H H'->Q (.int (X:Nat)) H'
 | _=>False
def D1(K:W.Frag)(C:Addr)(c:Nat):Sp:=fun vs H Q _=>match vs with
 | [.ref p,.int z,.int i]=>∃ls ys d S j y,RkAt K C ls ys H p d/\z=(S:Nat)/\S < 2 ^ ls.length/\(∃n,Can (AE ls) (AX ys) n S.testBit)/\i=(j:Nat)/\ys[j]? = some y/\A3 S.testBit y.testBit/\As ls.length S.testBit < c+1 /\
  ∀(b e:Nat) H',Ai (AE ls) (AX ys) (S &&& y).testBit b->Ai (AE ls) (AX ys) (S - (S &&& y)).testBit e->RkAt K C ls ys H' p d->Yl d H H'->Q (.int (max b e:Nat)) H'
 | _=>False
theorem FG{y c:Nat}(hS:S < 2 ^ ls.length)(hc:Can (AE ls) (AX ys) n S.testBit)(hp:A3 S.testBit y.testBit)(hk:As ls.length S.testBit < c+1) :
 (S &&& y < 2 ^ ls.length/\Can (AE ls) (AX ys) n (S &&& y).testBit/\As ls.length (S &&& y).testBit < c)/\S - (S &&& y) < 2 ^ ls.length/\Can (AE ls) (AX ys) n (S - (S &&& y)).testBit/\As ls.length (S - (S &&& y)).testBit < c:=by
 obtain⟨c1,c2⟩:=NT (fun k hk=>Dc hS hk) hp;have hle:=ZBs (n:=S) (m:=y);rw[C1,CL];exact⟨⟨by lia,BZ (fun k z=>by simp only[ZQ]at z;exact z.1) hc,by lia⟩,by lia,BZ (fun k z=>by simp only[ZQ]at z;exact z.1) hc,by lia⟩
theorem Wc(c:Nat)(G_z19:Xb P w mg base T.z19 (4 * c+4) (BM K T.C_Reckoner c)) :
 Xb P w mg base T.z22 (4 * c+5) (Iy K T.C_Reckoner c):=by
 have G_z29:=@Ij P w K mg base T;refine T.z22.F.ok sc_z22 (fun vs H Q E h=>by unfold Iy at h;walk_at "e") ?_;walk_at "f";have hr_z29:=hr.mono (show 1<=4 * c+4 by lia);have hr_z19:=hr;unfold Iy at h;walk_at "g"
 rename_i p z i;obtain⟨ls,ys,d,S,j,y,R,e1,hS,⟨n,hc⟩,e2,hj,hp,hk,q⟩:=h;subst e1 e2;obtain⟨⟨a1,a2,a3⟩,b1,b2,b3⟩:=FG hS hc hp hk;obtain⟨dx,tl,yl,al,as,Yd,h1,_⟩:=id R.at_;refine⟨_,(@AF _ _ _ _ _ (@AN _ _ 3 _ _ _ _ sc_z22.nd rfl (by right) (An (vv 0) T.cl_Reckoner T.z29.m G_z29 hr_z29 T.z29.b .nil AH (AA (vv 1) (AA (vv 2) (AA Av AB)))) (by rfl) (by walk_at "i")) (@AF _ _ _ _ _ (@AN _ _ 4 _ _ _ _ sc_z22.nd rfl (by right) (An (vv 0) T.cl_Reckoner T.z29.m G_z29 hr_z29 T.z29.b .nil AH (AA (vv 1) (AA (vv 2) (AA Av AB)))) (by rfl) (by walk_at "i")) (@AG _ _ _ (@AK _ _ _ _ (Cu (AV Bg (An (vv 0) T.cl_Reckoner T.z19.m G_z19 hr_z19 T.z19.b .nil AH (AA (vv 4) AB)) (An (vv 0) T.cl_Reckoner T.z19.m G_z19 hr_z19 T.z19.b .nil AH (AA (vv 3) AB))) (vv 4) (vv 3)))))),?_⟩;refine⟨p,dx,_,rfl,h1,ln7 _ _ _ _,ls,ys,d,S,j,y,R,rfl,rfl,hj,?_⟩;dsimp only[Aa];refine⟨p,dx,_,rfl,h1,ln7 _ _ _ _,ls,ys,d,S,j,y,R,rfl,rfl,hj,?_⟩;dsimp only[Aa];refine⟨p,dx,_,rfl,h1,ln1 _ _ _ _,ls,ys,d,S &&& y,R,rfl,a1,⟨n,a2⟩,a3,fun b H1 f1 R1 fr1=>?_⟩;obtain⟨dx1,tl1,yl1,al1,as1,kvs1,k1,_⟩:=id R1.at_;refine⟨p,dx1,_,rfl,k1,ln1 _ _ _ _,ls,ys,d,S - (S &&& y),R1,rfl,b1,⟨n,b2⟩,b3,fun e H2 f2 R2 fr2=>?_⟩;refine AY (fun x=>?_) (fun x=>?_)
 ·have x':e < b:=by have:=ZM x;lia
  exact q b e _ H2 f1 f2 (.inl ⟨rfl,x'⟩) R2 (fr1.trans fr2)
 ·have x':¬e < b:=fun w=>x (ZL (by lia))
  exact q b e _ H2 f1 f2 (.inr ⟨rfl,by lia⟩) R2 (fr1.trans fr2)
theorem LR(c:Nat)(G_z19:Xb P w mg base T.z19 (4 * c+4) (BM K T.C_Reckoner c)) :
 Xb P w mg base T.z21 (4 * c+6) (D1 K T.C_Reckoner c):=by
 have G_z22:=Wc T c G_z19;refine T.z21.F.ok WX (fun vs H Q E h=>by unfold D1 at h;walk_at "e") ?_;walk_at "f";have hr_z19:=hr.mono (show 4 * c+4<=4 * c+5 by lia);have hr_z22:=hr;unfold D1 at h;walk_at "g"
 rename_i p z i;obtain⟨ls,ys,d,S,j,y,R,e1,hS,⟨n,hc⟩,e2,hj,hp,hk,q⟩:=h;subst e1 e2;obtain⟨⟨a1,a2,a3⟩,b1,b2,b3⟩:=FG hS hc hp hk;obtain⟨dx,tl,yl,al,as,Yd,h1,_⟩:=id R.at_;refine⟨_,(@AG _ _ _ (@AK _ _ _ _ (An (vv 0) T.cl_Reckoner T.z19.m G_z19 hr_z19 T.z19.b .nil AH (AA (An (vv 0) T.cl_Reckoner T.z22.m G_z22 hr_z22 T.z22.b .nil AH (AA (vv 1) (AA (vv 2) AB))) AB)))),?_⟩;refine⟨p,dx,_,rfl,h1,ln1 _ _ _ _,p,dx,_,rfl,h1,ln6 _ _ _ _,ls,ys,d,S,j,y,R,rfl,hS,⟨n,hc⟩,rfl,hj,hp,hk,fun b e X H1 f1 f2 hX R1 fr1=>?_⟩
 have X1:X < 2 ^ ls.length/\(∃n,Can (AE ls) (AX ys) n X.testBit)/\As ls.length X.testBit < c/\∀m,Ai (AE ls) (AX ys) X.testBit m->m=max b e:=by
  rcases hX with ⟨rfl,x⟩ | ⟨rfl,x⟩
  ·exact⟨a1,⟨n,a2⟩,a3,fun m hm=>by rw[GF hm f1];lia⟩
  ·exact⟨b1,⟨n,b2⟩,b3,fun m hm=>by rw[GF hm f2];lia⟩
 obtain⟨x1,x2,x3,x4⟩:=X1;refine⟨ls,ys,d,X,R1,rfl,x1,x2,x3,fun m H2 hm R2 fr2=>?_⟩;rw[x4 m hm];exact q b e H2 f1 f2 R2 (fr1.trans fr2)
def Fa(ls:List Int)(ys:List Nat)(S:Nat)(qs ms:List Nat):Prop:=ms.length=qs.length/\∀(t i:Nat),qs[t]? = some i->∃b e,Ai (AE ls) (AX ys) (S &&& ys.getD i 0).testBit b/\Ai (AE ls) (AX ys) (S - (S &&& ys.getD i 0)).testBit e/\ms[t]? = some (max b e)
theorem QZ{qs ms:List Nat}{b e:Nat}(h:Fa ls ys S qs ms)(f1:Ai (AE ls) (AX ys) (S &&& ys.getD i 0).testBit b)(f2:Ai (AE ls) (AX ys) (S - (S &&& ys.getD i 0)).testBit e):Fa ls ys S (qs++[i]) (ms++[max b e]):=by
 refine⟨by rw[ZU,ZU,h.1];rfl,fun t i' ht=>?_⟩
 rcases ZBW t qs.length with z | z | z
 ·rw[ZBP z]at ht;obtain⟨b',e',g1,g2,g3⟩:=h.2 t i' ht;exact⟨b',e',g1,g2,by rw[ZBP (by rw[h.1];exact z)];exact g3⟩
 ·subst z;rw[ZBL (ZD _),ZBt]at ht;cases ht;exact⟨b,e,f1,f2,by rw[<- h.1,ZBL (ZD _),ZBt];rfl⟩
 ·rw[ZBL (Z0 z)]at ht;rw[ZB9 (by simp;lia)]at ht;cases ht
theorem Do(h:i∈Ay S ys ys.length):ys[i]? = some (ys.getD i 0)/\A3 S.testBit (ys.getD i 0).testBit:=by
 obtain⟨h1,h2⟩:=Z6.mp h;have h1:=Zl.mp h1;refine⟨?_,(Fs _ _).mp h2⟩;rw[ZV,ZE h1];rfl
theorem Uo{ms:List Nat}{M:Nat}(ho:¬One (AE ls) S.testBit)(h:Fa ls ys S (Ay S ys ys.length) ms)(h1:M∈ms)(h2:∀a∈ms,M<=a):Ai (AE ls) (AX ys) S.testBit (1+M):=by
 refine Kj ho ?_ ?_
 ·obtain⟨t,ht,et⟩:=Zq h1;have ht':t < (Ay S ys ys.length).length:=by rw[<- h.1];exact ht
  obtain⟨b,e,g1,g2,g3⟩:=h.2 t _ (ZE ht');obtain⟨y1,y2⟩:=Do (Zk ht');rw[C1]at g1;rw[CL]at g2;refine⟨_,ZK.mpr ⟨_,Zo y1,rfl⟩,y2,b,e,g1,g2,?_⟩;rw[ZE ht,et]at g3;exact ZS g3
 ·intro f hf hp;obtain⟨y,hy,rfl⟩:=ZK.mp hf;obtain⟨i,hi,ei⟩:=Zq hy;have eg:ys.getD i 0=y:=by rw[ZV,ZE hi,ei];rfl
  have him:i∈Ay S ys ys.length:=Z6.mpr ⟨Zl.mpr hi,(Fs _ _).mpr (by rw[eg];exact hp)⟩;obtain⟨t,ht,et⟩:=Zq him;obtain⟨b,e,g1,g2,g3⟩:=h.2 t i (by rw[ZE ht,et]);rw[C1,eg]at g1;rw[CL,eg]at g2;exact⟨b,e,g1,g2,h2 _ (Zo g3)⟩
theorem Kf(ho:¬One (AE ls) S.testBit)(hc:Can (AE ls) (AX ys) n S.testBit):0 < (Ay S ys ys.length).length:=by
 obtain⟨f,hf,hp⟩:=IM ho hc;obtain⟨y,hy,rfl⟩:=ZK.mp hf;obtain⟨i,hi,ei⟩:=Zq hy;have eg:ys.getD i 0=y:=by rw[ZV,ZE hi,ei];rfl
 exact ZB8 (Z6.mpr ⟨Zl.mpr hi,(Fs _ _).mpr (by rw[eg];exact hp)⟩)
theorem T7(c:Nat)(G_z19:Xb P w mg base T.z19 (4 * c+4) (BM K T.C_Reckoner c)) :
 Xb P w mg base T.z15 (4 * c+7) (BM K T.C_Reckoner (c+1)):=by
 have G_z21:=LR T c G_z19;refine T.z15.F.ok Sd (fun vs H Q E h=>by unfold BM at h;walk_at "e") ?_;walk_at "f";have hr_z21:=hr;have hr_z18:=hr.mono (show 2<=4 * c+6 by lia);have hr_z28:=hr.mono (show 1<=4 * c+6 by lia);unfold BM at h;walk_at "g"
 rename_i p z;obtain⟨ls,ys,d,S,R,e1,hS,⟨n,hc⟩,hk,q⟩:=h;subst e1;obtain⟨dx,tl,yl,al,as,Yd,h1,_,_,_,hd,_⟩:=id R.at_;have l16:=R.l16;have y16:=R.y16;refine⟨_,(@AF _ _ _ _ _ (@Am _ _ _ _ _ _ _ _ (Az (An (vv 0) T.cl_Reckoner T.z18.m (@Ld P w K mg base T) hr_z18 T.z18.b .nil AH (AA (vv 1) AB))) (@AG _ _ _ (@AK _ _ _ _ AC)) Aq) (@AG _ _ _ (@AK _ _ _ _ (AW (A9 (K:=K)) AC (AZ (Km (K:=K) rfl) rfl T.z_min (by rfl) (AA (Ao (N':=["question","self","things"]) (own:=1) (ix:=[0,1]) rfl (BA (K:=K) (An (vv 0) T.cl_Reckoner T.z28.m (@ME P w K mg base T) hr_z28 T.z28.b .nil AH (AA (vv 1) AB))) (by kernel_rfl) rfl rfl (by kernel_rfl) (fun c=>AQ (i:=0) (show(["question","self","things"]:List Str).Nodup by decide +kernel) rfl (by right)) (Af (by decide)) (fun c=>BB) (fun c=>(An (vv 1) T.cl_Reckoner T.z21.m G_z21 hr_z21 T.z21.b .nil AH (AA (vv 2) (AA (vv 0) AB))))) AB)))))),?_⟩;refine⟨p,dx,_,rfl,h1,ln3 _ _ _ _,ls,ys,d,S,R,rfl,hS,fun b H1 hb s1=>?_⟩;have R1:=R.same s1;have hd1:=s1 _ _ hd;cases b with
 | true=>exact q 0 H1 ⟨hb.mp rfl,fun _ _=>ZP _⟩ R1 (Aw s1)
 | false =>
  have ho:¬One (AE ls) S.testBit:=fun o=>nomatch hb.mpr o
  refine⟨p,dx,_,rfl,s1 _ _ h1,ln5 _ _ _ _,ls,ys,d,S,R1,rfl,fun l H2 hl s2 g2=>.inl ⟨⟨_,.of g2⟩,?_⟩⟩;have R2:=R1.same s2;have hd2:=s2 _ _ hd1;have hld:l≠d:=BO g2 hd2 (by intro z;cases z);have Yk:=LM S ys ys.length
  refine EE (xs:=iL (Ay S ys ys.length)) (fun k zs H'=>RkAt K T.C_Reckoner ls ys H' p d/\Yl d H2 H'/\∃ms,zs=iL ms/\Fa ls ys S ((Ay S ys ys.length).take k) ms) ⟨R2,Yl.refl,[],rfl,rfl,fun t i ht=>by simp at ht⟩ (fun k zs H' _ ⟨_,f,_⟩=>.of (f _ _ hld g2)) (fun k zs H' hk' ⟨_,_,ms,e,hw⟩=>by
   rw[Ab]at hk';rw[e,Ab,hw.1,Zf];exact Al (by lia)) ?_ ?_
  ·rintro k x zs H' hx ⟨R',f',ms,rfl,hw⟩;obtain⟨i,hi,him,rfl⟩:=Bt hx;obtain⟨y1,y2⟩:=Do him;obtain⟨dx',tl',yl',al',as',kvs',k1,_⟩:=id R'.at_;refine⟨p,dx',_,rfl,k1,ln4 _ _ _ _,ls,ys,d,S,i,_,R',rfl,hS,⟨n,hc⟩,rfl,y1,y2,hk,fun b e H3 g1 g2' R3 f3=>?_⟩;refine⟨R3,f'.trans f3,ms++[max b e],by rw[BW];rfl,?_⟩;rw[Zr,hi];exact QZ hw g1 g2'
  ·rintro zs H' ⟨R',f',ms,rfl,hw⟩ l2 hl2;rw[Ab,Zv]at hw;refine⟨ms.map fun m=>((m:Nat):Int),by rw[ZBJ];exact .of AD,by rw[ZC,hw.1];exact Kf ho hc,fun M hM hle=>?_⟩;obtain⟨M',hM',rfl⟩:=ZK.mp hM;have fm:=Uo ho hw hM' (fun a ha=>by have:=hle _ (ZK.mpr ⟨a,ha,rfl⟩);lia);have sl:Yc H' (upd H' l2 (.lst (iL ms))):=Yc.upd hl2;have e:(1:Int)+((M':Nat):Int)=((1+M':Nat):Int):=by lia
   show Q (.int (1+((M':Nat):Int))) _;rw[e];exact q (1+M') _ fm (R'.same sl) ((Aw s1).trans ((Aw s2).trans (f'.trans (Aw sl))))
theorem WO(c:Nat)(G_z19:Xb P w mg base T.z19 (4 * c+4) (BM K T.C_Reckoner c)) :
 FnOk P w K mg base CX0 (4 * (c+1)+4) T.z19.f T.z19.d ["self","things"] (BM K T.C_Reckoner (c+1)):=by
 have G_z15:=T7 T c G_z19;refine T.z19.F.ok Os (fun vs H Q E h=>by unfold BM at h;walk_at "e") ?_;walk_at "f";have hr_z15:=hr.mono (show 4 * c+7<=4 * (c+1)+3 by lia);unfold BM at h;walk_at "g"
 rename_i p z;obtain⟨ls,ys,d,S,R,e1,hS,hc,hk,q⟩:=h;subst e1;obtain⟨dx,tl,yl,al,as,Yd,h1,h2,h3,h4,hd,h6,h7,h8⟩:=id R.at_;have mono1:AM (BM K T.C_Reckoner (c+1)):=NU;refine⟨_,(@AF _ _ _ _ _ (@Am _ _ _ _ _ _ _ _ (AV (Fd hu) (vv 1) (BE T.cl_Reckoner T.na_Reckoner_known (vv 0))) (@AG _ _ _ (@Ez _ _ _ _ _ _ _ _ _ (CG hu) (BE T.cl_Reckoner T.na_Reckoner_known (vv 0)) (vv 1) (An (vv 0) T.cl_Reckoner T.z15.m G_z15 hr_z15 T.z15.b .nil AH (AA (vv 1) AB)) (by rfl))) Aq) (@AG _ _ _ (@AK _ _ _ _ (JC (CG hu) (BE T.cl_Reckoner T.na_Reckoner_known (vv 0)) (vv 1) (by intro _ _;rfl))))),?_⟩;refine Aj (fun σ H1=>σ=[some (.ref p),some (.int (S:Nat))]/\RkAt K T.C_Reckoner ls ys H1 p d/\Yl d H H1/\∃(kvs':List (Key × V)) (m:Nat),H1 d=some (.dK kvs')/\valV kvs' (Sum.inl (S:Int):Key)=some (.int m)/\Ai (AE ls) (AX ys) S.testBit m) ?_ ?_ (by walk_at "sm")
 ·refine⟨dx,_,_,h1,lk4 _ _ _ _,valV Yd (Sum.inl (S:Int):Key),DGet.k (k:=Sum.inl (S:Int)) hd,?_⟩;cases e:valV Yd (Sum.inl (S:Int):Key) with
  | some v =>
   obtain⟨m,rfl,hm⟩:=h8.get e;exact⟨rfl,R,Yl.refl,Yd,m,hd,e,hm⟩
  | none =>
   refine⟨p,dx,_,rfl,h1,ln2 _ _ _ _,ls,ys,d,S,R,rfl,hS,hc,hk,fun m H1 hm R1 f1=>?_⟩;obtain⟨dx1,tl1,yl1,al1,as1,kvs1,k1,_,_,_,k5,_,_,k8⟩:=id R1.at_;refine⟨dx1,_,_,k1,lk4 _ _ _ _,d,_,rfl,DPut.k (k:=Sum.inl (S:Int)) k5 (k8.len R.l16),?_⟩;have fu:Yl d H1 (upd H1 d (.dK (Ae kvs1 (Sum.inl (S:Int):Key) (V.int m)))):=Yl.updT;exact⟨rfl,R1.put fu AD (k8.put hS hm),f1.trans fu,_,m,AD,by rw[IV,if_pos rfl],hm⟩
 ·rintro σ H1 ⟨rfl,R1,f1,kvs',m,hd1,hv,hm⟩;obtain⟨dx1,tl1,yl1,al1,as1,kvs1,k1,_⟩:=id R1.at_;refine⟨dx1,_,_,k1,lk4 _ _ _ _,d,.int m,rfl,?_,q m H1 hm R1 f1⟩;rw[<- hv];exact DGet.k (k:=Sum.inl (S:Int)) hd1
theorem Jf:∀c:Nat,Xb P w mg base T.z19 (4 * c+4) (BM K T.C_Reckoner c)
 | 0=>by
  have no:∀vs H Q E,¬BM K T.C_Reckoner 0 vs H Q E:=fun vs H Q E h=>by
   unfold BM at h;split at h
   ·obtain⟨ls,ys,d,S,_,_,_,_,z,_⟩:=h;exact absurd z (ZBQ _)
   ·exact h
  exact⟨fun vs H Q E h=>(no _ _ _ _ h).elim,fun A outer s H args us vs Q E _ _ _ _ h=>(no _ _ _ _ h).elim⟩
 | c+1=>WO T c (Jf c)
theorem HE:Xb P w mg base T.z19 72 (BM K T.C_Reckoner 17):=Jf T 17
def Br(a b c:V):List (Str × V):=[("yeses",a),("numbers",b),("found",c)]
theorem lb1(a b c:V):(Br a b c).lookup ("yeses" : Str)=some a:=by rfl
theorem lb2(a b c:V):(Br a b c).lookup ("numbers" : Str)=some b:=by rfl
theorem lb3(a b c:V):(Br a b c).lookup ("found" : Str)=some c:=by rfl
theorem nb1(a b c:V):(Br a b c).lookup ("bears" : Str)=none:=by rfl
theorem nb2(a b c:V):(Br a b c).lookup ("has_within" : Str)=none:=by rfl
theorem nb3(a b c:V):(Br a b c).lookup ("greatest_within" : Str)=none:=by rfl
theorem nb4(a b c:V):(Br a b c).lookup ("bears_all" : Str)=none:=by rfl
theorem pb1(a:V):AU "yeses" a []=([("yeses",a)]:List (Str × V)):=by rfl
theorem pb2(a b:V):AU "numbers" b [("yeses",a)]=([("yeses",a),("numbers",b)]:List (Str × V)):=by rfl
theorem pb3(a b c:V):AU "found" c [("yeses",a),("numbers",b)]=Br a b c:=by rfl
abbrev kN(S:Nat):Key:=Sum.inl (S:Int)
structure NumsOk(n:Nat)(Yd:List (Key × V)):Prop where
 nd:(Yd.map (·.1)).Nodup
 ok:∀e∈Yd,∃(S:Nat) (k:Int),e=(kN S,V.int k)/\S < 2 ^ n/\1<=k
def Ax(Yd:List (Key × V))(U:Nat)(m:Int):Prop:=∃(S:Nat) (k:Int),(kN S,V.int k)∈Yd/\S &&& U=S/\m<=k
def Dk(Yd:List (Key × V))(U:Nat)(g:Int):Prop:=∀m:Int,1<=m->(m<=g ↔ Ax Yd U m)
structure FMemo(n:Nat)(Yd fvs:List (Key × V)):Prop where
 nd:(fvs.map (·.1)).Nodup
 ok:∀e∈fvs,∃(U:Nat) (g:Int),e=(kN U,V.int g)/\U < 2 ^ n/\Dk Yd U g
theorem FMemo.get{fvs:List (Key × V)}(h:FMemo n Yd fvs)(e:valV fvs (kN U)=some v):∃g:Int,v=.int g/\Dk Yd U g:=by
 obtain⟨T',g,ee,_,hf⟩:=h.ok _ (Du e);have e1:kN U=kN T':=congrArg Prod.fst ee;have e2:v=V.int g:=congrArg Prod.snd ee
 have:U=T':=by injection e1 with z;lia
 subst this;exact⟨g,e2,hf⟩
theorem Ka{k:Key}(nd:(Yd.map (·.1)).Nodup):((Ae Yd k v).map (·.1)).Nodup:=by
 unfold Ae;split
 ·have e:(Yd.map (fun kv=>if kv.1=k then (kv.1,v) else kv)).map (·.1)=Yd.map (·.1):=by
   rw[ZBJ];apply ZBz;intro a _;simp only[Function.comp];split <;> rfl
  rw[e];exact nd
 ·rename_i z;rw[ZR,ZBv];refine⟨nd,by simp,?_⟩;intro a ha b hb q;have hb':b=k:=by simpa using hb
  obtain⟨x,hx,rfl⟩:=ZK.mp ha;exact z (ZBM.mpr ⟨x,hx,ZL (q.trans hb')⟩)
theorem put_mem{k:Key}{e:Key × V}(h:e∈Ae Yd k v):e=(k,v)\/(e∈Yd/\e.1≠k):=by
 unfold Ae at h;split at h
 ·obtain⟨a,ha,rfl⟩:=ZK.mp h;split
  ·rename_i q;exact .inl (by rw[q])
  ·rename_i q;exact .inr ⟨ha,q⟩
 ·rename_i z
  rcases Ze.mp h with q | q
  ·exact .inr ⟨q,fun y=>z (ZBM.mpr ⟨e,q,ZL y⟩)⟩
  ·rw[ZI]at q;exact .inl q
theorem Kc{k:Key}:(k,v)∈Ae Yd k v:=by
 unfold Ae;split
 ·rename_i z;obtain⟨x,hx,e⟩:=ZBM.mp z;have e:=ZM e;exact ZK.mpr ⟨x,hx,by rw[if_pos e,e]⟩
 ·exact ZY _ (by simp)
theorem Sc{k:Key}{e:Key × V}(h:e∈Yd)(n:e.1≠k):e∈Ae Yd k v:=by
 unfold Ae;split
 ·exact ZK.mpr ⟨e,h,by rw[if_neg n]⟩
 ·exact Zt _ h
theorem Ss{k:Key}(nd:(Yd.map (·.1)).Nodup)(h:(k,v)∈Yd):valV Yd k=some v:=by
 induction Yd with
 | nil=>cases h
 | cons x r ih =>
  rw[Zd,ZBd]at nd
  rcases ZH.mp h with e | e
  ·subst e;exact Bl rfl
  ·rw[Bk fun z=>nd.1 (by rw[z];exact ZK.mpr ⟨_,e,rfl⟩)];exact ih nd.2 e
theorem FMemo.put{fvs:List (Key × V)}(h:FMemo n Yd fvs){g:Int}(hT:U < 2 ^ n)(hg:Dk Yd U g):FMemo n Yd (Ae fvs (kN U) (V.int g)) :=
 ⟨Ka h.nd,fun e he=>by
  rcases put_mem he with rfl | ⟨q,_⟩
  ·exact⟨U,g,rfl,hT,hg⟩
  ·exact h.ok e q⟩
theorem Gu{fvs:List (Key × V)}(nd:(fvs.map (·.1)).Nodup)(h:∀e∈fvs,∃(U:Nat) (v:V),e=(kN U,v)/\U < 2 ^ n)(n16:n<=16):fvs.length < 2 ^ 24:=by
 have hl:fvs.length<=2 ^ n:=by
  have e:(fvs.map fun e=>match e.1 with | Sum.inl z=>z.toNat | Sum.inr _=>0).length=fvs.length:=ZC ..;rw[<- e];apply Cj
  ·refine ZBh.mpr (List.Pairwise.imp_of_mem ?_ (ZBh.mp nd));intro a b ha hb ne q;obtain⟨U,v,rfl,_⟩:=h a ha;obtain⟨U',v',rfl,_⟩:=h b hb;apply ne;have q':(U:Int).toNat=(U':Int).toNat:=q;rw[Zm,Zm]at q';rw[q']
  ·intro x hx;obtain⟨a,ha,rfl⟩:=ZK.mp hx;obtain⟨U,v,rfl,hU⟩:=h a ha
   show(U:Int).toNat < 2 ^ n
   rw[Zm];exact hU
 have:2 ^ n<=2 ^ 16:=Zp (by decide) n16
 lia
structure BrAt(K:W.Frag)(C:Addr)(n:Nat)(ys:List Nat)(Yd:List (Key × V))(H:Hp)(p nd fd:Addr):Prop where
 at_:∃dx yl fvs,H p=some (.ins C dx (Br (.ref yl) (.ref nd) (.ref fd)))/\H yl=some (.lst (iL ys))/\Rd H nd (.dK Yd)/\H fd=some (.dK fvs)/\FMemo n Yd fvs
 nums:NumsOk n Yd
 n16:n<=16
 y16:ys.length<=16
 ne:nd≠fd
 ylt:∀y∈ys,y < 2 ^ n
def KpB(nd fd:Addr)(H H':Hp):Prop:=(∀b o,b≠nd->b≠fd->H b=some o->H' b=some o)/\∀o u,H nd=some (.frz o u)->H' nd=some (.frz o u)
theorem KpB.refl{fd:Addr}:KpB nd fd H H:=⟨fun _ _ _ _ e=>e,fun _ _ e=>e⟩
theorem KpB.trans{fd:Addr}{H1 H2:Hp}(a:KpB nd fd H H1)(b:KpB nd fd H1 H2):KpB nd fd H H2:=⟨fun c o x y e=>b.1 c o x y (a.1 c o x y e),fun o u e=>b.2 o u (a.2 o u e)⟩
theorem KpB.same{fd:Addr}(s:Yc H H'):KpB nd fd H H':=⟨fun b o _ _ e=>s b o e,fun o u e=>s _ _ e⟩
theorem BrAt.same{fd:Addr}(r:BrAt K C n ys Yd H p nd fd)(s:Yc H H'):BrAt K C n ys Yd H' p nd fd:=by
 obtain⟨dx,yl,fvs,h1,h2,h3,h4,h5⟩:=r.at_;refine⟨⟨dx,yl,fvs,s _ _ h1,s _ _ h2,?_,s _ _ h4,h5⟩,r.nums,r.n16,r.y16,r.ne,r.ylt⟩
 rcases h3 with h | ⟨o,h⟩
 ·exact .inl (s _ _ h)
 ·exact .inr ⟨o,s _ _ h⟩
theorem Kl{R:Addr->Obj->Hp->Prop}(hn:Rd H nd (.dK Yd))(h:∀o H1,H1 nd=some (.frz o (.dK Yd))->(∀b,b≠nd->H1 b=H b)->(∀o' u,H nd=some (.frz o' u)->H1 nd=some (.frz o' u))->R nd o H1):Ep (.ref nd) H R:=by
 rcases hn with e | ⟨o,e⟩
 ·exact .inl ⟨Yd,e,fun o=>h o _ AD (fun b hb=>AI hb) fun o' u z=>by rw[e]at z;cases z⟩
 ·exact .inr ⟨Yd,o,e,h o H e (fun _ _=>rfl) fun _ _ z=>z⟩
theorem BrAt.held{H1:Hp}{fd:Addr}{o:Obj}(r:BrAt K C n ys Yd H p nd fd)(h1:H1 nd=some (.frz o (.dK Yd)))(h2:∀b,b≠nd->H1 b=H b):BrAt K C n ys Yd H1 p nd fd:=by
 obtain⟨dx,yl,fvs,k1,k2,k3,k4,k5⟩:=r.at_
 have no:∀{b:Addr} {u:HO},H b=some u->(u≠.dK Yd/\∀o,u≠.frz o (.dK Yd))->b≠nd:=fun hb hu z=>by
  subst z
  rcases k3 with z | ⟨o,z⟩
  ·rw[hb]at z;exact hu.1 (ZS z)
  ·rw[hb]at z;exact hu.2 o (ZS z)
 exact⟨⟨dx,yl,fvs,by rw[h2 p (no k1 ⟨(fun z=>nomatch z),(fun _ z=>nomatch z)⟩)];exact k1,by rw[h2 yl (no k2 ⟨(fun z=>nomatch z),(fun _ z=>nomatch z)⟩)];exact k2,.inr ⟨o,h1⟩,by rw[h2 fd (Ne.symm r.ne)];exact k4,k5⟩,r.nums,r.n16,r.y16,r.ne,r.ylt⟩
theorem BrAt.put{fvs':List (Key × V)}{fd:Addr}(r:BrAt K C n ys Yd H p nd fd)(m:FMemo n Yd fvs'):BrAt K C n ys Yd (upd H fd (.dK fvs')) p nd fd:=by
 obtain⟨dx,yl,fvs,k1,k2,k3,k4,k5⟩:=r.at_;refine⟨⟨dx,yl,fvs',?_,?_,?_,AD,m⟩,r.nums,r.n16,r.y16,r.ne,r.ylt⟩
 ·rw[AI (BO k1 k4 (by intro z;cases z))];exact k1
 ·rw[AI (BO k2 k4 (by intro z;cases z))];exact k2
 ·rcases k3 with z | ⟨o,z⟩
  ·exact .inl (by rw[AI r.ne];exact z)
  ·exact .inr ⟨o,by rw[AI r.ne];exact z⟩
def inF(U:Nat)(e:Key × V):Option Int:=match e with
 | (Sum.inl z,.int k)=>if z.toNat &&& U=z.toNat then some k else none
 | _=>none
theorem Hb{k:Int}:inF U (kN S,.int k)=if S &&& U=S then some k else none:=by
 show(if (S:Int).toNat &&& U=(S:Int).toNat then some k else none)=_
 rw[Zm]
theorem SJ(h:NumsOk n Yd){m:Int}:Ax Yd U m ↔ ∃k∈Yd.filterMap (inF U),m<=k:=by
 constructor
 ·rintro⟨S,k,h1,h2,h3⟩;exact⟨k,ZB1.mpr ⟨_,h1,by rw[Hb,if_pos h2]⟩,h3⟩
 ·rintro⟨k,hk,h3⟩;obtain⟨e,he,hf⟩:=ZB1.mp hk;obtain⟨S,k',rfl,_,_⟩:=h.ok e he;rw[Hb]at hf
  by_cases z:S &&& U=S
  ·rw[if_pos z]at hf;cases hf;exact⟨S,_,he,z,h3⟩
  ·rw[if_neg z]at hf;cases hf
theorem SH(h:NumsOk n Yd){M:Int}(h0:Yd.filterMap (inF U)=[]->M=0)(h1:Yd.filterMap (inF U)≠[]->M∈Yd.filterMap (inF U)/\∀a∈Yd.filterMap (inF U),a<=M):Dk Yd U M:=fun m hm=>by
 rw[SJ h]
 by_cases e:Yd.filterMap (inF U)=[]
 ·rw[e,h0 e];constructor
  ·intro;lia
  ·rintro⟨k,hk,_⟩;cases hk
 ·obtain⟨a1,a2⟩:=h1 e;exact⟨fun z=>⟨M,a1,z⟩,fun⟨k,hk,z⟩=>Int.le_trans z (a2 k hk)⟩
def DW(K:W.Frag)(C:Addr):Sp:=fun vs H Q _=>match vs with
 | [.ref p,.int z]=>∃n ys Yd nd fd U,BrAt K C n ys Yd H p nd fd/\z=(U:Nat)/\U < 2 ^ n/\∀(g:Int) H',Dk Yd U g->KpB nd fd H H'->BrAt K C n ys Yd H' p nd fd->Q (.int g) H'
 | _=>False
theorem UL:AM (DW K C):=fun vs H Q Q' E h q=>by
 unfold DW at *;walk_at "q"
theorem Sb:Xb P w mg base T.z17 2 (DW K T.C_Bearing):=by
 refine T.z17.F.ok sc_z17 (fun vs H Q E h=>by unfold DW at h;walk_at "e") ?_;walk_at "f";have mo1:AM DZ:=Of;unfold DW at h;walk_at "g"
 rename_i p z;obtain⟨n,ys,Yd,nd,fd,U,R,e1,hT,q⟩:=h;subst e1;obtain⟨dx,yl,fvs,h1,h2,h3,h4,h5⟩:=id R.at_;refine⟨_,(@AF _ _ _ _ _ (@Am _ _ _ _ _ _ _ _ (AV (Fd hu) (vv 1) (BE T.cl_Bearing T.na_Bearing_found (vv 0))) (@AF _ _ _ _ _ (@He _ _ _ _ _ _ _ (["each","number","things"]) 2 [1] _ _ _ _ 2 _ _ _ rfl sc_z17.nd rfl rfl (Ih (BE T.cl_Bearing T.na_Bearing_numbers (vv 0))) (by kernel_rfl) rfl rfl (by kernel_rfl) (fun c=>Dy (K:=K) (n:=2) rfl (BP (AQ (i:=0) (show(["each","number","things"]:List Str).Nodup by decide +kernel) rfl (by right)) (BP (AQ (i:=1) (show(["each","number","things"]:List Str).Nodup by decide +kernel) rfl (by right)) Cf))) (D6 (Bu BG (DG BG Bo) (Af (by decide)) (Bu BG Bo (Af (by decide)) Dm))) (fun c=>CD (Az (AL (@J1 P w K mg base T) (hr.mono (show 1<=_ by decide)) rfl T.z66.m T.z66.F.kp T.z66.b .nil AH (AA (vv 0) (AA (vv 2) AB))))) (fun c=>(vv 1)) (by rfl) (by intro _;rfl)) (@AG _ _ _ (@Ez _ _ _ _ _ _ _ _ _ (CG hu) (BE T.cl_Bearing T.na_Bearing_found (vv 0)) (vv 1) (L9 (K:=K) (vv 2) T.z_max rfl) (by rfl)))) Aq) (@AG _ _ _ (@AK _ _ _ _ (JC (CG hu) (BE T.cl_Bearing T.na_Bearing_found (vv 0)) (vv 1) (by intro _ _;rfl))))),?_⟩;refine Aj (fun σ H'=>∃(z2:Option V) (fvs':List (Key × V)) (g:Int),σ=[some (.ref p),some (.int (U:Nat)),z2]/\BrAt K T.C_Bearing n ys Yd H' p nd fd/\KpB nd fd H H'/\H' fd=some (.dK fvs')/\valV fvs' (kN U)=some (.int g)/\Dk Yd U g) ?_ ?_ (by walk_at "sm")
 ·refine⟨dx,_,_,h1,lb3 _ _ _,valV fvs (kN U),DGet.k (k:=kN U) h4,?_⟩;cases e:valV fvs (kN U) with
  | some v =>
   obtain⟨g,rfl,hg⟩:=h5.get e;exact⟨none,fvs,g,rfl,R,KpB.refl,h4,e,hg⟩
  | none =>
   refine⟨dx,_,_,h1,lb2 _ _ _,Kl h3 fun o H1 a1 a2 a3=>?_⟩;have R1:=R.held a1 a2;have kp1:KpB nd fd H H1:=⟨fun b u hb _ e=>by rw[a2 b hb];exact e,a3⟩;refine K6 (Yd:=Yd) (fun j zs H'=>Yc H1 H'/\zs=((Yd.take j).filterMap (inF U)).map V.int) ⟨Yc.refl _,rfl⟩ (fun j zs H' _ ⟨s1,_⟩=>s1 _ _ a1) (fun j zs H' hj ⟨_,e⟩=>?_) ?_ ?_
   ·have l1:=Gu R.nums.nd (fun e he=>by obtain⟨S,k,h1,h2,_⟩:=R.nums.ok e he;exact⟨S,_,h1,h2⟩) R.n16;rw[e,ZC];refine ZB2 (List.length_filterMap_le _ _) ?_;rw[Zf];have e:sizeLine=16777216:=by decide
    lia
   ·rintro j r pp zs H2 hr2 ⟨s2,rfl⟩ npp;obtain⟨S,k,rfl,hS,hk⟩:=R.nums.ok r (Zo hr2);refine⟨pp,_,rfl,.of AD,rfl,_,_,rfl,_,_,rfl,rfl,?_⟩;refine⟨S,U,rfl,rfl,?_⟩;have s3:=s2.trans (Yc.upd (o:=.tup [kV (kN S),V.int k]) npp)
    have et:(Yd.take (j+1)).filterMap (inF U)=(Yd.take j).filterMap (inF U)++(if S &&& U=S then [k] else []):=by
     rw[Zr,hr2,List.filterMap_append]
     congr 1
     show List.filterMap (inF U) [(kN S,.int k)]=_;rw[ZBb,Hb]
     by_cases z:S &&& U=S
     ·rw[if_pos z,if_pos z];rfl
     ·rw[if_neg z,if_neg z];rfl
    rw[et]
    by_cases z:S &&& U=S
    ·rw[if_pos z];show if decide (S &&& U=S)=true then _ else _
     rw[if_pos (ZL z)];exact⟨s3,by rw[ZR];rfl⟩
    ·rw[if_neg z];show if decide (S &&& U=S)=true then _ else _
     rw[if_neg (fun y=>z (ZM y))];exact⟨s3,by rw[Zj]⟩
   ·rintro zs H2 ⟨s2,rfl⟩ l nl;rw[Zv];have s3:=s2.trans (Yc.upd (o:=.lst ((Yd.filterMap (inF U)).map V.int)) nl);have g3:=AD (H:=H2) (a:=l) (o:=.lst ((Yd.filterMap (inF U)).map V.int));generalize upd H2 l (.lst ((Yd.filterMap (inF U)).map V.int))=H3 at *;have R3:=R1.same s3;obtain⟨dx3,yl3,fvs3,b1,b2,b3,b4,b5⟩:=id R3.at_;refine⟨l,_,rfl,.of g3,fun M m0 m1=>?_⟩;have hg:=SH R.nums m0 m1;have Yk:=Gu b5.nd (fun e he=>by obtain⟨S,k,h1,h2,_⟩:=b5.ok e he;exact⟨S,_,h1,h2⟩) R.n16;refine⟨dx3,_,_,b1,lb3 _ _ _,fd,_,rfl,DPut.k (k:=kN U) b4 Yk,?_⟩;refine⟨_,_,M,rfl,R3.put (b5.put hT hg),kp1.trans ((KpB.same s3).trans ⟨fun b o x y e=>by rw[AI y];exact e,fun o u e=>by rw[AI R.ne];exact e⟩),AD,(IV fvs3 (kN U) (kN U) _).trans (if_pos rfl),hg⟩
 ·rintro σ H1 ⟨z2,fvs',g,rfl,R1,k1,f1,v1,g1⟩;obtain⟨dx1,yl1,fvs1,b1,_⟩:=id R1.at_;refine⟨dx1,_,_,b1,lb3 _ _ _,fd,.int g,rfl,?_,q g H1 g1 k1 R1⟩;rw[<- v1];exact DGet.k (k:=kN U) f1
def Er(K:W.Frag)(C:Addr):Sp:=fun vs H Q _=>match vs with
 | [.ref p,.int z,.int m]=>∃n ys Yd nd fd U,BrAt K C n ys Yd H p nd fd/\z=(U:Nat)/\U < 2 ^ n/\1<=m/\∀(b:Bool) H',(b=true ↔ Ax Yd U m)->KpB nd fd H H'->BrAt K C n ys Yd H' p nd fd->Q (.bl b) H'
 | _=>False
theorem Vw:AM (Er K C):=fun vs H Q Q' E h q=>by
 unfold Er at *;walk_at "q"
theorem Mt(h:Rd H a (.dK Yd)):IsD H a:=.inl ⟨Yd,h⟩
theorem MW{k:Key}(h:Rd H a (.dK Yd)):DGet H a (kV k) (valV Yd k):=.inl ⟨Yd,k,h,rfl,rfl⟩
theorem WK:Xb P w mg base T.z24 3 (Er K T.C_Bearing):=by
 refine T.z24.F.ok Qt (fun vs H Q E h=>by unfold Er at h;walk_at "e") ?_;walk_at "f";have mo1:AM (DW K T.C_Bearing):=UL
 match vs,h with
 | [.ref p,.int z,.int m],⟨n,ys,Yd,nd,fd,U,R,e1,hT,hm,q⟩ =>
 subst e1;obtain⟨dx,yl,fvs,h1,h2,h3,h4,h5⟩:=id R.at_;refine⟨_,(@AG _ _ _ (@AK _ _ _ _ (HG (BN FK (KD (CG hu) (BE T.cl_Bearing T.na_Bearing_numbers (vv 0)) (vv 1) AC ⟨by rfl,by rfl,by rfl,by rfl⟩) (vv 2)) (CA (BN FK (An (vv 0) T.cl_Bearing T.z17.m (@Sb P w K mg base T) (hr.mono (show 2<=_ by decide)) T.z17.b .nil AH (AA (vv 1) AB)) (vv 2)))))),?_⟩;refine⟨dx,_,_,h1,lb2 _ _ _,nd,rfl,Mt h3,valV Yd (kN U),MW (k:=kN U) h3,?_⟩;cases e:valV Yd (kN U) with
 | none =>
  have e0:¬decide (m<=(0:Int))=true:=fun z=>by have:=ZM z;lia
  show if decide (m<=(0:Int))=true then _ else _
  rw[if_neg e0];refine⟨p,dx,_,rfl,h1,nb3 _ _ _,n,ys,Yd,nd,fd,U,R,rfl,hT,fun g H1 hg kp R1=>q _ H1 ?_ kp R1⟩;rw[decide_eq_true_iff];exact hg m hm
 | some v =>
  obtain⟨S,k,ee,_,hk⟩:=R.nums.ok _ (Du e);have e2:v=V.int k:=congrArg Prod.snd ee;subst e2;refine AY (fun z=>?_) (fun z=>?_)
  ·exact q true H ⟨fun _=>⟨U,k,Du e,Nat.and_self U,ZM z⟩,fun _=>rfl⟩ KpB.refl R
  ·refine⟨p,dx,_,rfl,h1,nb3 _ _ _,n,ys,Yd,nd,fd,U,R,rfl,hT,fun g H1 hg kp R1=>q _ H1 ?_ kp R1⟩;rw[decide_eq_true_iff];exact hg m hm
def EH(K:W.Frag)(C:Addr):Sp:=fun vs H Q _=>match vs with
 | [.ref p,.int z,.int m,.int v]=>∃n ys Yd nd fd U y,BrAt K C n ys Yd H p nd fd/\z=(U:Nat)/\U < 2 ^ n/\2<=m/\v=(y:Nat)/\∀(b:Bool) H',(b=true ↔ Ax Yd (U &&& y) (m - 1)\/Ax Yd (U - (U &&& y)) (m - 1))->KpB nd fd H H'->BrAt K C n ys Yd H' p nd fd->Q (.bl b) H'
 | _=>False
theorem Sk:AM (EH K C):=fun vs H Q Q' E h q=>by
 unfold EH at *;walk_at "q"
theorem Ob:Xb P w mg base T.z32 4 (EH K T.C_Bearing):=by
 have G_z24:=@WK P w K mg base T;refine T.z32.F.ok sc_z32 (fun vs H Q E h=>by unfold EH at h;walk_at "e") ?_;walk_at "f";have hr_z24:=hr.mono (show 3<=_ by decide);have mo1:AM (Er K T.C_Bearing):=Vw;unfold EH at h;walk_at "g"
 rename_i p z m v;obtain⟨n,ys,Yd,nd,fd,U,y,R,e1,hT,hm,e2,q⟩:=h;subst e1 e2;refine⟨_,(@AF _ _ _ _ _ (@AN _ _ 4 _ _ _ _ sc_z32.nd rfl (by right) (AW FB (vv 1) (vv 3)) (by rfl) (by walk_at "i")) (@AG _ _ _ (@AK _ _ _ _ (HG (An (vv 0) T.cl_Bearing T.z24.m G_z24 hr_z24 T.z24.b .nil AH (AA (vv 4) (AA (AW DD (vv 2) AC) AB))) (CA (An (vv 0) T.cl_Bearing T.z24.m G_z24 hr_z24 T.z24.b .nil AH (AA (AW DD (vv 1) (vv 4)) (AA (AW DD (vv 2) AC) AB)))))))),?_⟩;obtain⟨dx,yl,fvs,h1,h2,h3,h4,h5⟩:=id R.at_;have hle:=ZBs (n:=U) (m:=y);refine Aj (fun σ H'=>σ=[some (.ref p),some (.int (U:Nat)),some (.int m),some (.int (y:Nat)),some (.int ((U &&& y:Nat):Int))]/\H=H') ?_ ?_ (by walk_at "sm")
 ·refine⟨?_,rfl⟩;show [some (V.ref p),some (V.int (U:Nat)),some (V.int m),some (V.int (y:Nat)),some (V.int (Builtin.bitAnd (U:Int) (y:Int)))]=_;rw[FI]
 rintro σ _ ⟨rfl,rfl⟩;refine⟨p,dx,_,rfl,h1,nb2 _ _ _,n,ys,Yd,nd,fd,U &&& y,R,rfl,by lia,by lia,fun b1 H1 hb1 kp1 R1=>?_⟩;refine AY (fun z=>?_) (fun z=>?_)
 ·exact q true H1 ⟨fun _=>.inl (hb1.mp z),fun _=>rfl⟩ kp1 R1
 ·obtain⟨dx1,yl1,fvs1,k1,_⟩:=id R1.at_;refine⟨p,dx1,_,rfl,k1,nb2 _ _ _,n,ys,Yd,nd,fd,U - (U &&& y),R1,by show(U:Int) - ((U &&& y:Nat):Int)=_;lia,by lia,by lia,fun b2 H2 hb2 kp2 R2=>q b2 H2 ?_ (kp1.trans kp2) R2⟩;rw[hb2];exact⟨.inr,fun h=>h.resolve_left fun x=>z (hb1.mpr x)⟩
def EK(K:W.Frag)(C:Addr):Sp:=fun vs H Q _=>match vs with
 | [.ref p]=>∃n ys Yd nd fd,BrAt K C n ys Yd H p nd fd/\∀(b:Bool) H',(b=true ↔ ∀(U:Nat) (m:Int),(kN U,V.int m)∈Yd->1 < m->∀y∈ys,Ax Yd (U &&& y) (m - 1)\/Ax Yd (U - (U &&& y)) (m - 1))->KpB nd fd H H'->Q (.bl b) H'
 | _=>False
theorem O1:AM (EK K C):=fun vs H Q Q' E h q=>by
 unfold EK at *;walk_at "q"
theorem OV:Xb P w mg base T.z26 5 (EK K T.C_Bearing):=by
 refine T.z26.F.ok sc_z26 (fun vs H Q E h=>by unfold EK at h;walk_at "e") ?_;walk_at "f";have mo1:AM (EH K T.C_Bearing):=Sk;unfold EK at h;walk_at "g"
 rename_i p;obtain⟨n,ys,Yd,nd,fd,R,q⟩:=h;obtain⟨dx,yl,fvs,h1,h2,h3,h4,h5⟩:=id R.at_;refine⟨_,(@AF _ _ _ _ _ (@Be _ _ _ _ _ _ _ _ PassesOwn.never rfl (Ih (BE T.cl_Bearing T.na_Bearing_numbers (vv 0))) (HQ (K:=K) (n:=2) rfl (BP (AQ (i:=1) sc_z26.nd rfl (by right)) (BP (AQ (i:=2) sc_z26.nd rfl (by right)) Cf))) (@AG _ _ _ (@Am _ _ _ _ _ _ _ _ (PW.pt (Bm (AV Bg (vv 2) AC) (Bq (By (Az (AZ (IA (K:=K) rfl) rfl T.z_all (by rfl) (AA (Ao (N':=["yes","self","things","number"]) (own:=1) (ix:=[0,1,2]) rfl (BA (K:=K) (BE T.cl_Bearing T.na_Bearing_yeses (vv 0))) (by kernel_rfl) rfl rfl (by kernel_rfl) (fun c=>AQ (i:=0) (show(["yes","self","things","number"]:List Str).Nodup by decide +kernel) rfl (by right)) (Af (by decide)) (fun c=>BB) (fun c=>(An (vv 1) T.cl_Bearing T.z32.m (@Ob P w K mg base T) (hr.mono (show 4<=_ by decide)) T.z32.b .nil AH (AA (vv 2) (AA (vv 3) (AA (vv 0) AB)))))) AB))))))) (@AG _ _ _ (@AK _ _ _ _ Av)) Aq)) (by intro _;rfl)) (@AG _ _ _ (@AK _ _ _ _ Av))),?_⟩;refine Aj (fun σ H'=>KpB nd fd H H'/\∀(U:Nat) (m:Int),(kN U,V.int m)∈Yd->1 < m->∀y∈ys,Ax Yd (U &&& y) (m - 1)\/Ax Yd (U - (U &&& y)) (m - 1)) ?_ (fun σ H' ⟨kp,hall⟩=>q true H' ⟨fun _=>hall,fun _=>rfl⟩ kp) (by walk_at "sm");refine⟨dx,_,_,h1,lb2 _ _ _,Kl h3 fun o H1 a1 a2 a3=>?_⟩;have R1:=R.held a1 a2;have kp1:KpB nd fd H H1:=⟨fun b u hb _ e=>by rw[a2 b hb];exact e,a3⟩;refine Se (Yd:=Yd) (fun j σ H'=>(∃z1 z2:Option V,σ=[some (.ref p),z1,z2])/\KpB nd fd H H'/\H' nd=some (.frz o (.dK Yd))/\BrAt K T.C_Bearing n ys Yd H' p nd fd/\∀(U:Nat) (m:Int),(kN U,V.int m)∈Yd.take j->1 < m->∀y∈ys,Ax Yd (U &&& y) (m - 1)\/Ax Yd (U - (U &&& y)) (m - 1)) ⟨⟨_,_,rfl⟩,kp1,a1,R1,fun U m hm=>by rw[List.take_zero]at hm;cases hm⟩ (fun j σ H' _ ⟨_,_,e,_⟩=>e) ?_ (fun σ H' ⟨_,kp,_,_,hall⟩=>⟨kp,by rw[Zv]at hall;exact hall⟩);rintro j r pp σ H2 hr2 ⟨⟨z1,z2,rfl⟩,kp2,f2,R2,hall⟩ npp;obtain⟨U,m,rfl,hU,hm1⟩:=R.nums.ok r (Zo hr2);have s3:=Yc.upd (o:=.tup [kV (kN U),V.int m]) npp;have hmem:(kN U,V.int m)∈Yd:=Zo hr2;have R3:=R2.same s3;have kp3:=kp2.trans (KpB.same s3);have f3:=s3 _ _ f2;refine⟨_,.inr (.of AD),rfl,_,_,rfl,_,_,rfl,rfl,?_⟩
 have hstep:∀H4,(1 < m->∀y∈ys,Ax Yd (U &&& y) (m - 1)\/Ax Yd (U - (U &&& y)) (m - 1))->KpB nd fd H H4->H4 nd=some (.frz o (.dK Yd))->BrAt K T.C_Bearing n ys Yd H4 p nd fd->(∃z1 z2:Option V,[some (V.ref p),some (V.int (U:Nat)),some (V.int m)]=[some (V.ref p),z1,z2])/\KpB nd fd H H4/\H4 nd=some (.frz o (.dK Yd))/\BrAt K T.C_Bearing n ys Yd H4 p nd fd/\∀(U:Nat) (m:Int),(kN U,V.int m)∈Yd.take (j+1)->1 < m->∀y∈ys,Ax Yd (U &&& y) (m - 1)\/Ax Yd (U - (U &&& y)) (m - 1):=by
  intro H4 hh kp4 f4 R4;refine⟨⟨_,_,rfl⟩,kp4,f4,R4,fun U' m' hm'=>?_⟩;rw[Zr,hr2]at hm'
  rcases Ze.mp hm' with x | x
  ·exact hall U' m' x
  ·have x':(kN U',V.int m')=(kN U,V.int m):=by simpa using x
   have e1:kN U'=kN U:=congrArg Prod.fst x';have e2:V.int m'=V.int m:=congrArg Prod.snd x';cases e2;have e3:U'=U:=by injection e1 with z;lia
   subst e3;exact hh
 generalize upd H2 pp (.tup [kV (kN U),V.int m])=H3 at *;refine AY (fun z=>?_) (fun z=>?_)
 ·have hm2:1 < m:=ZM z;obtain⟨dx3,yl3,fvs3,b1,b2,b3,b4,b5⟩:=id R3.at_;refine⟨dx3,_,_,b1,lb1 _ _ _,.inl ⟨⟨_,.of b2⟩,?_⟩⟩;have y16:=R.y16
  refine EE (xs:=iL ys) (fun i zs H'=>∃bs:List Bool,zs=bs.map V.bl/\bs.length=i/\KpB nd fd H3 H'/\H' yl3=some (.lst (iL ys))/\H' nd=some (.frz o (.dK Yd))/\BrAt K T.C_Bearing n ys Yd H' p nd fd/\∀(t:Nat) (y:Nat),t < i->ys[t]? = some y->(bs[t]? = some true ↔ Ax Yd (U &&& y) (m - 1)\/Ax Yd (U - (U &&& y)) (m - 1))) ⟨[],rfl,rfl,KpB.refl,b2,f3,R3,fun t y h=>absurd h (ZBQ _)⟩ (fun i zs H' _ ⟨_,_,_,_,e,_⟩=>.of e) (fun i zs H' hi ⟨bs,e,e2,_⟩=>by
   rw[Ab]at hi;rw[e,ZC,e2];exact Al (by lia)) ?_ ?_
  ·rintro i x zs H4 hx ⟨bs,rfl,hbl,kp4,y4,f4,R4,hh⟩;obtain⟨y,hy,_,rfl⟩:=Bt hx;obtain⟨dx4,yl4,fvs4,c1,_⟩:=id R4.at_;refine⟨p,dx4,_,rfl,c1,nb1 _ _ _,n,ys,Yd,nd,fd,U,y,R4,rfl,hU,by lia,rfl,fun b H5 hb kp5 R5=>?_⟩;refine⟨bs++[b],by rw[ZR];rfl,by rw[ZU,hbl];rfl,kp4.trans kp5,kp5.1 _ _ (fun z=>by rw[z,f4]at y4;cases y4) (fun z=>?_) y4,kp5.2 _ _ f4,R5,fun t y' ht hy'=>?_⟩
   ·obtain⟨_,_,fvs5,_,_,_,d4,_⟩:=R4.at_;rw[z,d4]at y4;cases y4
   ·rcases Z4 t i with a | a
    ·rw[ZBP (by lia)];exact hh t y' a hy'
    ·have:t=i:=by lia
     subst this;rw[hy]at hy';cases hy';rw[ZBL (by lia),hbl,ZBt];rw[<- hb];simp
  ·rintro zs H4 ⟨bs,rfl,hbl,kp4,y4,f4,R4,hh⟩ l nl;rw[Ab]at hbl hh;refine⟨bs,.of AD,?_⟩;have s5:=Yc.upd (o:=.lst (bs.map V.bl)) nl
   have key:bs.all id=true ↔ ∀y∈ys,Ax Yd (U &&& y) (m - 1)\/Ax Yd (U - (U &&& y)) (m - 1):=by
    rw[ZBH];constructor
    ·intro h y hy;obtain⟨t,ht,rfl⟩:=Zq hy;refine(hh t _ ht (ZE ht)).mp ?_
     have:=h _ (Zk (show t < bs.length by lia))
     rw[ZE (show t < bs.length by lia)];exact congrArg some this
    ·intro h b hb;obtain⟨t,ht,rfl⟩:=Zq hb
     have:=(hh t ys[t] (by lia) (ZE (by lia))).mpr (h _ (Zk (by lia)))
     rw[ZE ht]at this;exact ZS this
   cases hb:bs.all id with
   | true=>exact hstep _ (fun _=>key.mp hb) (kp3.trans (kp4.trans (KpB.same s5))) (s5 _ _ f4) (R4.same s5)
   | false =>
    refine q false _ ⟨(fun z=>nomatch z),fun h=>?_⟩ (kp3.trans (kp4.trans (KpB.same s5)));exact absurd (hb.symm.trans (key.mpr (h U m hmem hm2))) (by decide)
 ·exact hstep _ (fun h=>absurd (ZL h) z) kp3 f3 R3
def Bh(ts:List (List Bool)):List Dv:=ts.map fun b=>.tup (b.map Dv.bl)
def gmD(ls:List Int)(rs:List (List Bool)):Dv:=.tup [.tup (ls.map Dv.int),.tup (Bh rs)]
structure Gm(ls:List Int)(rs:List (List Bool)):Prop where
 l1:1<=ls.length
 l16:ls.length<=16
 r1:1<=rs.length
 r16:rs.length<=16
 row:∀r∈rs,r.length=ls.length
 sm:∀x∈ls,x.natAbs<=100000000000000000000
theorem F0:∀ts:List (List Bool),Ag (Bh ts)=true
 | []=>rfl
 | b::ts=>by
  show Ag (Dv.tup (b.map Dv.bl)::Bh ts)=true;unfold Ag Ar;rw[NV,F0 ts];rfl
theorem OC(ts:List (List Bool)):(Bh ts).length=ts.length:=ZC ..
theorem NX:∀(k:Nat) {ds:List Dv} {xs:List V},Ye K H ds xs->Ye K H (ds.take k) (xs.take k)
 | 0,_,_,_=>by simpa using Ah
 | k+1,[],xs,h=>by unfold Ye at h;subst h;simpa using Ah
 | k+1,d::ds,xs,h=>by
  unfold Ye at h;obtain⟨x,r,rfl,h1,h2⟩:=h;simpa using AR h1 (NX k h2)
theorem Nf:∀(k:Nat) {ds:List Dv} {xs:List V},Ye K H ds xs->Ye K H (ds.drop k) (xs.drop k)
 | 0,_,_,h=>by simpa using h
 | k+1,[],xs,h=>by unfold Ye at h;subst h;simpa using Ah
 | k+1,d::ds,xs,h=>by
  unfold Ye at h;obtain⟨x,r,rfl,h1,h2⟩:=h;simpa using Nf k h2
theorem Lj:∀bs:List Bool,CZ (bs.map Dv.bl)=0
 | []=>by simp[CZ]
 | b::bs=>by
  show CZ (Dv.bl b::bs.map Dv.bl)=_;unfold CZ;rw[Lj bs];rfl
theorem HB{H0:Hp}(f:Yl t H0 H)(hp:H0 p=none):Yl t H0 (upd H p o):=fun b u n e=>by
 rw[AI (BX e hp)];exact f b u n e
def Ak(rb:List Bool)(ans:Bool)(ts:List Nat):List Nat:=ts.filter fun k=>gB rb k == ans
theorem Lk{rb:List Bool}{ans:Bool}(h:ts[i]? = some k):Ak rb ans (ts.take (i+1))=Ak rb ans (ts.take i)++(if (gB rb k == ans)=true then [k] else []):=by
 unfold Ak;rw[Zr,h,ZBj]
 congr 1
 simp only[Option.toList_some,ZBi,ZB0]
theorem LH(rb:List Bool)(ans:Bool)(ts:List Nat):(Ak rb ans ts).length<=ts.length:=ZBk _ _
theorem Go{d1 d2:Dv}(h:Yh K H (.tup [d1,d2]) v):∃a x1 x2,v=.ref a/\Ys K H a [x1,x2]/\Yh K H d1 x1/\Yh K H d2 x2:=by
 obtain⟨a,xs,rfl,hs,hx⟩:=Co h;obtain⟨x1,r1,rfl,hx1,hx'⟩:=(show ∃x r,xs=x::r/\Yh K H d1 x/\Ye K H [d2] r by unfold Ye at hx;exact hx);obtain⟨x2,r2,rfl,hx2,hx''⟩:=(show ∃x r,r1=x::r/\Yh K H d2 x/\Ye K H [] r by unfold Ye at hx';exact hx');obtain rfl:r2=[]:=by unfold Ye at hx'';exact hx''
 exact⟨a,x1,x2,rfl,hs,hx1,hx2⟩
theorem Mh:∀{bs:List Bool} {xs:List V},Ye K H (bs.map Dv.bl) xs->xs=bs.map V.bl
 | [],xs,h=>by unfold Ye at h;exact h
 | b::bs,xs,h=>by
  rw[Zd]at h;unfold Ye at h;obtain⟨x,r,rfl,h1,h2⟩:=h;unfold Yh at h1;rw[h1,Mh h2];rfl
theorem Lc:∀{bs:List Int} {xs:List V},Ye K H (bs.map Dv.int) xs->xs=bs.map V.int
 | [],xs,h=>by unfold Ye at h;exact h
 | b::bs,xs,h=>by
  rw[Zd]at h;unfold Ye at h;obtain⟨x,r,rfl,h1,h2⟩:=h;unfold Yh at h1;rw[h1,Lc h2];rfl
structure GmAt(K:W.Frag)(H:Hp)(ls:List Int)(rs:List (List Bool))(a tl rl:Addr)(ps:List Addr):Prop where
 two:Ys K H a [.ref tl,.ref rl]
 lab:Ys K H tl (ls.map V.int)
 rows:Ys K H rl (ps.map V.ref)
 len:ps.length=rs.length
 row:∀(i:Nat) (q:Addr) (r:List Bool),ps[i]? = some q->rs[i]? = some r->Ys K H q (r.map V.bl)
theorem M7:∀{rs:List (List Bool)} {xs:List V},Ye K H (Bh rs) xs->∃ps:List Addr,xs=ps.map V.ref/\ps.length=rs.length/\∀(i:Nat) (q:Addr) (r:List Bool),ps[i]? = some q->rs[i]? = some r->Ys K H q (r.map V.bl)
 | [],xs,h=>by
  have:xs=[]:=by simpa [Bh,Ye] using h
  exact⟨[],this,rfl,fun i q r z=>by simp at z⟩
 | r::rs,xs,h=>by
  have h':Ye K H (Dv.tup (r.map Dv.bl)::Bh rs) xs:=h;unfold Ye at h';obtain⟨x,ys,rfl,h1,h2⟩:=h';obtain⟨a,zs,rfl,hs,hz⟩:=Co h1;obtain rfl:=Mh hz;obtain⟨ps,rfl,hl,hr⟩:=M7 h2;refine⟨a::ps,rfl,by rw[Zi,Zi,hl],fun i q r' hi hr'=>?_⟩;cases i with
  | zero=>cases hi;cases hr';exact hs
  | succ i=>exact hr i q r' hi hr'
theorem Bd(h:Yh K H (gmD ls rs) v):∃a tl rl ps,v=.ref a/\GmAt K H ls rs a tl rl ps:=by
 obtain⟨a,x1,x2,rfl,hs,h1,h2⟩:=Go h;obtain⟨tl,zs,rfl,hl,hz⟩:=Co h1;obtain rfl:=Lc hz;obtain⟨rl,ws,rfl,hr,hw⟩:=Co h2;obtain⟨ps,rfl,e,hp⟩:=M7 hw;exact⟨a,tl,rl,ps,rfl,hs,hl,hr,e,hp⟩
theorem GmAt.same{rl:Addr}(g:GmAt K H ls rs a tl rl ps)(s:Yc H H'):GmAt K H' ls rs a tl rl ps :=
 ⟨s.sqT g.two,s.sqT g.lab,s.sqT g.rows,g.len,fun i q r x y=>s.sqT (g.row i q r x y)⟩
theorem GmAt.frm{rl:Addr}(g:GmAt K H ls rs a tl rl ps)(f:Yl t H H')(ht:H t=some o)(no:CB o):GmAt K H' ls rs a tl rl ps :=
 ⟨Cg f ht no g.two,Cg f ht no g.lab,Cg f ht no g.rows,g.len,fun i q r x y=>Cg f ht no (g.row i q r x y)⟩
def AS(r:List Bool):Nat:=msk (whr (r.map (· == true)) r.length)
def Cw(ls:List Int)(z:Int):Nat:=msk (whr (ls.map (· == z)) ls.length)
theorem mskR_bit(r:List Bool)(k:Nat):(AS r).testBit k=gB r k:=by
 unfold AS;rw[(Cv (HZ _ _) (fun t ht=>DX ht)).2 k,ZBS,decide_eq_true_eq,Mo]
 by_cases h:k < r.length
 ·have e:gB (r.map (· == true)) k=gB r k:=by
   rw[Ed (x:=r[k]) (ZE h)];unfold gB;rw[ZV,ZE h];simp
  rw[e];simp[h]
 ·have e:gB r k=false:=by unfold gB;rw[ZV,ZB9 (by lia)];rfl
  rw[e];simp[h]
theorem Lm(ls:List Int)(z:Int)(k:Nat):(Cw ls z).testBit k=(decide (k < ls.length) && decide (AE ls k=z)):=by
 unfold Cw;rw[(Cv (HZ _ _) (fun t ht=>DX ht)).2 k,ZBS,decide_eq_true_eq,Mo]
 by_cases h:k < ls.length
 ·have e:gB (ls.map (· == z)) k=decide (AE ls k=z):=by
   rw[Ed (x:=ls[k]) (ZE h)];unfold AE;rw[ZV,ZE h];rfl
  rw[e];simp[h]
 ·simp[h]
theorem KP(rs:List (List Bool)):AX (rs.map AS)=rs.map gB:=by
 unfold AX;rw[ZBJ];apply ZBz;intro r _
 funext k
 exact mskR_bit r k
theorem sub_bits:S &&& m=S ↔ ∀k,S.testBit k=true->m.testBit k=true:=by
 constructor
 ·intro e k hk
  have:(S &&& m).testBit k=true:=by rw[e];exact hk
  rw[Z5,hk]at this;simpa using this
 ·intro h;apply Nat.eq_of_testBit_eq;intro k;rw[Z5];cases e:S.testBit k with
  | false=>rfl
  | true=>rw[h k e];rfl
theorem SW{ms:List Int}(h1:1<=ls.length)(hm:∀z,z∈ms ↔ z∈ls):Kk ls (ms.map (Cw ls)):=by
 intro S hS;rw[List.any_map,ZBM];constructor
 ·rintro⟨z,hz,h⟩ i j hi hj;have h:=sub_bits.mp (ZM h);have a:=h i hi;have b:=h j hj;rw[Lm,ZQ,decide_eq_true_eq,decide_eq_true_eq]at a b;rw[a.2,b.2]
 ·intro o
  by_cases e:∃k,S.testBit k=true
  ·obtain⟨k,hk⟩:=e;have hkl:=Dc hS hk;refine⟨AE ls k,(hm _).mpr ?_,ZL (sub_bits.mpr fun i hi=>?_)⟩
   ·unfold AE;rw[ZV,ZE hkl];exact Zk hkl
   ·rw[Lm,ZL (Dc hS hi),ZL (o i k hi hk)];rfl
  ·cases ls with
   | nil=>simp at h1
   | cons x r=>exact⟨x,(hm _).mpr (by simp),ZL (sub_bits.mpr fun i hi=>absurd ⟨i,hi⟩ e)⟩
def HP(K:W.Frag)(C:Addr):Sp:=fun vs H Q _=>match vs with
 | [.ref p,v]=>∃ls rs dx,H p=some (.ins C dx [])/\Yh K H (gmD ls rs) v/\Gm ls rs/\∀d H',H d=none->RkAt K C ls (rs.map AS) H' p d->Yl p H H'->Q .non H'
 | _=>False
theorem Lz{α:Type}[DecidableEq α]:∀{ds ls:List α},ds.Nodup->(∀z∈ds,z∈ls)->ds.length<=ls.length
 | [],ls,_,_=>ZP _
 | z::ds,ls,nd,h=>by
  obtain⟨h1,h2⟩:=ZBd.mp nd;have hz:z∈ls:=h z (by simp)
  have:=Lz (ds:=ds) (ls:=ls.erase z) h2 (fun x hx=>(List.mem_erase_of_ne (fun e:x=z=>h1 (e ▸ hx))).mpr (h x (ZW _ hx)))
  have e:=List.length_erase_of_mem hz
  have:0 < ls.length:=ZB8 hz
  rw[Zi];lia
theorem Ve(h1:ts.Pairwise (· < ·))(h2:∀t∈ts,t < n):ts.length<=n:=Cj n ts (h1.imp fun h=>ZO h) h2
theorem Sz:Xb P w mg base T.z33 4 (HP K T.C_Reckoner):=by
 have G_z42:=@Lv P w K mg base T;have G_z38:=@PH P w K mg base T;refine T.z33.F.ok PU (fun vs H Q E h=>by unfold HP at h;walk_at "e") ?_;walk_at "f";have hr_z42:=hr.mono (show 3<=_ by decide);have hr_z38:=hr.mono (show 1<=_ by decide);unfold HP at h;walk_at "g"
 rename_i p v;obtain⟨ls,rs,dx,hp,hv,G,q⟩:=h;obtain⟨a,tl,rl,ps,rfl,g⟩:=Bd hv;have l1:=G.l1;have l16:=G.l16;have r16:=G.r16;have hpl:=g.len;refine⟨_,(@AF _ _ _ _ _ (DC T.cl_Reckoner T.na_Reckoner_labels (vv 0) (Bb (CM (K:=K)) rfl T.z_tuple (by rfl) (AA (Yp (K:=K) (vv 1) AC) AB))) (@AF _ _ _ _ _ (DC T.cl_Reckoner T.na_Reckoner_yeses (vv 0) (@Ao _ _ _ _ _ _ _ ["row"] 1 [] _ _ _ _ rfl (BA (K:=K) (Yp (K:=K) (vv 1) AC)) (by kernel_rfl) rfl rfl (by kernel_rfl) (fun c=>AQ (i:=0) (show(["row"]:List Str).Nodup by decide +kernel) rfl (by right)) (Af (by decide)) (fun c=>BB) (fun c=>(AL G_z42 hr_z42 rfl T.z42.m T.z42.F.kp T.z42.b .nil AH (AA (AL G_z38 hr_z38 rfl T.z38.m T.z38.F.kp T.z38.b .nil AH (AA Av (AA (vv 0) AB))) AB))) (by intro _;rfl))) (@AF _ _ _ _ _ (DC T.cl_Reckoner T.na_Reckoner_alike (vv 0) (Ao (N':=["label","self"]) (own:=1) (ix:=[0]) rfl (BA (K:=K) (AZ (VP (P:=P) (w:=w) rfl) rfl T.z_sorted (by rfl) (AA (Bb (Pm (K:=K) (P:=P) (w:=w) rfl) rfl T.z_set (by rfl) (AA (BE T.cl_Reckoner T.na_Reckoner_labels (vv 0)) AB)) AB))) (by kernel_rfl) rfl rfl (by kernel_rfl) (fun c=>AQ (i:=0) (show(["label","self"]:List Str).Nodup by decide +kernel) rfl (by right)) (Af (by decide)) (fun c=>BB) (fun c=>(AL G_z42 hr_z42 rfl T.z42.m T.z42.F.kp T.z42.b .nil AH (AA (AL G_z38 hr_z38 rfl T.z38.m T.z38.F.kp T.z38.b .nil AH (AA (vv 0) (AA (BE T.cl_Reckoner T.na_Reckoner_labels (vv 1)) AB))) AB))))) (@AG _ _ _ (DC T.cl_Reckoner T.na_Reckoner_known (vv 0) FJ))))),?_⟩;refine⟨_,.ref tl,.inr g.two,rfl,_,.inr ⟨g.lab,dx,_,hp,(show 0 < 1000 by decide),?_⟩⟩;have f1:Yl p H (upd H p (.ins T.C_Reckoner dx (AU "labels" (.ref tl) []))):=Yl.updT;have hp1:upd H p (.ins T.C_Reckoner dx (AU "labels" (.ref tl) [])) p=some (.ins T.C_Reckoner dx [("labels",.ref tl)]):=by rw[pf1];exact AD
 have g1:=g.frm f1 hp DU;generalize upd H p (.ins T.C_Reckoner dx (AU "labels" (.ref tl) []))=H1 at *
 -- the rows
 refine⟨_,.ref rl,.inr g1.two,rfl,.inr ⟨⟨_,g1.rows⟩,?_⟩⟩
 refine CT (xs:=ps.map V.ref) (fun k zs H'=>Yc H1 H'/\zs=iL ((rs.take k).map AS)) ⟨Yc.refl _,rfl⟩ (fun k zs H' _ ⟨s,_⟩=>s.sqT g1.rows) (fun k zs H' hk ⟨_,e⟩=>by
  rw[ZC]at hk;rw[e,Ab,ZC,Zf];exact Al (by lia)) ?_ ?_
 ·rintro k x zs H' hx ⟨s1,rfl⟩;rw[ZT]at hx;cases e0:ps[k]? with
  | none=>rw[e0]at hx;cases hx
  | some b =>
   rw[e0]at hx;cases hx;have hk:k < rs.length:=by rw[<- hpl];exact(Zg.mp e0).1
   have er:rs[k]? = some rs[k]:=ZE hk;have hrow:=G.row _ (Zk hk);refine⟨rs[k],s1.sqT (g1.row k b _ e0 er),by lia,fun l H2 hl s2 g2=>?_⟩;refine⟨_,.inl (.of g2),by have:=DY (rs[k].map (· == true)) rs[k].length;lia,fun t ht=>by have:=DX ht;lia,fun H3 s3=>?_⟩;refine⟨s1.trans (s2.trans s3),?_⟩;rw[Zr,er,ZR,BW];rfl
 rintro zs H2' ⟨s1,rfl⟩ yl hyl;rw[ZC,hpl,Zv];have s2:Yc H1 (upd H2' yl (.lst (iL (rs.map AS)))):=s1.trans (Yc.upd hyl);have gy2:upd H2' yl (.lst (iL (rs.map AS))) yl=some (.lst (iL (rs.map AS))):=AD;generalize upd H2' yl (.lst (iL (rs.map AS)))=H2 at *;have hp2:=s2 _ _ hp1;have ny:yl≠p:=BO gy2 hp2 (by intro z;cases z);refine⟨dx,_,hp2,(show 1 < 1000 by decide),?_⟩;have f3:Yl p H2 (upd H2 p (.ins T.C_Reckoner dx (AU "yeses" (.ref yl) [("labels",.ref tl)]))):=Yl.updT;have hp3:upd H2 p (.ins T.C_Reckoner dx (AU "yeses" (.ref yl) [("labels",.ref tl)])) p=some (.ins T.C_Reckoner dx [("labels",.ref tl),("yeses",.ref yl)]):=by rw[pf2];exact AD
 have g3:=(g1.same s2).frm f3 hp2 DU;have gy3:=f3 _ _ ny gy2;have F3:Yl p H (upd H2 p (.ins T.C_Reckoner dx (AU "yeses" (.ref yl) [("labels",.ref tl)]))):=f1.trans ((Aw s2).trans f3);generalize upd H2 p (.ins T.C_Reckoner dx (AU "yeses" (.ref yl) [("labels",.ref tl)]))=H3 at *
 -- the labels
 refine⟨dx,_,.ref tl,hp3,by rfl,ls,g3.lab,by lia,fun ds qs nd hmem hqs=>?_⟩;have hdl:ds.length<=ls.length:=Lz nd fun z hz=>(hmem z).mp hz
 refine⟨ds,AD,by lia,fun ms l2 hml hmm _ hl2=>.inl ⟨⟨_,.of AD⟩,?_⟩⟩;have s4:Yc H3 (upd (upd H3 qs (.ext (Cd P w qs ds))) l2 (.lst (ms.map V.int))):=(Yc.upd hqs).trans (Yc.upd hl2);have gl4:upd (upd H3 qs (.ext (Cd P w qs ds))) l2 (.lst (ms.map V.int)) l2=some (.lst (ms.map V.int)):=AD;generalize upd (upd H3 qs (.ext (Cd P w qs ds))) l2 (.lst (ms.map V.int))=H4 at *;have g4:=g3.same s4;have hp4:=s4 _ _ hp3
 refine EE (xs:=ms.map V.int) (fun k zs H'=>Yc H4 H'/\zs=iL ((ms.take k).map (Cw ls))) ⟨Yc.refl _,rfl⟩ (fun k zs H' _ ⟨s,_⟩=>s.sqL (.of gl4)) (fun k zs H' hk ⟨_,e⟩=>by
  rw[ZC]at hk;rw[e,Ab,ZC,Zf];exact Al (by lia)) ?_ ?_
 ·rintro k x zs H' hx ⟨s5,rfl⟩;rw[ZT]at hx;cases e0:ms[k]? with
  | none=>rw[e0]at hx;cases hx
  | some z =>
   rw[e0]at hx;cases hx;refine⟨dx,_,.ref tl,s5 _ _ hp4,by rfl,ls,s5.sqT g4.lab,by lia,fun l H2 hl s6 g2=>?_⟩;refine⟨_,.inl (.of g2),by have:=DY (ls.map (· == z)) ls.length;lia,fun t ht=>by have:=DX ht;lia,fun H3 s7=>?_⟩;refine⟨s5.trans (s6.trans s7),?_⟩;rw[Zr,e0,ZR,BW];rfl
 rintro zs H5' ⟨s5,rfl⟩ al hal;rw[ZC,Zv];have s6:Yc H4 (upd H5' al (.lst (iL (ms.map (Cw ls))))):=s5.trans (Yc.upd hal);have ga6:upd H5' al (.lst (iL (ms.map (Cw ls)))) al=some (.lst (iL (ms.map (Cw ls)))):=AD;generalize upd H5' al (.lst (iL (ms.map (Cw ls))))=H6 at *;have hp6:=s6 _ _ hp4;have na:al≠p:=BO ga6 hp6 (by intro z;cases z);refine⟨dx,_,hp6,(show 2 < 1000 by decide),?_⟩;have f7:Yl p H6 (upd H6 p (.ins T.C_Reckoner dx (AU "alike" (.ref al) [("labels",.ref tl),("yeses",.ref yl)]))):=Yl.updT;have hp7:upd H6 p (.ins T.C_Reckoner dx (AU "alike" (.ref al) [("labels",.ref tl),("yeses",.ref yl)])) p=some (.ins T.C_Reckoner dx [("labels",.ref tl),("yeses",.ref yl),("alike",.ref al)]):=by rw[pf3];exact AD
 have g7:=(g4.same s6).frm f7 hp6 DU;have gy7:=f7 _ _ ny (s6 _ _ (s4 _ _ gy3));have ga7:=f7 _ _ na ga6;have F7:Yl p H (upd H6 p (.ins T.C_Reckoner dx (AU "alike" (.ref al) [("labels",.ref tl),("yeses",.ref yl)]))):=F3.trans ((Aw s4).trans ((Aw s6).trans f7));generalize upd H6 p (.ins T.C_Reckoner dx (AU "alike" (.ref al) [("labels",.ref tl),("yeses",.ref yl)]))=H7 at *
 -- nothing known yet
 intro d hd;have s8:Yc H7 (upd H7 d (.dK [])):=Yc.upd hd;have nd8:d≠p:=fun e=>by rw[e,hp7]at hd;cases hd
 have gd8:upd H7 d (.dK []) d=some (.dK []):=AD
 have hd0:H d=none:=by
  cases e:H d with
  | none=>rfl
  | some o=>rw[F7 d o nd8 e]at hd;cases hd
 generalize upd H7 d (.dK [])=H8 at *;have hp8:=s8 _ _ hp7;refine⟨dx,_,hp8,(show 3 < 1000 by decide),?_⟩;have f9:Yl p H8 (upd H8 p (.ins T.C_Reckoner dx (AU "known" (.ref d) [("labels",.ref tl),("yeses",.ref yl),("alike",.ref al)]))):=Yl.updT;have hp9:upd H8 p (.ins T.C_Reckoner dx (AU "known" (.ref d) [("labels",.ref tl),("yeses",.ref yl),("alike",.ref al)])) p=some (.ins T.C_Reckoner dx (BL (.ref tl) (.ref yl) (.ref al) (.ref d))):=by rw[pf4];exact AD
 refine q d _ hd0 ⟨⟨dx,tl,yl,al,_,[],hp9,((g7.same s8).frm f9 hp8 DU).lab,f9 _ _ ny (s8 _ _ gy7),f9 _ _ na (s8 _ _ ga7),f9 _ _ nd8 gd8,by rw[ZC];lia,SW l1 (fun z=>by rw[hmm z,hmem z]),⟨by simp,fun e he=>by simp at he⟩⟩,l16,by rw[ZC];exact r16⟩ (F7.trans ((Aw s8).trans f9))
theorem Dz(N:Nat)(S:Nat->Bool):As N S<=N:=by
 unfold As
 have:=ZBk S (List.range N)
 rw[ZBB]at this;exact this
abbrev DO:=List (List Nat × Int)
def A4(e:List Nat × Int):Dw:=.tup [.tup (e.1.map fun(t:Nat)=>Dw.int (t:Int)),.int e.2]
structure EntOk(n:Nat)(e:List Nat × Int):Prop where
 up:e.1.Pairwise (· < ·)
 lt:∀t∈e.1,t < n
 one:1<=e.2
structure NumsOf(n:Nat)(es:DO)(Yd:List (Key × V)):Prop extends NumsOk n Yd where
 fro:∀(S:Nat) (k:Int),(kN S,V.int k)∈Yd->∃e∈es,S=msk e.1/\k=e.2
 to_:∀e∈es,∃k:Int,(kN (msk e.1),V.int k)∈Yd/\e.2<=k
theorem NumsOf.put(h:NumsOf n es Yd){e:List Nat × Int}(he:EntOk n e){k0:Int}(hk:(valV Yd (kN (msk e.1))=none/\k0=0)\/valV Yd (kN (msk e.1))=some (.int k0)) :
 NumsOf n (es++[e]) (Ae Yd (kN (msk e.1)) (.int (max k0 e.2))):=by
 obtain⟨hS,_⟩:=Cv he.up he.lt;have one:=he.one;refine⟨⟨Ka h.nd,fun x hx=>?_⟩,fun S k hx=>?_,fun x hx=>?_⟩
 ·rcases put_mem hx with rfl | ⟨q,_⟩
  ·exact⟨_,_,rfl,hS,by lia⟩
  ·exact h.ok x q
 ·rcases put_mem hx with q | ⟨q,_⟩
  ·have e1:kN S=kN (msk e.1):=congrArg Prod.fst q;have e2:V.int k=V.int (max k0 e.2):=congrArg Prod.snd q;have e3:S=msk e.1:=by injection e1 with z;lia
   cases e2
   by_cases z:k0<=e.2
   ·exact⟨e,by simp,e3,by lia⟩
   ·rcases hk with ⟨_,y⟩ | y
    ·lia
    ·obtain⟨x,hx1,hx2,hx3⟩:=h.fro _ _ (Du y);exact⟨x,Zt _ hx1,by lia,by lia⟩
  ·obtain⟨x,hx1,hx2⟩:=h.fro S k q;exact⟨x,Zt _ hx1,hx2⟩
 ·rcases Ze.mp hx with q | q
  ·obtain⟨k,a,b⟩:=h.to_ x q
   by_cases z:kN (msk x.1)=kN (msk e.1)
   ·rw[z]at a ⊢;refine⟨_,Kc,?_⟩
    have:=Ss h.nd a
    rcases hk with ⟨y,_⟩ | y
    ·rw[y]at this;cases this
    ·rw[y]at this;cases this;lia
   ·exact⟨k,Sc a z,b⟩
  ·have:x=e:=by simpa using q
   subst this;exact⟨_,Kc,by lia⟩
def MX(K:W.Frag)(H:Hp)(e:List Nat × Int)(x:V):Prop:=∃b c,x=.ref b/\Ys K H b [.ref c,.int e.2]/\Ys K H c (iL e.1)
structure EntsAt(K:W.Frag)(H:Hp)(es:DO)(ua:Addr)(xs:List V):Prop where
 sq:Ys K H ua xs
 len:xs.length=es.length
 at_:∀(i:Nat) (e:List Nat × Int),es[i]? = some e->∃x,xs[i]? = some x/\MX K H e x
theorem KB:∀{ts:List Nat} {xs:List V},Yn K H (ts.map fun(t:Nat)=>Dw.int (t:Int)) xs->xs=iL ts
 | [],xs,h=>by unfold Yn at h;exact h
 | t::ts,xs,h=>by
  rw[Zd]at h;unfold Yn at h;obtain⟨x,r,rfl,h1,h2⟩:=h;unfold Yq at h1;rw[h1,KB h2];rfl
theorem Mi{e:List Nat × Int}{x:V}(h:Yq K H (A4 e) x):MX K H e x:=by
 obtain⟨b,xs,rfl,hb,hx⟩:=DL h;unfold Yn at hx;obtain⟨x0,l0,rfl,r0,hx⟩:=hx;unfold Yn at hx;obtain⟨x1,l1,rfl,r1,hx⟩:=hx;unfold Yn at hx;subst hx;obtain⟨c,zs,rfl,hc,hz⟩:=DL r0;unfold Yq at r1;subst r1;rw[KB hz]at hc;exact⟨b,c,rfl,hb,hc⟩
theorem MF{u:V}(h:Yq K H (.tup (es.map A4)) u):∃ua xs,u=.ref ua/\EntsAt K H es ua xs:=by
 obtain⟨ua,xs,rfl,hs,hx⟩:=DL h;refine⟨ua,xs,rfl,hs,by rw[<- hx.length,ZC],fun i e he=>?_⟩;obtain⟨x,h1,h2⟩:=hx.get (i:=i) (d:=A4 e) (by rw[ZT,he];rfl);exact⟨x,h1,Mi h2⟩
theorem EntsAt.same{ua:Addr}(h:EntsAt K H es ua xs)(s:Yc H H'):EntsAt K H' es ua xs:=⟨s.sqT h.sq,h.len,fun i e he=>by
 obtain⟨x,h1,b,c,h2,h3,h4⟩:=h.at_ i e he;exact⟨x,h1,b,c,h2,s.sqT h3,s.sqT h4⟩⟩
theorem EntsAt.frm{ua:Addr}(h:EntsAt K H es ua xs)(f:Yl d H H')(hd:H d=some o)(no:CB o):EntsAt K H' es ua xs:=⟨Cg f hd no h.sq,h.len,fun i e he=>by
 obtain⟨x,h1,b,c,h2,h3,h4⟩:=h.at_ i e he;exact⟨x,h1,b,c,h2,Cg f hd no h3,Cg f hd no h4⟩⟩
def D7(K:W.Frag)(C:Addr):Sp:=fun vs H Q _=>match vs with
 | [.ref p,v,u]=>∃ls rs dx es,H p=some (.ins C dx [])/\Yh K H (gmD ls rs) v/\Gm ls rs/\Yq K H (.tup (es.map A4)) u/\(∀e∈es,EntOk ls.length e)/\es.length<=100000/\∀Yd nd fd H',H nd=none->H fd=none->nd≠p->fd≠p->NumsOf ls.length es Yd->BrAt K C ls.length (rs.map AS) Yd H' p nd fd->Yl p H H'->Q .non H'
 | _=>False
theorem Nk:AM (D7 K C):=fun vs H Q Q' E h q=>by
 unfold D7 at *;walk_at "q"
theorem O0:Xb P w mg base T.z36 4 (D7 K T.C_Bearing):=by
 have G_z42:=@Lv P w K mg base T;refine T.z36.F.ok sc_z36 (fun vs H Q E h=>by unfold D7 at h;walk_at "e") ?_;walk_at "f";have hr_z42:=hr.mono (show 3<=_ by decide);have mo1:AM (Dp K):=OX;unfold D7 at h;walk_at "g"
 rename_i p v u;obtain⟨ls,rs,dx,es,hp,hv,G,hes,hok,hel,q⟩:=h;obtain⟨a,tl,rl,ps,rfl,g⟩:=Bd hv;have l16:=G.l16;have r16:=G.r16;have hpl:=g.len;refine⟨_,(@AF _ _ _ _ _ (DC T.cl_Bearing T.na_Bearing_yeses (vv 0) (Ao (N':=["row"]) (own:=1) (ix:=[]) rfl (BA (K:=K) (Yp (K:=K) (vv 1) AC)) (by kernel_rfl) rfl rfl (by kernel_rfl) (fun c=>AQ (i:=0) (show(["row"]:List Str).Nodup by decide +kernel) rfl (by right)) (Af (by decide)) (fun c=>BB) (fun c=>(AL G_z42 hr_z42 rfl T.z42.m T.z42.F.kp T.z42.b .nil AH (AA (Ao (N':=["each","answer"]) (own:=2) (ix:=[]) rfl (HU (K:=K) rfl T.z_enumerate (AA (vv 0) AB)) (by kernel_rfl) rfl rfl (by kernel_rfl) (fun c=>Dy (K:=K) (n:=2) rfl (BP (AQ (i:=0) (show(["each","answer"]:List Str).Nodup by decide +kernel) rfl (by right)) (BP (AQ (i:=1) (show(["each","answer"]:List Str).Nodup by decide +kernel) rfl (by right)) Cf))) (D6 (Bu BG (DG BG Bo) (Af (by decide)) (Bu BG Bo (Af (by decide)) Dm))) (fun c=>CD (Az (vv 1))) (fun c=>(vv 0))) AB))))) (@AF _ _ _ _ _ (DC T.cl_Bearing T.na_Bearing_numbers (vv 0) FJ) (@AF _ _ _ _ _ (DC T.cl_Bearing T.na_Bearing_found (vv 0) FJ) (@AG _ _ _ (@Be _ _ _ _ _ _ _ _ PassesOwn.never rfl (BA (K:=K) (vv 2)) (AQ (i:=3) sc_z36.nd rfl (by right)) (@AF _ _ _ _ _ (@AN _ _ 4 _ _ _ _ sc_z36.nd rfl (by right) (AL G_z42 hr_z42 rfl T.z42.m T.z42.F.kp T.z42.b .nil AH (AA (Yp (K:=K) (vv 3) AC) AB)) (by rfl) (by walk_at "i")) (@AG _ _ _ (@Ez _ _ _ _ _ _ _ _ _ (CG hu) (BE T.cl_Bearing T.na_Bearing_numbers (vv 0)) (vv 4) (AZ (FS rfl) rfl T.z_max (by rfl) (AA (KD (CG hu) (BE T.cl_Bearing T.na_Bearing_numbers (vv 0)) (vv 4) AC ⟨by rfl,by rfl,by rfl,by rfl⟩) (AA (Yp (K:=K) (vv 3) AC) AB))) (by rfl)))) (by intro _;rfl)))))),?_⟩;obtain⟨ua,xs,rfl,E0'⟩:=MF hes
 -- the rows
 refine⟨_,.ref rl,.inr g.two,rfl,.inr ⟨⟨_,g.rows⟩,?_⟩⟩
 refine CT (xs:=ps.map V.ref) (fun k zs H'=>Yc H H'/\zs=iL ((rs.take k).map AS)) ⟨Yc.refl _,rfl⟩ (fun k zs H' _ ⟨s,_⟩=>s.sqT g.rows) (fun k zs H' hk ⟨_,e⟩=>by
  rw[ZC]at hk;rw[e,Ab,ZC,Zf];exact Al (by lia)) ?_ ?_
 ·rintro k x zs H' hx ⟨s1,rfl⟩;rw[ZT]at hx;cases e0:ps[k]? with
  | none=>rw[e0]at hx;cases hx
  | some b =>
   rw[e0]at hx;cases hx;have hk:k < rs.length:=by rw[<- hpl];exact(Zg.mp e0).1
   have er:rs[k]? = some rs[k]:=ZE hk;have hrow:=G.row _ (Zk hk);have hp0:=s1.sqT (g.row k b _ e0 er);generalize hrb:rs[k]=rb at *;refine⟨⟨_,hp0⟩,?_⟩
   refine Ii (xs:=rb.map V.bl) (fun i zs H''=>Yc H' H''/\zs=iL (whr (rb.map (· == true)) i)) ⟨Yc.refl _,rfl⟩ (fun i zs H'' _ ⟨s,_⟩=>s.sqT hp0) (fun i zs H'' hi ⟨_,e⟩=>by
    rw[ZC]at hi
    have:=DY (rb.map (· == true)) i
    rw[e,Ab];exact Al (by lia)) ?_ ?_
   ·rintro i x zs H2 pp hx ⟨s2,rfl⟩ hpp;rw[ZT]at hx;cases e0:rb[i]? with
    | none=>rw[e0]at hx;cases hx
    | some r =>
     rw[e0]at hx;cases hx;have eg:gB (rb.map (· == true)) i=(r == true):=Ed e0;refine⟨pp,_,rfl,.of AD,rfl,_,_,rfl,_,_,rfl,rfl,?_⟩;rw[Gq,BW,eg];cases r with
     | true=>exact⟨s2.trans (Yc.upd hpp),rfl⟩
     | false=>exact⟨s2.trans (Yc.upd hpp),by show _=_++[];rw[Zj]⟩
   ·rintro zs H2 ⟨s2,rfl⟩ l hl;rw[ZC];refine⟨_,.inl (.of AD),by have:=DY (rb.map (· == true)) rb.length;lia,fun t ht=>by have:=DX ht;lia,fun H3 s3=>?_⟩;refine⟨s1.trans (s2.trans ((Yc.upd hl).trans s3)),?_⟩;rw[Zr,er,ZR,BW];rfl
 rintro zs H2' ⟨s1,rfl⟩ yl hyl;rw[ZC,hpl,Zv];have s2:Yc H (upd H2' yl (.lst (iL (rs.map AS)))):=s1.trans (Yc.upd hyl);have gy2:upd H2' yl (.lst (iL (rs.map AS))) yl=some (.lst (iL (rs.map AS))):=AD;generalize upd H2' yl (.lst (iL (rs.map AS)))=H2 at *;have hp2:=s2 _ _ hp;have ny:yl≠p:=BO gy2 hp2 (by intro z;cases z);refine⟨dx,_,hp2,(show 0 < 1000 by decide),?_⟩;have f3:Yl p H2 (upd H2 p (.ins T.C_Bearing dx (AU "yeses" (.ref yl) []))):=Yl.updT;have hp3:upd H2 p (.ins T.C_Bearing dx (AU "yeses" (.ref yl) [])) p=some (.ins T.C_Bearing dx [("yeses",.ref yl)]):=by rw[pb1];exact AD
 have E3:=(E0'.same s2).frm f3 hp2 DU;have gy3:=f3 _ _ ny gy2;have F3:Yl p H (upd H2 p (.ins T.C_Bearing dx (AU "yeses" (.ref yl) []))):=(Aw s2).trans f3;generalize upd H2 p (.ins T.C_Bearing dx (AU "yeses" (.ref yl) []))=H3 at *
 -- the dicts
 intro nd hnd;have s4:Yc H3 (upd H3 nd (.dK [])):=Yc.upd hnd;have nnp:nd≠p:=fun e=>by rw[e,hp3]at hnd;cases hnd
 have gn4:upd H3 nd (.dK []) nd=some (.dK []):=AD
 have hn0:H nd=none:=by
  cases e:H nd with
  | none=>rfl
  | some o=>rw[F3 nd o nnp e]at hnd;cases hnd
 generalize upd H3 nd (.dK [])=H4 at *;have hp4:=s4 _ _ hp3;refine⟨dx,_,hp4,(show 1 < 1000 by decide),?_⟩;have f5:Yl p H4 (upd H4 p (.ins T.C_Bearing dx (AU "numbers" (.ref nd) [("yeses",.ref yl)]))):=Yl.updT;have hp5:upd H4 p (.ins T.C_Bearing dx (AU "numbers" (.ref nd) [("yeses",.ref yl)])) p=some (.ins T.C_Bearing dx [("yeses",.ref yl),("numbers",.ref nd)]):=by rw[pb2];exact AD
 have E5:=(E3.same s4).frm f5 hp4 DU;have gy5:=f5 _ _ ny (s4 _ _ gy3);have gn5:=f5 _ _ nnp gn4;have F5:Yl p H (upd H4 p (.ins T.C_Bearing dx (AU "numbers" (.ref nd) [("yeses",.ref yl)]))):=F3.trans ((Aw s4).trans f5);generalize upd H4 p (.ins T.C_Bearing dx (AU "numbers" (.ref nd) [("yeses",.ref yl)]))=H5 at *;intro fd hfd;have s6:Yc H5 (upd H5 fd (.dK [])):=Yc.upd hfd;have nfp:fd≠p:=fun e=>by rw[e,hp5]at hfd;cases hfd
 have nnf:nd≠fd:=fun e=>by rw[<- e,gn5]at hfd;cases hfd
 have gf6:upd H5 fd (.dK []) fd=some (.dK []):=AD
 have hf0:H fd=none:=by
  cases e:H fd with
  | none=>rfl
  | some o=>rw[F5 fd o nfp e]at hfd;cases hfd
 generalize upd H5 fd (.dK [])=H6 at *;have hp6:=s6 _ _ hp5;refine⟨dx,_,hp6,(show 2 < 1000 by decide),?_⟩;have f7:Yl p H6 (upd H6 p (.ins T.C_Bearing dx (AU "found" (.ref fd) [("yeses",.ref yl),("numbers",.ref nd)]))):=Yl.updT;have hp7:upd H6 p (.ins T.C_Bearing dx (AU "found" (.ref fd) [("yeses",.ref yl),("numbers",.ref nd)])) p=some (.ins T.C_Bearing dx (Br (.ref yl) (.ref nd) (.ref fd))):=by rw[pb3];exact AD
 have E7:=(E5.same s6).frm f7 hp6 DU;have gy7:=f7 _ _ ny (s6 _ _ gy5);have gn7:=f7 _ _ nnp (s6 _ _ gn5);have gf7:=f7 _ _ nfp gf6;have F7:Yl p H (upd H6 p (.ins T.C_Bearing dx (AU "found" (.ref fd) [("yeses",.ref yl),("numbers",.ref nd)]))):=F5.trans ((Aw s6).trans f7);generalize upd H6 p (.ins T.C_Bearing dx (AU "found" (.ref fd) [("yeses",.ref yl),("numbers",.ref nd)]))=H7 at *;clear f3 f5 f7 s4 s6 hp2 hp3 hp4 hp5 hp6 gy2 gy3 gy5 gn4 gn5 gf6 F3 F5 E3 E5
 -- the entries
 refine .inr ⟨⟨_,E7.sq⟩,?_⟩;refine Iq (xs:=xs) (fun j σ H'=>∃(z3 z4:Option V) (Yd:List (Key × V)),σ=[some (.ref p),some (.ref a),some (.ref ua),z3,z4]/\EntsAt K H' es ua xs/\H' p=some (.ins T.C_Bearing dx (Br (.ref yl) (.ref nd) (.ref fd)))/\H' yl=some (.lst (iL (rs.map AS)))/\H' nd=some (.dK Yd)/\H' fd=some (.dK [])/\NumsOf ls.length (es.take j) Yd/\Yl p H H') ⟨none,none,[],rfl,E7,hp7,gy7,gn7,gf7,⟨⟨by simp,(fun e he=>by cases he)⟩,(fun S k he=>by cases he),(fun e he=>by rw[List.take_zero]at he;cases he)⟩,F7⟩ (fun j σ H' _ ⟨_,_,_,_,e,_⟩=>e.sq) ?_ ?_
 ·rintro j x σ H8 hx ⟨z3,z4,Yd,rfl,E8,hp8,gy8,gn8,gf8,N8,F8⟩;have hj:j < es.length:=by rw[<- E7.len];exact(Zg.mp hx).1
  have ee:es[j]? = some es[j]:=ZE hj;obtain⟨x',ex,b,c,rfl,hb,hc⟩:=E8.at_ j _ ee;rw[hx]at ex;cases ex;have he:=hok _ (Zk hj);generalize es[j]=e at *;have Yk:e.1.length<=ls.length:=Cj ls.length e.1 (he.up.imp fun h=>ZO h) he.lt;refine⟨_,.ref c,.inr hb,rfl,e.1,.inr hc,by lia,fun t ht=>by have:=he.lt t ht;lia,fun H9 s9=>?_⟩;have hp9:=s9 _ _ hp8;have gn9:=s9 _ _ gn8;dsimp only[Aa];refine⟨dx,_,_,hp9,lb2 _ _ _,nd,rfl,Mt (.inl gn9),valV Yd (kN (msk e.1)),MW (k:=kN (msk e.1)) (.inl gn9),?_⟩;have hb9:=s9.sqT hb;have hkl:=Gu N8.nd (fun e he=>by obtain⟨S,k,h1,h2,_⟩:=N8.ok e he;exact⟨S,_,h1,h2⟩) l16
  have fin:∀(k0:Int),((valV Yd (kN (msk e.1))=none/\k0=0)\/valV Yd (kN (msk e.1))=some (.int k0))->∃(z3 z4:Option V) (kvs':List (Key × V)),[some (V.ref p),some (V.ref a),some (V.ref ua),some (V.ref b),some (V.int (msk e.1:Nat))]=[some (V.ref p),some (V.ref a),some (V.ref ua),z3,z4]/\EntsAt K (upd H9 nd (.dK (Ae Yd (kN (msk e.1)) (.int (max k0 e.2))))) es ua xs/\upd H9 nd (.dK (Ae Yd (kN (msk e.1)) (.int (max k0 e.2)))) p=some (.ins T.C_Bearing dx (Br (.ref yl) (.ref nd) (.ref fd)))/\upd H9 nd (.dK (Ae Yd (kN (msk e.1)) (.int (max k0 e.2)))) yl=some (.lst (iL (rs.map AS)))/\upd H9 nd (.dK (Ae Yd (kN (msk e.1)) (.int (max k0 e.2)))) nd=some (.dK kvs')/\upd H9 nd (.dK (Ae Yd (kN (msk e.1)) (.int (max k0 e.2)))) fd=some (.dK [])/\NumsOf ls.length (es.take (j+1)) kvs'/\Yl p H (upd H9 nd (.dK (Ae Yd (kN (msk e.1)) (.int (max k0 e.2))))):=by
   intro k0 hk0;have fu:Yl nd H9 (upd H9 nd (.dK (Ae Yd (kN (msk e.1)) (.int (max k0 e.2))))):=Yl.updT;refine⟨_,_,_,rfl,(E8.same s9).frm fu gn9 Fl,fu _ _ (Ne.symm nnp) hp9,fu _ _ (BO (s9 _ _ gy8) gn9 (by intro z;cases z)) (s9 _ _ gy8),AD,fu _ _ (Ne.symm nnf) (s9 _ _ gf8),?_,fun b' o hb' e'=>?_⟩
   ·rw[Zr,ee];exact N8.put he hk0
   ·have h8:=F8 b' o hb' e';rw[AI (fun z=>by rw[z,hn0]at e';cases e')];exact s9 _ _ h8
  cases ev:valV Yd (kN (msk e.1)) with
  | none =>
   refine⟨_,_,.inr hb9,AO (n:=1) rfl rfl,?_⟩;refine⟨dx,_,_,hp9,lb2 _ _ _,nd,_,rfl,DPut.k (k:=kN (msk e.1)) gn9 hkl,?_⟩;exact fin 0 (.inl ⟨ev,rfl⟩)
  | some v =>
   obtain⟨S,k,e1,_,hk⟩:=N8.ok _ (Du ev);have e2:v=V.int k:=congrArg Prod.snd e1;subst e2;refine⟨_,_,.inr hb9,AO (n:=1) rfl rfl,?_⟩;refine⟨dx,_,_,hp9,lb2 _ _ _,nd,_,rfl,DPut.k (k:=kN (msk e.1)) gn9 hkl,?_⟩;exact fin k (.inr ev)
 ·rintro σ H8 ⟨z3,z4,Yd,rfl,E8,hp8,gy8,gn8,gf8,N8,F8⟩;rw[E7.len,Zv]at N8;refine q Yd nd fd H8 hn0 hf0 nnp nfp N8 ⟨⟨dx,yl,[],hp8,gy8,.inl gn8,gf8,⟨by simp,fun e he=>by cases he⟩⟩,N8.toNumsOk,l16,by rw[ZC];exact r16,nnf,fun y hy=>?_⟩ F8;obtain⟨r,hr',rfl⟩:=ZK.mp hy;have hrow:=G.row r hr';unfold AS
  have:=(Cv (N:=ls.length) (HZ (r.map (· == true)) r.length) (fun t ht=>by rw[<- hrow];exact DX ht)).1
  exact this
def EO(rs:List (List Bool))(k:Nat):List Bool:=rs.map fun r=>gB r k
def Cc(rs:List (List Bool))(n:Nat):List Dv:=(List.range n).map fun k=>.lst ((EO rs k).map Dv.bl)
def C9(ls:List Int)(rs:List (List Bool))(i j:Nat):Prop:=i < j/\j < ls.length/\AE ls i≠AE ls j/\EO rs i=EO rs j
def FN(ls:List Int)(rs:List (List Bool))(i j:Nat):Prop:=C9 ls rs i j/\∀i' j',C9 ls rs i' j'->i < i'\/i=i'/\j<=j'
def C6(ls:List Int)(rs:List (List Bool)):Prop:=∀i j,¬C9 ls rs i j
theorem NN:∀as bs:List Bool,BH (as.map Dv.bl) (bs.map Dv.bl)=true->as=bs
 | [],[],_=>rfl
 | [],u::us,h=>by simp[BH]at h
 | t::ts,[],h=>by simp[BH]at h
 | t::ts,u::us,h=>by
  rw[Zd,Zd,BH,eqD,ZQ,beq_iff_eq]at h;rw[h.1,NN ts us h.2]
theorem N7(a b:List Bool):eqD (.lst (a.map Dv.bl)) (.lst (b.map Dv.bl))=decide (a=b):=by
 rw[Ha,ZBS,decide_eq_true_eq];exact⟨NN a b,fun e=>by rw[e];exact Ft _⟩
theorem RI(rs:List (List Bool))(n:Nat):Cc rs (n+1)=Cc rs n++[.lst ((EO rs n).map Dv.bl)]:=by unfold Cc;rw[ZBa,ZR];rfl
theorem Qj(rs:List (List Bool))(n:Nat):(Cc rs n).length=n:=by unfold Cc;rw[ZC,ZBB]
theorem LW(rs:List (List Bool))(h:k < n):(Cc rs n)[k]? = some (.lst ((EO rs k).map Dv.bl)):=by unfold Cc;rw[ZT,List.getElem?_range h];rfl
theorem C8(h:i < ls.length):atI (ls.map V.int) ((i:Nat):Int)=some (.int (AE ls i)):=by
 refine AO rfl ?_;rw[ZT,ZE h];unfold AE;rw[ZV,ZE h];rfl
def JV(K:W.Frag):Sp:=fun vs H Q _=>match vs with
 | [v]=>∃ls rs,Yh K H (gmD ls rs) v/\Gm ls rs/\(∀H',Yc H H'->C6 ls rs->Q .non H')/\∀(i j:Nat) t H',FN ls rs i j->H t=none->Yc H H'->H' t=some (.tup [.int (i:Nat),.int (j:Nat)])->Q (.ref t) H'
 | _=>False
theorem VT{rl:Addr}(g:GmAt K H ls rs a tl rl ps)(G:Gm ls rs)(hk:k < ls.length){q:Addr}(hj:ps[j]? = some q) :
 ∃r,rs[j]? = some r/\Ys K H q (r.map V.bl)/\atI (r.map V.bl) ((k:Nat):Int)=some (.bl (gB r k)):=by
 have hj':j < rs.length:=by rw[<- g.len];exact(Zg.mp hj).1
 have er:rs[j]? = some rs[j]:=ZE hj';exact⟨rs[j],er,g.row j q _ hj er,En (by rw[G.row _ (Zk hj')];exact hk)⟩
theorem SA{x:V}(h:(ps.map V.ref)[k]? = some x):∃q,ps[k]? = some q/\x=.ref q:=by
 rw[ZT]at h;cases e:ps[k]? with
 | none=>rw[e]at h;cases h
 | some q=>rw[e]at h;cases h;exact⟨q,rfl,rfl⟩
theorem QJ:Xa P w base T.z34 1 (JV K):=by
 refine T.z34.F.ok sc_z34 (fun vs H Q E h=>by unfold JV at h;walk_at "e") ?_;walk_at "f";unfold JV at h;walk_at "g"
 rename_i v;obtain⟨ls,rs,hv,G,q1,q2⟩:=h;obtain⟨a,tl,rl,ps,rfl,g⟩:=Bd hv;have l16:=G.l16;have r16:=G.r16;refine⟨_,(@AF _ _ _ _ _ (@AN _ _ 1 _ _ _ _ sc_z34.nd rfl (by right) (Yp (K:=K) (vv 0) AC) (by rfl) (by walk_at "i")) (@AF _ _ _ _ _ (@He _ _ _ _ _ _ _ (["thing","game"]) 1 [0] _ _ _ _ 2 _ _ _ rfl sc_z34.nd rfl rfl (BR rfl T.z_range (AA (AZ (At (K:=K)) rfl T.z_len (by rfl) (AA (vv 1) AB)) AB)) (by kernel_rfl) rfl rfl (by kernel_rfl) (fun c=>AQ (i:=0) (show(["thing","game"]:List Str).Nodup by decide +kernel) rfl (by right)) (Af (by decide)) (fun c=>BB) (fun c=>(@Ao _ _ _ _ _ _ _ (["row","thing"]) 1 [0] _ _ _ _ rfl (BA (K:=K) (Yp (K:=K) (vv 1) AC)) (by kernel_rfl) rfl rfl (by kernel_rfl) (fun c=>AQ (i:=0) (show(["row","thing"]:List Str).Nodup by decide +kernel) rfl (by right)) (Af (by decide)) (fun c=>BB) (fun c=>(Yp (K:=K) (vv 0) (vv 1))) (by intro _;rfl))) (by rfl) (by intro _;rfl)) (@AF _ _ _ _ _ (@Be _ _ _ _ _ _ _ _ PassesOwn.never rfl (BR rfl T.z_range (AA (AZ (At (K:=K)) rfl T.z_len (by rfl) (AA (vv 1) AB)) AB)) (AQ (i:=3) sc_z34.nd rfl (by right)) (@AG _ _ _ (@Be _ _ _ _ _ _ _ _ PassesOwn.never rfl (Va rfl T.z_range (AA (AW (A9 (K:=K)) (vv 3) AC) (AA (AZ (At (K:=K)) rfl T.z_len (by rfl) (AA (vv 1) AB)) AB))) (AQ (i:=4) sc_z34.nd rfl (by right)) (@AG _ _ _ (@Am _ _ _ _ _ _ _ _ (PW.pt (Bm (AV (kNe (K:=K) hu) (Yp (K:=K) (vv 1) (vv 3)) (Yp (K:=K) (vv 1) (vv 4))) (Bq (AV (kEq (K:=K) hu) (Yp (K:=K) (vv 2) (vv 3)) (Yp (K:=K) (vv 2) (vv 4)))))) (@AG _ _ _ (@AK _ _ _ _ (A5 (AA (vv 3) (AA (vv 4) AB))))) Aq)) (by intro _;rfl))) (by intro _;rfl)) (@AG _ _ _ (@AK _ _ _ _ DN))))),?_⟩;refine⟨_,.ref tl,.inr g.two,rfl,?_⟩;dsimp only[Aa];refine Aj (fun σ H'=>∃(l:Addr) (xs:List V),σ=[some (.ref a),some (.ref tl),some (.ref l),none,none]/\Yc H H'/\H' l=some (.lst xs)/\Ye K H' (Cc rs ls.length) xs) ?_ ?_ (by walk_at "sm")
 ·refine⟨ls.length,.inr ⟨_,g.lab,by rw[ZC]⟩,(ls.length:Int),rfl,by lia,by lia,?_⟩;rw[Zm];refine B7 (fun k ys H'=>Yc H H'/\Ye K H' (Cc rs k) ys) ⟨Yc.refl _,Ah⟩ (fun k ys H' hk ⟨_,R⟩=>by rw[<- R.length,Qj];exact Al (by lia)) ?_ ?_
  ·rintro k ys H1 hk ⟨s1,R1⟩;have g1:=g.same s1;have e0:(0:Int)+(k:Int)=((k:Nat):Int):=by lia
   rw[e0];refine⟨_,.ref rl,.inr g1.two,rfl,.inr ⟨⟨_,g1.rows⟩,?_⟩⟩
   refine CT (xs:=ps.map V.ref) (fun j zs H'=>H'=H1/\zs=((rs.take j).map fun r=>gB r k).map V.bl) ⟨rfl,rfl⟩ (fun j zs H' _ ⟨e,_⟩=>by rw[e];exact g1.rows) (fun j zs H' hj ⟨_,e⟩=>by
    rw[ZC,g1.len]at hj;rw[e,ZC,ZC,Zf];exact Al (by lia)) ?_ ?_
   ·rintro j x zs H' hx ⟨rfl,rfl⟩;obtain⟨b,hb,rfl⟩:=SA hx;obtain⟨r,er,hs,ha⟩:=VT g1 G hk hb;refine⟨_,.bl (gB r k),.inr hs,ha,rfl,?_⟩;rw[Zr,er,ZR,ZR];rfl
   ·rintro zs H' ⟨rfl,rfl⟩ l hl;rw[ZC,g1.len,Zv];have s2:Yc H' (upd H' l (.lst ((rs.map fun r=>gB r k).map V.bl))):=Yc.upd hl;refine⟨s1.trans s2,?_⟩;rw[RI];exact Ye.append (Ye.same s2 _ _ R1) (AR (by unfold Yh;exact⟨l,_,rfl,.of AD,Fi _⟩) Ah)
  ·rintro ys H1 ⟨s1,R1⟩ l hl;have s2:Yc H1 (upd H1 l (.lst ys)):=Yc.upd hl;exact⟨l,ys,rfl,s1.trans s2,AD,Ye.same s2 _ _ R1⟩
 rintro σ H1 ⟨l,xs,rfl,s1,gl,R⟩;have g1:=g.same s1;refine Aj (fun σ H'=>H'=H1/\(∃x y,σ=[some (.ref a),some (.ref tl),some (.ref l),x,y])/\C6 ls rs) ?_ ?_ (by walk_at "sm");rotate_left
 ·rintro σ H' ⟨rfl,⟨x,y,rfl⟩,he⟩;exact q1 _ s1 he
 refine⟨ls.length,.inr ⟨_,g1.lab,by rw[ZC]⟩,(ls.length:Int),rfl,by lia,by lia,?_⟩;rw[Zm];refine DF (fun k σ H'=>H'=H1/\(∃x y,σ=[some (.ref a),some (.ref tl),some (.ref l),x,y])/\∀i' j',i' < k->¬C9 ls rs i' j') ⟨rfl,⟨none,none,rfl⟩,fun i' j' h=>absurd h (ZBQ _)⟩ ?_ ?_;rotate_left
 ·rintro σ H' ⟨rfl,hσ,h⟩;exact⟨rfl,hσ,fun i j hb=>h i j (by have:=hb.1;have:=hb.2.1;lia) hb⟩
 rintro i σ H' hi ⟨rfl,⟨x,y,rfl⟩,hno⟩;have e0:(0:Int)+(i:Int)=((i:Nat):Int):=by lia
 rw[e0];refine⟨ls.length,.inr ⟨_,g1.lab,by rw[ZC]⟩,((i:Int)+1),(ls.length:Int),rfl,⟨by lia,by lia,by lia,by lia⟩,?_⟩;obtain⟨W,hW⟩:∃W:Nat,((ls.length:Int) - ((i:Int)+1)).toNat=W:=⟨_,rfl⟩;rw[hW];refine DF (fun k σ H2=>H2=H'/\(∃y,σ=[some (.ref a),some (.ref tl),some (.ref l),some (.int (i:Nat)),y])/\∀j',j' < i+1+k->¬C9 ls rs i j') ⟨rfl,⟨y,rfl⟩,fun j' h hb=>by have:=hb.1;lia⟩ ?_ ?_;rotate_left
 ·rintro σ H2 ⟨rfl,⟨y,rfl⟩,h⟩;refine⟨rfl,⟨_,y,rfl⟩,fun i' j' hi' hb=>?_⟩
  rcases Z4 i' i with z | z
  ·exact hno i' j' z hb
  ·have:i'=i:=by lia
   subst this;exact h j' (by have:=hb.2.1;lia) hb
 rintro k σ H2 hk ⟨rfl,⟨y,rfl⟩,hno2⟩;have e1:(i:Int)+1+(k:Int)=((i+1+k:Nat):Int):=by lia
 rw[e1];have hj:i+1+k < ls.length:=by lia
 have next:¬C9 ls rs i (i+1+k)->∀j',j' < i+1+(k+1)->¬C9 ls rs i j':=fun h j' hj'=>by
  rcases Z4 j' (i+1+k) with z | z
  ·exact hno2 j' z
  ·have:j'=i+1+k:=by lia
   rw[this];exact h
 refine⟨_,.int (AE ls i),.inr g1.lab,C8 hi,_,.int (AE ls (i+1+k)),.inr g1.lab,C8 hj,?_⟩;refine AY (fun e=>?_) (fun e=>?_)
 ·have ne:AE ls i≠AE ls (i+1+k):=by simpa using e
  obtain⟨x1,hx1,r1⟩:=R.get (LW rs hi);obtain⟨x2,hx2,r2⟩:=R.get (LW rs hj);refine⟨_,x1,.inl (.of gl),AO rfl hx1,_,x2,.inl (.of gl),AO rfl hx2,?_⟩;have r1':=r1;have r2':=r2;unfold Yh at r1' r2';obtain⟨b1,_,rfl,_⟩:=r1';obtain⟨b2,_,rfl,_⟩:=r2';refine⟨_,_,r1,r2,by unfold BC;rw[Lj];lia,?_⟩;rw[N7,Z2];refine AY (fun e2=>?_) (fun e2=>?_)
  ·have hb:C9 ls rs i (i+1+k):=⟨by lia,hj,ne,ZM e2⟩;refine⟨smq rfl,fun t ht=>?_⟩;refine q2 i (i+1+k) t _ ⟨hb,fun i' j' hb'=>?_⟩ (s1.free ht) (s1.trans (Yc.upd ht)) AD
   rcases ZBW i' i with z | z | z
   ·exact absurd hb' (hno i' j' z)
   ·subst z;exact .inr ⟨rfl,Nat.le_of_not_lt fun w=>hno2 j' w hb'⟩
   ·exact .inl z
  ·exact⟨rfl,⟨_,rfl⟩,next fun hb=>e2 (ZL hb.2.2.2)⟩
 ·have eq:AE ls i=AE ls (i+1+k):=by simpa using e
  exact⟨rfl,⟨_,rfl⟩,next fun hb=>hb.2.2.1 eq⟩
def FrX(X:List Addr)(H H':Hp):Prop:=∀b o,b∉X->H b=some o->H' b=some o
theorem FrX.trans{H1 H2:Hp}(a:FrX X H H1)(b:FrX X H1 H2):FrX X H H2:=fun c o n e=>b c o n (a c o n e)
theorem FrX.same(s:Yc H H'):FrX X H H':=fun b o _ e=>s b o e
theorem FrX.frm(f:Yl d H H')(h:d∈X):FrX X H H':=fun b o n e=>f b o (fun z=>n (z ▸ h)) e
theorem FrX.grow(f:Yu d H H')(h:d∈X):FrX X H H':=fun b o n e=>f b o (fun z=>n (z ▸ h)) e
def Oth(X:List Addr)(H:Hp):Prop:=∀x∈X,∃o,H x=some o/\CB o/\∀xs,o≠.lst xs
theorem FrX.sqT(f:FrX X H H')(O:Oth X H)(e:Ys K H b xs):Ys K H' b xs:=by
 rcases e with (e | ⟨ob,e⟩) | e
 ·exact .inl (.inl (f _ _ (fun z=>by obtain⟨o,h1,h2,_⟩:=O b z;rw[e]at h1;exact h2.1 xs (ZS h1).symm) e))
 ·exact .inl (.inr ⟨ob,f _ _ (fun z=>by obtain⟨o,h1,h2,_⟩:=O b z;rw[e]at h1;exact h2.2 _ _ (ZS h1).symm) e⟩)
 ·exact .inr e
mutual
theorem Yh.mv(s:∀a xs,Ys K H a xs->Ys K H' a xs):∀(d:Dv) (v:V),Ar d=true->Yh K H d v->Yh K H' d v
 | .non,v,_,h=>by unfold Yh at *;exact h
 | .bl b,v,_,h=>by unfold Yh at *;exact h
 | .int i,v,_,h=>by unfold Yh at *;exact h
 | .str x,v,_,h=>by unfold Yh at *;exact h
 | .tup ds,v,hd,h=>by
  unfold Ar at hd;unfold Yh at *;obtain⟨a,xs,e,h1,h2⟩:=h;exact⟨a,xs,e,s _ _ h1,Ye.mv s ds xs hd h2⟩
 | .lst ds,v,hd,h=>by unfold Ar at hd;cases hd
theorem Ye.mv(s:∀a xs,Ys K H a xs->Ys K H' a xs):∀(ds:List Dv) (xs:List V),Ag ds=true->Ye K H ds xs->Ye K H' ds xs
 | [],xs,_,h=>by unfold Ye at *;exact h
 | d::ds,xs,hd,h=>by
  unfold Ag at hd;rw[ZQ]at hd;unfold Ye at *;obtain⟨x,r,e,h1,h2⟩:=h;exact⟨x,r,e,Yh.mv s d x hd.1 h1,Ye.mv s ds r hd.2 h2⟩
end
theorem FrX.rep(f:FrX X H H')(O:Oth X H){d:Dv}(hd:Ar d=true)(h:Yh K H d v):Yh K H' d v:=Yh.mv (fun _ _ e=>f.sqT O e) d v hd h
theorem Vg(r:RkAt K C ls ys H p d):∃o,H d=some o/\CB o/\∀xs,o≠.lst xs:=by
 obtain⟨dx,tl,yl,al,as,Yd,h1,h2,h3,h4,h5,h6,h7,h8⟩:=r.at_;exact⟨_,h5,Fl,fun _ z=>nomatch z⟩
theorem QQ(l:Yz Pt pos q H):∃o,H Pt=some o/\CB o/\∀xs,o≠.lst xs:=by
 obtain⟨ps,a,_⟩:=l;exact⟨_,a,⟨(fun _ z=>nomatch z),(fun _ _ z=>nomatch z)⟩,fun _ z=>nomatch z⟩
theorem Nm(h1:∃o,H a=some o/\CB o/\∀xs,o≠.lst xs)(h2:∃o,H b=some o/\CB o/\∀xs,o≠.lst xs):Oth [a,b] H:=fun x hx=>by
 rcases ZH.mp hx with rfl | hx
 ·exact h1
 ·rw[ZI.mp hx];exact h2
theorem Tg(l:Yz Pt pos q H)(f:∀b o,(∀ps,o≠.tbl ps)\/b=Pt->(∀xs,o≠.lst xs)->(∀xs,o≠.dK xs)->(∀c x fs,o≠.ins c x fs)->H b=some o->H' b=some o):Yz Pt pos q H':=by
 obtain⟨ps,a,b,c⟩:=l;refine⟨ps,f _ _ (.inr rfl) (fun _ z=>nomatch z) (fun _ z=>nomatch z) (fun _ _ _ z=>nomatch z) a,b,?_⟩
 rcases c with c | ⟨c',c,d⟩
 ·exact .inl c
 ·exact .inr ⟨c',c,f _ _ (.inl fun _ z=>nomatch z) (fun _ z=>nomatch z) (fun _ z=>nomatch z) (fun _ _ _ z=>nomatch z) d⟩
theorem Ib(l:Yz Pt pos q H)(f:Yl t H H')(ht:H t=some o)(h1:(∃xs,o=.lst xs)\/(∃xs,o=.dK xs)\/∃c x fs,o=.ins c x fs):Yz Pt pos q H':=by
 refine Tg l fun b o' _ n1 n2 n3 e=>f b o' (fun z=>?_) e
 rw[z,ht]at e;cases e
 rcases h1 with ⟨xs,rfl⟩ | ⟨xs,rfl⟩ | ⟨c,x,fs,rfl⟩
 ·exact n1 _ rfl
 ·exact n2 _ rfl
 ·exact n3 _ _ _ rfl
theorem Rt{ps:Array Value}(r:RkAt K C ls ys H p d)(g:Yu Pt H H')(hz:H Pt=some (.tbl ps)):RkAt K C ls ys H' p d:=by
 obtain⟨dx,tl,yl,al,as,Yd,h1,h2,h3,h4,h5,h6,h7,h8⟩:=r.at_;have st:∀{b o},H b=some o->(∀ps,o≠.tbl ps)->H' b=some o:=fun {b o} e n=>g b o (fun z=>by rw[z,hz]at e;cases e;exact n _ rfl) e
 exact⟨⟨dx,tl,yl,al,as,Yd,st h1 (fun _ z=>nomatch z),Me g hz h2,st h3 (fun _ z=>nomatch z),st h4 (fun _ z=>nomatch z),st h5 (fun _ z=>nomatch z),h6,h7,h8⟩,r.l16,r.y16⟩
def HY:Sp:=fun vs H Q _=>match vs with
 | [.int x,.int y]=>∃p i:Nat,x=p/\y=i/\i<=64/\Q (.bl (p / 2 ^ i % 2 == 1)) H
 | _=>False
theorem Ua:Xa P w base T.z67 3 HY:=by
 refine T.z67.F.ok Sw (fun vs H Q E h=>by unfold HY at h;walk_at "e") ?_;walk_at "f";unfold HY at h;walk_at "g"
 rename_i x y;obtain⟨p,i,e1,e2,hi,q⟩:=h;subst e1 e2;refine⟨_,(@AG _ _ _ (@AK _ _ _ _ (BN (kEq (K:=K) hu) (AW Cs (AW IP (vv 0) (AL (@IF P w K mg base T) (hr.mono (show 2<=_ by decide)) rfl T.z65.m T.z65.F.kp T.z65.b .nil AH (AA (vv 1) AB))) AC) AC))),?_⟩;refine⟨i,rfl,hi,?_⟩;have hp:0 < 2 ^ i:=ZBy i;have hle:(2:Nat) ^ i<=2 ^ 64:=Zp (by decide) (by lia);refine⟨BF (by lia) (Int.le_trans (Int.ofNat_le.mpr hle) (by decide)),by decide,?_⟩;show Q (.bl (false ^^ (((p:Int) / ((2 ^ i:Nat):Int) % 2) == 1))) H
 have e:(false ^^ (((p:Int) / ((2 ^ i:Nat):Int) % 2) == 1))=(p / 2 ^ i % 2 == 1):=by
  rw[Z2,<- Int.natCast_ediv,ZBS];simp only[beq_iff_eq];lia
 rw[e];exact q
def Ci(S:Nat):List Nat:=(List.range S).filter S.testBit
theorem mem_memS:k∈Ci S ↔ S.testBit k=true:=by
 unfold Ci;rw[Z6,Zl];refine⟨fun h=>h.2,fun h=>⟨?_,h⟩⟩;have h1:=Nat.ge_two_pow_of_testBit h;exact ZX Nat.lt_two_pow_self h1
theorem Jm(S:Nat):∀(j n:Nat),S < 2 ^ n->(List.range (n+j)).filter S.testBit=(List.range n).filter S.testBit
 | 0,n,_=>rfl
 | j+1,n,h=>by
  rw[<- Nat.add_assoc,ZBa,ZBj,Jm S j n h]
  have:S.testBit (n+j)=false:=Nat.testBit_lt_two_pow (ZX h (Zp (by decide) (by lia)))
  simp[this]
theorem WU(h:S < 2 ^ n):(List.range n).filter S.testBit=Ci S:=by
 unfold Ci
 rcases Nat.le_total n S with z | z
 ·have:=Jm S (S - n) n h
  rw[show n+(S - n)=S by lia]at this;exact this.symm
 ·have:=Jm S (n - S) S Nat.lt_two_pow_self
  rw[show S+(n - S)=n by lia]at this;exact this
theorem Nx(S:Nat):S < 2 ^ Builtin.Int.intBits (S:Int):=by
 unfold Builtin.Int.intBits
 by_cases e:S=0
 ·subst e;decide
 ·rw[if_neg (by simpa using e),Int.natAbs_natCast];exact Nat.lt_log2_self
theorem VZ(h:S < 2 ^ n):Builtin.Int.intBits (S:Int)<=n:=by
 unfold Builtin.Int.intBits
 by_cases e:S=0
 ·subst e;simp
 ·rw[if_neg (by simpa using e),Int.natAbs_natCast];exact(Nat.log2_lt e).mpr h
def Da(K:W.Frag):Sp:=fun vs H Q _=>match vs with
 | [.int z]=>∃S:Nat,z=S/\S < 2 ^ 60/\∀p H',H p=none->Yc H H'->H' p=some (.tup (iL (Ci S)))->Q (.ref p) H'
 | _=>False
theorem Vu:AM (Da K):=fun vs H Q Q' E h q=>by
 unfold Da at *;walk_at "q"
theorem Ng:Xa P w base T.z44 4 (Da K):=by
 refine T.z44.F.ok So (fun vs H Q E h=>by unfold Da at h;walk_at "e") ?_;walk_at "f";unfold Da at h;walk_at "g"
 rename_i z;obtain⟨S,e1,hS,q⟩:=h;subst e1;have hb:=VZ hS;have hb2:=Nx S;refine⟨_,(@AG _ _ _ (@AK _ _ _ _ (Bb (CM (K:=K)) rfl T.z_tuple (by rfl) (AA (Ao (N':=["member","subset"]) (own:=1) (ix:=[0]) rfl (BR rfl T.z_range (AA (Pj (K:=K) (vv 0)) AB)) (by kernel_rfl) rfl rfl (by kernel_rfl) (fun c=>AQ (i:=0) (show(["member","subset"]:List Str).Nodup by decide +kernel) rfl (by right)) (Af (by decide)) (fun c=>CD (Az (AL (@Ua P w K mg base T) (hr.mono (show 3<=_ by decide)) rfl T.z67.m T.z67.F.kp T.z67.b .nil AH (AA (vv 1) (AA (vv 0) AB))))) (fun c=>(vv 0))) AB)))),?_⟩;refine⟨rfl,((Builtin.Int.intBits (S:Int):Nat):Int),rfl,by lia,by lia,?_⟩;rw[Zm];generalize Builtin.Int.intBits (S:Int)=n at *
 refine B7 (fun k zs H'=>H'=H/\zs=iL ((List.range k).filter S.testBit)) ⟨rfl,rfl⟩ (fun k zs H' hk ⟨_,e⟩=>by
  have:=ZBk S.testBit (List.range k)
  rw[ZBB]at this;rw[e,Ab];exact Al (by lia)) ?_ ?_
 ·rintro k zs H' hk ⟨rfl,rfl⟩;have e0:(0:Int)+(k:Int)=((k:Nat):Int):=by lia
  rw[e0];refine⟨S,k,rfl,rfl,by lia,?_⟩;have eb:(S / 2 ^ k % 2 == 1)=S.testBit k:=by rw[Nat.testBit_eq_decide_div_mod_eq];rfl
  rw[eb,ZBa,ZBj];cases e:S.testBit k with
  | true=>exact⟨rfl,by simp[e,BW];rfl⟩
  | false=>exact⟨rfl,by simp[e]⟩
 ·rintro zs H' ⟨rfl,rfl⟩ l hl;rw[WU hb2];have s1:Yc H' (upd H' l (.lst (iL (Ci S)))):=Yc.upd hl;refine⟨_,.inl ⟨.of AD,fun t ht=>?_⟩⟩;exact q t _ (s1.free ht) (s1.trans (Yc.upd ht)) AD
def Jb(K:W.Frag)(C:Addr):Sp:=fun vs H Q _=>match vs with
 | [.ref p]=>∃ls ys d,RkAt K C ls ys H p d/\Q (.int ((2 ^ ls.length - 1:Nat):Int)) H
 | _=>False
theorem UW:Xb P w mg base T.z23 3 (Jb K T.C_Reckoner):=by
 refine T.z23.F.ok QV (fun vs H Q E h=>by unfold Jb at h;walk_at "e") ?_;walk_at "f";unfold Jb at h;walk_at "g"
 rename_i p;obtain⟨ls,ys,d,R,q⟩:=h;have l16:=R.l16;obtain⟨dx,tl,yl,al,as,Yd,h1,h2,h3,h4,h5,h6,h7,h8⟩:=id R.at_;refine⟨_,(@AG _ _ _ (@AK _ _ _ _ (AW DD (AL (@IF P w K mg base T) (hr.mono (show 2<=_ by decide)) rfl T.z65.m T.z65.F.kp T.z65.b .nil AH (AA (AZ (At (K:=K)) rfl T.z_len (by rfl) (AA (BE T.cl_Reckoner T.na_Reckoner_labels (vv 0)) AB)) AB)) AC))),?_⟩;refine⟨dx,_,_,h1,lk1 _ _ _ _,ls.length,.inr ⟨_,h2,by rw[ZC]⟩,ls.length,rfl,by lia,?_⟩
 have e:(((2 ^ ls.length:Nat):Int) - 1)=((2 ^ ls.length - 1:Nat):Int):=by
  have:=ZBy ls.length
  lia
 show Q (.int (((2 ^ ls.length:Nat):Int) - 1)) H;rw[e];exact q
def Ho(K:W.Frag)(C:Addr):Sp:=fun vs H Q _=>match vs with
 | [.ref p,.int z]=>∃ls ys d S,RkAt K C ls ys H p d/\z=(S:Nat)/\S < 2 ^ ls.length/\S≠0/\∀k H',S.testBit k=true->Yc H H'->Q (.int (AE ls k)) H'
 | _=>False
theorem OK(h:S≠0):∃k,S.testBit k=true/\atI (iL (Ci S)) 0=some (.int (k:Nat)):=by
 obtain⟨i,hi⟩:=Nat.exists_testBit_of_ne_zero h;have hm:=mem_memS.mpr hi;cases e:Ci S with
 | nil=>rw[e]at hm;cases hm
 | cons k r=>exact⟨k,mem_memS.mp (by rw[e];exact Zb ..),AO (n:=0) rfl rfl⟩
theorem RS:Xb P w mg base T.z25 5 (Ho K T.C_Reckoner):=by
 refine T.z25.F.ok Ub (fun vs H Q E h=>by unfold Ho at h;walk_at "e") ?_;walk_at "f";unfold Ho at h;walk_at "g"
 rename_i p z;obtain⟨ls,ys,d,S,R,e1,hS,h0,q⟩:=h;subst e1;have l16:=R.l16;obtain⟨dx,tl,yl,al,as,Yd,h1,h2,h3,h4,h5,h6,h7,h8⟩:=id R.at_;have hle:2 ^ ls.length<=2 ^ 60:=Zp (by decide) (by lia);obtain⟨k,hk,ha⟩:=OK h0;refine⟨_,(@AG _ _ _ (@AK _ _ _ _ (Yp (K:=K) (BE T.cl_Reckoner T.na_Reckoner_labels (vv 0)) (Yp (K:=K) (AL (@Ng P w K mg base T) (hr.mono (show 4<=_ by decide)) rfl T.z44.m T.z44.F.kp T.z44.b .nil AH (AA (vv 1) AB)) AC)))),?_⟩;exact⟨dx,_,_,h1,lk1 _ _ _ _,S,rfl,by lia,fun t H1 ht s1 g1=>⟨_,_,.inr (.of g1),ha,_,_,.inr (s1.sqT h2),C8 (Dc hS hk),q k H1 hk s1⟩⟩
noncomputable def Ac(ls:List Int)(ys:List Nat)(S:Nat):Nat:=by classical exact if h:∃m,Ai (AE ls) (AX ys) S.testBit m then h.choose else 0
theorem C4(h:Ai (AE ls) (AX ys) S.testBit m):Ac ls ys S=m:=by
 have z:∃m,Ai (AE ls) (AX ys) S.testBit m:=⟨m,h⟩;unfold Ac;rw[dif_pos z];exact GF z.choose_spec h
theorem Cb(h:Can (AE ls) (AX ys) n S.testBit):Ai (AE ls) (AX ys) S.testBit (Ac ls ys S):=by
 obtain⟨m,hm⟩:=M1 h;rw[C4 hm];exact hm
noncomputable def wst(ls:List Int)(ys:List Nat)(S j:Nat):Nat:=max (Ac ls ys (S &&& ys.getD j 0)) (Ac ls ys (S - (S &&& ys.getD j 0)))
structure FirstQ(ls:List Int)(ys:List Nat)(S j:Nat):Prop where
 mem:j∈Ay S ys ys.length
 le:∀i∈Ay S ys ys.length,wst ls ys S j<=wst ls ys S i
 lt:∀i∈Ay S ys ys.length,i < j->wst ls ys S j < wst ls ys S i
theorem ES(y:Nat)(h:Can (AE ls) (AX ys) n S.testBit):Can (AE ls) (AX ys) n (S &&& y).testBit/\Can (AE ls) (AX ys) n (S - (S &&& y)).testBit:=by
 rw[C1,CL];exact⟨BZ (fun k z=>by simp only[ZQ]at z;exact z.1) h,BZ (fun k z=>by simp only[ZQ]at z;exact z.1) h⟩
theorem Oh(ho:¬One (AE ls) S.testBit)(hc:Can (AE ls) (AX ys) n S.testBit)(h:FirstQ ls ys S j):Ai (AE ls) (AX ys) S.testBit (1+wst ls ys S j):=by
 refine Kj ho ?_ ?_
 ·obtain⟨y1,y2⟩:=Do h.mem;obtain⟨c1,c2⟩:=ES (ys.getD j 0) hc;have c1:=Cb c1;have c2:=Cb c2;unfold wst;generalize Ac ls ys (S &&& ys.getD j 0)=b at *;generalize Ac ls ys (S - (S &&& ys.getD j 0))=e at *;rw[C1]at c1;rw[CL]at c2;exact⟨_,ZK.mpr ⟨_,Zo y1,rfl⟩,y2,_,_,c1,c2,rfl⟩
 ·intro f hf hp;obtain⟨y,hy,rfl⟩:=ZK.mp hf;obtain⟨i,hi,ei⟩:=Zq hy;have eg:ys.getD i 0=y:=by rw[ZV,ZE hi,ei];rfl
  have him:i∈Ay S ys ys.length:=Z6.mpr ⟨Zl.mpr hi,(Fs _ _).mpr (by rw[eg];exact hp)⟩;have hle:=h.le i him;obtain⟨c1,c2⟩:=ES (ys.getD i 0) hc;have c1:=Cb c1;have c2:=Cb c2;have hw:wst ls ys S i=max (Ac ls ys (S &&& ys.getD i 0)) (Ac ls ys (S - (S &&& ys.getD i 0))):=rfl;generalize Ac ls ys (S &&& ys.getD i 0)=b at *;generalize Ac ls ys (S - (S &&& ys.getD i 0))=e at *;rw[C1,eg]at c1;rw[CL,eg]at c2;exact⟨b,e,c1,c2,by lia⟩
theorem Qi(ho:¬One (AE ls) S.testBit)(hc:Can (AE ls) (AX ys) n S.testBit)(h:FirstQ ls ys S j):Ac ls ys S=1+wst ls ys S j:=C4 (Oh ho hc h)
theorem Tc:Xb P w mg base T.z21 74 (D1 K T.C_Reckoner 17):=LR T 17 (Jf T 17)
def VD(b:List Stmt):Expr:=match b with
 | [.Return (some (.Call _ _ (k::_) _)) _]=>k.value
 | _=>.Name "" ⟨0,0,0,0⟩
def Fx(e:Expr):Arguments:=match e with
 | .Lambda p _ _ _=>p
 | _=>{ posonlyargs:=[],args:=[],vararg:=none,kwonlyargs:=[],kw_defaults:=[],kwarg:=none,defaults:=[] }
def Fy(e:Expr):Expr:=match e with
 | .Lambda _ b _ _=>b
 | e=>e
def EB(e:Expr):Scope:=match e with
 | .Lambda _ _ s _=>s
 | _=>{ kind:=.function,names:=[],isGenerator:=false,isCoroutine:=false }
def Bc:Expr:=VD (BD CN)
def Gd(K:W.Frag)(C:Addr)(vA vB v:V)(H:Hp)(Q:VK):Prop:=D1 K C 17 [vB,vA,v] H Q E0
theorem PR (T:Txt K mg) {Yt ca cb c':Addr} {pm ctv uA uB:Value} {vA vB:V} (hl:base.get? Yt=some (W.kla_obj "<lambda>" B4 (Fx Bc) (Fy Bc) (EB Bc) [("things",ca),("self",cb)] pm c' ctv)) (hcab:ca≠cb)
 (hca:base.IsCell ca (some uA)) (rA:Yi vA uA) (hcb:base.IsCell cb (some uB)) (rB:Yi vB uB) :
 FnOk P w K mg base CX0 75 Yt (W.kla_fn "<lambda>" B4 (Fx Bc) (Fy Bc) (EB Bc) [("things",ca),("self",cb)] pm (.ref c') ctv) ["question"] (Bv c' B4 (Gd K T.C_Reckoner vA vB)):=by
 refine T6 (k:=74) hl hca rA hcb rB (by decide) hcab rfl rfl rfl ?_ rfl rfl rfl ?_ fun A outer s H v Q hr h=>?_
 ·intro y hy;have h:=ZBH.mp (show(EB Bc).names.all (fun p=>p.2 != .free || p.1 == "things" || p.1 == "self")=true by decide +kernel) _ (PySem.mem_of_lookup hy);simpa [or_assoc] using h
 ·decide +kernel
 have hr_z21:=hr;unfold Gd D1 at h;walk_at "g"
 rename_i p z i ee;cases ee;obtain⟨ls,ys,d,S,j,y,R,e1,hS,hc,e2,hj,hp,hk,q⟩:=h;subst e1 e2;obtain⟨dx,tl,yl,al,as,Yd,h1,_⟩:=id R.at_;refine⟨_,(An (vv 2) T.cl_Reckoner T.z21.m (@Tc P w K mg base T) hr_z21 T.z21.b .nil AH (AA (vv 1) (AA (vv 0) AB))),?_⟩;exact⟨p,dx,_,rfl,h1,ln4 _ _ _ _,ls,ys,d,S,j,y,R,rfl,hS,hc,rfl,hj,hp,hk,q⟩
def Gx(K:W.Frag)(C Pt:Addr):Sp:=fun vs H Q _=>match vs with
 | [.ref p,.int z]=>∃ls ys d S,RkAt K C ls ys H p d/\z=(S:Nat)/\S < 2 ^ ls.length/\(∃n,Can (AE ls) (AX ys) n S.testBit)/\¬One (AE ls) S.testBit/\Yz Pt Em B4 H /\
  ∀(j:Nat) H',FirstQ ls ys S j->RkAt K C ls ys H' p d->FrX [d,Pt] H H'->Yz Pt Em B4 H'->Q (.int (j:Nat)) H'
 | _=>False
theorem Th(B:BMn mg base):Xb P w mg base T.z16 77 (Gx K T.C_Reckoner T.p_z16):=by
 refine T.z16.F.okC T.gc_z16 Si (fun vs H Q E h=>by unfold Gx at h;walk_at "e") (fun A outer s H vs Q E hr h=>?_);have hu:=AT hr;have hrL:=hr;unfold Gx at h;walk_at "g"
 rename_i p z;obtain⟨ls,ys,d,S,R,e1,hS,⟨n,hc⟩,ho,hL,q⟩:=h;subst e1;obtain⟨dx,tl,yl,al,as,Yd,h1,_⟩:=id R.at_;have l16:=R.l16;let spB:V->V->V->Hp->VK->Prop:=Gd K T.C_Reckoner
 have hFL:∀(base':Heap) (Yt ca cb c':Addr) (pm ctv uA uB:Value) (vA vB:V),(∀b o,base.get? b=some o->base'.get? b=some o)->base'.get? Yt=some (W.kla_obj "<lambda>" B4 (Fx Bc) (Fy Bc) (EB Bc) [("things",ca),("self",cb)] pm c' ctv)->ca≠cb->base'.IsCell ca (some uA)->Yi vA uA->base'.IsCell cb (some uB)->Yi vB uB ->
  FnOk P w K mg base' CX0 75 Yt (W.kla_fn "<lambda>" B4 (Fx Bc) (Fy Bc) (EB Bc) [("things",ca),("self",cb)] pm (.ref c') ctv) ["question"] (Bv c' B4 (spB vA vB)) :=
  fun base' Yt ca cb c' pm ctv uA uB vA vB _ hl hab hca rA hcb rB=>PR (base:=base') T hl hab hca rA hcb rB
 have hclL:∀ca cb,(PyProof.Rows.envOfC "Reckoner.first_question" (AJ CN) s.heap.objs.size T.z16.f (.ref T.g_z16)).cells.lookup (PySem.Str.ofString "things")=some ca->(PyProof.Rows.envOfC "Reckoner.first_question" (AJ CN) s.heap.objs.size T.z16.f (.ref T.g_z16)).cells.lookup (PySem.Str.ofString "self")=some cb ->
  closureFor (EB Bc) (PyProof.Rows.envOfC "Reckoner.first_question" (AJ CN) s.heap.objs.size T.z16.f (.ref T.g_z16))=pure [((PySem.Str.ofString "things" : Str),ca),((PySem.Str.ofString "self" : Str),cb)]:=fun ca cb h1 h2=>by
  have e1:some (s.heap.objs.size+2)=some ca:=h1;have e2:some (s.heap.objs.size+1)=some cb:=h2;cases e1;cases e2;rfl
 refine⟨_,(@AG _ _ _ (@AK _ _ _ _ (Nu (c:=T.g_z16) (Pt:=T.p_z16) (qual:=B4) (i:=1) (j:=0) (a:="things") (b:="self") (spB:=spB) (An (vv 0) T.cl_Reckoner T.z28.m (@ME P w K mg base T) (hr.mono (show 1<=_ by decide)) T.z28.b .nil AH (AA (vv 1) AB)) T.z_min hrL rfl rfl T.gh_z16 B rfl rfl rfl rfl hclL rfl rfl rfl rfl (by decide) (fun _ _ _ _ _ _=>rfl) hFL))),?_⟩;refine⟨p,dx,_,rfl,h1,ln5 _ _ _ _,ls,ys,d,S,R,rfl,fun l H1 nl s1 g1=>?_⟩;have L1:=hL.same s1;have R1:=R.same s1;refine⟨l,_,_,_,rfl,by rw[Ab];exact Kf ho hc,rfl,rfl,L1,fun c' H2 gr2 L2' hc2=>?_⟩;obtain⟨pz,hP,_⟩:=id L1;have R2:=Rt R1 gr2 hP;have g2:H2 l=_:=gr2 _ _ (fun z=>by rw[z,hP]at g1;cases g1) g1;obtain⟨dx2,tl2,yl2,al2,as2,kvs2,k1,_,_,_,k5,_⟩:=id R2.at_;have hld:l≠d:=BO g2 k5 (by intro z;cases z);have hcd:c'≠d:=BO hc2 k5 (by intro z;cases z);refine⟨fun _ H3=>RkAt K T.C_Reckoner ls ys H3 p d/\Yl d H2 H3,fun n=>(wst ls ys S ((Ay S ys ys.length).getD n 0):Nat),⟨R2,Yl.refl⟩,fun n H3 ⟨_,f3⟩=>⟨.of (f3 _ _ hld g2),f3 _ _ hcd hc2⟩,?_,?_⟩
 ·rintro m v H3 hv ⟨R3,f3⟩;obtain⟨i,hi,him,rfl⟩:=Bt hv;obtain⟨y1,y2⟩:=Do him;have eg:(Ay S ys ys.length).getD m 0=i:=by rw[ZV,hi];rfl
  refine⟨ls,ys,d,S,i,_,R3,rfl,hS,⟨n,hc⟩,rfl,y1,y2,by have:=Dz ls.length S.testBit;lia,fun b e H4 f1 f2 R4 f4=>?_⟩;refine⟨?_,R4,f3.trans f4⟩;dsimp only;rw[eg];unfold wst;rw[C4 f1,C4 f2]
 ·rintro m v H3 hv hmin ⟨R3,f3⟩;obtain⟨i,hi,him,rfl⟩:=Bt hv;have eg:(Ay S ys ys.length).getD m 0=i:=by rw[ZV,hi];rfl
  have fr:FrX [d,T.p_z16] H H3:=(FrX.same s1).trans ((FrX.grow gr2 (by simp)).trans (FrX.frm f3 (by simp)));refine q i H3 ⟨him,fun i' hi'=>?_,fun i' hi' Yr=>?_⟩ R3 fr (Ib L2' f3 k5 (.inr (.inl ⟨_,rfl⟩)))
  ·obtain⟨m',hm',em'⟩:=Zq hi';have h3:=(hmin m' (by rw[Ab];exact hm')).1;have eg':(Ay S ys ys.length).getD m' 0=i':=by rw[ZV,ZE hm',em'];rfl
   dsimp only at h3;rw[eg,eg']at h3;lia
  ·obtain⟨m',hm',em'⟩:=Zq hi';have hmm:=(Zg.mp hi);obtain⟨hm,em⟩:=hmm;have hrise:(Ay S ys ys.length).Pairwise (· < ·):=List.Pairwise.filter _ ZBw
   have hlt':m' < m:=by
    rcases ZBW m' m with z | z | z
    ·exact z
    ·subst z;lia
    ·have:=List.pairwise_iff_getElem.mp hrise m m' hm hm' z
     lia
   have h3:=(hmin m' (by rw[Ab];exact hm')).2 hlt';have eg':(Ay S ys ys.length).getD m' 0=i':=by rw[ZV,ZE hm',em'];rfl
   dsimp only at h3;rw[eg,eg']at h3;lia
theorem mem_lefts{rb:List Bool}{ans:Bool}:k∈Ak rb ans ts ↔ k∈ts/\gB rb k=ans:=by unfold Ak;rw[Z6,beq_iff_eq]
theorem KS(rb:List Bool)(ts:List Nat):(fun k=>decide (k∈Ak rb true ts))=fun k=>decide (k∈ts) && gB rb k:=by
 funext k
 rw[ZBS,decide_eq_true_eq,mem_lefts,ZQ,decide_eq_true_eq]
theorem L7(rb:List Bool)(ts:List Nat):(fun k=>decide (k∈Ak rb false ts))=fun k=>decide (k∈ts) && !gB rb k:=by
 funext k
 rw[ZBS,decide_eq_true_eq,mem_lefts,ZQ,decide_eq_true_eq,ZBZ]
theorem MJ{rb:List Bool}{ans:Bool}(h:ts.Pairwise (· < ·)):(Ak rb ans ts).Pairwise (· < ·):=h.filter _
theorem Op(he:C6 ls rs):∀i j,i < ls.length->j < ls.length->(∀y∈rs.map gB,y i=y j)->AE ls i=AE ls j:=by
 have key:∀i j,i < j->j < ls.length->(∀y∈rs.map gB,y i=y j)->AE ls i=AE ls j:=fun i j hij hj h =>
  Classical.byContradiction fun ne=>he i j ⟨hij,hj,ne,by
   unfold EO;apply ZBz;intro r hr;exact h _ (ZK.mpr ⟨r,hr,rfl⟩)⟩
 intro i j hi hj h
 rcases ZBW i j with z | z | z
 ·exact key i j z hj h
 ·rw[z]
 ·exact(key j i z hi fun y hy=>(h y hy).symm).symm
theorem NQ{ds:List Int}(nd:ds.Nodup)(hm:∀k,k∈ds ↔ k∈ts.map (AE ls)):ds.length < 2 ↔ One (AE ls) (fun k=>decide (k∈ts)):=by
 constructor
 ·intro h i j hi hj;have a1:=(hm _).mpr (ZK.mpr ⟨i,ZM hi,rfl⟩);have a2:=(hm _).mpr (ZK.mpr ⟨j,ZM hj,rfl⟩)
  match ds,h with
  | [],_=>simp at a1
  | [x],_=>rw[ZI.mp a1,ZI.mp a2]
  | x::y::r,h=>simp at h;lia
 ·intro o
  have:=Wo (Y:=[]) (n:=0) ds o nd fun d hd=>by
   obtain⟨k,hk,e⟩:=ZK.mp ((hm d).mp hd);exact⟨k,ZL hk,e⟩
  simp at this;lia
def Db:Dw->Bool
 | .int _=>true
 | _=>false
def CW(K:W.Frag)(f:Dw->Bool):Sp:=fun vs H Q _=>match vs with
 | [v]=>∃d,Yq K H d v/\Q (.bl (f d)) H
 | _=>False
theorem My{f:Dw->Bool}:AM (CW K f):=fun vs H Q Q' E h q=>by
 unfold CW at *;walk_at "q"
theorem Ig:Xa P w base T.z57 1 (CW K Db):=by
 refine T.z57.F.ok Pc (fun vs H Q E h=>by unfold CW at h;walk_at "e") ?_;walk_at "f";unfold CW at h;walk_at "g"
 rename_i v;obtain⟨d,hd,q⟩:=h;refine⟨_,(@AG _ _ _ (@AK _ _ _ _ (CU (AZ (EU (K:=K)) rfl T.z_isinstance (by rfl) (AA (vv 0) (AA (EG (v:=.ty "int") rfl T.z_int (by rfl) rfl) AB))) (CA (Qw (AZ (EU (K:=K)) rfl T.z_isinstance (by rfl) (AA (vv 0) (AA (EG (v:=.ty "bool") rfl T.z_bool (by rfl) rfl) AB)))))))),?_⟩;refine⟨by decide,d,hd,?_⟩;refine AY (fun e=>⟨by decide,d,hd,?_⟩) (fun e=>?_)
 ·have:Db d = !Bf (tyW d) "bool":=by
   revert e;cases d <;> intro e <;> first | rfl | (simp[Bf,tyW]at e;done)
  rw[this]at q;exact q
 ·have:Db d=false:=by
   revert e;cases d <;> intro e <;> first | rfl | exact absurd (show Bf _ _=true by simp[Bf,tyW]) e
  rw[this]at q;exact q
def FT(m:Nat):Dw->Bool
 | .int i=>decide (0<=i) && decide (i < (m:Int))
 | _=>false
def EV(K:W.Frag):Sp:=fun vs H Q _=>match vs with
 | [.int z,v]=>∃(m:Nat) (d:Dw),z=m/\Yq K H d v/\Q (.bl (FT m d)) H
 | _=>False
theorem T8:AM (EV K):=fun vs H Q Q' E h q=>by
 unfold EV at *;walk_at "q"
theorem MD:Xa P w base T.z61 2 (EV K):=by
 refine T.z61.F.ok RP (fun vs H Q E h=>by unfold EV at h;walk_at "e") ?_;walk_at "f";have hr_z57:=hr.mono (show 1<=_ by decide)
 match vs,h with
 | [.int n,v],⟨m,d,e1,hd,q⟩ =>
 subst e1;refine⟨_,(@AG _ _ _ (@AK _ _ _ _ (CU (AL (@Ig P w K mg base T) hr_z57 rfl T.z57.m T.z57.F.kp T.z57.b .nil AH (AA (vv 1) AB)) (CA (Ru FA Ca AC (vv 1) (vv 0)))))),?_⟩;refine⟨d,hd,?_⟩;cases d with
 | int i =>
  unfold Yq at hd;subst hd;have q:Q (.bl (decide (0<=i) && decide (i < (m:Int)))) H:=q;refine AY (fun e=>?_) (fun e=>?_)
  ·have e':0<=i:=ZM e;rw[ZL e',ZBx]at q;exact q
  ·rw[Zw (fun z=>e (ZL z)),ZBl]at q;exact q
 | _=>exact q
theorem Tk{d:Dw}(h:FT m d=true):∃q:Nat,d=.int (q:Int)/\q < m:=by
 cases d with
 | int i =>
  have h':(decide (0<=i) && decide (i < (m:Int)))=true:=h;rw[ZQ,decide_eq_true_iff,decide_eq_true_iff]at h';exact⟨i.toNat,by rw[Int.toNat_of_nonneg h'.1],by lia⟩
 | _=>cases h
def Et:Dw->Bool
 | .tup [_,_]=>true
 | _=>false
theorem Uj{d:Dw}(h:Et d=true):∃d0 d1,d=.tup [d0,d1]:=by
 match d,h with
 | .tup [d0,d1],_=>exact⟨d0,d1,rfl⟩
 | .tup [],h=>cases h
 | .tup [_],h=>cases h
 | .tup (_::_::_::_),h=>cases h
 | .non,h=>cases h
 | .bl _,h=>cases h
 | .int _,h=>cases h
 | .str _,h=>cases h
 | .lst _,h=>cases h
 | .emp,h=>cases h
theorem SN{d:Dw}(h:Db d=true):∃i,d=.int i:=by
 cases d with
 | int i=>exact⟨i,rfl⟩
 | _=>cases h
theorem WH:Xa P w base T.z62 1 (CW K Et):=by
 refine T.z62.F.ok UB (fun vs H Q E h=>by unfold CW at h;walk_at "e") ?_;walk_at "f"
 match vs,h with
 | [v],⟨d,hd,q⟩ =>
 refine⟨_,(@AG _ _ _ (@AK _ _ _ _ (CU (AZ (EU (K:=K)) rfl T.z_isinstance (by rfl) (AA (vv 0) (AA (EG (v:=.ty "tuple") rfl T.z_tuple (by rfl) rfl) AB))) (CA (BN (kEq (K:=K) hu) (AZ (At (K:=K)) rfl T.z_len (by rfl) (AA (vv 0) AB)) AC))))),?_⟩;refine⟨by decide,d,hd,?_⟩;cases d with
 | tup ds =>
  obtain⟨p,xs,rfl,hp,hx⟩:=DL hd;refine⟨_,.inr ⟨_,hp,rfl⟩,?_⟩
  have e:Et (.tup ds)=(false ^^ ((xs.length:Int) == 2)):=by
   rw[<- hx.length]
   match ds with
   | []=>rfl
   | [_]=>rfl
   | [_,_]=>rfl
   | _::_::_::r =>
    show false=_;rw[Z2];symm;rw[beq_eq_false_iff_ne]
    show((r.length+1+1+1:Nat):Int)≠2
    lia
  rw[e]at q;exact q
 | _=>exact q
def ThW(n:Nat)(d:Dw):Prop:=∃ts:List Nat,d=.tup (ts.map fun(t:Nat)=>Dw.int (t:Int))/\ts.Pairwise (· < ·)/\∀t∈ts,t < n
def Di(K:W.Frag):Sp:=fun vs H Q _=>match vs with
 | [.int z,v]=>∃(n:Nat) (d:Dw),z=n/\Yq K H d v/\∀b:Bool,(b=true ↔ ThW n d)->Q (.bl b) H
 | _=>False
theorem Qs:AM (Di K):=fun vs H Q Q' E h q=>by
 unfold Di at *;walk_at "q"
theorem Pi(h:ts.Pairwise (· < ·))(hl:∀t∈ts,t < k):(ts++[k]).Pairwise (· < ·):=by
 rw[List.pairwise_append];exact⟨h,by simp,fun a ha b hb=>by rw[ZI]at hb;rw[hb];exact hl a ha⟩
theorem Ws:Xa P w base T.z45 3 (Di K):=by
 refine T.z45.F.ok sc_z45 (fun vs H Q E h=>by unfold Di at h;walk_at "e") ?_;walk_at "f";have mo1:AM (EV K):=T8;unfold Di at h;walk_at "g"
 rename_i z v;obtain⟨n,d,e1,hd,q⟩:=h;subst e1;refine⟨_,(@AF _ _ _ _ _ (@Am _ _ _ _ _ _ _ _ (By (Az (AZ (EU (K:=K)) rfl T.z_isinstance (by rfl) (AA (vv 1) (AA (EG (v:=.ty "tuple") rfl T.z_tuple (by rfl) rfl) AB))))) (@AG _ _ _ (@AK _ _ _ _ Av)) Aq) (@AF _ _ _ _ _ (@AN _ _ 2 _ _ _ _ sc_z45.nd rfl (by right) (Lu K3 AC) (by rfl) (by walk_at "i")) (@AF _ _ _ _ _ (@Be _ _ _ _ _ _ _ _ PassesOwn.never rfl (BA (K:=K) (vv 1)) (AQ (i:=3) sc_z45.nd rfl (by right)) (@AF _ _ _ _ _ (@Am _ _ _ _ _ _ _ _ (PW.pt (Ce (By (Az (AL (@MD P w K mg base T) (hr.mono (show 2<=_ by decide)) rfl T.z61.m T.z61.F.kp T.z61.b .nil AH (AA (vv 0) (AA (vv 3) AB))))) (C7 (AV FA (vv 3) (vv 2))))) (@AG _ _ _ (@AK _ _ _ _ Av)) Aq) (@AG _ _ _ (@AN _ _ 2 _ _ _ _ sc_z45.nd rfl (by right) (vv 3) (by rfl) (by walk_at "i")))) (by intro _;rfl)) (@AG _ _ _ (@AK _ _ _ _ Av))))),?_⟩;refine Aj (fun σ H'=>(∃z2 z3:Option V,σ=[some (.int (n:Nat)),some v,z2,z3])/\H=H'/\∃ds,d=.tup ds) ?_ ?_ (by walk_at "sm")
 ·refine⟨by decide,d,hd,?_⟩;cases d with
  | tup ds=>exact⟨⟨_,_,rfl⟩,rfl,ds,rfl⟩
  | _=>exact q false ⟨(fun z=>nomatch z),fun⟨ts,e,_⟩=>nomatch e⟩
 rintro σ _ ⟨⟨z2,z3,rfl⟩,rfl,ds,rfl⟩;obtain⟨p,xs,rfl,hp,hx⟩:=DL hd;have Yk:=hx.length;refine Aj (fun σ H'=>σ=[some (.int (n:Nat)),some (.ref p),some (.int (-1)),z3]/\H=H') ⟨rfl,rfl⟩ ?_ (by walk_at "sm");rintro σ _ ⟨rfl,rfl⟩;refine Aj (fun σ H'=>H=H'/\ThW n (.tup ds)) ?_ (fun σ H' ⟨e,h⟩=>by subst e;exact q true ⟨fun _=>h,fun _=>rfl⟩) (by walk_at "sm");refine .inr ⟨⟨_,hp⟩,?_⟩;refine Iq (xs:=xs) (fun j σ H'=>∃(ts:List Nat) (lst:Int) (z3:Option V),σ=[some (.int (n:Nat)),some (.ref p),some (.int lst),z3]/\H=H'/\ds.take j=(ts.map fun(t:Nat)=>Dw.int (t:Int))/\ts.length=j/\ts.Pairwise (· < ·)/\(∀t∈ts,t < n)/\(∀t∈ts,(t:Int)<=lst)/\(lst = -1\/∃t∈ts,lst=(t:Int))) ⟨[],-1,_,rfl,rfl,rfl,rfl,by simp,(fun t ht=>by cases ht),(fun t ht=>by cases ht),.inl rfl⟩ (fun j σ H' _ ⟨_,_,_,_,e,_⟩=>by subst e;exact hp) ?_ ?_
 ·rintro j x σ H1 hxj ⟨ts,lst,z3,rfl,rfl,htk,htl,hup,Yr,hle,hla⟩;have hj:j < ds.length:=by rw[Yk];exact(Zg.mp hxj).1
  have ed:ds[j]? = some ds[j]:=ZE hj;obtain⟨x',ex,rx⟩:=hx.get ed;rw[hxj]at ex;cases ex;have htk1:ds.take (j+1)=(ts.map fun(t:Nat)=>Dw.int (t:Int))++[ds[j]]:=by rw[Zr,ed,htk];rfl
  generalize ds[j]=dj at *;refine⟨n,dj,rfl,rx,?_⟩;cases hb:FT n dj with
  | false =>
   refine q false ⟨(fun z=>nomatch z),fun⟨ts',e,h1,h2⟩=>?_⟩;cases e;rw[ZT]at ed;cases ek:ts'[j]? with
   | none=>rw[ek]at ed;cases ed
   | some k =>
    rw[ek]at ed;cases ed
    have:=h2 k (Zo ek)
    have hb':(decide (0<=(k:Int)) && decide ((k:Int) < (n:Int)))=false:=hb;rw[ZL (by lia),ZL (by lia)]at hb';cases hb'
  | true =>
   obtain⟨k,rfl,hk⟩:=Tk hb;unfold Yq at rx;subst rx;refine AY (fun z=>?_) (fun z=>?_)
   ·have z:(k:Int)<=lst:=ZM z;refine q false ⟨(fun z=>nomatch z),fun⟨ts',e,h1,h2⟩=>?_⟩;cases e;rw[ZT]at ed;cases ek:ts'[j]? with
    | none=>rw[ek]at ed;cases ed
    | some k' =>
     rw[ek]at ed
     have:k'=k:=by
      have e:Dw.int (k':Int)=Dw.int (k:Int):=ZS ed;injection e with e
      lia
     subst this
     rcases hla with y | ⟨t,ht,y⟩
     ·lia
     ·obtain⟨i,hi,ei⟩:=Zq ht
      have e1:((ts'.map fun(t:Nat)=>Dw.int (t:Int)).take j)[i]? = some (Dw.int (t:Int)):=by
       rw[htk,ZT,ZE hi,ei];rfl
      rw[List.getElem?_take_of_lt (by lia),ZT]at e1;cases et:ts'[i]? with
      | none=>rw[et]at e1;cases e1
      | some t' =>
       rw[et]at e1
       have e2:t'=t:=by
        have e:Dw.int (t':Int)=Dw.int (t:Int):=ZS e1;injection e with e
        lia
       subst e2;obtain⟨i1,i2⟩:=Zg.mp et;obtain⟨j1,j2⟩:=Zg.mp ek
       have:=List.pairwise_iff_getElem.mp h1 i j i1 j1 (by lia)
       rw[i2,j2]at this;lia
   ·have z:¬(k:Int)<=lst:=fun y=>z (ZL y)
    refine⟨ts++[k],k,_,rfl,rfl,?_,by rw[ZU,htl];rfl,Pi hup fun t ht=>by have:=hle t ht;lia,fun t ht=>?_,fun t ht=>?_,.inr ⟨k,by simp,rfl⟩⟩
    ·rw[htk1,ZR];rfl
    ·rcases Ze.mp ht with y | y
     ·exact Yr t y
     ·rw[ZI]at y;lia
    ·rcases Ze.mp ht with y | y
     ·have:=hle t y;lia
     ·rw[ZI]at y;lia
 ·rintro σ H1 ⟨ts,lst,z3,rfl,rfl,htk,htl,hup,Yr,hle,hla⟩;rw[<- Yk,Zv]at htk;exact⟨rfl,ts,by rw[htk],hup,Yr⟩
def DV(ls:List Int)(e:List Nat × Int):Prop:=EntOk ls.length e/\¬One (AE ls) (fun k=>decide (k∈e.1))
def D0(K:W.Frag):Sp:=fun vs H Q _=>match vs with
 | [u,v]=>∃ls rs d,Yh K H (gmD ls rs) u/\Gm ls rs/\Yq K H d v/\∀(b:Bool) H',(b=true ↔ ∃e,d=A4 e/\DV ls e)->Yc H H'->Q (.bl b) H'
 | _=>False
theorem Py:AM (D0 K):=fun vs H Q Q' E h q=>by
 unfold D0 at *;walk_at "q"
theorem P6:Xa P w base T.z60 4 (D0 K):=by
 refine T.z60.F.ok O7 (fun vs H Q E h=>by unfold D0 at h;walk_at "e") ?_;walk_at "f";have mo1:AM (CW K Et):=My;have mo2:AM (Di K):=Qs;have mo3:AM (CW K Db):=My;unfold D0 at h;walk_at "g"
 rename_i u v;obtain⟨ls,rs,d,hg,G,hd,q⟩:=h;obtain⟨a,tl,rl,ps,rfl,g⟩:=Bd hg;have l16:=G.l16;refine⟨_,(@AF _ _ _ _ _ (@Am _ _ _ _ _ _ _ _ (PW.pt (Ce (By (Az (AL (@WH P w K mg base T) (hr.mono (show 1<=_ by decide)) rfl T.z62.m T.z62.F.kp T.z62.b .nil AH (AA (vv 1) AB)))) (Ce (By (Az (AL (@Ws P w K mg base T) (hr.mono (show 3<=_ by decide)) rfl T.z45.m T.z45.F.kp T.z45.b .nil AH (AA (AZ (At (K:=K)) rfl T.z_len (by rfl) (AA (Yp (K:=K) (vv 0) AC) AB)) (AA (Yp (K:=K) (vv 1) AC) AB))))) (C7 (By (Az (AL (@Ig P w K mg base T) (hr.mono (show 1<=_ by decide)) rfl T.z57.m T.z57.F.kp T.z57.b .nil AH (AA (Yp (K:=K) (vv 1) AC) AB)))))))) (@AG _ _ _ (@AK _ _ _ _ Av)) Aq) (@AG _ _ _ (@AK _ _ _ _ (CU (BN FK (Yp (K:=K) (vv 1) AC) AC) (CA (BN Bg (AZ LV rfl T.z_len (by rfl) (AA (Bb (MZ (K:=K) rfl) rfl T.z_set (by rfl) (AA (Ao (N':=["each","game"]) (own:=1) (ix:=[0]) rfl (BA (K:=K) (Yp (K:=K) (vv 1) AC)) (by kernel_rfl) rfl rfl (by kernel_rfl) (fun c=>AQ (i:=0) (show(["each","game"]:List Str).Nodup by decide +kernel) rfl (by right)) (Af (by decide)) (fun c=>BB) (fun c=>(Yp (K:=K) (Yp (K:=K) (vv 1) AC) (vv 0)))) AB)) AB)) AC)))))),?_⟩;refine Aj (fun σ H'=>σ=[some (.ref a),some v]/\H=H'/\∃(ts:List Nat) (k:Int),d=.tup [.tup (ts.map fun(t:Nat)=>Dw.int (t:Int)),.int k]/\ts.Pairwise (· < ·)/\∀t∈ts,t < ls.length) ?_ ?_ (by walk_at "sm")
 ·refine⟨d,hd,?_⟩;cases hb:Et d with
  | false=>exact q false H ⟨(fun z=>nomatch z),fun⟨e,he,_⟩=>by rw[he]at hb;cases hb⟩ (Yc.refl _)
  | true =>
   obtain⟨d0,d1,rfl⟩:=Uj hb;obtain⟨p,xs,rfl,hp,hx⟩:=DL hd;unfold Yn at hx;obtain⟨x0,l0,rfl,r0,hx⟩:=hx;unfold Yn at hx;obtain⟨x1,l1,rfl,r1,hx⟩:=hx;unfold Yn at hx;subst hx;refine⟨_,.ref tl,.inr g.two,rfl,ls.length,.inr ⟨_,g.lab,by rw[ZC]⟩,_,x0,.inr hp,AO (n:=0) rfl rfl,ls.length,d0,rfl,r0,fun b hb1=>?_⟩;cases b with
   | false=>exact q false H ⟨(fun z=>nomatch z),fun⟨e,he,h⟩=>by
    unfold A4 at he;injection he with he
    injection he with h0 _
    exact nomatch hb1.mpr ⟨e.1,h0,h.1.up,h.1.lt⟩⟩ (Yc.refl _)
   | true =>
    refine⟨_,x1,.inr hp,AO (n:=1) rfl rfl,d1,r1,?_⟩;cases hw:Db d1 with
    | false=>exact q false H ⟨(fun z=>nomatch z),fun⟨e,he,h⟩=>by
     unfold A4 at he;injection he with he
     injection he with _ h1
     injection h1 with h1 _
     rw[h1]at hw;cases hw⟩ (Yc.refl _)
    | true =>
     obtain⟨k,rfl⟩:=SN hw;obtain⟨ts,rfl,h1,h2⟩:=hb1.mp rfl;exact⟨rfl,rfl,ts,k,rfl,h1,h2⟩
 rintro σ _ ⟨rfl,rfl,ts,k,rfl,hup,Yr⟩;obtain⟨b,c,rfl,hb,hc⟩:=Mi (e:=(ts,k)) hd;have hb:Ys K H b [.ref c,.int k]:=hb;have hc:Ys K H c (iL ts):=hc;have Yk:ts.length<=ls.length:=Cj ls.length ts (hup.imp fun h=>ZO h) Yr
 have inj:∀e:List Nat × Int,Dw.tup [.tup (ts.map fun(t:Nat)=>Dw.int (t:Int)),.int k]=A4 e->e=(ts,k):=fun e he=>by
  unfold A4 at he;injection he with he
  injection he with h0 h1
  injection h1 with h1 _
  injection h0 with h0
  injection h1 with h1
  have:e.1=ts:=by
   have inj':∀a b:Nat,Dw.int (a:Int)=Dw.int (b:Int)->a=b:=fun a b h=>by injection h with h;lia
   exact((List.map_inj_right fun a b h=>inj' a b h).mp h0).symm
  exact Prod.ext this h1.symm
 refine⟨_,_,.inr hb,AO (n:=1) rfl rfl,?_⟩;refine AY (fun z=>?_) (fun z=>?_)
 ·have z:1<=k:=ZM z;refine⟨_,_,.inr hb,AO (n:=0) rfl rfl,.inr ⟨⟨_,hc⟩,?_⟩⟩
  refine CT (xs:=iL ts) (fun k zs H'=>H'=H/\zs=((ts.take k).map (AE ls)).map V.int) ⟨rfl,rfl⟩ (fun k zs H' _ ⟨e,_⟩=>by rw[e];exact hc) (fun k zs H' hk ⟨_,e⟩=>by
   rw[Ab]at hk;rw[e,ZC,ZC,Zf];exact Al (by lia)) ?_ ?_
  ·rintro k x zs H' hx ⟨rfl,rfl⟩;obtain⟨t,ht,hmem,rfl⟩:=Bt hx;refine⟨_,.ref tl,.inr g.two,rfl,_,.int (AE ls t),.inr g.lab,C8 (Yr t hmem),rfl,?_⟩;rw[Zr,ht,ZR,ZR];rfl
  ·rintro zs H' ⟨rfl,rfl⟩ l hl';rw[Ab,Zv];refine⟨_,.of AD,by rw[ZC];lia,fun ds qs nd hmem hqs=>?_⟩;have S:=(Yc.upd (o:=.lst ((ts.map (AE ls)).map V.int)) hl').trans (Yc.upd (o:=Dh ds) hqs);have o1:=NQ (ls:=ls) nd hmem;refine⟨ds,AD,?_⟩;refine q _ _ ?_ S;rw[decide_eq_true_iff];constructor
   ·intro h;exact⟨(ts,k),rfl,⟨hup,Yr,z⟩,fun o=>by have:=o1.mpr o;lia⟩
   ·rintro⟨e,he,h1,h2⟩
    have:=inj e he
    subst this
    have:¬ds.length < 2:=fun y=>h2 (o1.mp y)
    lia
 ·refine q false H ⟨(fun z=>nomatch z),fun⟨e,he,h1,h2⟩=>?_⟩ (Yc.refl _)
  have:=inj e he
  subst this;exact absurd (ZL h1.one) z
def HF(rs:List (List Bool))(es:DO):Prop:=∀e∈es,1 < e.2->∀r∈rs,∃(ans:Bool),∃e'∈es,e.2 - 1<=e'.2/\∀t∈e'.1,t∈e.1/\gB r t=ans
def HK(ls:List Int)(rs:List (List Bool))(z:Int)(d:Dw):Prop:=∃es:DO,d=.tup (es.map A4)/\(∀e∈es,DV ls e)/\(z<=0\/∃e∈es,z<=e.2)/\HF rs es
theorem sub_tb:S &&& U=S ↔ ∀k,S.testBit k=true->U.testBit k=true:=by
 constructor
 ·intro h k hk;rw[<- h,Z5,ZQ]at hk;exact hk.2
 ·intro h;apply Nat.eq_of_testBit_eq;intro k;rw[Z5];cases e:S.testBit k with
  | false=>rfl
  | true=>rw[h k e];rfl
theorem VU(hok:∀e∈es,EntOk ls.length e)(N:NumsOf ls.length es Yd)(G:Gm ls rs) :
 (∀(U:Nat) (m:Int),(kN U,V.int m)∈Yd->1 < m->∀y∈rs.map AS,Ax Yd (U &&& y) (m - 1)\/Ax Yd (U - (U &&& y)) (m - 1)) ↔ HF rs es:=by
 have bit:∀e∈es,∀k,(msk e.1).testBit k=decide (k∈e.1):=fun e he=>(Cv (hok e he).up (hok e he).lt).2
 have key:∀(e:List Nat × Int) (he:e∈es) (r:List Bool) (m:Int),(Ax Yd (msk e.1 &&& AS r) m\/Ax Yd (msk e.1 - (msk e.1 &&& AS r)) m) ↔ ∃(ans:Bool) (S:Nat) (k:Int),(kN S,V.int k)∈Yd/\m<=k/\∀t,S.testBit t=true->t∈e.1/\gB r t=ans:=by
  intro e he r m;constructor
  ·rintro(⟨S,k,h1,h2,h3⟩ | ⟨S,k,h1,h2,h3⟩)
   ·refine⟨true,S,k,h1,h3,fun t ht=>?_⟩
    have:=sub_tb.mp h2 t ht
    rw[Z5,ZQ,bit e he,decide_eq_true_iff,mskR_bit]at this;exact this
   ·refine⟨false,S,k,h1,h3,fun t ht=>?_⟩
    have:=sub_tb.mp h2 t ht
    rw[CL]at this;rw[ZQ,bit e he,decide_eq_true_iff,mskR_bit,ZBZ]at this;exact this
  ·rintro⟨ans,S,k,h1,h3,h⟩;cases ans with
   | true =>
    refine .inl ⟨S,k,h1,sub_tb.mpr fun t ht=>?_,h3⟩;rw[Z5,ZQ,bit e he,decide_eq_true_iff,mskR_bit];exact h t ht
   | false =>
    refine .inr ⟨S,k,h1,sub_tb.mpr fun t ht=>?_,h3⟩;rw[CL];rw[ZQ,bit e he,decide_eq_true_iff,mskR_bit,ZBZ];exact h t ht
 constructor
 ·intro h e he h1 r hr;obtain⟨k,hk,hle⟩:=N.to_ e he;obtain⟨ans,S,k',h2,h3,h4⟩:=(key e he r (k - 1)).mp (h _ k hk (by lia) _ (ZK.mpr ⟨r,hr,rfl⟩));obtain⟨e',he',rfl,rfl⟩:=N.fro S k' h2;exact⟨ans,e',he',by lia,fun t ht=>h4 t (by rw[bit e' he'];exact ZL ht)⟩
 ·intro h U m hm h1 y hy;obtain⟨r,hr,rfl⟩:=ZK.mp hy;obtain⟨e,he,rfl,rfl⟩:=N.fro U m hm;obtain⟨ans,e',he',h2,h3⟩:=h e he h1 r hr;obtain⟨k',hk',hle⟩:=N.to_ e' he';refine(key e he r _).mpr ⟨ans,_,k',hk',by lia,fun t ht=>h3 t ?_⟩;rw[bit e' he']at ht;exact ZM ht
theorem K8{P':List Nat × Int->Prop}:∀{ds:List Dw},(∀d∈ds,∃e,d=A4 e/\P' e)->∃es:DO,ds=es.map A4/\∀e∈es,P' e
 | [],_=>⟨[],rfl,fun e he=>by cases he⟩
 | d::ds,h=>by
  obtain⟨e,rfl,h1⟩:=h d (Zb ..);obtain⟨es,rfl,h2⟩:=K8 (ds:=ds) fun x hx=>h x (ZW _ hx)
  exact⟨e::es,rfl,fun x hx=>by
   rcases ZH.mp hx with rfl | hx
   ·exact h1
   ·exact h2 x hx⟩
theorem K2{e e':List Nat × Int}(he:A4 e=A4 e'):e=e':=by
 unfold A4 at he;injection he with he
 injection he with h0 h1
 injection h1 with h1 _
 injection h0 with h0
 injection h1 with h1
 have inj':∀a b:Nat,Dw.int (a:Int)=Dw.int (b:Int)->a=b:=fun a b h=>by injection h with h;lia
 exact Prod.ext ((List.map_inj_right fun a b h=>inj' a b h).mp h0) h1
def EL(K:W.Frag):Sp:=fun vs H Q _=>match vs with
 | [u,.int z,v]=>∃ls rs d,Yh K H (gmD ls rs) u/\Gm ls rs/\Yq K H d v/\(∀ds,d=.tup ds->ds.length<=100000)/\∀(b:Bool) H',(b=true ↔ HK ls rs z d)->Yc H H'->Q (.bl b) H'
 | _=>False
theorem Rr:AM (EL K):=fun vs H Q Q' E h q=>by
 unfold EL at *;walk_at "q"
theorem Pb:Xa P w base T.z51 6 (EL K):=by
 refine T.z51.F.ok Rz (fun vs H Q E h=>by unfold EL at h;walk_at "e") ?_;walk_at "f";have hr_z36:=hr.mono (show 4<=_ by decide);have hr1_z36:=hr.mono (show 4+1<=_ by decide);have mo1:AM (D0 K):=Py;have mo2:AM (D7 K T.C_Bearing):=Nk;have mo3:AM (EK K T.C_Bearing):=O1;unfold EL at h;walk_at "g"
 rename_i u z v;obtain⟨ls,rs,d,hg,G,hd,hbk,q⟩:=h;refine⟨_,(@AF _ _ _ _ _ (@Am _ _ _ _ _ _ _ _ (PW.pt (Ce (By (Az (AZ (EU (K:=K)) rfl T.z_isinstance (by rfl) (AA (vv 2) (AA (EG (v:=.ty "tuple") rfl T.z_tuple (by rfl) rfl) AB))))) (C7 (By (Az (AZ (IA (K:=K) rfl) rfl T.z_all (by rfl) (AA (Ao (N':=["entry","game"]) (own:=1) (ix:=[0]) rfl (BA (K:=K) (vv 2)) (by kernel_rfl) rfl rfl (by kernel_rfl) (fun c=>AQ (i:=0) (show(["entry","game"]:List Str).Nodup by decide +kernel) rfl (by right)) (Af (by decide)) (fun c=>BB) (fun c=>(AL (@P6 P w K mg base T) (hr.mono (show 4<=_ by decide)) rfl T.z60.m T.z60.F.kp T.z60.b .nil AH (AA (vv 1) (AA (vv 0) AB))))) AB))))))) (@AG _ _ _ (@AK _ _ _ _ Av)) Aq) (@AG _ _ _ (@AK _ _ _ _ (CU (BN FK (L9 (K:=K) (@Ao _ _ _ _ _ _ _ ["entry"] 1 [] _ _ _ _ rfl (BA (K:=K) (vv 2)) (by kernel_rfl) rfl rfl (by kernel_rfl) (fun c=>AQ (i:=0) (show(["entry"]:List Str).Nodup by decide +kernel) rfl (by right)) (Af (by decide)) (fun c=>BB) (fun c=>(Yp (K:=K) (vv 0) AC)) (by intro _;rfl)) T.z_max rfl) (vv 1)) (CA (Ma (MU T.mk_Bearing (@O0 P w K mg base T) hr1_z36 rfl T.mC_Bearing T.z36.b .nil AH (AA (vv 0) (AA (vv 2) AB))) T.cl_Bearing T.z26.m (@OV P w K mg base T) (hr.mono (show 5<=_ by decide)) T.z26.b .nil AH)))))),?_⟩;refine Aj (fun σ H'=>σ=[some u,some (.int z),some v]/\Yc H H'/\∃es:DO,d=.tup (es.map A4)/\∀e∈es,DV ls e) ?_ ?_ (by walk_at "sm")
 ·refine⟨by decide,d,hd,?_⟩;cases d with
  | tup ds =>
   obtain⟨p,xs,rfl,hp,hx⟩:=DL hd;have Yk:=hx.length;have hdl:=hbk ds rfl;have hsl:sizeLine=16777216:=by decide
   refine .inr ⟨⟨_,hp⟩,?_⟩;refine CT (xs:=xs) (fun j zs H'=>∃bs:List Bool,zs=bs.map V.bl/\bs.length=j/\Yc H H'/\∀(t:Nat) (dj:Dw),t < j->ds[t]? = some dj->(bs[t]? = some true ↔ ∃e,dj=A4 e/\DV ls e)) ⟨[],rfl,rfl,Yc.refl _,fun t dj h=>absurd h (ZBQ _)⟩ (fun j zs H' _ ⟨_,_,_,s1,_⟩=>s1.sqT hp) (fun j zs H' hj ⟨bs,e,e2,_⟩=>by rw[e,ZC,e2];lia) ?_ ?_
   ·rintro j x zs H1 hxj ⟨bs,rfl,hbl,s1,hh⟩;have hj:j < ds.length:=by rw[Yk];exact(Zg.mp hxj).1
    have ed:ds[j]? = some ds[j]:=ZE hj;obtain⟨x',ex,rx⟩:=hx.get ed;rw[hxj]at ex;cases ex;refine⟨ls,rs,ds[j],hg.same s1,G,Yq.same s1 _ _ rx,fun b H2 hb s2=>?_⟩;refine⟨bs++[b],by rw[ZR];rfl,by rw[ZU,hbl];rfl,s1.trans s2,fun t dj ht hdj=>?_⟩
    rcases Z4 t j with a | a
    ·rw[ZBP (by lia)];exact hh t dj a hdj
    ·have:t=j:=by lia
     subst this;rw[ed]at hdj;cases hdj;rw[ZBL (by lia),hbl,ZBt];rw[<- hb];simp
   ·rintro zs H1 ⟨bs,rfl,hbl,s1,hh⟩ l nl;have s2:=s1.trans (Yc.upd (o:=.lst (bs.map V.bl)) nl);refine⟨bs,.of AD,?_⟩;cases hb:bs.all id with
    | true =>
     have hall:=ZBH.mp hb
     obtain⟨es,h1,h2⟩:=K8 (P':=DV ls) (ds:=ds) fun dj hdj=>by
      obtain⟨t,ht,rfl⟩:=Zq hdj;refine(hh t _ (by lia) (ZE ht)).mp ?_;rw[ZE (show t < bs.length by lia)];exact congrArg some (hall _ (Zk _))
     exact⟨rfl,s2,es,by rw[h1],h2⟩
    | false =>
     refine q false _ ⟨(fun z=>nomatch z),fun⟨es,e,h1,_⟩=>?_⟩ s2
     have:bs.all id=true:=by
      rw[ZBH];intro b hb';obtain⟨t,ht,rfl⟩:=Zq hb';have htd:t < ds.length:=by lia
      have hds:ds=es.map A4:=by injection e
      have hte:t < es.length:=by rw[hds,ZC]at htd;exact htd
      have:=(hh t ds[t] (by lia) (ZE htd)).mpr ⟨es[t],by simp only[hds,List.getElem_map],h1 _ (Zk _)⟩
      rw[ZE ht]at this;exact ZS this
     rw[hb]at this;cases this
  | _=>exact q false H ⟨(fun z=>nomatch z),fun⟨es,e,_⟩=>nomatch e⟩ (Yc.refl _)
 rintro σ H1 ⟨rfl,s1,es,rfl,hes⟩;obtain⟨ua,xs,rfl,E1⟩:=MF (Yq.same s1 _ _ hd)
 have hel:es.length<=100000:=by
  have h1:=hbk _ rfl;rw[ZC]at h1;lia
 have hsl:sizeLine=16777216:=by decide
 have hxl:=E1.len
 have hz:∀M:Int,(es.map (·.2)=[]->M=0)->(es.map (·.2)≠[]->M∈es.map (·.2)/\∀a∈es.map (·.2),a<=M)->(z<=M ↔ z<=0\/∃e∈es,z<=e.2):=by
  intro M m0 m1
  by_cases e:es.map (·.2)=[]
  ·rw[m0 e]
   have:es=[]:=List.map_eq_nil_iff.mp e
   subst this;simp
  ·obtain⟨a1,a2⟩:=m1 e;obtain⟨x,hx,rfl⟩:=ZK.mp a1;constructor
   ·intro h;exact .inr ⟨x,hx,h⟩
   ·rintro(h | ⟨y,hy,h⟩)
    ·have:=(hes x hx).1.one;lia
    ·have:=a2 _ (ZK.mpr ⟨y,hy,rfl⟩);lia
 refine .inr ⟨⟨_,E1.sq⟩,?_⟩;refine CT (xs:=xs) (fun j zs H'=>H'=H1/\zs=((es.take j).map (·.2)).map V.int) ⟨rfl,rfl⟩ (fun j zs H' _ ⟨e,_⟩=>by rw[e];exact E1.sq) (fun j zs H' hj ⟨_,e⟩=>by rw[e,ZC,ZC,Zf];lia) ?_ ?_
 ·rintro j x zs H2 hxj ⟨rfl,rfl⟩;have hj:j < es.length:=by rw[<- hxl];exact(Zg.mp hxj).1
  have ee:es[j]? = some es[j]:=ZE hj;obtain⟨x',ex,b,c,rfl,hb,hc⟩:=E1.at_ j _ ee;rw[hxj]at ex;cases ex;refine⟨_,_,.inr hb,AO (n:=1) rfl rfl,rfl,?_⟩;rw[Zr,ee,ZR,ZR];rfl
 rintro zs H2 ⟨rfl,rfl⟩ l nl;rw[hxl,Zv];have s2:=Yc.upd (o:=.lst ((es.map (·.2)).map V.int)) nl;have g2:=AD (H:=H2) (a:=l) (o:=.lst ((es.map (·.2)).map V.int));generalize upd H2 l (.lst ((es.map (·.2)).map V.int))=H3 at *;refine⟨l,_,rfl,.of g2,fun M m0 m1=>?_⟩;have hzM:=hz M m0 m1;have S3:=s1.trans s2;refine AY (fun y=>?_) (fun y=>?_)
 ·have y:z<=M:=ZM y;intro x dx hx hdx Yw
  have s4:Yc H3 (upd (upd H3 dx (.own x)) x (.ins T.C_Bearing dx [])):=(Yc.upd (o:=.own x) hdx).trans (fun b o e=>by
   have:b≠x:=fun z=>by
    rw[z,AI (Ne.symm Yw),hx]at e;cases e
   rw[AI this];exact e)
  have hx4:upd (upd H3 dx (.own x)) x (.ins T.C_Bearing dx []) x=some (.ins T.C_Bearing dx []):=AD;generalize upd (upd H3 dx (.own x)) x (.ins T.C_Bearing dx [])=H4 at *;have S4:=S3.trans s4;refine⟨ls,rs,dx,es,hx4,hg.same S4,G,Yq.same S4 _ _ hd,fun e he=>(hes e he).1,hel,fun Yd nd fd H5 hn hf nnp nfp N R f5=>⟨rfl,?_⟩⟩;obtain⟨dx5,yl5,fvs5,k1,_⟩:=id R.at_;have hb:=VU (fun e he=>(hes e he).1) N G;refine⟨x,dx5,_,rfl,k1,nb4 _ _ _,ls.length,rs.map AS,Yd,nd,fd,R,fun b H6 hb6 kp6=>q b H6 ?_ ?_⟩
  ·rw[hb6,hb];constructor
   ·intro h;exact⟨es,rfl,hes,hzM.mp y,h⟩
   ·rintro⟨es',e,_,_,h⟩;have e:es.map A4=es'.map A4:=by injection e
    have:es=es':=(List.map_inj_right fun a b h=>K2 h).mp e
    rw[this];exact h
  ·intro b o e;have e4:=S4 b o e;have e5:=f5 b o (fun z=>by rw[z]at e;have:=S3 _ _ e;rw[hx]at this;cases this) e4;refine kp6.1 b o (fun z=>?_) (fun z=>?_) e5
   ·rw[z,hn]at e4;cases e4
   ·rw[z,hf]at e4;cases e4
 ·refine q false _ ⟨(fun z=>nomatch z),fun⟨es',e,_,h,_⟩=>?_⟩ S3;have e:es.map A4=es'.map A4:=by injection e
  have:es=es':=(List.map_inj_right fun a b h=>K2 h).mp e
  subst this;exact absurd (ZL (hzM.mpr h)) y
theorem CF{d:Dv}{ds:List Dv}(h:Ye K H (d::ds) xs):∃x l,xs=x::l/\Yh K H d x/\Ye K H ds l:=by unfold Ye at h;exact h
theorem FQ:∀{ds:List Dv} {xs:List V} {i:Nat} {x:V},Ye K H ds xs->xs[i]? = some x->∃d,ds[i]? = some d/\Yh K H d x
 | [],xs,i,x,h,e=>by unfold Ye at h;subst h;cases e
 | d::ds,xs,i,x,h,e=>by
  obtain⟨y,l,rfl,r,h⟩:=CF h;cases i with
  | zero=>cases e;exact⟨d,rfl,r⟩
  | succ i=>exact FQ (ds:=ds) (i:=i) h (by simpa using e)
inductive Tr where
 | say (i:Int)
 | ask (q:Nat) (n y:Tr)
def Tr.dv:Tr->Dv
 | .say i=>.tup [.str (Str.ofString "say"),.int i]
 | .ask q n y=>.tup [.str (Str.ofString "ask"),.int (q:Int),n.dv,y.dv]
def Tr.ok(m:Nat):Tr->Prop
 | .say _=>True
 | .ask q n y=>q < m/\n.ok m/\y.ok m
def Tr.size:Tr->Nat
 | .say _=>1
 | .ask _ n y=>1+n.size+y.size
def Tr.deep:Tr->Nat
 | .say _=>1
 | .ask _ n y=>1+max n.deep y.deep
def Tr.kids:Tr->List Tr
 | .say _=>[]
 | .ask _ n y=>[n,y]
theorem Tr.deep_pos(t:Tr):1<=t.deep:=by cases t <;> (unfold Tr.deep;lia)
theorem Tr.size_pos(t:Tr):1<=t.size:=by cases t <;> (unfold Tr.size;lia)
theorem Tr.tups:∀t:Tr,Ar t.dv=true
 | .say i=>rfl
 | .ask q n y=>by
  unfold Tr.dv Ar Ag Ag Ag Ag Ag;rw[Tr.tups n,Tr.tups y];rfl
theorem E2{i:Int}(h:Yh K H (Tr.say i).dv v):∃p,v=.ref p/\Ys K H p [.str (Str.ofString "say"),.int i]:=by
 obtain⟨a,xs,rfl,hs,hx⟩:=Co h;obtain⟨x0,l0,rfl,r0,hx⟩:=CF hx;obtain⟨x1,l1,rfl,r1,hx⟩:=CF hx;unfold Ye at hx;subst hx;unfold Yh at r0 r1;subst r0 r1;exact⟨a,rfl,hs⟩
theorem E4{q:Nat}{n y:Tr}(h:Yh K H (Tr.ask q n y).dv v):∃p x2 x3,v=.ref p/\Ys K H p [.str (Str.ofString "ask"),.int (q:Int),x2,x3]/\Yh K H n.dv x2/\Yh K H y.dv x3:=by
 obtain⟨a,xs,rfl,hs,hx⟩:=Co h;obtain⟨x0,l0,rfl,r0,hx⟩:=CF hx;obtain⟨x1,l1,rfl,r1,hx⟩:=CF hx;obtain⟨x2,l2,rfl,r2,hx⟩:=CF hx;obtain⟨x3,l3,rfl,r3,hx⟩:=CF hx;unfold Ye at hx;subst hx;unfold Yh at r0 r1;subst r0 r1;exact⟨a,x2,x3,rfl,hs,r2,r3⟩
def NG(K:W.Frag):Sp:=fun vs H Q _=>match vs with
 | [.int z,v]=>∃(m:Nat) (t:Tr),z=m/\Yh K H t.dv v/\t.ok m/\Q (.bl true) H
 | _=>False
theorem QK:Xa P w base T.z37 3 (NG K):=by
 refine T.z37.F.ok Rj (fun vs H Q E h=>by unfold NG at h;walk_at "e") ?_;walk_at "f";have hr_z57:=hr.mono (show 1<=_ by decide)
 match vs,h with
 | [.int z,v],⟨m,t,e1,hv,hok,q⟩ =>
 subst e1;refine⟨_,(@AF _ _ _ _ _ (@Am _ _ _ _ _ _ _ _ (PW.pt (Ce (By (Az (AZ (P4 (K:=K)) rfl T.z_isinstance (by rfl) (AA (vv 1) (AA (EG (v:=.ty "tuple") rfl T.z_tuple (by rfl) rfl) AB))))) (C7 (AV Ca (AZ (At (K:=K)) rfl T.z_len (by rfl) (AA (vv 1) AB)) AC)))) (@AG _ _ _ (@AK _ _ _ _ Av)) Aq) (@AF _ _ _ _ _ (@Am _ _ _ _ _ _ _ _ (AV (kEq (K:=K) hu) (Yp (K:=K) (vv 1) AC) CH) (@AG _ _ _ (@AK _ _ _ _ (CU (BN (kEq (K:=K) hu) (AZ (At (K:=K)) rfl T.z_len (by rfl) (AA (vv 1) AB)) AC) (CA (AL (@Ig P w K mg base T) hr_z57 rfl T.z57.m T.z57.F.kp T.z57.b .nil AH (AA (Yp (K:=K) (vv 1) AC) AB)))))) Aq) (@AG _ _ _ (@AK _ _ _ _ (CU (BN (kEq (K:=K) hu) (Yp (K:=K) (vv 1) AC) CH) (CU (BN (kEq (K:=K) hu) (AZ (At (K:=K)) rfl T.z_len (by rfl) (AA (vv 1) AB)) AC) (CA (AL (@MD P w K mg base T) (hr.mono (show 2<=_ by decide)) rfl T.z61.m T.z61.F.kp T.z61.b .nil AH (AA (vv 0) (AA (Yp (K:=K) (vv 1) AC) AB)))))))))),?_⟩;cases t with
 | say i =>
  obtain⟨p,rfl,hp⟩:=E2 hv;refine⟨by decide,_,hv,?_⟩;refine⟨2,.inr ⟨_,hp,rfl⟩,?_⟩;refine⟨_,_,.inr hp,AO (n:=0) rfl rfl,?_⟩;refine⟨2,.inr ⟨_,hp,rfl⟩,_,_,.inr hp,AO (n:=1) rfl rfl,.int i,by unfold Yq;rfl,q⟩
 | ask k n y =>
  obtain⟨p,x2,x3,rfl,hp,r2,r3⟩:=E4 hv;refine⟨by decide,_,hv,?_⟩;refine⟨4,.inr ⟨_,hp,rfl⟩,?_⟩;refine⟨_,_,.inr hp,AO (n:=0) rfl rfl,?_⟩;refine⟨_,_,.inr hp,AO (n:=0) rfl rfl,?_⟩;refine⟨4,.inr ⟨_,hp,rfl⟩,_,_,.inr hp,AO (n:=1) rfl rfl,m,.int (k:Int),rfl,by unfold Yq;rfl,?_⟩
  have e:FT m (.int (k:Int))=true:=by
   have hk:k < m:=hok.1
   show(decide (0<=(k:Int)) && decide ((k:Int) < (m:Int)))=true
   rw[ZL (by lia),ZL (by lia)];rfl
  rw[e];exact q
def EZ(K:W.Frag):Sp:=fun vs H Q _=>match vs with
 | [v]=>∃(t:Tr),Yh K H t.dv v/\∀p xs H',Yc H H'->Ys K H' p xs->Ye K H (t.kids.map Tr.dv) xs->Q (.ref p) H'
 | _=>False
theorem TZ:AM (EZ K):=fun vs H Q Q' E h q=>by
 unfold EZ at *;walk_at "q"
theorem Vx:Xa P w base T.z40 1 (EZ K):=by
 refine T.z40.F.ok Vj (fun vs H Q E h=>by unfold EZ at h;walk_at "e") ?_;walk_at "f"
 match vs,h with
 | [v],⟨t,hv,q⟩ =>
 refine⟨_,(@AG _ _ _ (@AK _ _ _ _ (Cu (AV (kEq (K:=K) hu) (Yp (K:=K) (vv 0) AC) CH) (A5 AB) (Wn (K:=K) (vv 0) (Nq AC) SL)))),?_⟩;cases t with
 | say i =>
  obtain⟨p,rfl,hp⟩:=E2 hv;refine⟨_,_,.inr hp,AO (n:=0) rfl rfl,?_⟩;exact⟨ZP _,fun p1 n1=>q p1 [] _ (Yc.upd n1) (.of AD) Ah⟩
 | ask k n y =>
  obtain⟨p,x2,x3,rfl,hp,r2,r3⟩:=E4 hv;refine⟨_,_,.inr hp,AO (n:=0) rfl rfl,?_⟩;exact⟨2,rfl,_,hp,fun p1 H' s' h'=>q p1 [x2,x3] H' s' h' (AR r2 (AR r3 Ah))⟩
def EC:Sp:=fun vs H Q _=>match vs with
 | [.int m,.int d]=>Q (.bl (decide (2000 < m) || decide (16 < d))) H
 | _=>False
theorem T5:AM EC:=fun vs H Q Q' E h q=>by
 unfold EC at *;split at q
 ·exact h _ _ q
 ·exact q.elim
theorem WY:Xa P w base T.z30 1 EC:=by
 refine T.z30.F.ok Ox (fun vs H Q E h=>by unfold EC at h;walk_at "e") ?_;walk_at "f";unfold EC at h;walk_at "g"
 rename_i m d;have q:=h;have q:Q (.bl (decide (2000 < m) || decide (16 < d))) H:=q;refine⟨_,(@AG _ _ _ (@AK _ _ _ _ (HG (BN Bg (vv 0) (Fh (v:=.int 2000) rfl T.c_MOST_TREES ⟨_,rfl⟩)) (CA (BN Bg (vv 1) (Fh (v:=.int 16) rfl T.c_MOST_WITHIN ⟨_,rfl⟩)))))),?_⟩;refine AY (fun e=>?_) (fun e=>?_)
 ·have e':(2000:Int) < m:=ZM e;rw[ZL e',Bool.true_or]at q
  first | exact q | (rw[<- ZL e']at q;exact q)
 ·have e':¬(2000:Int) < m:=fun z=>e (ZL z)
  rw[Zw e',Bool.false_or]at q;exact q
def Es(K:W.Frag)(vA:V):V->Hp->VK->Prop:=fun v H Q=>∃ls rs t,Yh K H (gmD ls rs) vA/\Gm ls rs/\Yh K H (Tr.dv t) v/\t.ok rs.length/\Q (.bl true) H
theorem V0{vA:V}:∀v H Q Q',(∀y H',Q y H'->Q' y H')->Es K vA v H Q->Es K vA v H Q':=fun v H Q Q' k q=>by
 obtain⟨ls,rs,t,h1,h2,h3,h4,q⟩:=q;exact⟨ls,rs,t,h1,h2,h3,h4,k _ _ q⟩
def G3(K:W.Frag)(ftw fil Yt c':Addr)(qual:Str)(vA:V):Sp:=fun vs H Q _=>match vs with
 | [.ref a,.ref b,.ref c,v]=>a=Yt/\b=ftw/\c=fil/\H c'=some (CdO c' qual)/\∃ls rs t,Yh K H (gmD ls rs) vA/\Gm ls rs/\Yh K H (Tr.dv t) v/\t.ok rs.length/\t.deep<=16/\t.size<=2000/\∀H',Yc H H'->Q (.bl true) H'
 | _=>False
def Dr(L:List Tr):Nat:=(L.map Tr.size).sum
theorem Ix:∀L:List Tr,L.length<=Dr L
 | []=>ZD _
 | t::L=>by
  have:=Ix L
  have h:=t.size_pos;unfold Dr at *;rw[Zd,List.sum_cons,Zi];lia
theorem Ms:∀L:List Tr,Dr (L.flatMap Tr.kids)+L.length=Dr L
 | []=>rfl
 | t::L=>by
  have ih:=Ms L;unfold Dr at *;rw[List.flatMap_cons,ZR,List.sum_append,Zd,List.sum_cons,Zi]
  have:(t.kids.map Tr.size).sum+1=t.size:=by
   cases t with
   | say i=>rfl
   | ask q n y=>show(n.size+(y.size+0))+1=1+n.size+y.size;lia
  lia
theorem QC(L:List Tr):(L.flatMap Tr.kids).length<=2 * L.length:=by
 induction L with
 | nil=>exact ZP _
 | cons t L ih =>
  rw[List.flatMap_cons,ZU,Zi]
  have:t.kids.length<=2:=by cases t <;> simp[Tr.kids]
  lia
theorem U2{t k:Tr}(h:t.ok m)(hk:k∈t.kids):k.ok m/\k.deep+1<=t.deep:=by
 cases t with
 | say i=>cases hk
 | ask q n y =>
  have hk:k∈[n,y]:=hk;simp only[ZH,List.not_mem_nil,or_false]at hk
  rcases hk with rfl | rfl
  ·exact⟨h.2.1,by show k.deep+1<=1+max k.deep y.deep;lia⟩
  ·exact⟨h.2.2,by show k.deep+1<=1+max n.deep k.deep;lia⟩
theorem GW:∀M:List Tr,Ag (M.map Tr.dv)=true
 | []=>by unfold Ag;rfl
 | t::M=>by
  rw[Zd];unfold Ag;rw[t.tups,GW M];rfl
theorem P8{Yt c':Addr}{vA:V}{qual x:Str}{fdl:FuncData}(FV_has_form:FnOk P w K mg base CX0 6 Yt fdl [x] (Bv c' qual (Es K vA)))(KV_has_form:Fb K base Yt)(BV_has_form:Binds K fdl [x] []) :
 Xa P w base T.z58 8 (G3 K T.z40.f T.z30.f Yt c' qual vA):=by
 have FV_parts_within:=@Vx P w K mg base T;have FV_is_beyond:=@WY P w K mg base T;have KV_parts_within:Fb K base T.z40.f:=.inl T.z40.F.kp;have KV_is_beyond:Fb K base T.z30.f:=.inl T.z30.F.kp;have BV_parts_within:=T.z40.b;have BV_is_beyond:=T.z30.b;refine T.z58.F.ok sc_z58 (fun vs H Q E h=>by unfold G3 at h;walk_at "e") ?_;walk_at "f";have mo1:AM (Bv c' qual (Es K vA)):=Qp V0;have mo2:AM (EZ K):=TZ;have mo3:AM EC:=T5;have RV_has_form:=hr.mono (show 6<=_ by decide);have RV_parts_within:=hr.mono (show 1<=_ by decide);have RV_is_beyond:=hr.mono (show 1<=_ by decide)
 match vs,h with
 | [.ref a,.ref b,.ref c,v],h =>
 obtain⟨e1,e2,e3,hcd,ls,rs,t,hg,G,hv,hok,hdp,hsz,q⟩:=h;subst e1 e2 e3;refine⟨_,(@AF _ _ _ _ _ (@AN _ _ 4 _ _ _ _ sc_z58.nd rfl (by right) (@BY _ _ _ _ (AA (vv 3) AB)) (by rfl) (by walk_at "i")) (@AF _ _ _ _ _ (@AN _ _ 5 _ _ _ _ sc_z58.nd rfl (by right) AC (by rfl) (by walk_at "i")) (@AF _ _ _ _ _ (@AN _ _ 6 _ _ _ _ sc_z58.nd rfl (by right) AC (by rfl) (by walk_at "i")) (@AF _ _ _ _ _ (@GE _ _ _ _ _ _ PassesOwn.never (AV Bg (AZ (At (K:=K)) rfl T.z_len (by rfl) (AA (vv 4) AB)) AC) (@AF _ _ _ _ _ (@Am _ _ _ _ _ _ _ _ (Az (JE (vv 2) FV_is_beyond RV_is_beyond KV_is_beyond BV_is_beyond (AA (vv 6) (AA (vv 5) AB)))) (@AG _ _ _ (@AK _ _ _ _ Av)) Aq) (@AF _ _ _ _ _ (@AN _ _ 7 _ _ _ _ sc_z58.nd rfl (by right) (@BY _ _ _ _ AB) (by rfl) (by walk_at "i")) (@AF _ _ _ _ _ (@Be _ _ _ _ _ _ _ _ PassesOwn.never rfl (BA (K:=K) (vv 4)) (AQ (i:=8) sc_z58.nd rfl (by right)) (@AF _ _ _ _ _ (@Am _ _ _ _ _ _ _ _ (By (Az (JE (vv 0) FV_has_form RV_has_form KV_has_form BV_has_form (AA (vv 8) AB)))) (@AG _ _ _ (@AK _ _ _ _ Av)) Aq) (@AG _ _ _ (@DJ _ _ _ _ (Sf (K:=K) (vv 7) (AA (JE (vv 1) FV_parts_within RV_parts_within KV_parts_within BV_parts_within (AA (vv 8) AB)) AB)) (by rfl)))) (by intro _;rfl)) (@AF _ _ _ _ _ (@AN _ _ 4 _ _ _ _ sc_z58.nd rfl (by right) (vv 7) (by rfl) (by walk_at "i")) (@AF _ _ _ _ _ (@AN _ _ 5 _ _ _ _ sc_z58.nd rfl (by right) (AW (A9 (K:=K)) (vv 5) AC) (by rfl) (by walk_at "i")) (@AG _ _ _ (@AN _ _ 6 _ _ _ _ sc_z58.nd rfl (by right) (AW (A9 (K:=K)) (vv 6) (AZ (At (K:=K)) rfl T.z_len (by rfl) (AA (vv 4) AB))) (by rfl) (by walk_at "i"))))))))) (@AG _ _ _ (@AK _ _ _ _ Av)))))),?_⟩;refine⟨smq rfl,fun l nl=>?_⟩;dsimp only[Aa]
 refine⟨fun mm σ H'=>∃(l:Addr) (L:List Tr) (xs:List V) (d mn:Nat) (z7 z8:Option V),mm=17 - d/\σ=[some (.ref a),some (.ref T.z40.f),some (.ref T.z30.f),some v,some (.ref l),some (.int d),some (.int mn),z7,z8]/\Yc H H'/\H l=none/\H' l=some (.lst xs)/\Ye K H' (L.map Tr.dv) xs /\
  (∀u∈L,u.ok rs.length/\d+u.deep<=17)/\mn+Dr L<=2000+L.length/\L.length<=mn/\1<=d,⟨17 - 1,l,[t],[v],1,1,none,none,rfl,rfl,Yc.upd nl,nl,AD,AR (Yh.same (Yc.upd nl) _ _ hv) Ah,?_,?_,ZD _,ZD _⟩,?_⟩
 ·intro u hu';rw[ZI]at hu';subst hu';exact⟨hok,by lia⟩
 ·show 1+(t.size+0)<=2000+1;lia
 rintro mm σ H1 ⟨l1,L,xs,d,mn,z7,z8,rfl,rfl,s1,nl1,g1,hx,hL,hmn,hLm,hd1⟩;have hxl:=hx.length;rw[ZC]at hxl;have hsg:=Ix L;refine⟨xs.length,.inl ⟨xs,.of g1,rfl⟩,?_⟩;refine AY (fun e=>?_) (fun e=>?_)
 ·have hpos:0 < L.length:=by
   have:(0:Int) < (xs.length:Int):=ZM e
   lia
  obtain⟨u0,hu0⟩:∃u,u∈L:=⟨L[0],Zk hpos⟩
  have hd16:d<=16:=by
   have:=(hL u0 hu0).2
   have:=u0.deep_pos
   lia
  refine⟨rfl,?_⟩
  have e0:(decide ((2000:Int) < (mn:Int)) || decide ((16:Int) < (d:Int)))=false:=by
   rw[Zw (by lia),Zw (by lia)];rfl
  show(if (decide ((2000:Int) < (mn:Int)) || decide ((16:Int) < (d:Int)))=true then _ else _)
  rw[e0];refine Vl ?_;dsimp only[Eu];have hL2:L.length<=2000:=by lia
  refine⟨ZP _,fun b nb=>?_⟩;dsimp only[Aa];have nb0:H b=none:=s1.free nb;have hbl:b≠l1:=fun z=>by rw[z,g1]at nb;cases nb
  refine Aj (fun σ H'=>∃(ys:List V) (z8:Option V),σ=[some (.ref a),some (.ref T.z40.f),some (.ref T.z30.f),some v,some (.ref l1),some (.int d),some (.int mn),some (.ref b),z8]/\Yc H H'/\H' b=some (.lst ys)/\Ye K H' ((L.flatMap Tr.kids).map Tr.dv) ys) ?_ ?_ (by walk_at "sm")
  ·refine .inl ⟨⟨_,.inl (.of (by rw[AI (Ne.symm hbl)];exact g1))⟩,?_⟩;refine Hr (xs:=xs) (fun j σ H'=>∃(ys:List V) (z8:Option V),σ=[some (.ref a),some (.ref T.z40.f),some (.ref T.z30.f),some v,some (.ref l1),some (.int d),some (.int mn),some (.ref b),z8]/\Yc H H'/\H' l1=some (.lst xs)/\H' b=some (.lst ys)/\Ye K H' (((L.take j).flatMap Tr.kids).map Tr.dv) ys/\Ye K H' (L.map Tr.dv) xs) ⟨[],z8,rfl,KR s1 nb0,by rw[AI (Ne.symm hbl)];exact g1,AD,Ah,Ye.same (Yc.upd nb) _ _ hx⟩ (fun j σ H' _ ⟨_,_,_,_,g,_⟩=>.inl (.of g)) ?_ ?_
   ·rintro j xv σ H2 hxj ⟨ys,z8',rfl,s2,g2,gb2,hy,hx2⟩;obtain⟨dd,hdd,rdd⟩:=FQ hx2 hxj;rw[ZT]at hdd;obtain⟨u,hu',rfl⟩:=ZBg.mp hdd;have hum:=Zo hu';refine⟨rfl,s2 _ _ hcd,ls,rs,u,Yh.same s2 _ _ hg,G,rdd,(hL u hum).1,?_⟩;refine⟨.inl ⟨rfl,_,.of gb2⟩,rfl,u,rdd,fun p zs H3 s3 hp3 hz3=>?_⟩;have hyl:=hy.length;rw[ZC]at hyl;have hkl:=QC (L.take j);rw[Zf]at hkl;have hzl:=hz3.length;rw[ZC]at hzl;have hul:u.kids.length<=2:=by cases u <;> simp[Tr.kids]
    have f3:Yl b H3 (upd H3 b (.lst (ys++zs))):=fun b' o n e=>by rw[AI n];exact e
    have lb:∃ws,H3 b=some (.lst ws):=⟨_,s3 _ _ gb2⟩;have fz:=fun(M:List Tr) (ws:List V) (r:Ye K H2 (M.map Tr.dv) ws)=>Ye.frm f3 lb _ _ (GW M) (Ye.same s3 _ _ r)
    refine⟨ys,zs,s3 _ _ gb2,hp3,by lia,ys++zs,_,rfl,KR (s2.trans s3) nb0,by rw[AI (Ne.symm hbl)];exact s3 _ _ g2,AD,?_,fz L xs hx2⟩;rw[Zr,hu',List.flatMap_append,ZR];refine(fz _ _ hy).append ?_;have e0:((some u).toList.flatMap Tr.kids)=u.kids:=by simp
    rw[e0];exact fz _ _ hz3
   ·rintro σ H2 ⟨ys,z8',rfl,s2,g2,gb2,hy,_⟩;rw[<- hxl,Zv]at hy;exact⟨ys,_,rfl,s2,gb2,hy⟩
  rintro σ H2 ⟨ys,z8',rfl,s2,gb2,hy⟩;have hyl:=hy.length;rw[ZC]at hyl;refine⟨ys.length,.inl ⟨ys,.of gb2,rfl⟩,?_⟩;have hsk:=Ms L;have hkg:=Ix (L.flatMap Tr.kids);refine⟨17 - (d+1),by lia,b,L.flatMap Tr.kids,ys,d+1,mn+ys.length,_,_,rfl,rfl,s2,nb0,gb2,hy,fun k hk=>?_,by lia,by lia,by lia⟩;obtain⟨u,hu',hku⟩:=List.mem_flatMap.mp hk;have h1:=U2 (hL u hu').1 hku;have h2:=(hL u hu').2;exact⟨h1.1,by lia⟩
 ·have hz:L.length=0:=by
   have:¬(0:Int) < (xs.length:Int):=fun z=>e (ZL z)
   lia
  exact q H1 s1
def PV(b:List Stmt):Expr:=match b with
 | [.Return (some (.Call _ (l::_) _ _)) _]=>l
 | _=>.Name "" ⟨0,0,0,0⟩
def Jq(e:Expr):Arguments:=match e with
 | .Lambda p _ _ _=>p
 | _=>{ posonlyargs:=[],args:=[],vararg:=none,kwonlyargs:=[],kw_defaults:=[],kwarg:=none,defaults:=[] }
def JT(e:Expr):Expr:=match e with
 | .Lambda _ b _ _=>b
 | e=>e
def Ei(e:Expr):Scope:=match e with
 | .Lambda _ _ s _=>s
 | _=>{ kind:=.function,names:=[],isGenerator:=false,isCoroutine:=false }
def CC:Expr:=PV (BD Ch)
theorem RJ(T:Txt K mg){Yt cell c':Addr}{pm ctv uA:Value}{vA:V}(hl:base.get? Yt=some (W.kla_obj "<lambda>" CK (Jq CC) (JT CC) (Ei CC) [("game",cell)] pm c' ctv))(hc:base.IsCell cell (some uA))(rA:Yi vA uA) :
 FnOk P w K mg base CX0 6 Yt (W.kla_fn "<lambda>" CK (Jq CC) (JT CC) (Ei CC) [("game",cell)] pm (.ref c') ctv) ["part"] (Bv c' CK (Es K vA)):=by
 refine We (k:=5) hl hc rA rfl rfl ?_ rfl rfl rfl ?_ fun A outer s H v Q hr h=>?_
 ·intro y hy;have h:=ZBH.mp (show(Ei CC).names.all (fun p=>p.2 != .free || p.1 == "game")=true by decide +kernel) _ (PySem.mem_of_lookup hy);simpa using h
 ·decide +kernel
 obtain⟨ls,rs,t,hg,G,hv,hok,q⟩:=h;obtain⟨a,tl,rl,ps,rfl,g⟩:=Bd hg;refine⟨_,(AL (@QK P w K mg base T) (hr.mono (show 3<=_ by decide)) rfl T.z37.m T.z37.F.kp T.z37.b .nil AH (AA (AZ (At (K:=K)) rfl T.z_len (by rfl) (AA (Yp (K:=K) (vv 1) AC) AB)) (AA (vv 0) AB))),?_⟩;exact⟨_,_,.inr g.two,AO (n:=1) rfl rfl,rs.length,.inr ⟨_,g.rows,by rw[ZC,g.len]⟩,rs.length,t,rfl,hv,hok,q⟩
def Ds(K:W.Frag)(Pt:Addr):Sp:=fun vs H Q _=>match vs with
 | [u,v]=>∃ls rs t,Yh K H (gmD ls rs) u/\Gm ls rs/\Yh K H (Tr.dv t) v/\t.ok rs.length/\t.deep<=16/\t.size<=2000/\Yz Pt Ec CK H/\∀H',Yu Pt H H'->Yz Pt Ec CK H'->Q (.bl true) H'
 | _=>False
theorem S9:AM (Ds K Pt):=fun vs H Q Q' E h q=>by
 unfold Ds at *;walk_at "q"
theorem Ov(B:BMn mg base):Xa P w base T.z63 9 (Ds K T.p_z63):=by
 refine T.z63.F.okC T.gc_z63 Qz (fun vs H Q E h=>by unfold Ds at h;walk_at "e") (fun A outer s H vs Q E hr h=>?_);have hu:=AT hr;unfold Ds at h;walk_at "g"
 rename_i u v;obtain⟨ls,rs,t,hg,G,hv,hok,hdp,hsz,hL,q⟩:=h;let spK:Addr->Addr->V->Sp:=fun Yt c' vA=>G3 K T.z40.f T.z30.f Yt c' CK vA
 have hFL:∀(base':Heap) (Yt cell c':Addr) (pm ctv uA:Value) (vA:V),(∀b o,base.get? b=some o->base'.get? b=some o)->base'.get? Yt=some (W.kla_obj "<lambda>" CK (Jq CC) (JT CC) (Ei CC) [("game",cell)] pm c' ctv)->base'.IsCell cell (some uA)->Yi vA uA->FnOk P w K mg base' CX0 8 T.z58.f T.z58.d ["has_form","parts_within","is_beyond","thing"] (spK Yt c' vA) :=
  fun base' Yt cell c' pm ctv uA vA _ hl hc rA=>P8 (base:=base') T (RJ (base:=base') T hl hc rA) (.inr ⟨_,_,hl,rfl⟩) (.all fun us hl=>match us,hl with | [_],_=>rfl)
 have hclL:∀cell,(PyProof.Rows.envOfC "is_tree" (AJ Ch) s.heap.objs.size T.z63.f (.ref T.g_z63)).cells.lookup (PySem.Str.ofString "game")=some cell->closureFor (Ei CC) (PyProof.Rows.envOfC "is_tree" (AJ Ch) s.heap.objs.size T.z63.f (.ref T.g_z63))=pure [((PySem.Str.ofString "game" : Str),cell)]:=fun cell h=>by
  have e:some (s.heap.objs.size+1)=some cell:=h;cases e;rfl
 refine⟨_,(@AG _ _ _ (@AK _ _ _ _ (Rn (c:=T.g_z63) (Pt:=T.p_z63) (qual:=CK) (i:=0) (a:="game") (spK:=spK) rfl T.z58.m T.z58.F.kp (hr.mono (show 8<=_ by decide)) T.z58.b rfl T.gh_z63 B rfl rfl rfl hclL rfl rfl hFL (AA (Fh (v:=.ref T.z40.f) rfl T.z40.m rfl) (AA (Fh (v:=.ref T.z30.f) rfl T.z30.m rfl) (AA (vv 1) AB)))))),?_⟩;refine⟨u,rfl,hL,fun Yt c' H1 g1 l1 hc1 hn1=>?_⟩;obtain⟨pz,hP,_⟩:=id hL;exact⟨rfl,rfl,rfl,hc1,ls,rs,t,Yh.tab g1 hP _ _ hg,G,Yh.tab g1 hP _ _ hv,hok,hdp,hsz,fun H' s'=>q H' (g1.trans (Yu.same s')) (l1.same s')⟩
theorem Tape.lst{K:W.Frag}{H:Hp}{t a:Addr}{ns:List Int}(T:Tape K H t a ns):∃zs,H t=some (.lst zs):=by
 obtain⟨i,r,c,_,_,h⟩:=T.at_;exact⟨_,h⟩
theorem KO{ps:Array Value}(T:Tape K H t a ns)(hP:H Pt=some (.tbl ps))(G:Yu Pt H H'):Tape K H' t a ns:=by
 obtain⟨i,r,c,h1,h2,h3⟩:=T.at_;refine⟨⟨i,r,c,h1,h2,G _ _ (fun e=>by rw[e,hP]at h3;cases h3) h3⟩,?_⟩
 rcases T.scr with ⟨h | ⟨o,h⟩,n⟩ | h
 ·exact .inl ⟨.inl (G _ _ (fun e=>by rw[e,hP]at h;cases h) h),n⟩
 ·exact .inl ⟨.inr ⟨o,G _ _ (fun e=>by rw[e,hP]at h;cases h) h⟩,n⟩
 ·exact .inr h
theorem Wm(l:Yz Pt pos q H)(F:∃zs,H t=some (.lst zs))(f:Yl t H H'):Yz Pt pos q H':=by
 obtain⟨ps,h1,h2,h3⟩:=l;obtain⟨zs,hz⟩:=F;refine⟨ps,f _ _ (fun e=>by rw[e,hz]at h1;cases h1) h1,h2,?_⟩
 rcases h3 with h3 | ⟨c',h4,h5⟩
 ·exact .inl h3
 ·exact .inr ⟨c',h4,f _ _ (fun e=>by rw[e,hz]at h5;cases h5) h5⟩
theorem GL(l:Yz Pt pos q H)(F:Tape K H t a ns)(f:Yl t H H'):Yz Pt pos q H':=Wm l F.lst f
def Au(rs:List (List Bool))(q k:Nat):Bool:=gB (rs.getD q []) k
def Tr.end_(rs:List (List Bool))(k:Nat):Tr->Int
 | .say i=>i
 | .ask q n y=>if Au rs q k=true then y.end_ rs k else n.end_ rs k
def Tr.many(rs:List (List Bool))(k:Nat):Tr->Nat
 | .say _=>0
 | .ask q n y=>1+(if Au rs q k=true then y.many rs k else n.many rs k)
def DA(K:W.Frag):Sp:=fun vs H Q _=>match vs with
 | [u,v,.int z]=>∃ls rs t k,Yh K H (gmD ls rs) u/\Gm ls rs/\Yh K H (Tr.dv t) v/\t.ok rs.length/\z=(k:Nat)/\k < ls.length/\∀p H',Yc H H'->H' p=some (.tup [.int (t.end_ rs k),.int (t.many rs k:Nat)])->Q (.ref p) H'
 | _=>False
theorem LC:AM (DA K):=fun vs H Q Q' E h q=>by
 unfold DA at *;walk_at "q"
theorem VL:Xa P w base T.z68 1 (DA K):=by
 refine T.z68.F.ok sc_z68 (fun vs H Q E h=>by unfold DA at h;walk_at "e") ?_;walk_at "f"
 match vs,h with
 | [u,v,.int z],⟨ls,rs,t,k,hg,G,hv,hok,e1,hk,q⟩ =>
 subst e1;obtain⟨a,tl,rl,ps,rfl,g⟩:=Bd hg;refine⟨_,(@AF _ _ _ _ _ (@AN _ _ 3 _ _ _ _ sc_z68.nd rfl (by right) (vv 1) (by rfl) (by walk_at "i")) (@AF _ _ _ _ _ (@AN _ _ 4 _ _ _ _ sc_z68.nd rfl (by right) AC (by rfl) (by walk_at "i")) (@AF _ _ _ _ _ (@GE _ _ _ _ _ _ PassesOwn.never (AV (kEq (K:=K) hu) (Yp (K:=K) (vv 3) AC) CH) (@AF _ _ _ _ _ (@AN _ _ 3 _ _ _ _ sc_z68.nd rfl (by right) (Cu (Az (Yp (K:=K) (Yp (K:=K) (Yp (K:=K) (vv 0) AC) (Yp (K:=K) (vv 3) AC)) (vv 2))) (Yp (K:=K) (vv 3) AC) (Yp (K:=K) (vv 3) AC)) (by rfl) (by walk_at "i")) (@AG _ _ _ (@AN _ _ 4 _ _ _ _ sc_z68.nd rfl (by right) (AW (A9 (K:=K)) (vv 4) AC) (by rfl) (by walk_at "i"))))) (@AG _ _ _ (@AK _ _ _ _ (A5 (AA (Yp (K:=K) (vv 3) AC) (AA (vv 4) AB)))))))),?_⟩;refine⟨fun mm σ H'=>∃(t':Tr) (x:V) (c:Nat),mm=t'.size/\σ=[some (.ref a),some v,some (.int k),some x,some (.int c)]/\H'=H/\Yh K H t'.dv x/\t'.ok rs.length/\c+t'.many rs k=t.many rs k/\t'.end_ rs k=t.end_ rs k,⟨_,t,v,0,rfl,rfl,rfl,hv,hok,Nat.zero_add _,rfl⟩,?_⟩;rintro mm σ H1 ⟨t',x,c,rfl,rfl,rfl,hx,hok',hc,he⟩;cases t' with
 | say i =>
  obtain⟨p,rfl,hp⟩:=E2 hx;refine⟨_,_,.inr hp,AO (n:=0) rfl rfl,?_⟩;refine⟨_,_,.inr hp,AO (n:=1) rfl rfl,smq rfl,fun p1 n1=>q p1 _ (Yc.upd n1) ?_⟩;have e1:i=t.end_ rs k:=he;have e2:c+0=t.many rs k:=hc;rw[<- e1,<- e2];exact AD
 | ask q0 n y =>
  obtain⟨p,x2,x3,rfl,hp,r2,r3⟩:=E4 hx;have hq:q0 < rs.length:=hok'.1;have hb:ps[q0]? = some (ps.getD q0 0):=by simp[ZV,show q0 < ps.length by rw[g.len];exact hq]
  have hr0:rs[q0]? = some (rs.getD q0 []):=by simp[ZV,hq]
  have hrow:=g.row q0 _ _ hb hr0;have hrl:(rs.getD q0 []).length=ls.length:=G.row _ (Zo hr0);refine⟨_,_,.inr hp,AO (n:=0) rfl rfl,?_⟩;refine⟨_,.ref rl,.inr g.two,rfl,_,_,.inr hp,AO (n:=1) rfl rfl,_,.ref (ps.getD q0 0),.inr g.rows,AO rfl (by rw[ZT,hb];rfl),_,.bl (gB (rs.getD q0 []) k),.inr hrow,En (by rw[hrl];exact hk),?_⟩;have hm:(Tr.ask q0 n y).many rs k=1+(if Au rs q0 k=true then y.many rs k else n.many rs k):=rfl;have hE:(Tr.ask q0 n y).end_ rs k=(if Au rs q0 k=true then y.end_ rs k else n.end_ rs k):=rfl;rw[hm]at hc;rw[hE]at he;refine AY (fun e=>?_) (fun e=>?_)
  ·have e':Au rs q0 k=true:=e;rw[if_pos e']at hc he;exact⟨_,_,.inr hp,AO (n:=3) rfl rfl,y.size,by show y.size < 1+n.size+y.size;lia,y,x3,c+1,rfl,rfl,rfl,r3,hok'.2.2,by lia,he⟩
  ·have e':¬Au rs q0 k=true:=e;rw[if_neg e']at hc he;exact⟨_,_,.inr hp,AO (n:=2) rfl rfl,n.size,by show n.size < 1+n.size+y.size;lia,n,x2,c+1,rfl,rfl,rfl,r2,hok'.2.1,by lia,he⟩
def Bi(ls:List Int)(rs:List (List Bool))(z:Int)(t:Tr)(k:Nat):Bool:=decide (t.end_ rs k=AE ls k) && decide ((t.many rs k:Int)<=z)
theorem IH:∀(t:Tr) (d:Nat) (S:Nat->Bool),t.ok rs.length->(∀k,S k=true->t.end_ rs k=AE ls k/\t.many rs k<=d)->Can (AE ls) (rs.map gB) d S
 | .say i,d,S,_,h=>Cy (ZP d) (show Can (AE ls) (rs.map gB) 0 S from fun a b ha hb=>by
  rw[<- (h a ha).1,<- (h b hb).1];rfl)
 | .ask q n y,0,S,_,h=>fun a b ha _=>by
  have:=(h a ha).2
  have e:(Tr.ask q n y).many rs a=1+(if Au rs q a=true then y.many rs a else n.many rs a):=rfl;lia
 | .ask q n y,d+1,S,ho,h=>by
  have hq:q < rs.length:=ho.1;have er:rs.getD q []=rs[q]:=by simp[ZV,hq]
  refine .inr ⟨gB rs[q],ZK.mpr ⟨_,Zk hq,rfl⟩,IH y d _ ho.2.2 fun k hk=>?_,IH n d _ ho.2.1 fun k hk=>?_⟩
  ·rw[ZQ]at hk;have e:Au rs q k=true:=by unfold Au;rw[er];exact hk.2
   have h1:=h k hk.1;have e1:(Tr.ask q n y).many rs k=1+(if Au rs q k=true then y.many rs k else n.many rs k):=rfl;have e2:(Tr.ask q n y).end_ rs k=(if Au rs q k=true then y.end_ rs k else n.end_ rs k):=rfl;rw[e1,e2,if_pos e,if_pos e]at h1;exact⟨h1.1,by lia⟩
  ·rw[ZQ,ZBZ]at hk;have e:¬Au rs q k=true:=by unfold Au;rw[er,hk.2];exact Z7
   have h1:=h k hk.1;have e1:(Tr.ask q n y).many rs k=1+(if Au rs q k=true then y.many rs k else n.many rs k):=rfl;have e2:(Tr.ask q n y).end_ rs k=(if Au rs q k=true then y.end_ rs k else n.end_ rs k):=rfl;rw[e1,e2,if_neg e,if_neg e]at h1;exact⟨h1.1,by lia⟩
def D5(K:W.Frag):Sp:=fun vs H Q _=>match vs with
 | [u,.int z,v,.int h]=>∃ls rs t k,Yh K H (gmD ls rs) u/\Gm ls rs/\Yh K H (Tr.dv t) v/\t.ok rs.length/\h=(k:Nat)/\k < ls.length/\∀H',Yc H H'->Q (.bl (Bi ls rs z t k)) H'
 | _=>False
theorem UR:AM (D5 K):=fun vs H Q Q' E h q=>by
 unfold D5 at *;walk_at "q"
theorem WL:Xa P w base T.z46 2 (D5 K):=by
 refine T.z46.F.ok sc_z46 (fun vs H Q E h=>by unfold D5 at h;walk_at "e") ?_;walk_at "f";unfold D5 at h;walk_at "g"
 rename_i u z v h0;obtain⟨ls,rs,t,k,hg,G,hv,hok,e1,hk,q⟩:=h;subst e1;have mo:AM (DA K):=LC;refine⟨_,(@AF _ _ _ _ _ (@AN _ _ 4 _ _ _ _ sc_z46.nd rfl (by right) (AL (@VL P w K mg base T) (hr.mono (show 1<=_ by decide)) rfl T.z68.m T.z68.F.kp T.z68.b .nil AH (AA (vv 0) (AA (vv 2) (AA (vv 3) AB)))) (by rfl) (by walk_at "i")) (@AG _ _ _ (@AK _ _ _ _ (CU (BN (kEq (K:=K) hu) (Yp (K:=K) (vv 4) AC) (Yp (K:=K) (Yp (K:=K) (vv 0) AC) (vv 3))) (CA (BN FA (Yp (K:=K) (vv 4) AC) (vv 1))))))),?_⟩;refine⟨ls,rs,t,k,hg,G,hv,hok,rfl,hk,fun p H1 s1 g1=>?_⟩;dsimp only[Aa];obtain⟨a,tl,rl,ps,rfl,g⟩:=Bd (Yh.same s1 _ _ hg);refine⟨_,_,.inr (.of g1),AO (n:=0) rfl rfl,_,.ref tl,.inr g.two,rfl,_,_,.inr g.lab,C8 hk,?_⟩;have e:Bi ls rs z t k=(decide (t.end_ rs k=AE ls k) && decide ((t.many rs k:Int)<=z)):=rfl;have q':=q H1 s1;rw[e]at q';generalize t.end_ rs k=x at *;generalize AE ls k=y at *;generalize ((t.many rs k:Nat):Int)=m at *;have e2:(false ^^ (x == y))=decide (x=y):=by rw[Z2];rfl
 show if (false ^^ (x == y))=true then _ else _
 rw[e2];refine AY (fun h=>?_) (fun h=>?_)
 ·refine⟨_,_,.inr (.of g1),AO (n:=1) rfl rfl,?_⟩;rw[h,ZBx]at q';exact q'
 ·have:decide (x=y)=false:=by simpa using h
  rw[this,ZBl]at q';exact q'
def Dd(K:W.Frag)(Pt:Addr):Sp:=fun vs H Q _=>match vs with
 | [u,.int z,v]=>∃ls rs t,Yh K H (gmD ls rs) u/\Gm ls rs/\Yh K H (Tr.dv t) v/\t.ok rs.length/\(t.deep<=16/\t.size<=2000)/\Yz Pt Ec CK H/\∀H',Yu Pt H H'->Yz Pt Ec CK H'->Q (.bl ((List.range ls.length).all (Bi ls rs z t))) H'
 | _=>False
theorem Ot:AM (Dd K Pt):=fun vs H Q Q' E h q=>by
 unfold Dd at *;walk_at "q"
theorem OI(B:BMn mg base):Xa P w base T.z53 10 (Dd K T.p_z63):=by
 refine T.z53.F.ok Uz (fun vs H Q E h=>by unfold Dd at h;walk_at "e") ?_;walk_at "f";have mo1:AM (Ds K T.p_z63):=S9;have mo2:AM (D5 K):=UR;unfold Dd at h;walk_at "g"
 rename_i u z v;obtain⟨ls,rs,t,hg,G,hv,hok,hs,hL,q⟩:=h;refine⟨_,(@AF _ _ _ _ _ (@Am _ _ _ _ _ _ _ _ (By (Az (AL (@Ov P w K mg base T B) (hr.mono (show 9<=_ by decide)) rfl T.z63.m T.z63.F.kp T.z63.b .nil AH (AA (vv 0) (AA (vv 2) AB))))) (@AG _ _ _ (@AK _ _ _ _ Av)) Aq) (@AG _ _ _ (@AK _ _ _ _ (AZ (IA (K:=K) rfl) rfl T.z_all (by rfl) (AA (Ao (N':=["hidden","game","d","thing"]) (own:=1) (ix:=[0,1,2]) rfl (BR rfl T.z_range (AA (AZ (At (K:=K)) rfl T.z_len (by rfl) (AA (Yp (K:=K) (vv 0) AC) AB)) AB)) (by kernel_rfl) rfl rfl (by kernel_rfl) (fun c=>AQ (i:=0) (show(["hidden","game","d","thing"]:List Str).Nodup by decide +kernel) rfl (by right)) (Af (by decide)) (fun c=>BB) (fun c=>(AL (@WL P w K mg base T) (hr.mono (show 2<=_ by decide)) rfl T.z46.m T.z46.F.kp T.z46.b .nil AH (AA (vv 1) (AA (vv 2) (AA (vv 3) (AA (vv 0) AB))))))) AB))))),?_⟩;obtain⟨pz,hP,_⟩:=id hL;refine⟨ls,rs,t,hg,G,hv,hok,hs.1,hs.2,hL,fun H1 g1 L1=>?_⟩;have l16:=G.l16;have hg1:=Yh.tab g1 hP _ _ hg;have hv:=Yh.tab g1 hP _ _ hv;obtain⟨a,tl,rl,ps,rfl,g⟩:=Bd hg1;refine⟨_,.ref tl,.inr g.two,rfl,ls.length,.inr ⟨_,g.lab,by rw[ZC]⟩,ls.length,rfl,by lia,by lia,?_⟩;refine B7 (fun j ys H'=>Yc H1 H'/\ys=((List.range j).map (Bi ls rs z t)).map V.bl) ⟨Yc.refl _,rfl⟩ (fun j ys H' hj ⟨_,e⟩=>by rw[e,ZC,ZC,ZBB];exact Al (by lia)) ?_ ?_
 ·rintro j ys H2 hj ⟨s2,rfl⟩;rw[Zm]at hj;refine⟨ls,rs,t,j,Yh.same s2 _ _ hg1,G,Yh.same s2 _ _ hv,hok,by rw[Int.zero_add],hj,fun H3 s3=>⟨s2.trans s3,?_⟩⟩;rw[ZBa,ZR,ZR];rfl
 ·rintro ys H2 ⟨s2,rfl⟩ l nl;rw[Zm];refine⟨(List.range ls.length).map (Bi ls rs z t),.of AD,?_⟩;have s3:=s2.trans (Yc.upd (o:=.lst (((List.range ls.length).map (Bi ls rs z t)).map V.bl)) nl);rw[show((List.range ls.length).map (Bi ls rs z t)).all id=(List.range ls.length).all (Bi ls rs z t) by rw[List.all_map];rfl];exact q _ (g1.trans (Yu.same s3)) (L1.same s3)
theorem ln8(a b c d:V):(BL a b c d).lookup ("label_of" : Str)=none:=by rfl
theorem ln9(a b c d:V):(BL a b c d).lookup ("first_question" : Str)=none:=by rfl
theorem lnA(a b c d:V):(BL a b c d).lookup ("harder_lefts" : Str)=none:=by rfl
theorem lnB(a b c d:V):(BL a b c d).lookup ("everything" : Str)=none:=by rfl
def DE(ls:List Int)(ys:List Nat):Tr->Nat->Prop
 | .say i,S=>One (AE ls) S.testBit/\∃k,S.testBit k=true/\i=AE ls k
 | .ask q n y,S=>¬One (AE ls) S.testBit/\FirstQ ls ys S q/\DE ls ys n (S - (S &&& ys.getD q 0))/\DE ls ys y (S &&& ys.getD q 0)
def Cm(K:W.Frag)(C Pt:Addr)(c:Nat):Sp:=fun vs H Q _=>match vs with
 | [.ref p,.int z]=>∃ls ys d S,RkAt K C ls ys H p d/\z=(S:Nat)/\S < 2 ^ ls.length/\S≠0/\(∃n,Can (AE ls) (AX ys) n S.testBit)/\As ls.length S.testBit < c/\Yz Pt Em B4 H /\
  ∀(t:Tr) v H',DE ls ys t S->Yh K H' t.dv v->RkAt K C ls ys H' p d->FrX [d,Pt] H H'->Yz Pt Em B4 H'->Q v H'
 | _=>False
theorem WT{y:Nat}(h:A3 S.testBit y.testBit):S &&& y≠0/\S - (S &&& y)≠0:=by
 obtain⟨⟨i,h1,h2⟩,j,h3,h4⟩:=h;constructor
 ·intro z
  have:(S &&& y).testBit i=true:=by rw[Z5,h1,h2];rfl
  rw[z]at this;simp at this
 ·intro z
  have:(S - (S &&& y)).testBit j=true:=by rw[Fk,h3,h4];rfl
  rw[z]at this;simp at this
theorem Vk(B:BMn mg base)(c:Nat)(G_z48:Xa P w base T.z48 (78+c) (Cm K T.C_Reckoner T.p_z16 c)) :
 FnOk P w K mg base CX0 (78+(c+1)) T.z48.f T.z48.d ["reckoner","things"] (Cm K T.C_Reckoner T.p_z16 (c+1)):=by
 have G_z29:=@Ij P w K mg base T;refine T.z48.F.ok sc_z48 (fun vs H Q E h=>by unfold Cm at h;walk_at "e") ?_;walk_at "f";have hr_z18:=hr.mono (show 2<=78+c by lia);have hr_z25:=hr.mono (show 5<=78+c by lia);have hr_z29:=hr.mono (show 1<=78+c by lia);have hr_z16:=hr.mono (show 77<=78+c by lia);have hr_z48:=hr;unfold Cm at h;walk_at "g"
 rename_i p z;obtain⟨ls,ys,d,S,R,e1,hS,h0,⟨n,hc⟩,hk,hL,q⟩:=h;subst e1;obtain⟨dx,tl,yl,al,as,Yd,h1,_⟩:=id R.at_;refine⟨_,(@AF _ _ _ _ _ (@Am _ _ _ _ _ _ _ _ (Az (An (vv 0) T.cl_Reckoner T.z18.m (@Ld P w K mg base T) hr_z18 T.z18.b .nil AH (AA (vv 1) AB))) (@AG _ _ _ (@AK _ _ _ _ (A5 (AA CH (AA (An (vv 0) T.cl_Reckoner T.z25.m (@RS P w K mg base T) hr_z25 T.z25.b .nil AH (AA (vv 1) AB)) AB))))) Aq) (@AF _ _ _ _ _ (@AN _ _ 2 _ _ _ _ sc_z48.nd rfl (by right) (An (vv 0) T.cl_Reckoner T.z16.m (@Th P w K mg base T B) hr_z16 T.z16.b .nil AH (AA (vv 1) AB)) (by rfl) (by walk_at "i")) (@AF _ _ _ _ _ (@AN _ _ 3 _ _ _ _ sc_z48.nd rfl (by right) (AL G_z48 hr_z48 rfl T.z48.m T.z48.F.kp T.z48.b .nil AH (AA (vv 0) (AA (An (vv 0) T.cl_Reckoner T.z29.m G_z29 hr_z29 T.z29.b .nil AH (AA (vv 1) (AA (vv 2) (AA Av AB)))) AB))) (by rfl) (by walk_at "i")) (@AF _ _ _ _ _ (@AN _ _ 4 _ _ _ _ sc_z48.nd rfl (by right) (AL G_z48 hr_z48 rfl T.z48.m T.z48.F.kp T.z48.b .nil AH (AA (vv 0) (AA (An (vv 0) T.cl_Reckoner T.z29.m G_z29 hr_z29 T.z29.b .nil AH (AA (vv 1) (AA (vv 2) (AA Av AB)))) AB))) (by rfl) (by walk_at "i")) (@AG _ _ _ (@AK _ _ _ _ (A5 (AA CH (AA (vv 2) (AA (vv 3) (AA (vv 4) AB))))))))))),?_⟩;refine⟨p,dx,_,rfl,h1,ln3 _ _ _ _,ls,ys,d,S,R,rfl,hS,fun b H1 hb s1=>?_⟩;have R1:=R.same s1;have h11:=s1 _ _ h1;have L1:=hL.same s1;cases b with
 | true =>
  refine⟨p,dx,_,rfl,h11,ln8 _ _ _ _,ls,ys,d,S,R1,rfl,hS,h0,fun k H2 hk2 s2=>⟨smq rfl,fun t ht=>?_⟩⟩;have s3:Yc H2 (upd H2 t (.tup [.str (Str.ofString "say"),.int (AE ls k)])):=Yc.upd ht;exact q (.say (AE ls k)) _ _ ⟨hb.mp rfl,k,hk2,rfl⟩ (A8 (.of AD) (AR (by unfold Yh;rfl) (AR (by unfold Yh;rfl) Ah))) ((R1.same s2).same s3) (.same (s1.trans (s2.trans s3))) ((L1.same s2).same s3)
 | false =>
  have ho:¬One (AE ls) S.testBit:=fun o=>nomatch hb.mpr o
  dsimp only[Eu];refine⟨p,dx,_,rfl,h11,ln9 _ _ _ _,ls,ys,d,S,R1,rfl,hS,⟨n,hc⟩,ho,L1,fun j H2 hj R2 f2 L2'=>?_⟩;dsimp only[Aa];obtain⟨y1,y2⟩:=Do hj.mem;obtain⟨⟨a1,a2,a3⟩,b1,b2,b3⟩:=FG hS hc y2 hk;obtain⟨n1,n2⟩:=WT y2;obtain⟨dx2,tl2,yl2,al2,as2,kvs2,k2,_⟩:=id R2.at_;refine⟨p,dx2,_,rfl,k2,ln7 _ _ _ _,ls,ys,d,S,j,_,R2,rfl,rfl,y1,?_⟩;refine⟨ls,ys,d,_,R2,rfl,b1,n2,⟨n,b2⟩,b3,L2',fun tn vn H3 bt3 rp3 R3 f3 L3=>?_⟩;dsimp only[Aa];obtain⟨dx3,tl3,yl3,al3,as3,kvs3,k3,_⟩:=id R3.at_;refine⟨p,dx3,_,rfl,k3,ln7 _ _ _ _,ls,ys,d,S,j,_,R3,rfl,rfl,y1,?_⟩;refine⟨ls,ys,d,_,R3,rfl,a1,n1,⟨n,a2⟩,a3,L3,fun ty vy H4 bt4 rp4 R4 f4 L4=>⟨smq rfl,fun t ht=>?_⟩⟩;have O3:=Nm (Vg R3) (QQ L3);have s5:Yc H4 (upd H4 t (.tup [.str (Str.ofString "ask"),.int (j:Nat),vn,vy])):=Yc.upd ht;refine q (.ask j tn ty) _ _ ⟨ho,hj,bt3,bt4⟩ ?_ (R4.same s5) ((FrX.same s1).trans (f2.trans (f3.trans (f4.trans (.same s5))))) (L4.same s5);exact A8 (.of AD) (AR (by unfold Yh;rfl) (AR (by unfold Yh;rfl) (AR (Yh.same s5 _ _ (f4.rep O3 tn.tups rp3)) (AR (Yh.same s5 _ _ rp4) Ah))))
theorem NS(B:BMn mg base):∀c:Nat,Xa P w base T.z48 (78+c) (Cm K T.C_Reckoner T.p_z16 c)
 | 0=>by
  have no:∀vs H Q E,¬Cm K T.C_Reckoner T.p_z16 0 vs H Q E:=fun vs H Q E h=>by
   unfold Cm at h;split at h
   ·obtain⟨ls,ys,d,S,_,_,_,_,_,z,_⟩:=h;exact absurd z (ZBQ _)
   ·exact h
  exact⟨fun vs H Q E h=>(no _ _ _ _ h).elim,fun A outer s H args us vs Q E _ _ _ _ h=>(no _ _ _ _ h).elim⟩
 | c+1=>Vk T B c (NS B c)
theorem UX(B:BMn mg base):Xa P w base T.z48 95 (Cm K T.C_Reckoner T.p_z16 17):=NS T B 17
def B8(ls:List Int)(ys:List Nat)(S j X:Nat):Prop :=
 (X=S &&& ys.getD j 0/\Ac ls ys (S - (S &&& ys.getD j 0)) < Ac ls ys (S &&& ys.getD j 0))\/(X=S - (S &&& ys.getD j 0)/\Ac ls ys (S &&& ys.getD j 0)<=Ac ls ys (S - (S &&& ys.getD j 0)))
section
variable {ls:List Int}{ys:List Nat}{S X Y j n:Nat}
theorem U6(a:B8 ls ys S j X)(b:B8 ls ys S j Y):X=Y:=by
 rcases a with ⟨e,a⟩ | ⟨e,a⟩ <;> rcases b with ⟨f,b⟩ | ⟨f,b⟩ <;> lia
theorem U3(h:B8 ls ys S j X):Ac ls ys X=wst ls ys S j:=by
 unfold wst
 rcases h with ⟨rfl,h⟩ | ⟨rfl,h⟩ <;> lia
theorem OY(h:B8 ls ys S j X)(hS:S < 2 ^ n):X < 2 ^ n:=by
 have:=ZBs (n:=S) (m:=ys.getD j 0)
 rcases h with ⟨e,_⟩ | ⟨e,_⟩ <;> lia
theorem PY(h:B8 ls ys S j X)(hc:Can (AE ls) (AX ys) n S.testBit):Can (AE ls) (AX ys) n X.testBit:=by
 obtain⟨c1,c2⟩:=ES (ys.getD j 0) hc
 rcases h with ⟨rfl,_⟩ | ⟨rfl,_⟩
 ·exact c1
 ·exact c2
theorem Pk(hj:j < ys.length)(hc:Can (AE ls) (AX ys) n S.testBit):Ac ls ys S<=1+wst ls ys S j:=by
 obtain⟨c1,c2⟩:=ES (ys.getD j 0) hc;have c0:=Cb hc;have c1:=Cb c1;have c2:=Cb c2;unfold wst;generalize Ac ls ys (S &&& ys.getD j 0)=b at *;generalize Ac ls ys (S - (S &&& ys.getD j 0))=e at *;rw[C1]at c1;rw[CL]at c2;refine Vq (y:=(ys.getD j 0).testBit) (ZK.mpr ⟨_,?_,rfl⟩) c0 c1 c2;rw[ZV,ZE hj];exact Zk hj
end
def JZ(K:W.Frag)(C:Addr):Sp:=fun vs H Q _=>match vs with
 | [.ref p,.int z,.int i]=>∃ls ys d S j,RkAt K C ls ys H p d/\z=(S:Nat)/\S < 2 ^ ls.length/\(∃n,Can (AE ls) (AX ys) n S.testBit)/\i=(j:Nat)/\j < ys.length /\
  ∀(X:Nat) H',B8 ls ys S j X->RkAt K C ls ys H' p d->Yl d H H'->Q (.int (X:Nat)) H'
 | _=>False
theorem Ta:Xb P w mg base T.z22 73 (JZ K T.C_Reckoner):=by
 have G_z29:=@Ij P w K mg base T;have G_z19:=@HE P w K mg base T;refine T.z22.F.ok sc_z22 (fun vs H Q E h=>by unfold JZ at h;walk_at "e") ?_;walk_at "f";have hr_z29:=hr.mono (show 1<=_ by decide);have hr_z19:=hr.mono (show 72<=_ by decide);unfold JZ at h;walk_at "g"
 rename_i p z i;obtain⟨ls,ys,d,S,j,R,e1,hS,⟨n,hc⟩,e2,hj,q⟩:=h;subst e1 e2;have l16:=R.l16;have hy:ys[j]? = some (ys.getD j 0):=by rw[ZV,ZE hj];rfl
 obtain⟨c1,c2⟩:=ES (ys.getD j 0) hc;have hle:=ZBs (n:=S) (m:=ys.getD j 0);have cd:∀U:Nat,As ls.length U.testBit < 17:=fun U=>by have:=Dz ls.length U.testBit;lia
 obtain⟨dx,tl,yl,al,as,Yd,h1,_⟩:=id R.at_;refine⟨_,(@AF _ _ _ _ _ (@AN _ _ 3 _ _ _ _ sc_z22.nd rfl (by right) (An (vv 0) T.cl_Reckoner T.z29.m G_z29 hr_z29 T.z29.b .nil AH (AA (vv 1) (AA (vv 2) (AA Av AB)))) (by rfl) (by walk_at "i")) (@AF _ _ _ _ _ (@AN _ _ 4 _ _ _ _ sc_z22.nd rfl (by right) (An (vv 0) T.cl_Reckoner T.z29.m G_z29 hr_z29 T.z29.b .nil AH (AA (vv 1) (AA (vv 2) (AA Av AB)))) (by rfl) (by walk_at "i")) (@AG _ _ _ (@AK _ _ _ _ (Cu (AV Bg (An (vv 0) T.cl_Reckoner T.z19.m G_z19 hr_z19 T.z19.b .nil AH (AA (vv 4) AB)) (An (vv 0) T.cl_Reckoner T.z19.m G_z19 hr_z19 T.z19.b .nil AH (AA (vv 3) AB))) (vv 4) (vv 3)))))),?_⟩;refine⟨p,dx,_,rfl,h1,ln7 _ _ _ _,ls,ys,d,S,j,_,R,rfl,rfl,hy,?_⟩;dsimp only[Aa];refine⟨p,dx,_,rfl,h1,ln7 _ _ _ _,ls,ys,d,S,j,_,R,rfl,rfl,hy,?_⟩;dsimp only[Aa];refine⟨p,dx,_,rfl,h1,ln1 _ _ _ _,ls,ys,d,S &&& ys.getD j 0,R,rfl,by lia,⟨n,c1⟩,cd _,fun b H1 f1 R1 fr1=>?_⟩;obtain⟨dx1,tl1,yl1,al1,as1,kvs1,k1,_⟩:=id R1.at_;refine⟨p,dx1,_,rfl,k1,ln1 _ _ _ _,ls,ys,d,S - (S &&& ys.getD j 0),R1,rfl,by lia,⟨n,c2⟩,cd _,fun e H2 f2 R2 fr2=>?_⟩;have e1:=C4 f1;have e2:=C4 f2;refine AY (fun x=>?_) (fun x=>?_)
 ·have x':e < b:=by have:=ZM x;lia
  exact q _ H2 (.inl ⟨rfl,by lia⟩) R2 (fr1.trans fr2)
 ·have x':¬e < b:=fun w=>x (ZL (by lia))
  exact q _ H2 (.inr ⟨rfl,by lia⟩) R2 (fr1.trans fr2)
def Dg(K:W.Frag)(C:Addr):Sp:=fun vs H Q _=>match vs with
 | [.ref p,.int z]=>∃ls ys d S,RkAt K C ls ys H p d/\z=(S:Nat)/\S < 2 ^ ls.length/\(∃n,Can (AE ls) (AX ys) n S.testBit) /\
  ∀(Xs:List Nat) l H',Xs.length=ys.length->(∀j X,Xs[j]? = some X->B8 ls ys S j X)->RkAt K C ls ys H' p d->Yl d H H'->H l=none->H' l=some (.lst (iL Xs))->Q (.ref l) H'
 | _=>False
theorem Wg:AM (Dg K C):=fun vs H Q Q' E h q=>by
 unfold Dg at *;walk_at "q"
theorem KN{l:Addr}(f:Yl d H H')(hd:H' d=some o)(h:H' l=none):H l=none:=by
 cases e:H l with
 | none=>rfl
 | some u =>
  have hl:l≠d:=fun z=>by rw[z,hd]at h;cases h
  rw[f l u hl e]at h;cases h
theorem UV:Xb P w mg base T.z20 74 (Dg K T.C_Reckoner):=by
 refine T.z20.F.ok VW (fun vs H Q E h=>by unfold Dg at h;walk_at "e") ?_;walk_at "f";unfold Dg at h;walk_at "g"
 rename_i p z;obtain⟨ls,ys,d,S,R,e1,hS,hc,q⟩:=h;subst e1;have y16:=R.y16;obtain⟨dx,tl,yl,al,as,Yd,h1,h2,h3,_⟩:=id R.at_;refine⟨_,(@AG _ _ _ (@AK _ _ _ _ (@Ao _ _ _ _ _ _ _ (["question","self","things"]) 1 ([0,1]) _ _ _ _ rfl (BR rfl T.z_range (AA (AZ (At (K:=K)) rfl T.z_len (by rfl) (AA (BE T.cl_Reckoner T.na_Reckoner_yeses (vv 0)) AB)) AB)) (by kernel_rfl) rfl rfl (by kernel_rfl) (fun c=>AQ (i:=0) (show(["question","self","things"]:List Str).Nodup by decide +kernel) rfl (by right)) (Af (by decide)) (fun c=>BB) (fun c=>(An (vv 1) T.cl_Reckoner T.z22.m (@Ta P w K mg base T) (hr.mono (show 73<=_ by decide)) T.z22.b .nil AH (AA (vv 2) (AA (vv 0) AB)))) (by intro _;rfl)))),?_⟩;refine⟨dx,_,_,h1,lk2 _ _ _ _,ys.length,.inl ⟨_,.of h3,by rw[Ab]⟩,ys.length,rfl,by lia,by lia,?_⟩;rw[Zm];refine B7 (fun k zs H'=>RkAt K T.C_Reckoner ls ys H' p d/\Yl d H H'/\∃Xs:List Nat,zs=iL Xs/\Xs.length=k/\∀j X,Xs[j]? = some X->B8 ls ys S j X) ⟨R,Yl.refl,[],rfl,rfl,fun j X z=>by simp at z⟩ (fun k zs H' hk ⟨_,_,Xs,e,hl,_⟩=>by rw[e,Ab,hl];exact Al (by lia)) ?_ ?_
 ·rintro k zs H1 hk ⟨R1,f1,Xs,rfl,hl,hX⟩;have e0:(0:Int)+(k:Int)=((k:Nat):Int):=by lia
  rw[e0];obtain⟨dx1,tl1,yl1,al1,as1,kvs1,k1,_⟩:=id R1.at_;refine⟨p,dx1,_,rfl,k1,ln6 _ _ _ _,ls,ys,d,S,k,R1,rfl,hS,hc,rfl,hk,fun X H2 hx R2 f2=>?_⟩;refine⟨R2,f1.trans f2,Xs++[X],by rw[BW];rfl,by rw[ZU,hl];rfl,fun j Y hj=>?_⟩
  rcases ZBW j Xs.length with z | z | z
  ·rw[ZBP z]at hj;exact hX j Y hj
  ·subst z;rw[ZBL (ZD _),ZBt]at hj;cases hj;rw[hl];exact hx
  ·rw[ZB9 (by rw[ZU];show Xs.length+1<=j;lia)]at hj;cases hj
 ·rintro zs H1 ⟨R1,f1,Xs,rfl,hl,hX⟩ l nl;obtain⟨dx1,tl1,yl1,al1,as1,kvs1,_,_,_,_,k5,_⟩:=id R1.at_;have s2:Yc H1 (upd H1 l (.lst (iL Xs))):=Yc.upd nl;exact q Xs l _ hl hX (R1.same s2) (f1.trans (Aw s2)) (KN f1 k5 nl) AD
def kvE(es:List (Nat × Nat)):List (Key × V):=es.map fun e=>((Sum.inl (e.1:Int):Key),V.int (e.2:Int))
theorem KG:∀(es:List (Nat × Nat)) (S:Nat),(valV (kvE es) (Sum.inl (S:Int):Key)).isSome=decide (S∈es.map (·.1))
 | [],S=>rfl
 | e::es,S=>by
  by_cases z:e.1=S
  ·have:valV (kvE (e::es)) (Sum.inl (S:Int):Key)=some (V.int (e.2:Int)):=Bl (by rw[<- z])
   rw[this];simp[z]
  ·have:valV (kvE (e::es)) (Sum.inl (S:Int):Key)=valV (kvE es) (Sum.inl (S:Int):Key):=Bk (fun q=>z (by injection q with q;lia))
   rw[this,KG es S];simp[Ne.symm z]
theorem U5{es:List (Nat × Nat)}(h:S∉es.map (·.1)):Ae (kvE es) (Sum.inl (S:Int):Key) (V.int (m:Int))=kvE (es++[(S,m)]):=by
 unfold Ae;rw[if_neg]
 ·unfold kvE;rw[ZR];rfl
 ·intro z;obtain⟨x,hx,e⟩:=ZBM.mp z;obtain⟨a,ha,rfl⟩:=ZK.mp hx;have e:(Sum.inl (a.1:Int):Key)=Sum.inl (S:Int):=ZM e;injection e with e
  exact h (ZK.mpr ⟨a,ha,by lia⟩)
structure PInv(ls:List Int)(ys:List Nat)(n S0:Nat)(es:List (Nat × Nat))(pd:List Nat):Prop where
 nd:(es.map (·.1)).Nodup
 ok:∀e∈es,e.1 < 2 ^ ls.length/\Can (AE ls) (AX ys) n e.1.testBit/\0 < e.2/\e.2=Ac ls ys e.1
 cl:∀e∈es,1 < e.2->∀j X,j < ys.length->B8 ls ys e.1 j X->X∈es.map (·.1)\/X∈pd
 pe:∀X∈pd,X < 2 ^ ls.length/\Can (AE ls) (AX ys) n X.testBit
 top:S0∈es.map (·.1)\/S0∈pd\/Ac ls ys S0=0
section
variable {ls:List Int}{ys:List Nat}{n S0 X:Nat}{es:List (Nat × Nat)}{pd more:List Nat}
theorem PInv.skip(h:PInv ls ys n S0 es (X::pd))(hx:X∈es.map (·.1)\/Ac ls ys X=0):PInv ls ys n S0 es pd:=by
 refine⟨h.nd,h.ok,fun e he h1 j Y hj hY=>?_,fun Y hY=>h.pe Y (ZW _ hY),?_⟩
 ·rcases h.cl e he h1 j Y hj hY with z | z
  ·exact .inl z
  ·rcases ZH.mp z with z | z
   ·subst z
    rcases hx with hx | hx
    ·exact .inl hx
    ·obtain⟨_,c2,_,c4⟩:=h.ok e he;have a1:=Pk hj c2;have a2:=U3 hY;lia
   ·exact .inr z
 ·rcases h.top with z | z | z
  ·exact .inl z
  ·rcases ZH.mp z with z | z
   ·subst z
    rcases hx with hx | hx
    ·exact .inl hx
    ·exact .inr (.inr hx)
   ·exact .inr (.inl z)
  ·exact .inr (.inr z)
theorem PInv.enter(h:PInv ls ys n S0 es (X::pd))(hx:X∉es.map (·.1))(h0:0 < Ac ls ys X)(h1:1 < Ac ls ys X->∀j Y,j < ys.length->B8 ls ys X j Y->Y∈more)(h2:∀Y∈more,Y < 2 ^ ls.length/\Can (AE ls) (AX ys) n Y.testBit):PInv ls ys n S0 (es++[(X,Ac ls ys X)]) (pd++more):=by
 have hX:=h.pe X (Zb ..);have em:(es++[(X,Ac ls ys X)]).map (·.1)=es.map (·.1)++[X]:=by rw[ZR];rfl
 have old:∀{Y},Y∈es.map (·.1)\/Y∈X::pd->Y∈es.map (·.1)++[X]\/Y∈pd++more:=fun {Y} z=>by
  rcases z with z | z
  ·exact .inl (Zt _ z)
  ·rcases ZH.mp z with z | z
   ·exact .inl (ZY _ (by rw[z];exact ZI.mpr rfl))
   ·exact .inr (Zt _ z)
 refine⟨?_,fun e he=>?_,fun e he e1 j Y hj hY=>?_,fun Y hY=>?_,?_⟩
 ·rw[em,ZBv];refine⟨h.nd,by simp,fun a ha b hb q=>?_⟩;rw[ZI.mp hb]at q;exact hx (q ▸ ha)
 ·rcases Ze.mp he with z | z
  ·exact h.ok e z
  ·rw[ZI.mp z];exact⟨hX.1,hX.2,h0,rfl⟩
 ·rw[em]
  rcases Ze.mp he with z | z
  ·exact old (h.cl e z e1 j Y hj hY)
  ·rw[ZI.mp z]at e1 hY;exact .inr (ZY _ (h1 e1 j Y hj hY))
 ·rcases Ze.mp hY with z | z
  ·exact h.pe Y (ZW _ z)
  ·exact h2 Y z
 ·rw[em]
  rcases h.top with z | z | z
  ·exact .inl (Zt _ z)
  ·rcases old (.inr z) with z | z
   ·exact .inl z
   ·exact .inr (.inl z)
  ·exact .inr (.inr z)
theorem PInv.len(h:PInv ls ys n S0 es pd)(h16:ls.length<=16):es.length<=65536:=by
 have:=Cj (2 ^ ls.length) (es.map (·.1)) h.nd (fun x hx=>by
  obtain⟨e,he,rfl⟩:=ZK.mp hx;exact(h.ok e he).1)
 rw[ZC]at this;have h2:2 ^ ls.length<=2 ^ 16:=Zp (by decide) h16;have h3:(2:Nat) ^ 16=65536:=by decide
 lia
end
theorem Lh{H2:Hp}(R:RkAt K C ls ys H p d)(R':RkAt K C ls ys H' p d)(f:Yl d H H')(nb:H b=none)(a:∀c,c≠b->H2 c=H' c):RkAt K C ls ys H2 p d:=by
 obtain⟨dx,tl,yl,al,as,Yd,h1,h2,h3,h4,h5,_⟩:=R.at_;obtain⟨dx',tl',yl',al',as',kvs',k1,k2,k3,k4,k5,k6,k7,k8⟩:=R'.at_;have e:=f _ _ (BO h1 h5 (by intro z;cases z)) h1;rw[k1]at e;have e:=ZS e;injection e with _ e1 e2
 have g1:some (V.ref tl')=some (V.ref tl):=by rw[<- lk1 (.ref tl') (.ref yl') (.ref al') (.ref d),e2,lk1]
 have g2:some (V.ref yl')=some (V.ref yl):=by rw[<- lk2 (.ref tl') (.ref yl') (.ref al') (.ref d),e2,lk2]
 have g3:some (V.ref al')=some (V.ref al):=by rw[<- lk3 (.ref tl') (.ref yl') (.ref al') (.ref d),e2,lk3]
 cases g1;cases g2;cases g3
 have st:∀{c:Addr} {u v:HO},H c=some u->H' c=some v->H2 c=some v:=fun {c u v} e1 e2=>by
  rw[a c (BX e1 nb)];exact e2
 refine⟨⟨dx',tl,yl,al,as',kvs',st h1 k1,?_,st h3 k3,st h4 k4,st h5 k5,k6,k7,k8⟩,R.l16,R.y16⟩
 have go:H tl≠none->Ys K H2 tl (ls.map V.int):=fun hn=>by
  have Yw:tl≠b:=fun z=>hn (by rw[z];exact nb)
  exact FR k2 fun u e=>by rw[a _ Yw];exact e
 rcases h2 with (h2 | ⟨_,h2⟩) | h2
 ·exact go (by rw[h2];simp)
 ·exact go (by rw[h2];simp)
 ·exact .inr h2
theorem Ko(R:RkAt K C ls ys H p d)(R':RkAt K C ls ys H' p d)(f:Yl d H H')(nb:H b=none):RkAt K C ls ys (upd H' b o) p d:=Lh R R' f nb fun c h=>AI h
theorem Mb(f:Yl d H H')(nb:H b=none):Yl d H (upd H' b o):=fun c u n e=>by
 rw[AI (BX e nb)];exact f c u n e
def Fp(e:Nat × Nat):Dv:=.tup [.tup (iD (Ci e.1)),.int (e.2:Nat)]
def FO(es:List (Nat × Nat)):Dv:=.tup (es.map Fp)
def JG(K:W.Frag)(C:Addr):Sp:=fun vs H Q _=>match vs with
 | [.ref p,.int z]=>∃ls ys d S n,RkAt K C ls ys H p d/\z=(S:Nat)/\S < 2 ^ ls.length/\Can (AE ls) (AX ys) n S.testBit /\
  ∀es v H',PInv ls ys n S es []->Yh K H' (FO es) v->RkAt K C ls ys H' p d->Yl d H H'->Q v H'
 | _=>False
theorem WW:Xa P w base T.z43 75 (JG K T.C_Reckoner):=by
 refine T.z43.F.ok sc_z43 (fun vs H Q E h=>by unfold JG at h;walk_at "e") ?_;walk_at "f";have mo1:AM (BM K T.C_Reckoner 17):=NU;have mo2:AM (Dg K T.C_Reckoner):=Wg;have mo3:AM (Da K):=Vu;unfold JG at h;walk_at "g"
 rename_i p z;obtain⟨ls,ys,d,S,n,R,e1,hS,hc,q⟩:=h;subst e1;have l16:=R.l16;have y16:=R.y16;obtain⟨dx,tl,yl,al,as,Yd,h1,_,_,_,hd0,_⟩:=id R.at_;have h60:2 ^ ls.length<=2 ^ 60:=Zp (by decide) (by lia);have cd:∀U:Nat,As ls.length U.testBit < 17:=fun U=>by have:=Dz ls.length U.testBit;lia
 refine⟨_,(@AF _ _ _ _ _ (@AN _ _ 2 _ _ _ _ sc_z43.nd rfl (by right) FJ (by rfl) (by walk_at "i")) (@AF _ _ _ _ _ (@AN _ _ 3 _ _ _ _ sc_z43.nd rfl (by right) (@BY _ _ _ _ (AA (vv 1) AB)) (by rfl) (by walk_at "i")) (@AF _ _ _ _ _ (@GE _ _ _ _ _ _ PassesOwn.never (AV Bg (AZ (At (K:=K)) rfl T.z_len (by rfl) (AA (vv 3) AB)) AC) (@AF _ _ _ _ _ (@AN _ _ 4 _ _ _ _ sc_z43.nd rfl (by right) (@BY _ _ _ _ AB) (by rfl) (by walk_at "i")) (@AF _ _ _ _ _ (@Be _ _ _ _ _ _ _ _ PassesOwn.never rfl (BA (K:=K) (vv 3)) (AQ (i:=5) sc_z43.nd rfl (by right)) (@AF _ _ _ _ _ (@AN _ _ 6 _ _ _ _ sc_z43.nd rfl (by right) (An (vv 0) T.cl_Reckoner T.z19.m (@HE P w K mg base T) (hr.mono (show 72<=_ by decide)) T.z19.b .nil AH (AA (vv 5) AB)) (by rfl) (by walk_at "i")) (@AG _ _ _ (@Am _ _ _ _ _ _ _ _ (PW.pt (Bm (AV Bg (vv 6) AC) (Bq (AV (Fd hu) (vv 5) (vv 2))))) (@AF _ _ _ _ _ (@Ez _ _ _ _ _ _ _ _ _ (CG hu) (vv 2) (vv 5) (vv 6) (by rfl)) (@AG _ _ _ (@DJ _ _ _ _ (T3 (K:=K) (vv 4) (AA (Cu (AV Bg (vv 6) AC) (An (vv 0) T.cl_Reckoner T.z20.m (@UV P w K mg base T) (hr.mono (show 74<=_ by decide)) T.z20.b .nil AH (AA (vv 5) AB)) (@BY _ _ _ _ AB)) AB)) (by rfl)))) Aq))) (by intro _;rfl)) (@AG _ _ _ (@AN _ _ 3 _ _ _ _ sc_z43.nd rfl (by right) (vv 4) (by rfl) (by walk_at "i")))))) (@AG _ _ _ (@AK _ _ _ _ (Bb (CM (K:=K)) rfl T.z_tuple (by rfl) (AA (Ao (N':=["each","number"]) (own:=2) (ix:=[]) rfl (Ih (vv 2)) (by kernel_rfl) rfl rfl (by kernel_rfl) (fun c=>Dy (K:=K) (n:=2) rfl (BP (AQ (i:=0) (show(["each","number"]:List Str).Nodup by decide +kernel) rfl (by right)) (BP (AQ (i:=1) (show(["each","number"]:List Str).Nodup by decide +kernel) rfl (by right)) Cf))) (D6 (Bu BG (DG BG Bo) (Af (by decide)) (Bu BG Bo (Af (by decide)) Dm))) (fun c=>BB) (fun c=>(A5 (AA (AL (@Ng P w K mg base T) (hr.mono (show 4<=_ by decide)) rfl T.z44.m T.z44.F.kp T.z44.b .nil AH (AA (vv 0) AB)) (AA (vv 1) AB))))) AB))))))),?_⟩;intro E' nE;dsimp only[Aa];have s1:Yc H (upd H E' (.dK [])):=Yc.upd nE;have gE1:upd H E' (.dK []) E'=some (.dK (kvE [])):=AD;generalize upd H E' (.dK [])=H1 at *;refine⟨smq rfl,fun l nl=>?_⟩;dsimp only[Aa];have nl0:H l=none:=s1.free nl;have s2:Yc H1 (upd H1 l (.lst [.int (S:Int)])):=Yc.upd nl;have gl2:upd H1 l (.lst [.int (S:Int)]) l=some (.lst (iL [S])):=AD;have gE2:=s2 _ _ gE1;have S2:=s1.trans s2;generalize upd H1 l (.lst [.int (S:Int)])=H2 at *;have P2:PInv ls ys n S [] [S]:=⟨List.nodup_nil,(fun e he=>by cases he),(fun e he=>by cases he),fun X hX=>by rw[ZI.mp hX];exact⟨hS,hc⟩,.inr (.inl (ZI.mpr rfl))⟩;have R2:=R.same S2;have neD:∀{b:Addr},H b=none->b≠d:=fun {b} nb z=>by rw[z,hd0]at nb;cases nb
 refine Aj (fun σ H'=>∃(es:List (Nat × Nat)) (z3 z4 z5 z6:Option V),σ=[some (.ref p),some (.int (S:Nat)),some (.ref E'),z3,z4,z5,z6]/\RkAt K T.C_Reckoner ls ys H' p d/\Yl d H H'/\H' E'=some (.dK (kvE es))/\PInv ls ys n S es []) ?_ ?_ (by walk_at "sm")
 ·refine⟨fun mm σ H'=>∃(es:List (Nat × Nat)) (Ls:List Nat) (l:Addr) (z4 z5 z6:Option V),mm=(65536 - es.length) * 2+(if Ls=[] then 0 else 1)/\σ=[some (.ref p),some (.int (S:Nat)),some (.ref E'),some (.ref l),z4,z5,z6]/\RkAt K T.C_Reckoner ls ys H' p d/\Yl d H H'/\H' E'=some (.dK (kvE es))/\H l=none/\H' l=some (.lst (iL Ls))/\PInv ls ys n S es Ls,
   ⟨_,[],[S],l,none,none,none,rfl,rfl,R2,Aw S2,gE2,nl0,gl2,P2⟩,?_⟩
  rintro mm σ H3 ⟨es,Ls,l,z4,z5,z6,rfl,rfl,R3,f3,gE3,nl,gl3,P3⟩;have hE3:=P3.len l16;refine⟨Ls.length,.inl ⟨_,.of gl3,by rw[Ab]⟩,?_⟩;refine AY (fun e=>?_) (fun e=>?_);rotate_left
  ·have hz:Ls=[]:=by
    have:¬(0:Int) < (Ls.length:Int):=fun z=>e (ZL z)
    exact List.eq_nil_of_length_eq_zero (by lia)
   subst hz;exact⟨es,_,_,_,_,rfl,R3,f3,gE3,P3⟩
  have hpos:Ls≠[]:=fun z=>by
   have:(0:Int) < (Ls.length:Int):=ZM e
   rw[z]at this;simp at this
  refine⟨ZP _,fun b nb=>?_⟩;dsimp only[Aa];obtain⟨_,_,_,_,_,_,_,_,_,_,hd3,_⟩:=id R3.at_;have nb0:H b=none:=KN f3 hd3 nb;have s4:Yc H3 (upd H3 b (.lst [])):=Yc.upd nb;have gb4:upd H3 b (.lst []) b=some (.lst (iL [])):=AD;have hbl:b≠l:=fun z=>by rw[z,gl3]at nb;cases nb
  have hbE:b≠E':=fun z=>by rw[z,gE3]at nb;cases nb
  have hlE:l≠E':=BO gl3 gE3 (by intro z;cases z);have R4:=R3.same s4;have f4:Yl d H (upd H3 b (.lst [])):=f3.trans (Aw s4);have gE4:=s4 _ _ gE3;have gl4:=s4 _ _ gl3;generalize upd H3 b (.lst [])=H4 at *;refine Aj (fun σ H'=>∃(es':List (Nat × Nat)) (Bs:List Nat) (z5 z6:Option V),σ=[some (.ref p),some (.int (S:Nat)),some (.ref E'),some (.ref l),some (.ref b),z5,z6]/\RkAt K T.C_Reckoner ls ys H' p d/\Yl d H H'/\H' E'=some (.dK (kvE es'))/\H' b=some (.lst (iL Bs))/\PInv ls ys n S es' Bs/\es.length<=es'.length/\(Bs≠[]->es.length < es'.length)) ?_ ?_ (by walk_at "sm");rotate_left
  ·rintro σ H5 ⟨es',Bs,z5',z6',rfl,R5,f5,gE5,gb5,P5,h5,h6⟩;have hE5:=P5.len l16;refine⟨_,?_,es',Bs,b,_,_,_,rfl,rfl,R5,f5,gE5,nb0,gb5,P5⟩;rw[if_neg hpos]
   by_cases zb:Bs=[]
   ·rw[if_pos zb];lia
   ·rw[if_neg zb];have:=h6 zb;lia
  refine .inl ⟨⟨_,.inl (.of gl4)⟩,?_⟩
  refine Hr (xs:=iL Ls) (fun k σ H'=>∃(es':List (Nat × Nat)) (Bs:List Nat) (z5 z6:Option V),σ=[some (.ref p),some (.int (S:Nat)),some (.ref E'),some (.ref l),some (.ref b),z5,z6]/\RkAt K T.C_Reckoner ls ys H' p d/\Yl d H H'/\H' E'=some (.dK (kvE es'))/\H' l=some (.lst (iL Ls))/\H' b=some (.lst (iL Bs))/\PInv ls ys n S es' (Ls.drop k++Bs)/\es.length<=es'.length/\(Bs≠[]->es.length < es'.length)/\Bs.length<=16 * es'.length)
   ⟨es,[],_,_,rfl,R4,f4,gE4,gl4,gb4,by rw[List.drop_zero,Zj];exact P3,ZD _,fun z=>absurd rfl z,ZP _⟩ (fun k σ H' _ ⟨_,_,_,_,_,_,_,_,g,_⟩=>.inl (.of g)) ?_ ?_
  rotate_left
  ·rintro σ H5 ⟨es',Bs,z5',z6',rfl,R5,f5,gE5,_,gb5,P5,h5,h6,_⟩;rw[Ab,List.drop_length,List.nil_append]at P5;exact⟨es',Bs,_,_,rfl,R5,f5,gE5,gb5,P5,h5,h6⟩
  rintro k xv σ H5 hxk ⟨es',Bs,z5',z6',rfl,R5,f5,gE5,gl5,gb5,P5,h5,h6,h7⟩;obtain⟨X,hX,_,rfl⟩:=Bt hxk;have hk:=(Zg.mp hX).1
  have ed:Ls.drop k++Bs=X::(Ls.drop (k+1)++Bs):=by
   rw[List.drop_eq_getElem_cons hk,(Zg.mp hX).2];rfl
  rw[ed]at P5;obtain⟨hX1,hX2⟩:=P5.pe X (Zb ..);obtain⟨dx5,tl5,yl5,al5,as5,kvs5,k1,_,_,_,k5,_⟩:=id R5.at_;dsimp only[Aa];refine⟨p,dx5,_,rfl,k1,ln1 _ _ _ _,ls,ys,d,X,R5,rfl,hX1,⟨n,hX2⟩,cd X,fun m H6 hm R6 fr6=>?_⟩;dsimp only[Aa];have em:=C4 hm;have f6:Yl d H H6:=f5.trans fr6;have gE6:=fr6 _ _ (neD nE) gE5;have gl6:=fr6 _ _ (neD nl) gl5;have gb6:=fr6 _ _ (neD nb0) gb5;clear k1 k5 fr6;refine AY (fun e1=>?_) (fun e1=>?_);rotate_left
  ·have m0:m=0:=by
    have:¬(0:Int) < (m:Int):=fun z=>e1 (ZL z)
    lia
   exact⟨es',Bs,_,_,rfl,R6,f6,gE6,gl6,gb6,P5.skip (.inr (by lia)),h5,h6,h7⟩
  have m0:0 < m:=by
   have:(0:Int) < (m:Int):=ZM e1
   lia
  have hsome:=KG es' X;refine⟨valV (kvE es') (Sum.inl (X:Int):Key),DGet.k (k:=Sum.inl (X:Int)) gE6,?_⟩;cases e2:valV (kvE es') (Sum.inl (X:Int):Key) with
  | some v =>
   rw[e2]at hsome;have hin:X∈es'.map (·.1):=ZM hsome.symm;exact⟨es',Bs,_,_,rfl,R6,f6,gE6,gl6,gb6,P5.skip (.inl hin),h5,h6,h7⟩
  | none =>
   rw[e2]at hsome;have hnin:X∉es'.map (·.1):=of_decide_eq_false hsome.symm;have hE6:=P5.len l16;refine⟨E',_,rfl,DPut.k (k:=Sum.inl (X:Int)) gE6 (by unfold kvE;rw[ZC,sizeLine_eq];lia),?_⟩;rw[U5 hnin];have R7:=Ko R R6 f6 nE (o:=.dK (kvE (es'++[(X,m)])));have f7:=Mb f6 nE (o:=.dK (kvE (es'++[(X,m)])));have gE7:upd H6 E' (.dK (kvE (es'++[(X,m)]))) E'=some (.dK (kvE (es'++[(X,m)]))):=AD;have gl7:upd H6 E' (.dK (kvE (es'++[(X,m)]))) l=_:=(AI hlE).trans gl6;have gb7:upd H6 E' (.dK (kvE (es'++[(X,m)]))) b=_:=(AI hbE).trans gb6;generalize upd H6 E' (.dK (kvE (es'++[(X,m)])))=H7 at *;have len1:(es'++[(X,m)]).length=es'.length+1:=by rw[ZU];rfl
   refine⟨.inl ⟨rfl,_,.of gb7⟩,?_⟩
   have fin:∀(Xs:List Nat) (l2:Addr) (H8:Hp),Xs.length<=16->(1 < m->∀j Y,j < ys.length->B8 ls ys X j Y->Y∈Xs)->(∀Y∈Xs,Y < 2 ^ ls.length/\Can (AE ls) (AX ys) n Y.testBit)->RkAt K T.C_Reckoner ls ys H8 p d->Yl d H7 H8->H7 l2=none->H8 l2=some (.lst (iL Xs)) ->
    EW K (.ref b) [.ref l2] H8 fun _ H9=>∃(es':List (Nat × Nat)) (Bs:List Nat) (z5 z6:Option V),[some (V.ref p),some (.int (S:Nat)),some (.ref E'),some (.ref l),some (.ref b),some (.int (X:Nat)),some (.int (m:Nat))]=[some (.ref p),some (.int (S:Nat)),some (.ref E'),some (.ref l),some (.ref b),z5,z6]/\RkAt K T.C_Reckoner ls ys H9 p d/\Yl d H H9/\H9 E'=some (.dK (kvE es'))/\H9 l=some (.lst (iL Ls))/\H9 b=some (.lst (iL Bs))/\PInv ls ys n S es' (Ls.drop (k+1)++Bs)/\es.length<=es'.length/\(Bs≠[]->es.length < es'.length)/\Bs.length<=16 * es'.length:=by
    intro Xs l2 H8 hl2 hx1 hx2 R8 fr8 n2 g2;have f8:Yl d H H8:=f7.trans fr8;have gE8:=fr8 _ _ (neD nE) gE7;have gl8:=fr8 _ _ (neD nl) gl7;have gb8:=fr8 _ _ (neD nb0) gb7;refine⟨iL Bs,iL Xs,gb8,.of g2,(fun z=>by rw[z,gb7]at n2;cases n2),by rw[Ab,Ab];lia,es'++[(X,m)],Bs++Xs,_,_,rfl,Ko R R8 f8 nb0,Mb f8 nb0,?_,?_,?_,?_,by lia,fun _=>by lia,by rw[ZU];lia⟩
    ·rw[AI (Ne.symm hbE)];exact gE8
    ·rw[AI (Ne.symm hbl)];exact gl8
    ·rw[AD,BW]
    ·rw[<- List.append_assoc,<- em];exact P5.enter hnin (by lia) (by rw[em];exact hx1) hx2
   refine AY (fun e3=>?_) (fun e3=>?_)
   ·have m1:1 < m:=by
     have:(1:Int) < (m:Int):=ZM e3
     lia
    obtain⟨dx7,tl7,yl7,al7,as7,kvs7,k1,_⟩:=id R7.at_;refine⟨p,dx7,_,rfl,k1,lnA _ _ _ _,ls,ys,d,X,R7,rfl,hX1,⟨n,hX2⟩,fun Xs l2 H8 hl2 hXs R8 fr8 n2 g2=>?_⟩;refine fin Xs l2 H8 (by lia) (fun _ j Y hj hY=>?_) (fun Y hY=>?_) R8 fr8 n2 g2
    ·have hj':j < Xs.length:=by lia
     rw[U6 hY (hXs j _ (ZE hj'))];exact Zk hj'
    ·obtain⟨j,hj,ej⟩:=Zq hY;have hh:=hXs j Y (by rw[ZE hj,ej]);exact⟨OY hh hX1,PY hh hX2⟩
   ·have m1:¬1 < m:=fun z=>e3 (ZL (by lia))
    refine⟨ZP _,fun l2 n2=>?_⟩;have s8:Yc H7 (upd H7 l2 (.lst [])):=Yc.upd n2;exact fin [] l2 _ (ZP _) (fun z=>absurd z m1) (fun Y hY=>by cases hY) (R7.same s8) (Aw s8) n2 AD
 rintro σ H3 ⟨es,z3,z4,z5,z6,rfl,R3,f3,gE3,P3⟩;have hE3:=P3.len l16;refine .inl ⟨kvE es,gE3,fun o=>?_⟩;have a1:upd H3 E' (.frz o (.dK (kvE es))) E'=some (.frz o (.dK (kvE es))):=AD;have a2:∀b,b≠E'->upd H3 E' (.frz o (.dK (kvE es))) b=H3 b:=fun b hb=>AI hb
 generalize upd H3 E' (.frz o (.dK (kvE es)))=H4 at *;have f4:Yl d H H4:=fun c u n e=>by rw[a2 c (BX e nE)];exact f3 c u n e
 have R4:=Lh R R3 f3 nE a2
 refine K6 (Yd:=kvE es) (fun j zs H'=>Yc H4 H'/\Ye K H' ((es.take j).map Fp) zs) ⟨Yc.refl _,Ah⟩ (fun j zs H' _ ⟨s5,_⟩=>s5 _ _ a1) (fun j zs H' hj ⟨_,r⟩=>by
  unfold kvE at hj;rw[ZC]at hj;rw[<- r.length,ZC,Zf,sizeLine_eq];lia) ?_ ?_
 ·rintro j r pp zs H5 hr5 ⟨s5,r5⟩ npp;unfold kvE at hr5;rw[ZT]at hr5;obtain⟨e,he,rfl⟩:=ZBg.mp hr5;have hb:=(P3.ok e (Zo he)).1;refine⟨pp,_,rfl,.of AD,rfl,_,_,rfl,_,_,rfl,rfl,?_⟩;refine⟨e.1,rfl,by lia,fun t H6 nt s6 g6=>⟨smq rfl,fun t2 n2=>?_⟩⟩;have s7:Yc H6 (upd H6 t2 (.tup [.ref t,.int (e.2:Nat)])):=Yc.upd n2;have s0:=Yc.upd (o:=.tup [kV (Sum.inl (e.1:Int):Key),V.int (e.2:Int)]) npp;have S7:=s0.trans (s6.trans s7);refine⟨s5.trans S7,?_⟩;rw[Zr,he,ZR];exact Ye.append (Ye.same S7 _ _ r5) (AR (A8 (.of AD) (AR (A8 (.of (s7 _ _ g6)) (Fw _)) (AR (by unfold Yh;rfl) Ah))) Ah)
 ·rintro zs H5 ⟨s5,r5⟩ l2 nl2;have s6:Yc H5 (upd H5 l2 (.lst zs)):=Yc.upd nl2;refine⟨_,.inl ⟨.of AD,fun t nt=>?_⟩⟩;have S7:=s6.trans (Yc.upd (o:=.tup zs) nt);rw[show(kvE es).length=es.length by unfold kvE;rw[ZC],Zv]at r5;exact q es _ _ P3 (A8 (.of AD) (Ye.same S7 _ _ r5)) (R4.same (s5.trans S7)) (f4.trans (Aw (s5.trans S7)))
theorem Rm:Xb P w mg base T.z39 1 (JB T.C_NoEnd "one" "other"):=by
 refine T.z39.F.ok Pn (fun vs H Q E h=>by unfold JB at h;walk_at "e") (fun Yy A outer s H vs Q E hr h=>?_);unfold JB at h;walk_at "g"
 rename_i x y z;obtain⟨g,q⟩:=h;refine⟨_,(@AF _ _ _ _ _ (NZ T.xI_NoEnd T.na_NoEnd_one (vv 0) (vv 1)) (@AG _ _ _ (NZ T.xI_NoEnd T.na_NoEnd_other (vv 0) (vv 2)))),?_⟩;refine .inl ⟨g,fun d hd=>.inr ⟨d,_,?_,AD,fun e=>?_,(show 1<=1000 by decide),q d hd⟩⟩
 ·rw[AI (fun e=>by rw[<- e,g]at hd;cases hd),AD]
 ·rw[e,g]at hd;cases hd
def Lb(i j:Nat):List (Str × V):=AU "other" (.int (j:Nat)) [("one",.int (i:Nat))]
def IW(K:W.Frag)(C:Addr):Sp:=fun vs H Q E=>match vs with
 | [v]=>∃ls rs,Yh K H (gmD ls rs) v/\Gm ls rs/\(C6 ls rs->∀H',Yc H H'->Q .non H')/\∀i j,FN ls rs i j->∀d H',Yc H H'->H' d=some (XdO d (Lb i j))->E (.ref C) (some d) H'
 | _=>False
theorem PM:FnOk P w K mg base (CXE P w) 3 T.z27.f T.z27.d ["game"] (IW K T.C_NoEnd):=by
 refine T.z27.F.okE sc_z27 (fun vs H Q E h=>by unfold IW at h;walk_at "e") ?_;walk_at "f";have hr_z39:=hr.mono (show 1<=_ by decide);have hr1_z39:=hr.mono (show 1+1<=_ by decide);unfold IW at h;walk_at "g"
 rename_i v;obtain⟨ls,rs,hv,G,q1,qE⟩:=h;refine⟨_,(@AF _ _ _ _ _ (PS.nox (@AN _ _ 1 _ _ _ _ sc_z27.nd rfl (by right) (AL (@QJ P w K mg base T) (hr.mono (show 1<=_ by decide)) rfl T.z34.m T.z34.F.kp T.z34.b .nil AH (AA (vv 0) AB)) (by rfl) (by walk_at "i"))) (@AG _ _ _ (@Am _ _ _ _ _ _ _ _ (PT.nox (AV LS (vv 1) DN)) (@AG _ _ _ (Oz (W:=fun _ od H=>E (.ref T.C_NoEnd) od H) T.xI_NoEnd (@Rm P w K mg base T) hr1_z39 T.z39.b (fun _ _ _ _ _ _ I e h0 q=>Sv I e h0 q) rfl rfl rfl T.mC_NoEnd (AA (Yp (K:=K) (vv 1) AC) (AA (Yp (K:=K) (vv 1) AC) AB)))) Aq))),?_⟩;refine⟨ls,rs,hv,G,fun H1 s1 he=>q1 he H1 s1,fun i j t H1 hf _ s1 gt=>?_⟩;refine⟨_,_,.inr (.of gt),AO (n:=0) rfl rfl,_,_,.inr (.of gt),AO (n:=1) rfl rfl,(show 2<=1000 by decide),fun x0 hx0=>⟨AD,fun d hd=>?_⟩⟩;have n0:d≠x0:=fun z=>by rw[z,AD]at hd;cases hd
 rw[AI n0]at hd;refine⟨rfl,some d,by rw[AI (Ne.symm n0),AI (Ne.symm n0),AD],?_⟩;refine qE i j hf d _ (fun c u hc=>?_) ?_
 ·have hc2:=s1 _ _ hc;have n1:c≠x0:=fun z=>by rw[z,hx0]at hc2;cases hc2
  have n2:c≠d:=fun z=>by rw[z,hd]at hc2;cases hc2
  rw[GB n1,AI n2,AI n2,AI n1,AI n1];exact hc2
 ·rw[GB n0];exact AD
theorem Ip(he:C6 ls rs):∀X,X < 2 ^ ls.length->Can (AE ls) (AX (rs.map AS)) ls.length X.testBit:=fun X hX=>by
 rw[KP];exact TM (Op he) _ _ (fun k hk=>Dc hX hk) (by have:=Dz ls.length X.testBit;lia)
abbrev Cq(Pt:Addr)(H:Hp):Prop:=Yz Pt Em B4 H
def Ge(K:W.Frag)(Pt C:Addr):Sp:=fun vs H Q E=>match vs with
 | [v]=>∃ls rs,Yh K H (gmD ls rs) v/\Gm ls rs/\Cq Pt H/\(∀i j,FN ls rs i j->∀d H',Yc H H'->H' d=some (XdO d (Lb i j))->E (.ref C) (some d) H')/\(C6 ls rs ->
  ∀t es u H',DE ls (rs.map AS) t (2 ^ ls.length - 1)->PInv ls (rs.map AS) ls.length (2 ^ ls.length - 1) es []->Yh K H' (.tup [.int (Ac ls (rs.map AS) (2 ^ ls.length - 1):Nat),t.dv,FO es]) u->Yu Pt H H'->Cq Pt H'->Q u H')
 | _=>False
theorem MR:∀xs:List Nat,Ag (iD xs)=true
 | []=>by unfold iD;simp[Ag]
 | x::xs=>by
  show Ag (Dv.int (x:Nat)::iD xs)=true;unfold Ag;rw[MR xs];rfl
theorem UI(B:BMn mg base):FnOk P w K mg base (CXE P w) 96 T.z64.f T.z64.d ["game"] (Ge K T.p_z16 T.C_NoEnd):=by
 refine T.z64.F.okE sc_z64 (fun vs H Q E h=>by unfold Ge at h;walk_at "e") ?_;walk_at "f";have hr_z33:=hr.mono (show 4<=_ by decide);have hr1_z33:=hr.mono (show 4+1<=_ by decide);unfold Ge at h;walk_at "g"
 rename_i v;obtain⟨ls,rs,hv,G,hL,qE,q⟩:=h;have l1:=G.l1;have l16:=G.l16;have cd:∀U:Nat,As ls.length U.testBit < 17:=fun U=>by have:=Dz ls.length U.testBit;lia
 have hp2:=ZBy ls.length;have hp3:2 ^ 1<=2 ^ ls.length:=Zp (by decide) l1;have hS:2 ^ ls.length - 1 < 2 ^ ls.length:=by lia
 refine⟨_,(@AF _ _ _ _ _ (@DJ _ _ _ _ (AL (@PM P w K mg base T) (hr.mono (show 3<=_ by decide)) rfl T.z27.m T.z27.F.kp T.z27.b .nil RU (AA (vv 0) AB)) (by rfl)) (@AF _ _ _ _ _ (PS.nox (@AN _ _ 1 _ _ _ _ sc_z64.nd rfl (by right) (MU T.mk_Reckoner (@Sz P w K mg base T) hr1_z33 rfl T.mC_Reckoner T.z33.b .nil AH (AA (vv 0) AB)) (by rfl) (by walk_at "i"))) (@AF _ _ _ _ _ (PS.nox (@AN _ _ 2 _ _ _ _ sc_z64.nd rfl (by right) (Ma (vv 1) T.cl_Reckoner T.z23.m (@UW P w K mg base T) (hr.mono (show 3<=_ by decide)) T.z23.b .nil AH) (by rfl) (by walk_at "i"))) (@AG _ _ _ (PS.nox (@AK _ _ _ _ (A5 (AA (An (vv 1) T.cl_Reckoner T.z19.m (@HE P w K mg base T) (hr.mono (show 72<=_ by decide)) T.z19.b .nil AH (AA (vv 2) AB)) (AA (AL (@UX P w K mg base T B) (hr.mono (show 95<=_ by decide)) rfl T.z48.m T.z48.F.kp T.z48.b .nil AH (AA (vv 1) (AA (vv 2) AB))) (AA (AL (@WW P w K mg base T) (hr.mono (show 75<=_ by decide)) rfl T.z43.m T.z43.F.kp T.z43.b .nil AH (AA (vv 1) (AA (vv 2) AB))) AB)))))))))),?_⟩;refine⟨ls,rs,hv,G,fun he H0 s0=>?_,qE⟩;have hc:=Ip he _ hS;have q:=q he;intro x dx hx hdx Yw
 have s1:Yc H0 (upd (upd H0 dx (.own x)) x (.ins T.C_Reckoner dx [])):=(Yc.upd (o:=.own x) hdx).trans (fun b o e=>by
  have:b≠x:=fun z=>by
   rw[z,AI (Ne.symm Yw),hx]at e;cases e
  rw[AI this];exact e)
 have hx1:upd (upd H0 dx (.own x)) x (.ins T.C_Reckoner dx []) x=some (.ins T.C_Reckoner dx []):=AD;generalize upd (upd H0 dx (.own x)) x (.ins T.C_Reckoner dx [])=H1 at *;have S1:=s0.trans s1;refine⟨ls,rs,dx,hx1,hv.same S1,G,fun d H2 hd R f2=>⟨rfl,?_⟩⟩;dsimp only[Aa];have hd0:H d=none:=S1.free hd;have nx0:H x=none:=s0.free hx;have s2:Yc H H2:=fun b o e=>f2 b o (BX e nx0) (S1 _ _ e)
 have L2':=hL.same s2;generalize hys:rs.map AS=ys at *;obtain⟨dx2,tl2,yl2,al2,as2,kvs2,k1,_,_,_,k5,_⟩:=id R.at_;refine⟨x,dx2,_,rfl,k1,lnB _ _ _ _,ls,ys,d,R,?_⟩;dsimp only[Aa];generalize hSS:2 ^ ls.length - 1=S at *;have h0:S≠0:=by lia
 refine⟨x,dx2,_,rfl,k1,ln1 _ _ _ _,ls,ys,d,S,R,rfl,hS,⟨_,hc⟩,cd S,fun m H3 hm R3 f3=>?_⟩;have L3:=Ib L2' f3 k5 (.inr (.inl ⟨_,rfl⟩));refine⟨ls,ys,d,S,R3,rfl,hS,h0,⟨_,hc⟩,cd S,L3,fun t vt H4 bt rp R4 f4 L4=>?_⟩;obtain⟨_,_,_,_,_,_,_,_,_,_,d4,_⟩:=id R4.at_;refine⟨ls,ys,d,S,_,R4,rfl,hS,hc,fun es ve H5 P5 r5 R5 f5=>⟨smq rfl,fun u nu=>?_⟩⟩;have L5:=Ib L4 f5 d4 (.inr (.inl ⟨_,rfl⟩));have s6:Yc H5 (upd H5 u (.tup [.int (m:Nat),vt,ve])):=Yc.upd nu;have rp5:Yh K H5 t.dv vt:=Yh.mv (fun a xs h=>Cg f5 d4 Fl h) _ _ t.tups rp;rw[C4 hm]at q;refine q t es _ _ bt P5 (A8 (.of AD) (AR (by unfold Yh;rfl) (AR (Yh.same s6 _ _ rp5) (AR (Yh.same s6 _ _ r5) Ah)))) (fun b o hb e=>?_) (L5.same s6);have hbd:b≠d:=BX e hd0;exact s6 _ _ (f5 _ _ hbd (f4 _ _ (by simp[hbd,hb]) (f3 _ _ hbd (s2 _ _ e))))
theorem MP(hok:∀e∈es,DV ls e)(hB:HF rs es):∀(n:Nat),∀e∈es,Can (AE ls) (rs.map gB) n (fun k=>decide (k∈e.1))->e.2<=(n:Int)
 | 0,e,he,hc=>absurd hc (hok e he).2
 | n+1,e,he,hc=>by
  rcases hc with o | ⟨y,hy,h1,h2⟩
  ·exact absurd o (hok e he).2
  ·by_cases z:e.2<=1
   ·lia
   ·obtain⟨r,hr,rfl⟩:=ZK.mp hy;obtain⟨ans,e',he',h3,h4⟩:=hB e he (by lia) r hr;have ih:=MP hok hB n e' he'
    have:e'.2<=(n:Int):=by
     cases ans with
     | true=>exact ih (BZ (fun k hk=>by rw[ZQ,decide_eq_true_iff];exact h4 k (ZM hk)) h1)
     | false=>exact ih (BZ (fun k hk=>by rw[ZQ,decide_eq_true_iff,ZBZ];exact h4 k (ZM hk)) h2)
    lia
theorem Sm{z:Int}{d:Dw}(hm:Can (AE ls) (rs.map gB) m (fun k=>decide (k∈List.range ls.length)))(h:HK ls rs z d)(hz:(m:Int) < z):False:=by
 obtain⟨es,_,hok,h1,hB⟩:=h
 rcases h1 with h1 | ⟨e,he,h1⟩
 ·lia
 ·have hc:Can (AE ls) (rs.map gB) m (fun k=>decide (k∈e.1)):=BZ (fun k hk=>by
   have:=(hok e he).1
   rw[decide_eq_true_iff,Zl];have hk:=ZM hk;exact(hok e he).1.lt k hk) hm
  have:=MP hok hB m e he hc
  lia
section
variable {ls:List Int}{rs:List (List Bool)}{es:List (Nat × Nat)}{n S:Nat}
theorem Sh{q:Nat}(h:q < rs.length):(rs.map AS).getD q 0=AS rs[q]/\rs.getD q []=rs[q]:=by
 constructor
 ·rw[ZV,ZT,ZE h];rfl
 ·rw[ZV,ZE h];rfl
theorem Gv:∀(t:Tr) (S:Nat),DE ls (rs.map AS) t S->S < 2 ^ ls.length->Can (AE ls) (AX (rs.map AS)) n S.testBit ->
 t.ok rs.length/\(∀k,S.testBit k=true->t.end_ rs k=AE ls k/\t.many rs k<=Ac ls (rs.map AS) S)/\t.deep<=Ac ls (rs.map AS) S+1/\(∃k,S.testBit k=true/\t.many rs k=Ac ls (rs.map AS) S)/\t.size+1<=2 * As ls.length S.testBit
 | .say i,S,⟨o,k,hk,e⟩,hS,hc=>by
  have z:Ac ls (rs.map AS) S=0:=(TF (Cb hc)).mpr o;refine⟨trivial,fun a ha=>⟨?_,ZP _⟩,by rw[z];exact ZD _,⟨k,hk,by rw[z];rfl⟩,?_⟩
  ·show i=_;rw[e];exact o k a hk ha
  ·have:=Eb (N:=ls.length) (S:=S.testBit) (Dc hS hk) hk
   show 1+1<=_;lia
 | .ask q tn ty,S,⟨o,hq,b1,b2⟩,hS,hc=>by
  obtain⟨y1,y2⟩:=Do hq.mem
  have hq':q < rs.length:=by
   have:=(Zg.mp y1).1
   rwa [ZC]at this
  obtain⟨e1,e2⟩:=Sh hq';have hN:=Qi o hc hq;have hw:wst ls (rs.map AS) S q=max (Ac ls (rs.map AS) (S &&& (rs.map AS).getD q 0)) (Ac ls (rs.map AS) (S - (S &&& (rs.map AS).getD q 0))):=rfl;have hsp:=JN ls.length S.testBit ((rs.map AS).getD q 0).testBit;rw[<- C1,<- CL]at hsp;obtain⟨⟨a1,a2,_⟩,c1,c2,_⟩:=FG hS hc y2 (ZBO _);obtain⟨p1,p2,p3,⟨k1,p4,p5⟩,p6⟩:=Gv tn _ b1 c1 c2;obtain⟨r1,r2,r3,⟨k2,r4,r5⟩,r6⟩:=Gv ty _ b2 a1 a2;have ans:∀k,Au rs q k=gB rs[q] k:=fun k=>by unfold Au;rw[e2]
  have yes:∀k,(S &&& (rs.map AS).getD q 0).testBit k=true ↔ S.testBit k=true/\Au rs q k=true:=fun k=>by
   rw[Z5,ZQ,e1,mskR_bit,ans]
  have no:∀k,(S - (S &&& (rs.map AS).getD q 0)).testBit k=true ↔ S.testBit k=true/\¬Au rs q k=true:=fun k=>by
   rw[Fk,ZQ,e1,mskR_bit,ans,ZBZ,Bool.not_eq_true]
  have em:∀k,(Tr.ask q tn ty).many rs k=1+(if Au rs q k=true then ty.many rs k else tn.many rs k):=fun _=>rfl
  have ee:∀k,(Tr.ask q tn ty).end_ rs k=(if Au rs q k=true then ty.end_ rs k else tn.end_ rs k):=fun _=>rfl
  have ed:(Tr.ask q tn ty).deep=1+max tn.deep ty.deep:=rfl;have es:(Tr.ask q tn ty).size=1+tn.size+ty.size:=rfl;generalize Ac ls (rs.map AS) (S &&& (rs.map AS).getD q 0)=X at *;generalize Ac ls (rs.map AS) (S - (S &&& (rs.map AS).getD q 0))=Y at *;generalize Ac ls (rs.map AS) S=N at *;generalize wst ls (rs.map AS) S q=W at *;refine⟨⟨hq',p1,r1⟩,fun k hk=>?_,by lia,?_,by lia⟩
  ·rw[em,ee]
   by_cases z:Au rs q k=true
   ·rw[if_pos z,if_pos z]
    have:=r2 k ((yes k).mpr ⟨hk,z⟩)
    exact⟨this.1,by lia⟩
   ·rw[if_neg z,if_neg z]
    have:=p2 k ((no k).mpr ⟨hk,z⟩)
    exact⟨this.1,by lia⟩
  ·rcases Z4 Y X with z | z
   ·obtain⟨u1,u2⟩:=(yes k2).mp r4;exact⟨k2,u1,by rw[em,if_pos u2];lia⟩
   ·obtain⟨u1,u2⟩:=(no k1).mp p4;exact⟨k1,u1,by rw[em,if_neg u2];lia⟩
theorem VC(N k:Nat):(2 ^ N - 1).testBit k=decide (k < N):=Nat.testBit_two_pow_sub_one ..
theorem Jp(N:Nat):2 ^ N - 1 < 2 ^ N:=by have:=ZBy N;lia
theorem IE{L:Nat->Int}:∀(Y:List (Nat->Bool)) (S:Nat->Bool),(∀i j,S i=true->S j=true->(∀y∈Y,y i=y j)->L i=L j)->Can L Y Y.length S
 | [],S,h=>fun i j a b=>h i j a b (fun y hy=>by cases hy)
 | y::Y,S,h=>.inr ⟨y,Zb ..,GJ (fun x hx=>ZW _ hx) (IE Y _ fun i j a b c=>by
  simp only[ZQ]at a b;refine h i j a.1 b.1 fun x hx=>?_
  rcases ZH.mp hx with e | e
  ·rw[e,a.2,b.2]
  ·exact c x e),GJ (fun x hx=>ZW _ hx) (IE Y _ fun i j a b c=>by
  simp only[ZQ,ZBZ]at a b;refine h i j a.1 b.1 fun x hx=>?_
  rcases ZH.mp hx with e | e
  ·rw[e,a.2,b.2]
  ·exact c x e)⟩
end
theorem Cr(ls:List Int)(rs:List (List Bool)):Ar (gmD ls rs)=true:=by
 have e1:∀ls:List Int,Ag (ls.map Dv.int)=true:=by
  intro ls
  induction ls with
  | nil=>rfl
  | cons x r ih=>show(true && Ag (r.map Dv.int))=true;rw[ih];rfl
 unfold gmD;simp[Ar,Ag,e1,F0]
theorem HH(f:Yl t H H')(ht:∃zs,H t=some (.lst zs))(h:Ys K H p xs):Ys K H' p xs:=by
 obtain⟨zs,hz⟩:=ht
 rcases h with (h1 | ⟨o,h1⟩) | h1
 ·exact .inl (.inl (f p _ (fun q=>by rw[q,hz]at h1;cases h1) h1))
 ·exact .inl (.inr ⟨o,f p _ (fun q=>by rw[q,hz]at h1;cases h1) h1⟩)
 ·exact .inr h1
theorem Qu{x2:V}(h:H t=some (.tup [.ref tl,x2]))(h1:Ys K H tl (ls.map V.int))(h2:Yh K H (.tup (Bh rs)) x2):Yh K H (gmD ls rs) (.ref t) :=
 A8 (.of h) (AR (A8 h1 (Hl ls)) (AR h2 Ah))
theorem M5{H0:Hp}{l:Addr}(T0:Tape K H0 t a ns)(T:Tape K H t a ns)(f:Yl t H0 H)(hl:H0 l=none)(nl:l≠t):Tape K (upd H l o) t a ns:=by
 obtain⟨i,r,c,h1,h2,h3⟩:=T.at_;exact⟨⟨i,r,c,h1,h2,by rw[AI (Ne.symm nl)];exact h3⟩,T0.scr.stay fun o n e=>by rw[AI (BX e hl)];exact f a o n e⟩
theorem Ap(h:∀b,b≠t->H' b=H b):Yl t H H':=fun b o n e=>by rw[h b n];exact e
def D8(K:W.Frag):Sp:=fun vs H Q _=>match vs with
 | [.ref t]=>∃a ns,Tape K H t a ns/\∀ls rs u H',Gm ls rs->ls.length<=8->Yh K H' (gmD ls rs) u->Tape K H' t a ns->Yl t H H'->Q u H'
 | _=>False
theorem SQ:AM (D8 K):=fun vs H Q Q' E h q=>by
 unfold D8 at *;walk_at "q"
theorem Vp:Xa P w base T.z50 2 (D8 K):=by
 have G_z54:=@EQ P w K mg base T;refine T.z50.F.ok sc_z50 (fun vs H Q E h=>by unfold D8 at h;walk_at "e") ?_;walk_at "f";have hr_z54:=hr.mono (show 1<=_ by decide);unfold D8 at h;walk_at "g"
 rename_i t;obtain⟨a,ns,F,q⟩:=h;refine⟨_,(@AF _ _ _ _ _ (@AN _ _ 1 _ _ _ _ sc_z50.nd rfl (by right) (AW (A9 (K:=K)) AC (AL G_z54 hr_z54 rfl T.z54.m T.z54.F.kp T.z54.b .nil AH (AA (vv 0) (AA AC AB)))) (by rfl) (by walk_at "i")) (@AF _ _ _ _ _ (@AN _ _ 2 _ _ _ _ sc_z50.nd rfl (by right) (Bb (CM (K:=K)) rfl T.z_tuple (by rfl) (AA (Ao (N':=["_law_k","_law_tape_here"]) (own:=1) (ix:=[0]) rfl (BR rfl T.z_range (AA (vv 1) AB)) (by kernel_rfl) rfl rfl (by kernel_rfl) (fun c=>AQ (i:=0) (show(["_law_k","_law_tape_here"]:List Str).Nodup by decide +kernel) rfl (by right)) (Af (by decide)) (fun c=>BB) (fun c=>(AL G_z54 hr_z54 rfl T.z54.m T.z54.F.kp T.z54.b .nil AH (AA (vv 1) (AA (AW (A9 (K:=K)) AC (AL G_z54 hr_z54 rfl T.z54.m T.z54.F.kp T.z54.b .nil AH (AA (vv 1) (AA AC AB)))) AB))))) AB)) (by rfl) (by walk_at "i")) (@AF _ _ _ _ _ (@AN _ _ 3 _ _ _ _ sc_z50.nd rfl (by right) (@BY _ _ _ _ AB) (by rfl) (by walk_at "i")) (@AF _ _ _ _ _ (@Be _ _ _ _ _ _ _ _ PassesOwn.never rfl (BR rfl T.z_range (AA (AW (A9 (K:=K)) AC (AL G_z54 hr_z54 rfl T.z54.m T.z54.F.kp T.z54.b .nil AH (AA (vv 0) (AA AC AB)))) AB)) (AQ (i:=4) sc_z50.nd rfl (by right)) (@AG _ _ _ (@DJ _ _ _ _ (Ku (K:=K) (vv 3) (AA (Bb (CM (K:=K)) rfl T.z_tuple (by rfl) (AA (Ao (N':=["_law_j","_law_tape_here"]) (own:=1) (ix:=[0]) rfl (BR rfl T.z_range (AA (vv 1) AB)) (by kernel_rfl) rfl rfl (by kernel_rfl) (fun c=>AQ (i:=0) (show(["_law_j","_law_tape_here"]:List Str).Nodup by decide +kernel) rfl (by right)) (Af (by decide)) (fun c=>BB) (fun c=>(BN (kEq (K:=K) hu) (AL G_z54 hr_z54 rfl T.z54.m T.z54.F.kp T.z54.b .nil AH (AA (vv 1) (AA AC AB))) AC))) AB)) AB)) (by rfl))) (by intro _;rfl)) (@AG _ _ _ (@AK _ _ _ _ (A5 (AA (vv 2) (AA (Bb (CM (K:=K)) rfl T.z_tuple (by rfl) (AA (vv 3) AB)) AB))))))))),?_⟩;refine⟨a,ns,F,BF (by decide) (by decide),fun d0 H1 e0 e1 F1 f1=>?_⟩;obtain⟨M,rfl⟩:=ZBo e0;dsimp only[Aa,ET];refine Aj (fun σ H'=>∃(tl:Addr) (ls:List Int),σ=[some (.ref t),some (.int (1+(M:Int))),some (.ref tl),none,none]/\H' tl=some (.tup (ls.map V.int))/\ls.length=M+1/\(∀x∈ls,x.natAbs<=4)/\Tape K H' t a ns/\Yl t H H') ?_ ?_ (by walk_at "sm")
 ·refine⟨1+(M:Int),rfl,by lia,by lia,?_⟩;rw[show(1+(M:Int)).toNat=M+1 by lia];refine B7 (fun j ys H'=>∃ls:List Int,ys=ls.map V.int/\ls.length=j/\(∀x∈ls,x.natAbs<=4)/\Tape K H' t a ns/\Yl t H H') ⟨[],rfl,rfl,nofun,F1,Ap f1⟩ (fun j ys H' hj ⟨ls,e,el,_⟩=>by rw[e,ZC,el];exact Al (by lia)) ?_ ?_
  ·rintro j ys H2 hj ⟨ls,rfl,el,hb,F2,f2⟩;refine⟨a,ns,F2,BF (by decide) (by decide),fun d1 H3 a0 a1 F3 f3=>?_⟩;refine⟨a,ns,F3,BF (by lia) (by lia),fun d2 H4 b0 b1 F4 f4=>?_⟩;refine⟨ls++[d2],by rw[ZR];rfl,by rw[ZU,el];rfl,fun x hx=>?_,F4,f2.trans ((Ap f3).trans (Ap f4))⟩
   rcases Ze.mp hx with z | z
   ·exact hb x z
   ·rw[ZI.mp z];lia
  ·rintro ys H2 ⟨ls,rfl,el,hb,F2,f2⟩ l hl;refine⟨_,.inl ⟨.of AD,fun tl ht=>?_⟩⟩;have s3:=(Yc.upd (o:=.lst (ls.map V.int)) hl).trans (Yc.upd (o:=.tup (ls.map V.int)) ht);exact⟨tl,ls,rfl,AD,el,hb,F2.same s3,f2.trans s3.frm⟩
 rintro σ H2 ⟨tl,ls,rfl,gt,el,hb,F2,f2⟩;refine⟨ZP _,fun l hl=>?_⟩;dsimp only[Aa];have s3:=Yc.upd (o:=.lst []) hl;have gl3:upd H2 l (.lst []) l=some (.lst []):=AD;have nl:l≠t:=F2.neT hl;have hl0:H l=none:=F2.free f2 hl;have ntl:tl≠l:=fun z=>by rw[z,hl]at gt;cases gt
 have gt3:=s3 _ _ gt;have F3:=F2.same s3;have f3:=f2.trans s3.frm
 have nta:tl≠t:=fun z=>by
  obtain⟨i,r,c,_,_,h3⟩:=F2.at_;rw[z,h3]at gt;cases gt
 generalize upd H2 l (.lst [])=H3 at *;refine Aj (fun σ H'=>∃(rs:List (List Bool)) (xs:List V) (z4:Option V),σ=[some (.ref t),some (.int (1+(M:Int))),some (.ref tl),some (.ref l),z4]/\H' l=some (.lst xs)/\H' tl=some (.tup (ls.map V.int))/\Ye K H' (Bh rs) xs/\1<=rs.length/\rs.length<=16/\(∀r∈rs,r.length=ls.length)/\Tape K H' t a ns/\Yl t H H') ?_ ?_ (by walk_at "sm")
 ·refine⟨a,ns,F3,BF (by decide) (by decide),fun d1 H4 a0 a1 F4 f4=>?_⟩;obtain⟨W,rfl⟩:=ZBo a0;refine⟨1+(W:Int),rfl,by lia,by lia,?_⟩;rw[show(1+(W:Int)).toNat=W+1 by lia];refine DF (fun j σ H'=>∃(rs:List (List Bool)) (xs:List V) (z4:Option V),σ=[some (.ref t),some (.int (1+(M:Int))),some (.ref tl),some (.ref l),z4]/\H' l=some (.lst xs)/\H' tl=some (.tup (ls.map V.int))/\Ye K H' (Bh rs) xs/\rs.length=j/\(∀r∈rs,r.length=ls.length)/\Tape K H' t a ns/\Yl t H H') ⟨[],[],none,rfl,Ap f4 _ _ nl gl3,Ap f4 _ _ nta gt3,Ah,rfl,nofun,F4,f3.trans (Ap f4)⟩ ?_ (fun σ H' ⟨rs,xs,z4,e1,e2,e3,e4,e5,e6,e7,e8⟩=>⟨rs,xs,z4,e1,e2,e3,e4,by lia,by lia,e6,e7,e8⟩);rintro j σ H5 hj ⟨rs,xs,z4,rfl,gl5,gt5,R5,ej,hr5,F5,f5⟩;refine⟨.inl ⟨rfl,_,.of gl5⟩,1+(M:Int),rfl,by lia,by lia,?_⟩;rw[show(1+(M:Int)).toNat=M+1 by lia];refine B7 (fun j ys H'=>∃bs:List Bool,ys=bs.map V.bl/\bs.length=j/\Tape K H' t a ns/\Yl t H5 H') ⟨[],rfl,rfl,F5,Yl.refl⟩ (fun j ys H' hj ⟨ls,e,el,_⟩=>by rw[e,ZC,el];exact Al (by lia)) ?_ ?_
  ·rintro j ys H6 hj ⟨bs,rfl,eb,F6,f6⟩;refine⟨a,ns,F6,BF (by decide) (by decide),fun d1 H7 a0 a1 F7 f7=>⟨bs++[_],by rw[ZR];rfl,by rw[ZU,eb];rfl,F7,f6.trans (Ap f7)⟩⟩
  ·rintro ys H6 ⟨bs,rfl,eb,F6,f6⟩ k hk;refine⟨_,.inl ⟨.of AD,fun tp htp=>?_⟩⟩;have s7:=(Yc.upd (o:=.lst (bs.map V.bl)) hk).trans (Yc.upd (o:=.tup (bs.map V.bl)) htp);have gp7:upd (upd H6 k (.lst (bs.map V.bl))) tp (.tup (bs.map V.bl)) tp=some (.tup (bs.map V.bl)):=AD;generalize upd (upd H6 k (.lst (bs.map V.bl))) tp (.tup (bs.map V.bl))=H7 at *;have gl7:=s7 _ _ (f6 _ _ nl gl5);have gt7:=s7 _ _ (f6 _ _ nta gt5)
   have R7:Ye K H7 (Bh (rs++[bs])) (xs++[.ref tp]):=by
    unfold Bh;rw[ZR];exact Ye.append (Ye.same s7 _ _ (Ye.frm f6 (Tape.lst F5) _ _ (F0 _) R5)) (AR (Fm gp7 (Fi _)) Ah)
   have xl:xs.length=rs.length:=by rw[<- R5.length,OC]
   refine⟨_,gl7,Al (by lia),?_⟩;have fr:=Yl.updT (t:=l) (H:=H7) (o:=.lst (xs++[.ref tp]));refine⟨rs++[bs],_,_,rfl,AD,fr _ _ ntl gt7,Ye.frm fr ⟨_,gl7⟩ _ _ (F0 _) R7,by rw[ZU,ej];rfl,fun r hr=>?_,?_,HB (f5.trans (f6.trans s7.frm)) hl0⟩
   ·rcases Ze.mp hr with z | z
    ·exact hr5 r z
    ·rw[ZI.mp z];lia
   ·exact M5 F (F6.same s7) (f5.trans (f6.trans s7.frm)) hl0 nl
 rintro σ H4 ⟨rs,xs,z4,rfl,gl4,gt4,R4,r1,r16,hr4,F4,f4⟩;refine⟨_,.inl ⟨.of gl4,fun rl hrl=>⟨smq rfl,fun g hg=>?_⟩⟩⟩;have s5:=Yc.upd (o:=.tup xs) hrl;have gr5:upd H4 rl (.tup xs) rl=some (.tup xs):=AD;generalize upd H4 rl (.tup xs)=H5 at *;have s6:=Yc.upd (o:=.tup [.ref tl,.ref rl]) hg;have S:=s5.trans s6;exact q ls rs _ _ ⟨by lia,by lia,r1,r16,hr4,fun x hx=>Zs (hb x hx) (by decide)⟩ (by lia) (Qu AD (.of (S _ _ gt4)) (A8 (.of (s6 _ _ gr5)) (Ye.same S _ _ R4))) (F4.same S) (f4.trans S.frm)
def BS(L:Nat->Int)(Y:List (Nat->Bool))(S:Nat->Bool)(m:Nat):Prop:=Ai L Y S m\/((∀n,¬Can L Y n S)/\m=99)
section
variable {L:Nat->Int}{Y:List (Nat->Bool)}{S:Nat->Bool}{a b m n:Nat}
theorem Oj:∃m,BS L Y S m:=by
 by_cases h:∃n,Can L Y n S
 ·obtain⟨n,h⟩:=h;obtain⟨m,h⟩:=M1 h;exact⟨m,.inl h⟩
 ·exact⟨99,.inr ⟨fun n c=>h ⟨n,c⟩,rfl⟩⟩
theorem EX(h:BS L Y S m)(c:Can L Y n S):Ai L Y S m:=by
 rcases h with h | h
 ·exact h
 ·exact absurd c (h.1 n)
theorem PL(x:BS L Y S a)(y:BS L Y S b):a=b:=by
 rcases x with x | x
 ·exact GF x (EX y x.1)
 ·rcases y with y | y
  ·exact absurd y.1 (x.1 _)
  ·rw[x.2,y.2]
theorem FY(e:∀y∈Y,y i=y j):∀{n:Nat} {S:Nat->Bool},Can L Y n S->S i=true->S j=true->L i=L j
 | 0,_,o,a,b=>o i j a b
 | n+1,_,.inl o,a,b=>o i j a b
 | n+1,S,.inr ⟨y,hy,p,q⟩,a,b=>by
  have ey:=e y hy;cases z:y i with
  | true=>exact FY e p (by show(S i && y i)=true;rw[a,z];rfl) (by show(S j && y j)=true;rw[b,<- ey,z];rfl)
  | false=>exact FY e q (by show(S i && !y i)=true;rw[a,z];rfl) (by show(S j && !y j)=true;rw[b,<- ey,z];rfl)
theorem MS(h:Ai L Y S m):m<=Y.length:=h.2 _ (IE Y S fun i j a b c=>FY c h.1 a b)
theorem Nc(h:BS L Y S m)(hy:Y.length<=16):m<=99:=by
 rcases h with h | h
 ·have:=MS h
  lia
 ·lia
theorem VE{y:Nat->Bool}{c:Nat}(hl:Y.length<=16)(hy:y∈Y)(x:BS L Y S a)(p:BS L Y (fun k=>S k && y k) b)(q:BS L Y (fun k=>S k && !y k) c):a<=1+max b c:=by
 have ha:=Nc x hl
 rcases p with p | p
 ·rcases q with q | q
  ·have cs:Can L Y (max b c+1) S:=.inr ⟨y,hy,Cy (Nat.le_max_left ..) p.1,Cy (Nat.le_max_right ..) q.1⟩
   have:=(EX x cs).2 _ cs
   lia
  ·lia
 ·lia
end
theorem Kg:∀(l m:List Nat),l.Pairwise (· < ·)->m.Pairwise (· < ·)->(∀k,k∈l ↔ k∈m)->l=m
 | [],[],_,_,_=>rfl
 | [],b::m,_,_,h=>absurd ((h b).mpr (by simp)) (by simp)
 | a::l,[],_,_,h=>absurd ((h a).mp (by simp)) (by simp)
 | a::l,b::m,h1,h2,h=>by
  obtain⟨p1,p2⟩:=ZB6.mp h1;obtain⟨q1,q2⟩:=ZB6.mp h2
  have e:a=b:=by
   rcases ZH.mp ((h a).mp (by simp)) with x | x
   ·exact x
   ·rcases ZH.mp ((h b).mpr (by simp)) with y | y
    ·exact y.symm
    ·have:=q1 a x
     have:=p1 b y
     lia
  subst e;rw[Kg l m p2 q2 fun k=>?_];constructor
  ·intro hk
   rcases ZH.mp ((h k).mp (ZW _ hk)) with x | x
   ·have:=p1 k hk;lia
   ·exact x
  ·intro hk
   rcases ZH.mp ((h k).mpr (ZW _ hk)) with x | x
   ·have:=q1 k hk;lia
   ·exact x
def BQ(ts:List Nat):List Key:=ts.map fun t=>Sum.inl ((t:Nat):Int)
theorem Ht(ts:List Nat):(BQ ts).map kV=iL ts:=by unfold BQ iL;rw[ZBJ];rfl
structure NMemo(ls:List Int)(rs:List (List Bool))(Yd:List (List Key × V)):Prop where
 nd:(Yd.map (·.1)).Nodup
 ok:∀e∈Yd,∃(ts:List Nat) (m:Nat),e=(BQ ts,V.int (m:Int))/\ts.Pairwise (· < ·)/\(∀t∈ts,t < ls.length)/\BS (AE ls) (rs.map gB) (fun k=>decide (k∈ts)) m
theorem RT{Yd:List (List Key × V)}{k:List Key}(h:valV Yd k=some v):(k,v)∈Yd:=by
 unfold valV at h;cases e:Yd.find? fun kv=>decide (kv.1=k) with
 | none=>rw[e]at h;cases h
 | some x =>
  rw[e]at h;have h1:=List.find?_some e;have h2:=List.mem_of_find?_eq_some e;cases h
  have:x.1=k:=ZM h1
  rw[<- this];exact h2
theorem OD{us:List Nat}(h:BQ ts=BQ us):ts=us:=by
 have:=congrArg (List.map fun k:Key=>match k with | Sum.inl z=>z.toNat | Sum.inr _=>0) h
 unfold BQ at this;rw[ZBJ,ZBJ]at this;have e:((fun k:Key=>match k with | Sum.inl z=>z.toNat | Sum.inr _=>0) ∘ fun t:Nat=>(Sum.inl ((t:Nat):Int):Key))=id:=by funext t;exact Zm t
 rw[e,List.map_id,List.map_id]at this;exact this
theorem NMemo.get{Yd:List (List Key × V)}(h:NMemo ls rs Yd)(e:valV Yd (BQ ts)=some v):∃m:Nat,v=.int m/\BS (AE ls) (rs.map gB) (fun k=>decide (k∈ts)) m:=by
 obtain⟨us,m,ee,_,_,hf⟩:=h.ok _ (RT e);have e1:BQ ts=BQ us:=congrArg Prod.fst ee;have e2:v=V.int m:=congrArg Prod.snd ee
 have:=OD e1
 subst this;exact⟨m,e2,hf⟩
theorem NMemo.put{Yd:List (List Key × V)}(h:NMemo ls rs Yd)(h1:ts.Pairwise (· < ·))(h2:∀t∈ts,t < ls.length)(hf:BS (AE ls) (rs.map gB) (fun k=>decide (k∈ts)) m):NMemo ls rs (Ae Yd (BQ ts) (V.int m)):=by
 unfold Ae;split
 ·refine⟨?_,?_⟩
  ·have e:(Yd.map (fun kv=>if kv.1=BQ ts then (kv.1,V.int m) else kv)).map (·.1)=Yd.map (·.1):=by
    rw[ZBJ];apply ZBz;intro a _;simp only[Function.comp];split <;> rfl
   rw[e];exact h.nd
  ·intro e he;obtain⟨a,ha,rfl⟩:=ZK.mp he;split
   ·rename_i q;exact⟨ts,m,by rw[q],h1,h2,hf⟩
   ·exact h.ok a ha
 ·rename_i z;refine⟨?_,?_⟩
  ·rw[ZR,ZBv];refine⟨h.nd,by simp,?_⟩;intro a ha b hb q;have hb':b=BQ ts:=by simpa using hb
   obtain⟨x,hx,rfl⟩:=ZK.mp ha;exact z (ZBM.mpr ⟨x,hx,ZL (q.trans hb')⟩)
  ·intro e he
   rcases Ze.mp he with q | q
   ·exact h.ok e q
   ·rw[ZI]at q;exact⟨ts,m,q,h1,h2,hf⟩
def G1(k:List Key):Nat:=msk (k.map fun x=>match x with | Sum.inl z=>z.toNat | Sum.inr _=>0)
theorem Gj(ts:List Nat):G1 (BQ ts)=msk ts:=by
 unfold G1 BQ;rw[ZBJ];have e:((fun k:Key=>match k with | Sum.inl z=>z.toNat | Sum.inr _=>0) ∘ fun t:Nat=>(Sum.inl ((t:Nat):Int):Key))=id:=by funext t;exact Zm t
 rw[e,List.map_id]
theorem NMemo.len{Yd:List (List Key × V)}(h:NMemo ls rs Yd)(h16:ls.length<=16):Yd.length < 2 ^ 24:=by
 have hl:Yd.length<=2 ^ ls.length:=by
  have e:(Yd.map fun e=>G1 e.1).length=Yd.length:=ZC ..;rw[<- e];apply Cj
  ·refine ZBh.mpr ?_;have nd:=ZBh.mp h.nd;refine List.Pairwise.imp_of_mem ?_ nd;intro a b ha hb ne q;obtain⟨ts,m,ea,r1,b1,_⟩:=h.ok a ha;obtain⟨us,m',eb,r2,b2,_⟩:=h.ok b hb;subst ea eb;apply ne;rw[Gj,Gj]at q;have x1:=(Cv r1 b1).2;have x2:=(Cv r2 b2).2
   have:ts=us:=Kg ts us r1 r2 fun k=>by
    have:=x1 k
    rw[q,x2 k]at this;exact⟨fun z=>ZM (this.trans (ZL z)),fun z=>ZM (this.symm.trans (ZL z))⟩
   rw[this]
  ·intro x hx;obtain⟨a,ha,rfl⟩:=ZK.mp hx;obtain⟨ts,m,ea,r1,b1,_⟩:=h.ok a ha;subst ea;rw[Gj];exact(Cv r1 b1).1
 have:2 ^ ls.length<=2 ^ 16:=Zp (by decide) h16
 lia
theorem parts_lefts{r:List Bool}:A3 (fun k=>decide (k∈ts)) (gB r) ↔ Ak r true ts≠[]/\Ak r false ts≠[]:=by
 have key:∀ans,Ak r ans ts≠[] ↔ ∃k,k∈ts/\gB r k=ans:=fun ans=>by
  constructor
  ·intro h;obtain⟨x,hx⟩:=List.exists_mem_of_ne_nil _ h;exact⟨x,mem_lefts.mp hx⟩
  ·rintro⟨k,hk⟩ e
   have:=mem_lefts.mpr hk
   rw[e]at this;simp at this
 unfold A3;rw[key true,key false];simp only[decide_eq_true_eq]
theorem NC{r:List Bool}(h:A3 (fun k=>decide (k∈ts)) (gB r))(ans:Bool):(Ak r ans ts).length < ts.length:=by
 obtain⟨⟨i,hi,yi⟩,j,hj,yj⟩:=h;have hi:=ZM hi;have hj:=ZM hj
 have key:∀(k:Nat) (b:Bool),k∈ts->gB r k=b->(Ak r (!b) ts).length < ts.length:=fun k b hk hb=>by
  unfold Ak;refine Nat.lt_of_le_of_ne (ZBk _ _) fun e=>?_
  have:=List.length_filter_eq_length_iff.mp e k hk
  rw[hb]at this;cases b <;> simp at this
 cases ans with
 | true=>exact key j false hj yj
 | false=>exact key i true hi yi
structure Fnd(ls:List Int)(rs:List (List Bool))(ts:List Nat)(k:Nat)(xs:List Nat):Prop where
 lo:∀F,BS (AE ls) (rs.map gB) (fun k=>decide (k∈ts)) F->∀x∈xs,F<=x
 hi:∀(i:Nat) (r:List Bool),i < k->rs[i]? = some r->A3 (fun k=>decide (k∈ts)) (gB r)->∃b c,BS (AE ls) (rs.map gB) (fun k=>decide (k∈Ak r true ts)) b/\BS (AE ls) (rs.map gB) (fun k=>decide (k∈Ak r false ts)) c/\1+max b c∈xs
 top:99∈xs
theorem Fnd.min{xs:List Nat}{M:Nat}(h:Fnd ls rs ts rs.length xs)(ho:¬One (AE ls) (fun k=>decide (k∈ts)))(hM:M∈xs)(hle:∀x∈xs,M<=x):BS (AE ls) (rs.map gB) (fun k=>decide (k∈ts)) M:=by
 obtain⟨F,hF⟩:=Oj (L:=AE ls) (Y:=rs.map gB) (S:=fun k=>decide (k∈ts));have h1:=h.lo F hF M hM
 have h2:M<=F:=by
  rcases hF with hF | hF
  ·obtain⟨hc,hmin⟩:=hF;cases F with
   | zero=>exact absurd hc ho
   | succ n =>
    rcases hc with o | ⟨y,hy,p,q⟩
    ·exact absurd o ho
    ·by_cases hp:A3 (fun k=>decide (k∈ts)) y
     ·obtain⟨r,hr,rfl⟩:=ZK.mp hy;obtain⟨i,hi,ei⟩:=Zq hr;obtain⟨b,c,f1,f2,hx⟩:=h.hi i r hi (by rw[ZE hi,ei]) hp;rw[KS]at f1;rw[L7]at f2;have b1:=(EX f1 p).2 _ p;have b2:=(EX f2 q).2 _ q
      have:=hle _ hx
      lia
     ·rcases not_parts hp with z | z
      ·have:=hmin n (BZ z p);lia
      ·have:=hmin n (BZ z q);lia
  ·rw[hF.2];exact hle _ h.top
 rw[Nat.le_antisymm h2 h1];exact hF
theorem JX{Yd:List (List Key × V)}:CB (.dT Yd):=⟨(fun _ z=>nomatch z),(fun _ _ z=>nomatch z)⟩
theorem LD:∀{rs:List (List Bool)} {ps:List Addr},ps.length=rs.length->(∀(i:Nat) (q:Addr) (r:List Bool),ps[i]? = some q->rs[i]? = some r->Ys K H q (r.map V.bl))->Ye K H (Bh rs) (ps.map V.ref)
 | [],[],_,_=>Ah
 | [],_::_,h,_=>by simp at h
 | _::_,[],h,_=>by simp at h
 | r::rs,q::ps,h,hr=>AR (A8 (hr 0 q r rfl rfl) (Fi r)) (LD (by simpa using h) fun i q' r' a b=>hr (i+1) q' r' a b)
theorem Mg{rl:Addr}(g:GmAt K H ls rs a tl rl ps):Yh K H (gmD ls rs) (.ref a) :=
 A8 g.two (AR (A8 g.lab (Hl ls)) (AR (A8 g.rows (LD g.len g.row)) Ah))
def B5(K:W.Frag)(c:Nat):Sp:=fun vs H Q _=>match vs with
 | [v,.ref p,.ref d]=>∃ls rs ts Yd,Yh K H (gmD ls rs) v/\Gm ls rs/\H p=some (.tup (iL ts))/\ts.Pairwise (· < ·)/\(∀t∈ts,t < ls.length)/\ts.length < c/\H d=some (.dT Yd)/\NMemo ls rs Yd/\∀(m:Nat) (kvs':List (List Key × V)) H',BS (AE ls) (rs.map gB) (fun k=>decide (k∈ts)) m->Yl d H H'->H' d=some (.dT kvs')->NMemo ls rs kvs'->Q (.int (m:Nat)) H'
 | _=>False
theorem MQ{c:Nat}:AM (B5 K c):=fun vs H Q Q' E h q=>by
 unfold B5 at *;walk_at "q"
theorem Q8(c:Nat)(G_z52:Xa P w base T.z52 (c+2) (B5 K c)) :
 Xa P w base T.z52 (c+3) (B5 K (c+1)):=by
 refine T.z52.F.ok sc_z52 (fun vs H Q E h=>by unfold B5 at h;walk_at "e") ?_;walk_at "f";have hr_z52:=hr;unfold B5 at h;walk_at "g"
 rename_i v p d;obtain⟨ls,rs,ts,Yd,hv,G,hp,hrise,Yr,hc,hd,M,q⟩:=h;obtain⟨a,tl,rl,ps,rfl,g⟩:=Bd hv;have l16:=G.l16;have r16:=G.r16;have tl16:=Ve hrise Yr;have npd:p≠d:=BO hp hd (by intro z;cases z);have mo1:AM (B5 K c):=MQ;refine⟨_,(@AF _ _ _ _ _ (@C5 _ _ _ _ _ _ (vv 0) (HQ (K:=K) (n:=2) rfl (BP (AQ (i:=3) sc_z52.nd rfl (by right)) (BP (AQ (i:=4) sc_z52.nd rfl (by right)) Cf))) (by rfl) (by rfl) (by rfl)) (@AF _ _ _ _ _ (@Am _ _ _ _ _ _ _ _ (AV Ca (AZ LV rfl T.z_len (by rfl) (AA (Bb (MZ (K:=K) rfl) rfl T.z_set (by rfl) (AA (Ao (N':=["_law_k","_law_labels"]) (own:=1) (ix:=[3]) rfl (BA (K:=K) (vv 1)) (by kernel_rfl) rfl rfl (by kernel_rfl) (fun c=>AQ (i:=0) (show(["_law_k","_law_labels"]:List Str).Nodup by decide +kernel) rfl (by right)) (Af (by decide)) (fun c=>BB) (fun c=>(Yp (K:=K) (vv 1) (vv 0)))) AB)) AB)) AC) (@AG _ _ _ (@AK _ _ _ _ AC)) Aq) (@AF _ _ _ _ _ (@Am _ _ _ _ _ _ _ _ (AV (Fd hu) (vv 1) (vv 2)) (@AF _ _ _ _ _ (@AN _ _ 5 _ _ _ _ sc_z52.nd rfl (by right) (@BY _ _ _ _ (AA AC AB)) (by rfl) (by walk_at "i")) (@AF _ _ _ _ _ (@Be _ _ _ _ _ _ _ _ PassesOwn.never rfl (BA (K:=K) (vv 4)) (AQ (i:=6) sc_z52.nd rfl (by right)) (@AF _ _ _ _ _ (@AN _ _ 7 _ _ _ _ sc_z52.nd rfl (by right) (Bb (CM (K:=K)) rfl T.z_tuple (by rfl) (AA (Ao (N':=["_law_k","_law_row"]) (own:=1) (ix:=[6]) rfl (BA (K:=K) (vv 1)) (by kernel_rfl) rfl rfl (by kernel_rfl) (fun c=>AQ (i:=0) (show(["_law_k","_law_row"]:List Str).Nodup by decide +kernel) rfl (by right)) (Af (by decide)) (fun c=>CD (By (Az (Yp (K:=K) (vv 1) (vv 0))))) (fun c=>(vv 0))) AB)) (by rfl) (by walk_at "i")) (@AF _ _ _ _ _ (@AN _ _ 8 _ _ _ _ sc_z52.nd rfl (by right) (Bb (CM (K:=K)) rfl T.z_tuple (by rfl) (AA (Ao (N':=["_law_k","_law_row"]) (own:=1) (ix:=[6]) rfl (BA (K:=K) (vv 1)) (by kernel_rfl) rfl rfl (by kernel_rfl) (fun c=>AQ (i:=0) (show(["_law_k","_law_row"]:List Str).Nodup by decide +kernel) rfl (by right)) (Af (by decide)) (fun c=>CD (Az (Yp (K:=K) (vv 1) (vv 0)))) (fun c=>(vv 0))) AB)) (by rfl) (by walk_at "i")) (@AG _ _ _ (@Am _ _ _ _ _ _ _ _ (PW.pt (Bm (AV (D3 (K:=K) hu) (vv 7) (A5 AB)) (Bq (AV (D3 (K:=K) hu) (vv 8) (A5 AB))))) (@AG _ _ _ (@DJ _ _ _ _ (Ku (K:=K) (vv 5) (AA (AW (A9 (K:=K)) AC (AZ (FS rfl) rfl T.z_max (by rfl) (AA (AL G_z52 hr_z52 rfl T.z52.m T.z52.F.kp T.z52.b .nil AH (AA (vv 0) (AA (vv 7) (AA (vv 2) AB)))) (AA (AL G_z52 hr_z52 rfl T.z52.m T.z52.F.kp T.z52.b .nil AH (AA (vv 0) (AA (vv 8) (AA (vv 2) AB)))) AB)))) AB)) (by rfl))) Aq)))) (by intro _;rfl)) (@AG _ _ _ (@Ez _ _ _ _ _ _ _ _ _ (CG hu) (vv 2) (vv 1) (AZ (V4 rfl) rfl T.z_min (by rfl) (AA AC (AA (AZ (Km (K:=K) rfl) rfl T.z_min (by rfl) (AA (vv 5) AB)) AB))) (by rfl))))) Aq) (@AG _ _ _ (@AK _ _ _ _ (JC (CG hu) (vv 2) (vv 1) (by intro _ _;rfl))))))),?_⟩;refine⟨_,.inr g.two,rfl,_,_,rfl,_,_,rfl,rfl,?_⟩;dsimp only[Aa];refine Aj (fun σ H'=>σ=[some (.ref a),some (.ref p),some (.ref d),some (.ref tl),some (.ref rl),none,none,none,none]/\Yc H H'/\¬One (AE ls) (fun k=>decide (k∈ts))) ?_ ?_ (by walk_at "sm")
 ·refine .inr ⟨⟨_,.of hp⟩,?_⟩
  refine CT (xs:=iL ts) (fun k zs H'=>H'=H/\zs=((ts.take k).map (AE ls)).map V.int) ⟨rfl,rfl⟩ (fun k zs H' _ ⟨e,_⟩=>by rw[e];exact .of hp) (fun k zs H' hk ⟨_,e⟩=>by
   rw[Ab]at hk;rw[e,ZC,ZC,Zf];exact Al (by lia)) ?_ ?_
  ·rintro k x zs H' hx ⟨rfl,rfl⟩;obtain⟨t,ht,hmem,rfl⟩:=Bt hx;refine⟨_,.int (AE ls t),.inr g.lab,C8 (Yr t hmem),rfl,?_⟩;rw[Zr,ht,ZR,ZR];rfl
  ·rintro zs H' ⟨rfl,rfl⟩ l hl';rw[Ab,Zv];refine⟨_,.of AD,by rw[ZC];lia,fun ds qs nd hmem hqs=>?_⟩;have S:=(Yc.upd (o:=.lst ((ts.map (AE ls)).map V.int)) hl').trans (Yc.upd (o:=Dh ds) hqs);have o1:=NQ (ls:=ls) nd hmem;refine⟨ds,AD,?_⟩;refine AY (fun e=>?_) (fun e=>⟨rfl,S,fun o=>e (ZL (by have:=o1.mpr o;lia))⟩);have e:((ds.length:Nat):Int) < 2:=ZM e;exact q 0 Yd _ (.inl ⟨o1.mp (by lia),fun _ _=>ZP _⟩) (Aw S) (S _ _ hd) M
 rintro σ H1 ⟨rfl,s1,ho⟩;have hd1:=s1 _ _ hd;have hp1:=s1 _ _ hp;refine Aj (fun σ H'=>(∃x y z u,σ=[some (.ref a),some (.ref p),some (.ref d),some (.ref tl),some (.ref rl),x,y,z,u])/\Yl d H1 H'/\∃(kvs':List (List Key × V)) (m:Nat),H' d=some (.dT kvs')/\NMemo ls rs kvs'/\valV kvs' (BQ ts)=some (.int (m:Nat))/\BS (AE ls) (rs.map gB) (fun k=>decide (k∈ts)) m) ?_ ?_ (by walk_at "sm");rotate_left
 ·rintro σ H2 ⟨⟨x,y,z,u,rfl⟩,f2,kvs',m,hd2,M2,hv2,hm⟩;refine⟨d,.int (m:Nat),rfl,?_,q m kvs' H2 hm ((Aw s1).trans f2) hd2 M2⟩;rw[<- hv2];exact DGet.t hd2 (by rw[Ht];exact f2 _ _ npd hp1)
 refine⟨valV Yd (BQ ts),DGet.t hd1 (by rw[Ht];exact hp1),?_⟩;cases e:valV Yd (BQ ts) with
 | some v0 =>
  obtain⟨m,rfl,hm⟩:=M.get e;exact⟨⟨_,_,_,_,rfl⟩,Yl.refl,Yd,m,hd1,M,e,hm⟩
 | none =>
  refine⟨smq rfl,fun l hl=>?_⟩;dsimp only[Aa];have s2:=Yc.upd (o:=.lst (iL [99])) hl;have nld:l≠d:=fun z=>by rw[z,hd1]at hl;cases hl
  have npl:p≠l:=fun z=>by rw[z,hl]at hp1;cases hp1
  have gl2:upd H1 l (.lst (iL [99])) l=some (.lst (iL [99])):=AD;have g2:=(g.same s1).same s2;show GK _ _ _ _ (upd H1 l (.lst (iL [99])));generalize upd H1 l (.lst (iL [99]))=H2 at *;refine Aj (fun σ H'=>∃(x y z:Option V) (xs:List Nat),σ=[some (.ref a),some (.ref p),some (.ref d),some (.ref tl),some (.ref rl),some (.ref l),x,y,z]/\Yl d H1 H'/\(∃kvs',H' d=some (.dT kvs')/\NMemo ls rs kvs')/\H' l=some (.lst (iL xs))/\Fnd ls rs ts rs.length xs/\xs.length<=20) ?_ ?_ (by walk_at "sm");rotate_left
  ·rintro σ H3 ⟨x,y,z,xs,rfl,f3,⟨kvs',hd3,M3⟩,gl3,hF,hxl⟩;have hpos:0 < xs.length:=ZB8 hF.top;refine⟨xs.map fun(x:Nat)=>(x:Int),?_,by rw[ZC];exact hpos,fun Mx hM hle=>?_⟩
   ·rw[ZBJ];exact .of gl3
   obtain⟨m,hm,rfl⟩:=ZK.mp hM
   have hle':∀x∈xs,m<=x:=fun x hx=>by
    have:=hle _ (ZK.mpr ⟨x,hx,rfl⟩)
    lia
   have fm:=hF.min ho hm hle';have h99:=hle' _ hF.top;have em:min (99:Int) ((m:Nat):Int)=((m:Nat):Int):=by lia
   show _;refine⟨d,_,rfl,DPut.t hd3 (show H3 p=some (.tup ((BQ ts).map kV)) by rw[Ht];exact f3 _ _ npd hp1) (M3.len l16),?_⟩;rw[em];exact⟨⟨_,_,_,_,rfl⟩,f3.trans Yl.updT,_,m,AD,M3.put hrise Yr fm,by rw[IV,if_pos rfl],fm⟩
  refine .inr ⟨⟨_,g2.rows⟩,?_⟩;have sh:=fun(F:Nat) h=>Nc (m:=F) (L:=AE ls) (Y:=rs.map gB) (S:=fun k=>decide (k∈ts)) h (by rw[ZC];exact r16)
  refine Iq (xs:=ps.map V.ref) (fun k σ H'=>∃(x y z:Option V) (xs:List Nat),σ=[some (.ref a),some (.ref p),some (.ref d),some (.ref tl),some (.ref rl),some (.ref l),x,y,z]/\Yl d H1 H'/\(∃kvs',H' d=some (.dT kvs')/\NMemo ls rs kvs')/\H' l=some (.lst (iL xs))/\Fnd ls rs ts k xs/\xs.length<=k+1) ⟨none,none,none,[99],rfl,Aw s2,⟨Yd,s2 _ _ hd1,M⟩,gl2,⟨fun F hF x hx=>by rw[ZI.mp hx];exact sh F hF,fun i r hi=>absurd hi (ZBQ _),ZI.mpr rfl⟩,ZD _⟩ (fun k σ H' _ ⟨_,_,_,_,_,f,_⟩=>((g.same s1).frm f hd1 JX).rows) ?_ ?_;rotate_left
  ·rintro σ H' ⟨x,y,z,xs,e1,f,e2,e3,e4,e5⟩;rw[ZC,g.len]at e4 e5;exact⟨x,y,z,xs,e1,f,e2,e3,e4,by lia⟩
  rintro i xv σ H3 hxi ⟨x,y,z,xs,rfl,f3,⟨kvs3,hd3,M3⟩,gl3,hF,hxl⟩;rw[ZT]at hxi;obtain⟨b,hb,rfl⟩:=ZBg.mp hxi;have hir:i < rs.length:=by rw[<- g.len];exact(Zg.mp hb).1
  have er:rs[i]? = some rs[i]:=ZE hir;have hrm:rs[i]∈rs:=Zk hir;have hrl:rs[i].length=ls.length:=G.row _ hrm;have g3:=(g.same s1).frm f3 hd1 JX;have hrow:=g3.row i b _ hb er;have hp3:H3 p=some (.tup (iL ts)):=f3 _ _ npd hp1;generalize rs[i]=r at *;dsimp only[Aa]
  have stay:(¬A3 (fun k=>decide (k∈ts)) (gB r))->Fnd ls rs ts (i+1) xs:=fun hn=>⟨hF.lo,fun i' r' hi' er' hpt=>by
   rcases Z4 i' i with w | w
   ·exact hF.hi i' r' w er' hpt
   ·have:i'=i:=by lia
    subst this;rw[er]at er';cases er';exact absurd hpt hn,hF.top⟩
  refine Aj (fun σ H'=>∃(pn:Addr),σ=[some (.ref a),some (.ref p),some (.ref d),some (.ref tl),some (.ref rl),some (.ref l),some (.ref b),some (.ref pn),z]/\Yc H3 H'/\H' pn=some (.tup (iL (Ak r false ts)))) ?_ ?_ (by walk_at "sm")
  ·refine .inr ⟨⟨_,.of hp3⟩,?_⟩
   refine CT (xs:=iL ts) (fun k ys H'=>H'=H3/\ys=iL (Ak r false (ts.take k))) ⟨rfl,rfl⟩ (fun k ys H' _ ⟨e,_⟩=>by rw[e];exact .of hp3) (fun k ys H' hk ⟨_,e⟩=>by
    have:=LH r false (ts.take k)
    rw[Zf]at this;rw[e,Ab];exact Al (by lia)) ?_ ?_
   ·rintro k' x ys H' hx ⟨rfl,rfl⟩;obtain⟨t,ht,hmem,rfl⟩:=Bt hx;refine⟨_,.bl (gB r t),.inr hrow,En (by rw[hrl];exact Yr t hmem),?_⟩;rw[Lk ht,BW];cases eg:gB r t with
    | true=>exact⟨rfl,by show _=_++[];rw[Zj]⟩
    | false=>exact⟨rfl,rfl⟩
   ·rintro ys H' ⟨rfl,rfl⟩ l2 hl2;rw[ZBp (by rw[Ab];exact ZD _)];refine⟨_,.inl ⟨.of AD,fun c hc=>?_⟩⟩;exact⟨c,rfl,(Yc.upd (o:=.lst (iL (Ak r false ts))) hl2).trans (Yc.upd (o:=.tup (iL (Ak r false ts))) hc),AD⟩
  rintro σ H4 ⟨pn,rfl,s4,gn4⟩;have hp4:=s4 _ _ hp3;refine Aj (fun σ H'=>∃(py:Addr),σ=[some (.ref a),some (.ref p),some (.ref d),some (.ref tl),some (.ref rl),some (.ref l),some (.ref b),some (.ref pn),some (.ref py)]/\Yc H4 H'/\H' py=some (.tup (iL (Ak r true ts)))) ?_ ?_ (by walk_at "sm")
  ·refine .inr ⟨⟨_,.of hp4⟩,?_⟩
   refine CT (xs:=iL ts) (fun k ys H'=>H'=H4/\ys=iL (Ak r true (ts.take k))) ⟨rfl,rfl⟩ (fun k ys H' _ ⟨e,_⟩=>by rw[e];exact .of hp4) (fun k ys H' hk ⟨_,e⟩=>by
    have:=LH r true (ts.take k)
    rw[Zf]at this;rw[e,Ab];exact Al (by lia)) ?_ ?_
   ·rintro k' x ys H' hx ⟨rfl,rfl⟩;obtain⟨t,ht,hmem,rfl⟩:=Bt hx;refine⟨_,.bl (gB r t),.inr (s4.sqT hrow),En (by rw[hrl];exact Yr t hmem),?_⟩;rw[Lk ht,BW];cases eg:gB r t with
    | true=>exact⟨rfl,rfl⟩
    | false=>exact⟨rfl,by show _=_++[];rw[Zj]⟩
   ·rintro ys H' ⟨rfl,rfl⟩ l2 hl2;rw[ZBp (by rw[Ab];exact ZD _)];refine⟨_,.inl ⟨.of AD,fun c hc=>?_⟩⟩;exact⟨c,rfl,(Yc.upd (o:=.lst (iL (Ak r true ts))) hl2).trans (Yc.upd (o:=.tup (iL (Ak r true ts))) hc),AD⟩
  rintro σ H5 ⟨py,rfl,s5,gy5⟩;have gn5:=s5 _ _ gn4;have S5:=s4.trans s5;have g5:=g3.same S5;have hd5:=S5 _ _ hd3;have gl5:=S5 _ _ gl3;have f5:=f3.trans (Aw S5)
  have nl0:Ak r false ts=[]\/Ak r true ts=[]->¬A3 (fun k=>decide (k∈ts)) (gB r):=fun h w=>by
   obtain⟨w1,w2⟩:=parts_lefts.mp w;exact h.elim w2 w1
  have hltL:∀ans,∀t∈Ak r ans ts,t < ls.length:=fun ans t ht=>Yr t (mem_lefts.mp ht).1
  refine⟨ZP _,fun r0 m0=>⟨iL (Ak r false ts),.inl ⟨(Yc.upd m0).sqT (.of gn5),.of AD⟩,?_⟩⟩;have s6:=Yc.upd (o:=.tup []) m0;generalize upd H5 r0 (.tup [])=H6 at *
  have e0:∀{zs:List Nat},zs≠[]->∃t l,zs=t::l:=fun {zs} h=>by
   cases zs with
   | nil=>exact absurd rfl h
   | cons t l=>exact⟨t,l,rfl⟩
  refine AY (fun e=>?_) (fun e=>⟨_,_,_,xs,rfl,f5.trans (Aw s6),⟨kvs3,s6 _ _ hd5,M3⟩,s6 _ _ gl5,stay (nl0 (.inl ?_)),by lia⟩);rotate_left
  ·cases hz:Ak r false ts with
   | nil=>rfl
   | cons t l=>rw[hz]at e;exact absurd rfl e
  have hn1:Ak r false ts≠[]:=fun hz=>by rw[hz]at e;cases e
  refine⟨ZP _,fun r1 m1=>⟨iL (Ak r true ts),.inl ⟨(Yc.upd m1).sqT (.of (s6 _ _ gy5)),.of AD⟩,?_⟩⟩;have s7:=s6.trans (Yc.upd (o:=.tup []) m1);generalize upd H6 r1 (.tup [])=H7 at *;refine AY (fun e=>?_) (fun e=>⟨_,_,_,xs,rfl,f5.trans (Aw s7),⟨kvs3,s7 _ _ hd5,M3⟩,s7 _ _ gl5,stay (nl0 (.inr ?_)),by lia⟩);rotate_left
  ·cases hz:Ak r true ts with
   | nil=>rfl
   | cons t l=>rw[hz]at e;exact absurd rfl e
  have hn2:Ak r true ts≠[]:=fun hz=>by rw[hz]at e;cases e
  have hpt:=parts_lefts.mpr ⟨hn2,hn1⟩;have g7:=g5.same s7;have hd7:=s7 _ _ hd5;have gn7:=s7 _ _ gn5;have gy7:=s7 _ _ gy5;have gl7:=s7 _ _ gl5;have nnd:pn≠d:=BO gn7 hd7 (by intro z;cases z);have nyd:py≠d:=BO gy7 hd7 (by intro z;cases z);refine⟨.inl ⟨rfl,_,.of gl7⟩,ls,rs,_,kvs3,Mg g7,G,gn7,MJ hrise,hltL false,by have:=NC hpt false;lia,hd7,M3,fun a0 kvs8 H8 fa f8 hd8 M8=>?_⟩;refine⟨ls,rs,_,kvs8,Mg (g7.frm f8 hd7 JX),G,f8 _ _ nyd gy7,MJ hrise,hltL true,by have:=NC hpt true;lia,hd8,M8,fun a1 kvs9 H9 fb f9 hd9 M9=>?_⟩;have gl9:=f9 _ _ nld (f8 _ _ nld gl7);refine⟨_,gl9,by rw[Ab];exact Al (by have:=G.r16;lia),?_⟩;have fz:=f5.trans ((Aw s7).trans (f8.trans f9));refine⟨_,_,_,xs++[1+max a0 a1],rfl,?_,⟨kvs9,by rw[AI (Ne.symm nld)];exact hd9,M9⟩,?_,⟨fun F hFx x hx=>?_,fun i' r' hi' er' hpt'=>?_,Zt _ hF.top⟩,by rw[ZU];show xs.length+1<=_;lia⟩
  ·exact HB fz hl
  ·rw[AD,BW,show(1:Int)+max ((a0:Nat):Int) ((a1:Nat):Int)=((1+max a0 a1:Nat):Int) by lia];rfl
  ·rcases Ze.mp hx with w | w
   ·exact hF.lo F hFx x w
   ·rw[ZI.mp w,Nat.max_comm];rw[KS]at fb;rw[L7]at fa;exact VE (by rw[ZC];exact r16) (ZK.mpr ⟨r,hrm,rfl⟩) hFx fb fa
  ·rcases Z4 i' i with w | w
   ·obtain⟨b',c',h1',h2',h3'⟩:=hF.hi i' r' w er' hpt';exact⟨b',c',h1',h2',Zt _ h3'⟩
   ·have:i'=i:=by lia
    subst this;rw[er]at er';cases er';exact⟨a1,a0,fb,fa,ZY _ (by rw[Nat.max_comm];exact ZI.mpr rfl)⟩
theorem Kz:∀c:Nat,Xa P w base T.z52 (c+2) (B5 K c)
 | 0=>by
  have no:∀vs H Q E,¬B5 K 0 vs H Q E:=fun vs H Q E h=>by
   unfold B5 at h;split at h
   ·obtain⟨ls,rs,ts,Yd,_,_,_,_,_,z,_⟩:=h;exact absurd z (ZBQ _)
   ·exact h
  exact⟨fun vs H Q E h=>(no _ _ _ _ h).elim,fun A outer s H args us vs Q E _ _ _ _ h=>(no _ _ _ _ h).elim⟩
 | c+1=>Q8 T c (Kz c)
theorem PQ:Xa P w base T.z52 11 (B5 K 9):=Kz T 9
def EA(K:W.Frag):Sp:=fun vs H Q _=>match vs with
 | [.ref t,.int z]=>∃a ns n,Tape K H t a ns/\z=(n:Nat)/\n<=16/\∀zs p H',H' p=some (.tup (iL zs))->Tape K H' t a ns->Yl t H H'->Q (.ref p) H'
 | _=>False
theorem TN:AM (EA K):=fun vs H Q Q' E h q=>by
 unfold EA at *;walk_at "q"
theorem Pz:Xa P w base T.z41 2 (EA K):=by
 refine T.z41.F.ok Ro (fun vs H Q E h=>by unfold EA at h;walk_at "e") ?_;walk_at "f";unfold EA at h;walk_at "g"
 rename_i t z;obtain⟨a,ns,n,F,e1,hn,q⟩:=h;subst e1;refine⟨_,(@AG _ _ _ (@AK _ _ _ _ (Bb (CM (K:=K)) rfl T.z_tuple (by rfl) (AA (Ao (N':=["_law_k","_law_tape_here"]) (own:=1) (ix:=[0]) rfl (BR rfl T.z_range (AA (vv 1) AB)) (by kernel_rfl) rfl rfl (by kernel_rfl) (fun c=>AQ (i:=0) (show(["_law_k","_law_tape_here"]:List Str).Nodup by decide +kernel) rfl (by right)) (Af (by decide)) (fun c=>CD (AV Bg (AL (@EQ P w K mg base T) (hr.mono (show 1<=_ by decide)) rfl T.z54.m T.z54.F.kp T.z54.b .nil AH (AA (vv 1) (AA AC AB))) AC)) (fun c=>(vv 0))) AB)))),?_⟩;refine⟨(n:Int),rfl,by lia,by lia,?_⟩;rw[Zm];refine B7 (fun j ys H'=>∃zs:List Nat,ys=iL zs/\zs.length<=j/\Tape K H' t a ns/\Yl t H H') ⟨[],rfl,ZD _,F,Yl.refl⟩ (fun j ys H' hj ⟨zs,e,el,_⟩=>by rw[e,Ab];exact Al (by lia)) ?_ ?_
 ·rintro j ys H2 hj ⟨zs,rfl,el,F2,f2⟩;refine⟨a,ns,F2,BF (by decide) (by decide),fun d1 H3 a0 a1 F3 f3=>?_⟩;refine AY (fun e=>⟨zs++[j],?_,by rw[ZU];show zs.length+1<=_;lia,F3,f2.trans (Ap f3)⟩) (fun e=>⟨zs,rfl,by lia,F3,f2.trans (Ap f3)⟩);rw[BW,show(0:Int)+(j:Int)=(j:Int) from Int.zero_add _];rfl
 ·rintro ys H2 ⟨zs,rfl,el,F2,f2⟩ l hl;refine⟨_,.inl ⟨.of AD,fun p hp=>?_⟩⟩;have s3:=(Yc.upd (o:=.lst (iL zs)) hl).trans (Yc.upd (o:=.tup (iL zs)) hp);exact q zs p _ AD (F2.same s3) (f2.trans s3.frm)
def Bp(K:W.Frag)(D:Nat):Sp:=fun vs H Q _=>match vs with
 | [.ref t,u,.int z]=>∃(d:Nat) (a:Addr) (ns ls:List Int) (rs:List (List Bool)),Tape K H t a ns/\Yh K H (gmD ls rs) u/\Gm ls rs/\z=(d:Nat)/\d < D/\∀(tr:Tr) v H',Yh K H' tr.dv v->tr.ok rs.length->tr.deep<=d+1->Tape K H' t a ns->Yl t H H'->Q v H'
 | _=>False
theorem IG{D:Nat}:AM (Bp K D):=fun vs H Q Q' E h q=>by
 unfold Bp at *;walk_at "q"
theorem Ul(D:Nat)(G_z49:Xa P w base T.z49 (D+2) (Bp K D)):Xa P w base T.z49 (D+3) (Bp K (D+1)):=by
 have G_z54:=@EQ P w K mg base T;refine T.z49.F.ok sc_z49 (fun vs H Q E h=>by unfold Bp at h;walk_at "e") ?_;walk_at "f";have hr_z49:=hr;have hr_z54:=hr.mono (show 1<=D+2 by lia);have mo1:AM (Bp K D):=IG
 match vs,h with
 | [.ref t,u,.int z],h =>
 obtain⟨d,a,ns,ls,rs,F,hg,G,e1,hD,q⟩:=h;subst e1;have l1:=G.l1;have l16:=G.l16;have r1:=G.r1;have r16:=G.r16;refine⟨_,(@AF _ _ _ _ _ (@Am _ _ _ _ _ _ _ _ (PW.pt (Ce (AV (kEq (K:=K) hu) (vv 2) AC) (C7 (AV (kEq (K:=K) hu) (AL G_z54 hr_z54 rfl T.z54.m T.z54.F.kp T.z54.b .nil AH (AA (vv 0) (AA AC AB))) AC)))) (@AG _ _ _ (@AK _ _ _ _ (A5 (AA CH (AA (Yp (K:=K) (Yp (K:=K) (vv 1) AC) (AL G_z54 hr_z54 rfl T.z54.m T.z54.F.kp T.z54.b .nil AH (AA (vv 0) (AA (AZ (At (K:=K)) rfl T.z_len (by rfl) (AA (Yp (K:=K) (vv 1) AC) AB)) AB)))) AB))))) Aq) (@AF _ _ _ _ _ (@AN _ _ 3 _ _ _ _ sc_z49.nd rfl (by right) (AL G_z54 hr_z54 rfl T.z54.m T.z54.F.kp T.z54.b .nil AH (AA (vv 0) (AA (AZ (At (K:=K)) rfl T.z_len (by rfl) (AA (Yp (K:=K) (vv 1) AC) AB)) AB))) (by rfl) (by walk_at "i")) (@AG _ _ _ (@AK _ _ _ _ (A5 (AA CH (AA (vv 3) (AA (AL G_z49 hr_z49 rfl T.z49.m T.z49.F.kp T.z49.b .nil AH (AA (vv 0) (AA (vv 1) (AA (AW DD (vv 2) AC) AB)))) (AA (AL G_z49 hr_z49 rfl T.z49.m T.z49.F.kp T.z49.b .nil AH (AA (vv 0) (AA (vv 1) (AA (AW DD (vv 2) AC) AB)))) AB))))))))),?_⟩
 have sayR:∀(H2:Hp),Tape K H2 t a ns->Yl t H H2->IN (DH (tC (V.str (Str.ofString "say"))) (DH (tOp (mIx K) (tOp (mIx K) (CY 1) (tC (V.int 0))) (Iw (Dx K) [] E0 (DH (CY 0) (DH (tCB (Eg K) (DH (tOp (mIx K) (CY 1) (tC (V.int 0))) DT)) DT)))) DT)) [some (.ref t),some u,some (.int d),none] H2 Q:=by
  intro H2 F2 f2;obtain⟨ga,tl,rl,ps,rfl,g⟩:=Bd (Yh.frm f2 (Tape.lst F) _ _ (Cr _ _) hg);refine⟨_,.ref tl,.inr g.two,rfl,_,.ref tl,.inr g.two,rfl,ls.length,.inr ⟨_,g.lab,by rw[ZC]⟩,a,ns,F2,BF (by lia) (by lia),fun y H3 y0 y1 F3 f3=>?_⟩;obtain⟨k,rfl⟩:=ZBo y0;refine⟨_,.int (AE ls k),.inr (HH (Ap f3) (Tape.lst F2) g.lab),C8 (by lia),smq rfl,fun r m=>?_⟩;exact q (.say _) _ _ (A8 (.of AD) (AR (by unfold Yh;rfl) (AR (by unfold Yh;rfl) Ah))) trivial (by show 1<=d+1;lia) (F3.upd m) (f2.trans ((Ap f3).trans (Yl.upd m)))
 refine Aj (fun σ H'=>σ=[some (.ref t),some u,some (.int d),none]/\0 < d/\Tape K H' t a ns/\Yl t H H') ?_ ?_ (by walk_at "sm")
 ·refine AY (fun e=>sayR H F Yl.refl) (fun e=>?_)
  have hd0:0 < d:=by
   rcases ZB5 d with z | z
   ·subst z;exact absurd (by rfl) e
   ·exact z
  exact⟨a,ns,F,BF (by decide) (by decide),fun y H2 y0 y1 F2 f2=>AY (fun e=>sayR H2 F2 (Ap f2)) (fun e=>⟨rfl,hd0,F2,Ap f2⟩)⟩
 rintro σ H2 ⟨rfl,hd0,F2,f2⟩;have hg2:=Yh.frm f2 (Tape.lst F) _ _ (Cr _ _) hg;obtain⟨ga,tl,rl,ps,rfl,g⟩:=Bd hg2;refine⟨_,.ref rl,.inr g.two,rfl,rs.length,.inr ⟨_,g.rows,by rw[ZC,g.len]⟩,a,ns,F2,BF (by lia) (by lia),fun y H3 y0 y1 F3 f3=>?_⟩;obtain⟨q0,rfl⟩:=ZBo y0;dsimp only[Aa];have hg3:=Yh.frm (Ap f3) (Tape.lst F2) _ _ (Cr _ _) hg2;refine⟨d - 1,a,ns,ls,rs,F3,hg3,G,by lia,by lia,fun tr1 v1 H4 r1' o1 d1 F4 f4=>?_⟩;refine⟨d - 1,a,ns,ls,rs,F4,Yh.frm f4 (Tape.lst F3) _ _ (Cr _ _) hg3,G,by lia,by lia,fun tr2 v2 H5 r2' o2 d2 F5 f5=>⟨smq rfl,fun r m=>?_⟩⟩;have s6:=Yc.upd (o:=.tup [.str (Str.ofString "ask"),.int (q0:Int),v1,v2]) m;exact q (.ask q0 tr1 tr2) _ _ (A8 (.of AD) (AR (by unfold Yh;rfl) (AR (by unfold Yh;rfl) (AR (Yh.same s6 _ _ (Yh.frm f5 (Tape.lst F4) _ _ tr1.tups r1')) (AR (Yh.same s6 _ _ r2') Ah))))) ⟨by lia,o1,o2⟩ (by show 1+max tr1.deep tr2.deep<=d+1;lia) (F5.same s6) (f2.trans ((Ap f3).trans (f4.trans (f5.trans s6.frm))))
theorem LB:∀D:Nat,Xa P w base T.z49 (D+2) (Bp K D)
 | 0=>by
  have no:∀vs H Q E,¬Bp K 0 vs H Q E:=fun vs H Q E h=>by
   unfold Bp at h;split at h
   ·obtain⟨_,_,_,_,_,_,_,_,_,z,_⟩:=h;exact absurd z (ZBQ _)
   ·exact h
  exact⟨fun vs H Q E h=>(no _ _ _ _ h).elim,fun A outer s H args us vs Q E _ _ _ _ h=>(no _ _ _ _ h).elim⟩
 | c+1=>Ul T c (LB c)
theorem LJ:Xa P w base T.z49 6 (Bp K 4):=LB T 4
theorem Tr.size_lt:∀t:Tr,t.size+1<=2 ^ t.deep
 | .say i=>by show 1+1<=2 ^ 1;decide
 | .ask q n y=>by
  have h1:=n.size_lt;have h2:=y.size_lt;have h3:2 ^ n.deep<=2 ^ max n.deep y.deep:=Zp (by decide) (by lia);have h4:2 ^ y.deep<=2 ^ max n.deep y.deep:=Zp (by decide) (by lia);have e:2 ^ (1+max n.deep y.deep)=2 * 2 ^ max n.deep y.deep:=by rw[Nat.add_comm,Nat.pow_succ,Nat.mul_comm]
  show 1+n.size+y.size+1<=2 ^ (1+max n.deep y.deep);rw[e];lia
def CJ(K:W.Frag)(D:Nat):Sp:=fun vs H Q _=>match vs with
 | [.ref t,u,v]=>∃(a:Addr) (ns ls:List Int) (rs:List (List Bool)) (tr:Tr),Tape K H t a ns/\Yh K H (gmD ls rs) u/\Gm ls rs/\Yh K H tr.dv v/\tr.ok rs.length/\tr.deep<=D/\∀(tr':Tr) v' H',Yh K H' tr'.dv v'->tr'.ok rs.length->tr'.deep<=tr.deep+2->tr'.size<=tr.size+6->Tape K H' t a ns->Yl t H H'->Q v' H'
 | _=>False
theorem NE{D:Nat}:AM (CJ K D):=fun vs H Q Q' E h q=>by
 unfold CJ at *;walk_at "q"
theorem UO(D:Nat)(G_z35:Xa P w base T.z35 (D+6) (CJ K D)):Xa P w base T.z35 (D+7) (CJ K (D+1)):=by
 have G_z54:=@EQ P w K mg base T;refine T.z35.F.ok Wf (fun vs H Q E h=>by unfold CJ at h;walk_at "e") ?_;walk_at "f";have hr_z35:=hr;have hr_z54:=hr.mono (show 1<=D+6 by lia);have hr_z49:=hr.mono (show 6<=D+6 by lia);have mo1:AM (CJ K D):=NE;have mo2:AM (Bp K 4):=IG
 match vs,h with
 | [.ref t,u,v],⟨a,ns,ls,rs,tr,F,hg,G,hv,hok,hD,q⟩ =>
 refine⟨_,(@AF _ _ _ _ _ (@Am _ _ _ _ _ _ _ _ (PW.pt (Ce (AV (kEq (K:=K) hu) (Yp (K:=K) (vv 2) AC) CH) (C7 (AV (kEq (K:=K) hu) (AL G_z54 hr_z54 rfl T.z54.m T.z54.F.kp T.z54.b .nil AH (AA (vv 0) (AA AC AB))) AC)))) (@AG _ _ _ (@AK _ _ _ _ (AL (@LJ P w K mg base T) hr_z49 rfl T.z49.m T.z49.F.kp T.z49.b .nil AH (AA (vv 0) (AA (vv 1) (AA AC AB)))))) Aq) (@AF _ _ _ _ _ (@Am _ _ _ _ _ _ _ _ (AV (kEq (K:=K) hu) (AL G_z54 hr_z54 rfl T.z54.m T.z54.F.kp T.z54.b .nil AH (AA (vv 0) (AA AC AB))) AC) (@AG _ _ _ (@AK _ _ _ _ (A5 (AA (Yp (K:=K) (vv 2) AC) (AA (Yp (K:=K) (vv 2) AC) (AA (AL G_z35 hr_z35 rfl T.z35.m T.z35.F.kp T.z35.b .nil AH (AA (vv 0) (AA (vv 1) (AA (Yp (K:=K) (vv 2) AC) AB)))) (AA (Yp (K:=K) (vv 2) AC) AB))))))) Aq) (@AG _ _ _ (@AK _ _ _ _ (A5 (AA (Yp (K:=K) (vv 2) AC) (AA (Yp (K:=K) (vv 2) AC) (AA (Yp (K:=K) (vv 2) AC) (AA (AL G_z35 hr_z35 rfl T.z35.m T.z35.F.kp T.z35.b .nil AH (AA (vv 0) (AA (vv 1) (AA (Yp (K:=K) (vv 2) AC) AB)))) AB))))))))),?_⟩
 have new:∀{H2:Hp},Tape K H2 t a ns->Yl t H H2->Bp K 4 [.ref t,u,.int 2] H2 Q E:=fun {H2} F2 f2=>⟨2,a,ns,ls,rs,F2,Yh.frm f2 (Tape.lst F) _ _ (Cr _ _) hg,G,rfl,by decide,fun tr' v' H3 r3 o3 d3 F3 f3=>q tr' v' H3 r3 o3 (by have:=tr.deep_pos;lia) (by
  have h1:=tr'.size_lt;have h2:2 ^ tr'.deep<=2 ^ 3:=Zp (by decide) d3;have h3:=tr.size_pos;lia) F3 (f2.trans f3)⟩
 cases tr with
 | say i =>
  obtain⟨p,rfl,hp⟩:=E2 hv;refine⟨_,_,.inr hp,AO (n:=0) rfl rfl,?_⟩;exact new F Yl.refl
 | ask q0 x y =>
  obtain⟨p,x2,x3,rfl,hp,r2,r3⟩:=E4 hv;have hd:1+max x.deep y.deep<=D+1:=hD;refine Aj (fun σ H'=>σ=[some (.ref t),some u,some (.ref p)]/\Tape K H' t a ns/\Yl t H H') ?_ ?_ (by walk_at "sm")
  ·refine⟨_,_,.inr hp,AO (n:=0) rfl rfl,?_⟩;exact⟨a,ns,F,BF (by decide) (by decide),fun d H2 d0 d1 F2 f2=>AY (fun e=>new F2 (Ap f2)) (fun e=>⟨rfl,F2,Ap f2⟩)⟩
  rintro σ H2 ⟨rfl,F2,f2⟩;refine⟨a,ns,F2,BF (by decide) (by decide),fun d H3 d0 d1 F3 f3=>?_⟩;have f3':=f2.trans (Ap f3);have hL:=Tape.lst F;have hp3:=HH f3' hL hp;have hg3:=Yh.frm f3' hL _ _ (Cr _ _) hg;have r23:=Yh.frm f3' hL _ _ x.tups r2;have r33:=Yh.frm f3' hL _ _ y.tups r3;refine AY (fun e=>?_) (fun e=>?_)
  ·refine⟨_,_,.inr hp3,AO (n:=0) rfl rfl,_,_,.inr hp3,AO (n:=1) rfl rfl,_,_,.inr hp3,AO (n:=2) rfl rfl,a,ns,ls,rs,x,F3,hg3,G,r23,hok.2.1,by lia,fun tr' v' H4 r4 o4 d4 z4 F4 f4=>?_⟩;have hL3:=Tape.lst F3;refine⟨_,_,.inr (HH f4 hL3 hp3),AO (n:=3) rfl rfl,smq rfl,fun r m=>?_⟩;have s5:=Yc.upd (o:=.tup [.str (Str.ofString "ask"),.int (q0:Int),v',x3]) m;exact q (.ask q0 tr' y) _ _ (A8 (.of AD) (AR (by unfold Yh;rfl) (AR (by unfold Yh;rfl) (AR (Yh.same s5 _ _ r4) (AR (Yh.same s5 _ _ (Yh.frm f4 hL3 _ _ y.tups r33)) Ah))))) ⟨hok.1,o4,hok.2.2⟩ (by show 1+max tr'.deep y.deep<=1+max x.deep y.deep+2;lia) (by show 1+tr'.size+y.size<=1+x.size+y.size+6;lia) (F4.same s5) (f3'.trans (f4.trans s5.frm))
  ·refine⟨_,_,.inr hp3,AO (n:=0) rfl rfl,_,_,.inr hp3,AO (n:=1) rfl rfl,_,_,.inr hp3,AO (n:=2) rfl rfl,_,_,.inr hp3,AO (n:=3) rfl rfl,a,ns,ls,rs,y,F3,hg3,G,r33,hok.2.2,by lia,fun tr' v' H4 r4 o4 d4 z4 F4 f4=>?_⟩;have hL3:=Tape.lst F3;refine⟨smq rfl,fun r m=>?_⟩;have s5:=Yc.upd (o:=.tup [.str (Str.ofString "ask"),.int (q0:Int),x2,v']) m;exact q (.ask q0 x tr') _ _ (A8 (.of AD) (AR (by unfold Yh;rfl) (AR (by unfold Yh;rfl) (AR (Yh.same s5 _ _ (Yh.frm f4 hL3 _ _ x.tups r23)) (AR (Yh.same s5 _ _ r4) Ah))))) ⟨hok.1,hok.2.1,o4⟩ (by show 1+max x.deep tr'.deep<=1+max x.deep y.deep+2;lia) (by show 1+x.size+tr'.size<=1+x.size+y.size+6;lia) (F4.same s5) (f3'.trans (f4.trans s5.frm))
theorem MI:∀D:Nat,Xa P w base T.z35 (D+6) (CJ K D)
 | 0=>by
  have no:∀vs H Q E,¬CJ K 0 vs H Q E:=fun vs H Q E h=>by
   unfold CJ at h;split at h
   ·obtain⟨_,_,_,_,tr,_,_,_,_,_,z,_⟩:=h
    have:=tr.deep_pos
    lia
   ·exact h
  exact⟨fun vs H Q E h=>(no _ _ _ _ h).elim,fun A outer s H args us vs Q E _ _ _ _ h=>(no _ _ _ _ h).elim⟩
 | c+1=>UO T c (MI c)
theorem PZ:Xa P w base T.z35 26 (CJ K 20):=MI T 20
theorem RA:Xa P w base T.z56 1 (DA K):=by
 refine T.z56.F.ok sc_z56 (fun vs H Q E h=>by unfold DA at h;walk_at "e") ?_;walk_at "f"
 match vs,h with
 | [u,v,.int z],⟨ls,rs,t,k,hg,G,hv,hok,e1,hk,q⟩ =>
 subst e1;obtain⟨a,tl,rl,ps,rfl,g⟩:=Bd hg;refine⟨_,(@AF _ _ _ _ _ (@AN _ _ 3 _ _ _ _ sc_z56.nd rfl (by right) AC (by rfl) (by walk_at "i")) (@AF _ _ _ _ _ (@GE _ _ _ _ _ _ PassesOwn.never (AV (kEq (K:=K) hu) (Yp (K:=K) (vv 1) AC) CH) (@AF _ _ _ _ _ (@AN _ _ 1 _ _ _ _ sc_z56.nd rfl (by right) (Yp (K:=K) (vv 1) (AW (A9 (K:=K)) AC (Bb OT rfl T.z_int (by rfl) (AA (Yp (K:=K) (Yp (K:=K) (Yp (K:=K) (vv 0) AC) (Yp (K:=K) (vv 1) AC)) (vv 2)) AB)))) (by rfl) (by walk_at "i")) (@AG _ _ _ (@AN _ _ 3 _ _ _ _ sc_z56.nd rfl (by right) (AW (A9 (K:=K)) (vv 3) AC) (by rfl) (by walk_at "i"))))) (@AG _ _ _ (@AK _ _ _ _ (A5 (AA (Yp (K:=K) (vv 1) AC) (AA (vv 3) AB))))))),?_⟩;refine⟨fun mm σ H'=>∃(t':Tr) (x:V) (c:Nat),mm=t'.size/\σ=[some (.ref a),some x,some (.int k),some (.int c)]/\H'=H/\Yh K H t'.dv x/\t'.ok rs.length/\c+t'.many rs k=t.many rs k/\t'.end_ rs k=t.end_ rs k,⟨_,t,v,0,rfl,rfl,rfl,hv,hok,Nat.zero_add _,rfl⟩,?_⟩;rintro mm σ H1 ⟨t',x,c,rfl,rfl,rfl,hx,hok',hc,he⟩;cases t' with
 | say i =>
  obtain⟨p,rfl,hp⟩:=E2 hx;refine⟨_,_,.inr hp,AO (n:=0) rfl rfl,?_⟩;refine⟨_,_,.inr hp,AO (n:=1) rfl rfl,smq rfl,fun p1 n1=>q p1 _ (Yc.upd n1) ?_⟩;have e1:i=t.end_ rs k:=he;have e2:c+0=t.many rs k:=hc;rw[<- e1,<- e2];exact AD
 | ask q0 n y =>
  obtain⟨p,x2,x3,rfl,hp,r2,r3⟩:=E4 hx;have hq:q0 < rs.length:=hok'.1;have hb:ps[q0]? = some (ps.getD q0 0):=by simp[ZV,show q0 < ps.length by rw[g.len];exact hq]
  have hr0:rs[q0]? = some (rs.getD q0 []):=by simp[ZV,hq]
  have hrow:=g.row q0 _ _ hb hr0;have hrl:(rs.getD q0 []).length=ls.length:=G.row _ (Zo hr0);refine⟨_,_,.inr hp,AO (n:=0) rfl rfl,?_⟩;have hm:(Tr.ask q0 n y).many rs k=1+(if Au rs q0 k=true then y.many rs k else n.many rs k):=rfl;have hE:(Tr.ask q0 n y).end_ rs k=(if Au rs q0 k=true then y.end_ rs k else n.end_ rs k):=rfl;rw[hm]at hc;rw[hE]at he;have ea:gB (rs.getD q0 []) k=Au rs q0 k:=rfl;refine⟨_,.ref rl,.inr g.two,rfl,_,_,.inr hp,AO (n:=1) rfl rfl,_,.ref (ps.getD q0 0),.inr g.rows,AO rfl (by rw[ZT,hb];rfl),_,.bl (gB (rs.getD q0 []) k),.inr hrow,En (by rw[hrl];exact hk),?_⟩;rw[ea];cases e:Au rs q0 k with
  | true =>
   rw[e,if_pos rfl]at hc he;exact⟨_,_,.inr hp,AO (n:=3) rfl rfl,y.size,by show y.size < 1+n.size+y.size;lia,y,x3,c+1,rfl,rfl,rfl,r3,hok'.2.2,by lia,he⟩
  | false =>
   rw[e,if_neg (by decide)]at hc he;exact⟨_,_,.inr hp,AO (n:=2) rfl rfl,n.size,by show n.size < 1+n.size+y.size;lia,n,x2,c+1,rfl,rfl,rfl,r2,hok'.2.1,by lia,he⟩
theorem JP{c:TT}{t u:TS}{D:Ends}{σ:St}(b:Bool)(hc:∀Q:Bool->Hp->Prop,(∀H',Yc H H'->Q b H')->c σ H Q)(h:∀H',Yc H H'->if b=true then t D σ H' else u D σ H'):Gb c t u D σ H:=hc _ h
theorem Gr:∀(k:Nat) {ds:List Dv} {xs:List V} {d:Dv} {x:V},Ye K H ds xs->Yh K H d x->Ye K H (ds.set k d) (xs.set k x)
 | k,[],xs,d,x,h,_=>by unfold Ye at h;subst h;exact Ah
 | 0,e::ds,xs,d,x,h,hd=>by
  obtain⟨y,l,rfl,r,h⟩:=CF h;exact AR hd h
 | k+1,e::ds,xs,d,x,h,hd=>by
  obtain⟨y,l,rfl,r,h⟩:=CF h;exact AR r (Gr k h hd)
theorem Mz:∀(k:Nat) {ds:List Dv} {xs:List V},Ye K H ds xs->Ye K H (ds.eraseIdx k) (xs.eraseIdx k)
 | k,[],xs,h=>by unfold Ye at h;subst h;exact Ah
 | 0,e::ds,xs,h=>by
  obtain⟨y,l,rfl,r,h⟩:=CF h;exact h
 | k+1,e::ds,xs,h=>by
  obtain⟨y,l,rfl,r,h⟩:=CF h;exact AR r (Mz k h)
theorem SY{i lo hi:Int}(h0:0<=i)(h1:i < ns.length)(h:∀x∈ns,lo<=x/\x<=hi):∃z,atI (ns.map V.int) i=some (.int z)/\lo<=z/\z<=hi:=by
 have hi':i.toNat < ns.length:=by lia
 exact⟨ns[i.toNat],AO (n:=i.toNat) (by lia) (by rw[ZT,ZE hi'];rfl),h _ (Zk hi')⟩
def Pap(ds:List Dv):Prop:=∀d∈ds,∃d0 z,d=.tup [d0,.int z]/\Ar d0=true
theorem Cz:∀{ds:List Dv},Pap ds->Ag ds=true
 | [],_=>by simp[Ag]
 | d::ds,h=>by
  unfold Ag;rw[Cz fun e he=>h e (ZW _ he)];obtain⟨d0,z,rfl,h0⟩:=h d (Zb ..);unfold Ar Ag Ag Ag;rw[h0];rfl
theorem Hz(zs:List Nat):Ar (.tup (iD zs))=true:=by unfold Ar;exact MR zs
def EN(K:W.Frag):Sp:=fun vs H Q _=>match vs with
 | [.ref t,.int z,v]=>∃(a:Addr) (ns:List Int) (n:Nat) (ds:List Dv),Tape K H t a ns/\z=(n:Nat)/\n<=16/\Yh K H (.tup ds) v/\Pap ds/\ds.length<=900/\∀ds' v' H',Yh K H' (.tup ds') v'->Pap ds'->ds'.length<=ds.length+4->Tape K H' t a ns->Yl t H H'->Q v' H'
 | _=>False
theorem Sn:AM (EN K):=fun vs H Q Q' E h q=>by
 unfold EN at *;walk_at "q"
theorem Vn:Xa P w base T.z31 3 (EN K):=by
 have G_z54:=@EQ P w K mg base T;have G_z41:=@Pz P w K mg base T;refine T.z31.F.ok sc_z31 (fun vs H Q E h=>by unfold EN at h;walk_at "e") ?_;walk_at "f";have hr_z54:=hr.mono (show 1<=_ by decide);have hr_z41:=hr.mono (show 2<=_ by decide);have mo1:AM (EA K):=TN;unfold EN at h;walk_at "g"
 rename_i t z v;obtain⟨a,ns,n,ds,F,e1,hn,hv,hP,hl7,q⟩:=h;subst e1;obtain⟨p,xs,rfl,hp,hx⟩:=Co hv;refine⟨_,(@AF _ _ _ _ _ (@AN _ _ 3 _ _ _ _ sc_z31.nd rfl (by right) (Bb (OA (K:=K)) rfl T.z_list (by rfl) (AA (vv 2) AB)) (by rfl) (by walk_at "i")) (@AF _ _ _ _ _ (@Be _ _ _ _ _ _ _ _ PassesOwn.never rfl (BR rfl T.z_range (AA (AW (A9 (K:=K)) AC (AL G_z54 hr_z54 rfl T.z54.m T.z54.F.kp T.z54.b .nil AH (AA (vv 0) (AA AC AB)))) AB)) (AQ (i:=4) sc_z31.nd rfl (by right)) (@AF _ _ _ _ _ (@AN _ _ 5 _ _ _ _ sc_z31.nd rfl (by right) (AL G_z54 hr_z54 rfl T.z54.m T.z54.F.kp T.z54.b .nil AH (AA (vv 0) (AA AC AB))) (by rfl) (by walk_at "i")) (@AG _ _ _ (@Am _ _ _ _ _ _ _ _ (PW.pt (Bm (AV (kEq (K:=K) hu) (vv 5) AC) (Bq (AV (D3 (K:=K) hu) (vv 3) (@BY _ _ _ _ AB))))) (@AG _ _ _ (@DJ _ _ _ _ (Ur (K:=K) (vv 3) (AA (AL G_z54 hr_z54 rfl T.z54.m T.z54.F.kp T.z54.b .nil AH (AA (vv 0) (AA (AZ (At (K:=K)) rfl T.z_len (by rfl) (AA (vv 3) AB)) AB))) AB)) (by rfl))) (@AG _ _ _ (@Am _ _ _ _ _ _ _ _ (PW.pt (Bm (AV (kEq (K:=K) hu) (vv 5) AC) (Bq (AV (D3 (K:=K) hu) (vv 3) (@BY _ _ _ _ AB))))) (@AF _ _ _ _ _ (@AN _ _ 6 _ _ _ _ sc_z31.nd rfl (by right) (AL G_z54 hr_z54 rfl T.z54.m T.z54.F.kp T.z54.b .nil AH (AA (vv 0) (AA (AZ (At (K:=K)) rfl T.z_len (by rfl) (AA (vv 3) AB)) AB))) (by rfl) (by walk_at "i")) (@AG _ _ _ (@C5 _ _ _ _ _ _ (A5 (AA (Yp (K:=K) (Yp (K:=K) (vv 3) (vv 6)) AC) (AA (AZ (FS rfl) rfl T.z_max (by rfl) (AA AC (AA (AW (A9 (K:=K)) (Yp (K:=K) (Yp (K:=K) (vv 3) (vv 6)) AC) (Yp (K:=K) (@BY _ _ _ _ (AA AC (AA (Lu K3 AC) (AA AC AB)))) (AL G_z54 hr_z54 rfl T.z54.m T.z54.F.kp T.z54.b .nil AH (AA (vv 0) (AA AC AB))))) AB))) AB))) (Dt (vv 3) (vv 6) D9) (by rfl) (by rfl) (by rfl)))) (@AG _ _ _ (@Am _ _ _ _ _ _ _ _ (PW.pt (Bm (AV (kEq (K:=K) hu) (vv 5) AC) (Bq (AV (D3 (K:=K) hu) (vv 3) (@BY _ _ _ _ AB))))) (@AF _ _ _ _ _ (@AN _ _ 6 _ _ _ _ sc_z31.nd rfl (by right) (AL G_z54 hr_z54 rfl T.z54.m T.z54.F.kp T.z54.b .nil AH (AA (vv 0) (AA (AZ (At (K:=K)) rfl T.z_len (by rfl) (AA (vv 3) AB)) AB))) (by rfl) (by walk_at "i")) (@AG _ _ _ (@C5 _ _ _ _ _ _ (A5 (AA (AL G_z41 hr_z41 rfl T.z41.m T.z41.F.kp T.z41.b .nil AH (AA (vv 0) (AA (vv 1) AB))) (AA (Yp (K:=K) (Yp (K:=K) (vv 3) (vv 6)) AC) AB))) (Dt (vv 3) (vv 6) D9) (by rfl) (by rfl) (by rfl)))) (@AF _ _ _ _ _ (@AN _ _ 6 _ _ _ _ sc_z31.nd rfl (by right) (AL G_z54 hr_z54 rfl T.z54.m T.z54.F.kp T.z54.b .nil AH (AA (vv 0) (AA (AW (A9 (K:=K)) (AZ (At (K:=K)) rfl T.z_len (by rfl) (AA (vv 3) AB)) AC) AB))) (by rfl) (by walk_at "i")) (@AG _ _ _ (@DJ _ _ _ _ (Vr (K:=K) (vv 3) (AA (vv 6) (AA (A5 (AA (AL G_z41 hr_z41 rfl T.z41.m T.z41.F.kp T.z41.b .nil AH (AA (vv 0) (AA (vv 1) AB))) (AA (AW (A9 (K:=K)) AC (AL G_z54 hr_z54 rfl T.z54.m T.z54.F.kp T.z54.b .nil AH (AA (vv 0) (AA AC AB)))) AB))) AB))) (by rfl))))))))))) (by intro _;rfl)) (@AG _ _ _ (@AK _ _ _ _ (Bb (CM (K:=K)) rfl T.z_tuple (by rfl) (AA (vv 3) AB)))))),?_⟩;refine⟨_,.inr hp,fun l hl=>?_⟩;dsimp only[Aa];have s1:=Yc.upd (o:=.lst xs) hl;have gl1:upd H l (.lst xs) l=some (.lst xs):=AD;have nl:l≠t:=F.neT hl;generalize upd H l (.lst xs)=H1 at *;refine Aj (fun σ H'=>∃(ds':List Dv) (xs':List V) (z4 z5 z6:Option V),σ=[some (.ref t),some (.int (n:Nat)),some (.ref p),some (.ref l),z4,z5,z6]/\H' l=some (.lst xs')/\Ye K H' ds' xs'/\Pap ds'/\ds'.length<=ds.length+4/\Tape K H' t a ns/\Yl t H H') ?_ ?_ (by walk_at "sm");rotate_left
 ·rintro σ H2 ⟨ds',xs',z4,z5,z6,rfl,gl2,R2,P2,l2,F2,f2⟩;refine⟨_,.inl ⟨.of gl2,fun p2 hp2=>?_⟩⟩;have s3:=Yc.upd (o:=.tup xs') hp2;exact q ds' _ _ (A8 (.of AD) (Ye.same s3 _ _ R2)) P2 l2 (F2.same s3) (f2.trans s3.frm)
 refine⟨a,ns,F.same s1,BF (by decide) (by decide),fun d H2 d0 d1 F2 f2=>?_⟩;obtain⟨W,rfl⟩:=ZBo d0;refine⟨1+(W:Int),rfl,by lia,by lia,?_⟩;rw[show(1+(W:Int)).toNat=W+1 by lia];have fu:=Ap f2;refine DF (fun j σ H'=>∃(ds':List Dv) (xs':List V) (z4 z5 z6:Option V),σ=[some (.ref t),some (.int (n:Nat)),some (.ref p),some (.ref l),z4,z5,z6]/\H' l=some (.lst xs')/\Ye K H' ds' xs'/\Pap ds'/\ds'.length<=ds.length+j/\Tape K H' t a ns/\Yl t H H') ⟨ds,xs,none,none,none,rfl,fu _ _ nl gl1,Ye.frm fu (Tape.lst (F.same s1)) _ _ (Cz hP) (Ye.same s1 _ _ hx),hP,ZD _,F2,s1.frm.trans fu⟩ ?_ (fun σ H' ⟨ds',xs',z4,z5,z6,e1,e2,e3,e4,e5,e6⟩=>⟨ds',xs',z4,z5,z6,e1,e2,e3,e4,by lia,e6⟩);clear gl1 s1 fu F2 f2 hx hv H1 H2;rintro j σ H1 hj ⟨ds1,xs1,z4,z5,z6,rfl,gl1,R1,P1,l1,F1,f1⟩;refine⟨a,ns,F1,BF (by decide) (by decide),fun wy H2 w0 w1 F2 f2=>?_⟩;dsimp only[Aa];have R2:=Ye.frm (Ap f2) (Tape.lst F1) _ _ (Cz P1) R1;have gl2:=Ap f2 _ _ nl gl1;have f2':=f1.trans (Ap f2);have xl2:xs1.length=ds1.length:=R2.length.symm;clear gl1 R1 F1 f1 f2 H1
 have put:∀{H3:Hp} {ds':List Dv} {xs':List V} (z6:Option V),Tape K H3 t a ns->Yl t H H3->Ye K H3 ds' xs'->(∃zs,H3 l=some (.lst zs))->Pap ds'->ds'.length<=ds1.length+1->∃(ds':List Dv) (xs'':List V) (y4 y5 y6:Option V),[some (V.ref t),some (.int (n:Nat)),some (.ref p),some (.ref l),some (.int (0+(j:Int))),some (.int wy),z6]=[some (.ref t),some (.int (n:Nat)),some (.ref p),some (.ref l),y4,y5,y6]/\upd H3 l (.lst xs') l=some (.lst xs'')/\Ye K (upd H3 l (.lst xs')) ds' xs''/\Pap ds'/\ds'.length<=ds.length+(j+1)/\Tape K (upd H3 l (.lst xs')) t a ns/\Yl t H (upd H3 l (.lst xs')):=fun {H3 ds' xs'} z6 F3 f3 R3 hz P3 l3 =>
  ⟨ds',xs',_,_,_,rfl,AD,Ye.frm Yl.updT hz _ _ (Cz P3) R3,P3,by lia,M5 F F3 f3 hl nl,HB f3 hl⟩
 have test:∀(c:Int) (H3:Hp),Yc H2 H3->∀Q:Bool->Hp->Prop,(∀H',Yc H3 H'->Q (decide (wy=c) && !xs1.isEmpty) H')->Iu (uB (tOp (mEq false K) (CY 5) (tC (.int c)))) (uB (tOp (FP K) (CY 3) (JK DT))) [some (V.ref t),some (.int (n:Nat)),some (.ref p),some (.ref l),some (.int (0+(j:Int))),some (.int wy),z6] H3 Q:=by
  intro c H3 s3 Q k;have e1:(false ^^ (wy == c))=decide (wy=c):=by rw[Z2];rfl
  show if (false ^^ (wy == c))=true then _ else _
  rw[e1];refine AY (fun e=>?_) (fun e=>?_)
  ·rw[e,ZBx]at k;refine⟨ZP _,fun r0 m0=>⟨xs1,.inr ⟨.of (Yc.upd m0 _ _ (s3 _ _ gl2)),.of AD⟩,?_⟩⟩;exact k _ (Yc.upd m0)
  ·rw[show decide (wy=c)=false by simpa using e,ZBl]at k;exact k H3 (Yc.refl _)
 have Yw:∀{b:Bool},(b && !xs1.isEmpty)=true->0 < xs1.length:=fun {b} e=>by
  rw[ZQ]at e;cases xs1 with
  | nil=>cases e.2
  | cons _ _=>exact Nat.succ_pos _
 have ixn:∀{y:Int},0<=y->y < xs1.length->ixN xs1.length y=some y.toNat:=fun h0 h1=>by
  unfold ixN;rw[if_pos h0,if_pos (by lia)]
 have hL:∀{H3:Hp},Tape K H3 t a ns->∃zs,H3 t=some (.lst zs):=fun F=>Tape.lst F
 have pT:=Cz P1
 have one:∀{k:Nat},k < xs1.length->∃d0 z0,ds1[k]? = some (.tup [d0,.int z0])/\Ar d0=true:=fun {k} hk=>by
  have hk':k < ds1.length:=by lia
  obtain⟨d0,z0,ed,t0⟩:=P1 _ (Zk hk');exact⟨d0,z0,by rw[ZE hk',ed],t0⟩
 have papS:∀{k:Nat} {d0:Dv} {z0:Int},Ar d0=true->Pap (ds1.set k (.tup [d0,.int z0])):=fun h0 e he=>by
  rcases List.mem_or_eq_of_mem_set he with w | w
  ·exact P1 e w
  ·exact⟨_,_,w,h0⟩
 have atk:∀{k:Nat} {x:V} {y:Int},0<=y->y.toNat=k->xs1[k]? = some x->atI xs1 y=some x:=fun h0 e h=>by
  subst e;exact AO (by lia) h
 refine JP (decide (wy=0) && !xs1.isEmpty) (fun Q k=>test 0 H2 (Yc.refl _) Q k) (fun H3 s3=>?_);refine AY (fun e=>?_) (fun _=>?_)
 ·have hpos:=Yw e;have gl3:=s3 _ _ gl2;refine⟨.inl ⟨rfl,_,.of gl3⟩,xs1.length,.inl ⟨_,.of gl3,rfl⟩,a,ns,F2.same s3,BF (by lia) (by lia),fun y H4 y0 y1 F4 f4=>?_⟩;have fu:=Ap f4;refine⟨_,_,fu _ _ nl gl3,y0,by lia,ZE (by lia),put _ F4 (f2'.trans (s3.frm.trans fu)) (Mz y.toNat (Ye.frm fu (hL (F2.same s3)) _ _ pT (Ye.same s3 _ _ R2))) ⟨_,fu _ _ nl gl3⟩ (fun d hd=>P1 d (List.mem_of_mem_eraseIdx hd)) (Nat.le_succ_of_le (List.length_eraseIdx_le ..))⟩
 refine JP (decide (wy=1) && !xs1.isEmpty) (fun Q k=>test 1 H3 s3 Q k) (fun H4 s4=>?_);have S4:=s3.trans s4;refine AY (fun e=>?_) (fun _=>?_)
 ·have hpos:=Yw e;have gl4:=S4 _ _ gl2;refine⟨xs1.length,.inl ⟨_,.of gl4,rfl⟩,a,ns,F2.same S4,BF (by lia) (by lia),fun y H5 y0 y1 F5 f5=>?_⟩;dsimp only[Aa];have fu:=Ap f5;have gl5:=fu _ _ nl gl4;have R5:=Ye.frm fu (hL (F2.same S4)) _ _ pT (Ye.same S4 _ _ R2);obtain⟨d0,z0,ed,t0⟩:=one (k:=y.toNat) (by lia);obtain⟨xk,hk,rk⟩:=R5.get ed;obtain⟨pk,w0,w1,rfl,hs,r0,r1⟩:=Go rk;unfold Yh at r1;subst r1;have hat:=atk y0 rfl hk;refine⟨_,.ref pk,.inl (.of gl5),hat,_,w0,.inr hs,AO (n:=0) rfl rfl,_,.ref pk,.inl (.of gl5),hat,_,.int z0,.inr hs,AO (n:=1) rfl rfl,smq rfl,fun l2 hl2=>?_⟩;have s6:=Yc.upd (o:=.lst [.int 1,.int (-1),.int 2]) hl2;have g6:upd H5 l2 (.lst [.int 1,.int (-1),.int 2]) l2=some (.lst [.int 1,.int (-1),.int 2]):=AD;have n2:l2≠t:=F5.neT hl2;refine⟨a,ns,F5.same s6,BF (by decide) (by decide),fun y2 H7 a0 a1 F7 f7=>?_⟩;obtain⟨zz,hzz,_⟩:=SY (ns:=[1,-1,2]) (lo:=-1) (hi:=2) a0 a1 (by simp only[ZH,List.not_mem_nil,or_false];lia);have fu7:=Ap f7;refine⟨_,.int zz,.inl (.of (fu7 _ _ n2 g6)),hzz,smq rfl,fun pn hpn=>?_⟩;have s8:=Yc.upd (o:=.tup [w0,.int (max 1 (z0+zz))]) hpn;have gl8:=s8 _ _ (fu7 _ _ nl (s6 _ _ gl5));have h56:=hL (F5.same s6);refine⟨_,_,gl8,ixn y0 y1,put _ (F7.same s8) ((f2'.trans (S4.frm.trans fu)).trans (s6.frm.trans (fu7.trans s8.frm))) (Gr y.toNat (Ye.same s8 _ _ (Ye.frm fu7 h56 _ _ pT (Ye.same s6 _ _ R5))) (Fm AD (AR (Yh.same s8 _ _ (Yh.frm fu7 h56 _ _ t0 (Yh.same s6 _ _ r0))) (AR (by unfold Yh;rfl) Ah)))) ⟨_,gl8⟩ (papS t0) (by rw[List.length_set];lia)⟩
 refine JP (decide (wy=2) && !xs1.isEmpty) (fun Q k=>test 2 H4 S4 Q k) (fun H5 s5=>?_);have S5:=S4.trans s5;have gl5:=S5 _ _ gl2;have R5:=Ye.same S5 _ _ R2;have F5:=F2.same S5;refine AY (fun e=>?_) (fun _=>?_)
 ·have hpos:=Yw e;refine⟨xs1.length,.inl ⟨_,.of gl5,rfl⟩,a,ns,F5,BF (by lia) (by lia),fun y H6 y0 y1 F6 f6=>?_⟩;dsimp only[Aa];have fu:=Ap f6;have gl6:=fu _ _ nl gl5;have R6:=Ye.frm fu (hL F5) _ _ pT R5;refine⟨a,ns,n,F6,rfl,hn,fun zs pz H7 gz F7 f7=>?_⟩;have gl7:=f7 _ _ nl gl6;have R7:=Ye.frm f7 (hL F6) _ _ pT R6;obtain⟨d0,z0,ed,t0⟩:=one (k:=y.toNat) (by lia);obtain⟨xk,hk,rk⟩:=R7.get ed;obtain⟨pk,w0,w1,rfl,hs,r0,r1⟩:=Go rk;unfold Yh at r1;subst r1;refine⟨_,.ref pk,.inl (.of gl7),atk y0 rfl hk,_,.int z0,.inr hs,AO (n:=1) rfl rfl,smq rfl,fun pn hpn=>?_⟩;have s8:=Yc.upd (o:=.tup [.ref pz,.int z0]) hpn;have gl8:=s8 _ _ gl7;refine⟨_,_,gl8,ixn y0 y1,put _ (F7.same s8) ((f2'.trans (S5.frm.trans fu)).trans (f7.trans s8.frm)) (Gr y.toNat (Ye.same s8 _ _ R7) (Fm AD (AR (A8 (.of (s8 _ _ gz)) (Fw zs)) (AR (by unfold Yh;rfl) Ah)))) ⟨_,gl8⟩ (papS (Hz zs)) (by rw[List.length_set];lia)⟩
 refine⟨xs1.length,.inl ⟨_,.of gl5,rfl⟩,a,ns,F5,BF (by lia) (by lia),fun y H6 y0 y1 F6 f6=>?_⟩;dsimp only[Aa];have fu:=Ap f6;have gl6:=fu _ _ nl gl5;have R6:=Ye.frm fu (hL F5) _ _ pT R5;refine⟨.inl ⟨rfl,_,.of gl6⟩,a,ns,n,F6,rfl,hn,fun zs pz H7 gz F7 f7=>?_⟩
 have npz:pz≠t:=fun z=>by
  obtain⟨zs',hz'⟩:=hL F7;rw[z,hz']at gz;cases gz
 refine⟨a,ns,F7,BF (by decide) (by decide),fun y2 H8 a0 a1 F8 f8=>⟨smq rfl,fun pn hpn=>?_⟩⟩;have s9:=Yc.upd (o:=.tup [.ref pz,.int (1+y2)]) hpn;have fu8:=Ap f8;have f9:=f7.trans (fu8.trans s9.frm);have gl9:=s9 _ _ (fu8 _ _ nl (f7 _ _ nl gl6));have R9:=Ye.same s9 _ _ (Ye.frm fu8 (hL F7) _ _ pT (Ye.frm f7 (hL F6) _ _ pT R6));refine⟨_,gl9,y0,by lia,by lia,put (ds':=ds1.take y.toNat++.tup [.tup (iD zs),.int (1+y2)]::ds1.drop y.toNat) _ (F8.same s9) ((f2'.trans (S5.frm.trans fu)).trans f9) (Ye.append (NX _ R9) (AR (Fm AD (AR (A8 (.of (s9 _ _ (fu8 _ _ npz gz))) (Fw zs)) (AR (by unfold Yh;rfl) Ah))) (Nf _ R9))) ⟨_,gl9⟩ (fun d hd=>?_) (by rw[ZU,Zi,Zf,ZBm];lia)⟩
 rcases Ze.mp hd with w | w
 ·exact P1 d (List.mem_of_mem_take w)
 ·rcases ZH.mp w with w | w
  ·exact⟨_,_,w,Hz zs⟩
  ·exact P1 d (List.mem_of_mem_drop w)
def Dj(K:W.Frag)(Pt:Addr):Sp:=fun vs H Q _=>match vs with
 | [v]=>∃ls rs,Yh K H (gmD ls rs) v/\Gm ls rs/\Cq Pt H/\(∀i j,FN ls rs i j->∀H',Yc H H'->Q .non H')/\(C6 ls rs ->
  ∀t es u H',DE ls (rs.map AS) t (2 ^ ls.length - 1)->PInv ls (rs.map AS) ls.length (2 ^ ls.length - 1) es []->Yh K H' (.tup [.int (Ac ls (rs.map AS) (2 ^ ls.length - 1):Nat),t.dv,FO es]) u->Yu Pt H H'->Cq Pt H'->Q u H')
 | _=>False
theorem OJ:AM (Dj K Pt):=fun vs H Q Q' E h q=>by
 unfold Dj at *;split at q
 ·obtain⟨ls,rs,h1,h2,h3,q1,q2⟩:=q;exact⟨ls,rs,h1,h2,h3,fun i j x1 H' x2=>h _ _ (q1 i j x1 H' x2),fun he t es u H' x1 x2 x3 x4 x5=>h _ _ (q2 he t es u H' x1 x2 x3 x4 x5)⟩
 ·exact q.elim
theorem UP(B:BMn mg base):Xa P w base T.z55 97 (Dj K T.p_z16):=by
 refine T.z55.F.ok sc_z55 (fun vs H Q E h=>by unfold Dj at h;walk_at "e") ?_;walk_at "f";unfold Dj at h;walk_at "g"
 rename_i v;obtain⟨ls,rs,hv,G,hL,q1,q2⟩:=h;refine⟨_,(@AF _ _ _ _ _ (@AN _ _ 1 _ _ _ _ sc_z55.nd rfl (by right) DN (by rfl) (by walk_at "i")) (@AF _ _ _ _ _ (Rf (i:=1) sc_z55.nd rfl (by right) rfl rfl rfl T.mC_NoEnd (SK (@UI P w K mg base T B) (hr.mono (show 96<=_ by decide)) rfl T.z64.m T.z64.F.kp T.z64.b .nil (AA (vv 0) AB)) (fun _=>(@AG _ _ _ (@AN _ _ 1 _ _ _ _ sc_z55.nd rfl (by right) DN (by rfl) (by walk_at "i"))))) (@AG _ _ _ (@AK _ _ _ _ (vv 1))))),?_⟩;refine⟨ls,rs,hv,G,hL,fun i j hf d H' s' gd=>⟨T.xm_NoEnd_NoEnd,fun x hx=>?_⟩,fun he t es u H' bt pi rp gr L'=>?_⟩
 ·exact q1 i j hf _ (s'.trans (Yc.upd hx))
 ·exact q2 he t es u H' bt pi rp gr L'
abbrev Ea(Pt:Addr)(H:Hp):Prop:=Yz Pt Ec CK H
theorem M4{Pu:Addr}{pz:Array Value}(l:Yz Pt pos q H)(g:Yu Pu H H')(ne:Pt≠Pu)(hu:H Pu=some (.tbl pz)):Yz Pt pos q H':=by
 obtain⟨ps,a,b,c⟩:=l;refine⟨ps,g _ _ ne a,b,?_⟩
 rcases c with c | ⟨c',c,d⟩
 ·exact .inl c
 ·exact .inr ⟨c',c,g _ _ (fun z=>by rw[z,hu]at d;cases d) d⟩
structure G9(K:W.Frag)(PA PB:Addr)(H:Hp)(t a:Addr)(ns:List Int)(u:V)(ls:List Int)(rs:List (List Bool)):Prop where
 F:Tape K H t a ns
 A:Cq PA H
 B:Ea PB H
 r:Yh K H (gmD ls rs) u
section
variable {PA PB:Addr}{H H':Hp}{t a:Addr}{ns:List Int}{u:V}{ls:List Int}{rs:List (List Bool)}
theorem G9.same(n:G9 K PA PB H t a ns u ls rs)(s:Yc H H'):G9 K PA PB H' t a ns u ls rs:=⟨n.F.same s,n.A.same s,n.B.same s,Yh.same s _ _ n.r⟩
theorem G9.frm(n:G9 K PA PB H t a ns u ls rs)(F:Tape K H' t a ns)(f:Yl t H H'):G9 K PA PB H' t a ns u ls rs:=⟨F,GL n.A n.F f,GL n.B n.F f,Yh.frm f (Tape.lst n.F) _ _ (Cr _ _) n.r⟩
theorem G9.growB(n:G9 K PA PB H t a ns u ls rs)(ne:PA≠PB)(g:Yu PB H H')(l:Ea PB H'):G9 K PA PB H' t a ns u ls rs:=by
 obtain⟨pz,hP,_⟩:=id n.B;exact⟨KO n.F hP g,M4 n.A g ne hP,l,Yh.tab g hP _ _ n.r⟩
theorem G9.growA(n:G9 K PA PB H t a ns u ls rs)(ne:PA≠PB)(g:Yu PA H H')(l:Cq PA H'):G9 K PA PB H' t a ns u ls rs:=by
 obtain⟨pz,hP,_⟩:=id n.A;exact⟨KO n.F hP g,l,M4 n.B g (Ne.symm ne) hP,Yh.tab g hP _ _ n.r⟩
end
theorem O8(es:List (Nat × Nat)):Pap (es.map Fp):=fun d hd=>by
 obtain⟨e,_,rfl⟩:=ZK.mp hd;exact⟨_,_,rfl,Hz _⟩
theorem PInv.len8{S0:Nat}{es:List (Nat × Nat)}{pd:List Nat}(h:PInv ls ys n S0 es pd)(h8:ls.length<=8):es.length<=256:=by
 have:=Cj (2 ^ ls.length) (es.map (·.1)) h.nd (fun x hx=>by
  obtain⟨e,he,rfl⟩:=ZK.mp hx;exact(h.ok e he).1)
 rw[ZC]at this;have h2:2 ^ ls.length<=2 ^ 8:=Zp (by decide) h8;have h3:(2:Nat) ^ 8=256:=by decide
 lia
theorem Wh(n:Nat):(fun k=>decide (k∈List.range n))=(2 ^ n - 1).testBit:=by funext k;rw[VC];simp only[Zl]
structure GP(K:W.Frag)(PA PB:Addr)(H:Hp)(t a:Addr)(ns:List Int)(u:V)(ls:List Int)(rs:List (List Bool))(lp:Addr)(xp:List V)(dss:List (List Dv))(lt:Addr)(xt:List V)(trs:List Tr):Prop where
 g:G9 K PA PB H t a ns u ls rs
 p:H lp=some (.lst xp)
 pr:Ye K H (dss.map Dv.tup) xp
 q:H lt=some (.lst xt)
 qr:Ye K H (trs.map Tr.dv) xt
theorem GP.same{PA PB:Addr}{lp lt:Addr}{u:V}{xp xt:List V}{dss:List (List Dv)}{trs:List Tr}(n:GP K PA PB H t a ns u ls rs lp xp dss lt xt trs)(s:Yc H H'):GP K PA PB H' t a ns u ls rs lp xp dss lt xt trs:=⟨n.g.same s,s _ _ n.p,Ye.same s _ _ n.pr,s _ _ n.q,Ye.same s _ _ n.qr⟩
theorem GP.growB{PA PB:Addr}{lp lt:Addr}{u:V}{xp xt:List V}{dss:List (List Dv)}{trs:List Tr}(n:GP K PA PB H t a ns u ls rs lp xp dss lt xt trs)(ne:PA≠PB)(g:Yu PB H H')(l:Ea PB H'):GP K PA PB H' t a ns u ls rs lp xp dss lt xt trs:=by
 obtain⟨pz,hP,_⟩:=id n.g.B;have nn:∀{b:Addr} {zs:List V},H b=some (.lst zs)->b≠PB:=fun h e=>by rw[e,hP]at h;cases h
 exact⟨n.g.growB ne g l,g _ _ (nn n.p) n.p,Ye.tab g hP _ _ n.pr,g _ _ (nn n.q) n.q,Ye.tab g hP _ _ n.qr⟩
theorem Nh:∀ds:List Dv,(Cn ds).length=ds.length
 | []=>rfl
 | d::ds=>congrArg (· + 1) (Nh ds)
theorem JM:∀{dss:List (List Dv)},(∀ds∈dss,Pap ds)->Ag (dss.map Dv.tup)=true
 | [],_=>by simp[Ag]
 | d::ds,h=>by
  rw[Zd];unfold Ag;rw[JM fun e he=>h e (ZW _ he)]
  have:Ar (.tup d)=true:=by unfold Ar;exact Cz (h d (Zb ..))
  rw[this];rfl
theorem Tr.deep2:∀t:Tr,2 * t.deep<=t.size+1
 | .say i=>by show 2 * 1<=1+1;decide
 | .ask q n y=>by
  have h1:=n.deep2;have h2:=y.deep2;have h3:=n.size_pos;have h4:=y.size_pos;show 2 * (1+max n.deep y.deep)<=1+n.size+y.size+1;lia
theorem WF{t:Tr}(G:Gm ls rs)(l8:ls.length<=8)(he:C6 ls rs)(h:DE ls (rs.map AS) t (2 ^ ls.length - 1)):t.ok rs.length/\t.deep<=8/\t.size<=15:=by
 obtain⟨a1,_,_,_,a6⟩:=Gv t _ h (Jp _) (Ip he _ (Jp _))
 have:=Dz ls.length (2 ^ ls.length - 1).testBit
 have:=t.deep2
 exact⟨a1,by lia,by lia⟩
theorem Tp(B:BMn mg base):FnOk P w K mg base CX0 98 T.f_law T.d_law ["_law_script"] (GN K [T.p_z16,T.p_z63]):=by
 refine T.F_law.ok sc_law (fun vs H Q E h=>by obtain⟨a,ns,rfl,_⟩:=h;rfl) ?_;walk_at "f";obtain⟨a,ns,rfl,hS,Yk,hPt,q⟩:=h;refine⟨_,(@AF _ _ _ _ _ (@AN _ _ 1 _ _ _ _ sc_law.nd rfl (by right) (AL (@PF P w K mg base T) (hr.mono (show 1<=_ by decide)) rfl T.z47.m T.z47.F.kp T.z47.b .nil AH (AA (vv 0) AB)) (by rfl) (by walk_at "i")) (@AF _ _ _ _ _ (@Be _ _ _ _ _ _ _ _ PassesOwn.never rfl (BR rfl T.z_range (AA AC AB)) (AQ (i:=2) sc_law.nd rfl (by right)) (@AF _ _ _ _ _ (@AN _ _ 3 _ _ _ _ sc_law.nd rfl (by right) (AL (@Vp P w K mg base T) (hr.mono (show 2<=_ by decide)) rfl T.z50.m T.z50.F.kp T.z50.b .nil AH (AA (vv 1) AB)) (by rfl) (by walk_at "i")) (@AF _ _ _ _ _ (@AN _ _ 4 _ _ _ _ sc_law.nd rfl (by right) (AZ (At (K:=K)) rfl T.z_len (by rfl) (AA (Yp (K:=K) (vv 3) AC) AB)) (by rfl) (by walk_at "i")) (@AF _ _ _ _ _ (@AN _ _ 5 _ _ _ _ sc_law.nd rfl (by right) (AL (@PQ P w K mg base T) (hr.mono (show 11<=_ by decide)) rfl T.z52.m T.z52.F.kp T.z52.b .nil AH (AA (vv 3) (AA (P7 rfl rfl T.z_tuple rfl T.z_range (AA (vv 4) AB)) (AA Oc AB)))) (by rfl) (by walk_at "i")) (@AF _ _ _ _ _ (@AN _ _ 6 _ _ _ _ sc_law.nd rfl (by right) (AL (@UP P w K mg base T B) (hr.mono (show 97<=_ by decide)) rfl T.z55.m T.z55.F.kp T.z55.b .nil AH (AA (vv 3) AB)) (by rfl) (by walk_at "i")) (@AF _ _ _ _ _ (@Am _ _ _ _ _ _ _ _ (PW.pt (Ce (AV (kNe (K:=K) hu) (BN MN (vv 6) DN) (BN (kEq (K:=K) hu) (vv 5) AC)) (C7 (PW.pt (Bm (AV LS (vv 6) DN) (Bq (AV (kNe (K:=K) hu) (Yp (K:=K) (vv 6) AC) (vv 5)))))))) (@AG _ _ _ (@AK _ _ _ _ Av)) Aq) (@AF _ _ _ _ _ (@C5 _ _ _ _ _ _ (Cu (AV MN (vv 6) DN) (A5 (AA (A5 AB) (AA (A5 (AA CH (AA AC AB))) AB))) (A5 (AA (Yp (K:=K) (vv 6) AC) (AA (Yp (K:=K) (vv 6) AC) AB)))) (HQ (K:=K) (n:=2) rfl (BP (AQ (i:=7) sc_law.nd rfl (by right)) (BP (AQ (i:=8) sc_law.nd rfl (by right)) Cf))) (by rfl) (by rfl) (by rfl)) (@AF _ _ _ _ _ (@AN _ _ 9 _ _ _ _ sc_law.nd rfl (by right) (AW (A9 (K:=K)) (BY (AA (vv 7) AB)) (Ao (N':=["_law_k","_law_tape_here","_law_many","_law_paper"]) (own:=1) (ix:=[1,4,7]) rfl (BR rfl T.z_range (AA AC AB)) (by kernel_rfl) rfl rfl (by kernel_rfl) (fun c=>AQ (i:=0) (show(["_law_k","_law_tape_here","_law_many","_law_paper"]:List Str).Nodup by decide +kernel) rfl (by right)) (Af (by decide)) (fun c=>BB) (fun c=>(AL (@Vn P w K mg base T) (hr.mono (show 3<=_ by decide)) rfl T.z31.m T.z31.F.kp T.z31.b .nil AH (AA (vv 1) (AA (vv 2) (AA (vv 3) AB))))))) (by rfl) (by walk_at "i")) (@AF _ _ _ _ _ (@AN _ _ 10 _ _ _ _ sc_law.nd rfl (by right) (AW (A9 (K:=K)) (BY (AA (vv 8) (AA (AL (@LJ P w K mg base T) (hr.mono (show 6<=_ by decide)) rfl T.z49.m T.z49.F.kp T.z49.b .nil AH (AA (vv 1) (AA (vv 3) (AA AC AB)))) AB))) (Ao (N':=["_law_k","_law_tape_here","_law_game_here","_law_tree_here"]) (own:=1) (ix:=[1,3,8]) rfl (BR rfl T.z_range (AA AC AB)) (by kernel_rfl) rfl rfl (by kernel_rfl) (fun c=>AQ (i:=0) (show(["_law_k","_law_tape_here","_law_game_here","_law_tree_here"]:List Str).Nodup by decide +kernel) rfl (by right)) (Af (by decide)) (fun c=>BB) (fun c=>(AL (@PZ P w K mg base T) (hr.mono (show 26<=_ by decide)) rfl T.z35.m T.z35.F.kp T.z35.b .nil AH (AA (vv 1) (AA (vv 2) (AA (vv 3) AB))))))) (by rfl) (by walk_at "i")) (@AG _ _ _ (@Be _ _ _ _ _ _ _ _ PassesOwn.never rfl (BR rfl T.z_range (AA AC AB)) (AQ (i:=11) sc_law.nd rfl (by right)) (@AF _ _ _ _ _ (@Am _ _ _ _ _ _ _ _ (PW.pt (Bm (AV Ca (vv 5) AC) (Bm (AV (D3 (K:=K) hu) (Ao (N':=["_law_one","_law_game_here","_law_d"]) (own:=1) (ix:=[3,11]) rfl (BA (K:=K) (vv 9)) (by kernel_rfl) rfl rfl (by kernel_rfl) (fun c=>AQ (i:=0) (show(["_law_one","_law_game_here","_law_d"]:List Str).Nodup by decide +kernel) rfl (by right)) (Af (by decide)) (fun c=>CD (Az (AL (@Pb P w K mg base T) (hr.mono (show 6<=_ by decide)) rfl T.z51.m T.z51.F.kp T.z51.b .nil AH (AA (vv 1) (AA (vv 2) (AA (vv 0) AB)))))) (fun c=>(vv 0))) (BY AB)) (Bq (AV Ca (vv 5) (vv 11)))))) (@AG _ _ _ (@AK _ _ _ _ Av)) Aq) (@AG _ _ _ (@Be _ _ _ _ _ _ _ _ PassesOwn.never rfl (BA (K:=K) (vv 10)) (AQ (i:=12) sc_law.nd rfl (by right)) (@AF _ _ _ _ _ (@AN _ _ 13 _ _ _ _ sc_law.nd rfl (by right) (@Ao _ _ _ _ _ _ _ (["_law_thing","_law_game_here","_law_one"]) 1 ([3,12]) _ _ _ _ rfl (BR rfl T.z_range (AA (vv 4) AB)) (by kernel_rfl) rfl rfl (by kernel_rfl) (fun c=>AQ (i:=0) (show(["_law_thing","_law_game_here","_law_one"]:List Str).Nodup by decide +kernel) rfl (by right)) (Af (by decide)) (fun c=>BB) (fun c=>(AL (@RA P w K mg base T) (hr.mono (show 1<=_ by decide)) rfl T.z56.m T.z56.F.kp T.z56.b .nil AH (AA (vv 1) (AA (vv 2) (AA (vv 0) AB))))) (by intro _;rfl)) (by rfl) (by walk_at "i")) (@AF _ _ _ _ _ (@He _ _ _ _ _ _ _ (["_law_k","_law_paths","_law_game_here","_law_d"]) 1 ([13,3,11]) _ _ _ _ 14 _ _ _ rfl sc_law.nd rfl rfl (BR rfl T.z_range (AA (vv 4) AB)) (by kernel_rfl) rfl rfl (by kernel_rfl) (fun c=>AQ (i:=0) (show(["_law_k","_law_paths","_law_game_here","_law_d"]:List Str).Nodup by decide +kernel) rfl (by right)) (Af (by decide)) (fun c=>CD (PW.pt (Bm (AV (kEq (K:=K) hu) (Yp (K:=K) (Yp (K:=K) (vv 1) (vv 0)) AC) (Yp (K:=K) (Yp (K:=K) (vv 2) AC) (vv 0))) (Bq (AV FA (Yp (K:=K) (Yp (K:=K) (vv 1) (vv 0)) AC) (vv 3)))))) (fun c=>(vv 0)) (by rfl) (by intro _;rfl)) (@AG _ _ _ (@Am _ _ _ _ _ _ _ _ (PW.pt (Bm (Az (AL (@OI P w K mg base T B) (hr.mono (show 10<=_ by decide)) rfl T.z53.m T.z53.F.kp T.z53.b .nil AH (AA (vv 3) (AA (vv 11) (AA (vv 12) AB))))) (Bq (PW.pt (Ce (AV Ca (AZ (At (K:=K)) rfl T.z_len (by rfl) (AA (vv 14) AB)) (vv 4)) (C7 (AV Bg (vv 5) (vv 11)))))))) (@AG _ _ _ (@AK _ _ _ _ Av)) Aq)))) (by intro _;rfl)))) (by intro _;rfl))))))))))) (by intro _;rfl)) (@AG _ _ _ (@AK _ _ _ _ Av)))),?_⟩;have mo1:AM (D8 K):=SQ;have mo2:AM (B5 K 9):=MQ;have mo3:AM (Dj K T.p_z16):=OJ;have mo4:AM (EN K):=Sn;have mo5:AM (Bp K 4):=IG;have mo6:AM (CJ K 20):=NE;have mo7:AM (EL K):=Rr;have mo8:AM (Dd K T.p_z63):=Ot;have mo9:AM (DA K):=LC;have np:=T.np_0;generalize hPA:T.p_z16=PA at *;generalize hPB:T.p_z63=PB at *;have A0:Cq PA H:=Mn (hPt _ (Zb ..));have B0:Ea PB H:=Mn (hPt _ (ZW _ (ZI.mpr rfl)));refine fun t ht=>?_
 dsimp only[Aa];have F1:=Nr ht hS;have s1:=Yc.upd (o:=.lst [.ref a,.int 0,.int 0,.int 0]) ht;have A1:=A0.same s1;have B1:=B0.same s1;generalize upd H t (.lst [.ref a,.int 0,.int 0,.int 0])=H1 at *;refine Aj (fun σ H'=>∃z:List (Option V),σ=some (.ref a)::some (.ref t)::z) ?_ (fun σ H' _=>q H') (by walk_at "sm");refine⟨4,rfl,by decide,by decide,?_⟩;refine DF (fun i σ H'=>(∃z2 z3 z4 z5 z6 z7 z8 z9 z10 z11 z12 z13 z14:Option V,σ=[some (.ref a),some (.ref t),z2,z3,z4,z5,z6,z7,z8,z9,z10,z11,z12,z13,z14])/\Tape K H' t a ns/\Cq PA H'/\Ea PB H') ⟨⟨none,none,none,none,none,none,none,none,none,none,none,none,none,rfl⟩,F1,A1,B1⟩ ?_ (fun σ H' ⟨⟨z2,z3,z4,z5,z6,z7,z8,z9,z10,z11,z12,z13,z14,e⟩,_⟩=>⟨_,e⟩);clear F1 A1 B1 A0 B0 s1 ht H1;rintro i σ H2 hi ⟨⟨z2,z3,z4,z5,z6,z7,z8,z9,z10,z11,z12,z13,z14,rfl⟩,F2,A2,B2⟩;refine⟨a,ns,F2,fun ls rs u H3 G l8 r3 F3 f3=>?_⟩;dsimp only[Aa];have n3:G9 K PA PB H3 t a ns u ls rs:=⟨F3,GL A2 F2 f3,GL B2 F2 f3,r3⟩;clear F2 A2 B2 f3 F3 r3 H2;have l1:=G.l1;have l16:=G.l16;have r1:=G.r1;have r16:=G.r16;obtain⟨ga,tl,rl,ps,rfl,g⟩:=Bd n3.r;refine⟨_,.ref tl,.inr g.two,rfl,ls.length,.inr ⟨_,g.lab,by rw[ZC]⟩,?_⟩;dsimp only[Aa];refine⟨ls.length,rfl,by lia,fun tp htp dd hdd=>?_⟩;have s4:=Yc.upd (o:=.tup (iL (List.range ls.length))) htp;have gt4:upd H3 tp (.tup (iL (List.range ls.length))) tp=some (.tup (iL (List.range ls.length))):=AD;have hdE:upd H3 tp (.tup (iL (List.range ls.length))) dd=none:=hdd;clear hdd;have eiL:((List.range ls.length).map fun(k:Nat)=>V.int (k:Int))=iL (List.range ls.length):=rfl;rw[eiL];generalize upd H3 tp (.tup (iL (List.range ls.length)))=H4 at *;have s5:=Yc.upd (o:=.dT []) hdE;refine⟨ls,rs,List.range ls.length,[],Yh.same s5 _ _ (Yh.same s4 _ _ n3.r),G,s5 _ _ gt4,ZBw,fun t ht=>Zl.mp ht,by rw[ZBB];lia,AD,⟨List.nodup_nil,nofun⟩,fun D kvs' H6 fx f6 hd6 M6=>?_⟩;dsimp only[Aa];have S6:Yc H3 H6:=fun b o e=>f6 b o (BX (s4 _ _ e) hdE) (s5 _ _ (s4 _ _ e))
 have n6:=n3.same S6;clear S6 f6 hd6 M6 s5 s4 gt4 hdE htp n3 g H3;refine Aj (fun σ H'=>∃fv:V,σ=[some (.ref a),some (.ref t),some (.int (0+(i:Int))),some (.ref ga),some (.int (ls.length:Nat)),some (.int (D:Nat)),some fv,z7,z8,z9,z10,z11,z12,z13,z14]/\G9 K PA PB H' t a ns (.ref ga) ls rs/\((fv=.non/\D=99)\/∃(pf:Addr) (x1 x2:V) (t0:Tr) (es:List (Nat × Nat)),fv=.ref pf/\Ys K H' pf [.int (D:Nat),x1,x2]/\Yh K H' t0.dv x1/\Yh K H' (FO es) x2/\t0.ok rs.length/\t0.deep<=8/\t0.size<=15/\es.length<=256/\D≠99)) ?_ ?_ (by walk_at "sm")
 ·refine⟨ls,rs,n6.r,G,n6.A,fun i' j' hf H7 s7=>?_,fun he t0 es u' H7 bt I rp g7 A7=>?_⟩
  ·refine⟨_,rfl,n6.same s7,.inl ⟨rfl,?_⟩⟩;obtain⟨h1,h2,h3,h4⟩:=hf.1
   rcases fx with fx | fx
   ·exact absurd (FY (i:=i') (j:=j') (fun y hy=>by
     obtain⟨r,hr,rfl⟩:=ZK.mp hy;exact List.map_inj_left.mp h4 r hr) fx.1 (ZL (Zl.mpr (by lia))) (ZL (Zl.mpr h2))) h3
   ·exact fx.2
  ·obtain⟨pp,xs,rfl,hp,hx⟩:=Co rp;unfold Ye at hx;obtain⟨x0,l0,rfl,e0,hx⟩:=hx;unfold Ye at hx;obtain⟨x1,l1',rfl,e1,hx⟩:=hx;unfold Ye at hx;obtain⟨x2,l2,rfl,e2,hx⟩:=hx;unfold Ye at hx;subst hx;unfold Yh at e0;subst e0;have nf:=Cb (Ip he _ (Jp _));rw[KP,<- Wh]at nf;have eD:D=Ac ls (rs.map AS) (2 ^ ls.length - 1):=PL fx (.inl nf);have hle:=MS nf;rw[ZC,<- eD]at hle;rw[<- eD]at hp;obtain⟨b1,b2,b3⟩:=WF G l8 he bt;exact⟨_,rfl,n6.growA np g7 A7,.inr ⟨pp,x1,x2,t0,es,rfl,hp,e1,e2,b1,b2,b3,I.len8 l8,by lia⟩⟩
 clear n6 H6;rintro σ H6 ⟨fv,rfl,n6,hfv⟩;refine Aj (fun σ H'=>σ=[some (.ref a),some (.ref t),some (.int (0+(i:Int))),some (.ref ga),some (.int (ls.length:Nat)),some (.int (D:Nat)),some fv,z7,z8,z9,z10,z11,z12,z13,z14]/\H'=H6) ?_ ?_ (by walk_at "sm")
 ·rcases hfv with ⟨rfl,rfl⟩ | ⟨pf,x1,x2,t0,es,rfl,hp,_,_,_,_,_,_,h99⟩
  ·exact⟨rfl,rfl⟩
  ·have e9:(((D:Nat):Int) == 99)=false:=by
    rw[beq_eq_false_iff_ne];lia
   show if (true ^^ ((false ^^ decide (V.ref pf=V.non)) == (false ^^ (((D:Nat):Int) == 99))))=true then _ else _
   rw[e9];refine⟨_,_,.inr hp,AO (n:=0) rfl rfl,?_⟩;generalize ((D:Nat):Int)=y at *;have e0:(true ^^ (y == y))=false:=by simp
   show if (true ^^ (y == y))=true then _ else _
   rw[e0];exact⟨rfl,rfl⟩
 rintro σ H7 ⟨rfl,rfl⟩;refine Aj (fun σ H'=>∃(ds:List Dv) (tr:Tr) (vp vt:V),σ=[some (.ref a),some (.ref t),some (.int (0+(i:Int))),some (.ref ga),some (.int (ls.length:Nat)),some (.int (D:Nat)),some fv,some vp,some vt,z9,z10,z11,z12,z13,z14]/\G9 K PA PB H' t a ns (.ref ga) ls rs/\Yh K H' (.tup ds) vp/\Yh K H' tr.dv vt/\Pap ds/\ds.length<=256/\tr.ok rs.length/\tr.deep<=8/\tr.size<=15) ?_ ?_ (by walk_at "sm")
 ·rcases hfv with ⟨rfl,rfl⟩ | ⟨pf,x1,x2,t0,es,rfl,hp,r1',r2',b1,b2,b3,b4,_⟩
  ·refine⟨ZP _,fun p1 h1=>⟨smq rfl,fun p2 h2=>⟨smq rfl,fun p3 h3=>?_⟩⟩⟩;have q1:=Yc.upd (o:=.tup []) h1;have g1:upd H7 p1 (.tup []) p1=some (.tup []):=AD;generalize upd H7 p1 (.tup [])=H8 at *;have q2:=Yc.upd (o:=.tup [.str (Str.ofString "say"),.int 0]) h2;have g2:upd H8 p2 (.tup [.str (Str.ofString "say"),.int 0]) p2=some (.tup [.str (Str.ofString "say"),.int 0]):=AD;generalize upd H8 p2 (.tup [.str (Str.ofString "say"),.int 0])=H9 at *;have q3:=Yc.upd (o:=.tup [.ref p1,.ref p2]) h3;exact⟨_,.inr (.of AD),rfl,_,_,rfl,_,_,rfl,rfl,[],.say 0,_,_,rfl,n6.same (q1.trans (q2.trans q3)),A8 (.of (q3 _ _ (q2 _ _ g1))) Ah,A8 (.of (q3 _ _ g2)) (AR (by unfold Yh;rfl) (AR (by unfold Yh;rfl) Ah)),nofun,by decide,trivial,by decide,by decide⟩
  ·refine⟨_,_,.inr hp,AO (n:=2) rfl rfl,_,_,.inr hp,AO (n:=1) rfl rfl,smq rfl,fun p3 h3=>?_⟩;have q3:=Yc.upd (o:=.tup [x2,x1]) h3;exact⟨_,.inr (.of AD),rfl,_,_,rfl,_,_,rfl,rfl,es.map Fp,t0,_,_,rfl,n6.same q3,Yh.same q3 _ _ r2',Yh.same q3 _ _ r1',O8 es,by rw[ZC];exact b4,b1,b2,b3⟩
 clear hfv n6;rintro σ H8 ⟨ds,tr,vp,vt,rfl,n8,rp,rt,hP,hdl,tok,tdp,tsz⟩;refine Aj (fun σ H'=>∃(lp:Addr) (xp:List V) (dss:List (List Dv)),σ=[some (.ref a),some (.ref t),some (.int (0+(i:Int))),some (.ref ga),some (.int (ls.length:Nat)),some (.int (D:Nat)),some fv,some vp,some vt,some (.ref lp),z10,z11,z12,z13,z14]/\G9 K PA PB H' t a ns (.ref ga) ls rs/\Yh K H' tr.dv vt/\H' lp=some (.lst xp)/\lp≠t/\Ye K H' (dss.map Dv.tup) xp/\xp.length<=20/\∀ds∈dss,Pap ds/\ds.length<=300) ?_ ?_ (by walk_at "sm")
 ·refine⟨smq rfl,fun l1' h1=>?_⟩;have s9:=Yc.upd (o:=.lst [vp]) h1;have gl9:upd H8 l1' (.lst [vp]) l1'=some (.lst [vp]):=AD;have nl1:l1'≠t:=n8.F.neT h1;have n9:=n8.same s9;have rp9:=Yh.same s9 _ _ rp;have rt9:=Yh.same s9 _ _ rt;generalize upd H8 l1' (.lst [vp])=H9 at *;have hL9:=Tape.lst n9.F;have tP:Ar (.tup ds)=true:=by unfold Ar;exact Cz hP
  refine⟨8,rfl,by decide,by decide,?_⟩
  refine B7 (fun j ys H'=>∃dss:List (List Dv),Ye K H' (dss.map Dv.tup) ys/\dss.length=j/\(∀ds∈dss,Pap ds/\ds.length<=300)/\Tape K H' t a ns/\Yl t H9 H') ⟨[],Ah,rfl,nofun,n9.F,Yl.refl⟩ (fun j ys H' hj ⟨dss,R,e,_⟩=>by
   have hj8:j < 8:=hj;rw[<- R.length,ZC,e];exact Al (by lia)) ?_ ?_
  ·rintro j ys H10 hj ⟨dss,R,e,hd,F10,f10⟩;refine⟨a,ns,ls.length,ds,F10,rfl,l16,Yh.frm f10 hL9 _ _ tP rp9,hP,by lia,fun ds' v' H11 r11 P11 l11 F11 f11=>?_⟩;refine⟨dss++[ds'],?_,by rw[ZU,e];rfl,fun d hdm=>?_,F11,f10.trans f11⟩
   ·rw[ZR];exact Ye.append (Ye.frm f11 (Tape.lst F10) _ _ (JM fun d h=>(hd d h).1) R) (AR r11 Ah)
   ·rcases Ze.mp hdm with w | w
    ·exact hd d w
    ·rw[ZI.mp w];exact⟨P11,by lia⟩
  ·rintro ys H10 ⟨dss,R,e,hd,F10,f10⟩ l2 h2;have e8:dss.length=8:=e;have s11:=Yc.upd (o:=.lst ys) h2;have g11:upd H10 l2 (.lst ys) l2=some (.lst ys):=AD;generalize upd H10 l2 (.lst ys)=H11 at *;have yl:ys.length=8:=by rw[<- R.length,ZC,e8]
   refine .inl ⟨_,_,_,_,rfl,rfl,s11 _ _ (f10 _ _ nl1 gl9),g11,EM (by rw[yl];show 1+8<=1000;decide),fun lp hlp=>?_⟩;have s12:=Yc.upd (o:=.lst ([vp]++ys)) hlp;have S:=s11.trans s12
   have hds:∀d∈ds::dss,Pap d/\d.length<=300:=fun d hdm=>by
    rcases ZH.mp hdm with w | w
    ·rw[w];exact⟨hP,by lia⟩
    ·exact hd d w
   exact⟨lp,[vp]++ys,ds::dss,rfl,(n9.frm F10 f10).same S,Yh.same S _ _ (Yh.frm f10 hL9 _ _ tr.tups rt9),AD,(F10.same s11).neT hlp,AR (Yh.same S _ _ (Yh.frm f10 hL9 _ _ tP rp9)) (Ye.same S _ _ R),by rw[ZU,yl];show 1+8<=20;decide,hds⟩
 clear n8 rp rt H8;rintro σ H8 ⟨lp,xp,dss,rfl,n8,rt,gp8,nlp,R8,xpl,hdss⟩;refine Aj (fun σ H'=>∃(lt:Addr) (xt:List V) (trs:List Tr),σ=[some (.ref a),some (.ref t),some (.int (0+(i:Int))),some (.ref ga),some (.int (ls.length:Nat)),some (.int (D:Nat)),some fv,some vp,some vt,some (.ref lp),some (.ref lt),z11,z12,z13,z14]/\GP K PA PB H' t a ns (.ref ga) ls rs lp xp dss lt xt trs/\∀u∈trs,u.ok rs.length/\u.deep<=16/\u.size<=2000) ?_ ?_ (by walk_at "sm")
 ·refine⟨3,a,ns,ls,rs,n8.F,n8.r,G,rfl,by decide,fun tr1 v1 H9 r1' o1 d1 F9 f9=>⟨smq rfl,fun l1' h1=>?_⟩⟩;have hL8:=Tape.lst n8.F;have tPs:=JM fun d h=>(hdss d h).1
  have s10:=Yc.upd (o:=.lst [vt,v1]) h1;have gl10:upd H9 l1' (.lst [vt,v1]) l1'=some (.lst [vt,v1]):=AD;have nl1:l1'≠t:=F9.neT h1;have n10:=(n8.frm F9 f9).same s10;have rt10:=Yh.same s10 _ _ (Yh.frm f9 hL8 _ _ tr.tups rt);have r110:=Yh.same s10 _ _ r1';have gp10:=s10 _ _ (f9 _ _ nlp gp8);have R10:=Ye.same s10 _ _ (Ye.frm f9 hL8 _ _ tPs R8);generalize upd H9 l1' (.lst [vt,v1])=H10 at *;have hL10:=Tape.lst n10.F
  have z1:tr1.size<=2000:=by
   have h1:=tr1.size_lt;have h2:2 ^ tr1.deep<=2 ^ 4:=Zp (by decide) d1;lia
  refine⟨5,rfl,by decide,by decide,?_⟩
  refine B7 (fun j ys H'=>∃trs:List Tr,Ye K H' (trs.map Tr.dv) ys/\trs.length=j/\(∀u∈trs,u.ok rs.length/\u.deep<=16/\u.size<=2000)/\Tape K H' t a ns/\Yl t H10 H') ⟨[],Ah,rfl,nofun,n10.F,Yl.refl⟩ (fun j ys H' hj ⟨dss,R,e,_⟩=>by
   have hj8:j < 5:=hj;rw[<- R.length,ZC,e];exact Al (by lia)) ?_ ?_
  ·rintro j ys H11 hj ⟨trs,R,e,hd,F11,f11⟩;refine⟨a,ns,ls,rs,tr,F11,Yh.frm f11 hL10 _ _ (Cr _ _) n10.r,G,Yh.frm f11 hL10 _ _ tr.tups rt10,tok,by lia,fun tr' v' H12 r12 o12 d12 z12' F12 f12=>?_⟩;refine⟨trs++[tr'],?_,by rw[ZU,e];rfl,fun u hu'=>?_,F12,f11.trans f12⟩
   ·rw[ZR];exact Ye.append (Ye.frm f12 (Tape.lst F11) _ _ (GW trs) R) (AR r12 Ah)
   ·rcases Ze.mp hu' with w | w
    ·exact hd u w
    ·rw[ZI.mp w];exact⟨o12,by lia,by lia⟩
  ·rintro ys H11 ⟨trs,R,e,hd,F11,f11⟩ l2 h2;have e8:trs.length=5:=e;have s12:=Yc.upd (o:=.lst ys) h2;have g12:upd H11 l2 (.lst ys) l2=some (.lst ys):=AD;generalize upd H11 l2 (.lst ys)=H12 at *;have yl:ys.length=5:=by rw[<- R.length,ZC,e8]
   refine .inl ⟨_,_,_,_,rfl,rfl,s12 _ _ (f11 _ _ nl1 gl10),g12,EM (by rw[yl];show 2+5<=1000;decide),fun lt Yr=>?_⟩;have s13:=Yc.upd (o:=.lst ([vt,v1]++ys)) Yr;have S:=s12.trans s13;refine⟨lt,[vt,v1]++ys,tr::tr1::trs,rfl,⟨(n10.frm F11 f11).same S,S _ _ (f11 _ _ nlp gp10),Ye.same S _ _ (Ye.frm f11 hL10 _ _ tPs R10),AD,AR (Yh.same S _ _ (Yh.frm f11 hL10 _ _ tr.tups rt10)) (AR (Yh.same S _ _ (Yh.frm f11 hL10 _ _ tr1.tups r110)) (Ye.same S _ _ R))⟩,fun u hu'=>?_⟩
   rcases ZH.mp hu' with w | w
   ·rw[w];exact⟨tok,by lia,by lia⟩
   ·rcases ZH.mp w with w | w
    ·rw[w];exact⟨o1,by lia,z1⟩
    ·exact hd u w
 clear n8 rt gp8 nlp R8 H8;rintro σ H8 ⟨lt,xt,trs,rfl,n8,htrs⟩;have xtl:xt.length=trs.length:=by rw[<- n8.qr.length,ZC]
 have xpl2:xp.length=dss.length:=by rw[<- n8.pr.length,ZC]
 refine⟨6,rfl,by decide,by decide,?_⟩;refine DF (fun j σ H'=>(∃y11 y12 y13 y14:Option V,σ=[some (.ref a),some (.ref t),some (.int (0+(i:Int))),some (.ref ga),some (.int (ls.length:Nat)),some (.int (D:Nat)),some fv,some vp,some vt,some (.ref lp),some (.ref lt),y11,y12,y13,y14])/\GP K PA PB H' t a ns (.ref ga) ls rs lp xp dss lt xt trs) ⟨⟨_,_,_,_,rfl⟩,n8⟩ ?_ (fun σ H' ⟨⟨y11,y12,y13,y14,e⟩,n⟩=>⟨⟨_,_,_,_,_,_,_,_,_,_,_,_,_,e⟩,n.g.F,n.g.A,n.g.B⟩);clear n8 H8;rintro j σ H8 hj ⟨⟨y11,y12,y13,y14,rfl⟩,n8⟩;dsimp only[Aa];rw[show(0:Int)+(j:Int)=((j:Nat):Int) from Int.zero_add _];refine Aj (fun σ H'=>σ=[some (.ref a),some (.ref t),some (.int (0+(i:Int))),some (.ref ga),some (.int (ls.length:Nat)),some (.int (D:Nat)),some fv,some vp,some vt,some (.ref lp),some (.ref lt),some (.int (j:Nat)),y12,y13,y14]/\GP K PA PB H' t a ns (.ref ga) ls rs lp xp dss lt xt trs) ?_ ?_ (by walk_at "sm")
 ·refine AY (fun e=>?_) (fun e=>⟨rfl,n8⟩)
  have hD:D < 99:=by
   have:((D:Nat):Int) < 99:=ZM e
   lia
  have few:Ai (AE ls) (rs.map gB) (fun k=>decide (k∈List.range ls.length)) D:=by
   rcases fx with fx | fx
   ·exact fx
   ·lia
  refine .inl ⟨⟨_,.of n8.p⟩,?_⟩;refine EE (xs:=xp) (fun k ys H'=>Yc H8 H'/\ys.length<=k/\(ys≠[]->∃d,HK ls rs ((j:Nat):Int) d)) ⟨Yc.refl _,ZD _,fun h=>absurd rfl h⟩ (fun k ys H' _ ⟨s,_⟩=>.of (s _ _ n8.p)) (fun k ys H' hk ⟨_,e,_⟩=>ZB2 e (Al (by lia))) ?_ ?_
  ·rintro k x ys H9 hx ⟨s9,yl,hy⟩;obtain⟨d,hd,rx⟩:=FQ n8.pr hx;rw[ZT]at hd;obtain⟨ds1,hd1,rfl⟩:=ZBg.mp hd;obtain⟨P1,l1'⟩:=hdss ds1 (Zo hd1);refine⟨ls,rs,_,(n8.g.same s9).r,G,MG _ _ (by unfold Ar;exact Cz P1) (Yh.same s9 _ _ rx),fun es e=>?_,fun b H10 hb s10=>?_⟩
   ·have e:Dw.tup (Cn ds1)=.tup es:=e;injection e with e
    rw[<- e,Nh];lia
   ·refine AY (fun e=>⟨s9.trans s10,by rw[ZU];show ys.length+1<=_;lia,fun _=>⟨_,hb.mp e⟩⟩) (fun e=>⟨s9.trans s10,by lia,hy⟩)
  ·rintro ys H9 ⟨s9,yl,hy⟩ l2 hl2;refine⟨ZP _,fun l3 hl3=>⟨ys,.inr ⟨.of (Yc.upd hl3 _ _ AD),.of AD⟩,?_⟩⟩;have S:=s9.trans ((Yc.upd (o:=.lst ys) hl2).trans (Yc.upd (o:=.lst []) hl3));refine AY (fun e=>?_) (fun e=>⟨rfl,n8.same S⟩);have Yw:ys≠[]:=fun z=>by rw[z]at e;cases e
   obtain⟨d,hd⟩:=hy Yw;refine AY (fun e=>?_) (fun e=>⟨rfl,n8.same S⟩);exact(Sm few.1 hd (ZM e)).elim
 clear n8 H8;rintro σ H8 ⟨rfl,n8⟩;refine .inl ⟨⟨_,.of n8.q⟩,?_⟩;refine Hr (xs:=xt) (fun k σ H'=>(∃y12 y13 y14:Option V,σ=[some (.ref a),some (.ref t),some (.int (0+(i:Int))),some (.ref ga),some (.int (ls.length:Nat)),some (.int (D:Nat)),some fv,some vp,some vt,some (.ref lp),some (.ref lt),some (.int (j:Nat)),y12,y13,y14])/\GP K PA PB H' t a ns (.ref ga) ls rs lp xp dss lt xt trs) ⟨⟨_,_,_,rfl⟩,n8⟩ (fun k σ H' _ ⟨_,n⟩=>.of n.q) ?_ (fun σ H' ⟨⟨y12,y13,y14,e⟩,n⟩=>⟨⟨_,_,_,_,e⟩,n⟩);clear n8 H8 y12 y13 y14;rintro k x σ H8 hx ⟨⟨y12,y13,y14,rfl⟩,n8⟩;dsimp only[Aa];obtain⟨d,hd,rx⟩:=FQ n8.qr hx;rw[ZT]at hd;obtain⟨tr2,hd1,rfl⟩:=ZBg.mp hd;obtain⟨k1,k2,k3⟩:=htrs tr2 (Zo hd1);refine Aj (fun σ H'=>∃(pl:Addr) (as:List Addr),σ=[some (.ref a),some (.ref t),some (.int (0+(i:Int))),some (.ref ga),some (.int (ls.length:Nat)),some (.int (D:Nat)),some fv,some vp,some vt,some (.ref lp),some (.ref lt),some (.int (j:Nat)),some x,some (.ref pl),y14]/\Yc H8 H'/\H' pl=some (.lst (as.map V.ref))/\as.length=ls.length/\∀(k:Nat) (p:Addr),as[k]? = some p->H' p=some (.tup [.int (tr2.end_ rs k),.int (tr2.many rs k:Nat)])) ?_ ?_ (by walk_at "sm")
 ·refine⟨ls.length,rfl,by lia,by lia,?_⟩;rw[Zm];refine B7 (fun j ys H'=>∃as:List Addr,ys=as.map V.ref/\as.length=j/\Yc H8 H'/\∀(k:Nat) (p:Addr),as[k]? = some p->H' p=some (.tup [.int (tr2.end_ rs k),.int (tr2.many rs k:Nat)])) ⟨[],rfl,rfl,Yc.refl _,fun k p z=>by simp at z⟩ (fun j ys H' hj ⟨as,e,e2,_⟩=>by rw[e,ZC,e2];exact Al (by lia)) ?_ ?_
  ·rintro j ys H2 hj ⟨as,rfl,has,s2,h2⟩;refine⟨ls,rs,tr2,j,(n8.g.same s2).r,G,Yh.same s2 _ _ rx,k1,by rw[Int.zero_add],hj,fun p H3 s3 g3=>⟨as++[p],by rw[ZR];rfl,by rw[ZU,has];rfl,s2.trans s3,fun k p' hp=>?_⟩⟩
   rcases ZBW k as.length with z | z | z
   ·rw[ZBP z]at hp;exact s3 _ _ (h2 k p' hp)
   ·subst z;rw[ZBL (ZD _),ZBt]at hp;cases hp;rw[has];exact g3
   ·rw[ZBL (Z0 z),ZB9 (by simp;lia)]at hp;cases hp
  ·rintro ys H2 ⟨as,rfl,has,s2,h2⟩ l nl;have s3:=Yc.upd (o:=.lst (as.map V.ref)) nl;exact⟨l,as,rfl,s2.trans s3,AD,has,fun k p hp=>s3 _ _ (h2 k p hp)⟩
 rintro σ H9 ⟨pl,as,rfl,s9,gl9,has,h9⟩;have n9:=n8.same s9;have rx9:=Yh.same s9 _ _ rx;obtain⟨ga',tl',rl',ps',ea,g9⟩:=Bd n9.g.r;cases ea;refine Aj (fun σ H'=>∃(gl:Addr),σ=[some (.ref a),some (.ref t),some (.int (0+(i:Int))),some (.ref ga),some (.int (ls.length:Nat)),some (.int (D:Nat)),some fv,some vp,some vt,some (.ref lp),some (.ref lt),some (.int (j:Nat)),some x,some (.ref pl),some (.ref gl)]/\Yc H9 H'/\H' gl=some (.lst (iL ((List.range ls.length).filter (Bi ls rs (j:Nat) tr2))))) ?_ ?_ (by walk_at "sm")
 ·refine⟨ls.length,rfl,by lia,by lia,?_⟩;rw[Zm];refine B7 (fun m ys H'=>H'=H9/\ys=iL ((List.range m).filter (Bi ls rs (j:Nat) tr2))) ⟨rfl,rfl⟩ (fun m ys H' hm ⟨_,e⟩=>by rw[e,Ab];exact ZB2 (ZBk _ _) (by rw[ZBB];exact Al (by lia))) ?_ ?_
  ·rintro m ys H10 hm ⟨rfl,rfl⟩;have em:as[m]? = some as[m]:=ZE (by lia);have gm:=h9 m _ em;have hat:atI (as.map V.ref) ((m:Nat):Int)=some (.ref as[m]):=AO rfl (by rw[ZT,em];rfl);rw[show(0:Int)+(m:Int)=((m:Nat):Int) from Int.zero_add _];refine⟨_,.ref as[m],.inl (.of gl9),hat,_,_,.inr (.of gm),AO (n:=0) rfl rfl,_,.ref tl',.inr g9.two,rfl,_,_,.inr g9.lab,C8 hm,?_⟩;have eh:Bi ls rs (j:Nat) tr2 m=(decide (tr2.end_ rs m=AE ls m) && decide ((tr2.many rs m:Int)<=(j:Nat))):=rfl;rw[ZBa,ZBj];have e2:(false ^^ (tr2.end_ rs m == AE ls m))=decide (tr2.end_ rs m=AE ls m):=by rw[Z2];rfl
   show if (false ^^ (tr2.end_ rs m == AE ls m))=true then _ else _
   rw[e2];refine AY (fun h=>?_) (fun h=>?_)
   ·refine⟨_,.ref as[m],.inl (.of gl9),hat,_,_,.inr (.of gm),AO (n:=1) rfl rfl,?_⟩;refine AY (fun h'=>?_) (fun h'=>?_)
    ·refine⟨rfl,?_⟩;rw[ZBi,if_pos (by rw[eh,h];exact h'),ZB0,BW];rfl
    ·refine⟨rfl,?_⟩;rw[ZBi,if_neg (by rw[eh,h];exact h'),ZB0,Zj]
   ·refine⟨rfl,?_⟩
    rw[ZBi,if_neg (by
     rw[eh,show decide (tr2.end_ rs m=AE ls m)=false by simpa using h,ZBl];exact Z7),ZB0,Zj]
  ·rintro ys H10 ⟨rfl,rfl⟩ l nl;exact⟨l,rfl,Yc.upd nl,AD⟩
 rintro σ H10 ⟨gl,rfl,s10,gg⟩;have n10:=n9.same s10;refine⟨ls,rs,tr2,n10.g.r,G,Yh.same s10 _ _ rx9,k1,⟨k2,k3⟩,n10.g.B,fun H11 g11 B11=>?_⟩;have n11:=n10.growB np g11 B11;have fin:∃y12 y13 y14:Option V,[some (V.ref a),some (.ref t),some (.int (0+(i:Int))),some (.ref ga),some (.int (ls.length:Nat)),some (.int (D:Nat)),some fv,some vp,some vt,some (.ref lp),some (.ref lt),some (.int (j:Nat)),some x,some (.ref pl),some (.ref gl)]=[some (.ref a),some (.ref t),some (.int (0+(i:Int))),some (.ref ga),some (.int (ls.length:Nat)),some (.int (D:Nat)),some fv,some vp,some vt,some (.ref lp),some (.ref lt),some (.int (j:Nat)),y12,y13,y14]:=⟨_,_,_,rfl⟩;refine AY (fun e=>?_) (fun e=>⟨fin,n11⟩);have hall:=ZBH.mp e;have hfl:(List.range ls.length).filter (Bi ls rs (j:Nat) tr2)=List.range ls.length:=List.filter_eq_self.mpr hall
 have hcan:Can (AE ls) (rs.map gB) j (fun k=>decide (k∈List.range ls.length)):=IH tr2 j _ k1 fun m hm=>by
  have:=hall m (ZM hm)
  unfold Bi at this;rw[ZQ,decide_eq_true_iff,decide_eq_true_iff]at this;exact⟨this.1,by lia⟩
 have hDj:=(EX fx hcan).2 _ hcan;obtain⟨pz,hP,_⟩:=id n10.g.B;have gg11:=g11 _ _ (fun z=>by rw[z,hP]at gg;cases gg) gg;refine⟨ls.length,.inl ⟨_,.of gg11,by rw[Ab,hfl,ZBB]⟩,?_⟩;refine AY (fun e=>?_) (fun _=>?_)
 ·have:((ls.length:Nat):Int) < (ls.length:Nat):=ZM e
  lia
 ·refine AY (fun e=>?_) (fun _=>⟨fin,n11⟩)
  have:((j:Nat):Int) < (D:Nat):=ZM e
  lia
end
abbrev DI(K:W.Frag)(n:Str)(st:Stmt)(f:Addr):Prop:=∃(oc kV dc pm cd ct:Value) (od an:Option Addr) (sl:Array (Option Value)),W.nsIn K mainGlobals n=some (some (.ref f))/\K.lookup f=some ⟨oc,od,.func (W.fnOf n n (Ba st) (BD st) (AJ st) .none kV dc pm an cd ct),sl⟩/\W.codeIn K cd n=true/\W.keepIn K (.ref f)=true
structure FD(K:W.Frag)(mg:Str->Option Value)(n:Str)(st:Stmt)(ps:List Str)(f:Addr) where
 d:FuncData
 F:Fun K n n st f d
 b:Binds K d ps []
 m:mg n=some (.ref f)
theorem DI.fd{h:Heap}{mg:Str->Option Value}{n:Str}{st:Stmt}{f:Addr}{ps:List Str}(i:DI K n st f)(X:K.In h)(G:h.Ns mainGlobals mg)(hb:∀(kV doc pm:Value) (an:Option Addr) (Yy ct:Value) (us:List Value),us.length=ps.length->bindArgs (W.fnOf n n (Ba st) (BD st) (AJ st) .none kV doc pm an Yy ct) ⟨us,[]⟩=pure (ps.zip us)):Nonempty (FD K mg n st ps f):=by
 obtain⟨oc,kV,dc,pm,cd,ct,od,an,sl,a,l,c,k⟩:=i;exact⟨⟨_,Ct l c k,(Ct l c k).binds hb,W.mg_of X G a⟩⟩
abbrev DM(K:W.Frag)(C:Addr)(n q:Str)(st:Stmt)(f:Addr):Prop:=∃(oc kV dc pm cd ct:Value) (od an:Option Addr) (sl:Array (Option Value)),W.findIn K (.ref C) n=some (some (.ref f))/\W.isFn K (.ref f)=true/\K.lookup f=some ⟨oc,od,.func (W.fnOf n q (Ba st) (BD st) (AJ st) .none kV dc pm an cd ct),sl⟩/\W.codeIn K cd q=true/\W.keepIn K (.ref f)=true
structure FM(K:W.Frag)(C:Addr)(n q:Str)(st:Stmt)(ps:List Str)(f:Addr) where
 d:FuncData
 F:Fun K n q st f d
 b:Binds K d ps []
 m:Meth K C n f
theorem DM.fm{n:Str}{st:Stmt}{f:Addr}{ps:List Str}(i:DM K C n q st f)(hb:∀(kV doc pm:Value) (an:Option Addr) (Yy ct:Value) (us:List Value),us.length=ps.length->bindArgs (W.fnOf n q (Ba st) (BD st) (AJ st) .none kV doc pm an Yy ct) ⟨us,[]⟩=pure (ps.zip us)):Nonempty (FM K C n q st ps f):=by
 obtain⟨oc,kV,dc,pm,cd,ct,od,an,sl,a,i,l,c,k⟩:=i;exact⟨⟨_,Ct l c k,(Ct l c k).binds hb,⟨a,i,k⟩⟩⟩
theorem all_di{n:Str}{st:Stmt}{f:Addr}{oc kV dc pm cd ct:Value}{od an:Option Addr}{sl:Array (Option Value)}(a:W.nsIn K mainGlobals n=some (some (.ref f)))(l:K.lookup f=some ⟨oc,od,.func (W.fnOf n n (Ba st) (BD st) (AJ st) .none kV dc pm an cd ct),sl⟩)(c:W.codeIn K cd n=true)(k:W.keepIn K (.ref f)=true):DI K n st f:=⟨_,_,_,_,_,_,_,_,_,a,l,c,k⟩
theorem all_dm{n:Str}{st:Stmt}{f:Addr}{oc kV dc pm cd ct:Value}{od an:Option Addr}{sl:Array (Option Value)}(a:W.findIn K (.ref C) n=some (some (.ref f)))(i:W.isFn K (.ref f)=true)(l:K.lookup f=some ⟨oc,od,.func (W.fnOf n q (Ba st) (BD st) (AJ st) .none kV dc pm an cd ct),sl⟩)(c:W.codeIn K cd q=true)(k:W.keepIn K (.ref f)=true):DM K C n q st f:=⟨_,_,_,_,_,_,_,_,_,a,i,l,c,k⟩
theorem all_mk {l:W.OpenLaw} {w:World} {h:Heap} {mg:Str->Option Value} {fa:Addr} (X:K.In h) (G:h.Ns mainGlobals mg) (hfa:mg "law" = some (.ref fa))
 {C_Bearing:Addr}
 {C_Reckoner:Addr}
 {C_NoEnd:Addr}
 {f8 f54:Addr} {oc8 kV8 dc8 pm8 cd8 ct8 oc54 kV54 dc54 pm54 cd54 ct54:Value} {od8 an8 od54 an54:Option Addr} {sl8 sl54:Array (Option Value)}
 {f29:Addr} {oc29 kV29 dc29 pm29 ct29:Value} {od29 an29:Option Addr} {sl29:Array (Option Value)} {g29 p29:Addr} {cvs29:Array Value} {cod29:Option Addr} {csl29:Array (Option Value)}
 {f37:Addr} {oc37 kV37 dc37 pm37 ct37:Value} {od37 an37:Option Addr} {sl37:Array (Option Value)} {g37 p37:Addr} {cvs37:Array Value} {cod37:Option Addr} {csl37:Array (Option Value)}
 {t_MOST_TREES:Tok}
 {t_MOST_WITHIN:Tok}
 {f0 f1 f2 f3 f4 f5 f6 f7 f9 f10 f11 f12 f13 f14 f15 f16 f17 f18 f19 f20 f21 f22 f23 f24 f25 f26 f27 f28 f30 f31 f32 f33 f34 f35 f36 f38 f39 f40 f41 f42 f43 f44 f45 f46 f47 f48 f49 f50 f51 f52 f53:Addr}
 (aC_Bearing:W.nsIn K mainGlobals "Bearing" = some (some (.ref C_Bearing)))
 (pg_Bearing:W.plainGet K C_Bearing Str.empty=true)
 (hd_Bearing:W.hasDictIn K C_Bearing=true)
 (po_Bearing:W.plainOver K C_Bearing=true)
 (sa_Bearing:W.findIn K (.ref C_Bearing) "__setattr__" = some (some (.builtin "object.__setattr__")))
 (mk_Bearing:W.makesIn K C_Bearing=true)
 (kc_Bearing:W.keepIn K (.ref C_Bearing)=true)
 (na_yeses_Bearing:W.findIn K (.ref C_Bearing) "yeses" = some none)
 (na_numbers_Bearing:W.findIn K (.ref C_Bearing) "numbers" = some none)
 (na_found_Bearing:W.findIn K (.ref C_Bearing) "found" = some none)
 (aC_Reckoner:W.nsIn K mainGlobals "Reckoner" = some (some (.ref C_Reckoner)))
 (pg_Reckoner:W.plainGet K C_Reckoner Str.empty=true)
 (hd_Reckoner:W.hasDictIn K C_Reckoner=true)
 (po_Reckoner:W.plainOver K C_Reckoner=true)
 (sa_Reckoner:W.findIn K (.ref C_Reckoner) "__setattr__" = some (some (.builtin "object.__setattr__")))
 (mk_Reckoner:W.makesIn K C_Reckoner=true)
 (kc_Reckoner:W.keepIn K (.ref C_Reckoner)=true)
 (na_labels_Reckoner:W.findIn K (.ref C_Reckoner) "labels" = some none)
 (na_yeses_Reckoner:W.findIn K (.ref C_Reckoner) "yeses" = some none)
 (na_alike_Reckoner:W.findIn K (.ref C_Reckoner) "alike" = some none)
 (na_known_Reckoner:W.findIn K (.ref C_Reckoner) "known" = some none)
 (aC_NoEnd:W.nsIn K mainGlobals "NoEnd" = some (some (.ref C_NoEnd)))
 (x1_NoEnd:W.findIn K (.ref C_NoEnd) "__getattribute__" = some (some (.builtin "BaseException.__getattribute__")))
 (x2_NoEnd:W.findIn K (.ref C_NoEnd) "__getattr__" = some none)
 (x3_NoEnd:W.mroIn K C_NoEnd (.type "BaseException")=some true)
 (x4_NoEnd:W.mroIn K C_NoEnd (.type "object")=some true)
 (x5_NoEnd:W.findIn K (.ref C_NoEnd) "__class__" = some (some (.builtin "object.__class__")))
 (x6_NoEnd:W.specialIn K (.builtin "object.__class__") "__get__" = some (some (.builtin "getset_descriptor.__get__")))
 (x7_NoEnd:W.takesIn K (.builtin "object.__class__")=some true)
 (xs_NoEnd:W.findIn K (.ref C_NoEnd) "__setattr__" = some (some (.builtin "object.__setattr__")))
 (hd_NoEnd:W.hasDictIn K C_NoEnd=true)
 (na_one_NoEnd:W.findIn K (.ref C_NoEnd) "one" = some none)
 (na_other_NoEnd:W.findIn K (.ref C_NoEnd) "other" = some none)
 (xm_NoEnd_NoEnd:W.exmOne K (.ref C_NoEnd) (.ref C_NoEnd)=some true)
 (i0:DI K "is_whole" Hf f0)
 (i1:DI K "is_below" IT f1)
 (i2:DI K "two_to" JU f2)
 (i3:DI K "power_of" Iz f3)
 (i4:DI K "is_on" GR f4)
 (i5:DI K "within" Ji f5)
 (i6:DI K "set_holding" GU f6)
 (i7:DI K "members_of" Ia f7)
 (a8:W.findIn K (.ref C_NoEnd) "__init__" = some (some (.ref f8)))
 (i8:W.isFn K (.ref f8)=true)
 (l8:K.lookup f8=some ⟨oc8,od8,.func (W.fnOf "__init__" "NoEnd.__init__" (Ba D4) (BD D4) (AJ D4) .none kV8 dc8 pm8 an8 cd8 ct8),sl8⟩)
 (c8:W.codeIn K cd8 "NoEnd.__init__" = true)
 (k8:W.keepIn K (.ref f8)=true)
 (i9:DI K "is_pair" Hg f9)
 (i10:DI K "lets_hard" Ie f10)
 (i11:DI K "is_entry" Hv f11)
 (i12:DI K "are_things" Jc f12)
 (i13:DM K C_Bearing "__init__" "Bearing.__init__" Jj f13)
 (i14:DM K C_Bearing "bears_all" "Bearing.bears_all" JS f14)
 (i15:DM K C_Bearing "bears" "Bearing.bears" Jg f15)
 (i16:DM K C_Bearing "has_within" "Bearing.has_within" Hi f16)
 (i17:DM K C_Bearing "greatest_within" "Bearing.greatest_within" Hk f17)
 (i18:DM K C_Reckoner "__init__" "Reckoner.__init__" Hm f18)
 (i19:DM K C_Reckoner "everything" "Reckoner.everything" G5 f19)
 (i20:DM K C_Reckoner "has_one_label" "Reckoner.has_one_label" GY f20)
 (i21:DM K C_Reckoner "label_of" "Reckoner.label_of" Gn f21)
 (i22:DM K C_Reckoner "left_of" "Reckoner.left_of" HI f22)
 (i23:DM K C_Reckoner "fewest_among" "Reckoner.fewest_among" HW f23)
 (i24:DM K C_Reckoner "fewest_reckoned" "Reckoner.fewest_reckoned" IZ f24)
 (i25:DM K C_Reckoner "parting" "Reckoner.parting" G4 f25)
 (i26:DM K C_Reckoner "worst_behind" "Reckoner.worst_behind" G8 f26)
 (i27:DM K C_Reckoner "harder_left" "Reckoner.harder_left" IJ f27)
 (i28:DM K C_Reckoner "harder_lefts" "Reckoner.harder_lefts" JF f28)
 (a29:W.findIn K (.ref C_Reckoner) "first_question" = some (some (.ref f29)))
 (i29:W.isFn K (.ref f29)=true)
 (l29:K.lookup f29=some ⟨oc29,od29,.func (W.fnOf "first_question" "Reckoner.first_question" (Ba CN) (BD CN) (AJ CN) .none kV29 dc29 pm29 an29 (.ref g29) ct29),sl29⟩)
 (c29:W.codeIn K (.ref g29) "Reckoner.first_question" = true)
 (k29:W.keepIn K (.ref f29)=true)
 (lc29:K.lookup g29=some ⟨.type "code",cod29,.fields cvs29,csl29⟩)
 (pv29:cvs29[11]? = some (.ref p29))
 (gh29:W.codeHdIn K g29 p29=true)
 (gt29:h.get? p29=some (W.tabObj #[]))
 (i30:DI K "members_where" GV f30)
 (i31:DI K "refuse_without_end" JJ f31)
 (i32:DI K "first_unparted" Ic f32)
 (i33:DI K "fewest" Io f33)
 (i34:DI K "best_tree" Js f34)
 (i35:DI K "hard_paper" Hj f35)
 (i36:DI K "keeps_to" Gs f36)
 (a37:W.nsIn K mainGlobals "is_tree" = some (some (.ref f37)))
 (l37:K.lookup f37=some ⟨oc37,od37,.func (W.fnOf "is_tree" "is_tree" (Ba Ch) (BD Ch) (AJ Ch) .none kV37 dc37 pm37 an37 (.ref g37) ct37),sl37⟩)
 (c37:W.codeIn K (.ref g37) "is_tree" = true)
 (k37:W.keepIn K (.ref f37)=true)
 (lc37:K.lookup g37=some ⟨.type "code",cod37,.fields cvs37,csl37⟩)
 (pv37:cvs37[11]? = some (.ref p37))
 (gh37:W.codeHdIn K g37 p37=true)
 (gt37:h.get? p37=some (W.tabObj #[]))
 (i38:DI K "has_tree_form" JI f38)
 (i39:DI K "trees_within" Hn f39)
 (i40:DI K "is_too_large_tree" Ir f40)
 (i41:DI K "asked" Hx f41)
 (i42:DI K "lets_tree" Iv f42)
 (i43:DI K "comes_home" Gg f43)
 (i44:DI K "_law_tape" HV f44)
 (i45:DI K "_law_next" Gw f45)
 (i46:DI K "_law_game" JW f46)
 (i47:DI K "_law_asks" Gy f47)
 (i48:DI K "_law_things" HS f48)
 (i49:DI K "_law_bent_paper" Im f49)
 (i50:DI K "_law_tree" Ja f50)
 (i51:DI K "_law_bent_tree" Gc f51)
 (i52:DI K "_law_led" IX f52)
 (i53:DI K "_law_told" Hs f53)
 (a54:W.nsIn K mainGlobals "law" = some (some (.ref f54)))
 (l54:K.lookup f54=some ⟨oc54,od54,.func (W.fnOf "law" "law" (Ba CV) (BD CV) (AJ CV) .none kV54 dc54 pm54 an54 cd54 ct54),sl54⟩)
 (c54:W.codeIn K cd54 "law" = true)
 (k54:W.keepIn K (.ref f54)=true)
 (z_all:W.nsIn K mainGlobals "all" = some none)
 (z_any:W.nsIn K mainGlobals "any" = some none)
 (z_bool:W.nsIn K mainGlobals "bool" = some none)
 (z_enumerate:W.nsIn K mainGlobals "enumerate" = some none)
 (z_int:W.nsIn K mainGlobals "int" = some none)
 (z_isinstance:W.nsIn K mainGlobals "isinstance" = some none)
 (z_len:W.nsIn K mainGlobals "len" = some none)
 (z_list:W.nsIn K mainGlobals "list" = some none)
 (z_max:W.nsIn K mainGlobals "max" = some none)
 (z_min:W.nsIn K mainGlobals "min" = some none)
 (z_range:W.nsIn K mainGlobals "range" = some none)
 (z_set:W.nsIn K mainGlobals "set" = some none)
 (z_sorted:W.nsIn K mainGlobals "sorted" = some none)
 (z_sum:W.nsIn K mainGlobals "sum" = some none)
 (z_tuple:W.nsIn K mainGlobals "tuple" = some none)
 (c_MOST_TREES:W.nsIn K mainGlobals "MOST_TREES" = some (some (.int 2000 t_MOST_TREES)))
 (c_MOST_WITHIN:W.nsIn K mainGlobals "MOST_WITHIN" = some (some (.int 16 t_MOST_WITHIN)))
 (xj_NoEnd:ED K C_NoEnd f8=true)
 (hnt:W.noTabs K=true)
 (np_0:p29≠p37) :
 ∃(fd:FuncData) (ts:List (Addr × Addr)),W.TabsAt ts h/\W.noTabs K=true/\(∀(s:Shared) (v:Value),BindsTo s fd ⟨[v],[]⟩ [("_law_script",v)])/\∀base:Heap,K.In base->base.Ns mainGlobals mg->BMn mg base->FnOk l.prog w K mg base CX0 98 fa fd ["_law_script"] (GN K (ts.map (·.2))):=by
 have e:=hfa.symm.trans (W.mg_of X G a54);cases e;obtain⟨Q0⟩:=i0.fd X G (ps:=["thing"]) fun _ _ _ _ _ _=>L2.on1 (fun _=>rfl)
 obtain⟨Q1⟩:=i1.fd X G (ps:=["bound","thing"]) fun _ _ _ _ _ _=>L2.on2 (fun _ _=>rfl)
 obtain⟨Q2⟩:=i2.fd X G (ps:=["n"]) fun _ _ _ _ _ _=>L2.on1 (fun _=>rfl)
 obtain⟨Q3⟩:=i3.fd X G (ps:=["base","times"]) fun _ _ _ _ _ _=>L2.on2 (fun _ _=>rfl)
 obtain⟨Q4⟩:=i4.fd X G (ps:=["place","switch"]) fun _ _ _ _ _ _=>L2.on2 (fun _ _=>rfl)
 obtain⟨Q5⟩:=i5.fd X G (ps:=["subset","other"]) fun _ _ _ _ _ _=>L2.on2 (fun _ _=>rfl)
 obtain⟨Q6⟩:=i6.fd X G (ps:=["members"]) fun _ _ _ _ _ _=>L2.on1 (fun _=>rfl)
 obtain⟨Q7⟩:=i7.fd X G (ps:=["subset"]) fun _ _ _ _ _ _=>L2.on1 (fun _=>rfl)
 have F8:=Ct (st:=D4) l8 c8 k8;have b8:=F8.binds (ps:=["self","one","other"]) fun _ _ _ _ _ _=>L2.on3 (fun _ _ _=>rfl)
 obtain⟨Q9⟩:=i9.fd X G (ps:=["thing"]) fun _ _ _ _ _ _=>L2.on1 (fun _=>rfl)
 obtain⟨Q10⟩:=i10.fd X G (ps:=["game","d","thing"]) fun _ _ _ _ _ _=>L2.on3 (fun _ _ _=>rfl)
 obtain⟨Q11⟩:=i11.fd X G (ps:=["game","thing"]) fun _ _ _ _ _ _=>L2.on2 (fun _ _=>rfl)
 obtain⟨Q12⟩:=i12.fd X G (ps:=["many","thing"]) fun _ _ _ _ _ _=>L2.on2 (fun _ _=>rfl)
 obtain⟨Q13⟩:=i13.fm (ps:=["self","game","entries"]) fun _ _ _ _ _ _=>L2.on3 (fun _ _ _=>rfl)
 obtain⟨Q14⟩:=i14.fm (ps:=["self"]) fun _ _ _ _ _ _=>L2.on1 (fun _=>rfl)
 obtain⟨Q15⟩:=i15.fm (ps:=["self","things","number","yes"]) fun _ _ _ _ _ _=>L2.on4 (fun _ _ _ _=>rfl)
 obtain⟨Q16⟩:=i16.fm (ps:=["self","things","number"]) fun _ _ _ _ _ _=>L2.on3 (fun _ _ _=>rfl)
 obtain⟨Q17⟩:=i17.fm (ps:=["self","things"]) fun _ _ _ _ _ _=>L2.on2 (fun _ _=>rfl)
 obtain⟨Q18⟩:=i18.fm (ps:=["self","game"]) fun _ _ _ _ _ _=>L2.on2 (fun _ _=>rfl)
 obtain⟨Q19⟩:=i19.fm (ps:=["self"]) fun _ _ _ _ _ _=>L2.on1 (fun _=>rfl)
 obtain⟨Q20⟩:=i20.fm (ps:=["self","things"]) fun _ _ _ _ _ _=>L2.on2 (fun _ _=>rfl)
 obtain⟨Q21⟩:=i21.fm (ps:=["self","things"]) fun _ _ _ _ _ _=>L2.on2 (fun _ _=>rfl)
 obtain⟨Q22⟩:=i22.fm (ps:=["self","things","question","answer"]) fun _ _ _ _ _ _=>L2.on4 (fun _ _ _ _=>rfl)
 obtain⟨Q23⟩:=i23.fm (ps:=["self","things"]) fun _ _ _ _ _ _=>L2.on2 (fun _ _=>rfl)
 obtain⟨Q24⟩:=i24.fm (ps:=["self","things"]) fun _ _ _ _ _ _=>L2.on2 (fun _ _=>rfl)
 obtain⟨Q25⟩:=i25.fm (ps:=["self","things"]) fun _ _ _ _ _ _=>L2.on2 (fun _ _=>rfl)
 obtain⟨Q26⟩:=i26.fm (ps:=["self","things","question"]) fun _ _ _ _ _ _=>L2.on3 (fun _ _ _=>rfl)
 obtain⟨Q27⟩:=i27.fm (ps:=["self","things","question"]) fun _ _ _ _ _ _=>L2.on3 (fun _ _ _=>rfl)
 obtain⟨Q28⟩:=i28.fm (ps:=["self","things"]) fun _ _ _ _ _ _=>L2.on2 (fun _ _=>rfl)
 have F29:=Ct (st:=CN) l29 c29 k29;have b29:=F29.binds (ps:=["self","things"]) fun _ _ _ _ _ _=>L2.on2 (fun _ _=>rfl)
 obtain⟨Q30⟩:=i30.fd X G (ps:=["wanted","values"]) fun _ _ _ _ _ _=>L2.on2 (fun _ _=>rfl)
 obtain⟨Q31⟩:=i31.fd X G (ps:=["game"]) fun _ _ _ _ _ _=>L2.on1 (fun _=>rfl)
 obtain⟨Q32⟩:=i32.fd X G (ps:=["game"]) fun _ _ _ _ _ _=>L2.on1 (fun _=>rfl)
 obtain⟨Q33⟩:=i33.fd X G (ps:=["game"]) fun _ _ _ _ _ _=>L2.on1 (fun _=>rfl)
 obtain⟨Q34⟩:=i34.fd X G (ps:=["reckoner","things"]) fun _ _ _ _ _ _=>L2.on2 (fun _ _=>rfl)
 obtain⟨Q35⟩:=i35.fd X G (ps:=["reckoner","things"]) fun _ _ _ _ _ _=>L2.on2 (fun _ _=>rfl)
 obtain⟨Q36⟩:=i36.fd X G (ps:=["has_form","parts_within","is_beyond","thing"]) fun _ _ _ _ _ _=>L2.on4 (fun _ _ _ _=>rfl)
 have F37:=Ct (st:=Ch) l37 c37 k37;have b37:=F37.binds (ps:=["game","thing"]) fun _ _ _ _ _ _=>L2.on2 (fun _ _=>rfl)
 obtain⟨Q38⟩:=i38.fd X G (ps:=["questions","thing"]) fun _ _ _ _ _ _=>L2.on2 (fun _ _=>rfl)
 obtain⟨Q39⟩:=i39.fd X G (ps:=["tree"]) fun _ _ _ _ _ _=>L2.on1 (fun _=>rfl)
 obtain⟨Q40⟩:=i40.fd X G (ps:=["many","depth"]) fun _ _ _ _ _ _=>L2.on2 (fun _ _=>rfl)
 obtain⟨Q41⟩:=i41.fd X G (ps:=["game","tree","thing"]) fun _ _ _ _ _ _=>L2.on3 (fun _ _ _=>rfl)
 obtain⟨Q42⟩:=i42.fd X G (ps:=["game","d","thing"]) fun _ _ _ _ _ _=>L2.on3 (fun _ _ _=>rfl)
 obtain⟨Q43⟩:=i43.fd X G (ps:=["game","d","tree","hidden"]) fun _ _ _ _ _ _=>L2.on4 (fun _ _ _ _=>rfl)
 obtain⟨Q44⟩:=i44.fd X G (ps:=["_law_script"]) fun _ _ _ _ _ _=>L2.on1 (fun _=>rfl)
 obtain⟨Q45⟩:=i45.fd X G (ps:=["_law_tape_here","_law_many"]) fun _ _ _ _ _ _=>L2.on2 (fun _ _=>rfl)
 obtain⟨Q46⟩:=i46.fd X G (ps:=["_law_tape_here"]) fun _ _ _ _ _ _=>L2.on1 (fun _=>rfl)
 obtain⟨Q47⟩:=i47.fd X G (ps:=["_law_game_here","_law_things_here","_law_known"]) fun _ _ _ _ _ _=>L2.on3 (fun _ _ _=>rfl)
 obtain⟨Q48⟩:=i48.fd X G (ps:=["_law_tape_here","_law_many"]) fun _ _ _ _ _ _=>L2.on2 (fun _ _=>rfl)
 obtain⟨Q49⟩:=i49.fd X G (ps:=["_law_tape_here","_law_many","_law_paper"]) fun _ _ _ _ _ _=>L2.on3 (fun _ _ _=>rfl)
 obtain⟨Q50⟩:=i50.fd X G (ps:=["_law_tape_here","_law_game_here","_law_deep"]) fun _ _ _ _ _ _=>L2.on3 (fun _ _ _=>rfl)
 obtain⟨Q51⟩:=i51.fd X G (ps:=["_law_tape_here","_law_game_here","_law_tree_here"]) fun _ _ _ _ _ _=>L2.on3 (fun _ _ _=>rfl)
 obtain⟨Q52⟩:=i52.fd X G (ps:=["_law_game_here","_law_tree_here","_law_thing"]) fun _ _ _ _ _ _=>L2.on3 (fun _ _ _=>rfl)
 obtain⟨Q53⟩:=i53.fd X G (ps:=["_law_game_here"]) fun _ _ _ _ _ _=>L2.on1 (fun _=>rfl)
 have F54:=Ct (st:=CV) l54 c54 k54;have b54:=F54.binds (ps:=["_law_script"]) fun _ _ _ _ _ _=>L2.on1 (fun _=>rfl)
 let T:Txt K mg:={ C_Bearing:=C_Bearing,mC_Bearing:=W.mg_of X G aC_Bearing,cl_Bearing:=⟨pg_Bearing,hd_Bearing,po_Bearing,sa_Bearing⟩,na_Bearing_yeses:=na_yeses_Bearing,na_Bearing_numbers:=na_numbers_Bearing,na_Bearing_found:=na_found_Bearing,C_Reckoner:=C_Reckoner,mC_Reckoner:=W.mg_of X G aC_Reckoner,cl_Reckoner:=⟨pg_Reckoner,hd_Reckoner,po_Reckoner,sa_Reckoner⟩,na_Reckoner_labels:=na_labels_Reckoner,na_Reckoner_yeses:=na_yeses_Reckoner,na_Reckoner_alike:=na_alike_Reckoner,na_Reckoner_known:=na_known_Reckoner,C_NoEnd:=C_NoEnd,mC_NoEnd:=W.mg_of X G aC_NoEnd,xc_NoEnd:=⟨x1_NoEnd,x2_NoEnd,x3_NoEnd,x4_NoEnd,x5_NoEnd,x6_NoEnd,x7_NoEnd⟩,hd_NoEnd:=hd_NoEnd,na_NoEnd_one:=na_one_NoEnd,na_NoEnd_other:=na_other_NoEnd,xm_NoEnd_NoEnd:=xm_NoEnd_NoEnd,z57:=⟨f0,Q0.d,Q0.F,Q0.b,Q0.m⟩,z61:=⟨f1,Q1.d,Q1.F,Q1.b,Q1.m⟩,z65:=⟨f2,Q2.d,Q2.F,Q2.b,Q2.m⟩,z59:=⟨f3,Q3.d,Q3.F,Q3.b,Q3.m⟩,z67:=⟨f4,Q4.d,Q4.F,Q4.b,Q4.m⟩,z66:=⟨f5,Q5.d,Q5.F,Q5.b,Q5.m⟩,z42:=⟨f6,Q6.d,Q6.F,Q6.b,Q6.m⟩,z44:=⟨f7,Q7.d,Q7.F,Q7.b,Q7.m⟩,z39:=⟨f8,_,F8,b8,⟨a8,i8,k8⟩⟩,xI_NoEnd:=⟨xj_NoEnd,⟨x1_NoEnd,x2_NoEnd,x3_NoEnd,x4_NoEnd,x5_NoEnd,x6_NoEnd,x7_NoEnd⟩,xs_NoEnd,i8⟩,z62:=⟨f9,Q9.d,Q9.F,Q9.b,Q9.m⟩,z51:=⟨f10,Q10.d,Q10.F,Q10.b,Q10.m⟩,z60:=⟨f11,Q11.d,Q11.F,Q11.b,Q11.m⟩,z45:=⟨f12,Q12.d,Q12.F,Q12.b,Q12.m⟩,z36:=⟨f13,Q13.d,Q13.F,Q13.b,Q13.m⟩,mk_Bearing:=⟨mk_Bearing,Q13.m.at_,Q13.m.fn,kc_Bearing⟩,z26:=⟨f14,Q14.d,Q14.F,Q14.b,Q14.m⟩,z32:=⟨f15,Q15.d,Q15.F,Q15.b,Q15.m⟩,z24:=⟨f16,Q16.d,Q16.F,Q16.b,Q16.m⟩,z17:=⟨f17,Q17.d,Q17.F,Q17.b,Q17.m⟩,z33:=⟨f18,Q18.d,Q18.F,Q18.b,Q18.m⟩,mk_Reckoner:=⟨mk_Reckoner,Q18.m.at_,Q18.m.fn,kc_Reckoner⟩,z23:=⟨f19,Q19.d,Q19.F,Q19.b,Q19.m⟩,z18:=⟨f20,Q20.d,Q20.F,Q20.b,Q20.m⟩,z25:=⟨f21,Q21.d,Q21.F,Q21.b,Q21.m⟩,z29:=⟨f22,Q22.d,Q22.F,Q22.b,Q22.m⟩,z19:=⟨f23,Q23.d,Q23.F,Q23.b,Q23.m⟩,z15:=⟨f24,Q24.d,Q24.F,Q24.b,Q24.m⟩,z28:=⟨f25,Q25.d,Q25.F,Q25.b,Q25.m⟩,z21:=⟨f26,Q26.d,Q26.F,Q26.b,Q26.m⟩,z22:=⟨f27,Q27.d,Q27.F,Q27.b,Q27.m⟩,z20:=⟨f28,Q28.d,Q28.F,Q28.b,Q28.m⟩,g_z16:=g29,p_z16:=p29,gc_z16:=rfl,gh_z16:=gh29,z16:=⟨f29,_,F29,b29,⟨a29,i29,k29⟩⟩,z38:=⟨f30,Q30.d,Q30.F,Q30.b,Q30.m⟩,z27:=⟨f31,Q31.d,Q31.F,Q31.b,Q31.m⟩,z34:=⟨f32,Q32.d,Q32.F,Q32.b,Q32.m⟩,z64:=⟨f33,Q33.d,Q33.F,Q33.b,Q33.m⟩,z48:=⟨f34,Q34.d,Q34.F,Q34.b,Q34.m⟩,z43:=⟨f35,Q35.d,Q35.F,Q35.b,Q35.m⟩,z58:=⟨f36,Q36.d,Q36.F,Q36.b,Q36.m⟩,g_z63:=g37,p_z63:=p37,gc_z63:=rfl,gh_z63:=gh37,z63:=⟨f37,_,F37,b37,W.mg_of X G a37⟩,z37:=⟨f38,Q38.d,Q38.F,Q38.b,Q38.m⟩,z40:=⟨f39,Q39.d,Q39.F,Q39.b,Q39.m⟩,z30:=⟨f40,Q40.d,Q40.F,Q40.b,Q40.m⟩,z68:=⟨f41,Q41.d,Q41.F,Q41.b,Q41.m⟩,z53:=⟨f42,Q42.d,Q42.F,Q42.b,Q42.m⟩,z46:=⟨f43,Q43.d,Q43.F,Q43.b,Q43.m⟩,z47:=⟨f44,Q44.d,Q44.F,Q44.b,Q44.m⟩,z54:=⟨f45,Q45.d,Q45.F,Q45.b,Q45.m⟩,z50:=⟨f46,Q46.d,Q46.F,Q46.b,Q46.m⟩,z52:=⟨f47,Q47.d,Q47.F,Q47.b,Q47.m⟩,z41:=⟨f48,Q48.d,Q48.F,Q48.b,Q48.m⟩,z31:=⟨f49,Q49.d,Q49.F,Q49.b,Q49.m⟩,z49:=⟨f50,Q50.d,Q50.F,Q50.b,Q50.m⟩,z35:=⟨f51,Q51.d,Q51.F,Q51.b,Q51.m⟩,z56:=⟨f52,Q52.d,Q52.F,Q52.b,Q52.m⟩,z55:=⟨f53,Q53.d,Q53.F,Q53.b,Q53.m⟩,f_law:=fa,d_law:=_,F_law:=F54,b_law:=b54,m_law:=W.mg_of X G a54,z_all:=W.mg_none_of X G z_all,z_any:=W.mg_none_of X G z_any,z_bool:=W.mg_none_of X G z_bool,z_enumerate:=W.mg_none_of X G z_enumerate,z_int:=W.mg_none_of X G z_int,z_isinstance:=W.mg_none_of X G z_isinstance,z_len:=W.mg_none_of X G z_len,z_list:=W.mg_none_of X G z_list,z_max:=W.mg_none_of X G z_max,z_min:=W.mg_none_of X G z_min,z_range:=W.mg_none_of X G z_range,z_set:=W.mg_none_of X G z_set,z_sorted:=W.mg_none_of X G z_sorted,z_sum:=W.mg_none_of X G z_sum,z_tuple:=W.mg_none_of X G z_tuple,t_MOST_TREES:=t_MOST_TREES,c_MOST_TREES:=W.mg_of X G c_MOST_TREES,t_MOST_WITHIN:=t_MOST_WITHIN,c_MOST_WITHIN:=W.mg_of X G c_MOST_WITHIN,np_0:=np_0 };exact⟨W.fnOf "law" "law" (Ba CV) (BD CV) (AJ CV) .none kV54 dc54 pm54 an54 cd54 ct54,[(g29,p29),(g37,p37)],List.forall_mem_cons.mpr ⟨⟨W.codeHd_of_K X gh29,gt29⟩,List.forall_mem_cons.mpr ⟨⟨W.codeHd_of_K X gh37,gt37⟩,fun _ z=>nomatch z⟩⟩,hnt,fun s v=>.of_eq rfl,fun base _ _ B=>Tp T B⟩
theorem walk {l:W.OpenLaw} {q:Program} {loose:List Str} {XP:(Str->Option Value)->Heap->Prop} {YP:World->Heap->Prop} {d:DefRec} {K:Params->W.Frag} (hn:l.most=some 63) (hdf:d.params.defaults=[])
 (hY:∀(w:World) (h:Heap),YP w h->(K w.params).In h)
 (F:∀(w:World) (mg:Str->Option Value) (fa:Addr) (h:Heap),YP w h->(K w.params).In h->h.Ns mainGlobals mg->mg d.name=some (.ref fa) ->
   ∃(fd:FuncData) (ts:List (Addr × Addr)),W.TabsAt ts h/\W.noTabs (K w.params)=true/\(∀(s:Shared) (u:Value),BindsTo s fd ⟨[u],[]⟩ [("_law_script",u)])/\∀base:Heap,(K w.params).In base->base.Ns mainGlobals mg->BMn mg base->FnOk l.prog w (K w.params) mg base CX0 98 fa fd ["_law_script"] (GN (K w.params) (ts.map (·.2)))) :
 W.WalkO q loose XP YP l.row.toRowW d [] (fun f vs=>PySem.call f vs) :=
 L2.walk_ofT (n:=63) (k:=98) (x:="_law_script") (sp:=fun w ts=>GN (K w.params) ts) hn (by decide) hdf ⟨rfl,by decide,by decide,rfl⟩ hY F (fun _ _ a ns ts hl hO hS=>⟨a,ns,rfl,hS,hl,hO,fun _=>rfl⟩)
end Mine
structure PySem.W.Fast:Prop where(tw10782216397753127055 tw6307560648128391550 tw9324350984796972864 tw12647945919805315330 tw9767975630905446915 tw17810725440226879037 tw5421193556766452390 tw6134209472105648034 tw17917187616929105940 tw11415897630939460612 tw6147525981738282591 tw13244930732246126289 tw7398511194141099597 tw12804593987609089747 tw16849053181404000291 tw10760208125044369880 tw7319998697064479523 tw17765398859677585730 tw2142810507464799388 tw5297955669237314120 tw10363768312685135678 tw12461609691866473370 tw2487078639401631167 tw3522963717961417153 tw9027877939631605715 tw4566474525852851211 tw7722041675944037958 tw16098739945415297624 tw5459658918126817521 tw3856025788524450286 tw15299976999162807296 tw3942491999849438277 tw17177990463028297978 tw18308011944673029927 tw2129714013771929216 tw13790139347235990118 tw7310575368019951899 tw10878010957758656003 tw1964302248599698387 tw10474522119340078113 tw4260307601499292726 tw10715419631302337803 tw4800578564218788158 tw2917243388077779206 tw1719652331145014967 tw11582196054203389328 tw5438720267209187212 tw4504853159681119487 tw4723584006068219586 tw3866900175760159916 tw8504692233279591683 tw9220833581841789867 tw8795625473221770616 tw18126336216369768607 tw11205851581650262413 tw9624357327621975782 tw17403296624868103051 tw8861359839826928855 tw12635481001569691365 tw8281224669683253242 tw9525160897368049271 tw426362394421010748 tw14357170760288086844 tw10399517393359900480 tw14260448722349102546 tw27201240327656978 tw15921884723282828983 tw15601302645904437759 tw12981921556076821691 tw2489034708546617054 tw3387686781416565297 tw5068475824589030074 tw3182850540893647943 tw8762333286119531795 tw6738727873226114917 tw1836083748615018367 tw13941983127944644037 tw6305225689163545125 tw7669391888224523667 tw15405742582136512403 tw9333270998544306292 tw5629927256873028850 tw7343965562783020282 tw289463550394166451 tw1115797254092853171 tw4971523654721282064 tw7748516373397054450 tw15040286919987897013 tw8946765765611928865 tw13501392852100368264 tw11191215402793603615 tw12548674322421084306 tw11329537844382037982 tw15369183352216420917 tw8885675597798061584 tw3163925046996991829 tw18127758870661492218 tw12491572286717262983 tw15449620126046402815 tw4676606460538760826 tw2388129516813513747 tw7622973296243770142 tw15376271566738722756 tw14401862048683759269 tw3173597659294970674 tw2428523990598142100 tw16218492158576203851 tw16930849767622938110 tw9926284145013397705 tw5078002107437314634 tw16164469962334790373 tw1561280132373704128:True)
open PySem PySem.W PyProof.Rows
local macro_rules | `(tactic| walk_at "k")=>`(tactic| (refine' Mine.all_di ?a ?b ?c ?d;(case a=>k_is);(case b=>k_is);(case c=>k_is);(case d=>k_is)))
local macro_rules | `(tactic| walk_at "l")=>`(tactic| (refine' Mine.all_dm ?a ?e ?b ?c ?d;(case a=>k_is);(case e=>k_is);(case b=>k_is);(case c=>k_is);(case d=>k_is)))
set_option maxRecDepth 100000 in
set_option maxHeartbeats 0 in
theorem PySem.Challenge.cw_flips_k95_whole_any_paper_of_asks_holds : PySem.Challenge.rw_flips_k95_whole_any_paper_of_asks.Holds := by
 w_on;o_law;k_head;(case hw=>w_witness2)
 k_fill
 refine Mine.walk (l:=PySem.Challenge.rw_flips_k95_whole_any_paper_of_asks) rfl rfl (fun w h Y=>PySem.W.km_in_of Y) ?F
 case F =>
  intro w mg fa h Y KX G hmg
  refine' Mine.all_mk KX G hmg ?aC_Bearing ?pg_Bearing ?hd_Bearing ?po_Bearing ?sa_Bearing ?mk_Bearing ?kc_Bearing ?na_yeses_Bearing ?na_numbers_Bearing ?na_found_Bearing ?aC_Reckoner ?pg_Reckoner ?hd_Reckoner ?po_Reckoner ?sa_Reckoner ?mk_Reckoner ?kc_Reckoner ?na_labels_Reckoner ?na_yeses_Reckoner ?na_alike_Reckoner ?na_known_Reckoner ?aC_NoEnd ?x1_NoEnd ?x2_NoEnd ?x3_NoEnd ?x4_NoEnd ?x5_NoEnd ?x6_NoEnd ?x7_NoEnd ?xs_NoEnd ?hd_NoEnd ?na_one_NoEnd ?na_other_NoEnd ?xm_NoEnd_NoEnd ?i0 ?i1 ?i2 ?i3 ?i4 ?i5 ?i6 ?i7 ?a8 ?i8 ?l8 ?c8 ?k8 ?i9 ?i10 ?i11 ?i12 ?i13 ?i14 ?i15 ?i16 ?i17 ?i18 ?i19 ?i20 ?i21 ?i22 ?i23 ?i24 ?i25 ?i26 ?i27 ?i28 ?a29 ?i29 ?l29 ?c29 ?k29 ?lc29 ?pv29 ?gh29 ?gt29 ?i30 ?i31 ?i32 ?i33 ?i34 ?i35 ?i36 ?a37 ?l37 ?c37 ?k37 ?lc37 ?pv37 ?gh37 ?gt37 ?i38 ?i39 ?i40 ?i41 ?i42 ?i43 ?i44 ?i45 ?i46 ?i47 ?i48 ?i49 ?i50 ?i51 ?i52 ?i53 ?a54 ?l54 ?c54 ?k54 ?z_all ?z_any ?z_bool ?z_enumerate ?z_int ?z_isinstance ?z_len ?z_list ?z_max ?z_min ?z_range ?z_set ?z_sorted ?z_sum ?z_tuple ?c_MOST_TREES ?c_MOST_WITHIN ?xj_NoEnd ?hnt ?np_0
  (case aC_Bearing | pg_Bearing | hd_Bearing | po_Bearing | sa_Bearing | mk_Bearing | kc_Bearing | na_yeses_Bearing | na_numbers_Bearing | na_found_Bearing | aC_Reckoner | pg_Reckoner | hd_Reckoner | po_Reckoner | sa_Reckoner | mk_Reckoner | kc_Reckoner | na_labels_Reckoner | na_yeses_Reckoner | na_alike_Reckoner | na_known_Reckoner | aC_NoEnd | x1_NoEnd | x2_NoEnd | x3_NoEnd | x4_NoEnd | x5_NoEnd | x6_NoEnd | x7_NoEnd | xs_NoEnd | hd_NoEnd | na_one_NoEnd | na_other_NoEnd | a8 | i8 | l8 | c8 | k8 | a29 | i29 | l29 | c29 | k29 | lc29 | a37 | l37 | c37 | k37 | lc37 | a54 | l54 | c54 | k54 | z_all | z_any | z_bool | z_enumerate | z_int | z_isinstance | z_len | z_list | z_max | z_min | z_range | z_set | z_sorted | z_sum | z_tuple | c_MOST_TREES | c_MOST_WITHIN=>k_is)
  (case xm_NoEnd_NoEnd=>kts_exm)
  (case i0=>walk_at "k")
  (case i1=>walk_at "k")
  (case i2=>walk_at "k")
  (case i3=>walk_at "k")
  (case i4=>walk_at "k")
  (case i5=>walk_at "k")
  (case i6=>walk_at "k")
  (case i7=>walk_at "k")
  (case i9=>walk_at "k")
  (case i10=>walk_at "k")
  (case i11=>walk_at "k")
  (case i12=>walk_at "k")
  (case i13=>walk_at "l")
  (case i14=>walk_at "l")
  (case i15=>walk_at "l")
  (case i16=>walk_at "l")
  (case i17=>walk_at "l")
  (case i18=>walk_at "l")
  (case i19=>walk_at "l")
  (case i20=>walk_at "l")
  (case i21=>walk_at "l")
  (case i22=>walk_at "l")
  (case i23=>walk_at "l")
  (case i24=>walk_at "l")
  (case i25=>walk_at "l")
  (case i26=>walk_at "l")
  (case i27=>walk_at "l")
  (case i28=>walk_at "l")
  (case pv29=>rfl)
  (case gh29=>kernel_rfl)
  (case gt29=>exact PySem.W.km_tabs_of Y _ (by k_mem))
  (case i30=>walk_at "k")
  (case i31=>walk_at "k")
  (case i32=>walk_at "k")
  (case i33=>walk_at "k")
  (case i34=>walk_at "k")
  (case i35=>walk_at "k")
  (case i36=>walk_at "k")
  (case pv37=>rfl)
  (case gh37=>kernel_rfl)
  (case gt37=>exact PySem.W.km_tabs_of Y _ (by k_mem))
  (case i38=>walk_at "k")
  (case i39=>walk_at "k")
  (case i40=>walk_at "k")
  (case i41=>walk_at "k")
  (case i42=>walk_at "k")
  (case i43=>walk_at "k")
  (case i44=>walk_at "k")
  (case i45=>walk_at "k")
  (case i46=>walk_at "k")
  (case i47=>walk_at "k")
  (case i48=>walk_at "k")
  (case i49=>walk_at "k")
  (case i50=>walk_at "k")
  (case i51=>walk_at "k")
  (case i52=>walk_at "k")
  (case i53=>walk_at "k")
  (case xj_NoEnd=>kernel_rfl)
  (case hnt=>kernel_rfl)
  (case np_0=>first | decide | exact fun z=>nomatch z)
