import PyProof.Rows.All
import Wide.All
import OpenK.AllK
import Wide.FinOn
import Lean
import PyProof.EqAt
import PyProof.EqKinds
import PyProof.TupleCall
import PyProof.NeKinds
import PyProof.ReprRoads
import PyProof.ReprBulk
import PyProof.Draws
import PyProof.EnumMake
import KE.BitLaws
import PyProof.ListIndex
import PyProof.AttrMissHeap
import PyProof.DictUpdate
import KE.KDictOf
import PyProof.FactsAll.enumerate_1
import PyProof.FactsAll.tuple_2
import PyProof.ListMulRoad
import PyProof.ListRange
import PyProof.FactsAll.list_3
import PyProof.Rows.SortWalk
import PyProof.Rows.MinMaxN
import KE.KEqDict
import KE.KDictSum
import PyProof.WalksMore
import PyProof.Rows.SetFrom
import PyProof.SetRoads
import PyProof.FactsAll.set_1
import KE.KItemsList
import KE.KSortTup
import KE.KLam
import PyProof.FactsAll.dict_1
import PyProof.StrBlockH
import PyProof.StrLawsTight
import PyProof.StrLawsOccR
import PyProof.StrLawsJoin
import PyProof.StationsW
import PyProof.NsDelKeeps
import PyProof.RulesAs
import PyProof.ExcInit
import KE.KTryMore
import PyProof.ExcClass3
import PyProof.ExcBaseAll.ValueError
import OpenK.KOwn
import PyProof.ExcArgsOwn
import PyProof.InstStoreFacts
import PyProof.FactsAll.tuple_2
import PyProof.FactsAll.tuple_3
import PyProof.TupleOfStr
import KE.KMinKey
import PyProof.FactsAll.list_4
import PySem.Challenge.RW_flips_k91_whole_asks_against_sums
set_option Elab.async false
set_option linter.all false
set_option compiler.extract_closed false
set_option bootstrap.genMatcherCode false
set_option maxRecDepth 100000
set_option maxHeartbeats 0
section
open PySem PySem.Spec PyProof.Rows PySem.W
theorem Zc:type_of% @PySem.wpAny_bind:=@PySem.wpAny_bind
theorem Zd:type_of% @PySem.wpAny_pure:=@PySem.wpAny_pure
theorem Ze:type_of% @List.length_map:=@List.length_map
theorem Zf:type_of% @Nat.le_refl:=@Nat.le_refl
theorem Zg:type_of% @List.getElem?_eq_getElem:=@List.getElem?_eq_getElem
theorem Zh:type_of% @List.mem_cons:=@List.mem_cons
theorem Zi:type_of% @PySem.Heap.get?_push_of_some:=@PySem.Heap.get?_push_of_some
theorem Zj:type_of% @PySem.Heap.lt_size:=@PySem.Heap.lt_size
theorem Zk:type_of% @List.mem_map:=@List.mem_map
theorem Zl:type_of% @decide_eq_true:=@decide_eq_true
theorem Zm:type_of% @List.getElem?_map:=@List.getElem?_map
theorem Zn:type_of% @of_decide_eq_true:=@of_decide_eq_true
theorem Zo:type_of% @List.size_toArray:=@List.size_toArray
theorem Zp:type_of% @Bool.and_eq_true:=@Bool.and_eq_true
theorem Zq:type_of% @List.mem_singleton:=@List.mem_singleton
theorem Zr:type_of% @PySem.Heap.get?_push_size:=@PySem.Heap.get?_push_size
theorem Zs:type_of% @Nat.ne_of_lt:=@Nat.ne_of_lt
theorem Zt:type_of% @List.map_append:=@List.map_append
theorem Zu:type_of% @Nat.zero_le:=@Nat.zero_le
theorem Zv:type_of% @Option.some.inj:=@Option.some.inj
theorem Zw:type_of% @List.getD_eq_getElem?_getD:=@List.getD_eq_getElem?_getD
theorem Zx:type_of% @List.mem_append_right:=@List.mem_append_right
theorem Zy:type_of% @List.length_append:=@List.length_append
theorem Zz:type_of% @List.mem_cons_of_mem:=@List.mem_cons_of_mem
theorem Z0:type_of% @Nat.lt_of_lt_of_le:=@Nat.lt_of_lt_of_le
theorem Z1:type_of% @List.mem_range:=@List.mem_range
theorem Z2:type_of% @Nat.lt_irrefl:=@Nat.lt_irrefl
theorem Z3:type_of% @Nat.pow_le_pow_right:=@Nat.pow_le_pow_right
theorem Z4:type_of% @List.getElem?_eq_some_iff:=@List.getElem?_eq_some_iff
theorem Z5:type_of% @List.map_cons:=@List.map_cons
theorem Z6:type_of% @Int.toNat_natCast:=@Int.toNat_natCast
theorem Z7:type_of% @List.length_take:=@List.length_take
theorem Z8:type_of% @Array.length_toList:=@Array.length_toList
theorem Z9:type_of% @List.mem_nil_iff:=@List.mem_nil_iff
theorem ZBA:type_of% @PySem.wpAny_holding:=@PySem.wpAny_holding
theorem ZBB:type_of% @List.take_add_one:=@List.take_add_one
theorem ZBC:type_of% @decide_eq_false:=@decide_eq_false
theorem ZBD:type_of% @List.mem_cons_self:=@List.mem_cons_self
theorem ZBE:type_of% @List.mem_append:=@List.mem_append
theorem ZBF:type_of% @Bool.false_ne_true:=@Bool.false_ne_true
theorem ZBG:type_of% @List.getElem_of_mem:=@List.getElem_of_mem
theorem ZBH:type_of% @PySem.wpAny_mono:=@PySem.wpAny_mono
theorem ZBI:type_of% @List.append_nil:=@List.append_nil
theorem ZBJ:type_of% @PySem.wpAny_newObj_type:=@PySem.wpAny_newObj_type
theorem ZBK:type_of% @List.getElem_mem:=@List.getElem_mem
theorem ZBL:type_of% @Nat.lt_or_ge:=@Nat.lt_or_ge
theorem ZBM:type_of% @List.mem_filter:=@List.mem_filter
theorem ZBN:type_of% @List.length_cons:=@List.length_cons
theorem ZBO:type_of% @List.mem_append_left:=@List.mem_append_left
theorem ZBP:type_of% @PySem.Heap.size_push:=@PySem.Heap.size_push
theorem ZBQ:type_of% @List.mem_of_getElem?:=@List.mem_of_getElem?
theorem ZBR:type_of% @PySem.codeAny_builtin:=@PySem.codeAny_builtin
theorem ZBS:type_of% @Nat.testBit_and:=@Nat.testBit_and
theorem ZBT:type_of% @List.take_length:=@List.take_length
theorem ZBU:type_of% @Nat.le_trans:=@Nat.le_trans
theorem ZBV:type_of% @PySem.wpAny_call_entry:=@PySem.wpAny_call_entry
theorem ZBW:type_of% @List.all_eq_true:=@List.all_eq_true
theorem ZBX:type_of% @Nat.pow_succ:=@Nat.pow_succ
theorem ZBY:type_of% @PySem.wpAny_ite_split:=@PySem.wpAny_ite_split
theorem ZBZ:type_of% @List.map_map:=@List.map_map
theorem ZBa:type_of% @Nat.le_of_lt:=@Nat.le_of_lt
theorem ZBb:type_of% @Nat.lt_succ_self:=@Nat.lt_succ_self
theorem ZBc:type_of% @Nat.mul_comm:=@Nat.mul_comm
theorem ZBd:type_of% @Nat.two_pow_pos:=@Nat.two_pow_pos
theorem ZBe:type_of% @List.any_eq_true:=@List.any_eq_true
theorem ZBf:type_of% @PySem.Around.under_plainId:=@PySem.Around.under_plainId
theorem ZBg:type_of% @PySem.plainId_quiet:=@PySem.plainId_quiet
theorem ZBh:type_of% @List.lookup_cons:=@List.lookup_cons
theorem ZBi:type_of% @Bool.eq_iff_iff:=@Bool.eq_iff_iff
theorem ZBj:type_of% @PySem.Heap.SameBut.update:=@PySem.Heap.SameBut.update
theorem ZBk:type_of% @List.length_range:=@List.length_range
theorem ZBl:type_of% @PySem.wpAny_truthy_bool:=@PySem.wpAny_truthy_bool
theorem ZBm:type_of% @PySem.codeAny_mono:=@PySem.codeAny_mono
theorem ZBn:type_of% @Bool.false_xor:=@Bool.false_xor
theorem ZBo:type_of% @List.take_of_length_le:=@List.take_of_length_le
theorem ZBp:type_of% @List.getElem?_range:=@List.getElem?_range
theorem ZBq:type_of% @List.range_succ:=@List.range_succ
theorem ZBr:type_of% @PySem.Heap.get?_update_other:=@PySem.Heap.get?_update_other
theorem ZBs:type_of% @Nat.ne_of_gt:=@Nat.ne_of_gt
theorem ZBt:type_of% @Nat.not_lt_zero:=@Nat.not_lt_zero
theorem ZBu:type_of% @Nat.lt_trans:=@Nat.lt_trans
theorem ZBv:type_of% @Nat.le_add_right:=@Nat.le_add_right
theorem ZBw:type_of% @Int.zero_add:=@Int.zero_add
theorem ZBx:type_of% @PySem.wpAny_tryCatch:=@PySem.wpAny_tryCatch
theorem ZBy:type_of% @Bool.not_eq_true':=@Bool.not_eq_true'
theorem ZBz:type_of% @Nat.le_succ:=@Nat.le_succ
theorem ZB0:type_of% @List.getElem?_append_right:=@List.getElem?_append_right
theorem ZB1:type_of% @List.getElem?_append_left:=@List.getElem?_append_left
theorem ZB2:type_of% @PySem.wpAny_field:=@PySem.wpAny_field
theorem ZB3:type_of% @PySem.wpAny_setField:=@PySem.wpAny_setField
theorem ZB4:type_of% @Nat.lt_succ_of_lt:=@Nat.lt_succ_of_lt
theorem ZB5:type_of% @Array.getElem?_eq_getElem:=@Array.getElem?_eq_getElem
theorem ZB6:type_of% @PySem.wpAny_letGo:=@PySem.wpAny_letGo
theorem ZB7:type_of% @List.filterMap_cons:=@List.filterMap_cons
theorem ZB8:type_of% @PySem.wpAny_standAt:=@PySem.wpAny_standAt
theorem ZB9:type_of% @Nat.le_of_eq:=@Nat.le_of_eq
theorem ZCA:type_of% @List.nodup_cons:=@List.nodup_cons
theorem ZCB:type_of% @PySem.Heap.get?_update_self:=@PySem.Heap.get?_update_self
theorem ZCC:type_of% @Option.map_some:=@Option.map_some
theorem ZCD:type_of% @List.find?_cons:=@List.find?_cons
theorem ZCE:type_of% @Nat.lt_trichotomy:=@Nat.lt_trichotomy
theorem ZCF:type_of% @List.pairwise_map:=@List.pairwise_map
theorem ZCG:type_of% @Bool.true_and:=@Bool.true_and
theorem ZCH:type_of% @Bool.false_and:=@Bool.false_and
theorem ZCI:type_of% @Int.mul_one:=@Int.mul_one
theorem ZCJ:type_of% @Nat.le_of_succ_le:=@Nat.le_of_succ_le
theorem ZCK:type_of% @Int.natCast_pow:=@Int.natCast_pow
theorem ZCL:type_of% @List.any_cons:=@List.any_cons
theorem ZCM:type_of% @Array.getElem?_toList:=@Array.getElem?_toList
theorem ZCN:type_of% @List.pairwise_lt_range:=@List.pairwise_lt_range
theorem ZCO:type_of% @Int.ofNat_le:=@Int.ofNat_le
theorem ZCP:type_of% @List.filter_append:=@List.filter_append
theorem ZCQ:type_of% @List.length_filter_le:=@List.length_filter_le
theorem ZCR:type_of% @Nat.and_le_left:=@Nat.and_le_left
theorem ZCS:type_of% @List.length_replicate:=@List.length_replicate
theorem ZCT:type_of% @List.replicate_succ:=@List.replicate_succ
theorem ZCU:type_of% @Nat.lt_of_le_of_lt:=@Nat.lt_of_le_of_lt
theorem ZCV:type_of% @Bool.and_false:=@Bool.and_false
theorem ZCW:type_of% @List.nodup_nil:=@List.nodup_nil
theorem ZCX:type_of% @List.nodup_append:=@List.nodup_append
theorem ZCY:type_of% @List.not_mem_nil:=@List.not_mem_nil
theorem ZCZ:type_of% @List.length_eq_zero_iff:=@List.length_eq_zero_iff
theorem ZCa:type_of% @List.length_pos_of_mem:=@List.length_pos_of_mem
theorem ZCb:type_of% @Nat.testBit_lt_two_pow:=@Nat.testBit_lt_two_pow
theorem ZCc:type_of% @List.map_congr_left:=@List.map_congr_left
theorem ZCd:type_of% @List.mem_filterMap:=@List.mem_filterMap
theorem ZCe:type_of% @Option.isSome_iff_exists:=@Option.isSome_iff_exists
theorem ZCf:type_of% @List.getElem_toArray:=@List.getElem_toArray
theorem ZCg:type_of% @Int.natCast_nonneg:=@Int.natCast_nonneg
theorem ZCh:type_of% @Bool.false_eq_true:=@Bool.false_eq_true
theorem ZCi:type_of% @Option.map_eq_some_iff:=@Option.map_eq_some_iff
theorem ZCj:type_of% @List.pairwise_cons:=@List.pairwise_cons
theorem ZCk:type_of% @Array.toList_append:=@Array.toList_append
theorem ZCl:type_of% @Nat.eq_of_testBit_eq:=@Nat.eq_of_testBit_eq
theorem ZCm:type_of% @Int.natAbs_natCast:=@Int.natAbs_natCast
theorem ZCn:type_of% @Nat.testBit_eq_decide_div_mod_eq:=@Nat.testBit_eq_decide_div_mod_eq
end
-- CHANGE: your row's module here,as the last of these rows
namespace L2
open PySem PySem.Spec PyProof.Rows
variable {us:List Value}{x:Str}{u:Value}{H:Hp}{C a b:Addr}{o:HO}{P:Program}{w:World}{h:Heap}{i k t':Nat}{A:Around}{E Q:Value->Shared->Prop}{v:V}{s:Shared}{pos:Pos}{za:List (Addr × Obj)}{Z:St}{K:W.Frag}
noncomputable abbrev Key:=Sum Int Str
noncomputable def Do:Key->Value->Bool
 | .inl k,v=>Value.isInt k v
 | .inr x,v=>Value.isStrOf x v
noncomputable def Y4(w:World):Key->Int
 | .inl k=>hashInt k
 | .inr x=>hashStr w x
theorem keyIs_shape:∀{k:Key} {v:Value},Do k v=true->(∃i t,k=Sum.inl i/\v=Value.int i t)\/(∃x t,k=Sum.inr x/\v=Value.str x t)
 | .inl i,v,h=>by
  obtain⟨t,e⟩:=Value.isInt_shape (k:=i) (v:=v) h;exact .inl ⟨i,t,rfl,e⟩
 | .inr x,v,h=>by
  obtain⟨t,e⟩:=Value.isStrOf_shape (x:=x) (v:=v) h;exact .inr ⟨x,t,rfl,e⟩
theorem XG(i:Int)(t:Tok):Do (.inl i) (.int i t)=true:=by simp[Do,Value.isInt]
theorem Wp(x:Str)(t:Tok):Do (.inr x) (.str x t)=true:=by simp[Do,Value.isStrOf]
theorem QO(a b:Int):decide ((Sum.inl a:Key)=Sum.inl b)=(a == b):=by
 by_cases e:a=b
 ·subst e;simp
 ·have h:¬(Sum.inl a:Key)=Sum.inl b:=fun q=>e (Sum.inl.inj q)
  rw[ZBC h];exact(beq_eq_false_iff_ne.mpr e).symm
theorem QL(a b:Str):decide ((Sum.inr a:Key)=Sum.inr b)=decide (a=b):=by
 by_cases e:a=b
 ·subst e;simp
 ·have h:¬(Sum.inr a:Key)=Sum.inr b:=fun q=>e (Sum.inr.inj q)
  rw[ZBC h,ZBC e]
theorem X3(a:Int)(b:Str):decide ((Sum.inl a:Key)=Sum.inr b)=false:=ZBC (fun q=>nomatch q)
theorem TU(a:Str)(b:Int):decide ((Sum.inr a:Key)=Sum.inl b)=false:=ZBC (fun q=>nomatch q)
noncomputable def BV(prog:Program)(w:World):PySem.KeyKind prog w Key where
 is:=Do
 hash:=Y4 w
 inj:=fun v a b ha hb=>by
  rcases keyIs_shape ha with ⟨i,t,rfl,rfl⟩ | ⟨x,t,rfl,rfl⟩
  ·rcases keyIs_shape hb with ⟨j,u,rfl,e⟩ | ⟨y,u,rfl,e⟩
   ·injection e with e1 _;rw[e1]
   ·exact nomatch e
  ·rcases keyIs_shape hb with ⟨j,u,rfl,e⟩ | ⟨y,u,rfl,e⟩
   ·exact nomatch e
   ·injection e with e1 _;rw[e1]
 byValue:=fun k v h=>by
  rcases keyIs_shape h with ⟨i,t,rfl,rfl⟩ | ⟨x,t,rfl,rfl⟩ <;> rfl
 pyHash:=fun hv h=>by
  rcases keyIs_shape hv with ⟨i,t,rfl,rfl⟩ | ⟨x,t,rfl,rfl⟩
  ·exact wpAny_pyHash_int h
  ·exact wpAny_pyHash_str h
 eqBool:=fun hu hv h=>by
  rcases keyIs_shape hu with ⟨i,t,rfl,rfl⟩ | ⟨x,t,rfl,rfl⟩
  ·rcases keyIs_shape hv with ⟨j,u,rfl,rfl⟩ | ⟨y,u,rfl,rfl⟩
   ·rw[QO]at h;exact wpAny_eqBool_int h
   ·rw[X3]at h;exact SeqAt.EqAt.int_str i t y u _ _ _ _ h
  ·rcases keyIs_shape hv with ⟨j,u,rfl,rfl⟩ | ⟨y,u,rfl,rfl⟩
   ·rw[TU]at h;exact SeqAt.EqAt.str_int x t j u _ _ _ _ h
   ·rw[QL]at h;exact wpAny_eqBool_str h
 «strs»:=fun k x t v h=>by
  rcases keyIs_shape h with ⟨i,u,rfl,e⟩ | ⟨y,u,rfl,e⟩
  ·exact nomatch e
  ·injection e with e1 _
   subst e1;cases v <;> rfl
theorem Vf(prog:Program)(w:World)(i:Int)(t:Tok):(BV prog w).is (.inl i) (.int i t)=true:=XG i t
theorem Ww(prog:Program)(w:World)(x:Str)(t:Tok):(BV prog w).is (.inr x) (.str x t)=true:=Wp x t
inductive V where
 | non | bl (b:Bool) | int (i:Int) | str (x:Str) | byt (b:Array UInt8) | flt (b:UInt64) | ref (a:Addr) | ty (n:String)
 deriving DecidableEq
noncomputable def zi:V->Value->Prop
 | .non,u=>u=Value.none
 | .bl b,u=>u=Value.bool b
 | .int i,u=>∃t,u=Value.int i t
 | .str x,u=>∃t,u=Value.str x t
 | .byt b,u=>∃t,u=Value.bytes b t
 | .flt b,u=>∃t,u=Value.float b t
 | .ref a,u=>u=Value.ref a
 | .ty n,u=>u=Value.type n
noncomputable abbrev zj:List V->List Value->Prop:=Paired zi
theorem zj.length{xs:List V}(r:zj xs us):xs.length=us.length:=Paired.length r
theorem zj.get:∀{xs:List V} {us:List Value} {i:Nat} {x:V},zj xs us->xs[i]? = some x->∃u,us[i]? = some u/\zi x u
 | _,_,_,_,.nil,e=>by simp at e
 | _,_,0,_,.cons r _,e=>by simp at e;subst e;exact⟨_,rfl,r⟩
 | _,_,i+1,x,.cons _ t,e=>by
  obtain⟨u,h1,h2⟩:=zj.get (i:=i) (x:=x) t (by simpa using e);exact⟨u,by simpa using h1,h2⟩
theorem zj.set{x:V}(r:zi x u):∀{xs:List V} {us:List Value} (i:Nat),zj xs us->zj (xs.set i x) (us.set i u)
 | _,_,_,.nil=>.nil
 | _,_,0,.cons _ t=>.cons r t
 | _,_,i+1,.cons q t=>.cons q (zj.set r i t)
theorem zj.append:∀{xs ys:List V} {us ws:List Value},zj xs us->zj ys ws->zj (xs++ys) (us++ws)
 | _,_,_,_,.nil,s=>s
 | _,_,_,_,.cons r t,s=>.cons r (zj.append t s)
theorem zj.take:∀{xs:List V} {us:List Value} (n:Nat),zj xs us->zj (xs.take n) (us.take n)
 | _,_,0,_=>.nil
 | _,_,_+1,.nil=>.nil
 | _,_,n+1,.cons r t=>.cons r (zj.take n t)
theorem zj.drop:∀{xs:List V} {us:List Value} (n:Nat),zj xs us->zj (xs.drop n) (us.drop n)
 | _,_,0,r=>r
 | _,_,_+1,.nil=>.nil
 | _,_,n+1,.cons _ t=>zj.drop n t
noncomputable def RelO:Option V->Option Value->Prop
 | some v,some u=>zi v u
 | none,none=>True
 | _,_=>False
noncomputable def KV{κ:Type}:List (κ × V)->List (κ × Value)->Prop:=Paired fun(p:κ × V) (q:κ × Value)=>p.1=q.1/\zi p.2 q.2
noncomputable def kV:Key->V
 | .inl i=>.int i
 | .inr x=>.str x
inductive HO where
 | lst (xs:List V)
 | tup (xs:List V)
 | dK (zd:List (Key × V)) | dT (zd:List (List Key × V))
 | set (S:Int->Bool) (n:Nat)
 | ins (C dx:Addr) (fs:List (Str × V))
 | own (x:Addr)
 | xd (fs:List (Str × V))
 | met (f x:Addr)
 | rng (lo hi:Int)
 | frz (o:Obj) (u:HO)
 | tbl (ps:Array Value)
 | ext (φ:Heap->Prop)
noncomputable abbrev Hp:=Addr->Option HO
noncomputable def upd(H:Hp)(a:Addr)(o:HO):Hp:=fun b=>if b=a then some o else H b
theorem AD:upd H a o a=some o:=by unfold upd;rw[if_pos rfl]
theorem AI(h:b≠a):upd H a o b=H b:=by unfold upd;rw[if_neg h]
theorem BK{u:HO}(h:H a=some o)(h':H b=some u)(d:o≠u):a≠b:=by
 intro e;subst e;rw[h]at h';exact d (Zv h')
theorem Bo(h:H a=some o)(h':H b=none):a≠b:=by
 intro e;subst e;rw[h]at h';cases h'
noncomputable def IsTupN(h:Heap)(a:Addr)(items:Array Value):Prop:=∃o,h.get? a=some o/\o.cls=.type "tuple" /\ (∃n,o.data=.seq items n)/\o.dict=none
theorem IsTupN.tup{h:Heap}{a:Addr}{items:Array Value}(x:IsTupN h a items):PyProof.Rows.IsTup h a items:=by
 obtain⟨o,e,c,d,_⟩:=x;exact⟨o,e,c,d⟩
theorem IsTupN.new(h:Heap)(items:Array Value):IsTupN (h.push { cls:=.type "tuple",data:=.seq items }) h.objs.size items:=⟨_,Zr _ rfl,rfl,⟨_,rfl⟩,rfl⟩
section
variable (P:Program)(w:World)
noncomputable def ObjOk(H:Hp)(h:Heap)(a:Addr):HO->Prop
 | .lst xs=>xs.length<=sizeLine/\∃(ze:List Value) (n:Nat),zj xs ze/\h.get? a=some { cls:=.type "list",data:=.seq ze.toArray n }
 | .tup xs=>xs.length<=sizeLine/\∃ze:List Value,zj xs ze/\IsTupN h a ze.toArray
 | .dK zd=>zd.length<=sizeLine/\(a == sysModules)=false/\∃vs,KV zd vs/\h.DictOf (BV P w) a vs
 | .dT zd=>zd.length<=sizeLine/\(a == sysModules)=false/\∃xs:List (List Key × Addr × Value),
  Paired (fun(p:List Key × V) (q:List Key × Addr × Value)=>p.1=q.1/\H q.2.1=some (.tup (p.1.map kV))/\zi p.2 q.2.2) zd xs /\
  ∃o es ep,h.get? a=some o/\o.ExactDict/\o.data=.dict es ep/\es.toList=xs.map (entryOfKey (tupleKind (BV P w)))/\(xs.map (·.1)).Nodup
 | .set S n=>h.SetOf (intKind P w) a S n
 | .ins C dx fs=>H dx=some (.own a)/\fs.length<=1000/\dx≠a/\h.get? a=some (PySem.W.instObj C dx) /\
  ∃mA,h.Ns1 dx mA/\(∀f,RelO (fs.lookup f) (mA f))/\PySem.Within mA (fs.map (·.1))
 | .own _=>∃o,h.get? a=some o
 | .xd fs=>∃mA,h.Ns1 a mA/\∀f,RelO (fs.lookup f) (mA f)
 | .rng lo hi=>∃t u v,h.get? a=some { cls:=.type "range",data:=.fields #[.int lo t,.int hi u,.int 1 v] }
 | .frz o u=>h.get? a=some o/\ObjOk H h a u
 | .tbl ps=>h.get? a=some { cls:=.none,data:=.fields ps }
 | .met f x=>h.get? a=some (PySem.W.methodObj (.ref f) (.ref x))
 | .ext φ=>φ h/\(∃o,h.get? a=some o)/\∀h1 h2:Heap,φ h1->(∀o,h1.get? a=some o->h2.get? a=some o)->φ h2
noncomputable def HOk(H:Hp)(h:Heap):Prop:=∀a o,H a=some o->ObjOk P w H h a o
end
section
variable {P:Program}{w:World}{H H':Hp}{h h':Heap}{a:Addr}{o:HO}
theorem ObjOk.lt(x:ObjOk P w H h a o):a < h.objs.size:=by
 cases o with
 | lst xs=>obtain⟨_,_,_,_,e⟩:=x;exact Zj e
 | tup xs=>obtain⟨_,_,_,p⟩:=x;exact p.tup.lt
 | dK zd=>obtain⟨_,_,_,_,o,_,_,e,_⟩:=x;exact Zj e
 | dT zd=>obtain⟨_,_,_,_,o,_,_,e,_⟩:=x;exact Zj e
 | set S n=>obtain⟨o,_,_,_,e,_⟩:=x;exact Zj e
 | ins C dx fs=>obtain⟨_,_,_,e,_⟩:=x;exact Zj e
 | own y=>obtain⟨_,e⟩:=x;exact Zj e
 | xd fs=>obtain⟨_,⟨_,_,_,e,_⟩,_⟩:=x;exact Zj e
 | rng lo hi=>obtain⟨_,_,_,e⟩:=x;exact Zj e
 | frz ob u=>obtain⟨e,_⟩:=x;exact Zj e
 | tbl ps=>exact Zj (show h.get? a=some _ from x)
 | met f y=>exact Zj (show h.get? a=some _ from x)
 | ext φ=>obtain⟨_,⟨_,e⟩,_⟩:=x;exact Zj e
theorem Paired.mapP{α β:Type}{F G:α->β->Prop}:∀{l₁:List α} {l₂:List β},Paired F l₁ l₂->(∀a b,F a b->G a b)->Paired G l₁ l₂
 | _,_,.nil,_=>.nil
 | _,_,.cons r t,f=>.cons (f _ _ r) (Paired.mapP t f)
theorem ObjOk.stay (x:ObjOk P w H h a o) (k:∀b u,(b=a\/H b=some (.own a))->h.get? b=some u->h'.get? b=some u)
 (ho:∀b,H b=some (.own a)->H' b=some (.own a)) (ht:∀b xs,H b=some (.tup xs)->H' b=some (.tup xs)):ObjOk P w H' h' a o:=by
 induction o with
 | lst xs=>obtain⟨z,ze,n,r,e⟩:=x;exact⟨z,ze,n,r,k _ _ (.inl rfl) e⟩
 | tup xs=>obtain⟨z,ze,r,ob,e,c⟩:=x;exact⟨z,ze,r,ob,k _ _ (.inl rfl) e,c⟩
 | dK zd=>obtain⟨z,y,vs,r,ob,es,ep,e,c⟩:=x;exact⟨z,y,vs,r,ob,es,ep,k _ _ (.inl rfl) e,c⟩
 | dT zd =>
  obtain⟨z,y,xs,r,ob,es,ep,e,c⟩:=x;exact⟨z,y,xs,Paired.mapP r fun p q z=>⟨z.1,ht _ _ z.2.1,z.2.2⟩,ob,es,ep,k _ _ (.inl rfl) e,c⟩
 | set S n=>obtain⟨ob,es,ep,t,e,c⟩:=x;exact⟨ob,es,ep,t,k _ _ (.inl rfl) e,c⟩
 | ins C dx fs =>
  obtain⟨d,z,ne,e,mA,⟨od,es,ep,e2,c⟩,r⟩:=x;exact⟨ho _ d,z,ne,k _ _ (.inl rfl) e,mA,⟨od,es,ep,k _ _ (.inr d) e2,c⟩,r⟩
 | own y=>obtain⟨ob,e⟩:=x;exact⟨ob,k _ _ (.inl rfl) e⟩
 | xd fs=>obtain⟨mA,⟨od,es,ep,e,c⟩,r⟩:=x;exact⟨mA,⟨od,es,ep,k _ _ (.inl rfl) e,c⟩,r⟩
 | rng lo hi=>obtain⟨t,u,v,e⟩:=x;exact⟨t,u,v,k _ _ (.inl rfl) e⟩
 | frz ob u ih=>obtain⟨e,q⟩:=x;exact⟨k _ _ (.inl rfl) e,ih q⟩
 | tbl ps =>
  have e:h.get? a=some { cls:=.none,data:=.fields ps }:=x;show h'.get? a=some { cls:=.none,data:=.fields ps };exact k a _ (.inl rfl) e
 | met f y =>
  have e:h.get? a=some (PySem.W.methodObj (.ref f) (.ref y)):=x;show h'.get? a=some (PySem.W.methodObj (.ref f) (.ref y));exact k a _ (.inl rfl) e
 | ext φ=>obtain⟨p,⟨o,e⟩,st⟩:=x;exact⟨st _ _ p fun o q=>k _ _ (.inl rfl) q,⟨o,k _ _ (.inl rfl) e⟩,st⟩
theorem HOk.lt(x:HOk P w H h)(e:H a=some o):a < h.objs.size:=(x a o e).lt
theorem HOk.fresh(x:HOk P w H h)(e:h.objs.size<=a):H a=none:=by
 cases q:H a with
 | none=>rfl
 | some u=>exact absurd (Z0 (x.lt q) e) (Z2 _)
theorem HOk.kept(x:HOk P w H h)(k:∀b u,h.get? b=some u->h'.get? b=some u):HOk P w H h':=fun a o e =>
 (x a o e).stay (fun b u _ q=>k b u q) (fun _ q=>q) fun _ _ q=>q
theorem HOk.laid(x:HOk P w H h)(k:∀b u,h.get? b=some u->h'.get? b=some u)(hp:h.objs.size<=a)(new:ObjOk P w (upd H a o) h' a o):HOk P w (upd H a o) h':=fun b u e=>by
 have hn:=x.fresh hp
 by_cases hb:b=a
 ·subst hb;rw[AD]at e;cases e;exact new
 ·rw[AI hb]at e;exact(x b u e).stay (fun c v _ q=>k c v q) (fun c q=>by rw[AI (Bo q hn)];exact q) fun c xs q=>by rw[AI (Bo q hn)];exact q
end
noncomputable def Rd(H:Hp)(a:Addr)(u:HO):Prop:=H a=some u\/∃o,H a=some (.frz o u)
theorem Rd.of{u:HO}(h:H a=some u):Rd H a u:=.inl h
theorem Rd.ok{u:HO}(r:Rd H a u)(x:HOk P w H h):ObjOk P w H h a u:=by
 rcases r with r | ⟨o,r⟩
 ·exact x a u r
 ·obtain⟨_,q⟩:=x a _ r;exact q
noncomputable def Mut:Option HO->Prop
 | some (.lst _)=>True
 | some (.dK _)=>True
 | some (.dT _)=>True
 | some (.set _ _)=>True
 | some (.ins _ _ _)=>True
 | some (.ext _)=>True
 | _=>False
section
variable {P:Program}{w:World}{H:Hp}{h h':Heap}{x e:Addr}{o':HO}
theorem HOk.write (ok:HOk P w H h) (mu:Mut (H x)) (he:e=x\/H e=some (.own x)) (k:∀b u,b≠e->h.get? b=some u->h'.get? b=some u) (heo:∃u,h'.get? e=some u)
 (new:ObjOk P w (upd H x o') h' x o'):HOk P w (upd H x o') h':=fun b u q=>by
 have nown:∀c y,H c=some (.own y)->c≠x:=fun c y r z=>by subst z;rw[r]at mu;exact mu
 have ntup:∀c xs,H c=some (.tup xs)->c≠x:=fun c xs r z=>by subst z;rw[r]at mu;exact mu
 by_cases hb:b=x
 ·subst hb;rw[AD]at q;cases q;exact new
 ·rw[AI hb]at q
  by_cases hbe:b=e
  ·have q':H b=some (.own x):=by
    rcases he with z | z
    ·exact absurd (hbe.trans z) hb
    ·rw[hbe];exact z
   rw[q]at q';cases q';obtain⟨v,hv⟩:=heo;exact⟨v,by rw[hbe];exact hv⟩
  ·refine(ok b u q).stay (fun c v hc r=>k c v ?_ r) (fun c r=>by rw[AI (nown c b r)];exact r) fun c xs r=>by rw[AI (ntup c xs r)];exact r
   rcases hc with rfl | hc
   ·exact hbe
   ·rintro rfl
    rcases he with z | z
    ·exact nown c b hc z
    ·rw[hc]at z;cases z;exact hb rfl
end
structure Un(fs ex:List Addr)(H H':Hp)(h h':Heap):Prop where
 keep:∀b o,h.get? b=some o->H b=none->b∉fs->b∉ex->h'.get? b=some o
 slot:∀b o,h.get? b=some o->H b=none->b∈fs->b∉ex->∃sl,h'.get? b=some { o with slots:=sl }
 free:∀b o,h.get? b=some o->H b=none->b∉ex->H' b=none
 there:∀b o,h.get? b=some o->b∉ex->∃o',h'.get? b=some o'
 tups:∀b xs,H b=some (.tup xs)->H' b=some (.tup xs)
 frzs:∀b o u,H b=some (.frz o u)->H' b=some (.frz o u)
 tbls:∀b ps,H b=some (.tbl ps)->∃more,H' b=some (.tbl (ps++more))
section
variable {fs fs' ex ex':List Addr}{H H1 H2:Hp}{h h1 h2 h':Heap}{a x e:Addr}{o:HO}
theorem Un.any(u:Un fs ex H H1 h h1){ob:Obj}(q:h.get? b=some ob)(n:H b=none)(hx:b∉ex):∃sl,h1.get? b=some { ob with slots:=sl }:=by
 by_cases hb:b∈fs
 ·exact u.slot b ob q n hb hx
 ·exact⟨ob.slots,u.keep b ob q n hb hx⟩
theorem Un.kept(k:∀b u,h.get? b=some u->h'.get? b=some u):Un fs ex H H h h' :=
 ⟨fun b ob q _ _ _=>k b ob q,fun b ob q _ _ _=>⟨ob.slots,k b ob q⟩,fun _ _ _ n _=>n,fun b ob q _=>⟨ob,k b ob q⟩,fun _ _ q=>q,fun _ _ _ q=>q,fun _ ps q=>⟨#[],by rw[q];simp⟩⟩
theorem Un.refl:Un fs ex H H h h:=Un.kept fun _ _ q=>q
theorem Un.laid(k:∀b u,h.get? b=some u->h'.get? b=some u)(hp:h.objs.size<=a)(hn:H a=none):Un fs ex H (upd H a o) h h' where
 keep:=fun b u q _ _ _=>k b u q
 slot:=fun b u q _ _ _=>⟨u.slots,k b u q⟩
 free:=fun b u q n _=>by rw[AI (Zs (Z0 (Zj q) hp))];exact n
 there:=fun b u q _=>⟨u,k b u q⟩
 tups:=fun b xs q=>by rw[AI (Bo q hn)];exact q
 frzs:=fun b u xs q=>by rw[AI (Bo q hn)];exact q
 tbls:=fun b ps q=>⟨#[],by rw[AI (Bo q hn),q];simp⟩
theorem Un.write(mu:Mut (H x))(he:e=x\/H e=some (.own x))(k:∀b u,b≠e->h.get? b=some u->h'.get? b=some u)(heo:∃u,h'.get? e=some u):Un fs ex H (upd H x o) h h':=by
 have hx:∀b,H b=none->b≠x:=fun b n z=>by subst z;rw[n]at mu;exact mu
 have hb:∀b,H b=none->b≠e:=fun b n z=>by
  subst z
  rcases he with r | r
  ·exact hx b n r
  ·rw[n]at r;cases r
 have hm:∀b u,H b=some u->¬Mut (some u)->b≠x:=fun b u q nm z=>by subst z;rw[q]at mu;exact nm mu
 refine⟨fun b u q n _ _=>k b u (hb b n) q,fun b u q n _ _=>⟨u.slots,k b u (hb b n) q⟩,fun b u q n _=>by rw[AI (hx b n)];exact n,fun b u q _=>?_,
  fun b xs q=>by rw[AI (hm b _ q fun z=>z)];exact q,fun b u xs q=>by rw[AI (hm b _ q fun z=>z)];exact q,fun b ps q=>⟨#[],by rw[AI (hm b _ q fun z=>z),q];simp⟩⟩
 by_cases hbe:b=e
 ·subst hbe;exact heo
 ·exact⟨u,k b u hbe q⟩
end
noncomputable def trk(h:Heap)(H:Hp):List Addr:=(List.range h.objs.size).filter fun a=>(H a).isSome
noncomputable def CQ(h:Heap)(H:Hp):Heap:=PySem.W.hideAll h (trk h H)
theorem Oa(h:Heap)(H:Hp):(CQ h H).objs.size=h.objs.size:=PySem.W.hideAll_size _ _
theorem No{o:Obj}(e:h.get? b=some o)(n:H b=none):(CQ h H).get? b=some o :=
 PySem.W.hideAll_get _ e fun hm=>by
  have q:(H b).isSome=true:=(ZBM.mp hm).2;rw[n]at q;simp at q
theorem Nr{o:Obj}(e:(CQ h H).get? b=some o):h.get? b=some o/\H b=none:=by
 have e':h.get? b=some o:=PySem.W.of_hideAll (trk h H) e;refine⟨e',?_⟩;cases q:H b with
 | none=>rfl
 | some x =>
  have hm:b∈trk h H:=ZBM.mpr ⟨Z1.mpr (Zj e'),by simp[q]⟩;have z:(CQ h H).get? b=none:=PySem.W.hideAll_none (trk h H) hm;rw[z]at e;cases e
structure Mod(K:W.Frag)(mg:Str->Option Value)(base:Heap):Prop where
 kin:K.In base
 glob:base.Ns mainGlobals mg
 blt:∃mb,base.Ns builtinsNs mb/\∀x:Str,x ≠ "__name__" -> mb x=bootBuiltins x
 nolimit:base.NoLimit
structure Cx where
 prog:Program
 w:World
 K:W.Frag
 mg:Str->Option Value
 base:Heap
 A:Around
 N:List Str
 s₀:Shared
 H₀:Hp
 env:Env
 outer:List Env
 stack:List Env
 ex:List Addr
 fn:Str->Bool
 calm:Bool
 pn:List (Addr × Obj)
 xe:Value->Shared->Prop
noncomputable def frs(l:List Env):List Addr:=l.filterMap (·.frame)
noncomputable abbrev Cx.fs(X:Cx):List Addr:=frs X.outer
noncomputable def Vis(sc:Scope)(x:Str):Prop:=sc.names.lookup x=some .local\/sc.names.lookup x=some .cell\/sc.names.lookup x=some .free
noncomputable def Loc(sc:Scope)(x:Str):Prop:=sc.names.lookup x=some .local\/sc.names.lookup x=some .cell
noncomputable def V1(env:Env)(h:Heap)(m:Str->Option Value)(x:Str)(u:Value):Prop :=
 (env.kindOf x=some .local/\m x=some u)\/((env.kindOf x=some .cell\/env.kindOf x=some .free)/\∃c,env.cells.lookup x=some c/\h.IsCell c (some u))
structure Cx.Ok(X:Cx):Prop where
 mod:Mod X.K X.mg X.base
 kind:X.env.scope.kind=.function
 glob:X.env.globals=mainGlobals
 blt:X.env.builtins=builtinsNs
 above:X.s₀.heap.objs.size<=X.env.locals
 inj:∀x y c,X.env.cells.lookup x=some c->X.env.cells.lookup y=some c->x=y
 has:∀x,(X.env.kindOf x=some .cell\/X.env.kindOf x=some .free)->∃c,X.env.cells.lookup x=some c
 cab:∀x c,X.fn x=true->X.env.cells.lookup x=some c->X.s₀.heap.objs.size<=c
 hd:X.calm=true->X.A.handled=none
 frames:X.A.frames=some X.stack
 stk:X.stack=X.outer\/(X.stack=X.env::X.outer/\X.env.frame=some X.env.locals)
 exf:∀b∈X.ex,b≠X.env.locals/\∀x c,X.env.cells.lookup x=some c->c≠b
 bs:∀b o,X.base.get? b=some o->X.s₀.heap.get? b=some o/\X.H₀ b=none
 bsz:X.base.objs.size<=X.s₀.heap.objs.size
 noex:∀b o,X.base.get? b=some o->b∉X.ex
 exfs:∀b∈X.ex,b∉X.fs
 funs:X.s₀.heap.FunFrames X.base X.outer
 frf:∀b∈X.fs,X.H₀ b=none
structure zg(X:Cx)(za:List (Addr × Obj))(Z:List (Option V))(H:Hp)(s:Shared):Prop where
 ok:X.Ok
 os:s.os=X.s₀.os
 bare:AllBare s.gens
 base:Un X.fs X.ex X.H₀ H X.s₀.heap s.heap
 loc:∃m,s.heap.Ns X.env.locals m/\∀(i:Nat) (x:Str) (v:V),X.N[i]? = some x->Z[i]? = some (some v)->Vis X.env.scope x->∃u,zi v u/\V1 X.env s.heap m x u
 cell:∀x c,X.env.cells.lookup x=some c->∃v,s.heap.IsCell c v
 free:H X.env.locals=none
 freeC:∀x c,X.env.cells.lookup x=some c->H c=none
 pin:∀p∈X.pn++za,s.heap.get? p.1=some p.2/\H p.1=none/\p.1≠X.env.locals/\p.1∉X.fs/\∀v,p.2.data≠.cell v
 hok:HOk X.prog X.w H s.heap
 len:Z.length=X.N.length
section
variable {X:Cx}{za:List (Addr × Obj)}{Z:List (Option V)}{H H':Hp}{s:Shared}{h':Heap}
theorem Cx.Ok.nofr(ok:X.Ok){o:Obj}(e:X.base.get? b=some o):b∉X.fs:=fun hb=>by
 have:=(ok.funs.mem hb).1
 rw[e]at this;cases this
theorem zg.bs(I:zg X za Z H s):∀b o,X.base.get? b=some o->s.heap.get? b=some o/\H b=none:=fun b o e =>
 ⟨I.base.keep b o (I.ok.bs b o e).1 (I.ok.bs b o e).2 (I.ok.nofr e) (I.ok.noex b o e),I.base.free b o (I.ok.bs b o e).1 (I.ok.bs b o e).2 (I.ok.noex b o e)⟩
theorem zg.bk(I:zg X za Z H s):∀b o,X.base.get? b=some o->s.heap.get? b=some o:=fun b o e=>(I.bs b o e).1
theorem zg.mod(I:zg X za Z H s):Mod X.K X.mg X.base:=I.ok.mod
theorem zg.kIn(I:zg X za Z H s):X.K.In s.heap:=I.ok.mod.kin.keeps I.bk
theorem zg.lt(I:zg X za Z H s):X.env.locals < s.heap.objs.size:=let ⟨_,hn,_⟩:=I.loc;hn.lt
theorem zg.sz(I:zg X za Z H s):X.s₀.heap.objs.size<=s.heap.objs.size:=ZBU I.ok.above (ZBa I.lt)
theorem zg.nofs(I:zg X za Z H s)(h:s.heap.objs.size<=a):a∉X.fs:=fun hb=>by
 obtain⟨_,o,ho,_⟩:=I.ok.funs.mem hb;exact absurd (Z0 (Zj ho) (ZBU I.sz h)) (Z2 _)
theorem zg.cne(I:zg X za Z H s):∀x c,X.env.cells.lookup x=some c->c≠X.env.locals:=fun x c e z=>by
 obtain⟨v,o,ho,hd⟩:=I.cell x c e;obtain⟨m,⟨o',es,ep,ho',hd',_⟩,_⟩:=I.loc;rw[z,ho']at ho;cases ho;rw[hd']at hd;cases hd
theorem zg.funs(I:zg X za Z H s):s.heap.FunFrames X.base X.outer:=by
 have all:∀(l:List Env),(∀b∈frs l,b∈X.fs)->X.s₀.heap.FunFrames X.base l->s.heap.FunFrames X.base l:=by
  intro l
  induction l with
  | nil=>intro _ _;trivial
  | cons env r ih =>
   intro hs hl;obtain⟨hk,⟨L,o,hf,hn,ho,hd⟩,hr⟩:=hl;have hL:L∈X.fs:=hs L (by unfold frs;rw[ZB7,hf];exact ZBD);obtain⟨sl,e⟩:=I.base.slot L o ho (I.ok.frf L hL) hL fun z=>I.ok.exfs L z hL
   exact⟨hk,⟨L,_,hf,hn,e,hd⟩,ih (fun b hb=>hs b (by unfold frs;rw[ZB7,hf];exact Zz _ hb)) hr⟩
 exact all X.outer (fun _ hb=>hb) I.ok.funs
theorem zg.stack(I:zg X za Z H s):s.heap.FunFrames X.base X.stack:=by
 rcases I.ok.stk with e | ⟨e,hf⟩
 ·rw[e];exact I.funs
 ·rw[e];obtain⟨m,hn,_⟩:=I.loc;refine .cons (by rw[I.ok.kind];decide) hf hn ?_ I.funs;exact Heap.get?_none_of_le (ZBU I.ok.bsz I.ok.above)
theorem zg.stkSub(I:zg X za Z H s):∀b∈frs X.stack,b∈X.env.locals::X.fs:=fun b hb=>by
 rcases I.ok.stk with e | ⟨e,hf⟩
 ·rw[e]at hb;exact Zz _ hb
 ·rw[e]at hb;unfold frs at hb;rw[ZB7,hf]at hb;exact hb
theorem zg.stkFree(I:zg X za Z H s):∀b∈frs X.stack,H b=none:=fun b hb=>by
 rcases Zh.mp (I.stkSub b hb) with e | hb
 ·rw[e];exact I.free
 ·obtain⟨_,o,ho,_⟩:=I.ok.funs.mem hb;exact I.base.free b o ho (I.ok.frf b hb) fun z=>I.ok.exfs b z hb
theorem zg.step {g':Array GenState} {d':Drawn} {ch:List Addr} (I:zg X za Z H s)
 (hch:∀b∈ch,(b∈X.ex\/X.s₀.heap.objs.size<=b)/\b≠X.env.locals/\(∀x c,X.env.cells.lookup x=some c->c≠b)/\∀p∈X.pn++za,p.1≠b)
 (keep:∀b o,b≠X.env.locals->b∉X.fs->b∉ch->s.heap.get? b=some o->H b=none->h'.get? b=some o)
 (slot:∀b o,b≠X.env.locals->b∈X.fs->b∉ch->s.heap.get? b=some o->H b=none->∃sl,h'.get? b=some { o with slots:=sl }) (free:∀b o,b∉ch->s.heap.get? b=some o->H b=none->H' b=none)
 (there:∀b o,b∉ch->s.heap.get? b=some o->∃o',h'.get? b=some o')
 (tups:∀b xs,H b=some (.tup xs)->H' b=some (.tup xs)) (frzs:∀b o u,H b=some (.frz o u)->H' b=some (.frz o u)) (tbls:∀b ps,H b=some (.tbl ps)->∃more,H' b=some (.tbl (ps++more)))
 (ns:∀m,s.heap.Ns X.env.locals m->h'.Ns X.env.locals m) (hok:HOk X.prog X.w H' h') (hg:AllBare g') :
 zg X za Z H' { s with heap:=h',gens:=g',drawn:=d',toks:=t' }:=by
 have neL:∀b o,X.s₀.heap.get? b=some o->b≠X.env.locals:=fun b o e=>Zs (Z0 (Zj e) I.ok.above)
 have neC:∀b o,X.s₀.heap.get? b=some o->b∉X.ex->b∉ch:=fun b o e hx hb=>by
  rcases(hch b hb).1 with z | z
  ·exact hx z
  ·exact absurd (Z0 (Zj e) z) (Z2 _)
 have cellK:∀x c,X.env.cells.lookup x=some c->∀v,s.heap.IsCell c v->h'.IsCell c v:=fun x c e v ⟨o,ho,hd⟩=>by
  have nch:c∉ch:=fun z=>(hch c z).2.2.1 x c e rfl
  by_cases hc:c∈X.fs
  ·obtain⟨sl,q⟩:=slot c o (I.cne x c e) hc nch ho (I.freeC x c e);exact⟨_,q,hd⟩
  ·exact⟨o,keep c o (I.cne x c e) hc nch ho (I.freeC x c e),hd⟩
 refine⟨I.ok,I.os,hg,⟨fun b o e n hb hx=>?_,fun b o e n hb hx=>?_,fun b o e n hx=>?_,fun b o e hx=>?_,fun b xs e=>tups b xs (I.base.tups b xs e),fun b o xs e=>frzs b o xs (I.base.frzs b o xs e),fun b ps e=>?_⟩,?_,fun x c e=>?_,?_,fun x c e=>?_,fun p hp=>?_,hok,I.len⟩
 ·exact keep b o (neL b o e) hb (neC b o e hx) (I.base.keep b o e n hb hx) (I.base.free b o e n hx)
 ·obtain⟨sl,e1⟩:=I.base.slot b o e n hb hx;obtain⟨sl',e2⟩:=slot b _ (neL b o e) hb (neC b o e hx) e1 (I.base.free b o e n hx);exact⟨sl',e2⟩
 ·obtain⟨o',e1⟩:=I.base.there b o e hx;exact free b o' (neC b o e hx) e1 (I.base.free b o e n hx)
 ·obtain⟨o',e1⟩:=I.base.there b o e hx;exact there b o' (neC b o e hx) e1
 ·obtain⟨m1,e1⟩:=I.base.tbls b ps e;obtain⟨m2,e2⟩:=tbls b _ e1;exact⟨m1++m2,by rw[e2,Array.append_assoc]⟩
 ·obtain⟨m,hn,hl⟩:=I.loc;refine⟨m,ns m hn,fun i x v e1 e2 e3=>?_⟩;obtain⟨u,r,l⟩:=hl i x v e1 e2 e3;refine⟨u,r,?_⟩
  rcases l with l | ⟨k,c,e,z⟩
  ·exact .inl l
  ·exact .inr ⟨k,c,e,cellK x c e _ z⟩
 ·obtain⟨v,z⟩:=I.cell x c e;exact⟨v,cellK x c e v z⟩
 ·obtain⟨m,⟨o,_,_,ho,_⟩,_⟩:=I.loc;exact free _ o (fun z=>(hch _ z).2.1 rfl) ho I.free
 ·obtain⟨v,o,ho,hd⟩:=I.cell x c e;exact free c o (fun z=>(hch c z).2.2.1 x c e rfl) ho (I.freeC x c e)
 ·obtain⟨e,n,ne,nf,d⟩:=I.pin p hp;have nch:p.1∉ch:=fun z=>(hch p.1 z).2.2.2 p hp rfl
  exact⟨keep p.1 p.2 ne nf nch e n,free p.1 p.2 nch e n,ne,nf,d⟩
theorem zg.un(I:zg X za Z H s)(u:Un X.fs [] H H' s.heap h')(hok:HOk X.prog X.w H' h'):zg X za Z H' { s with heap:=h',toks:=t' }:=by
 obtain⟨m,⟨o,es,ep,ho,r⟩,_⟩:=id I.loc;obtain⟨sl,hL⟩:=u.any ho I.free (by simp)
 exact I.step (g':=s.gens) (d':=s.drawn) (ch:=[]) (fun _ z=>nomatch z) (fun b o _ hb _ e n=>u.keep b o e n hb (by simp)) (fun b o _ hb _ e n=>u.slot b o e n hb (by simp)) (fun b o _ e n=>u.free b o e n (by simp)) (fun b o _ e=>u.there b o e (by simp)) u.tups u.frzs u.tbls (fun m' hm=>by
  obtain⟨o',es',ep',ho',r'⟩:=hm;rw[ho]at ho';cases ho';exact⟨_,es',ep',hL,r'⟩) hok I.bare
theorem zg.call {g':Array GenState} {d':Drawn} {ch:List Addr} (I:zg X za Z H s) (u:Un (frs X.stack) ch H H' s.heap h') (hok:HOk X.prog X.w H' h') (hg:AllBare g')
 (hch:∀b∈ch,(b∈X.ex\/X.s₀.heap.objs.size<=b)/\b≠X.env.locals/\(∀x c,X.env.cells.lookup x=some c->c≠b)/\∀p∈X.pn++za,p.1≠b) :
 zg X za Z H' { s with heap:=h',gens:=g',drawn:=d',toks:=t' }:=by
 obtain⟨m,⟨o,es,ep,ho,r⟩,_⟩:=id I.loc;obtain⟨sl,hL⟩:=u.any ho I.free fun z=>(hch _ z).2.1 rfl
 exact I.step (ch:=ch) hch (fun b o hL hb hc e n=>u.keep b o e n (fun z=>(Zh.mp (I.stkSub b z)).elim hL hb) hc) (fun b o _ _ hc e n=>u.any e n hc) (fun b o hc e n=>u.free b o e n hc) (fun b o hc e=>u.there b o e hc) u.tups u.frzs u.tbls (fun m' hm=>by
  obtain⟨o',es',ep',ho',r'⟩:=hm;rw[ho]at ho';cases ho';exact⟨_,es',ep',hL,r'⟩) hok hg
theorem zg.turned {it:Addr} (I:zg X za Z H s) (k:∀b o,b≠it->s.heap.get? b=some o->h'.get? b=some o) (hn:H it=none) (hL:it≠X.env.locals)
 (h1:it∈X.ex\/X.s₀.heap.objs.size<=it) (h2:∀x c,X.env.cells.lookup x=some c->c≠it) (h3:∀p∈X.pn++za,p.1≠it):zg X za Z H { s with heap:=h',toks:=t' }:=by
 have nit:∀b u,H b=some u->b≠it:=fun b u e z=>by rw[z,hn]at e;cases e
 refine I.step (g':=s.gens) (d':=s.drawn) (ch:=[it]) (fun b hb=>?_) (fun b o _ _ hc e _=>k b o (fun z=>hc (by simp[z])) e) (fun b o _ _ hc e _=>⟨o.slots,k b o (fun z=>hc (by simp[z])) e⟩) (fun _ _ _ _ n=>n)
  (fun b o hc e=>⟨o,k b o (fun z=>hc (by simp[z])) e⟩) (fun _ _ e=>e) (fun _ _ _ e=>e) (fun b ps e=>⟨#[],by rw[e];simp⟩) (fun m hm=>?_) (fun b u e=>?_) I.bare
 ·have e:b=it:=by simpa using hb
  subst e;exact⟨h1,hL,h2,h3⟩
 ·obtain⟨o,es,ep,ho,r⟩:=hm;exact⟨o,es,ep,k _ o (Ne.symm hL) ho,r⟩
 ·refine(I.hok b u e).stay (fun c v hc q=>k c v ?_ q) (fun _ q=>q) fun _ _ q=>q
  rcases hc with z | z
  ·rw[z];exact nit b u e
  ·exact nit c _ z
theorem zg.tok(I:zg X za Z H s)(t:Nat):zg X za Z H { s with toks:=t }:=I.un (h':=s.heap) (t':=t) Un.refl I.hok
theorem zg.kept(I:zg X za Z H s)(k:∀b u,s.heap.get? b=some u->h'.get? b=some u):zg X za Z H { s with heap:=h',toks:=t' }:=I.un (Un.kept k) (I.hok.kept k)
theorem zg.laid(I:zg X za Z H s)(k:∀b u,s.heap.get? b=some u->h'.get? b=some u)(hp:s.heap.objs.size<=a)(new:ObjOk X.prog X.w (upd H a o) h' a o) :
 zg X za Z (upd H a o) { s with heap:=h',toks:=t' }:=I.un (Un.laid k hp (I.hok.fresh hp)) (I.hok.laid k hp new)
theorem zg.write {x e:Addr} (I:zg X za Z H s) (mu:Mut (H x)) (he:e=x\/H e=some (.own x)) (k:∀b u,b≠e->s.heap.get? b=some u->h'.get? b=some u) (heo:∃u,h'.get? e=some u)
 (new:ObjOk X.prog X.w (upd H x o) h' x o):zg X za Z (upd H x o) { s with heap:=h',toks:=t' }:=I.un (Un.write mu he k heo) (I.hok.write mu he k heo new)
theorem zg.weak{σ':List (Option V)}(I:zg X za Z H s)(hl:σ'.length=Z.length)(w:∀(i:Nat) v,σ'[i]? = some (some v)->Z[i]? = some (some v)):zg X za σ' H s :=
 ⟨I.ok,I.os,I.bare,I.base,let ⟨m,hn,hl'⟩:=I.loc;⟨m,hn,fun i x v e1 e2 e3=>hl' i x v e1 (w i v e2) e3⟩,I.cell,I.free,I.freeC,I.pin,I.hok,hl.trans I.len⟩
theorem zg.pins_of{pins':List (Addr × Obj)}(I:zg X za Z H s)(h:∀p∈pins',s.heap.get? p.1=some p.2/\H p.1=none/\p.1≠X.env.locals/\p.1∉X.fs/\∀v,p.2.data≠.cell v):zg X pins' Z H s :=
 ⟨I.ok,I.os,I.bare,I.base,I.loc,I.cell,I.free,I.freeC,fun p hp=>(ZBE.mp hp).elim (fun z=>I.pin p (ZBO _ z)) (h p),I.hok,I.len⟩
theorem NE{N:List Str}(hN:N.Nodup){j:Nat}(a:N[i]? = some x)(b:N[j]? = some x):i=j:=by
 obtain⟨h1,e1⟩:=Z4.mp a;obtain⟨h2,e2⟩:=Z4.mp b;exact(List.getElem_inj hN).mp (e1.trans e2.symm)
theorem Ml {M:Model} {Q:Unit->Shared->Prop} (I:zg X za Z H s) (hN:X.N.Nodup) (hi:X.N[i]? = some x) (hx:Loc X.env.scope x) (r:zi v u)
 (h:∀s',zg X za (Z.set i (some v)) H s'->(∃a,Heap.SameBut a s.heap s'.heap/\(a=X.env.locals\/X.env.cells.lookup x=some a))->Q () s') (hf:X.fn x=true\/X.env.scope.names.lookup x=some .local:=by first | exact .inl rfl | exact .inr rfl | assumption):wpAny M A (storeName X.env x u) Q E s:=by
 obtain⟨m,hn,hl⟩:=id I.loc;have hcls:(X.env.scope.kind == .class || (X.env.scope.kind == .module && X.env.locals != X.env.globals))=false:=by rw[I.ok.kind];rfl
 have hiσ:i < Z.length:=by rw[I.len];exact(Z4.mp hi).1
 have cne:=I.cne
 have tracked:∀{a:Addr} {h':Heap},(∃o,s.heap.get? a=some o/\H a=none)->Heap.SameBut a s.heap h'->HOk X.prog X.w H h':=fun {a h'} ha hs b ob e=>by
  obtain⟨_,_,hfree⟩:=ha;refine(I.hok b ob e).stay (fun c w' hc q=>(hs.2 c ?_).trans q) (fun _ q=>q) fun _ _ q=>q
  rintro rfl
  rcases hc with rfl | hc
  ·rw[hfree]at e;cases e
  ·rw[hfree]at hc;cases hc
 rcases hx with hk | hk
 ·refine wpAny_storeName_local hk hn (fun h' hn' hs=>?_) hcls;obtain⟨oL,_,_,hoL,_⟩:=id hn;refine h _ ⟨I.ok,I.os,I.bare,⟨fun b o e n hb hx=>?_,fun b o e n hb hx=>?_,I.base.free,fun b o e hx=>?_,I.base.tups,I.base.frzs,I.base.tbls⟩,⟨_,hn',fun j y v' e1 e2 e3=>?_⟩,fun y c e=>?_,I.free,I.freeC,fun p hp=>?_,tracked ⟨oL,hoL,I.free⟩ hs,by simpa using I.len⟩ ⟨_,hs,.inl rfl⟩
  ·exact(hs.2 b (Zs (Z0 (Zj e) I.ok.above))).trans (I.base.keep b o e n hb hx)
  ·obtain⟨sl,e1⟩:=I.base.slot b o e n hb hx;exact⟨sl,(hs.2 b (Zs (Z0 (Zj e) I.ok.above))).trans e1⟩
  ·obtain⟨o',e1⟩:=I.base.there b o e hx;exact⟨o',(hs.2 b (Zs (Z0 (Zj e) I.ok.above))).trans e1⟩
  ·by_cases hj:j=i
   ·subst hj;rw[hi]at e1;cases e1;rw[List.getElem?_set_self hiσ]at e2;cases e2;exact⟨u,r,.inl ⟨hk,by simp⟩⟩
   ·rw[List.getElem?_set_ne (Ne.symm hj)]at e2;obtain⟨u',r',q⟩:=hl j y v' e1 e2 e3;refine⟨u',r',?_⟩
    rcases q with ⟨k,e⟩ | ⟨k,c,e,z⟩
    ·refine .inl ⟨k,?_⟩
     have:y≠x:=fun e=>hj (NE hN e1 (e ▸ hi))
     simp[this,e]
    ·exact .inr ⟨k,c,e,z.sameBut hs (cne y c e)⟩
  ·obtain⟨w',z⟩:=I.cell y c e;exact⟨w',z.sameBut hs (cne y c e)⟩
  ·obtain⟨e,n,ne,nf,d⟩:=I.pin p hp;exact⟨(hs.2 p.1 ne).trans e,n,ne,nf,d⟩
 ·have hfn:X.fn x=true:=by
   rcases hf with z | z
   ·exact z
   ·rw[z]at hk;cases hk
  obtain⟨c,hc⟩:=I.ok.has x (.inl hk);obtain⟨w',z⟩:=I.cell x c hc;refine wpAny_storeName_cell I.ok.kind hk hc z (fun h' hc' hs=>?_);obtain⟨oc,hoc,hocd⟩:=id z;refine h { s with heap:=h' } ⟨I.ok,I.os,I.bare,⟨fun b o e n hb hx=>?_,fun b o e n hb hx=>?_,I.base.free,fun b o e hx=>?_,I.base.tups,I.base.frzs,I.base.tbls⟩,⟨m,hn.sameBut hs (Ne.symm (cne x c hc)),fun j y v' e1 e2 e3=>?_⟩,fun y c' e=>?_,I.free,I.freeC,fun p hp=>?_,tracked ⟨oc,hoc,I.freeC x c hc⟩ hs,by simpa using I.len⟩ ⟨c,hs,.inr hc⟩
  ·exact(hs.2 b (Zs (Z0 (Zj e) (I.ok.cab x c hfn hc)))).trans (I.base.keep b o e n hb hx)
  ·obtain⟨sl,e1⟩:=I.base.slot b o e n hb hx;exact⟨sl,(hs.2 b (Zs (Z0 (Zj e) (I.ok.cab x c hfn hc)))).trans e1⟩
  ·obtain⟨o',e1⟩:=I.base.there b o e hx;exact⟨o',(hs.2 b (Zs (Z0 (Zj e) (I.ok.cab x c hfn hc)))).trans e1⟩
  ·by_cases hj:j=i
   ·subst hj;rw[hi]at e1;cases e1;rw[List.getElem?_set_self hiσ]at e2;cases e2;exact⟨u,r,.inr ⟨.inl hk,c,hc,hc'⟩⟩
   ·rw[List.getElem?_set_ne (Ne.symm hj)]at e2;obtain⟨u',r',q⟩:=hl j y v' e1 e2 e3;refine⟨u',r',?_⟩
    rcases q with q | ⟨k,c',e,z'⟩
    ·exact .inl q
    ·refine .inr ⟨k,c',e,z'.sameBut hs ?_⟩;rintro rfl;exact hj (NE hN e1 (I.ok.inj _ _ _ e hc ▸ hi))
  ·by_cases hcc:c'=c
   ·subst hcc;exact⟨_,hc'⟩
   ·obtain⟨w2,z2⟩:=I.cell y c' e;exact⟨w2,z2.sameBut hs hcc⟩
  ·obtain⟨e,n,ne,nf,d⟩:=I.pin p hp;refine⟨(hs.2 p.1 ?_).trans e,n,ne,nf,d⟩;intro q;rw[q,hoc]at e;have q':oc=p.2:=Zv e;exact d w' (by rw[<- q'];exact hocd)
theorem Nu {M:Model} {Q:Unit->Shared->Prop} (I:zg X za Z H s) (hN:X.N.Nodup) (hi:X.N[i]? = some x) (hx:Loc X.env.scope x) (r:zi v u)
 (h:∀s',zg X za (Z.set i (some v)) H s'->Q () s') (hf:X.fn x=true\/X.env.scope.names.lookup x=some .local:=by first | exact .inl rfl | exact .inr rfl | assumption):wpAny M A (storeName X.env x u) Q E s :=
 Ml I hN hi hx r (fun s' I' _=>h s' I') hf
theorem zg.call' {s':Shared} {ch:List Addr} (I:zg X za Z H s) (ho:s'.os=s.os) (u:Un (frs X.stack) ch H H' s.heap s'.heap) (hok:HOk X.prog X.w H' s'.heap) (hg:AllBare s'.gens)
 (hch:∀b∈ch,(b∈X.ex\/X.s₀.heap.objs.size<=b)/\b≠X.env.locals/\(∀x c,X.env.cells.lookup x=some c->c≠b)/\∀p∈X.pn++za,p.1≠b):zg X za Z H' s':=by
 obtain⟨h',g',d',t',o'⟩:=s';have e:o'=s.os:=ho;subst e;exact I.call (g':=g') (t':=t') (d':=d') u hok hg hch
end
noncomputable abbrev XK:=Value->Option Addr->Hp->Prop
noncomputable abbrev St:=List (Option V)
noncomputable abbrev VK:=V->Hp->Prop
noncomputable abbrev TE:=St->Hp->VK->Prop
noncomputable abbrev TT:=St->Hp->(Bool->Hp->Prop)->Prop
noncomputable abbrev TA:=St->Hp->(List V->Hp->Prop)->Prop
structure Ends where
 nx:St->Hp->Prop
 rt:VK
 bk:St->Hp->Prop:=fun _ _=>False
 ct:St->Hp->Prop:=fun _ _=>False
noncomputable abbrev TS:=Ends->St->Hp->Prop
noncomputable def EP(X:Cx)(za:List (Addr × Obj))(Z:St)(Q:VK)(u:Value)(s':Shared):Prop:=∃v H',zg X za Z H' s'/\zi v u/\Q v H'
noncomputable def TP(X:Cx)(za:List (Addr × Obj))(Z:St)(Q:Bool->Hp->Prop)(b:Bool)(s':Shared):Prop:=∃H',zg X za Z H' s'/\Q b H'
noncomputable def AP(X:Cx)(za:List (Addr × Obj))(Z:St)(Q:List V->Hp->Prop)(us:List Value)(s':Shared):Prop:=∃vs H',zg X za Z H' s'/\zj vs us/\Q vs H'
noncomputable def SP(X:Cx)(za:List (Addr × Obj))(D:Ends)(f:Flow)(s':Shared):Prop :=
 match f with
 | .next=>∃σ' H',zg X za σ' H' s'/\D.nx σ' H'
 | .brk=>∃σ' H',zg X za σ' H' s'/\D.bk σ' H'
 | .cont=>∃σ' H',zg X za σ' H' s'/\D.ct σ' H'
 | .ret u=>∃v σ' H',zg X za σ' H' s'/\zi v u/\D.rt v H'
noncomputable def PE(X:Cx)(e:Expr)(t:TE):Prop :=
 ∀(za:List (Addr × Obj)) (s:Shared) (Z:St) (H:Hp) (Q:VK),zg X za Z H s->t Z H Q->wpAny (model X.prog X.w) X.A (eval e X.env) (EP X za Z Q) X.xe s
noncomputable def PT(X:Cx)(e:Expr)(t:TT):Prop :=
 ∀(za:List (Addr × Obj)) (s:Shared) (Z:St) (H:Hp) (Q:Bool->Hp->Prop),zg X za Z H s->t Z H Q->wpAny (model X.prog X.w) X.A (isTrue e X.env (eval e X.env)) (TP X za Z Q) X.xe s
noncomputable def PW(X:Cx)(e:Expr)(t:TT):Prop :=
 ∀(whole:Sem Value) (za:List (Addr × Obj)) (s:Shared) (Z:St) (H:Hp) (Q:Bool->Hp->Prop),zg X za Z H s->t Z H Q->wpAny (model X.prog X.w) X.A (isTrue e X.env whole) (TP X za Z Q) X.xe s
theorem PW.pt{X:Cx}{e:Expr}{t:TT}(h:PW X e t):PT X e t:=h _
noncomputable def PA(X:Cx)(es:List Expr)(t:TA):Prop :=
 ∀(pos:Pos) (za:List (Addr × Obj)) (s:Shared) (Z:St) (H:Hp) (Q:List V->Hp->Prop),zg X za Z H s->t Z H Q->wpAny (model X.prog X.w) X.A (spliced (backTo pos (starEach es X.env))) (AP X za Z Q) X.xe s
noncomputable def PS(X:Cx)(st:Stmt)(t:TS):Prop :=
 ∀(za:List (Addr × Obj)) (s:Shared) (Z:St) (H:Hp) (D:Ends),zg X za Z H s->t D Z H->wpAny (model X.prog X.w) X.A (exec st X.env) (SP X za D) X.xe s
noncomputable def PSs(X:Cx)(st:List Stmt)(t:TS):Prop :=
 ∀(za:List (Addr × Obj)) (s:Shared) (Z:St) (H:Hp) (D:Ends),zg X za Z H s->t D Z H->wpAny (model X.prog X.w) X.A (execs st X.env) (SP X za D) X.xe s
theorem zn{α:Type}{t:Sem α}{Q Q':α->Shared->Prop}{M:Model}(h:wpAny M A t Q E s)(hQ:∀a s,Q a s->Q' a s):wpAny M A t Q' E s:=ZBH h hQ fun _ _ x=>x
section
variable {X:Cx}
noncomputable def XR(i:Nat):TE:=fun Z H Q=>∃v,Z[i]? = some (some v)/\Q v H
noncomputable def tC(v:V):TE:=fun _ H Q=>Q v H
theorem Px(hN:X.N[i]? = some x)(hv:Vis X.env.scope x)(hd:(x == ("__debug__" : Str))=false:=by decide)(hcd:(x == ("__classdict__" : Str))=false:=by decide):PE X (.Name x pos) (XR i):=by
 intro za s Z H Q I h;obtain⟨v,e,h⟩:=h;obtain⟨m,hn,hl⟩:=I.loc;obtain⟨u,r,l⟩:=hl i x v hN e hv;have fin:EP X za Z Q u s:=⟨v,H,I,r,h⟩
 rcases l with ⟨hk,hm⟩ | ⟨hk,c,hc,hcell⟩
 ·exact wpAny_Name (wpAny_loadName_local I.ok.kind hk hn hm fin) hd
 ·rcases hk with hk | hk
  ·exact wpAny_Name (wpAny_loadName_cell I.ok.kind hk hc hcell fin) hd
  ·exact wpAny_Name (wpAny_loadName_free I.ok.kind hk hc hcell fin hcd) hd
theorem AC{i j pos}:PE X (.Constant (.int i) j pos) (tC (.int i)):=fun _ _ _ H _ I h=>wpAny_Constant_int ⟨.int i,H,I.tok _,⟨_,rfl⟩,h⟩
theorem Au{b j pos}:PE X (.Constant (.bool b) j pos) (tC (.bl b)):=fun _ _ _ H _ I h=>Constant_bool ⟨.bl b,H,I,rfl,h⟩
theorem Mr{j pos}:PE X (.Constant .none j pos) (tC .non):=fun _ _ _ H _ I h=>Constant_none ⟨.non,H,I,rfl,h⟩
theorem EN{x j pos}:PE X (.Constant (.str x) j pos) (tC (.str x)):=fun _ _ _ H _ I h=>Calls.Constant_str ⟨.str x,H,I.tok _,⟨_,rfl⟩,h⟩
noncomputable def Gl(X:Cx)(x:Str):Prop:=X.env.kindOf x=some .globalImplicit
theorem G8 (I:zg X za Z H s) (hg:Gl X x) (hm:X.mg x=some u) (h:Q u s)
 (hd:(x == ("__debug__" : Str))=false:=by decide):wpAny (model X.prog X.w) X.A (eval (.Name x pos) X.env) Q E s :=
 Calls.Name_function_global I.ok.kind hg (Calls.loadGlobal_global (by rw[I.ok.glob];exact I.mod.glob.keeps I.bk) hm h) hd
theorem CA (I:zg X za Z H s) (hg:Gl X x) (hm:X.mg x=none) (hv:bootBuiltins x=some u) (h:Q u s)
 (hn:x ≠ "__name__":=by decide) (hd:(x == ("__debug__" : Str))=false:=by decide):wpAny (model X.prog X.w) X.A (eval (.Name x pos) X.env) Q E s:=by
 obtain⟨mb,h1,h2⟩:=I.mod.blt;exact Calls.Name_function_global I.ok.kind hg (Calls.loadGlobal_builtin (by rw[I.ok.glob];exact I.mod.glob.keeps I.bk) hm (by rw[I.ok.blt];exact h1.keeps I.bk) ((h2 x hn).trans hv) h) hd
theorem HB(hg:Gl X x)(hm:X.mg x=some u)(r:zi v u)(hd:(x == ("__debug__" : Str))=false:=by decide):PE X (.Name x pos) (tC v) :=
 fun _ _ _ H _ I h=>G8 I hg hm ⟨v,H,I,r,h⟩ hd
theorem ER(hg:Gl X x)(hm:X.mg x=none)(hv:bootBuiltins x=some u)(r:zi v u)(hn:x ≠ "__name__":=by decide)(hd:(x == ("__debug__" : Str))=false:=by decide):PE X (.Name x pos) (tC v) :=
 fun _ _ _ H _ I h=>CA I hg hm hv ⟨v,H,I,r,h⟩ hn hd
variable {a b:Expr}{ta tb:TE}{pos:Pos}
theorem IG(b:Expr){op:CmpOp}(h:op≠.In)(h2:op≠.NotIn):behindInMarks op b=false:=by
 have e1:(op == CmpOp.In)=false:=by cases op <;> first | rfl | exact absurd rfl h
 have e2:(op == CmpOp.NotIn)=false:=by cases op <;> first | rfl | exact absurd rfl h2
 cases b <;> simp[behindInMarks,e1,e2]
variable {tA tB':TT}{rest:List Expr}
noncomputable def NB(t u:TT):TT:=fun Z H Q=>t Z H fun c H1=>if c=true then u Z H1 Q else Q false H1
noncomputable def tOr(t u:TT):TT:=fun Z H Q=>t Z H fun c H1=>if c=true then Q true H1 else u Z H1 Q
noncomputable def OO(t:TT):TT:=fun Z H Q=>t Z H fun c H1=>Q (!c) H1
theorem Ef(ha:PT X a tA):PW X (.BoolOp .And [a] pos) tA:=by
 intro wh za s Z H Q I h;refine isTrue_and (zn (ha za s Z H Q I h) fun c s1 e=>?_);cases c with
 | true=>exact isTrue_and_nil e
 | false=>exact e
theorem Dy(ha:PT X a tA):PW X (.BoolOp .Or [a] pos) tA:=by
 intro wh za s Z H Q I h;refine isTrue_or (zn (ha za s Z H Q I h) fun c s1 e=>?_);cases c with
 | false=>exact isTrue_or_nil e
 | true=>exact e
theorem EW(ha:PT X a tA)(hb:PW X (.BoolOp .And (b::rest) pos) tB'):PW X (.BoolOp .And (a::b::rest) pos) (NB tA tB'):=by
 intro wh za s Z H Q I h;refine isTrue_and (zn (ha za s Z H _ I h) fun c s1 ⟨H1,I1,q1⟩=>?_);cases c with
 | true=>exact hb wh za s1 Z H1 Q I1 q1
 | false=>exact⟨H1,I1,q1⟩
theorem DU(ha:PT X a tA)(hb:PW X (.BoolOp .Or (b::rest) pos) tB'):PW X (.BoolOp .Or (a::b::rest) pos) (tOr tA tB'):=by
 intro wh za s Z H Q I h;refine isTrue_or (zn (ha za s Z H _ I h) fun c s1 ⟨H1,I1,q1⟩=>?_);cases c with
 | true=>exact⟨H1,I1,q1⟩
 | false=>exact hb wh za s1 Z H1 Q I1 q1
theorem Bw(ha:PT X a tA):PT X (.UnaryOp .Not a pos) (OO tA):=by
 intro za s Z H Q I h;exact isTrue_not (ha za s Z H (fun c H1=>Q (!c) H1) I h)
noncomputable def Wv(ta tb:TE):TE:=fun Z H Q=>ta Z H fun x H1=>∃c,x=.bl c/\if c=true then tb Z H1 Q else Q (.bl false) H1
noncomputable def RP(ta tb:TE):TE:=fun Z H Q=>ta Z H fun x H1=>∃c,x=.bl c/\if c=true then Q (.bl true) H1 else tb Z H1 Q
noncomputable def Vw(ta:TE):TE:=fun Z H Q=>ta Z H fun x H1=>∃c,x=.bl c/\Q (.bl (!c)) H1
theorem Bx{op}{t:TE}(h:PE X a t):PE X (.BoolOp op [a] pos) t:=fun za s Z H Q I hw=>BoolOp_one (h za s Z H Q I hw)
theorem QB(ha:PE X a ta)(hb:PE X (.BoolOp .And (b::rest) pos) tb):PE X (.BoolOp .And (a::b::rest) pos) (Wv ta tb):=by
 intro za s Z H Q I h;refine BoolOp_and (zn (ha za s Z H _ I h) fun v s1 ⟨x,H1,I1,r1,q1⟩=>?_);obtain⟨c,rfl,q1⟩:=q1;cases r1;refine ZBl ?_;cases c with
 | true=>exact hb za s1 Z H1 Q I1 q1
 | false=>exact⟨.bl false,H1,I1,rfl,q1⟩
theorem Qz(ha:PE X a ta)(hb:PE X (.BoolOp .Or (b::rest) pos) tb):PE X (.BoolOp .Or (a::b::rest) pos) (RP ta tb):=by
 intro za s Z H Q I h;refine BoolOp_or (zn (ha za s Z H _ I h) fun v s1 ⟨x,H1,I1,r1,q1⟩=>?_);obtain⟨c,rfl,q1⟩:=q1;cases r1;refine ZBl ?_;cases c with
 | false=>exact hb za s1 Z H1 Q I1 q1
 | true=>exact⟨.bl true,H1,I1,rfl,q1⟩
theorem RX(ha:PE X a ta):PE X (.UnaryOp .Not a pos) (Vw ta):=by
 intro za s Z H Q I h;refine UnaryOp_ (zn (ha za s Z H _ I h) fun v s1 ⟨x,H1,I1,r1,q1⟩=>?_);obtain⟨c,rfl,q1⟩:=q1;cases r1;exact not_of (ZBl ⟨.bl (!c),H1,I1,rfl,q1⟩)
noncomputable def tIf(t:TT)(ta tb:TE):TE:=fun Z H Q=>t Z H fun c H1=>if c=true then ta Z H1 Q else tb Z H1 Q
theorem C3{c:Expr}(hc:PT X c tA)(ha:PE X a ta)(hb:PE X b tb):PE X (.IfExp c a b pos) (tIf tA ta tb):=by
 intro za s Z H Q I h;refine wpAny_IfExp (zn (hc za s Z H _ I h) fun d s1 ⟨H1,I1,q1⟩=>?_);cases d with
 | true=>exact ha za s1 Z H1 Q I1 q1
 | false=>exact hb za s1 Z H1 Q I1 q1
end
noncomputable def zv(K:W.Frag)(H:Hp)(a:Addr)(xs:List V):Prop :=
 Rd H a (.lst xs) \/
  ∃(o:Obj) (ze:Array Value) (n:Nat),K.lookup a=some o/\o.cls=.type "list" /\ o.dict=none/\o.data=.seq ze n/\ze.size<=sizeLine/\zj xs ze.toList
noncomputable def zt(K:W.Frag)(H:Hp)(a:Addr)(xs:List V):Prop :=
 Rd H a (.tup xs) \/
  ∃(o:Obj) (ze:Array Value) (n:Nat),K.lookup a=some o/\o.cls=.type "tuple" /\ o.dict=none/\o.data=.seq ze n/\ze.size<=sizeLine/\zj xs ze.toList
noncomputable def SH:Value->Option V
 | .none=>some .non
 | .bool b=>some (.bl b)
 | .int i _=>some (.int i)
 | .str x _=>some (.str x)
 | .bytes b _=>some (.byt b)
 | .float b _=>some (.flt b)
 | .ref a=>some (.ref a)
 | .type n=>some (.ty n)
 | _=>none
theorem zi.abs{x:V}(r:zi x u):SH u=some x:=by
 cases x with
 | non=>cases r;rfl
 | bl _=>cases r;rfl
 | int _=>obtain⟨t,rfl⟩:=r;rfl
 | str _=>obtain⟨t,rfl⟩:=r;rfl
 | byt _=>obtain⟨t,rfl⟩:=r;rfl
 | flt _=>obtain⟨t,rfl⟩:=r;rfl
 | ref _=>cases r;rfl
 | ty _=>cases r;rfl
theorem zi.inj{x y:V}(r:zi x u)(q:zi y u):x=y:=Zv (r.abs.symm.trans q.abs)
theorem zj.inj:∀{xs ys:List V} {us:List Value},zj xs us->zj ys us->xs=ys
 | _,_,_,.nil,.nil=>rfl
 | _,_,_,.cons r t,.cons r' t'=>by rw[r.inj r',zj.inj t t']
section
variable {X:Cx}{za:List (Addr × Obj)}{Z:St}{H:Hp}{s:Shared}{a:Addr}{xs ys:List V}
theorem zv.of(h:H a=some (.lst xs)):zv K H a xs:=.inl (.inl h)
theorem zt.of(h:H a=some (.tup xs)):zt K H a xs:=.inl (.inl h)
theorem zg.list(I:zg X za Z H s)(h:zv X.K H a xs):∃ze:List Value,zj xs ze/\PlainL s.heap a ze.toArray/\xs.length<=sizeLine:=by
 rcases h with h | ⟨o,ze,n,hk,hc,hd,hs,hz,r⟩
 ·obtain⟨z,ze,n,r,e⟩:=h.ok I.hok;exact⟨ze,r,⟨_,n,e,rfl,rfl,rfl⟩,z⟩
 ·refine⟨ze.toList,r,⟨o,n,I.kIn a o hk,hc,hd,by simpa using hs⟩,?_⟩;have e:=r.length;simp only[Z8]at e;lia
theorem zg.tuple(I:zg X za Z H s)(h:zt X.K H a xs):∃ze:List Value,zj xs ze/\IsTup s.heap a ze.toArray/\xs.length<=sizeLine:=by
 rcases h with h | ⟨o,ze,n,hk,hc,hdd,hs,hz,r⟩
 ·obtain⟨z,ze,r,p⟩:=h.ok I.hok;exact⟨ze,r,p.tup,z⟩
 ·refine⟨ze.toList,r,⟨o,I.kIn a o hk,hc,n,by simpa using hs⟩,?_⟩;have e:=r.length;simp only[Z8]at e;lia
theorem zg.list_inj(I:zg X za Z H s)(h:zv X.K H a xs)(h':zv X.K H a ys):xs=ys:=by
 obtain⟨ze,r,⟨o,n,e,_,_,d⟩,_⟩:=I.list h;obtain⟨its',r',⟨o',n',e',_,_,d'⟩,_⟩:=I.list h';rw[e]at e';cases e';rw[d]at d';injection d' with d1 _
 have:ze=its':=by simpa using congrArg Array.toList d1
 subst this;exact r.inj r'
theorem zg.tuple_inj(I:zg X za Z H s)(h:zt X.K H a xs)(h':zt X.K H a ys):xs=ys:=by
 obtain⟨ze,r,⟨o,e,_,n,d⟩,_⟩:=I.tuple h;obtain⟨its',r',⟨o',e',_,n',d'⟩,_⟩:=I.tuple h';rw[e]at e';cases e';rw[d]at d';injection d' with d1 _
 have:ze=its':=by simpa using congrArg Array.toList d1
 subst this;exact r.inj r'
end
noncomputable abbrev Cx.wish(X:Cx)(E:Value->Shared->Prop):Cx:={ X with xe:=E }
noncomputable abbrev Cx.nox(X:Cx):Cx:=X.wish fun _ _=>False
theorem Cx.Ok.wish{X:Cx}(ok:X.Ok)(E:Value->Shared->Prop):(X.wish E).Ok :=
 ⟨ok.mod,ok.kind,ok.glob,ok.blt,ok.above,ok.inj,ok.has,ok.cab,ok.hd,ok.frames,ok.stk,ok.exf,ok.bs,ok.bsz,ok.noex,ok.exfs,ok.funs,ok.frf⟩
theorem Cx.Ok.unwish{X:Cx}(ok:(X.wish E).Ok):X.Ok :=
 ⟨ok.mod,ok.kind,ok.glob,ok.blt,ok.above,ok.inj,ok.has,ok.cab,ok.hd,ok.frames,ok.stk,ok.exf,ok.bs,ok.bsz,ok.noex,ok.exfs,ok.funs,ok.frf⟩
section
variable {X:Cx}{za:List (Addr × Obj)}{Z:St}{H:Hp}{s:Shared}{E:Value->Shared->Prop}
theorem zg.wish(I:zg X za Z H s)(E:Value->Shared->Prop):zg (X.wish E) za Z H s:=⟨I.ok.wish E,I.os,I.bare,I.base,I.loc,I.cell,I.free,I.freeC,I.pin,I.hok,I.len⟩
theorem zg.unwish(I:zg (X.wish E) za Z H s):zg X za Z H s:=⟨I.ok.unwish,I.os,I.bare,I.base,I.loc,I.cell,I.free,I.freeC,I.pin,I.hok,I.len⟩
theorem SP.unwish{D:Ends}{f:Flow}{s':Shared}(h:SP (X.wish E) za D f s'):SP X za D f s':=by
 cases f with
 | next=>obtain⟨σ',H',I,q⟩:=h;exact⟨σ',H',I.unwish,q⟩
 | brk=>obtain⟨σ',H',I,q⟩:=h;exact⟨σ',H',I.unwish,q⟩
 | cont=>obtain⟨σ',H',I,q⟩:=h;exact⟨σ',H',I.unwish,q⟩
 | ret u=>obtain⟨v,σ',H',I,r,q⟩:=h;exact⟨v,σ',H',I.unwish,r,q⟩
theorem PSs.nox{st:List Stmt}{t:TS}(h:PSs X.nox st t):PSs X st t:=fun za s Z H D I hw =>
 ZBH (h za s Z H D (I.wish _) hw) (fun _ _ q=>q.unwish) fun _ _ z=>False.elim z
end
section
variable {X:Cx}{st:Stmt}{rest:List Stmt}{t u:TS}{e:Expr}{te:TE}{pos:Pos}
noncomputable def Fj:TS:=fun D Z H=>D.nx Z H
noncomputable def Ik(t u:TS):TS:=fun D Z H=>t { D with nx:=u D } Z H
theorem Aq:PSs X [] Fj:=fun _ _ Z H _ I h=>wpAny_execs_nil ⟨Z,H,I,h⟩
theorem AF(h1:PS X st t)(h2:PSs X rest u):PSs X (st::rest) (Ik t u):=by
 intro za s Z H D I h;refine wpAny_execs_cons (zn (h1 za s Z H { D with nx:=u D } I h) fun f s1 q=>?_);cases f with
 | next =>
  obtain⟨σ',H',I',q⟩:=q;exact h2 za s1 σ' H' D I' q
 | ret v=>exact q
 | brk=>exact q
 | cont=>exact q
theorem AH(h1:PS X st t):PSs X [st] t:=by
 intro za s Z H D I h;refine wpAny_execs_cons (zn (h1 za s Z H D I h) fun f s1 q=>?_);cases f with
 | next=>exact wpAny_execs_nil q
 | ret v=>exact q
 | brk=>exact q
 | cont=>exact q
theorem zg.quiet(I:zg X za Z H s):interactive X.env=false:=by simp[interactive,I.ok.kind]
noncomputable def Lm(te:TE):TS:=fun D Z H=>te Z H fun _ H1=>D.nx Z H1
theorem Ge(he:PE X e te)(hs:swapsWith e none pos.line X.env=pure false:=by rfl):PS X (.Expr e pos) (Lm te):=by
 intro za s Z H D I h;exact wpAny_Expr_any (zn (he za s Z H _ I h) fun v s1 ⟨x,H1,I1,r1,q1⟩=>⟨Z,H1,I1,q1⟩) I.quiet hs
noncomputable def LU(te:TE):TS:=fun D Z H=>te Z H D.rt
theorem AL(he:PE X e te):PS X (.Return (some e) pos) (LU te):=by
 intro za s Z H D I h;exact wpAny_Return_some (zn (he za s Z H _ I h) fun v s1 ⟨x,H1,I1,r1,q1⟩=>⟨x,Z,H1,I1,r1,q1⟩)
noncomputable def Nf(c:TT)(t u:TS):TS:=fun D Z H=>c Z H fun b H1=>if b=true then t D Z H1 else u D Z H1
theorem Ao{c:Expr}{a b:List Stmt}{tc:TT}(hc:PT X c tc)(ha:PSs X a t)(hb:PSs X b u):PS X (.If c a b pos) (Nf tc t u):=by
 intro za s Z H D I h;refine wpAny_If (zn (hc za s Z H _ I h) fun d s1 ⟨H1,I1,q1⟩=>?_);cases d with
 | true=>exact ha za s1 Z H1 D I1 q1
 | false=>exact hb za s1 Z H1 D I1 q1
noncomputable def Yz:TS:=fun _ _ _=>False
theorem Wh:PS X st Yz:=fun _ _ _ _ _ _ h=>h.elim
end
noncomputable abbrev TG:=V->St->Hp->(St->Hp->Prop)->Prop
noncomputable abbrev TGs:=List V->St->Hp->(St->Hp->Prop)->Prop
noncomputable def PG(X:Cx)(target:Expr)(t:TG):Prop :=
 ∀(za:List (Addr × Obj)) (s:Shared) (Z:St) (H:Hp) (v:V) (u:Value) (Q:St->Hp->Prop),zg X za Z H s->zi v u->t v Z H Q ->
  wpAny (model X.prog X.w) X.A (assign target X.env u) (fun _ s'=>∃σ' H',zg X za σ' H' s'/\Q σ' H') X.xe s
noncomputable def PGs(X:Cx)(ts:List Expr)(t:TGs):Prop :=
 ∀(za:List (Addr × Obj)) (s:Shared) (Z:St) (H:Hp) (vs:List V) (us:List Value) (Q:St->Hp->Prop),zg X za Z H s->zj vs us->t vs Z H Q ->
  wpAny (model X.prog X.w) X.A (assignInOrder ((assignEach ts X.env).map (·.2)) us) (fun _ s'=>∃σ' H',zg X za σ' H' s'/\Q σ' H') X.xe s
noncomputable abbrev D3:=V->V->V->Hp->(Hp->Prop)->Prop
noncomputable def Fa(X:Cx)(t:D3):Prop :=
 ∀(za:List (Addr × Obj)) (s:Shared) (Z:St) (H:Hp) (o i v:V) (ov iv u:Value) (Q:Hp->Prop),zg X za Z H s->zi o ov->zi i iv->zi v u->t o i v H Q ->
  wpAny (model X.prog X.w) X.A (setItem ov iv u) (fun _ s'=>∃H',zg X za Z H' s'/\Q H') X.xe s
section
variable {X:Cx}{pos:Pos}
noncomputable def Ak(i:Nat):TG:=fun v Z H Q=>Q (Z.set i (some v)) H
theorem AN(hN:X.N.Nodup)(hi:X.N[i]? = some x)(hx:Loc X.env.scope x)(hf:X.fn x=true\/X.env.scope.names.lookup x=some .local:=by first | exact .inl rfl | exact .inr rfl | assumption):PG X (.Name x pos) (Ak i):=by
 intro za s Z H v u Q I r h;exact wpAny_assign_Name (Nu I hN hi hx r (fun s' I'=>⟨_,H,I',h⟩) hf)
noncomputable def IR:TGs:=fun vs Z H Q=>vs=[]/\Q Z H
noncomputable def Kz(t:TG)(u:TGs):TGs:=fun vs Z H Q=>∃v r,vs=v::r/\t v Z H fun σ' H'=>u r σ' H' Q
theorem Bv:PGs X [] IR:=by
 intro za s Z H vs us Q I r h;obtain⟨e,h⟩:=h;subst e;cases r;exact assignInOrder_nil ⟨Z,H,I,h⟩
theorem Ax {e:Expr} {es:List Expr} {t:TG} {u:TGs} (h1:PG X e t) (h2:PGs X es u)
 (hs:(assignEach (e::es) X.env).map (·.2)=assign e X.env::(assignEach es X.env).map (·.2):=by rfl):PGs X (e::es) (Kz t u):=by
 intro za s Z H vs us Q I r h;obtain⟨v,vr,e1,h⟩:=h;subst e1;cases r with
 | cons r rr =>
  rw[hs];refine assignInOrder_cons (zn (h1 za s Z H _ _ _ I r h) fun _ s1 ⟨σ1,H1,I1,q1⟩=>?_);exact h2 za s1 σ1 H1 _ _ Q I1 rr q1
noncomputable def JY(K:W.Frag)(n:Nat)(t:TGs):TG:=fun v Z H Q=>∃a xs,v=.ref a/\zt K H a xs/\xs.length=n/\t xs Z H Q
theorem NY {es:List Expr} {t:TGs} {n:Nat} (hc:X.calm=true) (h:PGs X es t)
 (hn:(assignEach es X.env).length=n:=by rfl) (hst:(assignEach es X.env).findIdx? (·.1)=none:=by rfl):PG X (.Tuple es k pos) (JY X.K n t):=by
 intro za s Z H v u Q I r hw;obtain⟨a,xs,e1,hq,hl,hw⟩:=hw;subst e1;cases r;obtain⟨ze,rv,ht,hz⟩:=I.tuple hq;refine assign_Tuple_tuple (I.ok.hd hc) ht (by simp[hn,<- hl,rv.length]) hst fun h' hx=>?_
 have I1:zg X za Z H { s with heap:=h' }:=I.kept (t':=s.toks) fun b o e=>hx b o (Zs (Zj e)) e
 exact h za _ Z H xs _ Q I1 (by simpa using rv) hw
noncomputable def LL(to ti:TE)(t:D3):TG:=fun v Z H Q=>to Z H fun o H1=>ti Z H1 fun i H2=>t o i v H2 fun H3=>Q Z H3
theorem Dl {o i:Expr} {to ti:TE} {t:D3} (ho:PE X o to) (hi:PE X i ti) (hs:Fa X t)
 (ha:∀v,assign (.Subscript o i pos) X.env v=(do
   let ov <- holding [v] (eval o X.env);let iv <- holding [v,ov] (eval i X.env)
   standAt pos
   holding [v,ov,iv] (setItem ov iv v)
   release [v,ov,iv] []):=by intro _;rfl):PG X (.Subscript o i pos) (LL to ti t):=by
 intro za s Z H v u Q I r h;rw[ha];refine Zc (ZBA (zn (ho za s Z H _ I h) fun ov s1 ⟨x,H1,I1,r1,q1⟩=>?_));refine Zc (ZBA (zn (hi za s1 Z H1 _ I1 q1) fun iv s2 ⟨y,H2,I2,r2,q2⟩=>?_));refine Zc (ZB8 (Zc (ZBA (zn (hs za s2 Z H2 x y v ov iv u _ I2 r1 r2 r q2) fun _ s3 ⟨H3,I3,q3⟩=>?_))));exact wpAny_release ⟨Z,H3,I3,q3⟩
noncomputable def FE(te:TE)(g:TG):TS:=fun D Z H=>te Z H fun x H1=>g x Z H1 D.nx
theorem DC {tg e:Expr} {te:TE} {g:TG} (he:PE X e te) (hg:PG X tg g) (hs:swapsWithSole [tg] e pos.line X.env=pure false:=by rfl) (hw:swappedStores [tg] e X.env=pure none:=by rfl)
 (h1:(assignEach [tg] X.env).map (·.2)=[assign tg X.env]:=by rfl):PS X (.Assign [tg] e pos) (FE te g):=by
 intro za s Z H D I h;refine wpAny_Assign_stores (zn (he za s Z H _ I h) fun v s1 ⟨x,H1,I1,r1,q1⟩=>?_) hs hw;rw[h1];exact zn (hg za s1 Z H1 x v _ I1 r1 q1) fun _ s2 q=>q
theorem AR{i:Nat}{x:Str}{e:Expr}{te:TE}{pos':Pos}(hN:X.N.Nodup)(hi:X.N[i]? = some x)(hx:Loc X.env.scope x)(he:PE X e te)(hs:swapsWith e (some (.Name x pos')) pos.line X.env=pure false:=by rfl)(hf:X.fn x=true\/X.env.scope.names.lookup x=some .local:=by first | exact .inl rfl | exact .inr rfl | assumption) :
 PS X (.Assign [.Name x pos'] e pos) (FE te (Ak i)):=by
 intro za s Z H D I h;refine wpAny_Assign_Name (zn (he za s Z H _ I h) fun v s1 ⟨y,H1,I1,r1,q1⟩=>?_) hs;exact Nu I1 hN hi hx r1 (fun s2 I2=>⟨_,H1,I2,q1⟩) hf
end
structure It where
 go:Nat->Hp->Prop
 yld:Nat->Hp->V->Hp->Prop
 stop:Nat->Hp->Prop
noncomputable def BJ(X:Cx)(za:List (Addr × Obj))(H:Hp)(b:Addr):Prop :=
 H b=none/\b≠X.env.locals/\b∉X.fs/\(b∈X.ex\/X.s₀.heap.objs.size<=b)/\(∀x c,X.env.cells.lookup x=some c->c≠b)/\∀p∈X.pn++za,p.1≠b
theorem zg.fpOk{X:Cx}{H':Hp}(I:zg X za Z H s)(hb:s.heap.objs.size<=b)(hn:H' b=none):BJ X za H' b:=by
 refine⟨hn,ZBs (Z0 I.lt hb),I.nofs hb,.inr (ZBU I.sz hb),fun x c e z=>?_,fun p hp z=>?_⟩
 ·obtain⟨v,q⟩:=I.cell x c e;exact absurd (Z0 q.lt (by rw[z];exact hb)) (Z2 _)
 ·exact absurd (Z0 (Zj (I.pin p hp).1) (by rw[z];exact hb)) (Z2 _)
structure Turn(P:Program)(w:World)(K:W.Frag)(tg:Expr)(J:It)(fp:List Addr)(it:Addr)(tn:Nat->Heap->Prop):Prop where
 mem:it∈fp
 obj:∀i h,tn i h->∀b∈fp,∃o,h.get? b=some o/\∀v,o.data≠.cell v
 keep:∀i h h',tn i h->(∀b∈fp,∀o,h.get? b=some o->h'.get? b=some o)->tn i h'
 item:∀(X:Cx),X.prog=P->X.w=w->X.K=K->X.calm=true->∀(i:Nat) (za:List (Addr × Obj)) (s:Shared) (Z:St) (H:Hp) (E:Value->Shared->Prop),zg X za Z H s->(∀b∈fp,BJ X za H b)->tn i s.heap->J.go i H ->
  wpAny (model P w) X.A (pyNext (.ref it)) (fun r s1=>∃u,r=some u /\
   wpAny (model P w) X.A (letOwnedTupleGo tg (.ref it) u) (fun _ s2=>∃x H',zg X za Z H' s2/\zi x u/\J.yld i H x H'/\tn (i+1) s2.heap/\∀b∈fp,H' b=none) E s1) E s
 done:∀(X:Cx),X.prog=P->X.w=w->X.K=K->X.calm=true->∀(i:Nat) (za:List (Addr × Obj)) (s:Shared) (Z:St) (H:Hp) (E:Value->Shared->Prop),zg X za Z H s->(∀b∈fp,BJ X za H b)->tn i s.heap->J.stop i H ->
  wpAny (model P w) X.A (pyNext (.ref it)) (fun r s1=>r=none/\zg X za Z H s1) E s
 self:∀(A:Around) (i:Nat) (s:Shared) (Q:Value->Shared->Prop) (E:Value->Shared->Prop),tn i s.heap->Q (.ref it) s->wpAny (model P w) A (pyIter (.ref it)) Q E s
noncomputable abbrev TI:=St->Hp->(It->Hp->Prop)->Prop
noncomputable def PIE(X:Cx)(za:List (Addr × Obj))(Z:St)(tg:Expr)(R:It->Hp->Prop)(itv:Value)(s2:Shared):Prop :=
 ∃(it:Addr) (fp:List Addr) (tn:Nat->Heap->Prop) (J:It) (H':Hp),itv=.ref it/\zg X za Z H' s2/\Turn X.prog X.w X.K tg J fp it tn/\tn 0 s2.heap/\(∀b∈fp,BJ X za H' b)/\R J H'
noncomputable def PI(X:Cx)(tg iter:Expr)(wi:TI):Prop :=
 ∀(za:List (Addr × Obj)) (s:Shared) (Z:St) (H:Hp) (R:It->Hp->Prop),zg X za Z H s->wi Z H R ->
  wpAny (model X.prog X.w) X.A (eval iter X.env) (fun v s1=>wpAny (model X.prog X.w) X.A (pyIter v) (PIE X za Z tg R) X.xe s1) X.xe s
theorem KU {M:Model} {tg:Expr} {it:Addr} {o:Obj} {n:String} {vs:Array Value} {Q:Unit->Shared->Prop} (ho:s.heap.get? it=some o) (hc:o.cls=.type n) (hd:o.data=.fields vs)
 (hn:["enumerate","zip","dict_itemiterator","dict_reverseitemiterator","odict_iterator","itertools.zip_longest","itertools.pairwise"].contains n=false) (hQ:Q () s):wpAny M A (letOwnedTupleGo tg (.ref it) u) Q E s:=by
 unfold letOwnedTupleGo
 cases tg <;> first
  | exact Zd hQ
  | (cases u <;> first
      | exact Zd hQ
      | (refine Zc (wpAny_load ho ?_)
         rw[hc,hd];show wpAny M A (if (["enumerate","zip","dict_itemiterator","dict_reverseitemiterator","odict_iterator","itertools.zip_longest","itertools.pairwise"].contains n && vs[0]? == some (rawInt _))=true then _ else _) Q E s;rw[if_neg (by intro h;rw[hn,ZCH]at h;cases h)];exact Zd hQ))
noncomputable def Itl(K:W.Frag)(a:Addr):It :=
 ⟨fun i H=>∃xs x,zv K H a xs/\xs[i]? = some x,fun i H x H'=>H'=H/\∀xs,zv K H a xs->xs[i]? = some x,fun i H=>∃xs,zv K H a xs/\xs.length<=i⟩
noncomputable def Itt(K:W.Frag)(a:Addr):It :=
 ⟨fun i H=>∃xs x,zt K H a xs/\xs[i]? = some x,fun i H x H'=>H'=H/\∀xs,zt K H a xs->xs[i]? = some x,fun i H=>∃xs,zt K H a xs/\xs.length<=i⟩
noncomputable def Itr(lo:Int)(n:Nat):It:=⟨fun i _=>i < n,fun i H x H'=>H'=H/\x=.int (lo+i),fun i _=>n<=i⟩
theorem XJ{tg:Expr}(a it:Addr):Turn P w K tg (Itl K a) [it] it (fun i h=>h.IsListIter it a i) where
 mem:=by simp
 obj:=fun i h st b hb=>by
  have e:b=it:=by simpa using hb
  subst e;obtain⟨o,e,c,d⟩:=st;exact⟨o,e,fun v z=>by rw[d]at z;cases z⟩
 keep:=fun i h h' st k=>st.at fun o e=>k it (by simp) o e
 item:=by
  intro X hP hw hK hc i za s Z H E I hf st hg;subst hP hw hK;obtain⟨xs,x,hq,hx⟩:=hg;obtain⟨ze,rv,p,hz⟩:=I.list hq;obtain⟨u,hu,ru⟩:=rv.get hx;obtain⟨f0,f1,f2,f3,f4,f5⟩:=hf it (by simp);refine wpAny_pyNext_list_item st p.isList (x:=u) (by simpa using hu) fun h' st' sb=>?_
  have I1:zg X za Z H { s with heap:=h' }:=I.turned (t':=s.toks) (fun b o hb e=>(sb.2 b hb).trans e) f0 f1 f3 f4 f5;obtain⟨o,e,c,d⟩:=id st';exact⟨u,rfl,KU (s:={ s with heap:=h' }) e c d (by decide) ⟨x,H,I1,ru,⟨rfl,fun ys hy=>by rw[I.list_inj hy hq];exact hx⟩,st',fun b hb=>(hf b hb).1⟩⟩
 done:=by
  intro X hP hw hK hc i za s Z H E I hf st hg;subst hP hw hK;obtain⟨xs,hq,hx⟩:=hg;obtain⟨ze,rv,p,hz⟩:=I.list hq;obtain⟨f0,f1,f2,f3,f4,f5⟩:=hf it (by simp);have hl:=rv.length;exact wpAny_pyNext_list_end (I.ok.hd hc) st p.isList (by simp;lia) fun h' eb=>⟨rfl,I.turned (t':=s.toks) (fun b o hb e=>eb b o hb e) f0 f1 f3 f4 f5⟩
 self:=fun _ _ _ _ _ st h=>wpAny_pyIter_listiter st h
theorem US{tg:Expr}(a it:Addr):Turn P w K tg (Itt K a) [it] it (fun i h=>h.IsTupleIter it a i) where
 mem:=by simp
 obj:=fun i h st b hb=>by
  have e:b=it:=by simpa using hb
  subst e;obtain⟨o,e,c,d⟩:=st;exact⟨o,e,fun v z=>by rw[d]at z;cases z⟩
 keep:=fun i h h' st k=>st.at fun o e=>k it (by simp) o e
 item:=by
  intro X hP hw hK hc i za s Z H E I hf st hg;subst hP hw hK;obtain⟨xs,x,hq,hx⟩:=hg;obtain⟨ze,rv,p,hz⟩:=I.tuple hq;obtain⟨u,hu,ru⟩:=rv.get hx;obtain⟨f0,f1,f2,f3,f4,f5⟩:=hf it (by simp);refine wpAny_pyNext_tuple_item st (show s.heap.IsTuple a ze.toArray from p) (x:=u) (by simpa using hu) fun h' st' sb=>?_
  have I1:zg X za Z H { s with heap:=h' }:=I.turned (t':=s.toks) (fun b o hb e=>(sb.2 b hb).trans e) f0 f1 f3 f4 f5;obtain⟨o,e,c,d⟩:=id st';exact⟨u,rfl,KU (s:={ s with heap:=h' }) e c d (by decide) ⟨x,H,I1,ru,⟨rfl,fun ys hy=>by rw[I.tuple_inj hy hq];exact hx⟩,st',fun b hb=>(hf b hb).1⟩⟩
 done:=by
  intro X hP hw hK hc i za s Z H E I hf st hg;subst hP hw hK;obtain⟨xs,hq,hx⟩:=hg;obtain⟨ze,rv,p,hz⟩:=I.tuple hq;obtain⟨f0,f1,f2,f3,f4,f5⟩:=hf it (by simp);have hl:=rv.length;exact wpAny_pyNext_tuple_end (I.ok.hd hc) st (show s.heap.IsTuple a ze.toArray from p) (by simp;lia) fun h' eb=>⟨rfl,I.turned (t':=s.toks) (fun b o hb e=>eb b o hb e) f0 f1 f3 f4 f5⟩
 self:=fun _ _ _ _ _ st h=>wpAny_pyIter_tupleiter st h
theorem UK{tg:Expr}(it:Addr)(lo:Int)(n:Nat):Turn P w K tg (Itr lo n) [it] it (fun i h=>IsRangeIter h it (lo+(i:Nat) * 1) ((n:Int) - (i:Nat)) 1) where
 mem:=by simp
 obj:=fun i h st b hb=>by
  have e:b=it:=by simpa using hb
  subst e
  exact⟨_,st,fun v z=>by
   have z':Data.fields _=Data.cell v:=z;cases z'⟩
 keep:=fun i h h' st k=>k it (by simp) _ st
 item:=by
  intro X hP hw hK hc i za s Z H E I hf st hg;subst hP hw hK;obtain⟨f0,f1,f2,f3,f4,f5⟩:=hf it (by simp);have W:=Walks.range (prog:=X.prog) (w:=X.w) (I.ok.hd hc) it lo 1 n;refine W.item i s _ _ hg st fun v h' tk hv st' kk=>?_
  obtain⟨t,rfl⟩:=hv;have I1:zg X za Z H { s with heap:=h',toks:=tk }:=I.turned (fun b o hb e=>kk b o (by simpa using hb) e) f0 f1 f3 f4 f5;refine⟨_,rfl,KU (s:={ s with heap:=h',toks:=tk }) (n:="range_iterator") st' rfl rfl (by decide) ⟨.int (lo+i),H,I1,⟨t,?_⟩,⟨rfl,rfl⟩,st',fun b hb=>(hf b hb).1⟩⟩;rw[ZCI]
 done:=by
  intro X hP hw hK hc i za s Z H E I hf st hg;subst hP hw hK;obtain⟨f0,f1,f2,f3,f4,f5⟩:=hf it (by simp);exact wpAny_pyNext_range_end (I.ok.hd hc) st (by have:n<=i:=hg;lia) fun h' eb=>⟨rfl,I.turned (t':=s.toks) (fun b o hb e=>eb b o hb e) f0 f1 f3 f4 f5⟩
 self:=fun _ _ _ _ _ st h=>wpAny_pyIter_rangeiter st h
section
variable {X:Cx}{tg:Expr}
theorem OB {R:It->Hp->Prop} {lo hi:Int} {t u v:Tok} {tk:Nat} (I:zg X za Z H s) (h1 : -(2 ^ 62)<=lo) (h2:lo < 2 ^ 62) (h3 : -(2 ^ 62)<=hi) (h4:hi < 2 ^ 62)
 (q:R (Itr lo (hi - lo).toNat) H):wpAny (model X.prog X.w) X.A (pyIter (.ref s.heap.objs.size)) (PIE X za Z tg R) E { s with heap:=s.heap.push { cls:=.type "range",data:=.fields #[.int lo t,.int hi u,.int 1 v] },toks:=tk }:=by
 refine wpAny_pyIter_range (IsRange.new ..) (small_one h1 h2 h3 h4) ?_;have I1:zg X za Z H { s with heap:=s.heap.push { cls:=.type "range",data:=.fields #[.int lo t,.int hi u,.int 1 v] },toks:=tk }:=I.kept fun b o e=>Zi _ e
 refine⟨(s.heap.push { cls:=.type "range",data:=.fields #[.int lo t,.int hi u,.int 1 v] }).objs.size,[(s.heap.push { cls:=.type "range",data:=.fields #[.int lo t,.int hi u,.int 1 v] }).objs.size],_,_,H,rfl,
  I1.kept (t':=tk) fun b o e=>Zi _ e,UK _ lo (hi - lo).toNat,?_,fun b hb=>?_,q⟩
 ·have e1:lo+((0:Nat):Int) * 1=lo:=by simp
  have e2:(((hi - lo).toNat:Nat):Int) - ((0:Nat):Int)=Builtin.Range.rangeSize lo hi 1:=by rw[rangeSize_one];split <;> lia
  show IsRangeIter _ _ (lo+((0:Nat):Int) * 1) ((((hi - lo).toNat:Nat):Int) - ((0:Nat):Int)) 1;rw[e1,e2];exact Zr _ rfl
 ·have e:b=(s.heap.push { cls:=.type "range",data:=.fields #[.int lo t,.int hi u,.int 1 v] }).objs.size:=by simpa using hb
  subst e;exact I1.fpOk (Zf _) (I1.hok.fresh (Zf _))
noncomputable def LH(ta:TA):TI:=fun Z H R=>ta Z H fun vs H1=>∃j:Int,vs=[.int j] /\ -(2 ^ 62)<=j/\j < 2 ^ 62/\R (Itr 0 j.toNat) H1
noncomputable def MF(ta:TA):TI:=fun Z H R=>ta Z H fun vs H1=>∃i j:Int,vs=[.int i,.int j]/\(-(2 ^ 62)<=i/\i < 2 ^ 62 /\ -(2 ^ 62)<=j/\j < 2 ^ 62)/\R (Itr i (j - i).toNat) H1
theorem BP{a:Expr}{ta:TA}{p:Pos}(hg:Gl X "range")(hm:X.mg "range" = none)(ha:PA X [a] ta)(hs:starEach [a] X.env=[(false,eval a X.env)]:=by rfl):PI X tg (.Call (.Name "range" p) [a] [] pos) (LH ta):=by
 intro za s Z H R I h;refine Call_ (CA I hg hm boot_range (PyProof.Rows.callWith_type1 (zn (ha pos za s Z H _ I h) fun us s1 ⟨vs,H1,I1,r1,q1⟩=>?_) hs rfl));obtain⟨j,e,q1,q2,q⟩:=q1;subst e;cases r1 with
 | cons r rr =>
  cases rr;obtain⟨t,rfl⟩:=r;exact call_range_1 (OB I1 (by lia) (by lia) q1 q2 (by simpa using q))
theorem UP{a b:Expr}{ta:TA}{p:Pos}(hg:Gl X "range")(hm:X.mg "range" = none)(ha:PA X [a,b] ta)(hs:starEach [a,b] X.env=[(false,eval a X.env),(false,eval b X.env)]:=by rfl)(hs2:starEach [b] X.env=[(false,eval b X.env)]:=by rfl) :
 PI X tg (.Call (.Name "range" p) [a,b] [] pos) (MF ta):=by
 intro za s Z H R I h;refine Call_ (CA I hg hm boot_range (PyProof.Rows.callWith_type1 (zn (ha pos za s Z H _ I h) fun us s1 ⟨vs,H1,I1,r1,q1⟩=>?_) (by rw[hs,hs2]) (by rw[hs2];rfl)));obtain⟨i,j,e,⟨q1,q2,q3,q4⟩,q⟩:=q1;subst e;cases r1 with
 | cons r rr =>
  cases rr with
  | cons r' rr =>
   cases rr;obtain⟨t,rfl⟩:=r;obtain⟨t',rfl⟩:=r';exact call_range_2 (OB I1 q1 q2 q3 q4 q)
noncomputable def Nq(wi:TI)(g:TG)(tb:TS):TS:=fun D Z H=>wi Z H fun J H1=>∃W:Nat->Nat->St->Hp->Prop,(∃m,W 0 m Z H1)/\∀i m Z H,W i m Z H ->
 (J.stop i H/\D.nx Z H)\/(J.go i H/\∃N:St->Hp->Prop,(∀σ' H',N σ' H'->∃m',m' < m/\W (i+1) m' σ' H')/\∀x H',J.yld i H x H'->g x Z H' fun σ2 H2=>tb { D with nx:=N,ct:=N,bk:=D.nx } σ2 H2)
noncomputable def CI(fp:List Addr)(h:Heap):List (Addr × Obj):=fp.filterMap fun b=>(h.get? b).map fun o=>(b,o)
theorem Cj{fp:List Addr}{o:Obj}(hb:b∈fp)(e:h.get? b=some o):(b,o)∈CI fp h:=ZCd.mpr ⟨b,hb,by rw[e];rfl⟩
theorem K5{fp:List Addr}{p:Addr × Obj}(hp:p∈CI fp h):p.1∈fp/\h.get? p.1=some p.2:=by
 obtain⟨b,hb,e⟩:=ZCd.mp hp;cases q:h.get? b with
 | none=>rw[q]at e;cases e
 | some o =>
  rw[q]at e;have e':(b,o)=p:=Zv e;subst e';exact⟨hb,q⟩
theorem zg.pinned{fp:List Addr}(I:zg X za Z H s)(hf:∀b∈fp,BJ X za H b)(ho:∀b∈fp,∃o,s.heap.get? b=some o/\∀v,o.data≠.cell v):zg X (za++CI fp s.heap) Z H s :=
 I.pins_of fun p hp=>(ZBE.mp hp).elim (fun z=>I.pin p (Zx _ z)) fun z=>by
  obtain⟨hb,e⟩:=K5 z;obtain⟨f0,f1,f2,_⟩:=hf p.1 hb;obtain⟨o,e',d⟩:=ho p.1 hb;rw[e]at e';cases e';exact⟨e,f0,f1,f2,d⟩
theorem zg.unpinned{pl:List (Addr × Obj)}(I:zg X (za++pl) Z H s):zg X za Z H s:=I.pins_of fun p hp=>I.pin p (Zx _ (ZBO _ hp))
theorem Bk {iter:Expr} {body:List Stmt} {wi:TI} {g:TG} {tb:TS} {pos:Pos} (hp:PassesOwn (model X.prog X.w) X.A X.env X.xe) (hc:X.calm=true) (hi:PI X tg iter wi) (hg:PG X tg g) (hb:PSs X body tb)
 (hs:∀x,foldedSetIterable iter X.env x=pure x:=by intro _;rfl):PS X (.For tg iter body [] pos) (Nq wi g tb):=by
 intro za s Z H D I h;refine wpAny_For (zn (hi za s Z H _ I h) fun v s1 h1=>zn h1 fun itv s2 h2=>?_) hs;obtain⟨it,fp,tn,J,H2,e,I2,T,st2,f2,W,⟨m0,w0⟩,turn⟩:=h2;subst e
 -- what stays true of the iterator's objects through the loop
 have stat:∀{H':Hp},(∀b∈fp,H' b=none)->∀b∈fp,BJ X za H' b:=fun hn b hb=>⟨hn b hb,(f2 b hb).2⟩
 refine codeAny_forLoop_any (fun n s'=>∃i σ' H',zg X za σ' H' s'/\tn i s'.heap/\(∀b∈fp,H' b=none)/\W i n σ' H') ?_ m0 ⟨0,Z,H2,I2,st2,fun b hb=>(f2 b hb).1,w0⟩;rintro n s3 ⟨i,σ3,H3,I3,st3,fr3,w3⟩
 rcases turn i n σ3 H3 w3 with ⟨stop,qn⟩ | ⟨go,N,hN,step⟩
 ·refine wpAny_passesOwn hp (zn (T.done X rfl rfl rfl hc i za s3 σ3 H3 X.xe I3 (stat fr3) st3 stop) fun r s4 ⟨hr,I4⟩=>?_);subst hr;exact wpAny_execs_nil ⟨σ3,H3,I4,qn⟩
 ·refine wpAny_passesOwn hp (zn (T.item X rfl rfl rfl hc i za s3 σ3 H3 X.xe I3 (stat fr3) st3 go) fun r s4 ⟨u,hr,h4⟩=>?_);subst hr;refine wpAny_passesOwn hp (zn h4 fun _ s5 ⟨x,H5,I5,r5,y5,st5,fr5⟩=>?_);have I5':=I5.pinned (stat fr5) (T.obj _ _ st5);refine wpAny_passesOwn hp (zn (hg _ s5 σ3 H5 x u _ I5' r5 (step x H5 y5)) fun _ s6 ⟨σ6,H6,I6,q6⟩=>?_);refine wpAny_passesOwn hp (zn (hb _ s6 σ6 H6 _ I6 q6) fun f s7 q7=>?_)
  have again:∀{σ7:St} {H7:Hp},zg X (za++CI fp s5.heap) σ7 H7 s7->N σ7 H7->∃m,m < n/\∃i σ' H',zg X za σ' H' s7/\tn i s7.heap/\(∀b∈fp,H' b=none)/\W i m σ' H':=fun {σ7 H7} I7 n7=>by
   obtain⟨m',hm,w7⟩:=hN σ7 H7 n7;refine⟨m',hm,i+1,σ7,H7,I7.unpinned,T.keep _ _ _ st5 fun b hb o e=>(I7.pin (b,o) (Zx _ (Zx _ (Cj hb e)))).1,fun b hb=>?_,w7⟩;obtain⟨o,e,d⟩:=T.obj _ _ st5 b hb;exact(I7.pin (b,o) (Zx _ (Zx _ (Cj hb e)))).2.1
  cases f with
  | next=>obtain⟨σ7,H7,I7,n7⟩:=q7;exact again I7 n7
  | cont=>obtain⟨σ7,H7,I7,n7⟩:=q7;exact again I7 n7
  | brk=>obtain⟨σ7,H7,I7,q7⟩:=q7;exact⟨σ7,H7,I7.unpinned,q7⟩
  | ret v=>obtain⟨x7,σ7,H7,I7,r7,q7⟩:=q7;exact⟨x7,σ7,H7,I7.unpinned,r7,q7⟩
end
theorem NC {xs:List V} {g:TG} {tb:TS} {D:Ends} (Pv:Nat->St->Hp->Prop) (h0:Pv 0 Z H) (hl:∀i Z H,i<=xs.length->Pv i Z H->zv K H a xs)
 (hs:∀i x Z H,xs[i]? = some x->Pv i Z H->g x Z H fun σ2 H2=>tb { D with nx:=Pv (i+1),ct:=Pv (i+1),bk:=D.nx } σ2 H2) (hd:∀Z H,Pv xs.length Z H->D.nx Z H) :
 ∃W:Nat->Nat->St->Hp->Prop,(∃m,W 0 m Z H)/\∀i m Z H,W i m Z H ->
  ((Itl K a).stop i H/\D.nx Z H)\/((Itl K a).go i H/\∃N:St->Hp->Prop,(∀σ' H',N σ' H'->∃m',m' < m/\W (i+1) m' σ' H')/\∀x H',(Itl K a).yld i H x H'->g x Z H' fun σ2 H2=>tb { D with nx:=N,ct:=N,bk:=D.nx } σ2 H2):=by
 refine⟨fun i m Z H=>m=xs.length - i/\i<=xs.length/\Pv i Z H,⟨xs.length,by simp,Zu _,h0⟩,?_⟩;rintro i m Z H ⟨rfl,hi,p⟩;have q:=hl i Z H hi p
 by_cases zm:i < xs.length
 ·refine .inr ⟨⟨xs,xs[i],q,by simp[zm]⟩,Pv (i+1),fun σ' H' p'=>⟨xs.length - (i+1),by lia,rfl,zm,p'⟩,fun x H' y=>?_⟩;obtain⟨e,y⟩:=y;subst e;exact hs i x Z _ (y xs q) p
 ·have e:i=xs.length:=by lia
  subst e;exact .inl ⟨⟨xs,q,Zf _⟩,hd Z H p⟩
theorem IZ {xs:List V} {g:TG} {tb:TS} {D:Ends} (Pv:Nat->St->Hp->Prop) (h0:Pv 0 Z H) (hl:∀i Z H,i<=xs.length->Pv i Z H->zt K H a xs)
 (hs:∀i x Z H,xs[i]? = some x->Pv i Z H->g x Z H fun σ2 H2=>tb { D with nx:=Pv (i+1),ct:=Pv (i+1),bk:=D.nx } σ2 H2) (hd:∀Z H,Pv xs.length Z H->D.nx Z H) :
 ∃W:Nat->Nat->St->Hp->Prop,(∃m,W 0 m Z H)/\∀i m Z H,W i m Z H ->
  ((Itt K a).stop i H/\D.nx Z H)\/((Itt K a).go i H/\∃N:St->Hp->Prop,(∀σ' H',N σ' H'->∃m',m' < m/\W (i+1) m' σ' H')/\∀x H',(Itt K a).yld i H x H'->g x Z H' fun σ2 H2=>tb { D with nx:=N,ct:=N,bk:=D.nx } σ2 H2):=by
 refine⟨fun i m Z H=>m=xs.length - i/\i<=xs.length/\Pv i Z H,⟨xs.length,by simp,Zu _,h0⟩,?_⟩;rintro i m Z H ⟨rfl,hi,p⟩;have q:=hl i Z H hi p
 by_cases zm:i < xs.length
 ·refine .inr ⟨⟨xs,xs[i],q,by simp[zm]⟩,Pv (i+1),fun σ' H' p'=>⟨xs.length - (i+1),by lia,rfl,zm,p'⟩,fun x H' y=>?_⟩;obtain⟨e,y⟩:=y;subst e;exact hs i x Z _ (y xs q) p
 ·have e:i=xs.length:=by lia
  subst e;exact .inl ⟨⟨xs,q,Zf _⟩,hd Z H p⟩
theorem C7 {lo:Int} {n:Nat} {g:TG} {tb:TS} {D:Ends} (Pv:Nat->St->Hp->Prop) (h0:Pv 0 Z H)
 (hs:∀i Z H,i < n->Pv i Z H->g (.int (lo+i)) Z H fun σ2 H2=>tb { D with nx:=Pv (i+1),ct:=Pv (i+1),bk:=D.nx } σ2 H2) (hd:∀Z H,Pv n Z H->D.nx Z H) :
 ∃W:Nat->Nat->St->Hp->Prop,(∃m,W 0 m Z H)/\∀i m Z H,W i m Z H ->
  ((Itr lo n).stop i H/\D.nx Z H)\/((Itr lo n).go i H/\∃N:St->Hp->Prop,(∀σ' H',N σ' H'->∃m',m' < m/\W (i+1) m' σ' H')/\∀x H',(Itr lo n).yld i H x H'->g x Z H' fun σ2 H2=>tb { D with nx:=N,ct:=N,bk:=D.nx } σ2 H2):=by
 refine⟨fun i m Z H=>m=n - i/\i<=n/\Pv i Z H,⟨n,by simp,Zu _,h0⟩,?_⟩;rintro i m Z H ⟨rfl,hi,p⟩
 by_cases zm:i < n
 ·refine .inr ⟨zm,Pv (i+1),fun σ' H' p'=>⟨n - (i+1),by lia,rfl,zm,p'⟩,fun x H' y=>?_⟩;obtain⟨e,y⟩:=y;subst e y;exact hs i Z _ zm p
 ·have e:i=n:=by lia
  subst e;exact .inl ⟨Zf _,hd Z H p⟩
noncomputable abbrev R2:=V->V->Hp->VK->Prop
noncomputable def zy(X:Cx)(f:Value->Value->Sem Value)(r:R2):Prop :=
 ∀(za:List (Addr × Obj)) (s:Shared) (Z:St) (H:Hp) (x y:V) (v u:Value) (Q:VK),zg X za Z H s->zi x v->zi y u->r x y H Q ->
  wpAny (model X.prog X.w) X.A (f v u) (EP X za Z Q) X.xe s
noncomputable def UnR(X:Cx)(f:Value->Sem Value)(r:V->Hp->VK->Prop):Prop :=
 ∀(za:List (Addr × Obj)) (s:Shared) (Z:St) (H:Hp) (x:V) (v:Value) (Q:VK),zg X za Z H s->zi x v->r x H Q ->
  wpAny (model X.prog X.w) X.A (f v) (EP X za Z Q) X.xe s
noncomputable def CallR(X:Cx)(f:Value)(r:List V->Hp->VK->Prop):Prop :=
 ∀(za:List (Addr × Obj)) (s:Shared) (Z:St) (H:Hp) (xs:List V) (us:List Value) (Q:VK),zg X za Z H s->zj xs us->r xs H Q ->
  wpAny (model X.prog X.w) X.A (call f us) (EP X za Z Q) X.xe s
noncomputable def tOp(r:R2)(ta tb:TE):TE:=fun Z H Q=>ta Z H fun x H1=>tb Z H1 fun y H2=>r x y H2 Q
noncomputable def tUn(r:V->Hp->VK->Prop)(ta:TE):TE:=fun Z H Q=>ta Z H fun x H1=>r x H1 Q
noncomputable def rI(C:Int->Int->Prop)(g:Int->Int->V):R2:=fun x y H Q=>∃i j,x=.int i/\y=.int j/\C i j/\Q (g i j) H
noncomputable def rI0(g:Int->Int->V):R2:=fun x y H Q=>∃i j,x=.int i/\y=.int j/\Q (g i j) H
noncomputable def rU(g:Int->V):V->Hp->VK->Prop:=fun x H Q=>∃i,x=.int i/\Q (g i) H
section
variable {X:Cx}{a b c:Expr}{ta tb tc:TE}{pos:Pos}
theorem KQ (ha:PE X a ta) (hb:PE X b tb) {R:V->V->Hp->Prop} (I:zg X za Z H s)
 (h:ta Z H fun x H1=>tb Z H1 fun y H2=>R x y H2) {f:Value->Value->Sem Value}
 (hf:∀v u s2 x y H2,zg X za Z H2 s2->zi x v->zi y u->R x y H2->wpAny (model X.prog X.w) X.A (f v u) Q X.xe s2) :
 wpAny (model X.prog X.w) X.A (eval a X.env) (fun v s₁=>wpAny (model X.prog X.w) X.A (eval b X.env) (fun u s₂=>wpAny (model X.prog X.w) X.A (f v u) Q X.xe s₂) X.xe s₁) X.xe s:=by
 refine zn (ha za s Z H _ I h) fun v s1 ⟨x,H1,I1,r1,q1⟩=>?_
 refine zn (hb za s1 Z H1 _ I1 q1) fun u s2 ⟨y,H2,I2,r2,q2⟩=>?_
 exact hf v u s2 x y H2 I2 r1 r2 q2
theorem AU{op:Operator}{r:R2}(ho:zy X (binaryOp op) r)(ha:PE X a ta)(hb:PE X b tb):PE X (.BinOp a op b pos) (tOp r ta tb):=by
 intro za s Z H Q I h;exact wpAny_BinOp (KQ ha hb I h fun v u s2 x y H2 I2 rx ry q=>ho za s2 Z H2 x y v u Q I2 rx ry q)
theorem Gg{op:UnaryOp}{r:V->Hp->VK->Prop}(ho:UnR X (unaryOp op) r)(ha:PE X a ta):PE X (.UnaryOp op a pos) (tUn r ta):=by
 intro za s Z H Q I h;exact UnaryOp_ (zn (ha za s Z H _ I h) fun v s1 ⟨x,H1,I1,r1,q1⟩=>ho za s1 Z H1 x v Q I1 r1 q1)
theorem opI {f:Value->Value->Sem Value} {C:Int->Int->Prop} {g:Int->Int->Int}
 (rule:∀(i j:Int) (t u:Tok) (s:Shared) (Q:Value->Shared->Prop) (E:Value->Shared->Prop),C i j->Q (.int (g i j) s.toks) { s with toks:=s.toks+1 } -> wpAny (model X.prog X.w) X.A (f (.int i t) (.int j u)) Q E s) :
 zy X f (rI C fun i j=>.int (g i j)):=by
 intro za s Z H x y v u Q I rx ry h;obtain⟨i,j,rfl,rfl,hc,q⟩:=h;obtain⟨t,rfl⟩:=rx;obtain⟨t',rfl⟩:=ry;exact rule i j t t' s _ _ hc ⟨.int (g i j),H,I.tok _,⟨_,rfl⟩,q⟩
theorem HP {f:Value->Value->Sem Value} {g:Int->Int->Int}
 (rule:∀(i j:Int) (t u:Tok) (s:Shared) (Q:Value->Shared->Prop) (E:Value->Shared->Prop),Q (.int (g i j) s.toks) { s with toks:=s.toks+1 } -> wpAny (model X.prog X.w) X.A (f (.int i t) (.int j u)) Q E s) :
 zy X f (rI0 fun i j=>.int (g i j)):=by
 intro za s Z H x y v u Q I rx ry h;obtain⟨i,j,rfl,rfl,q⟩:=h;obtain⟨t,rfl⟩:=rx;obtain⟨t',rfl⟩:=ry;exact rule i j t t' s _ _ ⟨.int (g i j),H,I.tok _,⟨_,rfl⟩,q⟩
theorem HA {f:Value->Value->Sem Value} {g:Int->Int->Bool}
 (rule:∀(i j:Int) (t u:Tok) (s:Shared) (Q:Value->Shared->Prop) (E:Value->Shared->Prop),Q (.bool (g i j)) s->wpAny (model X.prog X.w) X.A (f (.int i t) (.int j u)) Q E s) :
 zy X f (rI0 fun i j=>.bl (g i j)):=by
 intro za s Z H x y v u Q I rx ry h;obtain⟨i,j,rfl,rfl,q⟩:=h;obtain⟨t,rfl⟩:=rx;obtain⟨t',rfl⟩:=ry;exact rule i j t t' s _ _ ⟨.bl (g i j),H,I,rfl,q⟩
noncomputable def MV(i j:Int):Prop:=0<=j/\j<=1000000/\i.natAbs < 2 ^ 64
noncomputable def CMul(i j:Int):Prop:=(-(2 ^ 64) < i/\i < 2 ^ 64)\/(-(2 ^ 64) < j/\j < 2 ^ 64)
theorem CMul.ok{i j:Int}(h:CMul i j):IntMulOk i j:=by
 rcases h with ⟨h1,h2⟩ | ⟨h1,h2⟩
 ·exact .of_left (intBits_le_64 h1 h2)
 ·exact .of_right (intBits_le_64 h1 h2)
theorem Xy:zy X (binaryOp .Add) (rI0 fun i j=>.int (i+j)):=HP fun _ _ _ _ _ _ _ q=>add_int q
theorem VP:zy X (binaryOp .Sub) (rI0 fun i j=>.int (i - j)):=HP fun _ _ _ _ _ _ _ q=>sub_int q
theorem WO:zy X (binaryOp .Mod) (rI (fun _ j=>0 < j) fun i j=>.int (i % j)):=opI fun i j _ _ _ _ _ hc q=>by
 have h1:(0:Int) < j:=hc;exact mod_int' (by lia) (by rw[Int.fmod_eq_emod_of_nonneg i (by lia)];exact q)
theorem VB:zy X (binaryOp .Pow) (rI MV fun i j=>.int (i ^ j.toNat)):=opI fun _ _ _ _ _ _ _ hc q=>pow_int_small hc.1 hc.2.1 hc.2.2 q
theorem SG:zy X (binaryOp .BitAnd) (rI0 fun i j=>.int (Builtin.bitAnd i j)):=HP fun _ _ _ _ _ _ _ q=>and_int q
theorem YK:zy X (binaryOp .BitOr) (rI0 fun i j=>.int (Builtin.bitOr i j)):=HP fun _ _ _ _ _ _ _ q=>or_int q
theorem unI {f:Value->Sem Value} {g:Int->Int}
 (rule:∀(i:Int) (t:Tok) (s:Shared) (Q:Value->Shared->Prop) (E:Value->Shared->Prop),Q (.int (g i) s.toks) { s with toks:=s.toks+1 } -> wpAny (model X.prog X.w) X.A (f (.int i t)) Q E s) :
 UnR X f (rU fun i=>.int (g i)):=by
 intro za s Z H x v Q I rx h;obtain⟨i,rfl,q⟩:=h;obtain⟨t,rfl⟩:=rx;exact rule i t s _ _ ⟨.int (g i),H,I.tok _,⟨_,rfl⟩,q⟩
theorem P7:UnR X (unaryOp .USub) (rU fun i=>.int (-i)):=unI fun _ _ _ _ _ q=>neg_int q
end
section
variable {X:Cx}{a b c:Expr}{ta tb tc:TE}{pos:Pos}
theorem W3{Q:VK}{k k':Bool}(I:zg X za Z H s)(q:Q (.bl k) H)(e:k=k'):EP X za Z Q (.bool k') s:=by
 subst e;exact⟨.bl k,H,I,rfl,q⟩
theorem YM:zy X (compareOp .Lt) (rI0 fun i j=>.bl (decide (i < j))):=HA fun _ _ _ _ _ _ _ q=>lt_int q
theorem U2:zy X (compareOp .LtE) (rI0 fun i j=>.bl (decide (i<=j))):=HA fun _ _ _ _ _ _ _ q=>le_int q
theorem SU:zy X (compareOp .Gt) (rI0 fun i j=>.bl (decide (j < i))):=HA fun _ _ _ _ _ _ _ q=>gt_int q
theorem VZ:zy X (compareOp .GtE) (rI0 fun i j=>.bl (decide (j<=i))):=HA fun _ _ _ _ _ _ _ q=>ge_int q
theorem Ri:zy X (compareOp .IsNot) (fun x y H Q=>y=.non/\Q (.bl (!decide (x=.non))) H):=by
 intro za s Z H x y v u Q I rx ry h;obtain⟨rfl,q⟩:=h;cases ry;refine isnot_none_gen (W3 I q ?_)
 cases x <;> first
  | (cases rx;rfl)
  | (obtain⟨t,rfl⟩:=rx;rfl)
theorem Wa{op:CmpOp}{r:R2}(ho:zy X (compareOp op) r)(ha:PE X a ta)(hb:PE X b tb)(hm:behindInMarks op b=false):PE X (.Compare a [op] [b] pos) (tOp r ta tb):=by
 intro za s Z H Q I h;exact wpAny_Compare1 (KQ ha hb I h fun v u s2 x y H2 I2 rx ry q=>ho za s2 Z H2 x y v u Q I2 rx ry q) hm
theorem FX:(sizeLine:Nat) < 2 ^ 63:=by rw[sizeLine_eq];decide
theorem WL:zy X (binaryOp .Add) (fun x y H Q=>∃i j,x=.str i/\y=.str j/\i.length+j.length<=sizeLine/\Q (.str (i++j)) H):=by
 intro za s Z H x y v u Q I rx ry h;obtain⟨i,j,rfl,rfl,hz,q⟩:=h;obtain⟨t,rfl⟩:=rx;obtain⟨t',rfl⟩:=ry;exact add_str (fun t' tk=>⟨.str (i++j),H,I.tok _,⟨_,rfl⟩,q⟩) hz
theorem BO{x:V}(r:zj [x] us):∃u,us=[u]/\zi x u:=by
 cases r with
 | cons r1 r2=>cases r2;exact⟨_,rfl,r1⟩
theorem FJ{x y:V}(r:zj [x,y] us):∃u w',us=[u,w']/\zi x u/\zi y w':=by
 cases r with
 | cons r1 r2 =>
  cases r2 with
  | cons r3 r4=>cases r4;exact⟨_,_,rfl,r1,r3⟩
theorem QZ(hc:X.calm=true):CallR X (.builtin "max") (fun xs H Q=>∃i j,xs=[.int i,.int j]/\Q (.int (if j > i then j else i)) H):=by
 intro za s Z H xs us Q I r h;obtain⟨i,j,rfl,q⟩:=h;obtain⟨u,w',rfl,⟨t,rfl⟩,⟨t',rfl⟩⟩:=FJ r;refine max_two_ints (I.ok.hd hc) fun h' tk k=>⟨_,H,I.kept k,?_,q⟩
 by_cases hj:j > i
 ·rw[if_pos hj,if_pos hj];exact⟨_,rfl⟩
 ·rw[if_neg hj,if_neg hj];exact⟨_,rfl⟩
theorem call_int1:CallR X (.type "int") (fun xs H Q=>(∃i,xs=[.int i]/\Q (.int i) H)\/∃k,xs=[.bl k]/\Q (.int (if k then 1 else 0)) H):=by
 intro za s Z H xs us Q I r h
 rcases h with ⟨i,rfl,q⟩ | ⟨k,rfl,q⟩
 ·obtain⟨u,rfl,t,rfl⟩:=BO r;exact call_int_int ⟨.int i,H,I,⟨_,rfl⟩,q⟩
 ·obtain⟨u,rfl,r1⟩:=BO r;cases r1;exact call_int_bool ⟨.int (if k then 1 else 0),H,I.tok _,⟨_,rfl⟩,q⟩
noncomputable def Nn(K:W.Frag)(x:V)(H:Hp)(n:Nat):Prop :=
 match x with
 | .str y=>y.length<=sizeLine/\n=y.length
 | .byt y=>y.size<=sizeLine/\n=y.size
 | .ref p=>(∃xs,zv K H p xs/\n=xs.length)\/∃xs,zt K H p xs/\n=xs.length
 | _=>False
theorem call_len:CallR X (.builtin "len") (fun xs H Q=>∃x n,xs=[x]/\Nn X.K x H n/\Q (.int n) H):=by
 intro za s Z H xs us Q I r h;obtain⟨x,n,rfl,e,q⟩:=h;obtain⟨u,rfl,rx⟩:=BO r;have hl:=FX;have hs:sizeLine=16777216:=sizeLine_eq;cases x with
 | str y =>
  obtain⟨t,rfl⟩:=rx;obtain⟨hy,e'⟩:y.length<=sizeLine/\n=y.length:=e;subst e';exact len_str (by lia) ⟨.int _,H,I.tok _,⟨_,rfl⟩,q⟩
 | byt y =>
  obtain⟨t,rfl⟩:=rx;obtain⟨hy,e'⟩:y.size<=sizeLine/\n=y.size:=e;subst e';exact PySem.W.len_bytes (by lia) ⟨.int _,H,I.tok _,⟨_,rfl⟩,q⟩
 | ref p =>
  cases rx;have e':(∃xs,zv X.K H p xs/\n=xs.length)\/∃xs,zt X.K H p xs/\n=xs.length:=e
  rcases e' with ⟨xs,hx,e'⟩ | ⟨xs,hx,e'⟩
  ·subst e';obtain⟨ze,r',pl,hz⟩:=I.list hx;have zk:=r'.length;exact Calls.call_len_list pl.isList (by simp only[Zo];lia) ⟨.int xs.length,H,I.tok _,⟨_,by simp only[Zo];rw[zk]⟩,q⟩
  ·subst e';obtain⟨ze,r',pl,hz⟩:=I.tuple hx;have zk:=r'.length;exact len_tuple pl (by simp only[Zo];lia) ⟨.int xs.length,H,I.tok _,⟨_,by simp only[Zo];rw[zk]⟩,q⟩
 | _=>exact(show False from e).elim
end
structure ObjM(h:Heap)(x dx C:Addr)(mA:Str->Option Value):Prop where
 obj:h.get? x=some (PySem.W.instObj C dx)
 ns:h.Ns1 dx mA
 ne:dx≠x
theorem X4{dx:Addr}{mA:Str->Option Value}(n:h.Ns1 dx mA):∃od,h.get? dx=some od/\∀name,PySem.W.lookIn name od=some (mA name):=by
 obtain⟨o,es,ep,ho,hd,hk,_,hm⟩:=n;refine⟨o,ho,fun name=>?_⟩;have e:=hm name;unfold nsFind findBy at e;rw[<- Array.find?_toList]at e;unfold PySem.W.lookIn;rw[hd];dsimp only;split
 ·rename_i y q;rw[q]at e;exact congrArg some e
 ·rename_i q;rw[q]at e
  have a:es.toList.any (·.refKey)=false:=by
   rw[List.any_eq_false];intro y hy;obtain⟨z,t,hkey⟩:=hk y (Array.mem_toList_iff.mp hy);simp[DictEntry.refKey,hkey]
  have a':¬es.toList.any (·.refKey)=true:=by rw[a];exact ZBF
  rw[if_neg a'];exact congrArg some e
theorem ObjM.look{x dx:Addr}{mA:Str->Option Value}(I:ObjM h x dx C mA):∃od,PySem.W.InstAt h x (PySem.W.instObj C dx) C (some od)/\∀name,PySem.W.lookIn name od=some (mA name) :=
 let ⟨od,ho,hl⟩:=X4 I.ns
 ⟨od,⟨I.obj,rfl,rfl,ho⟩,hl⟩
section
variable {prog:Program}{w:World}{A:Around}{E:Value->Shared->Prop}{s:Shared}{K:W.Frag}{x dx C f:Addr}{mA:Str->Option Value}{name:Str}{v:Value}
theorem ZH {expr:Bool} (X:K.In s.heap) (I:ObjM s.heap x dx C mA) (hg:PySem.W.plainGet K C name=true) (hh:PySem.W.hasDictIn K C=true)
 (ha:PySem.W.findIn K (.ref C) name=some none) (hv:mA name=some v) (hv':PySem.W.handedIn v=true) (h:Q v { s with toks:=s.toks+1 }) :
 wpAny (model prog w) A (getAttr (.ref x) name expr) Q E s:=by
 obtain⟨od,J,hl⟩:=I.look;exact PySem.W.get_value X J (PySem.W.plainGet_of hg).1 (PySem.W.findObj_own hh ha rfl (by rw[hl,hv])) hv' h
theorem YU {pl:Sem Bool} {Q:Value × List Value->Shared->Prop} (X:K.In s.heap) (I:ObjM s.heap x dx C mA) (hg:PySem.W.plainGet K C name=true)
 (hf:PySem.W.findIn K (.ref C) name=some (some (.ref f))) (ht:PySem.W.isFn K (.ref f)=true) (hv:mA name=none) (h:Q (.ref f,[.ref x]) s) :
 wpAny (model prog w) A (getMethod (.ref x) name pl) Q E s:=by
 obtain⟨od,J,hl⟩:=I.look;exact PySem.W.method_fn X J (PySem.W.plainGet_of hg).1 (PySem.W.plainGet_of hg).2 hf (beq_iff_eq.mp ht) (by show(PySem.W.lookIn name od).map (·.isSome)=some false;rw[hl,hv];rfl) h
theorem WK {ns:List Str} {Q:Unit->Shared->Prop} (X:K.In s.heap) (I:ObjM s.heap x dx C mA)
 (hs:PySem.W.findIn K (.ref C) "__setattr__" = some (some (.builtin "object.__setattr__"))) (hp:PySem.W.plainOver K C=true) (ht:PySem.W.takerIn K C name=some none) (hh:PySem.W.hasDictIn K C=true)
 (hw:PySem.Within mA ns) (hsz:ns.length<=sizeLine)
 (h:∀h',ObjM h' x dx C (fun y=>if y=name then some v else mA y)->Heap.SameBut dx s.heap h'->Q () { s with heap:=h',toks:=s.toks+2 }) :
 wpAny (model prog w) A (setAttr (.ref x) name v) Q E s:=by
 obtain⟨od,J,hl⟩:=I.look;refine PySem.W.set_plain X J hs (PySem.W.osa_open (s:={ s with toks:=s.toks+1 }) (r:=none) X J hp ht fun b=>?_);obtain⟨cd,hc,hd'⟩:=PySem.W.any_some hh;have hx:s.heap.get? x=some ⟨.ref C,some dx,.plain,#[]⟩:=I.obj;refine Zc (Zd (Zc (Zc (wpAny_loadPart hx (Zc (PySem.W.Looks.here (s:={ s with toks:=s.toks+1 }) (PySem.W.looks_clsIn X hc) ?_))))));rw[hd'];refine Zd (a:=some dx) (Zc (Zd (Zc ?_)));refine wpAny_nsSet1 (s:={ s with toks:=s.toks+1 }) I.ns fun h' hn2 hs2=>?_
 obtain⟨oD,esD,epD,hoD,hdD,hcD⟩:=hn2.count (PySem.Within.cons name v hw);refine Zc (wpAny_lookBehind hoD (by rw[hdD];exact pastItsLine_dict (ZBU hcD (by rw[ZBN];lia))) ?_);exact Zd (h _ ⟨(hs2.2 _ (Ne.symm I.ne)).trans I.obj,hn2,I.ne⟩ hs2)
theorem ZQ {R:Result->Shared->Prop} {vs:List Value} {kw:List (Str × Value)} (X:K.In s.heap) (hm:PySem.W.makesIn K C=true)
 (hi:PySem.W.findIn K (.ref C) "__init__" = some (some (.ref f))) (hf:PySem.W.typeIn K (.ref f)=some (.type "function"))
 (h:codeAny (model prog w) (A.under (.builtin "type.__call__" ⟨.ref C::vs,kw⟩)) (.call (.ref f) ⟨.ref (s.heap.objs.size+1)::vs,kw⟩) (PySem.W.InitBack (s.heap.objs.size+1) R)
   { s with heap:=(s.heap.push PySem.W.emptyDict).push (PySem.W.instObj C s.heap.objs.size) }) :
 codeAny (model prog w) A (.call (.ref C) ⟨vs,kw⟩) R s:=by
 obtain⟨hh,g,d,t,os⟩:=s;exact PySem.W.make_core (PySem.W.makes_of X hm) (PySem.W.looks_findIn X hi) (fun self=>PySem.W.bind_fn X self hf) (.inl rfl) h
end
noncomputable def AW(f:Str)(v:V):List (Str × V)->List (Str × V)
 | []=>[(f,v)]
 | (g,x)::r=>if g=f then (g,v)::r else (g,x)::AW f v r
theorem N3(f g:Str)(v:V):∀fs:List (Str × V),(AW f v fs).lookup g=if g=f then some v else fs.lookup g
 | []=>by
  show List.lookup g [(f,v)]=_
  by_cases h:g=f
  ·have hb:(g == f)=true:=beq_iff_eq.mpr h;simp only[List.lookup,hb,if_pos h]
  ·have hb:(g == f)=false:=beq_eq_false_iff_ne.mpr h;simp only[List.lookup,hb,if_neg h]
 | (k,x)::r=>by
  have ih:=N3 f g v r;rw[show AW f v ((k,x)::r)=(if k=f then (k,v)::r else (k,x)::AW f v r) from rfl]
  by_cases hk:k=f
  ·rw[if_pos hk]
   by_cases h:g=k
   ·have hb:(g == k)=true:=beq_iff_eq.mpr h;simp only[List.lookup,hb,if_pos (h.trans hk)]
   ·have hb:(g == k)=false:=beq_eq_false_iff_ne.mpr h;simp only[List.lookup,hb,if_neg (fun e:g=f=>h (e.trans hk.symm))]
  ·rw[if_neg hk]
   by_cases h:g=k
   ·have hb:(g == k)=true:=beq_iff_eq.mpr h;simp only[List.lookup,hb,if_neg (fun e:g=f=>hk (h.symm.trans e))]
   ·have hb:(g == k)=false:=beq_eq_false_iff_ne.mpr h;simp only[List.lookup,hb];exact ih
theorem Ir(f:Str)(v:V):∀fs:List (Str × V),f∈(AW f v fs).map (·.1)/\∀g,g∈fs.map (·.1)->g∈(AW f v fs).map (·.1)
 | []=>⟨by simp[AW],fun g h=>by simp at h⟩
 | (k,x)::r=>by
  obtain⟨i1,i2⟩:=Ir f v r;rw[show AW f v ((k,x)::r)=(if k=f then (k,v)::r else (k,x)::AW f v r) from rfl]
  by_cases hk:k=f
  ·rw[if_pos hk];subst hk;exact⟨by simp,fun g h=>by simpa using h⟩
  ·rw[if_neg hk];refine⟨?_,fun g h=>?_⟩
   ·rw[Z5];exact Zz _ i1
   ·rw[Z5]at h ⊢
    rcases Zh.mp h with e | e
    ·exact Zh.mpr (.inl e)
    ·exact Zz _ (i2 g e)
theorem K8(f:Str)(v:V):∀fs:List (Str × V),(AW f v fs).length<=fs.length+1
 | []=>by simp[AW]
 | (k,x)::r=>by
  have ih:=K8 f v r;rw[show AW f v ((k,x)::r)=(if k=f then (k,v)::r else (k,x)::AW f v r) from rfl]
  by_cases hk:k=f
  ·rw[if_pos hk,ZBN,ZBN];lia
  ·rw[if_neg hk,ZBN,ZBN];lia
theorem RelO.some_of{o:Option Value}(r:RelO (some v) o):∃u,o=some u/\zi v u:=by
 cases o with
 | none=>exact(show False from r).elim
 | some u=>exact⟨u,rfl,r⟩
theorem RelO.none_of{o:Option Value}(r:RelO none o):o=none:=by
 cases o with
 | none=>rfl
 | some u=>exact(show False from r).elim
theorem ZK(r:zi v u):PySem.W.handedIn u=true:=by
 cases v with
 | non=>cases (show u=Value.none from r);rfl
 | bl b=>cases (show u=Value.bool b from r);rfl
 | int i=>obtain⟨t,e⟩:=(show ∃t,u=Value.int i t from r);cases e;rfl
 | str x=>obtain⟨t,e⟩:=(show ∃t,u=Value.str x t from r);cases e;rfl
 | byt b=>obtain⟨t,e⟩:=(show ∃t,u=Value.bytes b t from r);cases e;rfl
 | flt b=>obtain⟨t,e⟩:=(show ∃t,u=Value.float b t from r);cases e;rfl
 | ref a=>cases (show u=Value.ref a from r);rfl
 | ty n=>cases (show u=Value.type n from r);rfl
section
variable {P:Program}{w:World}{H H':Hp}{h h':Heap}{a C dx:Addr}{fs fs':List (Str × V)}
theorem GE(hok:HOk P w H h)(e:H a=some (.ins C dx fs)):∃mA,ObjM h a dx C mA/\(∀f,RelO (fs.lookup f) (mA f))/\PySem.Within mA (fs.map (·.1))/\fs.length<=1000/\H dx=some (.own a):=by
 obtain⟨d,z,ne,ob,mA,n,r,q⟩:=(show ObjOk P w H h a (.ins C dx fs) from hok a _ e);exact⟨mA,⟨ob,n,ne⟩,r,q,z,d⟩
end
structure Cls(K:W.Frag)(C:Addr):Prop where
 pg:PySem.W.plainGet K C Str.empty=true
 hd:PySem.W.hasDictIn K C=true
 po:PySem.W.plainOver K C=true
 sa:PySem.W.findIn K (.ref C) "__setattr__" = some (some (.builtin "object.__setattr__"))
theorem Cls.get(c:Cls K C)(f:Str):PySem.W.plainGet K C f=true:=c.pg
noncomputable def NoAttr(K:W.Frag)(C:Addr)(f:Str):Prop:=PySem.W.findIn K (.ref C) f=some none
theorem NoAttr.taker{f:Str}(n:NoAttr K C f):PySem.W.takerIn K C f=some none:=by
 unfold PySem.W.takerIn;rw[show PySem.W.findIn K (.ref C) f=some none from n];rfl
structure Meth(K:W.Frag)(C:Addr)(m:Str)(f:Addr):Prop where
 at_:PySem.W.findIn K (.ref C) m=some (some (.ref f))
 fn:PySem.W.isFn K (.ref f)=true
 kp:PySem.W.keepIn K (.ref f)=true
section
variable {X:Cx}{za:List (Addr × Obj)}{Z:St}{H:Hp}{s:Shared}{a C dx:Addr}{fs:List (Str × V)}{f:Str}{v:V}{A:Around}{E:Value->Shared->Prop}
theorem UG {b:Bool} (I:zg X za Z H s) (e:H a=some (.ins C dx fs)) (c:Cls X.K C) (n:NoAttr X.K C f) (l:fs.lookup f=some v)
 (h:∀u s',zg X za Z H s'->zi v u->Q u s'):wpAny (model X.prog X.w) A (getAttr (.ref a) f b) Q E s:=by
 obtain⟨mA,O,r,_,_,_⟩:=GE I.hok e;obtain⟨u,hu,ru⟩:=RelO.some_of (v:=v) (o:=mA f) (by rw[<- l];exact r f);exact ZH I.kIn O (c.get f) c.hd n hu (ZK ru) (h u _ (I.tok _) ru)
theorem Mn {m:Str} {g:Addr} {pl:Sem Bool} {Q:Value × List Value->Shared->Prop} (I:zg X za Z H s) (e:H a=some (.ins C dx fs)) (c:Cls X.K C) (k:Meth X.K C m g) (l:fs.lookup m=none)
 (h:Q (.ref g,[.ref a]) s):wpAny (model X.prog X.w) A (getMethod (.ref a) m pl) Q E s:=by
 obtain⟨mA,O,r,_,_,_⟩:=GE I.hok e;have hn:mA m=none:=RelO.none_of (by rw[<- l];exact r m);exact YU I.kIn O (c.get m) k.at_ k.fn hn h
theorem Sd {y:V} {Q:Unit->Shared->Prop} (I:zg X za Z H s) (e:H a=some (.ins C dx fs)) (c:Cls X.K C) (n:NoAttr X.K C f) (hl:fs.length < 1000) (ry:zi y u)
 (h:∀s',zg X za Z (upd H a (.ins C dx (AW f y fs))) s'->Q () s'):wpAny (model X.prog X.w) A (setAttr (.ref a) f u) Q E s:=by
 obtain⟨mA,O,r,wi,_,ho⟩:=GE I.hok e;have hz:(fs.map (·.1)).length<=sizeLine:=by rw[Ze,sizeLine_eq];lia
 refine WK I.kIn O c.sa c.po n.taker c.hd wi hz fun h' O' sb=>h _ ?_
 have hd:∃o,h'.get? dx=some o:=let ⟨o,_,_,e',_⟩:=O'.ns;⟨o,e'⟩;refine I.write (x:=a) (e:=dx) (by rw[e];exact True.intro) (.inr ho) (fun b q hb z=>(sb.2 b hb).trans z) hd ?_;refine⟨by rw[AI O.ne];exact ho,?_,O.ne,O'.obj,_,O'.ns,fun g=>?_,fun g hg=>?_⟩
 ·have:=K8 f y fs;lia
 ·show RelO ((AW f y fs).lookup g) (if g=f then some u else mA g);rw[N3]
  by_cases q:g=f
  ·rw[if_pos q,if_pos q];exact ry
  ·rw[if_neg q,if_neg q];exact r g
 ·by_cases q:g=f
  ·rw[q];exact(Ir f y fs).1
  ·refine(Ir f y fs).2 g (wi g fun z=>hg ?_)
   show(if g=f then some u else mA g)=none
   rw[if_neg q];exact z
theorem zg.made(I:zg X za Z H s):zg X za Z (upd (upd H s.heap.objs.size (.own (s.heap.objs.size+1))) (s.heap.objs.size+1) (.ins C s.heap.objs.size []))
 { s with heap:=(s.heap.push PySem.W.emptyDict).push (PySem.W.instObj C s.heap.objs.size) }:=by
 have e1:(s.heap.push PySem.W.emptyDict).get? s.heap.objs.size=some PySem.W.emptyDict:=Zr s.heap rfl
 have e2:((s.heap.push PySem.W.emptyDict).push (PySem.W.instObj C s.heap.objs.size)).get? (s.heap.objs.size+1)=some (PySem.W.instObj C s.heap.objs.size):=by
  have:=Zr (s.heap.push PySem.W.emptyDict) (o:=PySem.W.instObj C s.heap.objs.size) rfl
  rwa [ZBP]at this
 have e3:(s.heap.push PySem.W.emptyDict).Ns s.heap.objs.size (fun _=>none):=⟨PySem.W.emptyDict,#[],_,e1,rfl,(fun e he=>absurd he (by simp)),fun _=>rfl⟩;have I1:=I.laid (a:=s.heap.objs.size) (o:=.own (s.heap.objs.size+1)) (h':=s.heap.push PySem.W.emptyDict) (t':=s.toks) (fun b u q=>Zi _ q) (Zf _) ⟨_,e1⟩;refine I1.laid (a:=s.heap.objs.size+1) (o:=.ins C s.heap.objs.size []) (t':=s.toks) (fun b u q=>Zi _ q) (ZB9 (ZBP _ _)) ?_;have ne:s.heap.objs.size≠s.heap.objs.size+1:=Zs (ZBb _);refine⟨by rw[AI ne,AD],Zu _,ne,e2,fun _=>none,(Heap.Ns1.of_empty e3).at fun o q=>Zi _ q,fun _=>True.intro,fun y hy=>absurd rfl hy⟩
theorem RT {prog:Program} {env:Env} {e:Expr} {f:Str} (hb:attributeBase e f env (eval e env)=eval e env)
 (h:wpAny (model prog w) A (eval e env) (fun o s₁=>wpAny (model prog w) A (getAttr o f true) Q E s₁) E s):wpAny (model prog w) A (eval (.Attribute e f pos) env) Q E s :=
 Attribute_any_ h (by rw[arm_eval_Attribute,hb])
end
section
variable {X:Cx}{za:List (Addr × Obj)}{Z:St}{H:Hp}{s:Shared}{A:Around}{E:Value->Shared->Prop}{Q:Value->Shared->Prop}{c:Value}{b:Bool}
inductive TyOf (K:W.Frag) (H:Hp):V->Value->Prop where
 | non:TyOf K H .non (.type "NoneType")
 | bl (x:Bool):TyOf K H (.bl x) (.type "bool")
 | int (i:Int):TyOf K H (.int i) (.type "int")
 | str (x:Str):TyOf K H (.str x) (.type "str")
 | flt (x:UInt64):TyOf K H (.flt x) (.type "float")
 | lst {a:Addr} {xs:List V} (e:H a=some (.lst xs)):TyOf K H (.ref a) (.type "list")
 | frz {a:Addr} {o:Obj} {xs:List V} (e:H a=some (.frz o (.lst xs))):TyOf K H (.ref a) (.type "list")
 | tup {a:Addr} {xs:List V} (e:H a=some (.tup xs)):TyOf K H (.ref a) (.type "tuple")
 | dK {a:Addr} {zd:List (Key × V)} (e:H a=some (.dK zd)):TyOf K H (.ref a) (.type "dict")
 | dT {a:Addr} {zd:List (List Key × V)} (e:H a=some (.dT zd)):TyOf K H (.ref a) (.type "dict")
 | ins {a C dx:Addr} {fs:List (Str × V)} (e:H a=some (.ins C dx fs)) (cl:Cls K C) (ha:PySem.W.findIn K (.ref C) "__class__" = some (some (.builtin "object.__class__")))
  (hn:PySem.W.specialIn K (.builtin "object.__class__") "__get__" = some (some (.builtin "getset_descriptor.__get__"))) (htk:PySem.W.takesIn K (.builtin "object.__class__")=some true)
  (hm:PySem.W.mroIn K C (.type "object")=some true):TyOf K H (.ref a) (.ref C)
theorem XB{x:V}{t:Value}(I:zg X za Z H s)(rx:zi x u)(ty:TyOf X.K H x t)(e:PySem.W.kitOne X.K t c=some b)(h:∀tk,Q (.bool b) { s with toks:=tk }) :
 wpAny (model X.prog X.w) A (call (.builtin "isinstance") [u,c]) Q E s:=by
 cases ty with
 | non=>cases (show u=Value.none from rx);exact PySem.W.kia_one PySem.W.kitx_none I.kIn True.intro e (fun z=>nomatch z) h
 | bl y=>cases (show u=Value.bool y from rx);exact PySem.W.kia_one PySem.W.kitx_bool I.kIn True.intro e (fun z=>nomatch z) h
 | int i=>obtain⟨t,q⟩:=(show ∃t,u=Value.int i t from rx);cases q;exact PySem.W.kia_one PySem.W.kitx_int I.kIn True.intro e (fun z=>nomatch z) h
 | str y=>obtain⟨t,q⟩:=(show ∃t,u=Value.str y t from rx);cases q;exact PySem.W.kia_one PySem.W.kitx_str I.kIn True.intro e (fun z=>nomatch z) h
 | flt y=>obtain⟨t,q⟩:=(show ∃t,u=Value.float y t from rx);cases q;exact PySem.W.kia_one PySem.W.kitx_float I.kIn True.intro e (fun z=>nomatch z) h
 | @lst a xs ea =>
  cases (show u=Value.ref a from rx);obtain⟨_,_,n,_,h1⟩:=(show ObjOk X.prog X.w H s.heap a (.lst xs) from I.hok a _ ea);exact PySem.W.kia_one PySem.W.kitx_list I.kIn ⟨_,h1,rfl⟩ e (fun z=>nomatch z) h
 | @frz a ob xs ea =>
  cases (show u=Value.ref a from rx);obtain⟨_,_,_,n,_,h1⟩:=(show ObjOk X.prog X.w H s.heap a (.frz ob (.lst xs)) from I.hok a _ ea);exact PySem.W.kia_one PySem.W.kitx_list I.kIn ⟨_,h1,rfl⟩ e (fun z=>nomatch z) h
 | @tup a xs ea =>
  cases (show u=Value.ref a from rx);obtain⟨_,_,_,p⟩:=(show ObjOk X.prog X.w H s.heap a (.tup xs) from I.hok a _ ea);obtain⟨o,h1,h2,_⟩:=p;exact PySem.W.kia_one PySem.W.kitx_tuple I.kIn ⟨o,h1,h2⟩ e (fun z=>nomatch z) h
 | @dK a zd ea =>
  cases (show u=Value.ref a from rx);obtain⟨_,_,vs,_,p⟩:=(show ObjOk X.prog X.w H s.heap a (.dK zd) from I.hok a _ ea);obtain⟨o,es,ep,h1,h2,_⟩:=p;exact PySem.W.kia_one PySem.W.kitx_dict I.kIn ⟨o,h1,h2.1⟩ e (fun z=>nomatch z) h
 | @dT a zd ea =>
  cases (show u=Value.ref a from rx);obtain⟨_,_,xs,_,o,es,ep,h1,h2,_⟩:=(show ObjOk X.prog X.w H s.heap a (.dT zd) from I.hok a _ ea);exact PySem.W.kia_one PySem.W.kitx_dict I.kIn ⟨o,h1,h2.1⟩ e (fun z=>nomatch z) h
 | @ins a C dx fs ea cl ha hn htk hm =>
  cases (show u=Value.ref a from rx);obtain⟨mA,O,_⟩:=GE I.hok ea;obtain⟨od,J,_⟩:=O.look;exact PySem.W.kia_one (PySem.W.kitx_own (cl.get _) cl.hd ha hn htk hm) I.kIn J e (fun z=>nomatch z) h
end
structure Room(k:Nat)(A:Around):Prop where
 hd:A.handled=none
 dp:A.depth+3 * k+5 < recursionLimit
 un:A.units+16 * k+200 < cLine
 gd:A.guards=some []
theorem Room.mono{j:Nat}(r:Room k A)(h:j<=k):Room j A:=⟨r.hd,by have:=r.dp;lia,by have:=r.un;lia,r.gd⟩
theorem Room.deeper(r:Room (k+1) A)(env:Env):Room k (A.deeper env) :=
 ⟨r.hd,by have:=r.dp;show A.depth+1+3 * k+5 < _;lia,by have:=r.un;show A.units+3+16 * k+200 < _;lia,r.gd⟩
theorem Room.in1(r:Room (k+1) A):Room k A.in1 :=
 ⟨r.hd,by have:=r.dp;show A.depth+3 * k+5 < _;lia,by have:=r.un;show A.units+1+16 * k+200 < _;lia,r.gd⟩
theorem WM{kw:List (Str × Value)}:(A.under (.builtin "type.__call__" ⟨.ref C::us,kw⟩)).depth=A.depth+1:=by
 first | rfl | simp[Around.under,Code.weight,Code.isCreation,Code.isGuard,Code.isCaller,Code.frames,Code.isFrame,guardIds]
theorem RE{kw:List (Str × Value)}:(A.under (.builtin "type.__call__" ⟨.ref C::us,kw⟩)).units=A.units+1:=by
 first | rfl | simp[Around.under,Code.cUnits,Code.frames,Code.isFrame]
theorem Room.make(r:Room (k+1) A)(C:Addr)(us:List Value)(kw:List (Str × Value)):Room k (A.under (.builtin "type.__call__" ⟨.ref C::us,kw⟩)) :=
 ⟨r.hd,by have:=r.dp;rw[WM];lia,by have:=r.un;rw[RE];lia,by first | exact r.gd | (simpa [Around.under,Code.guards,Code.isGuard,guardIds,pushGuards] using r.gd)⟩
theorem Room.depth(r:Room k A):A.depth < recursionLimit:=by have:=r.dp;lia
noncomputable def KD:TA:=fun _ H Q=>Q [] H
noncomputable def OF(ta:TE)(tr:TA):TA:=fun Z H Q=>ta Z H fun x H1=>tr Z H1 fun xs H2=>Q (x::xs) H2
section
variable {X:Cx}{e:Expr}{es:List Expr}{te:TE}{t:TA}{pos:Pos}
theorem AB:PA X [] KD:=fun _ _ _ _ H Q I h=>Calls.spliced_nil ⟨[],H,I,.nil,h⟩
theorem AA(ha:PE X e te)(hr:PA X es t)(hs:starEach (e::es) X.env=(false,eval e X.env)::starEach es X.env:=by rfl):PA X (e::es) (OF te t):=by
 intro pos za s Z H Q I h;rw[hs];show wpAny _ _ (spliced ((false,eval e X.env)::backTo pos (starEach es X.env))) _ _ s;refine Calls.spliced_cons (zn (ha za s Z H _ I h) fun u s1 ⟨x,H1,I1,r1,q1⟩=>?_);exact zn (hr pos za s1 Z H1 _ I1 q1) fun us s2 ⟨xs,H2,I2,r2,q2⟩=>⟨x::xs,H2,I2,.cons r1 r2,q2⟩
noncomputable def MC(t:TA):TE:=fun Z H Q=>t Z H fun xs H1=>xs.length<=sizeLine/\∀p,H1 p=none->Q (.ref p) (upd H1 p (.tup xs))
noncomputable def L0(t:TA):TE:=fun Z H Q=>t Z H fun xs H1=>xs.length<=sizeLine/\∀p,H1 p=none->Q (.ref p) (upd H1 p (.lst xs))
theorem CG{x1}(h:PA X es t):PE X (.Tuple es x1 pos) (MC t):=by
 intro za s Z H Q I hq;refine wpAny_Tuple_spliced (zn (h pos za s Z H _ I hq) fun us s1 ⟨xs,H1,I1,r,z,q⟩=>⟨by rw[<- r.length];exact z,?_⟩);have hf:H1 s1.heap.objs.size=none:=I1.hok.fresh (Zf _);refine⟨.ref s1.heap.objs.size,upd H1 s1.heap.objs.size (.tup xs),I1.laid (t':=s1.toks) (fun b u e=>Zi _ e) (Zf _) ?_,rfl,q _ hf⟩;exact⟨z,us,r,⟨_,Zr _ rfl,rfl,⟨_,rfl⟩,rfl⟩⟩
theorem Ca(h:PA X es t):PE X (.List es pos) (L0 t):=by
 intro za s Z H Q I hq;refine wpAny_List_spliced (zn (h pos za s Z H _ I hq) fun us s1 ⟨xs,H1,I1,r,z,q⟩=>⟨by rw[<- r.length];exact z,?_⟩);have hf:H1 s1.heap.objs.size=none:=I1.hok.fresh (Zf _);refine⟨.ref s1.heap.objs.size,upd H1 s1.heap.objs.size (.lst xs),I1.laid (t':=s1.toks) (fun b u e=>Zi _ e) (Zf _) ?_,rfl,q _ hf⟩;exact⟨z,us,0,r,Zr _ rfl⟩
end
noncomputable abbrev Sp:=List V->Hp->VK->XK->Prop
noncomputable abbrev CXT:=List Env->Hp->Shared->XK->Value->Shared->Prop
structure Env0(P:Program)(w:World)(K:W.Frag)(mg:Str->Option Value)(base:Heap)(A:Around)(outer:List Env)(s:Shared)(H:Hp):Prop where
 frames:A.frames=some outer
 mod:Mod K mg base
 bs:∀b o,base.get? b=some o->s.heap.get? b=some o/\H b=none
 bsz:base.objs.size<=s.heap.objs.size
 funs:s.heap.FunFrames base outer
 frf:∀b∈frs outer,H b=none
 hok:HOk P w H s.heap
 bare:AllBare s.gens
noncomputable def CE(outer:List Env)(P:Program)(w:World)(H:Hp)(s:Shared)(Q:VK)(u:Value)(s':Shared):Prop :=
 ∃v H',s'.os=s.os/\AllBare s'.gens/\Un (frs outer) [] H H' s.heap s'.heap/\HOk P w H' s'.heap/\zi v u/\Q v H'
noncomputable def CR(CX:CXT)(outer:List Env)(P:Program)(w:World)(H:Hp)(s:Shared)(Q:VK)(E:XK)(r:Result)(s':Shared):Prop :=
 match r with
 | .ok (.ret u)=>CE outer P w H s Q u s'
 | .ok _=>False
 | .error e=>CX outer H s E e s'
structure FnOk(P:Program)(w:World)(K:W.Frag)(mg:Str->Option Value)(base:Heap)(CX:CXT)(k:Nat)(f:Addr)(fd:FuncData)(ps:List Str)(sp:Sp):Prop where
 len:∀vs H Q E,sp vs H Q E->vs.length=ps.length
 run:∀(A:Around) (outer:List Env) (s:Shared) (H:Hp) (args:Args) (us:List Value) (vs:List V) (Q:VK) (E:XK),Room k A->Env0 P w K mg base A outer s H->BindsTo s fd args (ps.zip us)->zj vs us->sp vs H Q E ->
  codeAny (model P w) A (.call (.ref f) args) (CR CX outer P w H s Q E) s
theorem Env0.make{mg:Str->Option Value}{base:Heap}{outer:List Env}(e:Env0 P w K mg base A outer s H)(C:Addr)(us:List Value)(kw:List (Str × Value)) :
 Env0 P w K mg base (A.under (.builtin "type.__call__" ⟨.ref C::us,kw⟩)) outer s H:=⟨by first | exact e.frames | (simpa [Around.under,Code.envs,Code.isFrame,pushEnvs] using e.frames),e.mod,e.bs,e.bsz,e.funs,e.frf,e.hok,e.bare⟩
theorem Env0.in1{mg:Str->Option Value}{base:Heap}{outer:List Env}(e:Env0 P w K mg base A outer s H) :
 Env0 P w K mg base A.in1 outer s H:=⟨e.frames,e.mod,e.bs,e.bsz,e.funs,e.frf,e.hok,e.bare⟩
section
variable {X:Cx}{za:List (Addr × Obj)}{Z:St}{H:Hp}{s s':Shared}
theorem zg.env0(I:zg X za Z H s):Env0 X.prog X.w X.K X.mg X.base X.A X.stack s H :=
 ⟨I.ok.frames,I.ok.mod,I.bs,ZBU I.ok.bsz I.sz,I.stack,I.stkFree,I.hok,I.bare⟩
theorem zg.after{Q:VK}(I:zg X za Z H s)(h:CE X.stack X.prog X.w H s Q u s'):EP X za Z Q u s':=by
 obtain⟨v,H',os,bare,un,hok,r,q⟩:=h;obtain⟨hh,g,d,t,os'⟩:=s';obtain rfl:os'=s.os:=os;exact⟨v,H',I.call (h':=hh) (g':=g) (d':=d) (t':=t) (ch:=[]) un hok bare (fun b z=>absurd z (by simp)),r,q⟩
end
noncomputable def Lk(sp:Sp)(dvs:List V)(E:XK)(t:TA):TE:=fun Z H Q=>t Z H fun vs H1=>sp (vs++dvs) H1 Q E
noncomputable def IE(C:Addr)(m:Str)(sp:Sp)(dvs:List V)(E:XK)(ta:TE)(t:TA):TE:=fun Z H Q=>ta Z H fun x H1=>∃a dx fs,x=.ref a/\H1 a=some (.ins C dx fs)/\fs.lookup m=none /\
 t Z H1 fun vs H2=>sp (x::(vs++dvs)) H2 Q E
noncomputable def WU(C:Addr)(sp:Sp)(dvs:List V)(E:XK)(t:TA):TE:=fun Z H Q=>t Z H fun vs H1=>∀x dx,H1 x=none->H1 dx=none->dx≠x ->
 sp (.ref x::(vs++dvs)) (upd (upd H1 dx (.own x)) x (.ins C dx [])) (fun v H2=>v=.non/\Q (.ref x) H2) E
noncomputable def Binds(K:W.Frag)(fd:FuncData)(ps:List Str)(ds:List Value):Prop :=
 ∀(s:Shared) (us:List Value),K.In s.heap->(us++ds).length=ps.length->BindsTo s fd ⟨us,[]⟩ (ps.zip (us++ds))
theorem Binds.all{fd:FuncData}{ps:List Str}(h:∀us:List Value,us.length=ps.length->bindArgs fd ⟨us,[]⟩=pure (ps.zip us)):Binds K fd ps []:=fun s us _ hl=>by
 rw[ZBI]at hl ⊢;exact .of_eq (h us hl)
noncomputable def Du(CX:CXT)(X:Cx)(E:XK):Prop:=∀(za:List (Addr × Obj)) (Z:St) (H:Hp) (s:Shared) (e:Value) (s':Shared),zg X za Z H s->CX X.stack H s E e s'->X.xe e s'
section
variable {X:Cx}{CX:CXT}{k:Nat}{f C:Addr}{fd:FuncData}{ps:List Str}{sp:Sp}{dvs:List V}{ds:List Value}{E:XK}{x m:Str}{p pos apos:Pos}{e o:Expr}{es:List Expr}{ta:TE}{t:TA}
theorem HI {Q:VK} {vs:List V} (F:FnOk X.prog X.w X.K X.mg X.base CX k f fd ps sp) (hr:Room k X.A) (hb:Binds X.K fd ps ds) (hd:zj dvs ds) (hx:Du CX X E)
 (I:zg X za Z H s) (r:zj vs us) (h:sp (vs++dvs) H Q E):wpAny (model X.prog X.w) X.A (call (.ref f) us) (EP X za Z Q) X.xe s:=by
 have r2:zj (vs++dvs) (us++ds):=r.append hd;have hl:(us++ds).length=ps.length:=by rw[<- r2.length];exact F.len _ _ _ _ h
 refine wpAny_call (ZBm (F.run X.A X.stack s H ⟨us,[]⟩ (us++ds) (vs++dvs) Q E hr I.env0 (hb s us I.kIn hl) r2 h) fun r s' hq=>?_);cases r with
 | error e=>exact hx za Z H s e s' I hq
 | ok fl =>
  cases fl with
  | ret u=>exact I.after hq
  | next=>exact False.elim hq
  | brk=>exact False.elim hq
  | cont=>exact False.elim hq
theorem AM (F:FnOk X.prog X.w X.K X.mg X.base CX k f fd ps sp) (hr:Room k X.A) (hg:Gl X x) (hm:X.mg x=some (.ref f)) (hk:PySem.W.keepIn X.K (.ref f)=true) (hb:Binds X.K fd ps ds) (hd:zj dvs ds) (hx:Du CX X E)
 (ha:PA X (e::es) t) (hdb:(x == ("__debug__" : Str))=false:=by decide) (he:starEach (e::es) X.env=(false,eval e X.env)::starEach es X.env:=by rfl) (hpl:(backTo pos (starEach es X.env)).any (·.1)=false:=by rfl) :
 PE X (.Call (.Name x p) (e::es) [] pos) (Lk sp dvs E t):=by
 intro za s Z H Q I h;refine wpAny_Call_Name_kw (G8 I hg hm ?_ hdb);refine PySem.W.callWith_K (h₀:=X.base) I.ok.mod.kin hk (zn (ha pos za s Z H _ I h) fun us s1 ⟨vs,H1,I1,r,q⟩=>⟨I1.kIn,?_⟩) he hpl;exact HI F hr hb hd hx I1 r q
theorem Ay {pl:Sem Bool} (he:PE X o ta) (c:Cls X.K C) (hm:Meth X.K C m f) (F:FnOk X.prog X.w X.K X.mg X.base CX k f fd ps sp) (hr:Room k X.A) (hb:Binds X.K fd ps ds) (hd:zj dvs ds) (hx:Du CX X E) (ha:PA X (e::es) t)
 (hst:starEach (e::es) X.env=(false,eval e X.env)::starEach es X.env:=by rfl) (hpl:(backTo pos (starEach es X.env)).any (·.1)=false:=by rfl)
 (ht:eval (.Call (.Attribute o m apos) (e::es) [] pos) X.env=(do
   let ov <- eval o X.env
   standAt apos.atName
   let (f,first) <- holding [ov] (getMethod ov m pl)
   callWith pos f first (backTo pos (starEach (e::es) X.env)) (backToKw pos (keywordEach [] X.env))):=by rfl) :
 PE X (.Call (.Attribute o m apos) (e::es) [] pos) (IE C m sp dvs E ta t):=by
 intro za s Z H Q I h;refine PySem.W.methodCall_KW (pl:=pl) (zn (he za s Z H _ I h) fun u s1 ⟨x,H1,I1,rx,a,dx,fs,ex,ea,l,q⟩=>?_) ht;subst ex;obtain rfl:u=Value.ref a:=rx;refine Mn I1 ea c hm l ?_;refine PySem.W.callWith_K (first:=[.ref a]) (h₀:=X.base) I.ok.mod.kin hm.kp (zn (ha pos za s1 Z H1 _ I1 q) fun us s2 ⟨vs,H2,I2,r,q2⟩=>⟨I2.kIn,?_⟩) hst hpl;exact HI (us:=.ref a::us) (vs:=.ref a::vs) F hr hb hd hx I2 (.cons rfl r) q2
theorem MQ {pl:Sem Bool} (he:PE X o ta) (c:Cls X.K C) (hm:Meth X.K C m f) (F:FnOk X.prog X.w X.K X.mg X.base CX k f fd ps sp) (hr:Room k X.A) (hb:Binds X.K fd ps ds) (hd:zj dvs ds) (hx:Du CX X E)
 (ht:eval (.Call (.Attribute o m apos) [] [] pos) X.env=(do
   let ov <- eval o X.env
   standAt apos.atName
   let (f,first) <- holding [ov] (getMethod ov m pl)
   callWith pos f first (backTo pos (starEach [] X.env)) (backToKw pos (keywordEach [] X.env))):=by rfl) :
 PE X (.Call (.Attribute o m apos) [] [] pos) (IE C m sp dvs E ta KD):=by
 intro za s Z H Q I h;refine PySem.W.methodCall_KW (pl:=pl) (zn (he za s Z H _ I h) fun u s1 ⟨x,H1,I1,rx,a,dx,fs,ex,ea,l,q⟩=>?_) ht;subst ex;obtain rfl:u=Value.ref a:=rx;refine Mn I1 ea c hm l ?_;exact PySem.W.callWith_K0 (first:=[.ref a]) I1.kIn hm.kp (HI (us:=[.ref a]) (vs:=[.ref a]) F hr hb hd hx I1 (.cons rfl .nil) q)
structure Mk(K:W.Frag)(C f:Addr):Prop where
 makes:PySem.W.makesIn K C=true
 init:PySem.W.findIn K (.ref C) "__init__" = some (some (.ref f))
 fn:PySem.W.isFn K (.ref f)=true
 kp:PySem.W.keepIn K (.ref C)=true
theorem SC {Q:VK} {vs:List V} (M:Mk X.K C f) (F:FnOk X.prog X.w X.K X.mg X.base CX k f fd ps sp) (hr:Room (k+1) X.A) (hb:Binds X.K fd ps ds) (hd:zj dvs ds)
 (hx:Du CX X E) (I:zg X za Z H s) (r:zj vs us)
 (h:∀x dx,H x=none->H dx=none->dx≠x->sp (.ref x::(vs++dvs)) (upd (upd H dx (.own x)) x (.ins C dx [])) (fun v H2=>v=.non/\Q (.ref x) H2) E) :
 wpAny (model X.prog X.w) X.A (call (.ref C) us) (EP X za Z Q) X.xe s:=by
 have hq:=h (s.heap.objs.size+1) s.heap.objs.size (I.hok.fresh (ZBz _)) (I.hok.fresh (Zf _)) (Zs (ZBb _));have I2:=zg.made (C:=C) I;have r2:zj (V.ref (s.heap.objs.size+1)::(vs++dvs)) (Value.ref (s.heap.objs.size+1)::(us++ds)):=.cons rfl (r.append hd)
 have hl:(Value.ref (s.heap.objs.size+1)::us++ds).length=ps.length:=by
  have e:=r2.length;rw[F.len _ _ _ _ hq]at e;exact e.symm
 refine wpAny_call (ZQ (f:=f) I.kIn M.makes M.init (beq_iff_eq.mp M.fn) (ZBm (F.run _ X.stack _ _ ⟨Value.ref (s.heap.objs.size+1)::us,[]⟩ (Value.ref (s.heap.objs.size+1)::(us++ds)) _ _ E (hr.make C us [])
  (I2.env0.make C us []) (hb _ (Value.ref (s.heap.objs.size+1)::us) I2.kIn hl) r2 hq) fun r s' hq'=>?_))
 cases r with
 | error e=>exact hx za Z _ _ e s' I2 hq'
 | ok fl =>
  cases fl with
  | ret u =>
   obtain⟨v,H',I3,rv,ev,q3⟩:=I2.after hq';subst ev;exact⟨rv,⟨V.ref (s.heap.objs.size+1),H',I3,rfl,q3⟩⟩
  | next=>exact False.elim hq'
  | brk=>exact False.elim hq'
  | cont=>exact False.elim hq'
theorem Oj (M:Mk X.K C f) (F:FnOk X.prog X.w X.K X.mg X.base CX k f fd ps sp) (hr:Room (k+1) X.A) (hg:Gl X x) (hm:X.mg x=some (.ref C)) (hb:Binds X.K fd ps ds) (hd:zj dvs ds) (hx:Du CX X E)
 (ha:PA X (e::es) t) (hdb:(x == ("__debug__" : Str))=false:=by decide) (he:starEach (e::es) X.env=(false,eval e X.env)::starEach es X.env:=by rfl) (hpl:(backTo pos (starEach es X.env)).any (·.1)=false:=by rfl) :
 PE X (.Call (.Name x p) (e::es) [] pos) (WU C sp dvs E t):=by
 intro za s Z H Q I h;refine wpAny_Call_Name_kw (G8 I hg hm ?_ hdb);refine PySem.W.callWith_K (h₀:=X.base) I.ok.mod.kin M.kp (zn (ha pos za s Z H _ I h) fun us s1 ⟨vs,H1,I1,r,q⟩=>⟨I1.kIn,?_⟩) he hpl;exact SC M F hr hb hd hx I1 r q
end
structure FnScope(N P:List Str)(sc:Scope):Prop where
 kind:sc.kind=.function
 co:sc.isCoroutine=false
 gen:sc.isGenerator=false
 nd:N.Nodup
 pre:N.take P.length=P
 par:∀x∈P,sc.names.lookup x=some .local\/sc.names.lookup x=some .cell
 nofree:∀y∈sc.names,y.2≠.free
theorem Oy{kindOf:Str->Option NameKind}:∀{binds:List (Str × Value)} {m:Str->Option Value},(∀v,(x,v)∉binds)->bindL kindOf binds m x=m x
 | [],_,_=>rfl
 | (n,v)::r,m,h=>by
  unfold bindL;rw[Oy fun w hw=>h w (Zz _ hw)];split
  ·have:x≠n:=by rintro rfl;exact h v ZBD
   simp[this]
  ·rfl
theorem MH{kindOf:Str->Option NameKind}:∀{binds:List (Str × Value)} {m:Str->Option Value},(∀v,(x,v)∉binds)->bindC kindOf binds m x=m x
 | [],_,_=>rfl
 | (n,v)::r,m,h=>by
  unfold bindC;rw[MH fun w hw=>h w (Zz _ hw)];split
  ·rfl
  ·have:x≠n:=by rintro rfl;exact h v ZBD
   simp[this]
theorem PH{kindOf:Str->Option NameKind}{v:Value}:∀{P:List Str} {vs:List Value} {i:Nat} {m:Str->Option Value},P.Nodup->P[i]? = some x->vs[i]? = some v->kindOf x=some .local ->
 bindL kindOf (P.zip vs) m x=some v
 | [],_,_,_,_,h,_,_=>by simp at h
 | _::_,[],_,_,_,_,h,_=>by simp at h
 | p::P,w::vs,0,m,nd,h1,h2,hk=>by
  simp at h1 h2;subst h1;subst h2;show bindL kindOf ((p,w)::P.zip vs) m p=_;unfold bindL;rw[Oy fun v hv=>(ZCA.mp nd).1 (List.of_mem_zip hv).1,if_pos hk];simp
 | p::P,w::vs,i+1,m,nd,h1,h2,hk=>by
  show bindL kindOf ((p,w)::P.zip vs) m x=_;unfold bindL;exact PH (i:=i) (ZCA.mp nd).2 (by simpa using h1) (by simpa using h2) hk
theorem L7{kindOf:Str->Option NameKind}{v:Value}:∀{P:List Str} {vs:List Value} {i:Nat} {m:Str->Option Value},P.Nodup->P[i]? = some x->vs[i]? = some v->kindOf x≠some .local ->
 bindC kindOf (P.zip vs) m x=some v
 | [],_,_,_,_,h,_,_=>by simp at h
 | _::_,[],_,_,_,_,h,_=>by simp at h
 | p::P,w::vs,0,m,nd,h1,h2,hk=>by
  simp at h1 h2;subst h1;subst h2;show bindC kindOf ((p,w)::P.zip vs) m p=_;unfold bindC;rw[MH fun v hv=>(ZCA.mp nd).1 (List.of_mem_zip hv).1,if_neg hk];simp
 | p::P,w::vs,i+1,m,nd,h1,h2,hk=>by
  show bindC kindOf ((p,w)::P.zip vs) m x=_;unfold bindC;exact L7 (i:=i) (ZCA.mp nd).2 (by simpa using h1) (by simpa using h2) hk
noncomputable def DA(N:List Str)(vs:List V):St:=vs.map some++List.replicate (N.length - vs.length) none
noncomputable def Dn(CX:CXT)(P:Program)(w:World)(K:W.Frag)(mg:Str->Option Value)(base:Heap)(N:List Str)(qual:Str)(scope:Scope)(f:Addr)(cd:Value)(A:Around)(outer:List Env)(s:Shared)(H:Hp)(E:XK):Cx where
 prog:=P
 w:=w
 K:=K
 mg:=mg
 base:=base
 A:=A.deeper (envOfC qual scope s.heap.objs.size f cd)
 N:=N
 s₀:=s
 H₀:=H
 env:=envOfC qual scope s.heap.objs.size f cd
 outer:=outer
 stack:=envOfC qual scope s.heap.objs.size f cd::outer
 ex:=[]
 calm:=true
 fn:=fun _=>true
 pn:=[]
 xe:=fun e s'=>wpAny (model P w) (A.deeper (envOfC qual scope s.heap.objs.size f cd)) (leaving (envOfC qual scope s.heap.objs.size f cd) e) (fun _ s''=>CX outer H s E e s'') (fun e' s''=>CX outer H s E e' s'') s'
theorem Mb{sc:Scope}{n:Nat}(h:sc.names.lookup x=some .cell):∃c,(cellsFrom n sc.names []).lookup x=some c:=by
 have q:=PySem.W.cellsFrom_some sc.names n [] (.inl h);exact ZCe.mp q
theorem RF {CX:CXT} {mg:Str->Option Value} {base:Heap} {N ps:List Str} {qual:Str} {scope:Scope} {f:Addr} {cd:Value} {outer:List Env} {s1:Shared} {E:XK} {vs:List V}
 (S:FnScope N ps scope) (hd:A.handled=none) (e0:Env0 P w K mg base A outer s H) (hl:vs.length=ps.length) (r:zj vs us)
 (x:InCallC s s.heap.objs.size (bindL (envOfC qual scope s.heap.objs.size f cd).kindOf (ps.zip us) fun _=>none) (cellsFrom (s.heap.objs.size+1) scope.names []) (bindC (envOfC qual scope s.heap.objs.size f cd).kindOf (ps.zip us) fun _=>none) s1) :
 zg (Dn CX P w K mg base N qual scope f cd A outer s H E) [] (DA N vs) H s1:=by
 have hpl:ps.length<=N.length:=by have:=congrArg List.length S.pre;rw[Z7]at this;lia
 obtain⟨h1,tk,rfl,hk⟩:=x.done;have noA:∀b:Addr,b∉(Dn CX P w K mg base N qual scope f cd A outer s H E).ex:=fun b z=>absurd (show b∈([]:List Addr) from z) (by simp)
 refine⟨⟨e0.mod,S.kind,rfl,rfl,Zf _,fun y z c h1 h2=>?_,fun y hy=>?_,fun y c _ h=>?_,fun _=>hd,Around.frames_deeper e0.frames,.inr ⟨rfl,rfl⟩,fun b z=>absurd z (noA b),e0.bs,e0.bsz,fun b _ _=>noA b,fun b z=>absurd z (noA b),e0.funs,e0.frf⟩,
  rfl,e0.bare,Un.kept hk,⟨_,x.toInCall.ns,fun i y v h1 h2 h3=>?_⟩,fun y c h=>⟨_,x.cell y c h⟩,e0.hok.fresh (Zf _),fun y c h=>?_,fun p hp=>absurd (show p∈([]:List (Addr × Obj)) from hp) (by simp),e0.hok.kept hk,?_⟩
 ·exact name_of_addr x.apart (PySem.mem_of_lookup h1) (PySem.mem_of_lookup h2)
 ·have hy:scope.names.lookup y=some .cell\/scope.names.lookup y=some .free:=hy
  rcases hy with hy | hy
  ·exact Mb hy
  ·exact absurd rfl (S.nofree _ (PySem.mem_of_lookup hy))
 ·exact ZBa (x.above y c (PySem.mem_of_lookup h))
 ·have hi:i < vs.length:=by
   unfold DA at h2
   by_cases hi:i < vs.length
   ·exact hi
   ·rw[ZB0 (by simpa using hi)]at h2;rw[List.getElem?_replicate]at h2;split at h2 <;> cases h2
  have ha:vs[i]? = some v:=by
   unfold DA at h2;rw[ZB1 (by simpa using hi),Zm]at h2;cases e:vs[i]? with
   | none=>rw[e]at h2;cases h2
   | some a=>rw[e]at h2;cases h2;rfl
  obtain⟨u,hu,rv⟩:=r.get ha
  have hp:ps[i]? = some y:=by
   rw[<- S.pre,List.getElem?_take_of_lt (by lia)];exact h1
  have ndP:ps.Nodup:=by rw[<- S.pre];exact S.nd.sublist (List.take_sublist _ _)
  refine⟨u,rv,?_⟩
  rcases S.par y (ZBQ hp) with k | k
  ·exact .inl ⟨k,PH ndP hp hu k⟩
  ·obtain⟨c,e⟩:=Mb (n:=s.heap.objs.size+1) k;refine .inr ⟨.inl k,c,e,?_⟩;have q:=x.cell y c e;rw[L7 ndP hp hu (by show scope.names.lookup y≠_;rw[k];decide)]at q;exact q
 ·exact e0.hok.fresh (ZBa (x.above y c (PySem.mem_of_lookup h)))
 ·unfold DA;show _=N.length;rw[Zy,Ze,ZCS];lia
theorem Pb {CX:CXT} {mg:Str->Option Value} {base:Heap} {f:Addr} {name qual:Str} {params:Arguments} {body:List Stmt} {scope:Scope} {dV kV doc pm zB ct oc:Value} {an od:Option Addr}
 {osl:Array (Option Value)} {N ps:List Str} {sp:Sp} (lk:K.lookup f=some ⟨oc,od,.func (PySem.W.fnOf name qual params body scope dV kV doc pm an zB ct),osl⟩) (hcd:PySem.W.codeIn K zB qual=true) (S:FnScope N ps scope)
 (len:∀vs H Q E,sp vs H Q E->vs.length=ps.length)
 (hbody:∀(A:Around) (outer:List Env) (s:Shared) (H:Hp) (vs:List V) (Q:VK) (E:XK),Room k (A.deeper (envOfC qual scope s.heap.objs.size f zB))->sp vs H Q E ->
   ∃t,PSs (Dn CX P w K mg base N qual scope f zB A outer s H E) body t/\t { nx:=fun _ H'=>Q .non H',rt:=Q } (DA N vs) H) :
 FnOk P w K mg base CX (k+1) f (PySem.W.fnOf name qual params body scope dV kV doc pm an zB ct) ps sp:=by
 refine⟨len,fun A outer s H args us vs Q E hr e0 hb r hsp=>?_⟩;have hl:=len _ _ _ _ hsp;have KX:K.In s.heap:=e0.mod.kin.keeps fun b o e=>(e0.bs b o e).1
 have lim:s.heap.NoLimit:=e0.mod.nolimit.keeps fun b o e=>(e0.bs b o e).1
 have hkind:∀y∈ps.zip us,scope.names.lookup y.1=some .local\/(scope.names.lookup y.1=some .cell/\((cellsFrom (s.heap.objs.size+1) scope.names []).lookup y.1).isSome=true):=fun⟨n,v⟩ hy=>by
  rcases S.par n (List.of_mem_zip hy).1 with q | q
  ·exact .inl q
  ·exact .inr ⟨q,PySem.W.cellsFrom_some _ _ _ (.inl q)⟩
 refine codeAny_call_function hr.depth (KX _ _ lk) rfl S.co S.gen rfl (PySem.W.codeRec_of KX hcd) (hb _ _ _ _ ?_);refine wpAny_newFunctionEnv_cells S.kind hkind fun env he s1 x=>?_
 subst he;refine⟨lim.keeps x.toInCall.keep,codeAny_func ?_⟩;obtain⟨t,ht,hq⟩:=hbody A outer s H vs Q E (hr.deeper _) hsp;have I:zg (Dn CX P w K mg base N qual scope f zB A outer s H E) [] (DA N vs) H s1:=RF S hr.hd e0 hl r x;refine ZBH (ht [] s1 (DA N vs) H _ I hq) (fun fl s' hs=>?_) fun e s' hs=>hs
 have fin:∀{σ':St} {H':Hp} {v:V} {u:Value},zg (Dn CX P w K mg base N qual scope f zB A outer s H E) [] σ' H' s'->zi v u->Q v H'->CE outer P w H s Q u s' :=
  fun {σ' H' v u} J rv q=>⟨v,H',J.os,J.bare,J.base,J.hok,rv,q⟩
 cases fl with
 | ret u =>
  obtain⟨v,σ',H',J,rv,q⟩:=hs;exact fin J rv q
 | next =>
  obtain⟨σ',H',J,q⟩:=hs;exact fin (v:=V.non) (u:=Value.none) J rfl q
 | brk =>
  obtain⟨_,_,_,q⟩:=hs;exact False.elim q
 | cont =>
  obtain⟨_,_,_,q⟩:=hs;exact False.elim q
section
variable {X:Cx}{x:Str}{p pos:Pos}{e:Expr}{es:List Expr}{t:TA}{id T:String}{r:List V->Hp->VK->Prop}
noncomputable def tCB(r:List V->Hp->VK->Prop)(t:TA):TE:=fun Z H Q=>t Z H fun vs H1=>r vs H1 Q
theorem Aa (hc:CallR X (.builtin id) r) (hg:Gl X x) (hm:X.mg x=none) (hv:bootBuiltins x=some (.builtin id)) (ha:PA X (e::es) t) (hn:x ≠ "__name__":=by decide) (hdb:(x == ("__debug__" : Str))=false:=by decide)
 (he:starEach (e::es) X.env=(false,eval e X.env)::starEach es X.env:=by rfl) (hpl:(backTo pos (starEach es X.env)).any (·.1)=false:=by rfl):PE X (.Call (.Name x p) (e::es) [] pos) (tCB r t):=by
 intro za s Z H Q I h;refine wpAny_Call_Name_kw (CA I hg hm hv ?_ hn hdb);exact PyProof.Rows.callWith_builtin1 (zn (ha pos za s Z H _ I h) fun us s1 ⟨vs,H1,I1,r1,q1⟩=>hc za s1 Z H1 vs us Q I1 r1 q1) he hpl
theorem BU (hc:CallR X (.type T) r) (hg:Gl X x) (hm:X.mg x=none) (hv:bootBuiltins x=some (.type T)) (ha:PA X (e::es) t) (hn:x ≠ "__name__":=by decide) (hdb:(x == ("__debug__" : Str))=false:=by decide)
 (he:starEach (e::es) X.env=(false,eval e X.env)::starEach es X.env:=by rfl) (hpl:(backTo pos (starEach es X.env)).any (·.1)=false:=by rfl):PE X (.Call (.Name x p) (e::es) [] pos) (tCB r t):=by
 intro za s Z H Q I h;refine wpAny_Call_Name_kw (CA I hg hm hv ?_ hn hdb);exact PyProof.Rows.callWith_type1 (zn (ha pos za s Z H _ I h) fun us s1 ⟨vs,H1,I1,r1,q1⟩=>hc za s1 Z H1 vs us Q I1 r1 q1) he hpl
end
end L2
namespace HT
open PySem PyProof.Rows
section
open PySem.SeqAt
open PySem.AutoSeq1 (wpAny_loadPart')
open PySem.MeetsSeq PySem.MeetsSeq2 PySem.MeetsSeq3
end
section
variable {prog:Program}{w:World}{A:Around}{E:Value->Shared->Prop}{s:Shared}
theorem cat_tup {t b:Addr} {vs ws:List Value} {Q:Value->Shared->Prop} (ht:IsTup s.heap t vs.toArray) (hb:IsTup s.heap b ws.toArray) (hv:vs≠[])
 (h1:ws=[]->Q (.ref t) s) (h2:ws≠[]->Q (.ref s.heap.objs.size) { s with heap:=s.heap.push { cls:=.type "tuple",data:=.seq (vs++ws).toArray } })
 (hsz:vs.length+ws.length<=sizeLine):wpAny (model prog w) A (binaryOp .Add (.ref t) (.ref b)) Q E s:=by
 obtain⟨⟨cls,dd,data,sl⟩,ho,hc,n,hd⟩:=id ht;obtain⟨⟨cls2,dd2,data2,sl2⟩,ho2,hc2,n2,hd2⟩:=id hb;simp only at hc hd hc2 hd2;subst hc hd hc2 hd2;have e:vs.toArray++ws.toArray=(vs++ws).toArray:=by simp
 by_cases hw:ws=[]
 ·exact concat_meets ⟨_,ho,rfl⟩ ⟨_,ho2,rfl⟩ noFill_tuple_add seq_tuple_add PySem.F.slot_tuple_add PySem.F.entry_tuple_add (PySem.F.args_tuple_add_2 _ _)
   (tuple_addW1 t b vs.toArray ws.toArray n n2 dd dd2 sl sl2 (by simpa using hv) (by simp[hw])) ⟨ho,ho2,h1 hw⟩
 ·refine concat_meets ⟨_,ho,rfl⟩ ⟨_,ho2,rfl⟩ noFill_tuple_add seq_tuple_add PySem.F.slot_tuple_add PySem.F.entry_tuple_add (PySem.F.args_tuple_add_2 _ _)
   (tuple_addW2 t b vs.toArray ws.toArray n n2 dd dd2 sl sl2 (by simpa using hv) (by simpa using hw) (by rw[Zo,Zo];exact hsz)) ⟨ho,ho2,?_⟩
  rw[e];exact h2 hw
noncomputable def sIx(n d:Nat):Option Int->Nat
 | none=>d
 | some v=>if v < 0 then (v+(n:Int)).toNat else min v.toNat n
theorem Yp(n d:Nat)(hd:d<=n)(o:Option Int):sIx n d o<=n:=by
 cases o with
 | none=>exact hd
 | some v =>
  show(if v < 0 then (v+(n:Int)).toNat else min v.toNat n)<=n
  by_cases hv:v < 0
  ·rw[if_pos hv];lia
  ·rw[if_neg hv];exact Nat.min_le_right _ _
theorem Ow(v:Int)(n d:Nat):(if v < 0 then max (v+(n:Int)) 0 else min v (n:Int))=((sIx n d (some v):Nat):Int):=by
 show(if v < 0 then max (v+(n:Int)) 0 else min v (n:Int))=(((if v < 0 then (v+(n:Int)).toNat else min v.toNat n):Nat):Int)
 by_cases hv:v < 0
 ·simp only[if_pos hv];lia
 ·simp only[if_neg hv];lia
theorem V8(lo hi:Option Int)(n:Nat):Builtin.Slice.sliceAdjust lo hi 1 (n:Int)=(((sIx n 0 lo:Nat):Int),((sIx n n hi:Nat):Int)):=by
 have h1:¬((1:Int) < 0):=by lia
 unfold Builtin.Slice.sliceAdjust;simp only[h1,if_false];refine Prod.ext ?_ ?_
 ·cases lo with
  | none=>rfl
  | some v=>exact Ow v n 0
 ·cases hi with
  | none=>rfl
  | some v=>exact Ow v n n
theorem UM(i j:Nat):Builtin.Slice.slicePlaces (i:Int) (j:Int) 1=j - i:=by
 unfold Builtin.Slice.slicePlaces;have h1:(1:Int) > 0:=by lia
 simp only[h1,if_true,Int.ediv_one];split <;> lia
theorem OJ{v:Value}{o:Option Int}{Q:Option Int->Shared->Prop}(p:IsPart v o)(h:Q o s):wpAny (model prog w) A (Builtin.Slice.slicePartIndex v) Q E s:=by
 cases p with
 | none=>exact slicePart_none h
 | int i t=>exact slicePart_int h
theorem Mz {sl:Addr} {vl vu:Value} {lo hi:Option Int} {n:Nat} {Q:Int × Int × Nat->Shared->Prop} (hs:s.heap.IsSliceOf sl vl vu .none) (pl:IsPart vl lo) (pu:IsPart vu hi)
 (h:Q (((sIx n 0 lo:Nat):Int),1,sIx n n hi - sIx n 0 lo) s):wpAny (model prog w) A (Builtin.Slice.sliceApplied (.ref sl) (pure (n:Int))) Q E s:=by
 obtain⟨os,hos,hcs,hds⟩:=id hs;unfold Builtin.Slice.sliceApplied Builtin.Slice.sliceFields;refine Zc (Zc (ZB2 hos hds (x:=vl) rfl (Zc (ZB2 hos hds (x:=vu) rfl (Zc (ZB2 hos hds (x:=.none) rfl (Zd ?_)))))));refine Zc (slicePart_none ?_);show wpAny _ _ (if ((1:Int) == 0)=true then _ else _) _ _ s;rw[if_neg (by decide)];refine Zc (OJ pl (Zc (OJ pu (Zc (Zd ?_)))));show wpAny _ _ (match Builtin.Slice.sliceAdjust lo hi 1 (n:Int) with | (lo,hi)=>pure (lo,(1:Int),Builtin.Slice.slicePlaces lo hi 1)) _ _ s;rw[V8 lo hi n];show wpAny _ _ (pure (((sIx n 0 lo:Nat):Int),(1:Int),Builtin.Slice.slicePlaces ((sIx n 0 lo:Nat):Int) ((sIx n n hi:Nat):Int) 1)) _ _ s;rw[UM];exact Zd h
theorem Qy(xs:Array Value)(i k:Nat):((List.range k).filterMap fun(m:Nat)=>xs[((i:Int)+(m:Int) * 1).toNat]?).toArray=((xs.toList.drop i).take k).toArray:=by
 have e:(fun(m:Nat)=>xs[((i:Int)+(m:Int) * 1).toNat]?)=fun m=>xs[i+m]?:=by
  funext m
  have:((i:Int)+(m:Int) * 1).toNat=i+m:=by lia
  rw[this]
 rw[e]
 have:=pick_run xs i k
 rw[List.filterMap_map]at this;have e2:((fun x=>xs[x]?) ∘ fun x=>i+x)=fun m=>xs[i+m]?:=rfl
 rw[e2]at this;rw[this]
theorem getItem_tuple_cut {t sl:Addr} {items:Array Value} {vl vu:Value} {lo hi:Option Int} {Q:Value->Shared->Prop} (ht:IsTup s.heap t items) (hs:s.heap.IsSliceOf sl vl vu .none) (pl:IsPart vl lo) (pu:IsPart vu hi)
 (hw:¬(sIx items.size 0 lo=0/\sIx items.size items.size hi=items.size))
 (h:Q (.ref s.heap.objs.size) { s with heap:=s.heap.push { cls:=.type "tuple",data:=.seq ((items.toList.drop (sIx items.size 0 lo)).take (sIx items.size items.size hi - sIx items.size 0 lo)).toArray } })
 (hsz:items.size<=sizeLine):wpAny (model prog w) A (getItem (.ref t) (.ref sl)) Q E s:=by
 have htake:sizeOk (.seq ((items.toList.drop (sIx items.size 0 lo)).take (sIx items.size items.size hi - sIx items.size 0 lo)).toArray):=by
  show((items.toList.drop (sIx items.size 0 lo)).take (sIx items.size items.size hi - sIx items.size 0 lo)).toArray.size<=sizeLine
  rw[Zo,Z7,List.length_drop,Z8];lia
 have hj:sIx items.size items.size hi<=items.size:=Yp _ _ (Zf _) hi;obtain⟨os,hos,hcs,hds⟩:=id hs;have hTs:s.TypeIs (.ref sl) "slice":=⟨os,hos,hcs⟩;unfold getItem
 try with_reducible refine ZBA ?_
 first | refine Zc (Zd ?_) | skip
 refine Zc (wpAny_sequenceKey ht.typeIs (by decide) ?_)
 refine Zc (wpAny_callSpecial?_slot (name:=Str.ofString "__getitem__") ht.typeIs PyProof.Rows.slot_tuple_getitem
  (ZBV PyProof.Rows.slot_tuple_getitem ht.typeIs entry_tuple_getitem ?_ (args_tuple_getitem _ _)))
 show wpAny _ _ (Builtin.Tuple.tupleItemsOf (.ref t) >>= _) _ _ s;refine Zc (tupleItemsOf_ ht ?_);refine Zc (wpAny_typeOf hTs ?_);rw[if_pos (by decide)];refine Zc (Mz hs pl pu ?_)
 have hno:¬((((sIx items.size 0 lo:Nat):Int) == 0 && (1:Int) == 1 && (sIx items.size items.size hi - sIx items.size 0 lo) == items.size)=true):=by
  intro q;rw[Zp,Zp]at q;have q1:((sIx items.size 0 lo:Nat):Int)=0:=eq_of_beq q.1.1;have q2:sIx items.size items.size hi - sIx items.size 0 lo=items.size:=eq_of_beq q.2;exact hw ⟨by lia,by lia⟩
 show wpAny _ _ (if (((sIx items.size 0 lo:Nat):Int) == 0 && (1:Int) == 1 && (sIx items.size items.size hi - sIx items.size 0 lo) == items.size)=true then _ else _) _ _ s;rw[if_neg hno,Qy]
 first
  | exact Zc (m:=Builtin.Tuple.tupleExact _) (ZBJ (Zd ⟨_,rfl,Zd h⟩) htake)
  | exact Zc (m:=Builtin.Tuple.tupleExact _) (ZBJ (Zc (Zd (Zd ⟨_,rfl,Zd h⟩))) htake)
  | exact Zc (Zc (m:=Builtin.Tuple.tupleExact _) (ZBJ (Zd (Zd ⟨_,rfl,Zd h⟩)) htake))
  | exact Zc (Zc (m:=Builtin.Tuple.tupleExact _) (ZBJ (Zd ⟨_,rfl,Zd h⟩) htake))
end
end HT
namespace L2
open PySem PySem.Spec PyProof.Rows
noncomputable abbrev TO:=St->Hp->(Option Int->Hp->Prop)->Prop
noncomputable def PO(X:Cx)(e:Option Expr)(t:TO):Prop :=
 ∀(za:List (Addr × Obj)) (s:Shared) (Z:St) (H:Hp) (Q:Option Int->Hp->Prop),zg X za Z H s->t Z H Q ->
  wpAny (model X.prog X.w) X.A (evalPart e X.env) (fun u s'=>∃o H',zg X za Z H' s'/\IsPart u o/\Q o H') X.xe s
noncomputable def TK:TO:=fun _ H Q=>Q none H
noncomputable def Sf(t:TE):TO:=fun Z H Q=>t Z H fun x H1=>∃i,x=.int i/\Q (some i) H1
theorem EV{ns:List Int}:∀{us:List Value},zj (ns.map V.int) us->IntsAre us ns:=by
 induction ns with
 | nil=>intro us r;rw[List.map_nil]at r;cases r;exact .nil
 | cons n ns ih =>
  intro us r;rw[Z5]at r;cases r with
  | cons r1 r2 =>
   obtain⟨t,e⟩:=r1;subst e;exact .cons n t (ih r2)
section
variable {X:Cx}{e:Expr}{te:TE}{lo hi:Option Expr}{tl th:TO}{pos p2:Pos}
theorem VU:PO X none TK:=by
 intro za s Z H Q I h;rw[evalPart_none];exact Zd ⟨none,H,I,.none,h⟩
theorem R0(h:PE X e te):PO X (some e) (Sf te):=by
 intro za s Z H Q I hw;rw[evalPart_some];refine zn (h za s Z H _ I hw) fun u s1 ⟨x,H1,I1,r1,q1⟩=>?_
 obtain⟨i,rfl,q⟩:=q1;obtain⟨t,rfl⟩:=r1;exact⟨some i,H1,I1,.int i t,q⟩
noncomputable def SlR(X:Cx)(r:V->Option Int->Option Int->Hp->VK->Prop):Prop :=
 ∀(za:List (Addr × Obj)) (s:Shared) (Z:St) (H:Hp) (x:V) (v vl vu:Value) (lo hi:Option Int) (sl:Addr) (Q:VK),zg X za Z H s->zi x v->s.heap.IsSliceOf sl vl vu .none->IsPart vl lo->IsPart vu hi->r x lo hi H Q ->
  ∃T id,typeLookup (.type T) "__getitem__" = pure (some (.builtin id))/\s.TypeIs v T/\wpAny (model X.prog X.w) X.A (getItem v (.ref sl)) (EP X za Z Q) X.xe s
noncomputable def tSl(r:V->Option Int->Option Int->Hp->VK->Prop)(te:TE)(tl th:TO):TE:=fun Z H Q=>te Z H fun x H1=>tl Z H1 fun l H2=>th Z H2 fun u H3=>r x l u H3 Q
theorem Y6{r:V->Option Int->Option Int->Hp->VK->Prop}(hr:SlR X r)(he:PE X e te)(hl:PO X lo tl)(hu:PO X hi th):PE X (.Subscript e (.Slice lo hi none p2) pos) (tSl r te tl th):=by
 intro za s Z H Q I h;refine Subscript_ (zn (he za s Z H _ I h) fun v s1 ⟨x,H1,I1,r1,q1⟩=>?_);refine wpAny_Slice (zn (hl za s1 Z H1 _ I1 q1) fun vl s2 ⟨l,H2,I2,pl,q2⟩=>zn (hu za s2 Z H2 _ I2 q2) fun vu s3 ⟨u,H3,I3,pu,q3⟩=>?_);rw[evalPart_none];refine Zd ?_;have I4:zg X za Z H3 { s3 with heap:=s3.heap.push { cls:=.type "slice",data:=.fields #[vl,vu,.none] } }:=I3.kept (t':=s3.toks) fun b ob q=>Zi _ q
 obtain⟨T,id,hT,ht,hg⟩:=hr za { s3 with heap:=s3.heap.push { cls:=.type "slice",data:=.fields #[vl,vu,.none] } } Z H3 x v vl vu l u s3.heap.objs.size Q I4 r1 (Heap.IsSliceOf.new ..) pl pu q3;show wpAny (model X.prog X.w) X.A (subscriptTail e (.Slice lo hi none p2) v (.ref s3.heap.objs.size)) (EP X za Z Q) X.xe { s3 with heap:=s3.heap.push { cls:=.type "slice",data:=.fields #[vl,vu,.none] } };exact tail_any (ops:=[.ref s3.heap.objs.size,v]) ht hT hg (by with_unfolding_all rfl)
noncomputable def Dd(xs:List V)(lo hi:Option Int):List V:=(xs.drop (HT.sIx xs.length 0 lo)).take (HT.sIx xs.length xs.length hi - HT.sIx xs.length 0 lo)
theorem Up(xs:List V)(lo hi:Option Int):(Dd xs lo hi).length<=xs.length:=by
 unfold Dd;rw[Z7,List.length_drop];lia
noncomputable def UJ(K:W.Frag):V->Option Int->Option Int->Hp->VK->Prop:=fun x lo hi H Q=>∃a xs,x=.ref a/\zt K H a xs /\
 ¬(HT.sIx xs.length 0 lo=0/\HT.sIx xs.length xs.length hi=xs.length)/\∀p,H p=none->Q (.ref p) (upd H p (.tup (Dd xs lo hi)))
theorem P9:SlR X (UJ X.K):=by
 intro za s Z H x v vl vu lo hi sl Q I rx hs pl pu h;obtain⟨a,xs,rfl,hx,hw,q⟩:=h;cases rx;obtain⟨ze,r,ht,hz⟩:=I.tuple hx;have zk:ze.toArray.size=xs.length:=by rw[Zo];exact r.length.symm
 refine⟨"tuple",_,PyProof.Rows.slot_tuple_getitem.lookup,ht.typeIs,?_⟩;refine HT.getItem_tuple_cut ht hs pl pu (by rw[zk];exact hw) ?_ (by rw[zk];exact hz);rw[zk];refine⟨.ref s.heap.objs.size,_,I.laid (t':=s.toks) (o:=.tup (Dd xs lo hi)) (fun b ob q=>Zi _ q) (Zf _) ?_,rfl,q _ (I.hok.fresh (Zf _))⟩;exact⟨ZBU (Up xs lo hi) hz,_,(r.drop (HT.sIx xs.length 0 lo)).take (HT.sIx xs.length xs.length hi - HT.sIx xs.length 0 lo),IsTupN.new _ _⟩
noncomputable def Od(K:W.Frag):R2:=fun x y H Q=>∃a b xs ys,x=.ref a/\y=.ref b/\zt K H a xs/\zt K H b ys/\xs≠[]/\xs.length+ys.length<=sizeLine /\
 (ys=[]->Q (.ref a) H)/\(ys≠[]->∀p,H p=none->Q (.ref p) (upd H p (.tup (xs++ys))))
theorem zj.nil_iff{xs:List V}{us:List Value}(r:zj xs us):us=[] ↔ xs=[]:=by
 cases r with
 | nil=>simp
 | cons _ _=>simp
theorem YR:zy X (binaryOp .Add) (Od X.K):=by
 intro za s Z H x y v u Q I rx ry h;obtain⟨a,b,xs,ys,rfl,rfl,ha,hb,hx,hz,q1,q2⟩:=h;cases rx;cases ry;obtain⟨ze,r1,p1,_⟩:=I.tuple ha;obtain⟨its2,r2,p2,_⟩:=I.tuple hb;refine HT.cat_tup p1 p2 (fun z=>hx (r1.nil_iff.mp z)) (fun z=>⟨.ref a,H,I,rfl,q1 (r2.nil_iff.mp z)⟩) (fun z=>?_) (by rw[<- r1.length,<- r2.length];exact hz);refine⟨.ref s.heap.objs.size,_,I.laid (t':=s.toks) (o:=.tup (xs++ys)) (fun b ob q=>Zi _ q) (Zf _) ?_,rfl,q2 (fun w=>z (r2.nil_iff.mpr w)) _ (I.hok.fresh (Zf _))⟩;exact⟨by rw[Zy];exact hz,_,r1.append r2,IsTupN.new _ _⟩
end
noncomputable def ixN(n:Nat)(i:Int):Option Nat:=if 0<=i then (if i < n then some i.toNat else none) else if -(n:Int)<=i then some (i+n).toNat else none
noncomputable def atI{α:Type}(xs:List α)(i:Int):Option α:=(ixN xs.length i).bind fun j=>xs[j]?
theorem Mp{n:Nat}{i:Int}{j:Nat}(h:ixN n i=some j):seqIndex? i n=some j/\j < n /\ -(n:Int)<=i/\i < n:=by
 unfold ixN at h
 by_cases h0:0<=i
 ·rw[if_pos h0]at h
  by_cases h1:i < n
  ·rw[if_pos h1]at h;have e:i.toNat=j:=Zv h;exact⟨by rw[seqIndex_of h0 h1,e],by lia,by lia,h1⟩
  ·rw[if_neg h1]at h;cases h
 ·rw[if_neg h0]at h
  by_cases h1 : -(n:Int)<=i
  ·rw[if_pos h1]at h;have e:(i+n).toNat=j:=Zv h;exact⟨by rw[seqIndex_neg (by lia) h1,e],by lia,h1,by lia⟩
  ·rw[if_neg h1]at h;cases h
theorem Kw{α:Type}{xs:List α}{i:Int}{v:α}(h:atI xs i=some v):∃j,seqIndex? i xs.length=some j/\xs[j]? = some v/\j < xs.length /\ -(xs.length:Int)<=i/\i < xs.length:=by
 unfold atI at h;cases e:ixN xs.length i with
 | none=>rw[e]at h;cases h
 | some j =>
  rw[e]at h;obtain⟨h1,h2,h3,h4⟩:=Mp e;exact⟨j,h1,h,h2,h3,h4⟩
noncomputable def Jy(b:Expr):Prop:=∀o i,subscripted b false o i=operate [o,i] (getItem o i)
noncomputable def IxR(X:Cx)(r:R2):Prop :=
 ∀(value slice:Expr) (za:List (Addr × Obj)) (s:Shared) (Z:St) (H:Hp) (x y:V) (v u:Value) (Q:VK),zg X za Z H s->zi x v->zi y u->r x y H Q ->
  subscripted slice false v u=operate [v,u] (getItem v u)->wpAny (model X.prog X.w) X.A (subscriptTail value slice v u) (EP X za Z Q) X.xe s
noncomputable def MtR(X:Cx)(id:String)(r:V->List V->Hp->VK->Prop):Prop :=
 ∀(za:List (Addr × Obj)) (s:Shared) (Z:St) (H:Hp) (x:V) (xs:List V) (v:Value) (us:List Value) (Q:VK),zg X za Z H s->zi x v->zj xs us->r x xs H Q ->
  wpAny (model X.prog X.w) X.A (call (.builtin id) (v::us)) (EP X za Z Q) X.xe s
section
variable {X:Cx}{a b:Expr}{ta tb:TE}{pos:Pos}
theorem IxR.or{r r':R2}(h:IxR X r)(h':IxR X r'):IxR X (fun x y H Q=>r x y H Q\/r' x y H Q):=by
 intro value slice za s Z H x y v u Q I rx ry q hs
 rcases q with q | q
 ·exact h value slice za s Z H x y v u Q I rx ry q hs
 ·exact h' value slice za s Z H x y v u Q I rx ry q hs
theorem Yc{r:R2}(hr:IxR X r)(ha:PE X a ta)(hb:PE X b tb)(hs:Jy b):PE X (.Subscript a b pos) (tOp r ta tb):=by
 intro za s Z H Q I h;exact Subscript_ (KQ ha hb I h fun v u s2 x y H2 I2 rx ry q=>hr a b za s2 Z H2 x y v u Q I2 rx ry q (hs _ _))
noncomputable def NW(K:W.Frag):R2:=fun x y H Q=>∃p xs i v,x=.ref p/\y=.int i/\zv K H p xs/\atI xs i=some v/\Q v H
noncomputable def Ni(K:W.Frag):R2:=fun x y H Q=>∃p xs i v,x=.ref p/\y=.int i/\zt K H p xs/\atI xs i=some v/\Q v H
noncomputable def Na:R2:=fun x y H Q=>∃z i c,x=.str z/\y=.int i/\z.length<=sizeLine/\atI z.cps.toList i=some c/\Q (.str ⟨#[c]⟩) H
theorem ix_list:IxR X (NW X.K):=by
 intro value slice za s Z H x y v u Q I rx ry h hs;obtain⟨p,xs,i,z,rfl,rfl,hq,he,q⟩:=h;cases rx;obtain⟨t,rfl⟩:=ry;obtain⟨ze,r,pl,hz⟩:=I.list hq;obtain⟨j,h1,h2,h3,h4,h5⟩:=Kw he;obtain⟨w,ew,rw'⟩:=r.get h2;have hl:=r.length;have hn:=FX;have fin:EP X za Z Q w s:=⟨z,H,I,rw',q⟩
 by_cases h0:0<=i
 ·have hj:i.toNat=j:=by
   rw[seqIndex_of h0 h5]at h1;exact Zv h1
  exact item_listR pl.isList h0 (by lia) (by rw[hj];simpa using ew) fin hs
 ·have hj:(i+(ze.toArray.size:Int)).toNat=j:=by
   rw[seqIndex_neg (by lia) h4]at h1;rw[Zo,<- hl];exact Zv h1
  exact subscriptTail_builtinR (x:=w) pl.isList.typeIs slot_list_getitem.lookup
   (wpAny_getItem_list_neg (Q:=fun r s'=>r=w/\EP X za Z Q r s') pl.isList (by lia) (by rw[Zo] <;> lia) (by lia) (by rw[hj];simpa using ew) ⟨rfl,fin⟩) hs
theorem ix_tup:IxR X (Ni X.K):=by
 intro value slice za s Z H x y v u Q I rx ry h hs;obtain⟨p,xs,i,z,rfl,rfl,hq,he,q⟩:=h;cases rx;obtain⟨t,rfl⟩:=ry;obtain⟨ze,r,pl,hz⟩:=I.tuple hq;obtain⟨j,h1,h2,h3,h4,h5⟩:=Kw he;obtain⟨w,ew,rw'⟩:=r.get h2;have hl:=r.length;have hn:=FX;have fin:EP X za Z Q w s:=⟨z,H,I,rw',q⟩
 exact subscriptTail_builtinR (x:=w) pl.typeIs slot_tuple_getitem.lookup
  (getItem_tuple (j:=j) (Q:=fun r s'=>r=w/\EP X za Z Q r s') pl (by lia) (by lia) (by rw[Zo,<- hl];exact h1) (by simpa using ew) ⟨rfl,fin⟩) hs
theorem Vr:IxR X Na:=by
 intro value slice za s Z H x y v u Q I rx ry h hs;obtain⟨z,i,c,rfl,rfl,hz,he,q⟩:=h;obtain⟨t,rfl⟩:=rx;obtain⟨t',rfl⟩:=ry;obtain⟨j,h1,h2,h3,h4,h5⟩:=Kw he;have hl:z.cps.toList.length=z.length:=by simp[Str.length]
 rw[hl]at h1 h4 h5;have hn:=FX
 exact tail_any (typeIs_str s z t) slot_str_getitem.lookup (getItem_str (c:=c) (by
  have e1:decide (i < -(2 ^ 63:Int))=false:=ZBC (by lia);have e2:decide (i ≥ 2 ^ 63)=false:=ZBC (by lia);rw[e1,e2,Bool.or_false]) (by rw[h1];simpa using h2) ⟨.str ⟨#[c]⟩,H,I.tok _,⟨_,rfl⟩,q⟩) hs
noncomputable def rIx(K:W.Frag):R2:=fun x y H Q=>NW K x y H Q\/Ni K x y H Q\/Na x y H Q
theorem ix_seq:IxR X (rIx X.K):=ix_list.or (ix_tup.or Vr)
theorem WQ(ze:List Value)(n j:Nat)(u:Value):Obj.mapSeq (·.setIfInBounds j u) { cls:=.type "list",data:=.seq ze.toArray n } = { cls:=.type "list",data:=.seq (ze.set j u).toArray n }:=by
 simp[Obj.mapSeq]
theorem zg.lst{za:List (Addr × Obj)}{Z:St}{H:Hp}{s:Shared}{p:Addr}{xs:List V}(I:zg X za Z H s)(h:H p=some (.lst xs)) :
 ∃(ze:List Value) (n:Nat),zj xs ze/\s.heap.get? p=some { cls:=.type "list",data:=.seq ze.toArray n } /\ xs.length<=sizeLine:=by
 obtain⟨z,ze,n,r,e⟩:=I.hok p _ h;exact⟨ze,n,r,e,z⟩
theorem zg.lstUpd {za:List (Addr × Obj)} {Z:St} {H:Hp} {s:Shared} {p:Addr} {xs ys:List V} {ze its':List Value} {n n':Nat} {f:Obj->Obj} (I:zg X za Z H s) (h:H p=some (.lst xs))
 (ho:s.heap.get? p=some { cls:=.type "list",data:=.seq ze.toArray n }) (hf:f { cls:=.type "list",data:=.seq ze.toArray n } = { cls:=.type "list",data:=.seq its'.toArray n' }) (r:zj ys its') (hz:ys.length<=sizeLine) (t:Nat) :
 zg X za Z (upd H p (.lst ys)) { s with heap:=s.heap.update p f,toks:=t }:=by
 have e:(s.heap.update p f).get? p=some { cls:=.type "list",data:=.seq its'.toArray n' }:=by
  rw[ZCB f ho (by rw[hf] <;> rfl),hf]
 refine I.write (x:=p) (e:=p) (by rw[h];trivial) (.inl rfl) (fun b u hb q=>(ZBr _ _ (Ne.symm hb)).trans q) ⟨_,e⟩ ?_;exact⟨hz,its',n',r,e⟩
noncomputable def XZ:V->V->V->Hp->(Hp->Prop)->Prop:=fun o i v H Q=>∃p xs k j,o=.ref p/\i=.int k/\H p=some (.lst xs)/\ixN xs.length k=some j/\Q (upd H p (.lst (xs.set j v)))
theorem ZL:Fa X XZ:=by
 intro za s Z H o i v ov iv u Q I ro ri rv h;obtain⟨p,xs,k,j,rfl,rfl,hp,hj,q⟩:=h;cases ro;obtain⟨t,rfl⟩:=ri;obtain⟨ze,n,r,ho,hz⟩:=I.lst hp;obtain⟨h1,h2,h3,h4⟩:=Mp hj;have hl:=r.length;have hn:=FX
 have I':zg X za Z (upd H p (.lst (xs.set j v))) { s with heap:=s.heap.update p (Obj.mapSeq (·.setIfInBounds j u)) } :=
  I.lstUpd hp ho (WQ ze n j u) (r.set rv j) (by rw[List.length_set];exact hz) s.toks
 by_cases h0:0<=k
 ·have hk:k.toNat=j:=by
   rw[seqIndex_of h0 h4]at h1;exact Zv h1
  exact PySem.W.ki_setAt ho h0 (by lia) (by rw[Zo,<- hl];exact h4) (by rw[hk];exact⟨_,I',q⟩)
 ·have hk:(k+(ze.toArray.size:Int)).toNat=j:=by
   rw[seqIndex_neg (by lia) h3]at h1;rw[Zo,<- hl];exact Zv h1
  exact PySem.W.ki_setBack ho (by lia) (by rw[Zo,<- hl];exact h3) (by lia) (by rw[hk];exact⟨_,I',q⟩)
noncomputable def Cu:V->Bool
 | .non=>true
 | .bl _=>true
 | .int _=>true
 | .str _=>true
 | _=>false
noncomputable def eqV:V->V->Bool
 | .non,.non=>true
 | .bl a,.bl b=>a == b
 | .bl a,.int b=>(if a then 1 else 0) == b
 | .int a,.bl b=>a == (if b then 1 else 0)
 | .int a,.int b=>a == b
 | .str a,.str b=>a == b
 | _,_=>false
theorem VL{A:Around}{s:Shared}{y x:V}{u v:Value}(ry:zi y u)(rx:zi x v)(fy:Cu y=true)(fx:Cu x=true):SeqAt.EqAt A s u v (eqV y x):=by
 cases y with
 | non =>
  cases ry;cases x with
  | non=>cases rx;exact SeqAt.EqAt.same _
  | bl b=>cases rx;exact SeqAt.EqAt.none_bool b
  | int b=>obtain⟨t,rfl⟩:=rx;exact SeqAt.EqAt.none_int b t
  | str b=>obtain⟨t,rfl⟩:=rx;exact SeqAt.EqAt.none_str b t
  | _=>exact absurd (show false=true from fx) ZBF
 | bl a =>
  cases ry;cases x with
  | non=>cases rx;exact SeqAt.EqAt.bool_none a
  | bl b=>cases rx;exact SeqAt.EqAt.bool_bool a b
  | int b=>obtain⟨t,rfl⟩:=rx;exact SeqAt.EqAt.bool_int a b t
  | str b=>obtain⟨t,rfl⟩:=rx;exact SeqAt.EqAt.bool_str a b t
  | _=>exact absurd (show false=true from fx) ZBF
 | int a =>
  obtain⟨t',rfl⟩:=ry;cases x with
  | non=>cases rx;exact SeqAt.EqAt.int_none a t'
  | bl b=>cases rx;exact SeqAt.EqAt.int_bool a t' b
  | int b=>obtain⟨t,rfl⟩:=rx;exact SeqAt.EqAt.int_int a t' b t
  | str b=>obtain⟨t,rfl⟩:=rx;exact SeqAt.EqAt.int_str a t' b t
  | _=>exact absurd (show false=true from fx) ZBF
 | str a =>
  obtain⟨t',rfl⟩:=ry;cases x with
  | non=>cases rx;exact SeqAt.EqAt.str_none a t'
  | bl b=>cases rx;exact SeqAt.EqAt.str_bool a t' b
  | int b=>obtain⟨t,rfl⟩:=rx;exact SeqAt.EqAt.str_int a t' b t
  | str b=>obtain⟨t,rfl⟩:=rx;exact SeqAt.EqAt.str_str a t' b t
  | _=>exact absurd (show false=true from fx) ZBF
 | _=>exact absurd (show false=true from fy) ZBF
noncomputable def eqU(x:V)(u:Value):Bool:=match u with
 | .none=>eqV .non x
 | .bool b=>eqV (.bl b) x
 | .int i _=>eqV (.int i) x
 | .str z _=>eqV (.str z) x
 | _=>false
theorem OG{x y:V}{u:Value}(r:zi y u)(f:Cu y=true):eqU x u=eqV y x:=by
 cases y with
 | non=>cases r;rfl
 | bl b=>cases r;rfl
 | int i=>obtain⟨t,rfl⟩:=r;rfl
 | str z=>obtain⟨t,rfl⟩:=r;rfl
 | _=>exact absurd (show false=true from f) ZBF
theorem M5{A:Around}{s:Shared}{x:V}{v:Value}(rx:zi x v)(fx:Cu x=true):∀{xs:List V} {us:List Value},zj xs us->xs.all Cu=true->∀u∈us,SeqAt.EqAt A s u v (eqU x u)
 | _,_,.nil,_=>fun u hu=>by cases hu
 | y::xs,u::us,.cons r t,f=>fun u' hu=>by
  rw[List.all_cons,Zp]at f
  rcases Zh.mp hu with rfl | hu
  ·rw[OG r f.1];exact VL r rx f.1 fx
  ·exact M5 rx fx t f.2 u' hu
theorem call_list_of:CallR X (.type "list") (fun xs H Q=>∃p ys,xs=[.ref p]/\(zv X.K H p ys\/zt X.K H p ys)/\∀l,H l=none->Q (.ref l) (upd H l (.lst ys))):=by
 intro za s Z H xs us Q I r h;obtain⟨p,ys,rfl,hq,q⟩:=h;obtain⟨u,rfl,rx⟩:=BO r;cases rx
 have fin:∀(ze:List Value),zj ys ze->ys.length<=sizeLine->∀(h':Heap) (c':Nat),(∀b o',s.heap.get? b=some o'->h'.get? b=some o') ->
  h'.get? s.heap.objs.size=some { cls:=.type "list",dict:=none,data:=.seq ze.toArray c',slots:=#[] } -> EP X za Z Q (.ref s.heap.objs.size) { s with heap:=h' }:=fun ze r' hz h' c' kp e =>
  ⟨.ref s.heap.objs.size,_,I.laid (t':=s.toks) kp (Zf _) (show ObjOk X.prog X.w _ h' _ (.lst ys) from⟨hz,ze,c',r',e⟩),rfl,q _ (I.hok.fresh (Zf _))⟩
 rcases hq with hq | hq
 ·obtain⟨ze,r',pl,hz⟩:=I.list hq;have zk:=r'.length;obtain⟨o,ho,hc,n,hd⟩:=pl.isList;exact call_list_seq p (.inl rfl) ho hc hd (fun h' c' kp e=>fin ze r' hz h' c' kp e) (by simp only[Zo] <;> lia)
 ·obtain⟨ze,r',pl,hz⟩:=I.tuple hq;have zk:=r'.length;obtain⟨o,ho,hc,n,hd⟩:=pl;exact call_list_seq p (.inr rfl) ho hc hd (fun h' c' kp e=>fin ze r' hz h' c' kp e) (by simp only[Zo] <;> lia)
theorem call_tuple_of:CallR X (.type "tuple") (fun xs H Q=>∃p ys,xs=[.ref p]/\((zv X.K H p ys/\∀l,H l=none->Q (.ref l) (upd H l (.tup ys)))\/(zt X.K H p ys/\Q (.ref p) H))):=by
 intro za s Z H xs us Q I r h;obtain⟨p,ys,rfl,h⟩:=h;obtain⟨u,rfl,rx⟩:=BO r;cases rx
 rcases h with ⟨hq,q⟩ | ⟨hq,q⟩
 ·obtain⟨ze,r',pl,hz⟩:=I.list hq;have zk:=r'.length;refine call_tuple_list pl.isList (fun h' kp=>?_) (by simp only[Zo] <;> lia);have I1:zg X za Z H { s with heap:=h' }:=I.kept (t':=s.toks) kp
  have I2:zg X za Z (upd H h'.objs.size (.tup ys)) { s with heap:=h'.push { cls:=.type "tuple",data:=.seq ze.toArray } } :=
   I1.laid (t':=s.toks) (fun b o e=>Zi _ e) (Zf _) (show ObjOk X.prog X.w _ _ _ (.tup ys) from⟨hz,ze,r',IsTupN.new _ _⟩)
  exact⟨.ref h'.objs.size,_,I2,rfl,q _ (I1.hok.fresh (Zf _))⟩
 ·obtain⟨ze,r',pl,hz⟩:=I.tuple hq;exact call_tuple_same pl ⟨.ref p,H,I,rfl,q⟩
noncomputable def tyV(K:W.Frag)(T:String)(x:V)(H:Hp):Prop:=match x with
 | .str _=>T = "str"
 | .int _=>T = "int"
 | .ref p=>(T = "list" /\ ∃xs,zv K H p xs)\/(T = "tuple" /\ ∃o,K.lookup p=some o/\o.cls=.type "tuple" /\ o.dict=none) \/
  (T = "dict" /\ ((∃zd,H p=some (.dK zd))\/∃zd,H p=some (.dT zd)))\/(T = "set" /\ ∃S n,H p=some (.set S n))
 | _=>False
theorem Os{za:List (Addr × Obj)}{Z:St}{H:Hp}{s:Shared}{T:String}{x:V}{v:Value}(I:zg X za Z H s)(r:zi x v)(ty:tyV X.K T x H) :
 s.TypeIs v T/\∀a,v=.ref a->∃ob,s.heap.get? a=some ob/\ob.dict=none:=by
 cases x with
 | str z =>
  obtain⟨t,rfl⟩:=r;cases (show T = "str" from ty);exact⟨typeIs_str s z t,fun _ e=>nomatch e⟩
 | int i =>
  obtain⟨t,rfl⟩:=r;cases (show T = "int" from ty);exact⟨typeIs_int s i t,fun _ e=>nomatch e⟩
 | ref p =>
  cases r
  rcases ty with ⟨rfl,xs,hq⟩ | ⟨rfl,o,hk,hc,hd⟩ | ⟨rfl,hk⟩ | ⟨rfl,S,n,hk⟩
  ·obtain⟨ze,_,pl,_⟩:=I.list hq;refine⟨pl.isList.typeIs,fun a e=>?_⟩;cases e;obtain⟨o,n,e,c,hd,_⟩:=pl;exact⟨o,e,hd⟩
  ·refine⟨⟨o,I.kIn p o hk,hc⟩,fun a e=>?_⟩;cases e;exact⟨o,I.kIn _ o hk,hd⟩
  ·have z:∃o,s.heap.get? p=some o/\o.ExactDict:=by
    rcases hk with ⟨zd,hk⟩ | ⟨zd,hk⟩
    ·obtain⟨_,_,_,_,o,_,_,e,ex,_⟩:=I.hok p _ hk;exact⟨o,e,ex⟩
    ·obtain⟨_,_,_,_,o,_,_,e,ex,_⟩:=I.hok p _ hk;exact⟨o,e,ex⟩
   obtain⟨o,e,ex⟩:=z;refine⟨⟨o,e,ex.1⟩,fun a e2=>?_⟩;cases e2;exact⟨o,e,ex.2.1⟩
  ·obtain⟨o,_,_,_,e,ex,_⟩:=I.hok p _ hk;refine⟨⟨o,e,ex.1⟩,fun a e2=>?_⟩;cases e2;exact⟨o,e,ex.2.1⟩
 | _=>exact False.elim ty
noncomputable def NJ(K:W.Frag)(T:String)(r:V->List V->Hp->VK->Prop)(to:TE):TE:=fun Z H Q=>to Z H fun x H1=>tyV K T x H1/\r x [] H1 Q
noncomputable def tBM(K:W.Frag)(T:String)(r:V->List V->Hp->VK->Prop)(to:TE)(t:TA):TE:=fun Z H Q=>to Z H fun x H1=>tyV K T x H1/\t Z H1 fun xs H2=>r x xs H2 Q
variable {o e:Expr}{es:List Expr}{to:TE}{t:TA}{name:Str}{apos cpos:Pos}{T id:String}{r:V->List V->Hp->VK->Prop}
theorem U1 (pa:PlainAttrs T) (slot:Slot T name id) (hty:typeOf (.builtin id)=pure (.type "method_descriptor")) (hm:MtR X id r) (ho:PE X o to)
 (hbase:attributeBase o name X.env (eval o X.env)=eval o X.env:=by rfl) (hline:(apos.endLine == cpos.line)=true:=by rfl):PE X (.Call (.Attribute o name apos) [] [] cpos) (NJ X.K T r to):=by
 intro za s Z H Q I h;refine wpAny_Call_method0_late hbase hline (zn (ho za s Z H _ I h) fun v s1 ⟨x,H1,I1,r1,ty,q1⟩=>?_);obtain⟨h1,h2⟩:=Os I1 r1 ty;exact⟨T,id,pa,slot,hty,h1,h2,Calls.callWith_builtin rfl (PySem.evalArgs_none (hm za s1 Z H1 x [] v [] Q I1 r1 .nil q1))⟩
theorem Gv (pa:PlainAttrs T) (slot:Slot T name id) (hty:typeOf (.builtin id)=pure (.type "method_descriptor")) (hm:MtR X id r) (ho:PE X o to) (ha:PA X (e::es) t)
 (hbase:attributeBase o name X.env (eval o X.env)=eval o X.env:=by rfl)
 (hfew:((backTo cpos (starEach (e::es) X.env)).all (fun x=>!x.1) && (backToKw cpos (keywordEach [] X.env)).all (fun x=>x.1.isSome)
   && decide ((e::es).length+([]:List Keyword).length+(if ([]:List Keyword).isEmpty then 0 else 1) < 30))=true:=by rfl)
 (hline:(apos.endLine == cpos.line)=true:=by rfl) (hs:starEach (e::es) X.env=(false,eval e X.env)::starEach es X.env:=by rfl) (hplain:(backTo cpos (starEach es X.env)).any (·.1)=false:=by rfl) :
 PE X (.Call (.Attribute o name apos) (e::es) [] cpos) (tBM X.K T r to t):=by
 intro za s Z H Q I h;refine wpAny_Call_method_late hbase hfew hline rfl (zn (ho za s Z H _ I h) fun v s1 ⟨x,H1,I1,r1,ty,q1⟩=>?_);obtain⟨h1,h2⟩:=Os I1 r1 ty;refine⟨T,id,pa,slot,hty,h1,h2,?_⟩;have hA:=ha cpos za s1 Z H1 _ I1 q1;rw[hs]at hA ⊢;refine Calls.callWith_builtin (by show(false || (backTo cpos (starEach es X.env)).any (·.1))=false;rw[hplain] <;> rfl) (Calls.evalArgs_plain ?_);exact zn hA fun us s2 ⟨vs,H2,I2,r2,q2⟩=>hm za s2 Z H2 x vs v us Q I2 r1 r2 q2
end
noncomputable def MtM(X:Cx)(id:String)(r:V->List V->Hp->VK->Prop):Prop :=
 ∀(za:List (Addr × Obj)) (s:Shared) (Z:St) (H:Hp) (x:V) (xs:List V) (v:Value) (us:List Value) (Q:VK),zg X za Z H s->zi x v->zj xs us->r x xs H Q ->
  wpAny (model X.prog X.w) X.A (call (.builtin id) (v::us)) (EP X za Z Q) X.xe s
theorem zj.one:∀{x:V} {us:List Value},zj [x] us->∃u,us=[u]/\zi x u
 | _,_,.cons r .nil=>⟨_,rfl,r⟩
theorem zj.rep{xs:List V}{us:List Value}(h:zj xs us):∀k:Nat,zj (List.replicate k xs).flatten (List.replicate k us).flatten
 | 0=>.nil
 | k+1=>by
  rw[ZCT,ZCT,List.flatten_cons,List.flatten_cons];exact zj.append h (zj.rep h k)
theorem Nw(ze:List Value):∀(k:Nat) (zq:List Value),
 List.foldl (fun x1 x2=>x1++x2) zq.toArray (List.replicate k ze.toArray)=(zq++(List.replicate k ze).flatten).toArray
 | 0,zq=>by simp
 | k+1,zq=>by
  have e:zq.toArray++ze.toArray=(zq++ze).toArray:=by simp
  have e2:(zq++ze)++(List.replicate k ze).flatten=zq++(List.replicate (k+1) ze).flatten:=by
   rw[ZCT,List.flatten_cons,List.append_assoc]
  rw[<- e2,<- Nw ze k (zq++ze),<- e,ZCT,List.foldl_cons]
section
variable {X:Cx}{za:List (Addr × Obj)}{Z:St}{H:Hp}{s:Shared}{l b:Addr}{xs ys zs:List V}
theorem zg.lset {ze its':List Value} {n:Nat} {f:Array Value->Array Value} {t':Nat} (I:zg X za Z H s) (hH:H l=some (.lst xs))
 (e:s.heap.get? l=some { cls:=.type "list",data:=.seq ze.toArray n }) (hf:f ze.toArray=its'.toArray) (hv:zj ys its') (hz:ys.length<=sizeLine) :
 zg X za Z (upd H l (.lst ys)) { s with heap:=s.heap.update l (Obj.mapSeq f),toks:=t' }:=by
 have q:=PySem.IsL.update e f;rw[hf]at q;refine I.write (x:=l) (e:=l) (by rw[hH];exact trivial) (.inl rfl) (fun b' u hb hu=>(ZBr s.heap (Obj.mapSeq f) (Ne.symm hb)).trans hu) ⟨_,q⟩ ?_;exact⟨hz,its',_,hv,q⟩
theorem zg.lnew{ze:List Value}{t':Nat}(I:zg X za Z H s)(hv:zj ys ze)(hz:ys.length<=sizeLine) :
 zg X za Z (upd H s.heap.objs.size (.lst ys)) { s with heap:=s.heap.push { cls:=.type "list",data:=.seq ze.toArray },toks:=t' } :=
 I.laid (fun _ _ q=>Zi _ q) (Zf _) ⟨hz,ze,0,hv,Zr _ rfl⟩
theorem zg.fresh(I:zg X za Z H s):H s.heap.objs.size=none:=I.hok.fresh (Zf _)
theorem zg.lstM(I:zg X za Z H s)(hH:H l=some (.lst xs)):xs.length<=sizeLine/\∃(ze:List Value) (n:Nat),zj xs ze/\xs.length=ze.length/\s.heap.get? l=some { cls:=.type "list",data:=.seq ze.toArray n }:=by
 obtain⟨z,ze,n,r,e⟩:=I.hok l _ hH;exact⟨z,ze,n,r,r.length,e⟩
theorem P0{n:Nat}(h:n<=sizeLine):Builtin.List.listTooLong n=false:=by
 unfold Builtin.List.listTooLong;exact ZBC (by lia)
end
section
variable {X:Cx}
noncomputable def Sr:V->List V->Hp->VK->Prop:=fun x vs H Q=>∃l xs y,x=.ref l/\vs=[y]/\H l=some (.lst xs)/\xs.length < sizeLine/\Q .non (upd H l (.lst (xs++[y])))
theorem Xi:MtM X "list.append" Sr:=by
 intro za s Z H x vs v us Q I rx rv h;obtain⟨l,xs,y,rfl,rfl,hH,hz,q⟩:=h;cases rx;obtain⟨u,rfl,ru⟩:=rv.one;obtain⟨z,ze,n,r,hl,e⟩:=I.lstM hH;refine call_meets F.slot_list_append ⟨_,e,rfl⟩ F.entry_list_append (F.args_list_append_2 _ _) (PySem.list_append l ze.toArray n u (by rw[Zo];lia)) ⟨e,?_⟩;refine⟨.non,_,I.lset (its':=ze++[u]) hH e (by simp) (r.append (.cons ru .nil)) ?_,rfl,q⟩;rw[Zy,List.length_singleton];lia
noncomputable def Ot:R2:=fun x y H Q=>∃l b xs zs,x=.ref l/\y=.ref b/\H l=some (.lst xs)/\H b=some (.lst zs)/\xs.length+zs.length<=sizeLine/\∀p,H p=none->Q (.ref p) (upd H p (.lst (xs++zs)))
theorem Wz:zy X (binaryOp .Add) Ot:=by
 intro za s Z H x y v u Q I rx ry h;obtain⟨l,b,xs,zs,rfl,rfl,hH,hB,hz,q⟩:=h;cases rx;cases ry;obtain⟨z,ze,n,r,hl,e⟩:=I.lstM hH;obtain⟨z2,its2,n2,r2,hl2,e2⟩:=I.lstM hB;refine PySem.P.add_list e e2 ?_ (by rw[Zo,Zo];lia);have ea:ze.toArray++its2.toArray=(ze++its2).toArray:=by simp
 rw[ea];exact⟨.ref _,_,I.lnew (t':=s.toks) (r.append r2) (by rw[Zy];lia),rfl,q _ I.fresh⟩
noncomputable def Ob:R2:=fun x y H Q=>∃l k xs,x=.ref l/\y=.int k/\H l=some (.lst xs) /\ -(2 ^ 63)<=k/\k < 2 ^ 63/\xs.length * k.toNat<=sizeLine /\
 ∀p,H p=none->Q (.ref p) (upd H p (.lst (List.replicate k.toNat xs).flatten))
theorem Pm{α:Type}(xs:List α)(k:Nat):(List.replicate k xs).flatten.length=k * xs.length:=by
 induction k with
 | zero=>simp
 | succ k ih=>rw[ZCT,List.flatten_cons,Zy,ih,Nat.succ_mul,Nat.add_comm]
theorem YF:zy X (binaryOp .Mult) Ob:=by
 intro za s Z H x y v u Q I rx ry h;obtain⟨l,k,xs,rfl,rfl,hH,h1,h2,hz,q⟩:=h;cases rx;obtain⟨t,rfl⟩:=ry;obtain⟨z,ze,n,r,hl,e⟩:=I.lstM hH;have zk:ze.toArray.size * k.toNat<=sizeLine:=by rw[Zo,<- hl];exact hz
 have hcap:¬ze.toArray.size * k.toNat > (2 ^ 63 - 1) / 8:=by
  have:(sizeLine:Nat)<=(2 ^ 63 - 1) / 8:=by decide
  lia
 have hfit:¬(!Builtin.List.listFitsIndex k)=true:=by
  rw[fitsIndex_both h1 h2];exact ZBF
 have hlong:¬Builtin.List.listTooLong (ze.toArray.size * k.toNat)=true:=by
  rw[P0 zk];exact ZBF
 have hnew:List.foldl (fun x1 x2=>x1++x2) #[] (List.replicate (if ze.toArray.isEmpty=true then 0 else k.toNat) ze.toArray)=(List.replicate k.toNat ze).flatten.toArray:=by
  have f0:∀m:Nat,List.foldl (fun x1 x2=>x1++x2) #[] (List.replicate m ze.toArray)=(List.replicate m ze).flatten.toArray:=fun m=>by
   have:=Nw ze m []
   rw[List.nil_append]at this;exact this
  rw[f0];cases ze with
  | nil=>simp
  | cons a r'=>rw[if_neg (by simp)]
 refine wpAny_binaryOp_repeat_ref (T:="list") (U:="int") (by decide) ⟨_,e,rfl⟩ (fun s'=>typeIs_int s' k t) noFill_list_mul F.fills_int_mul F.slot_int_rmul repeat_list F.slot_int_index.lookup
  (call_meets F.slot_int_rmul (typeIs_int s k t) F.entry_int_rmul (F.args_int_rmul_2 _ _) (int___rmul___int_list k t l ze.toArray n)
    ⟨e,rfl,⟨_,e,rfl⟩,call_meets F.slot_list_mul ⟨_,e,rfl⟩ F.entry_list_mul (F.args_list_mul_2 _ _) (AutoListH.list___mul___list_int_3 l ze.toArray n k t hfit hcap hlong) ⟨e,?_⟩⟩)
 rw[hnew];exact⟨.ref _,_,I.lnew (t':=s.toks) (r.rep k.toNat) (by rw[Pm,ZBc];exact hz),rfl,q _ I.fresh⟩
end
end L2
namespace Att
open PySem PySem.W PySem.Calls PyProof.Rows
theorem YT{P:Params}{h:Heap}:∀(ns:List Int) (vs:List Value),WellAll P h vs (ns.map WData.int)->IntsAre vs ns:=by
 intro ns
 induction ns with
 | nil =>
  intro vs w;rw[List.map_nil]at w;cases w;exact .nil
 | cons n ns ih =>
  intro vs w;rw[Z5]at w;cases w with
  | cons a b =>
   cases a;exact .cons _ _ (ih _ b)
theorem Rz {l:OpenLaw} {n:Nat} (hn:l.most=some n) {P:Params} {h:Heap} {args:List WData} {vals:List Value}
 (hpre:l.row.toRowW.claim.pre args=true) (hwl:WellAll P h vals args) :
 ∃a vs ns,vals=[Value.ref a]/\args=[WData.list (ns.map WData.int)]/\h.get? a=some { cls:=.type "list",data:=.seq vs.toArray } /\ IntsAre vs ns/\ns.length<=n:=by
 have hsh:WShape.hasAll [] args [.list .int]=true:=(pre_splitW hpre).1;have hc:l.pre.holds [] { args:=args } = true:=(pre_splitW hpre).2;obtain⟨d,r,rfl,h1,h2⟩:=hasAllW_cons hsh;obtain rfl:=hasAllW_nil h2;obtain⟨xs,rfl,h3⟩:=hasW_list h1;obtain⟨ns,rfl⟩:=items_int h3
 have zk:ns.length<=n:=by
  unfold OpenLaw.pre at hc
  have h4:(WTm.not (.lt (.lit (.int (n:Int))) (.len (.arg 0)))).holds [] { args:=[.list (ns.map .int)] } = true:=by
   have h4:=(holds_andW hc).1;rw[hn]at h4;exact h4
  have h5:=condW_of h4 (w_not (w_lt w_lit (w_len_list (w_arg rfl))));rw[Ze]at h5;refine Nat.le_of_not_lt fun q=>?_
  have q':(n:Int) < ((ns.length:Nat):Int):=by lia
  first
   | (rw[Zl q']at h5;exact absurd h5 (by decide))
   | (simp at h5;lia)
 cases hwl with
 | cons w1 w2 =>
  cases w2;cases w1 with
  | list ho hall=>exact⟨_,_,ns,rfl,rfl,ho,YT ns _ hall,zk⟩
theorem W2(l:OpenLaw)(args:List WData):l.row.toRowW.claim.post args (.bool true) args=true :=
 postW_of (r:=l.row.toRowW) (X:=(true == true))
  (show WShape.has [] (.bool true) .bool=true by first | rfl | decide | simp[WShape.has,WShape.arms,WShape.armsAll])
  (show(WTm.eq .res (.lit (.bool true))).value [] { args:=args,res:=some (.bool true),after:=args } = some (.bool (true == true)) from w_eq_bool (w_res rfl) w_lit) rfl
theorem attach_call {l:OpenLaw} {n:Nat} {q:Program} {loose:List Str} {XP:(Str->Option Value)->Heap->Prop} {YP:World->Heap->Prop} {d:DefRec}
 (hn:l.most=some n) (hdf:d.params.defaults=[])
 (call:∀(w:World) (s₀ s₁:Shared) (mg mb:Str->Option Value) (fa:Addr) (o:Obj) (pm cd doc:Value) (a:Addr) (vs:List Value) (ns:List Int),
   Ground q loose [] XP w s₀ mg mb s₁.heap->YP w s₁.heap ->
   s₁.heap.get? fa=some o->o.data=.func (docDef d.name d.params d.body d.scope pm cd doc)->s₁.heap.CodeRec cd d.name->mg d.name=some (.ref fa) ->
   s₁.heap.get? a=some { cls:=.type "list",data:=.seq vs.toArray } -> IntsAre vs ns->ns.length<=n->s₁.gens = #[] ->
   codeAny (model l.prog w) callerA (.call (.ref fa) ⟨[.ref a],[]⟩) (fun r s'=>r=.ok (.ret (.bool true))/\OldK s₁.heap s'.heap/\s'.os=s₁.os/\AllBare s'.gens) s₁) :
 WalkO q loose XP YP l.row.toRowW d [] (fun f vs=>PySem.call f vs):=by
 intro w s₀ s₁ mg mb G Y fa o pm cd doc dV kV ho hd hcd hD hmg hg args vals as hpre hlay hrd hwl hlo;obtain rfl:dV=.none:=Dflts.none hD hdf;obtain rfl:kV=.none:=Dflts.noKw hD;obtain⟨a,vs,ns,rfl,rfl,hobj,hints,zk⟩:=Rz hn hpre hwl;refine enter_call (ZBm (call w s₀ s₁ mg mb fa o pm cd doc a vs ns G Y ho (fd_plain hd) hcd hmg hobj hints zk hg) fun r s' hq=>?_);obtain⟨rfl,h2,h3,h4⟩:=hq;exact⟨.inl ⟨.bool true,.bool true,[],rfl,fun _=>rfl,.bool true,W2 l _,fun _=>⟨List.Pairwise.nil,fun _ hm=>(nomatch hm)⟩⟩,h2,h3,h4⟩
section
variable {prog:Program}{w:World}{A:Around}{E:Value->Shared->Prop}{s:Shared}{K:Frag}
noncomputable def GK(h:Heap):Heap:={ h with objs:=#[] }
theorem MB(h:Heap)(b:Addr):(GK h).get? b=none:=by
 cases e:(GK h).get? b with
 | none=>rfl
 | some o=>exact absurd (Zj e) (ZBt _)
theorem VI{h:Heap}{L:Addr}{m:Str->Option Value}(n:h.Ns L m):Fr (GK h) L h m :=
 ⟨n,fun b o e=>(by rw[MB]at e;cases e),Zu _⟩
end
end Att
namespace L2
open PySem PySem.Spec PyProof.Rows
variable {X:Cx}{x:Str}{i kt n own:Nat}{H H':Hp}{a b l p:Addr}{pos tpos:Pos}{K:W.Frag}{Z σc:St}{v y:V}{xs ys:List V}{r r':R2}{ds:List Dv}{A:Around}{Q:VK}{o:HO}{ns:List Int}{ta te:TE}{g:Nat->Int}{es:List Expr}{s:Shared}{P:Program}{w:World}{u:Value}{zd:List (List Key × V)}
theorem Lx:∀{vs:List Value} {ns:List Int},IntsAre vs ns->zj (ns.map V.int) vs
 | _,_,.nil=>.nil
 | _,_,.cons n t h=>.cons ⟨t,rfl⟩ (Lx h)
noncomputable def Bg(s:Stmt)(j:Nat):Stmt:=match s with
 | .ClassDef _ _ _ body _ _ _ _ _ _ _=>body.getD j (.Pass ⟨0,0,0,0⟩)
 | _=>.Pass ⟨0,0,0,0⟩
noncomputable def Br(s:Stmt):Arguments:=match s with
 | .FunctionDef _ a _ _ _ _ _ _ _ _=>a
 | _=>{ posonlyargs:=[],args:=[],vararg:=none,kwonlyargs:=[],kw_defaults:=[],kwarg:=none,defaults:=[] }
noncomputable def Bc(s:Stmt):List Stmt:=match s with
 | .FunctionDef _ _ b _ _ _ _ _ _ _=>b
 | _=>[]
noncomputable def AJ(s:Stmt):Scope:=match s with
 | .FunctionDef _ _ _ _ _ _ sc _ _ _=>sc
 | _=>{ kind:=.function,names:=[],isGenerator:=false,isCoroutine:=false }
noncomputable abbrev CX0:CXT:=fun _ _ _ _ _ _=>False
noncomputable abbrev E0:XK:=fun _ _ _=>False
theorem AG:Du CX0 X E0:=fun _ _ _ _ _ _ _ h=>h.elim
structure Fun(K:W.Frag)(x qual:Str)(st:Stmt)(f:Addr)(fd:FuncData):Prop where
 ex:∃(oc:Value) (od:Option Addr) (kV doc pm:Value) (an:Option Addr) (zB ct:Value) (osl:Array (Option Value)),
  fd=PySem.W.fnOf x qual (Br st) (Bc st) (AJ st) .none kV doc pm an zB ct/\K.lookup f=some ⟨oc,od,.func fd,osl⟩/\PySem.W.codeIn K zB qual=true
 kp:PySem.W.keepIn K (.ref f)=true
section
variable {P:Program}{w:World}{K:W.Frag}{mg:Str->Option Value}{base:Heap}
theorem Fun.ok {qual:Str} {st:Stmt} {f:Addr} {fd:FuncData} {N ps:List Str} {k:Nat} {sp:Sp} (F:Fun K x qual st f fd) (S:FnScope N ps (AJ st)) (len:∀vs H Q E,sp vs H Q E->vs.length=ps.length)
 (hbody:∀(zB:Value) (A:Around) (outer:List Env) (s:Shared) (H:Hp) (vs:List V) (Q:VK) (E:XK),Room k (A.deeper (envOfC qual (AJ st) s.heap.objs.size f zB))->sp vs H Q E ->
   ∃t,PSs (Dn CX0 P w K mg base N qual (AJ st) f zB A outer s H E).nox (Bc st) t/\t { nx:=fun _ H'=>Q .non H',rt:=Q } (DA N vs) H):FnOk P w K mg base CX0 (k+1) f fd ps sp:=by
 obtain⟨oc,od,kV,doc,pm,an,zB,ct,osl,rfl,lk,hcd⟩:=F.ex;refine Pb lk hcd S len fun A outer s H vs Q E hr hsp=>?_
 obtain⟨t,h,q⟩:=hbody zB A outer s H vs Q E hr hsp;exact⟨t,h.nox,q⟩
theorem Fun.binds {qual:Str} {st:Stmt} {f:Addr} {fd:FuncData} {ps:List Str} (F:Fun K x qual st f fd)
 (h:∀(kV doc pm:Value) (an:Option Addr) (zB ct:Value) (us:List Value),us.length=ps.length->bindArgs (PySem.W.fnOf x qual (Br st) (Bc st) (AJ st) .none kV doc pm an zB ct) ⟨us,[]⟩=pure (ps.zip us)):Binds K fd ps []:=by
 obtain⟨oc,od,kV,doc,pm,an,zB,ct,osl,rfl,lk,hcd⟩:=F.ex;exact .all (h kV doc pm an zB ct)
theorem D2 {qual:Str} {st:Stmt} {f:Addr} {oc:Value} {od an:Option Addr} {osl:Array (Option Value)} {kV doc pm zB ct:Value} (l:K.lookup f=some ⟨oc,od,.func (PySem.W.fnOf x qual (Br st) (Bc st) (AJ st) .none kV doc pm an zB ct),osl⟩)
 (c:PySem.W.codeIn K zB qual=true) (k:PySem.W.keepIn K (.ref f)=true):Fun K x qual st f (PySem.W.fnOf x qual (Br st) (Bc st) (AJ st) .none kV doc pm an zB ct):=⟨⟨oc,od,kV,doc,pm,an,zB,ct,osl,rfl,l,c⟩,k⟩
end
theorem Aj(h:n<=1000):n < sizeLine:=ZCU h (by decide)
theorem Wr{A B:Prop}(h:B):if false=true then A else B:=by
 rw[if_neg ZBF];exact h
theorem Ab{c A B:Prop}[Decidable c](h1:c->A)(h2:¬c->B):if c then A else B:=by
 by_cases h:c
 ·rw[if_pos h];exact h1 h
 ·rw[if_neg h];exact h2 h
noncomputable def zc(H H':Hp):Prop:=∀b o,H b=some o->H' b=some o
theorem zc.refl(H:Hp):zc H H:=fun _ _ h=>h
theorem zc.trans{H1 H2:Hp}(a:zc H H1)(b:zc H1 H2):zc H H2:=fun c o h=>b c o (a c o h)
theorem zc.free(e:zc H H')(h:H' l=Option.none):H l=Option.none:=by
 cases q:H l with
 | none=>rfl
 | some o =>
  rw[e l o q]at h;cases h
theorem Ec:∀(names:List (Str × NameKind)) (n:Nat) (zq:List (Str × Addr)),cellsFrom n names zq=cellsFrom n names []++zq
 | [],_,_=>rfl
 | (name,kind)::r,n,zq=>by
  unfold cellsFrom;split
  ·rw[Ec r (n+1) ((name,n)::zq),Ec r (n+1) [(name,n)],List.append_assoc];rfl
  ·exact Ec r n zq
theorem cellsFrom_kind:∀(names:List (Str × NameKind)) (n:Nat) (zq:List (Str × Addr)) (x:Str) (c:Addr),(x,c)∈cellsFrom n names zq->(x,c)∈zq\/(x,NameKind.cell)∈names
 | [],_,_,_,_,h=>.inl h
 | (name,kind)::r,n,zq,x,c,h=>by
  unfold cellsFrom at h;split at h
  ·rename_i hk
   rcases cellsFrom_kind r _ _ x c h with h | h
   ·rcases Zh.mp h with e | h
    ·cases e
     have:kind=.cell:=by simpa using hk
     subst this;exact .inr ZBD
    ·exact .inl h
   ·exact .inr (Zz _ h)
  ·rcases cellsFrom_kind r _ _ x c h with h | h
   ·exact .inl h
   ·exact .inr (Zz _ h)
theorem GA{α:Type}:∀(l r:List (Str × α)),(l++r).lookup x=(match l.lookup x with | some c=>some c | none=>r.lookup x)
 | [],r=>rfl
 | (k,v)::l,r=>by
  show List.lookup x ((k,v)::(l++r))=_;rw[ZBh,ZBh];cases x == k with
  | true=>rfl
  | false=>exact GA l r
theorem MW{α:Type}:∀{l:List (Str × α)},(∀c,(x,c)∉l)->l.lookup x=none
 | [],_=>rfl
 | (k,v)::l,h=>by
  rw[ZBh];cases hb:x == k with
  | true =>
   have:x=k:=by simpa using hb
   subst this;exact absurd ZBD (h v)
  | false=>exact MW fun c hc=>h c (Zz _ hc)
noncomputable def BW(cells:List (Str × Addr)):List (Str × NameKind)->List (Str × Addr)->List (Str × Addr)
 | [],zq=>zq
 | (n,k)::r,zq=>if k == .free then BW cells r ((n,(cells.lookup n).getD 0)::zq) else BW cells r zq
theorem LQ{scope:Scope}{env:Env}(h:∀y∈scope.names,y.2=.free->∃c,env.cells.lookup y.1=some c):closureFor scope env=pure (BW env.cells scope.names []):=by
 have all:∀(names:List (Str × NameKind)) (zq:List (Str × Addr)),(∀y∈names,y.2=.free->∃c,env.cells.lookup y.1=some c) ->
  (forIn names zq fun(x:Str × NameKind) cs=>(if (x.2 == NameKind.free)=true then (do let a <- cellOf env x.1;pure (ForInStep.yield ((x.1,a)::cs))) else pure (ForInStep.yield cs):Sem (ForInStep (List (Str × Addr)))))=(pure (BW env.cells names zq):Sem _):=by
  intro names
  induction names with
  | nil=>intro zq _;rfl
  | cons y r ih =>
   intro zq hy;obtain⟨n,k⟩:=y;rw[List.forIn_cons];have hr:∀y∈r,y.2=.free->∃c,env.cells.lookup y.1=some c:=fun y hm=>hy y (Zz _ hm)
   unfold BW
   by_cases hk:(k == NameKind.free)=true
   ·obtain⟨c,e⟩:=hy (n,k) ZBD (by simpa using hk);rw[if_pos hk,if_pos hk];have e2:cellOf env n=pure c:=by unfold cellOf;rw[show env.cells.lookup n=some c from e]
    rw[e2];rw[show env.cells.lookup n=some c from e];exact ih _ hr
   ·rw[if_neg hk,if_neg hk];exact ih _ hr
 have q:=all scope.names [] h;unfold closureFor;refine Eq.trans ?_ (congrArg (fun t=>t >>= pure) q |>.trans (by rfl))
 congr 1
theorem clOf_mem{cells:List (Str × Addr)}:∀(names:List (Str × NameKind)) (zq:List (Str × Addr)) (x:Str) (c:Addr),(∀y∈names,y.2=.free->∃c,cells.lookup y.1=some c)->(x,c)∈BW cells names zq->(x,c)∈zq\/((x,NameKind.free)∈names/\cells.lookup x=some c)
 | [],_,_,_,_,h=>.inl h
 | (n,k)::r,zq,x,c,hy,h=>by
  have hr:∀y∈r,y.2=.free->∃c,cells.lookup y.1=some c:=fun y hm=>hy y (Zz _ hm)
  unfold BW at h;split at h
  ·rename_i hk;have hk':k=.free:=by simpa using hk
   subst hk';obtain⟨d,e⟩:=hy (n,.free) ZBD rfl
   rcases clOf_mem r _ x c hr h with h | ⟨h,h'⟩
   ·rcases Zh.mp h with e' | h
    ·obtain⟨e1,e2⟩:=Prod.mk.inj e';rw[show cells.lookup n=some d from e]at e2;subst e1;exact .inr ⟨ZBD,by rw[e2];exact e⟩
    ·exact .inl h
   ·exact .inr ⟨Zz _ h,h'⟩
  ·rcases clOf_mem r _ x c hr h with h | ⟨h,h'⟩
   ·exact .inl h
   ·exact .inr ⟨Zz _ h,h'⟩
theorem IM{cells:List (Str × Addr)}:∀(names:List (Str × NameKind)) (zq:List (Str × Addr)),(∃c,(x,c)∈zq)->∃c,(x,c)∈BW cells names zq
 | [],_,h=>h
 | (n,k)::r,zq,⟨c,h⟩=>by
  unfold BW;split
  ·exact IM r _ ⟨c,Zz _ h⟩
  ·exact IM r _ ⟨c,h⟩
theorem Jv{cells:List (Str × Addr)}:∀(names:List (Str × NameKind)) (zq:List (Str × Addr)),(x,NameKind.free)∈names->∃c,(x,c)∈BW cells names zq
 | (n,k)::r,zq,h=>by
  unfold BW
  rcases Zh.mp h with e | h
  ·cases e;rw[if_pos (by decide)];exact IM r _ ⟨_,ZBD⟩
  ·split
   ·exact Jv r _ h
   ·exact Jv r _ h
theorem NX{α:Type}:∀{l:List (Str × α)},(∃c,(x,c)∈l)->∃c,l.lookup x=some c
 | (k,v)::l,⟨c,h⟩=>by
  rw[ZBh];cases hb:x == k with
  | true=>exact⟨v,rfl⟩
  | false =>
   rcases Zh.mp h with e | h
   ·cases e;simp at hb
   ·exact NX ⟨c,h⟩
noncomputable def Fl(scope sc:Scope):Scope :=
 { scope with names:=scope.names.map fun(n,k)=>if (k == .free && sc.kind == .function && sc.names.lookup n == some .cell) then (n,.cell) else (n,k) }
structure CompScope(scope sc:Scope):Prop where
 kind:scope.kind=.function
 nd:(scope.names.map (·.1)).Nodup
 fr:∀y∈scope.names,y.2=.free->sc.names.lookup y.1=some .cell\/sc.names.lookup y.1=some .free
theorem D4{α:Type}:∀{l:List (Str × α)} {x:Str} {c:α},(l.map (·.1)).Nodup->(x,c)∈l->l.lookup x=some c
 | (k,v)::l,x,c,nd,h=>by
  obtain⟨n1,n2⟩:=ZCA.mp (show(k::l.map (·.1)).Nodup from nd);rw[ZBh]
  rcases Zh.mp h with e | h
  ·cases e;simp
  ·have zz:¬x=k:=fun e=>n1 (by rw[<- e];exact Zk.mpr ⟨(x,c),h,rfl⟩)
   have:(x == k)=false:=by simpa using zz
   rw[this];exact D4 n2 h
theorem MI{scope sc:Scope}:(Fl scope sc).names.lookup x=(scope.names.lookup x).map fun k=>if (k == .free && sc.kind == .function && sc.names.lookup x == some .cell) then NameKind.cell else k:=by
 show(scope.names.map _).lookup x=_
 generalize scope.names=names
 induction names with
 | nil=>rfl
 | cons y r ih =>
  obtain⟨n,k⟩:=y;rw[Z5]
  by_cases hc:(k == .free && sc.kind == .function && sc.names.lookup n == some .cell)=true
  ·show List.lookup x ((if (k == .free && sc.kind == .function && sc.names.lookup n == some .cell)=true then (n,NameKind.cell) else (n,k))::_)=_;rw[if_pos hc,ZBh,ZBh];cases hb:x == n with
   | true =>
    have hx:x=n:=by simpa using hb
    subst hx;show some NameKind.cell=some (if _ then _ else _);rw[if_pos hc]
   | false=>exact ih
  ·show List.lookup x ((if (k == .free && sc.kind == .function && sc.names.lookup n == some .cell)=true then (n,NameKind.cell) else (n,k))::_)=_;rw[if_neg hc,ZBh,ZBh];cases hb:x == n with
   | true =>
    have hx:x=n:=by simpa using hb
    subst hx;show some k=some (if _ then _ else _);rw[if_neg hc]
   | false=>exact ih
structure CArgs where
 za:List (Addr × Obj)
 cells:List (Str × Addr)
 s:Shared
 H:Hp
 fp:List Addr
 C:Addr
noncomputable def Cx.comp(X:Cx)(scope:Scope)(N':List Str)(c:CArgs):Cx where
 prog:=X.prog
 w:=X.w
 K:=X.K
 mg:=X.mg
 base:=X.base
 A:=X.A
 N:=N'
 s₀:=c.s
 H₀:=c.H
 env:=compEnvC scope c.cells c.C X.env
 outer:=X.stack
 stack:=X.stack
 ex:=c.fp
 fn:=fun x=>scope.names.lookup x == some .cell
 calm:=X.calm
 pn:=X.pn++c.za
 xe:=fun _ _=>False
noncomputable def cSt(own:Nat)(ix:List Nat)(Z:St):St:=List.replicate own none++ix.map fun i=>(Z[i]?).join
section
variable {X:Cx}{za:List (Addr × Obj)}{Z:St}{H:Hp}{s s4:Shared}{fp:List Addr}{scope:Scope}{N':List Str}{own:Nat}{ix:List Nat}
theorem Uf (I:zg X za Z H s) (f2:∀b∈fp,BJ X za H b) (hob:∀b∈fp,∃o,s.heap.get? b=some o) (S:CompScope scope X.env.scope)
 (zk:N'.length=own+ix.length) (hN:(N'.drop own).map some=ix.map (X.N[·]?)) (hfr:∀x∈N'.drop own,scope.names.lookup x=some .free)
 {C:Addr} (hC:s.heap.objs.size < C) (k4:∀b o,s.heap.get? b=some o->s4.heap.get? b=some o) (os4:s4.os=s.os) (g4:s4.gens=s.gens)
 (n4:∃m,s4.heap.Ns C m) (own4:∀x c,(x,c)∈cellsFrom (C+1) scope.names []->s4.heap.IsCell c none/\C+1<=c)
 (apart:(cellsFrom (C+1) scope.names []).Pairwise fun x y=>x.2≠y.2) :
 zg (X.comp scope N' ⟨za,cellsFrom (C+1) scope.names (BW X.env.cells scope.names []),s,H,fp,C⟩) [] (cSt own ix Z) H s4:=by
 have hfree:∀y∈scope.names,y.2=.free->∃c,X.env.cells.lookup y.1=some c:=fun y hy h=>I.ok.has y.1 (S.fr y hy h)
 -- a cell of the block
 have cases:∀x c,(cellsFrom (C+1) scope.names (BW X.env.cells scope.names [])).lookup x=some c ->
  ((x,c)∈cellsFrom (C+1) scope.names []/\scope.names.lookup x=some .cell)\/((x,NameKind.free)∈scope.names/\X.env.cells.lookup x=some c):=fun x c h=>by
  rw[Ec,GA]at h;cases e:(cellsFrom (C+1) scope.names []).lookup x with
  | some d =>
   rw[e]at h;cases h;have m:=mem_of_lookup e
   rcases cellsFrom_kind _ _ _ _ _ m with z | z
   ·exact absurd z (by simp)
   ·exact .inl ⟨m,D4 S.nd z⟩
  | none =>
   rw[e]at h
   rcases clOf_mem _ _ _ _ hfree (mem_of_lookup h) with z | z
   ·exact absurd z (by simp)
   ·exact .inr z
 have oldlt:∀x c,X.env.cells.lookup x=some c->c < s.heap.objs.size:=fun x c e=>let ⟨v,q⟩:=I.cell x c e;q.lt
 have kin:∀x,(Fl scope X.env.scope).names.lookup x=some .cell\/(Fl scope X.env.scope).names.lookup x=some .free->(scope.names.lookup x=some .cell\/scope.names.lookup x=some .free):=fun x h=>by
  rw[MI]at h;cases e:scope.names.lookup x with
  | none=>rw[e]at h;simp at h
  | some k =>
   rw[e]at h;cases k with
   | cell=>exact .inl rfl
   | free=>exact .inr rfl
   | _=>exact absurd h (by simp)
 have hCn:∀b o,s.heap.get? b=some o->b≠C:=fun b o e z=>by have:=Zj e;rw[z]at this;exact Z2 _ (ZBu this hC)
 have lk:∀x,(x,NameKind.free)∈scope.names->∀c,X.env.cells.lookup x=some c->(cellsFrom (C+1) scope.names (BW X.env.cells scope.names [])).lookup x=some c:=fun x hx c hc=>by
  have hl:scope.names.lookup x=some .free:=D4 S.nd hx;rw[Ec,GA,MW (l:=cellsFrom (C+1) scope.names []) fun d hd=>?_]
  ·obtain⟨d,hd⟩:=NX (Jv (cells:=X.env.cells) scope.names [] hx)
   rcases clOf_mem _ _ _ _ hfree (mem_of_lookup hd) with z | ⟨_,z⟩
   ·exact absurd z (by simp)
   ·rw[hc]at z;cases z;exact hd
  ·rcases cellsFrom_kind _ _ _ _ _ hd with z | z
   ·exact absurd z (by simp)
   ·rw[D4 S.nd z]at hl;cases hl
 refine⟨⟨I.ok.mod,S.kind,I.ok.glob,I.ok.blt,ZBa hC,fun x y c hx hy=>?_,fun x hx=>?_,fun x c hf hx=>?_,I.ok.hd,I.ok.frames,.inl rfl,fun b hb=>⟨?_,fun x c hx=>?_⟩,fun b o e=>I.bs b o e,ZBU I.ok.bsz I.sz,fun b o e hb=>?_,fun b hb z=>?_,I.stack,I.stkFree⟩,
  os4,by rw[g4];exact I.bare,Un.kept k4,?_,fun x c hx=>?_,?_,fun x c hx=>?_,fun p hp=>?_,I.hok.kept k4,?_⟩
 ·-- inj
  rcases cases x c hx with ⟨m1,_⟩ | ⟨_,m1⟩ <;> rcases cases y c hy with ⟨m2,_⟩ | ⟨_,m2⟩
  ·exact name_of_addr apart m1 m2
  ·exact absurd (Z0 (ZBu (oldlt y c m2) hC) (ZCJ (own4 x c m1).2)) (Z2 _)
  ·exact absurd (Z0 (ZBu (oldlt x c m1) hC) (ZCJ (own4 y c m2).2)) (Z2 _)
  ·exact I.ok.inj x y c m1 m2
 ·-- has
  rcases kin x hx with h | h
  ·have q:=PySem.W.cellsFrom_some scope.names (C+1) (BW X.env.cells scope.names []) (.inl h);exact ZCe.mp q
  ·obtain⟨c,e⟩:=hfree (x,.free) (mem_of_lookup h) rfl;exact⟨c,lk x (mem_of_lookup h) c e⟩
 ·-- cab
  rcases cases x c hx with ⟨m1,_⟩ | ⟨m1,_⟩
  ·exact ZBa (Z0 hC (ZCJ (own4 x c m1).2))
  ·have hl:=D4 S.nd m1;have hf':(scope.names.lookup x == some NameKind.cell)=true:=hf;rw[hl]at hf';cases hf'
 ·obtain⟨o,e⟩:=hob b hb;exact hCn b o e
 ·intro z;obtain⟨o,e⟩:=hob b hb;have zm:=Zj e
  rcases cases x c hx with ⟨m1,_⟩ | ⟨_,m1⟩
  ·subst z;exact absurd (Z0 (ZBu zm hC) (ZCJ (own4 x c m1).2)) (Z2 _)
  ·exact(f2 b hb).2.2.2.2.1 x c m1 z
 ·-- noex
  have e1:=(I.ok.bs b o e).1
  rcases(f2 b hb).2.2.2.1 with z | z
  ·exact I.ok.noex b o e z
  ·exact absurd (Z0 (Zj e1) z) (Z2 _)
 ·-- exfs
  rcases Zh.mp (I.stkSub b z) with e | z
  ·exact(f2 b hb).2.1 e
  ·exact(f2 b hb).2.2.1 z
 ·-- loc
  obtain⟨m,hm⟩:=n4;obtain⟨m0,hn0,hl0⟩:=I.loc;refine⟨m,hm,fun i x v h1 h2 h3=>?_⟩;have h1:N'[i]? = some x:=h1;unfold cSt at h2
  by_cases hi:i < own
  ·rw[ZB1 (by simpa using hi),List.getElem?_replicate]at h2;split at h2 <;> cases h2
  ·rw[ZB0 (by simpa using hi),ZCS,Zm]at h2;obtain⟨j,hj⟩:∃j,i=own+j:=⟨i - own,by lia⟩;subst hj;rw[Nat.add_sub_cancel_left]at h2;cases e:ix[j]? with
   | none=>rw[e]at h2;cases h2
   | some q =>
    rw[e]at h2;have h2:some (Z[q]?).join=some (some v):=h2;have h2:(Z[q]?).join=some v:=Zv h2
    have hσ:Z[q]? = some (some v):=by
     cases eq:Z[q]? with
     | none=>rw[eq]at h2;cases h2
     | some z=>rw[eq]at h2;simp at h2;rw[h2]
    have hx:(N'.drop own)[j]? = some x:=by rw[List.getElem?_drop];exact h1
    have hNq:X.N[q]? = some x:=by
     have:=congrArg (·[j]?) hN
     simp only[Zm,hx,e,ZCC]at this;exact(Zv this).symm
    have hfx:=hfr x (ZBQ hx);have hmem:=mem_of_lookup hfx;have kx:=S.fr (x,.free) hmem rfl;have vis:Vis X.env.scope x:=.inr kx;obtain⟨u,r,l⟩:=hl0 q x v hNq hσ vis;refine⟨u,r,?_⟩
    rcases l with ⟨k,_⟩ | ⟨k,c,hc,z⟩
    ·exfalso;have k':X.env.scope.names.lookup x=some .local:=k
     rcases kx with kx | kx
     ·rw[show X.env.scope.names.lookup x=some .cell from kx]at k';cases k'
     ·rw[show X.env.scope.names.lookup x=some .free from kx]at k';cases k'
    ·refine .inr ⟨?_,c,lk x hmem c hc,z.keeps k4⟩
     show(Fl scope X.env.scope).names.lookup x=some .cell\/(Fl scope X.env.scope).names.lookup x=some .free
     rw[MI,hfx]
     by_cases hc:(NameKind.free == .free && X.env.scope.kind == .function && X.env.scope.names.lookup x == some .cell)=true
     ·exact .inl (by rw[ZCC,if_pos hc])
     ·exact .inr (by rw[ZCC,if_neg hc])
 ·rcases cases x c hx with ⟨m1,_⟩ | ⟨_,m1⟩
  ·exact⟨_,(own4 x c m1).1⟩
  ·obtain⟨v,q⟩:=I.cell x c m1;exact⟨v,q.keeps k4⟩
 ·exact I.hok.fresh (ZBa hC)
 ·rcases cases x c hx with ⟨m1,_⟩ | ⟨_,m1⟩
  ·exact I.hok.fresh (ZBa (Z0 hC (ZCJ (own4 x c m1).2)))
  ·exact I.freeC x c m1
 ·have hp:p∈X.pn++za:=by
   have:p∈(X.pn++za)++[]:=hp
   rwa [ZBI]at this
  obtain⟨e,n,ne,nf,d⟩:=I.pin p hp;refine⟨k4 _ _ e,n,hCn _ _ e,fun z=>?_,d⟩
  rcases Zh.mp (I.stkSub _ z) with q | q
  ·exact ne q
  ·exact nf q
 ·unfold cSt;rw[Zy,ZCS,Ze];exact zk.symm
end
section
variable {prog:Program}{w:World}{A:Around}{R:Result->Shared->Prop}{s:Shared}
theorem YH {elt target iter:Expr} {ifs:List Expr} {scope:Scope} {it zq:Value} {env:Env} (I:Nat->Shared->Prop)
 (turn:∀n s,I n s->wpAny (model prog w) A (pyNext it) (fun r s₁=>match r with
   | none=>R (.ok .next) s₁
   | some v=>wpAny (model prog w) A (letOwnedTupleGo target it v) (fun _ s₁'=>wpAny (model prog w) A (assign target env v) (fun _ s₂ =>
    wpAny (model prog w) A (forIn ifs true fun c r=>if r=true then do let ok <- isTrue c env (eval c env);pure (ForInStep.yield ok) else pure (ForInStep.yield r)) (fun ok s₃ =>
     if ok=true then wpAny (model prog w) A (eval elt env) (fun x s₄ =>
      wpAny (model prog w) A (call (.builtin "list.append") [zq,x]) (fun _ s₅=>∃m,m < n/\I m s₅) (fun _ _=>False) s₄) (fun _ _=>False) s₃
     else ∃m,m < n/\I m s₃) (fun _ _=>False) s₂) (fun _ _=>False) s₁') (fun _ _=>False) s₁) (fun _ _=>False) s)
 (n:Nat) (h:I n s) :
 codeAny (model prog w) A (.compLoop (.ListComp elt [⟨target,iter,ifs,0⟩] scope pos) 0 it zq env) R s:=by
 refine codeAny_loop rfl I (fun n s hI=>?_) n h;show wpAny _ A ((compTurn (.ListComp elt [⟨target,iter,ifs,0⟩] scope pos) 0 it zq env).onRaise (fun x=>do noteFrame x env;theTreesLotGoes x)) _ _ s;refine wpAny_noted ?_;rw[compTurn_list];refine Zc (ZB8 (Zc (ZBH (turn n s hI) (fun r s₁ h₁=>?_) fun _ _ h'=>h'.elim)));cases r with
 | none=>exact Zd h₁
 | some v =>
  refine Zc (ZBH h₁ (fun _ s₁' h₁'=>?_) fun _ _ h'=>h'.elim);refine Zc (ZBH h₁' (fun _ s₂ h₂=>Zc (ZBH h₂ (fun ok s₃ h₃=>?_) fun _ _ h'=>h'.elim)) fun _ _ h'=>h'.elim);cases ok with
  | false=>exact Zd ⟨rfl,h₃⟩
  | true =>
   exact Zc (Zc (ZBH h₃ (fun x s₄ h₄=>Zc (ZBH h₄ (fun _ s₅ h₅=>Zd (Zd ⟨rfl,h₅⟩)) fun _ _ h'=>h'.elim)) fun _ _ h'=>h'.elim))
end
noncomputable def PTs(X:Cx)(ifs:List Expr)(t:TT):Prop :=
 ∀(za:List (Addr × Obj)) (s:Shared) (Z:St) (H:Hp) (Q:Bool->Hp->Prop),zg X za Z H s->t Z H Q ->
  wpAny (model X.prog X.w) X.A (forIn ifs true fun c r=>if r=true then do let ok <- isTrue c X.env (eval c X.env);pure (ForInStep.yield ok) else pure (ForInStep.yield r)) (TP X za Z Q) X.xe s
noncomputable def Yu:TT:=fun _ H Q=>Q true H
theorem Av:PTs X [] Yu:=fun _ _ _ H _ I h=>wpAny_tests_nil ⟨H,I,h⟩
theorem DD{c:Expr}{t:TT}(h:PT X c t):PTs X [c] t:=fun za s Z H Q I hq=>wpAny_tests_one (h za s Z H Q I hq)
noncomputable def DS(own:Nat)(g:TG):Prop:=∀x Z H Q,g x Z H Q->g x Z H fun σ' H'=>(σ'.length=Z.length/\∀i,own<=i->σ'[i]? = Z[i]?)/\Q σ' H'
noncomputable def HN(own:Nat)(g:TGs):Prop:=∀x Z H Q,g x Z H Q->g x Z H fun σ' H'=>(σ'.length=Z.length/\∀i,own<=i->σ'[i]? = Z[i]?)/\Q σ' H'
theorem AX(h:i < own):DS own (Ak i):=fun x Z H Q q =>
 ⟨⟨by simp,fun j hj=>by rw[List.getElem?_set_ne (by lia)]⟩,q⟩
theorem Co:HN own IR:=fun x Z H Q ⟨e,q⟩=>⟨e,⟨rfl,fun _ _=>rfl⟩,q⟩
noncomputable def Dq(g:TG):Prop:=∀x Z H (Q Q':St->Hp->Prop),(∀Z H,Q Z H->Q' Z H)->g x Z H Q->g x Z H Q'
noncomputable def Fg(g:TGs):Prop:=∀x Z H (Q Q':St->Hp->Prop),(∀Z H,Q Z H->Q' Z H)->g x Z H Q->g x Z H Q'
theorem Ar:Dq (Ak i):=fun _ _ _ _ _ h q=>h _ _ q
theorem BM:Fg IR:=fun _ _ _ _ _ h ⟨e,q⟩=>⟨e,h _ _ q⟩
theorem Cc{t:TG}{u:TGs}(h1:Dq t)(h2:Fg u):Fg (Kz t u):=fun _ _ _ _ _ h ⟨v,r,e,q⟩=>⟨v,r,e,h1 _ _ _ _ _ (fun _ _ q=>h2 _ _ _ _ _ h q) q⟩
theorem BQ{t:TG}{u:TGs}(m:Dq t)(mu:Fg u)(h1:DS own t)(h2:HN own u):HN own (Kz t u):=fun x Z H Q ⟨v,r,e,q⟩ =>
 ⟨v,r,e,m _ _ _ _ _ (fun σ' H' ⟨⟨e1,e2⟩,q⟩=>mu _ _ _ _ _ (fun σ'' H'' ⟨⟨e3,e4⟩,q⟩=>⟨⟨e3.trans e1,fun i hi=>(e4 i hi).trans (e2 i hi)⟩,q⟩) (h2 r σ' H' Q q)) (h1 v Z H _ q)⟩
theorem Ce{t:TGs}(h:HN own t):DS own (JY K n t):=fun x Z H Q ⟨a,xs,e,s,l,q⟩=>⟨a,xs,e,s,l,h _ _ _ _ q⟩
theorem ZW{ix:List Nat}(h:(cSt own ix Z)[i]? = some (some v)):own<=i:=by
 unfold cSt at h
 by_cases hi:i < own
 ·rw[ZB1 (by simpa using hi),List.getElem?_replicate]at h;split at h <;> cases h
 ·lia
noncomputable def Cw(J:It)(g:TG)(tc:TT)(te:TE)(σc:St)(Q:VK)(H1:Hp):Prop :=
 ∃W:Nat->Nat->List V->Hp->Prop,(∃m,W 0 m [] H1)/\∀i m ys H,W i m ys H ->
  (J.stop i H/\∀p,H p=none->Q (.ref p) (upd H p (.lst ys))) \/
  (J.go i H/\ys.length < sizeLine/\∃N:List V->Hp->Prop,(∀ys' H',N ys' H'->∃m',m' < m/\W (i+1) m' ys' H')/\∀x H',J.yld i H x H'->g x σc H' fun σ4 H4=>tc σ4 H4 fun b H5 =>
    if b=true then te σ4 H5 fun y H6=>N (ys++[y]) H6 else N ys H5)
noncomputable def Fe(wi:TI)(own:Nat)(ix:List Nat)(g:TG)(tc:TT)(te:TE):TE:=fun Z H Q=>wi Z H fun J H1=>Cw J g tc te (cSt own ix Z) Q H1
section
variable {X:Cx}{za:List (Addr × Obj)}{Z:St}{H:Hp}{s:Shared}{fp:List Addr}{it:Addr}{tn:Nat->Heap->Prop}{J:It}{tg iter elt:Expr}{ifs:List Expr}{scope:Scope}{pos:Pos}{N':List Str}{own:Nat}{ix:List Nat}{g:TG}{tc:TT}{te:TE}{Q:VK}{E:Value->Shared->Prop}
theorem Lu (I:zg X za Z H s) (T:Turn X.prog X.w X.K tg J fp it tn) (st:tn 0 s.heap) (f2:∀b∈fp,BJ X za H b) (hc:X.calm=true) (S:CompScope scope X.env.scope)
 (zk:N'.length=own+ix.length) (hN:(N'.drop own).map some=ix.map (X.N[·]?)) (hfr:∀x∈N'.drop own,scope.names.lookup x=some .free)
 (hg:∀c,PG (X.comp scope N' c) tg g) (hgo:DS own g) (ht:∀c,PTs (X.comp scope N' c) ifs tc) (he:∀c,PE (X.comp scope N' c) elt te)
 (hq:Cw J g tc te (cSt own ix Z) Q H) {RR:Value->Addr->Result->Shared->Prop}
 (fin:∀(D C:Addr) (s':Shared) (H':Hp) (ys:List V) (ze:List Value) (n:Nat),s'.os=s.os->AllBare s'.gens->Un (frs X.stack) fp H H' s.heap s'.heap->HOk X.prog X.w H' s'.heap->(∃m,s'.heap.Ns C m)->H' C=none->s.heap.objs.size<=C ->
   H' D=none->s.heap.objs.size<=D->D≠C->s'.heap.get? D=some { cls:=.type "list",data:=.seq ze.toArray n } -> zj ys ze->ys.length<=sizeLine->(∀p,H' p=none->Q (.ref p) (upd H' p (.lst ys)))->RR (.ref D) C (.ok .next) s') :
 wpAny (model X.prog X.w) X.A (newList []) (fun zq s₃=>wpAny (model X.prog X.w) X.A (newFunctionEnv scope X.env.globals (BW X.env.cells scope.names []) [] X.env.qual none .none (some X.env)) (fun cenv s₄ =>
  codeAny (model X.prog X.w) X.A (.compStart (.ListComp elt [⟨tg,iter,ifs,0⟩] scope pos) 0 (.ref it) zq { cenv with scope:=relabel scope X.env }) (RR zq cenv.locals) s₄) E s₃) E s:=by
 obtain⟨W,⟨m0,w0⟩,turn⟩:=hq;have hob:∀b∈fp,∃o,s.heap.get? b=some o:=fun b hb=>let ⟨o,e,_⟩:=T.obj 0 _ st b hb;⟨o,e⟩
 refine ZBJ ?_;generalize hH1:s.heap.push { cls:=.type "list",dict:=none,data:=.seq ([]:List Value).toArray } = h1;have hs1:h1.objs.size=s.heap.objs.size+1:=by rw[<- hH1,ZBP]
 have k1:∀b o,s.heap.get? b=some o->h1.get? b=some o:=fun b o e=>by rw[<- hH1];exact Zi _ e
 have d1:h1.get? s.heap.objs.size=some { cls:=.type "list",data:=.seq ([]:List Value).toArray }:=by rw[<- hH1];exact Zr _ rfl
 simp only[newFunctionEnv,Option.isSome_some,if_true];refine Zc (wpAny_alloc ?_);generalize hH2:(({ s with heap:=h1 }:Shared).heap.push { cls:=.type "dict",data:=.dict #[] })=h2;have hH2':h1.push { cls:=.type "dict",data:=.dict #[] } = h2:=hH2;have hs2:h2.objs.size=h1.objs.size+1:=by rw[<- hH2',ZBP]
 have k2:∀b o,h1.get? b=some o->h2.get? b=some o:=fun b o e=>by rw[<- hH2'];exact Zi _ e
 have n2:h2.Ns h1.objs.size (fun _=>none):=by rw[<- hH2'];exact Heap.Ns.new h1 (.type "dict")
 refine Zc (wpAny_layCells _ (fun name kind cells=>by cases hkc:kind == NameKind.cell <;> simp[hkc]) _ _ _ _ ?_);have ok:=cellsFrom_ok scope.names h2 (h1.objs.size+1) [] ⟨fun _ _ hm=>(nomatch hm),List.Pairwise.nil⟩ (by rw[hs2];exact Zf _);rw[hs2]at ok;show wpAny _ _ (forIn ([]:List (Str × Value)) PUnit.unit _ >>= _) _ _ _;rw[List.forIn_nil];refine Zc (Zd (Zd ?_));show codeAny _ _ (.compStart _ 0 (.ref it) (.ref s.heap.objs.size) (compEnvC scope (cellsFrom h2.objs.size scope.names (BW X.env.cells scope.names [])) h1.objs.size X.env)) (RR (.ref s.heap.objs.size) h1.objs.size) { s with heap:=pushCells h2 scope.names };rw[hs2];generalize hH3:pushCells h2 scope.names=h3 at ok ⊢;have k3:∀b o,h2.get? b=some o->h3.get? b=some o:=fun b o e=>by rw[<- hH3];exact pushCells_keeps _ _ b o e
 have kk:∀b o,s.heap.get? b=some o->h3.get? b=some o:=fun b o e=>k3 b o (k2 b o (k1 b o e))
 have d3:h3.get? s.heap.objs.size=some { cls:=.type "list",data:=.seq ([]:List Value).toArray }:=k3 _ _ (k2 _ _ d1);have hC:s.heap.objs.size < h1.objs.size:=by rw[hs1];exact ZBb _
 have I3:zg (X.comp scope N' ⟨za,cellsFrom (h1.objs.size+1) scope.names (BW X.env.cells scope.names []),s,H,fp,h1.objs.size⟩) [] (cSt own ix Z) H { s with heap:=h3 } :=
  Uf (s4:={ s with heap:=h3 }) I f2 hob S zk hN hfr hC kk rfl rfl ⟨_,n2.keeps k3⟩ (fun x c hm=>ok.empty x c hm) ok.apart
 generalize hcs:cellsFrom (h1.objs.size+1) scope.names (BW X.env.cells scope.names [])=cs at I3 ⊢;generalize hCC:h1.objs.size=C at *;generalize hDD:s.heap.objs.size=D at *;have hY:=I3.ok
 -- what is fixed of the records
 have sD:D≠C/\(∀x c,cs.lookup x=some c->c≠D)/\D∉frs X.stack/\∀p∈X.pn++za,p.1≠D:=by
  refine⟨Zs hC,fun x c e z=>?_,fun z=>?_,fun p hp z=>?_⟩
  ·subst z;have e':=e;rw[<- hcs,Ec,GA]at e';cases q:(cellsFrom (C+1) scope.names []).lookup x with
   | some d =>
    rw[q]at e';cases e'
    have:=(ok.empty x c (mem_of_lookup q)).2
    exact absurd (Z0 hC (ZCJ this)) (Z2 _)
   | none =>
    rw[q]at e';have hfree:∀y∈scope.names,y.2=.free->∃c,X.env.cells.lookup y.1=some c:=fun y hy h=>I.ok.has y.1 (S.fr y hy h)
    rcases clOf_mem _ _ _ _ hfree (mem_of_lookup e') with z | ⟨_,z⟩
    ·exact absurd z (by simp)
    ·obtain⟨v,q⟩:=I.cell x c z
     have:=q.lt
     rw[hDD]at this;exact Z2 _ this
  ·exact(I3.nofs (a:=D) (by exact absurd z (by
    intro z';obtain⟨_,o,ho,_⟩:=(show s.heap.FunFrames X.base X.stack from I.stack).mem z'
    have:=Zj ho
    rw[hDD]at this;exact Z2 _ this))) z
  ·have:=Zj (I.pin p hp).1
   rw[z,hDD]at this;exact Z2 _ this
 have stat:∀{H':Hp},(∀b∈fp,H' b=none)->∀b∈fp,BJ (X.comp scope N' ⟨za,cs,s,H,fp,C⟩) [] H' b:=fun {H'} hn b hb=>by
  refine⟨hn b hb,(hY.exf b hb).1,hY.exfs b hb,.inl hb,(hY.exf b hb).2,fun p hp=>?_⟩;have hp:p∈(X.pn++za)++[]:=hp;rw[ZBI]at hp;exact(f2 b hb).2.2.2.2.2 p hp
 have statD:∀{H':Hp},H' D=none->BJ (X.comp scope N' ⟨za,cs,s,H,fp,C⟩) [] H' D:=fun {H'} hn=>by
  refine⟨hn,sD.1,sD.2.2.1,.inr (ZB9 hDD),sD.2.1,fun p hp=>?_⟩;have hp:p∈(X.pn++za)++[]:=hp;rw[ZBI]at hp;exact sD.2.2.2 p hp
 have loop:codeAny (model X.prog X.w) X.A (.compLoop (.ListComp elt [⟨tg,iter,ifs,0⟩] scope pos) 0 (.ref it) (.ref D) (compEnvC scope cs C X.env)) (RR (.ref D) C) { s with heap:=h3 }:=by
  refine YH (fun n s'=>∃(i:Nat) (H':Hp) (ys:List V) (ze:List Value) (k:Nat),zg (X.comp scope N' ⟨za,cs,s,H,fp,C⟩) [] (cSt own ix Z) H' s'/\tn i s'.heap/\(∀b∈fp,H' b=none)/\H' D=none /\
   s'.heap.get? D=some { cls:=.type "list",data:=.seq ze.toArray k } /\ zj ys ze/\ys.length<=sizeLine/\W i n ys H') ?_ m0
   ⟨0,H,[],[],0,I3,T.keep _ _ _ st fun b _ o e=>kk b o e,fun b hb=>(f2 b hb).1,I.hok.fresh (ZB9 hDD),d3,.nil,Zu _,w0⟩
  rintro n s4 ⟨i,H4,ys,ze,k,I4,st4,fr4,dn4,d4,rv4,z4,w4⟩
  rcases turn i n ys H4 w4 with ⟨stop,qn⟩ | ⟨go,zl,N,hN2,step⟩
  ·have ID:=I4.pinned (fp:=[D]) (fun b hb=>by rw[Zq.mp hb];exact statD dn4) (fun b hb=>by rw[Zq.mp hb];exact⟨_,d4,fun v z=>nomatch z⟩)
   have nD:∀b∈fp,b≠D:=fun b hb z=>by
    obtain⟨o,e⟩:=hob b hb
    have:=Zj e
    rw[z,hDD]at this;exact Z2 _ this
   have stat':∀b∈fp,BJ (X.comp scope N' ⟨za,cs,s,H,fp,C⟩) ([]++CI [D] s4.heap) H4 b:=fun b hb=>by
    obtain⟨q1,q2,q3,q4,q5,q6⟩:=stat fr4 b hb;refine⟨q1,q2,q3,q4,q5,fun p hp=>?_⟩
    rcases ZBE.mp hp with z | z
    ·exact q6 p (ZBO _ z)
    ·have:=(K5 (by simpa using z:p∈CI [D] s4.heap)).1
     rw[Zq.mp this];exact fun z=>nD b hb z.symm
   refine zn (T.done (X.comp scope N' ⟨za,cs,s,H,fp,C⟩) rfl rfl rfl hc i _ s4 _ H4 (fun _ _=>False) ID stat' st4 stop) fun r s5 ⟨hr,I5⟩=>?_
   subst hr;obtain⟨m,hm,_⟩:=I5.loc;refine fin D C s5 H4 ys ze k I5.os I5.bare I5.base I5.hok ⟨m,hm⟩ I5.free (ZBa hC) dn4 (Zf _) sD.1 ?_ rv4 z4 qn
   ·exact(I5.pin (D,_) (Zx _ (Zx _ (Cj (Zq.mpr rfl) d4)))).1
  ·have nD:∀b∈fp,b≠D:=fun b hb z=>by
    obtain⟨o,e⟩:=hob b hb
    have:=Zj e
    rw[z,hDD]at this;exact Z2 _ this
   have ID:=I4.pinned (fp:=[D]) (fun b hb=>by rw[Zq.mp hb];exact statD dn4) (fun b hb=>by rw[Zq.mp hb];exact⟨_,d4,fun v z=>nomatch z⟩)
   have statP:∀{H':Hp},(∀b∈fp,H' b=none)->∀b∈fp,BJ (X.comp scope N' ⟨za,cs,s,H,fp,C⟩) ([]++CI [D] s4.heap) H' b:=fun {H'} hn b hb=>by
    obtain⟨q1,q2,q3,q4,q5,q6⟩:=stat hn b hb;refine⟨q1,q2,q3,q4,q5,fun p hp=>?_⟩
    rcases ZBE.mp hp with z | z
    ·exact q6 p (ZBO _ z)
    ·have:=(K5 (by simpa using z:p∈CI [D] s4.heap)).1
     rw[Zq.mp this];exact fun z=>nD b hb z.symm
   refine zn (T.item (X.comp scope N' ⟨za,cs,s,H,fp,C⟩) rfl rfl rfl hc i _ s4 _ H4 (fun _ _=>False) ID (statP fr4) st4 go) fun r s5 ⟨u,hr,h5⟩=>?_
   subst hr;refine zn h5 fun _ s6 ⟨x,H6,I6,r6,y6,st6,fr6⟩=>?_
   have I6':=I6.pinned (statP fr6) (T.obj _ _ st6);refine zn (hg _ _ s6 _ H6 x u _ I6' r6 (hgo _ _ _ _ (step x H6 y6))) fun _ s7 ⟨σ7,H7,I7,⟨e7,k7⟩,q7⟩=>?_
   have I7':zg (X.comp scope N' ⟨za,cs,s,H,fp,C⟩) ([]++CI [D] s4.heap++CI fp s6.heap) σ7 H7 s7:=I7;refine zn (ht _ _ s7 σ7 H7 _ I7' q7) fun b s8 ⟨H8,I8,q8⟩=>?_
   -- what is kept through the turn
   have back:∀{s9:Shared} {H9:Hp},zg (X.comp scope N' ⟨za,cs,s,H,fp,C⟩) ([]++CI [D] s4.heap++CI fp s6.heap) σ7 H9 s9 ->
    zg (X.comp scope N' ⟨za,cs,s,H,fp,C⟩) [] (cSt own ix Z) H9 s9/\tn (i+1) s9.heap/\(∀b∈fp,H9 b=none)/\H9 D=none/\s9.heap.get? D=some { cls:=.type "list",data:=.seq ze.toArray k }:=fun {s9 H9} I9=>by
    have pD:=I9.pin (D,_) (Zx _ (ZBO _ (Zx _ (Cj (Zq.mpr rfl) d4))));refine⟨I9.unpinned.unpinned.weak (by rw[e7]) fun j v hj=>?_,T.keep _ _ _ st6 fun b hb o e=>(I9.pin (b,o) (Zx _ (Zx _ (Cj hb e)))).1,fun b hb=>?_,pD.2.1,pD.1⟩
    ·rw[k7 j (ZW hj)];exact hj
    ·obtain⟨o,e,_⟩:=T.obj _ _ st6 b hb;exact(I9.pin (b,o) (Zx _ (Zx _ (Cj hb e)))).2.1
   cases b with
   | false =>
    rw[if_neg ZBF]at q8;obtain⟨m',hm,w8⟩:=hN2 _ _ q8;obtain⟨b1,b2,b3,b4,b5⟩:=back I8;exact⟨m',hm,i+1,H8,ys,ze,k,b1,b2,b3,b4,b5,rv4,z4,w8⟩
   | true =>
    rw[if_pos rfl]at q8;rw[if_pos rfl];refine zn (he _ _ s8 σ7 H8 _ I8 q8) fun yv s9 ⟨y,H9,I9,r9,q9⟩=>?_
    obtain⟨m',hm,w9⟩:=hN2 _ _ q9;obtain⟨b1,b2,b3,b4,b5⟩:=back I9;have hl:=rv4.length;refine call_meets F.slot_list_append ⟨_,b5,rfl⟩ F.entry_list_append (F.args_list_append_2 _ _) (PySem.list_append D ze.toArray k yv (by rw[Zo];lia)) ⟨b5,?_⟩;have up:=PySem.IsL.update b5 (fun a=>a.push yv);have keep:∀b o,b≠D->s9.heap.get? b=some o->(s9.heap.update D (Obj.mapSeq fun a=>a.push yv)).get? b=some o:=fun b o hb q=>(ZBr _ _ (Ne.symm hb)).trans q
    obtain⟨f0,f1,f2',f3,f4,f5⟩:=statD b4;refine⟨m',hm,i+1,H9,ys++[y],ze++[yv],(if ((ze.toArray.push yv).size == ze.toArray.size)=true then k else k+1),b1.turned (t':=s9.toks) keep b4 f1 f3 f4 f5,?_,b3,b4,?_,rv4.append (.cons r9 .nil),?_,w9⟩
    ·exact T.keep _ _ _ b2 fun b hb o e=>keep b o (nD b hb) e
    ·have e2:(ze.toArray.push yv)=(ze++[yv]).toArray:=by simp
     rw[<- e2];exact up
    ·rw[Zy,List.length_singleton];lia
 exact codeAny_compStart_list loop (T.self X.A 0 _ _ _ (T.keep _ _ _ st fun b _ o e=>kk b o e) loop)
end
section
variable {X:Cx}{za:List (Addr × Obj)}{Z:St}{H:Hp}{s:Shared}{fp:List Addr}{it:Addr}{tn:Nat->Heap->Prop}{J:It}{tg iter elt:Expr}{ifs:List Expr}{scope:Scope}{pos:Pos}{N':List Str}{own:Nat}{ix:List Nat}{g:TG}{tc:TT}{te:TE}{wi:TI}{E:Value->Shared->Prop}
theorem LB {s':Shared} {D:Addr} {ze:List Value} (I:zg X za Z H s) (f2:∀b∈fp,BJ X za H b) (ho:s'.os=s.os) (hg:AllBare s'.gens) (u:Un (frs X.stack) fp H H' s.heap s'.heap) (hok:HOk X.prog X.w H' s'.heap)
 (dn:H' D=none) (ds:s.heap.objs.size<=D) (d:s'.heap.get? D=some { cls:=.type "list",data:=.seq ze.toArray n }) (rv:zj ys ze) (z:ys.length<=sizeLine):zg X za Z (upd H' D (.lst ys)) s':=by
 have nD:∀b o,s.heap.get? b=some o->b≠D:=fun b o e q=>by rw[q,Heap.get?_none_of_le ds]at e;cases e
 have nH:∀b o,H' b=some o->b≠D:=fun b o e q=>by rw[q,dn]at e;cases e
 refine I.call' (ch:=fp) ho ⟨u.keep,u.slot,fun b o e q hx=>?_,u.there,fun b xs e=>?_,fun b o v e=>?_,fun b ps e=>?_⟩ (fun b o e=>?_) hg fun b hb=>?_
 ·rw[AI (nD b o e)];exact u.free b o e q hx
 ·have:=u.tups b xs e
  rw[AI (nH _ _ this)];exact this
 ·have:=u.frzs b o v e
  rw[AI (nH _ _ this)];exact this
 ·obtain⟨more,q⟩:=u.tbls b ps e;exact⟨more,by rw[AI (nH _ _ q)];exact q⟩
 ·by_cases hb:b=D
  ·subst hb;rw[AD]at e;cases e;exact⟨z,ze,n,rv,d⟩
  ·rw[AI hb]at e;exact(hok b o e).stay (fun _ _ _ q=>q) (fun c q=>by rw[AI (nH _ _ q)];exact q) fun c xs q=>by rw[AI (nH _ _ q)];exact q
 ·obtain⟨q1,q2,q3,q4,q5,q6⟩:=f2 b hb;exact⟨q4,q2,q5,q6⟩
theorem zg.dictGone{s':Shared}{h':Heap}{C:Addr}{σ':St}(I:zg X za Z H s)(J:zg X za σ' H' s')(hC:s.heap.objs.size<=C)(hn:H' C=none)(k:Heap.SameBut C s'.heap h'):zg X za σ' H' { s' with heap:=h' }:=by
 have hC0:=Heap.get?_none_of_le hC;refine J.turned (t':=s'.toks) (fun b o hb e=>(k.2 b hb).trans e) hn (fun z=>?_) (.inr (ZBU I.sz hC)) (fun x c e z=>?_) fun p hp z=>?_
 ·obtain⟨m,⟨o,_,_,ho,_⟩,_⟩:=I.loc;rw[<- z,hC0]at ho;cases ho
 ·obtain⟨v,o,ho,_⟩:=I.cell x c e;rw[z,hC0]at ho;cases ho
 ·have:=(I.pin p hp).1
  rw[z,hC0]at this;cases this
theorem QG (hc:X.calm=true) (hi:PI X tg iter wi) (S:CompScope scope X.env.scope)
 (zk:N'.length=own+ix.length) (hN:(N'.drop own).map some=ix.map (X.N[·]?)) (hfr:∀x∈N'.drop own,scope.names.lookup x=some .free)
 (hg:∀c,PG (X.comp scope N' c) tg g) (hgo:DS own g) (ht:∀c,PTs (X.comp scope N' c) ifs tc) (he:∀c,PE (X.comp scope N' c) elt te)
 (hs:∀x,foldedSetIterable iter X.env x=pure x:=by intro _;rfl):PE X (.ListComp elt [⟨tg,iter,ifs,0⟩] scope pos) (Fe wi own ix g tc te):=by
 intro za s Z H Q I h;rw[eval_ListComp];have hfree:∀y∈scope.names,y.2=.free->∃c,X.env.cells.lookup y.1=some c:=fun y hy h=>I.ok.has y.1 (S.fr y hy h)
 refine wpAny_comprehension_free (use:=none) rfl hs (LQ hfree) S.kind (fun y hy hl=>D4 S.nd (by rw[<- hl];exact hy)) ?_;refine zn (hi za s Z H _ I h) fun v s1 h1=>zn h1 fun itv s2 h2=>?_
 obtain⟨it,fp,tn,J,H2,e,I2,T,st2,f2,q2⟩:=h2;subst e;refine Lu (RR:=fun zq C=>compPost (model X.prog X.w) X.A X.xe none (EP X za Z Q) zq C) I2 T st2 f2 hc S zk hN hfr hg hgo ht he q2 ?_;intro D C s' H' ys ze n ho hgn u hok hm hC hCs hD hDs hDC d rv z q;obtain⟨m,hm⟩:=hm;have I3:=LB I2 f2 ho hgn u hok hD hDs d rv z;refine⟨m,hm,fun h' hs'=>?_⟩;exact⟨.ref D,_,I2.dictGone I3 hCs (by rw[AI (Ne.symm hDC)];exact hC) hs',rfl,q D hD⟩
theorem TH {y:Str} {py spos:Pos} (hc:X.calm=true) (hnd:X.N.Nodup) (hiy:X.N[i]? = some y) (hy:X.env.scope.names.lookup y=some .local) (hi:PI X tg iter wi) (S:CompScope scope X.env.scope)
 (zk:N'.length=own+ix.length) (hN:(N'.drop own).map some=ix.map (X.N[·]?)) (hfr:∀x∈N'.drop own,scope.names.lookup x=some .free)
 (hg:∀c,PG (X.comp scope N' c) tg g) (hgo:DS own g) (ht:∀c,PTs (X.comp scope N' c) ifs tc) (he:∀c,PE (X.comp scope N' c) elt te)
 (hsw:swapsWith (.ListComp elt [⟨tg,iter,ifs,0⟩] scope pos) (some (.Name y py)) spos.line X.env=pure true)
 (hs:∀x,foldedSetIterable iter X.env x=pure x:=by intro _;rfl):PS X (.Assign [.Name y py] (.ListComp elt [⟨tg,iter,ifs,0⟩] scope pos) spos) (FE (Fe wi own ix g tc te) (Ak i)):=by
 intro za s Z H D I h;rw[exec_Assign_Name_used _ _ _ _ hsw];refine Zc (ZB8 (Zc ?_));show wpAny _ _ (do let _ <- comprehension (.ListComp elt [⟨tg,iter,ifs,0⟩] scope pos) scope X.env _ (newList []) false (eval iter X.env) (some (assign (.Name y py) X.env))) _ _ s;have hfree:∀y∈scope.names,y.2=.free->∃c,X.env.cells.lookup y.1=some c:=fun y hy h=>I.ok.has y.1 (S.fr y hy h)
 refine Zc (ZBH (wpAny_comprehension_free (use:=some (assign (.Name y py) X.env)) (Q:=fun _ s'=>SP X za D .next s') rfl hs (LQ hfree) S.kind (fun y hy hl=>D4 S.nd (by rw[<- hl];exact hy)) ?_) (fun _ s' hq=>Zd (Zd hq)) fun _ _ e=>e);refine zn (hi za s Z H _ I h) fun v s1 h1=>zn h1 fun itv s2 h2=>?_
 obtain⟨it,fp,tn,J,H2,e,I2,T,st2,f2,q2⟩:=h2;subst e;refine Lu (RR:=fun zq C=>compPost (model X.prog X.w) X.A X.xe (some (assign (.Name y py) X.env)) (fun _ s'=>SP X za D .next s') zq C) I2 T st2 f2 hc S zk hN hfr hg hgo ht he q2 ?_;intro d C s' H' ys ze n ho hgn u hok hm hC hCs hD hDs hDC hd rv z q;obtain⟨m,hm⟩:=hm;have I3:=LB I2 f2 ho hgn u hok hD hDs hd rv z;show wpAny _ _ (assign (.Name y py) X.env (.ref d)) _ _ s';have hCn:(upd H' d (.lst ys)) C=none:=by rw[AI (Ne.symm hDC)];exact hC
 refine wpAny_assign_Name (Ml I3 hnd hiy (.inl hy) (v:=.ref d) rfl (fun s3 I4 ⟨a,sb,ha⟩=>?_) (.inr hy))
 have ha':a≠C:=fun e=>by
  have hC0:=Heap.get?_none_of_le hCs
  rcases ha with z | z
  ·obtain⟨m,⟨o,_,_,ho,_⟩,_⟩:=I2.loc;rw[<- z,e,hC0]at ho;cases ho
  ·obtain⟨v,o,ho,_⟩:=I2.cell y a z;rw[e,hC0]at ho;cases ho
 refine⟨m,hm.sameBut sb (Ne.symm ha'),fun h' hs'=>?_⟩;exact⟨_,_,I2.dictGone I4 hCs hCn hs',q d hD⟩
end
section
variable {X:Cx}
theorem PE.imp{e:Expr}{t t':TE}(h:PE X e t)(f:∀Z H Q,t' Z H Q->t Z H Q):PE X e t':=fun za s Z H Q I q=>h za s Z H Q I (f Z H Q q)
theorem zy.imp{f:Value->Value->Sem Value}(h:zy X f r)(g:∀x y H Q,r' x y H Q->r x y H Q):zy X f r':=fun za s Z H x y v u Q I rx ry q=>h za s Z H x y v u Q I rx ry (g _ _ _ _ q)
theorem CallR.imp{f:Value}{r r':List V->Hp->VK->Prop}(h:CallR X f r)(g:∀x H Q,r' x H Q->r x H Q):CallR X f r':=fun za s Z H xs us Q I r q=>h za s Z H xs us Q I r (g _ _ _ q)
noncomputable def HM(i:Nat):TE:=fun Z H Q=>match Z[i]? with
 | some (some v)=>Q v H
 | _=>False
theorem vv (i:Nat) (hN:X.N[i]? = some x:=by rfl) (hv:Vis X.env.scope x:=by first | exact Or.inl rfl | exact Or.inr (Or.inl rfl) | exact Or.inr (Or.inr rfl)) (hd:(x == ("__debug__" : Str))=false:=by decide)
 (hcd:(x == ("__classdict__" : Str))=false:=by decide):PE X (.Name x pos) (HM i):=(Px hN hv hd hcd).imp fun Z H Q q=>by
 unfold HM at q;split at q
 ·rename_i v e;exact⟨v,e,q⟩
 ·exact q.elim
noncomputable def okMul(i j:Int):Prop:=(i.natAbs < 2 ^ 4096/\j.natAbs < 2 ^ 4096)\/(-(2 ^ 64) < i/\i < 2 ^ 64)\/(-(2 ^ 64) < j/\j < 2 ^ 64)
theorem LX{i:Int}(h:i.natAbs < 2 ^ 4096):Builtin.Int.intBits i<=2 ^ 20:=by
 unfold Builtin.Int.intBits;split
 ·exact Zu _
 ·rename_i hz
  have zz:i.natAbs≠0:=by
   have:¬i=0:=by simpa using hz
   lia
  have:=(Nat.log2_lt zz).mpr h
  have e:(2:Nat) ^ 20=1048576:=by decide
  lia
theorem okMul.ok{i j:Int}(h:okMul i j):IntMulOk i j:=by
 rcases h with ⟨h1,h2⟩ | h | h
 ·exact .of_bits (LX h1) (LX h2)
 ·exact CMul.ok (.inl h)
 ·exact CMul.ok (.inr h)
noncomputable def okDiv(j:Int):Prop:=0 < j/\j < 2 ^ 4096
theorem okDiv.ok{i j:Int}(h:okDiv j):Builtin.divisionGoesByPylong i j=false:=by
 refine PyProof.noPylong_of_log2 ?_;obtain⟨h1,h2⟩:=h;have zz:j.natAbs≠0:=by lia
 have h3:j.natAbs < 2 ^ 4096:=by
  have e:((j.natAbs:Int))=j:=by lia
  have h2':((j.natAbs:Nat):Int) < ((2 ^ 4096:Nat):Int):=by rw[e,ZCK];exact h2
  exact Int.ofNat_lt.mp h2'
 have:=(Nat.log2_lt zz).mpr h3
 lia
noncomputable def HH(K:W.Frag):R2:=fun x y H Q=>match x,y with
 | .int i,.int j=>Q (.int (i+j)) H
 | .str a,.str b=>a.length+b.length<=sizeLine/\Q (.str (a++b)) H
 | .ref a,.ref b=>Ot (.ref a) (.ref b) H Q\/Od K (.ref a) (.ref b) H Q
 | _,_=>False
theorem XM:zy X (binaryOp .Add) (HH X.K):=by
 intro za s Z H x y v u Q I rx ry q
 cases x <;> cases y <;> first
  | exact False.elim q
  | exact Xy za s Z H _ _ v u Q I rx ry ⟨_,_,rfl,rfl,q⟩
  | exact WL za s Z H _ _ v u Q I rx ry ⟨_,_,rfl,rfl,q.1,q.2⟩
  | (rcases q with q | q
     ·exact Wz za s Z H _ _ v u Q I rx ry q
     ·exact YR za s Z H _ _ v u Q I rx ry q)
noncomputable def HS:R2:=fun x y H Q=>match x,y with
 | .int i,.int j=>Q (.int (i - j)) H
 | _,_=>False
theorem C4:zy X (binaryOp .Sub) HS:=by
 intro za s Z H x y v u Q I rx ry q
 cases x <;> cases y <;> first
  | exact False.elim q
  | exact VP za s Z H _ _ v u Q I rx ry ⟨_,_,rfl,rfl,q⟩
noncomputable def Kk:R2:=fun x y H Q=>match x,y with
 | .int i,.int j=>okMul i j/\Q (.int (i * j)) H
 | .ref a,.int k=>Ob (.ref a) (.int k) H Q
 | _,_=>False
theorem DO:zy X (binaryOp .Mult) Kk:=by
 have hI:zy X (binaryOp .Mult) (rI okMul fun i j=>.int (i * j)):=opI fun _ _ _ _ _ _ _ hc q=>mul_int q hc.ok
 intro za s Z H x y v u Q I rx ry q
 cases x <;> cases y <;> first
  | exact False.elim q
  | exact hI za s Z H _ _ v u Q I rx ry ⟨_,_,rfl,rfl,q.1,q.2⟩
  | exact YF za s Z H _ _ v u Q I rx ry q
noncomputable def Ie:R2:=fun x y H Q=>match x,y with
 | .int i,.int j=>okDiv j/\Q (.int (i / j)) H
 | _,_=>False
theorem Fv:zy X (binaryOp .FloorDiv) Ie:=by
 have hI:zy X (binaryOp .FloorDiv) (rI (fun _ j=>okDiv j) fun i j=>.int (i / j)):=opI fun i j _ _ _ _ _ hc q=>by
  refine floordiv_int (by have:=hc.1;lia) ?_ (.inl hc.ok);rw[Int.fdiv_eq_ediv_of_nonneg i (by have:=hc.1;lia)];exact q
 intro za s Z H x y v u Q I rx ry q
 cases x <;> cases y <;> first
  | exact False.elim q
  | exact hI za s Z H _ _ v u Q I rx ry ⟨_,_,rfl,rfl,q.1,q.2⟩
noncomputable def J9:R2:=fun x y H Q=>match x,y with
 | .int i,.int j=>0 < j/\Q (.int (i % j)) H
 | _,_=>False
theorem CW:zy X (binaryOp .Mod) J9:=by
 intro za s Z H x y v u Q I rx ry q
 cases x <;> cases y <;> first
  | exact False.elim q
  | exact WO za s Z H _ _ v u Q I rx ry ⟨_,_,rfl,rfl,q.1,q.2⟩
noncomputable def IX:R2:=fun x y H Q=>match x,y with
 | .int i,.int j=>MV i j/\Q (.int (i ^ j.toNat)) H
 | _,_=>False
theorem Wb:zy X (binaryOp .Pow) IX:=by
 intro za s Z H x y v u Q I rx ry q
 cases x <;> cases y <;> first
  | exact False.elim q
  | exact VB za s Z H _ _ v u Q I rx ry ⟨_,_,rfl,rfl,q.1,q.2⟩
noncomputable def Fo(f:Int->Int->Int):R2:=fun x y H Q=>match x,y with
 | .int i,.int j=>Q (.int (f i j)) H
 | _,_=>False
theorem GB:zy X (binaryOp .BitAnd) (Fo Builtin.bitAnd):=by
 intro za s Z H x y v u Q I rx ry q
 cases x <;> cases y <;> first
  | exact False.elim q
  | exact SG za s Z H _ _ v u Q I rx ry ⟨_,_,rfl,rfl,q⟩
theorem Xm:zy X (binaryOp .BitOr) (Fo Builtin.bitOr):=by
 intro za s Z H x y v u Q I rx ry q
 cases x <;> cases y <;> first
  | exact False.elim q
  | exact YK za s Z H _ _ v u Q I rx ry ⟨_,_,rfl,rfl,q⟩
noncomputable def Kn:V->Hp->VK->Prop:=fun x H Q=>match x with
 | .int i=>Q (.int (-i)) H
 | _=>False
theorem Gu:UnR X (unaryOp .USub) Kn:=by
 intro za s Z H x v Q I rx q
 cases x <;> first
  | exact False.elim q
  | exact P7 za s Z H _ v Q I rx ⟨_,rfl,q⟩
noncomputable def E2(p:Int->Int->Bool):R2:=fun x y H Q=>match x,y with
 | .int i,.int j=>Q (.bl (p i j)) H
 | _,_=>False
theorem DL:zy X (compareOp .Lt) (E2 fun i j=>decide (i < j)):=by
 intro za s Z H x y v u Q I rx ry q
 cases x <;> cases y <;> first
  | exact False.elim q
  | exact YM za s Z H _ _ v u Q I rx ry ⟨_,_,rfl,rfl,q⟩
theorem FU:zy X (compareOp .LtE) (E2 fun i j=>decide (i<=j)):=by
 intro za s Z H x y v u Q I rx ry q
 cases x <;> cases y <;> first
  | exact False.elim q
  | exact U2 za s Z H _ _ v u Q I rx ry ⟨_,_,rfl,rfl,q⟩
theorem Bm:zy X (compareOp .Gt) (E2 fun i j=>decide (j < i)):=by
 intro za s Z H x y v u Q I rx ry q
 cases x <;> cases y <;> first
  | exact False.elim q
  | exact SU za s Z H _ _ v u Q I rx ry ⟨_,_,rfl,rfl,q⟩
theorem G6:zy X (compareOp .GtE) (E2 fun i j=>decide (j<=i)):=by
 intro za s Z H x y v u Q I rx ry q
 cases x <;> cases y <;> first
  | exact False.elim q
  | exact VZ za s Z H _ _ v u Q I rx ry ⟨_,_,rfl,rfl,q⟩
end
inductive Dv where
 | non | bl (b:Bool) | int (i:Int) | str (x:Str) | tup (ds:List Dv) | lst (ds:List Dv)
mutual
noncomputable def zh(K:W.Frag)(H:Hp):Dv->V->Prop
 | .non,v=>v=.non
 | .bl b,v=>v=.bl b
 | .int i,v=>v=.int i
 | .str x,v=>v=.str x
 | .tup ds,v=>∃a xs,v=.ref a/\zt K H a xs/\zf K H ds xs
 | .lst ds,v=>∃a xs,v=.ref a/\zv K H a xs/\zf K H ds xs
noncomputable def zf(K:W.Frag)(H:Hp):List Dv->List V->Prop
 | [],xs=>xs=[]
 | d::ds,xs=>∃x r,xs=x::r/\zh K H d x/\zf K H ds r
end
mutual
noncomputable def eqD:Dv->Dv->Bool
 | .non,.non=>true
 | .bl a,.bl b=>a == b
 | .bl a,.int b=>(if a then 1 else 0) == b
 | .int a,.bl b=>a == (if b then 1 else 0)
 | .int a,.int b=>a == b
 | .str a,.str b=>a == b
 | .tup ds,.tup es=>BR ds es
 | .lst ds,.lst es=>BR ds es
 | _,_=>false
noncomputable def BR:List Dv->List Dv->Bool
 | [],[]=>true
 | d::ds,e::es=>eqD d e && BR ds es
 | _,_=>false
end
mutual
noncomputable def BL:Dv->Nat
 | .tup ds=>Cz ds+1
 | .lst ds=>Cz ds+1
 | _=>0
noncomputable def Cz:List Dv->Nat
 | []=>0
 | d::ds=>max (BL d) (Cz ds)
end
theorem Xg(ds es:List Dv):eqD (.tup ds) (.tup es)=BR ds es:=by rw[eqD]
theorem JE(ds es:List Dv):eqD (.lst ds) (.lst es)=BR ds es:=by rw[eqD]
theorem zf.length:∀{ds:List Dv} {xs:List V},zf K H ds xs->ds.length=xs.length
 | [],xs,h=>by unfold zf at h;subst h;rfl
 | d::ds,xs,h=>by
  unfold zf at h;obtain⟨x,r,rfl,_,h⟩:=h;rw[ZBN,ZBN,zf.length h]
theorem zf.get:∀{ds:List Dv} {xs:List V} {i:Nat} {d:Dv},zf K H ds xs->ds[i]? = some d->∃x,xs[i]? = some x/\zh K H d x
 | [],_,_,_,_,e=>by simp at e
 | d::ds,xs,0,_,h,e=>by
  unfold zf at h;obtain⟨x,r,rfl,h1,_⟩:=h;simp at e;subst e;exact⟨x,rfl,h1⟩
 | d::ds,xs,i+1,_,h,e=>by
  unfold zf at h;obtain⟨x,r,rfl,_,h⟩:=h;obtain⟨y,h1,h2⟩:=zf.get (i:=i) h (by simpa using e);exact⟨y,by simpa using h1,h2⟩
theorem MU{d:Dv}(h:ds[i]? = some d):BL d<=Cz ds:=by
 induction ds generalizing i with
 | nil=>simp at h
 | cons e es ih =>
  unfold Cz;cases i with
  | zero=>simp at h;subst h;lia
  | succ i=>have:=ih (i:=i) (by simpa using h);lia
theorem KL:∀(ds es:List Dv),ds.length=es.length->BR ds es=(List.range ds.length).all fun i=>match ds[i]?,es[i]? with | some d,some e=>eqD d e | _,_=>false
 | [],[],_=>by unfold BR;rfl
 | d::ds,e::es,h=>by
  unfold BR;rw[ZBN,List.range_succ_eq_map,List.all_cons,List.all_map,KL ds es (by simpa using h)]
  congr 1
 | [],e::es,h=>by simp at h
 | d::ds,[],h=>by simp at h
theorem IK:∀(ds es:List Dv),ds.length≠es.length->BR ds es=false
 | [],[],h=>absurd rfl h
 | [],_::_,_=>by unfold BR;rfl
 | _::_,[],_=>by unfold BR;rfl
 | d::ds,e::es,h=>by unfold BR;rw[IK ds es (fun z=>h (by simp[z])),ZCV]
mutual
theorem JZ:∀d:Dv,eqD d d=true
 | .non=>by unfold eqD;rfl
 | .bl b=>by unfold eqD;simp
 | .int i=>by unfold eqD;simp
 | .str x=>by unfold eqD;simp
 | .tup ds=>by unfold eqD;exact GP ds
 | .lst ds=>by unfold eqD;exact GP ds
theorem GP:∀ds:List Dv,BR ds ds=true
 | []=>by unfold BR;rfl
 | d::ds=>by unfold BR;rw[JZ d,GP ds];rfl
end
section
variable {X:Cx}{za:List (Addr × Obj)}{Z:St}{H:Hp}{s:Shared}
theorem Oz(I:zg X za Z H s)(h:zv X.K H a xs)(h':zt X.K H a ys):False:=by
 obtain⟨ze,_,⟨o,n,e,c,_⟩,_⟩:=I.list h;obtain⟨its',_,⟨o',e',c',_⟩,_⟩:=I.tuple h';rw[e]at e';cases e';rw[c]at c';exact absurd c' (by decide)
mutual
theorem J3(I:zg X za Z H s):∀(d e:Dv) (x:V),zh X.K H d x->zh X.K H e x->d=e
 | .non,e,x,h,h'=>by
  unfold zh at h;subst h;cases e <;> unfold zh at h' <;> first | rfl | (obtain⟨a,xs,q,_⟩:=h';cases q;done) | (cases h';done)
 | .bl b,e,x,h,h'=>by
  unfold zh at h;subst h;cases e <;> unfold zh at h' <;> first | (obtain⟨a,xs,q,_⟩:=h';cases q;done) | (cases h';rfl) | (cases h';done)
 | .int b,e,x,h,h'=>by
  unfold zh at h;subst h;cases e <;> unfold zh at h' <;> first | (obtain⟨a,xs,q,_⟩:=h';cases q;done) | (cases h';rfl) | (cases h';done)
 | .str b,e,x,h,h'=>by
  unfold zh at h;subst h;cases e <;> unfold zh at h' <;> first | (obtain⟨a,xs,q,_⟩:=h';cases q;done) | (cases h';rfl) | (cases h';done)
 | .tup ds,e,x,h,h'=>by
  unfold zh at h;obtain⟨a,xs,rfl,hs,hr⟩:=h;cases e with
  | tup es =>
   unfold zh at h';obtain⟨b,ys,q,hs',hr'⟩:=h';cases q;rw[I.tuple_inj hs' hs]at hr';rw[JH I ds es xs hr hr']
  | lst es =>
   unfold zh at h';obtain⟨b,ys,q,hs',hr'⟩:=h';cases q;exact(Oz I hs' hs).elim
  | _=>unfold zh at h';cases h'
 | .lst ds,e,x,h,h'=>by
  unfold zh at h;obtain⟨a,xs,rfl,hs,hr⟩:=h;cases e with
  | lst es =>
   unfold zh at h';obtain⟨b,ys,q,hs',hr'⟩:=h';cases q;rw[I.list_inj hs' hs]at hr';rw[JH I ds es xs hr hr']
  | tup es =>
   unfold zh at h';obtain⟨b,ys,q,hs',hr'⟩:=h';cases q;exact(Oz I hs hs').elim
  | _=>unfold zh at h';cases h'
theorem JH(I:zg X za Z H s):∀(ds es:List Dv) (xs:List V),zf X.K H ds xs->zf X.K H es xs->ds=es
 | [],es,xs,h,h'=>by
  unfold zf at h;subst h;cases es with
  | nil=>rfl
  | cons e es=>unfold zf at h';obtain⟨x,r,q,_⟩:=h';cases q
 | d::ds,es,xs,h,h'=>by
  unfold zf at h;obtain⟨x,r,rfl,h1,h2⟩:=h;cases es with
  | nil=>unfold zf at h';cases h'
  | cons e es =>
   unfold zf at h';obtain⟨y,r',q,h3,h4⟩:=h';cases q;rw[J3 I d e _ h1 h3,JH I ds es _ h2 h4]
end
noncomputable abbrev Eq3(A:Around)(s:Shared)(u v:Value)(b:Bool):Prop:=SeqAt.EqAt A s u v b/\SeqAt.RcAt A s u v b/\SeqAt.RcNeAt A s u v (!b)
theorem UH {es:List Dv} (I:zg X za Z H s) (hu:A.units < cLine) (ha:zt X.K H a xs) (hb:zt X.K H b ys) (hd:zf X.K H ds xs) (he:zf X.K H es ys)
 (ih:∀(i:Nat) (d e:Dv) (x y:V) (u v:Value),ds[i]? = some d->es[i]? = some e->xs[i]? = some x->ys[i]? = some y->zi x u->zi y v->SeqAt.EqAt A.in1 s u v (eqD d e)):Eq3 A s (.ref a) (.ref b) (eqD (.tup ds) (.tup es)):=by
 obtain⟨ze,r1,p1,_⟩:=I.tuple ha;obtain⟨its2,r2,p2,_⟩:=I.tuple hb;have l1:=hd.length;have l2:=he.length;have l3:=r1.length;have l4:=r2.length
 have hitem:∀j (h1:j < ze.toArray.size) (h2:j < its2.toArray.size),SeqAt.EqAt A.in1 s ze.toArray[j] its2.toArray[j] (match ds[j]?,es[j]? with | some d,some e=>eqD d e | _,_=>false):=fun j h1 h2=>by
  rw[Zo]at h1 h2;have e1:ds[j]? = some ds[j]:=Zg (by lia);have e2:es[j]? = some es[j]:=Zg (by lia);have e3:xs[j]? = some xs[j]:=Zg (by lia);have e4:ys[j]? = some ys[j]:=Zg (by lia);obtain⟨u,q1,q2⟩:=r1.get e3;obtain⟨v,q3,q4⟩:=r2.get e4;rw[e1,e2];have z1:ze.toArray[j]=u:=by rw[ZCf];rw[Zg h1]at q1;exact Zv q1
  have z2:its2.toArray[j]=v:=by rw[ZCf];rw[Zg h2]at q3;exact Zv q3
  rw[z1,z2];exact ih j _ _ _ _ _ _ e1 e2 e3 e4 q2 q4
 have val:((List.range (min ze.toArray.size its2.toArray.size)).all (fun j=>match ds[j]?,es[j]? with | some d,some e=>eqD d e | _,_=>false) && ze.toArray.size == its2.toArray.size)=eqD (.tup ds) (.tup es):=by
  rw[Zo,Zo,<- l3,<- l4,<- l1,<- l2,Xg]
  by_cases h:ds.length=es.length
  ·rw[h,Nat.min_self,<- h,KL ds es h];simp
  ·rw[IK ds es h]
   have:(ds.length == es.length)=false:=by simpa using h
   rw[this,ZCV]
 have R:=SeqAt.RcAt.tuples (A:=A) p1 p2 hu hitem;have N:=SeqAt.RcNeAt.tuples (A:=A) p1 p2 hu hitem;rw[val]at R N;refine⟨?_,R,N⟩
 by_cases hab:a=b
 ·subst hab
  have e:ds=es:=by
   have:=J3 I (.tup ds) (.tup es) (.ref a) (by unfold zh;exact⟨a,xs,rfl,ha,hd⟩) (by unfold zh;exact⟨a,ys,rfl,hb,he⟩)
   cases this;rfl
  subst e;rw[JZ];exact SeqAt.EqAt.same _
 ·exact .of_refs hab R
theorem YB {es:List Dv} (I:zg X za Z H s) (hu:A.units < cLine) (ha:zv X.K H a xs) (hb:zv X.K H b ys) (hd:zf X.K H ds xs) (he:zf X.K H es ys)
 (ih:∀(i:Nat) (d e:Dv) (x y:V) (u v:Value),ds[i]? = some d->es[i]? = some e->xs[i]? = some x->ys[i]? = some y->zi x u->zi y v->SeqAt.EqAt A.in1 s u v (eqD d e)):Eq3 A s (.ref a) (.ref b) (eqD (.lst ds) (.lst es)):=by
 obtain⟨ze,r1,p1,_⟩:=I.list ha;obtain⟨its2,r2,p2,_⟩:=I.list hb;have l1:=hd.length;have l2:=he.length;have l3:=r1.length;have l4:=r2.length
 have hitem:∀j (h1:j < ze.toArray.size) (h2:j < its2.toArray.size),SeqAt.EqAt A.in1 s ze.toArray[j] its2.toArray[j] (match ds[j]?,es[j]? with | some d,some e=>eqD d e | _,_=>false):=fun j h1 h2=>by
  rw[Zo]at h1 h2;have e1:ds[j]? = some ds[j]:=Zg (by lia);have e2:es[j]? = some es[j]:=Zg (by lia);have e3:xs[j]? = some xs[j]:=Zg (by lia);have e4:ys[j]? = some ys[j]:=Zg (by lia);obtain⟨u,q1,q2⟩:=r1.get e3;obtain⟨v,q3,q4⟩:=r2.get e4;rw[e1,e2];have z1:ze.toArray[j]=u:=by rw[ZCf];rw[Zg h1]at q1;exact Zv q1
  have z2:its2.toArray[j]=v:=by rw[ZCf];rw[Zg h2]at q3;exact Zv q3
  rw[z1,z2];exact ih j _ _ _ _ _ _ e1 e2 e3 e4 q2 q4
 have RN:SeqAt.RcAt A s (.ref a) (.ref b) (eqD (.lst ds) (.lst es))/\SeqAt.RcNeAt A s (.ref a) (.ref b) (!eqD (.lst ds) (.lst es)):=by
  by_cases h:ds.length=es.length
  ·have hsz:ze.toArray.size=its2.toArray.size:=by rw[Zo,Zo];lia
   have val:(List.range ze.toArray.size).all (fun j=>match ds[j]?,es[j]? with | some d,some e=>eqD d e | _,_=>false)=eqD (.lst ds) (.lst es):=by
    rw[JE,Zo,<- l3,<- l1,KL ds es h]
   have R:=SeqAt.RcAt.lists (A:=A) p1.isList p2.isList hsz hu hitem;have N:=SeqAt.RcNeAt.lists (A:=A) p1.isList p2.isList hsz hu hitem;rw[val]at R N;exact⟨R,N⟩
  ·have hsz:(ze.toArray.size != its2.toArray.size)=true:=by rw[Zo,Zo];simp;lia
   have val:eqD (.lst ds) (.lst es)=false:=by rw[JE];exact IK ds es h
   rw[val];exact⟨SeqAt.RcAt.lists_lengths p1.isList p2.isList hsz hu,SeqAt.RcNeAt.lists_lengths p1.isList p2.isList hsz hu⟩
 refine⟨?_,RN.1,RN.2⟩
 by_cases hab:a=b
 ·subst hab
  have e:ds=es:=by
   have:=J3 I (.lst ds) (.lst es) (.ref a) (by unfold zh;exact⟨a,xs,rfl,ha,hd⟩) (by unfold zh;exact⟨a,ys,rfl,hb,he⟩)
   cases this;rfl
  subst e;rw[JZ];exact SeqAt.EqAt.same _
 ·exact .of_refs hab RN.1
theorem OY(I:zg X za Z H s):∀(n:Nat) (A:Around) (d e:Dv) (x y:V) (u v:Value),BL d<=n->A.units+n < cLine->zh X.K H d x->zh X.K H e y->zi x u->zi y v->Eq3 A s u v (eqD d e):=by
 intro n
 induction n with
 | zero =>
  intro A d e x y u v hd hu hx hy ru rv;have hu':A.units < cLine:=by lia
  cases d with
  | tup ds=>unfold BL at hd;lia
  | lst ds=>unfold BL at hd;lia
  | non =>
   unfold zh at hx;subst hx;cases ru;cases e <;> unfold zh at hy
   case non=>subst hy;cases rv;exact⟨SeqAt.EqAt.same _,SeqAt.RcAt.none_none,SeqAt.RcNeAt.none_none⟩
   case bl=>subst hy;cases rv;exact⟨.none_bool _,.none_bool _,.none_bool _⟩
   case int=>subst hy;obtain⟨t,rfl⟩:=rv;exact⟨.none_int _ _,.none_int _ _,.none_int _ _⟩
   case str=>subst hy;obtain⟨t,rfl⟩:=rv;exact⟨.none_str _ _,.none_str _ _,.none_str _ _⟩
   case tup=>obtain⟨a,xs,rfl,ha,_⟩:=hy;cases rv;obtain⟨ze,_,p,_⟩:=I.tuple ha;exact⟨.none_tuple p hu',.none_tuple p hu',.none_tuple p hu'⟩
   case lst=>obtain⟨a,xs,rfl,ha,_⟩:=hy;cases rv;obtain⟨ze,_,p,_⟩:=I.list ha;exact⟨.none_list p.isList hu',.none_list p.isList hu',.none_list p.isList hu'⟩
  | bl c =>
   unfold zh at hx;subst hx;cases ru;cases e <;> unfold zh at hy
   case non=>subst hy;cases rv;exact⟨.bool_none _,.bool_none _,.bool_none _⟩
   case bl=>subst hy;cases rv;unfold eqD;exact⟨.bool_bool _ _,.bool_bool _ _,.bool_bool _ _⟩
   case int=>subst hy;obtain⟨t,rfl⟩:=rv;unfold eqD;exact⟨.bool_int _ _ _,.bool_int _ _ _,.bool_int _ _ _⟩
   case str=>subst hy;obtain⟨t,rfl⟩:=rv;exact⟨.bool_str _ _ _,.bool_str _ _ _,.bool_str _ _ _⟩
   case tup=>obtain⟨a,xs,rfl,ha,_⟩:=hy;cases rv;obtain⟨ze,_,p,_⟩:=I.tuple ha;exact⟨.bool_tuple _ p hu',.bool_tuple _ p hu',.bool_tuple _ p hu'⟩
   case lst=>obtain⟨a,xs,rfl,ha,_⟩:=hy;cases rv;obtain⟨ze,_,p,_⟩:=I.list ha;exact⟨.bool_list _ p.isList hu',.bool_list _ p.isList hu',.bool_list _ p.isList hu'⟩
  | int c =>
   unfold zh at hx;subst hx;obtain⟨t0,rfl⟩:=ru;cases e <;> unfold zh at hy
   case non=>subst hy;cases rv;exact⟨.int_none _ _,.int_none _ _,.int_none _ _⟩
   case bl=>subst hy;cases rv;unfold eqD;exact⟨.int_bool _ _ _,.int_bool _ _ _,.int_bool _ _ _⟩
   case int=>subst hy;obtain⟨t,rfl⟩:=rv;unfold eqD;exact⟨.int_int _ _ _ _,.int_int _ _ _ _,.int_int _ _ _ _⟩
   case str=>subst hy;obtain⟨t,rfl⟩:=rv;exact⟨.int_str _ _ _ _,.int_str _ _ _ _,.int_str _ _ _ _⟩
   case tup=>obtain⟨a,xs,rfl,ha,_⟩:=hy;cases rv;obtain⟨ze,_,p,_⟩:=I.tuple ha;exact⟨.int_tuple _ _ p hu',.int_tuple _ _ p hu',.int_tuple _ _ p hu'⟩
   case lst=>obtain⟨a,xs,rfl,ha,_⟩:=hy;cases rv;obtain⟨ze,_,p,_⟩:=I.list ha;exact⟨.int_list _ _ p.isList hu',.int_list _ _ p.isList hu',.int_list _ _ p.isList hu'⟩
  | str c =>
   unfold zh at hx;subst hx;obtain⟨t0,rfl⟩:=ru;cases e <;> unfold zh at hy
   case non=>subst hy;cases rv;exact⟨.str_none _ _,.str_none _ _,.str_none _ _⟩
   case bl=>subst hy;cases rv;exact⟨.str_bool _ _ _,.str_bool _ _ _,.str_bool _ _ _⟩
   case int=>subst hy;obtain⟨t,rfl⟩:=rv;exact⟨.str_int _ _ _ _,.str_int _ _ _ _,.str_int _ _ _ _⟩
   case str=>subst hy;obtain⟨t,rfl⟩:=rv;unfold eqD;exact⟨.str_str _ _ _ _,.str_str _ _ _ _,.str_str _ _ _ _⟩
   case tup=>obtain⟨a,xs,rfl,ha,_⟩:=hy;cases rv;obtain⟨ze,_,p,_⟩:=I.tuple ha;exact⟨.str_tuple _ _ p hu',.str_tuple _ _ p hu',.str_tuple _ _ p hu'⟩
   case lst=>obtain⟨a,xs,rfl,ha,_⟩:=hy;cases rv;obtain⟨ze,_,p,_⟩:=I.list ha;exact⟨.str_list _ _ p.isList hu',.str_list _ _ p.isList hu',.str_list _ _ p.isList hu'⟩
 | succ n ih =>
  intro A d e x y u v hd hu hx hy ru rv;have hu':A.units < cLine:=by lia
  have hin:A.in1.units+n < cLine:=by show A.units+1+n < cLine;lia
  cases d with
  | tup ds =>
   unfold BL at hd;unfold zh at hx;obtain⟨a,xs,rfl,ha,hr⟩:=hx;cases ru;cases e <;> unfold zh at hy
   case tup es =>
    obtain⟨b,ys,rfl,hb,hr'⟩:=hy;cases rv;refine UH I hu' ha hb hr hr' fun i d e x y u v e1 e2 e3 e4 ru rv=>?_
    obtain⟨x',q1,q2⟩:=hr.get e1;obtain⟨y',q3,q4⟩:=hr'.get e2;rw[e3]at q1;cases q1;rw[e4]at q3;cases q3;exact(ih A.in1 d e x y u v (by have:=MU e1;lia) hin q2 q4 ru rv).1
   case non=>subst hy;cases rv;obtain⟨ze,_,p,_⟩:=I.tuple ha;exact⟨.tuple_none p hu',.tuple_none p hu',.tuple_none p hu'⟩
   case bl=>subst hy;cases rv;obtain⟨ze,_,p,_⟩:=I.tuple ha;exact⟨.tuple_bool _ p hu',.tuple_bool _ p hu',.tuple_bool _ p hu'⟩
   case int=>subst hy;obtain⟨t,rfl⟩:=rv;obtain⟨ze,_,p,_⟩:=I.tuple ha;exact⟨.tuple_int _ _ p hu',.tuple_int _ _ p hu',.tuple_int _ _ p hu'⟩
   case str=>subst hy;obtain⟨t,rfl⟩:=rv;obtain⟨ze,_,p,_⟩:=I.tuple ha;exact⟨.tuple_str _ _ p hu',.tuple_str _ _ p hu',.tuple_str _ _ p hu'⟩
   case lst=>obtain⟨b,ys,rfl,hb,_⟩:=hy;cases rv;obtain⟨ze,_,p,_⟩:=I.tuple ha;obtain⟨its2,_,p2,_⟩:=I.list hb;exact⟨.tuple_list p p2.isList hu',.tuple_list p p2.isList hu',.tuple_list p p2.isList hu'⟩
  | lst ds =>
   unfold BL at hd;unfold zh at hx;obtain⟨a,xs,rfl,ha,hr⟩:=hx;cases ru;cases e <;> unfold zh at hy
   case lst es =>
    obtain⟨b,ys,rfl,hb,hr'⟩:=hy;cases rv;refine YB I hu' ha hb hr hr' fun i d e x y u v e1 e2 e3 e4 ru rv=>?_
    obtain⟨x',q1,q2⟩:=hr.get e1;obtain⟨y',q3,q4⟩:=hr'.get e2;rw[e3]at q1;cases q1;rw[e4]at q3;cases q3;exact(ih A.in1 d e x y u v (by have:=MU e1;lia) hin q2 q4 ru rv).1
   case non=>subst hy;cases rv;obtain⟨ze,_,p,_⟩:=I.list ha;exact⟨.list_none p.isList hu',.list_none p.isList hu',.list_none p.isList hu'⟩
   case bl=>subst hy;cases rv;obtain⟨ze,_,p,_⟩:=I.list ha;exact⟨.list_bool _ p.isList hu',.list_bool _ p.isList hu',.list_bool _ p.isList hu'⟩
   case int=>subst hy;obtain⟨t,rfl⟩:=rv;obtain⟨ze,_,p,_⟩:=I.list ha;exact⟨.list_int _ _ p.isList hu',.list_int _ _ p.isList hu',.list_int _ _ p.isList hu'⟩
   case str=>subst hy;obtain⟨t,rfl⟩:=rv;obtain⟨ze,_,p,_⟩:=I.list ha;exact⟨.list_str _ _ p.isList hu',.list_str _ _ p.isList hu',.list_str _ _ p.isList hu'⟩
   case tup=>obtain⟨b,ys,rfl,hb,_⟩:=hy;cases rv;obtain⟨ze,_,p,_⟩:=I.list ha;obtain⟨its2,_,p2,_⟩:=I.tuple hb;exact⟨.list_tuple p.isList p2 hu',.list_tuple p.isList p2 hu',.list_tuple p.isList p2 hu'⟩
  | non=>exact ih A .non e x y u v (by unfold BL;lia) (by lia) hx hy ru rv
  | bl c=>exact ih A (.bl c) e x y u v (by unfold BL;lia) (by lia) hx hy ru rv
  | int c=>exact ih A (.int c) e x y u v (by unfold BL;lia) (by lia) hx hy ru rv
  | str c=>exact ih A (.str c) e x y u v (by unfold BL;lia) (by lia) hx hy ru rv
end
section
variable {X:Cx}
noncomputable def mEq(neg:Bool)(K:W.Frag):R2:=fun x y H Q=>match x,y with
 | .non,.non=>Q (.bl (neg ^^ true)) H
 | .bl a,.bl b=>Q (.bl (neg ^^ (a == b))) H
 | .int a,.int b=>Q (.bl (neg ^^ (a == b))) H
 | .str a,.str b=>Q (.bl (neg ^^ (a == b))) H
 | x,y=>∃d e,zh K H d x/\zh K H e y/\BL d<=60/\Q (.bl (neg ^^ eqD d e)) H
theorem Wt(hu:X.A.units+60 < cLine):zy X (compareOp .Eq) (fun x y H Q=>∃d e,zh X.K H d x/\zh X.K H e y/\BL d<=60/\Q (.bl (eqD d e)) H):=by
 intro za s Z H x y v u Q I rx ry h;obtain⟨d,e,h1,h2,h3,q⟩:=h;exact(OY I 60 X.A d e x y v u h3 hu h1 h2 rx ry).2.1 X.prog X.w _ _ ⟨.bl _,H,I,rfl,q⟩
theorem om_neAll(hu:X.A.units+60 < cLine):zy X (compareOp .NotEq) (fun x y H Q=>∃d e,zh X.K H d x/\zh X.K H e y/\BL d<=60/\Q (.bl (!eqD d e)) H):=by
 intro za s Z H x y v u Q I rx ry h;obtain⟨d,e,h1,h2,h3,q⟩:=h;exact(OY I 60 X.A d e x y v u h3 hu h1 h2 rx ry).2.2 X.prog X.w _ _ ⟨.bl _,H,I,rfl,q⟩
theorem PL{neg:Bool}{x:V}(h:mEq neg K x y H Q):∃d e,zh K H d x/\zh K H e y/\BL d<=60/\Q (.bl (neg ^^ eqD d e)) H:=by
 unfold mEq at h;split at h
 ·exact⟨.non,.non,by unfold zh;rfl,by unfold zh;rfl,by unfold BL;lia,by unfold eqD;exact h⟩
 ·rename_i a b;exact⟨.bl a,.bl b,by unfold zh;rfl,by unfold zh;rfl,by unfold BL;lia,by unfold eqD;exact h⟩
 ·rename_i a b;exact⟨.int a,.int b,by unfold zh;rfl,by unfold zh;rfl,by unfold BL;lia,by unfold eqD;exact h⟩
 ·rename_i a b;exact⟨.str a,.str b,by unfold zh;rfl,by unfold zh;rfl,by unfold BL;lia,by unfold eqD;exact h⟩
 ·exact h
theorem SZ(hu:X.A.units+60 < cLine):zy X (compareOp .Eq) (mEq false X.K):=(Wt hu).imp fun x y H Q h=>by
 obtain⟨d,e,h1,h2,h3,q⟩:=PL h;exact⟨d,e,h1,h2,h3,by rw[ZBn]at q;exact q⟩
theorem Qn(hu:X.A.units+60 < cLine):zy X (compareOp .NotEq) (mEq true X.K):=(om_neAll hu).imp fun x y H Q h=>by
 obtain⟨d,e,h1,h2,h3,q⟩:=PL h;exact⟨d,e,h1,h2,h3,by rw[Bool.true_xor]at q;exact q⟩
end
section
variable {X:Cx}{a b c e:Expr}{es:List Expr}{ta tb tc te:TE}{tA tB':TT}{t:TA}{pos p:Pos}{x:Str}
noncomputable def isB(v:V)(Q:Bool->Prop):Prop:=match v with
 | .bl c=>Q c
 | _=>False
theorem DP{Q:Bool->Prop}(h:isB v Q):∃c,v=.bl c/\Q c:=by
 cases v <;> first | exact False.elim h | exact⟨_,rfl,h⟩
noncomputable def AY(t:TE):Prop:=∀Z H (Q Q':VK),(∀v H,Q v H->Q' v H)->t Z H Q->t Z H Q'
noncomputable def uB(t:TE):TT:=fun Z H Q=>t Z H fun x H1=>isB x fun c=>Q c H1
theorem Af{op:CmpOp}(ho:zy X (compareOp op) r)(ha:PE X a ta)(hb:PE X b tb)(hm:behindInMarks op b=false:=by first | exact IG _ (by decide) (by decide) | rfl):PT X (.Compare a [op] [b] pos) (uB (tOp r ta tb)):=by
 intro za s Z H Q I h
 refine wpAny_isTrue_Compare1 (zn (ha za s Z H _ I h) fun v s1 ⟨x,H1,I1,r1,q1⟩=>zn (hb za s1 Z H1 _ I1 q1) fun u s2 ⟨y,H2,I2,r2,q2⟩ =>
  zn (ho za s2 Z H2 x y v u _ I2 r1 r2 q2) fun c s3 ⟨z,H3,I3,r3,q⟩=>?_) hm
 obtain⟨k,e,q3⟩:=DP q;subst e;cases r3;exact ZBl ⟨H3,I3,q3⟩
theorem BD{op:CmpOp}(ho:zy X (compareOp op) r)(ha:PE X a ta)(hb:PE X b tb)(hm:behindInMarks op b=false:=by first | exact IG _ (by decide) (by decide) | rfl):PE X (.Compare a [op] [b] pos) (tOp r ta tb):=Wa ho ha hb hm
theorem A9(h:PE X e te)(he:∀whole,isTrue e X.env whole=(do let v <- whole;standAt e.pos;holding [v] (truthy v)):=by intro _;rfl):PT X e (uB te):=by
 intro za s Z H Q I hq;refine isTrue_plain (zn (h za s Z H _ I hq) fun v s1 ⟨x,H1,I1,r1,q1⟩=>?_) (he _);obtain⟨k,e,q⟩:=DP q1;subst e;cases r1;exact ZBl ⟨H1,I1,q⟩
noncomputable def KH(r r':R2)(ta tb tc:TE):TE:=fun Z H Q=>ta Z H fun x H1=>tb Z H1 fun y H2=>r x y H2 fun z H3=>isB z fun k =>
 (if k=true then tc Z H3 fun w' H4=>r' y w' H4 Q else Q (.bl false) H3)
theorem V5 {op op':CmpOp} (ho:zy X (compareOp op) r) (ho':zy X (compareOp op') r') (ha:PE X a ta) (hb:PE X b tb) (hc:PE X c tc)
 (hm:lastMarks [op,op'] [b,c]=false:=by with_unfolding_all rfl):PE X (.Compare a [op,op'] [b,c] pos) (KH r r' ta tb tc):=by
 intro za s Z H Q I h
 refine Compare_chain (zn (ha za s Z H _ I h) fun v s1 ⟨x,H1,I1,r1,q1⟩=>chain_link (zn (hb za s1 Z H1 _ I1 q1) fun u s2 ⟨y,H2,I2,r2,q2⟩ =>
  zn (ho za s2 Z H2 x y v u _ I2 r1 r2 q2) fun d s3 ⟨z,H3,I3,r3,q⟩=>?_)) hm
 obtain⟨k,e,q3⟩:=DP q;subst e;cases r3;refine ZBl ?_;cases k with
 | false=>exact ite_ff ⟨.bl false,H3,I3,rfl,q3⟩
 | true=>exact ite_tt (chain_last (zn (hc za s3 Z H3 _ I3 q3) fun w' s4 ⟨z',H4,I4,r4,q4⟩=>ho' za s4 Z H4 y z' u w' Q I4 r2 r4 q4))
theorem PC {op op':CmpOp} (ho:zy X (compareOp op) r) (ho':zy X (compareOp op') r') (ha:PE X a ta) (hb:PE X b tb) (hc:PE X c tc)
 (hm:lastMarks [op,op'] [b,c]=false:=by with_unfolding_all rfl):PT X (.Compare a [op,op'] [b,c] pos) (uB (KH r r' ta tb tc)):=by
 intro za s Z H Q I h
 refine isTrue_chain (zn (ha za s Z H _ I h) fun v s1 ⟨x,H1,I1,r1,q1⟩=>test_link (zn (hb za s1 Z H1 _ I1 q1) fun u s2 ⟨y,H2,I2,r2,q2⟩ =>
  zn (ho za s2 Z H2 x y v u _ I2 r1 r2 q2) fun d s3 ⟨z,H3,I3,r3,q⟩=>?_)) hm
 obtain⟨k,e,q3⟩:=DP q;subst e;cases r3;refine ZBl ?_;cases k with
 | false =>
  have q3:Q false H3:=q3;exact ite_ff ⟨H3,I3,q3⟩
 | true =>
  refine ite_tt (test_last (zn (hc za s3 Z H3 _ I3 q3) fun w' s4 ⟨z',H4,I4,r4,q4⟩=>zn (ho' za s4 Z H4 y z' u w' _ I4 r2 r4 q4) fun d' s5 ⟨z2,H5,I5,r5,q5⟩=>?_));obtain⟨k2,e2,q5⟩:=DP q5;subst e2;cases r5;exact ZBl ⟨H5,I5,q5⟩
noncomputable def XQ(ta tb:TE):TE:=fun Z H Q=>ta Z H fun x H1=>isB x fun c=>if c=true then tb Z H1 Q else Q (.bl false) H1
noncomputable def vOr(ta tb:TE):TE:=fun Z H Q=>ta Z H fun x H1=>isB x fun c=>if c=true then Q (.bl true) H1 else tb Z H1 Q
noncomputable def LR(ta:TE):TE:=fun Z H Q=>ta Z H fun x H1=>isB x fun c=>Q (.bl (!c)) H1
theorem CP(ha:PE X a ta)(hb:PE X (.BoolOp .And (b::es) pos) tb):PE X (.BoolOp .And (a::b::es) pos) (XQ ta tb):=by
 have ha':PE X a (fun Z H Q=>ta Z H fun x H1=>isB x fun c=>Q (.bl c) H1):=fun za s Z H Q I h=>zn (ha za s Z H _ I h) fun v s1 ⟨x,H1,I1,r1,q1⟩=>by
  obtain⟨c,e,q⟩:=DP q1;subst e;exact⟨.bl c,H1,I1,r1,q⟩
 have h:=QB (pos:=pos) ha' hb
 exact h.imp fun Z H Q q=>by
  show ta Z H fun x H1=>isB x fun c=>∃c',V.bl c=.bl c'/\if c'=true then tb Z H1 Q else Q (.bl false) H1
  have e:(fun(x:V) (H1:Hp)=>isB x fun c=>∃c',V.bl c=.bl c'/\if c'=true then tb Z H1 Q else Q (.bl false) H1)=fun x H1=>isB x fun c=>if c=true then tb Z H1 Q else Q (.bl false) H1:=by
   funext x H1
   cases x <;> first | rfl | (apply propext;constructor;(rintro⟨c',e,h⟩;cases e;exact h);(intro h;exact⟨_,rfl,h⟩))
  rw[e];exact q
theorem Jj(ha:PE X a ta)(hb:PE X (.BoolOp .Or (b::es) pos) tb):PE X (.BoolOp .Or (a::b::es) pos) (vOr ta tb):=by
 have ha':PE X a (fun Z H Q=>ta Z H fun x H1=>isB x fun c=>Q (.bl c) H1):=fun za s Z H Q I h=>zn (ha za s Z H _ I h) fun v s1 ⟨x,H1,I1,r1,q1⟩=>by
  obtain⟨c,e,q⟩:=DP q1;subst e;exact⟨.bl c,H1,I1,r1,q⟩
 have h:=Qz (pos:=pos) ha' hb
 exact h.imp fun Z H Q q=>by
  show ta Z H fun x H1=>isB x fun c=>∃c',V.bl c=.bl c'/\if c'=true then Q (.bl true) H1 else tb Z H1 Q
  have e:(fun(x:V) (H1:Hp)=>isB x fun c=>∃c',V.bl c=.bl c'/\if c'=true then Q (.bl true) H1 else tb Z H1 Q)=fun x H1=>isB x fun c=>if c=true then Q (.bl true) H1 else tb Z H1 Q:=by
   funext x H1
   cases x <;> first | rfl | (apply propext;constructor;(rintro⟨c',e,h⟩;cases e;exact h);(intro h;exact⟨_,rfl,h⟩))
  rw[e];exact q
theorem NV(ha:PE X a ta):PE X (.UnaryOp .Not a pos) (LR ta):=by
 have ha':PE X a (fun Z H Q=>ta Z H fun x H1=>isB x fun c=>Q (.bl c) H1):=fun za s Z H Q I h=>zn (ha za s Z H _ I h) fun v s1 ⟨x,H1,I1,r1,q1⟩=>by
  obtain⟨c,e,q⟩:=DP q1;subst e;exact⟨.bl c,H1,I1,r1,q⟩
 have h:=RX (pos:=pos) ha'
 exact h.imp fun Z H Q q=>by
  show ta Z H fun x H1=>isB x fun c=>∃c',V.bl c=.bl c'/\Q (.bl (!c')) H1
  have e:(fun(x:V) (H1:Hp)=>isB x fun c=>∃c',V.bl c=.bl c'/\Q (.bl (!c')) H1)=fun x H1=>isB x fun c=>Q (.bl (!c)) H1:=by
   funext x H1
   cases x <;> first | rfl | (apply propext;constructor;(rintro⟨c',e,h⟩;cases e;exact h);(intro h;exact⟨_,rfl,h⟩))
  rw[e];exact q
noncomputable def SqA(K:W.Frag)(H:Hp)(p:Addr)(xs:List V):Prop:=zv K H p xs\/zt K H p xs
noncomputable def mIx(K:W.Frag):R2:=fun x y H Q=>match x,y with
 | .ref p,.int i=>∃xs v,SqA K H p xs/\atI xs i=some v/\Q v H
 | .str z,.int i=>∃c,z.length<=sizeLine/\atI z.cps.toList i=some c/\Q (.str ⟨#[c]⟩) H
 | _,_=>False
theorem IxR.imp(h:IxR X r)(g:∀x y H Q,r' x y H Q->r x y H Q):IxR X r':=fun a b za s Z H x y v u Q I rx ry q z=>h a b za s Z H x y v u Q I rx ry (g _ _ _ _ q) z
theorem ZF:IxR X (mIx X.K):=ix_seq.imp fun x y H Q q=>by
 cases x <;> cases y <;> first
  | exact False.elim q
  | (obtain⟨xs,v,h | h,e,q⟩:=q
     ·exact .inl ⟨_,xs,_,v,rfl,rfl,h,e,q⟩
     ·exact .inr (.inl ⟨_,xs,_,v,rfl,rfl,h,e,q⟩))
  | (obtain⟨c,hz,e,q⟩:=q
     exact .inr (.inr ⟨_,_,c,rfl,rfl,hz,e,q⟩))
theorem Yk(ha:PE X a ta)(hb:PE X b tb)(hs:Jy b:=by intro _ _;rfl):PE X (.Subscript a b pos) (tOp (mIx X.K) ta tb):=Yc ZF ha hb hs
noncomputable def GF(K:W.Frag):List V->Hp->VK->Prop:=fun xs H Q=>match xs with
 | [x]=>∃n,Nn K x H n/\Q (.int n) H
 | _=>False
theorem Ud:CallR X (.builtin "len") (GF X.K):=call_len.imp fun xs H Q q=>by
 match xs,q with
 | [x],⟨n,h,q⟩=>exact⟨x,n,rfl,h,q⟩
noncomputable def Hj:List V->Hp->VK->Prop:=fun xs H Q=>match xs with
 | [.int i,.int j]=>Q (.int (max i j)) H
 | _=>False
theorem Gc(hc:X.calm=true):CallR X (.builtin "max") Hj:=(QZ hc).imp fun xs H Q q=>by
 match xs,q with
 | [.int i,.int j],q =>
  refine⟨i,j,rfl,?_⟩;have e:(if j > i then j else i)=max i j:=by split <;> lia
  rw[e];exact q
noncomputable def KG:List V->Hp->VK->Prop:=fun xs H Q=>match xs with
 | [.int i]=>Q (.int i) H
 | [.bl k]=>Q (.int (if k then 1 else 0)) H
 | _=>False
theorem Gf:CallR X (.type "int") KG:=call_int1.imp fun xs H Q q=>by
 match xs,q with
 | [.int i],q=>exact .inl ⟨i,rfl,q⟩
 | [.bl k],q=>exact .inr ⟨k,rfl,q⟩
noncomputable def Gz(K:W.Frag):List V->Hp->VK->Prop:=fun xs H Q=>match xs with
 | [.ref p]=>∃ys,(zv K H p ys/\∀l,H l=none->Q (.ref l) (upd H l (.tup ys)))\/(zt K H p ys/\Q (.ref p) H)
 | _=>False
theorem S6:CallR X (.type "tuple") (Gz X.K):=call_tuple_of.imp fun xs H Q q=>by
 match xs,q with
 | [.ref p],⟨ys,q⟩=>exact⟨p,ys,rfl,q⟩
noncomputable def OA(K:W.Frag):List V->Hp->VK->Prop:=fun xs H Q=>match xs with
 | [.ref p]=>∃ys,SqA K H p ys/\∀l,H l=none->Q (.ref l) (upd H l (.lst ys))
 | _=>False
theorem Uy:CallR X (.type "list") (OA X.K):=call_list_of.imp fun xs H Q q=>by
 match xs,q with
 | [.ref p],⟨ys,h,q⟩=>exact⟨p,ys,rfl,h,q⟩
noncomputable def Nz(K:W.Frag)(T:String)(x:V)(H:Hp)(b:Bool):Prop:=match x with
 | .non=>b=(T == "NoneType")
 | .bl _=>b=(T == "bool" || T == "int")
 | .int _=>b=(T == "int")
 | .str _=>b=(T == "str")
 | .ref a=>(∃xs,(H a=some (.lst xs)\/∃o,H a=some (.frz o (.lst xs)))/\b=(T == "list"))\/(∃xs,H a=some (.tup xs)/\b=(T == "tuple"))\/((∃zd,H a=some (.dK zd))/\b=(T == "dict"))\/((∃zd,H a=some (.dT zd))/\b=(T == "dict"))
 | _=>False
noncomputable def kinds:List String:=["int","bool","str","tuple","list","dict"]
theorem Rf(K:W.Frag):∀T∈kinds,PySem.W.kitOne K (.type "NoneType") (.type T)=some (T == "NoneType")/\PySem.W.kitOne K (.type "bool") (.type T)=some (T == "bool" || T == "int") /\
 PySem.W.kitOne K (.type "int") (.type T)=some (T == "int")/\PySem.W.kitOne K (.type "str") (.type T)=some (T == "str")/\PySem.W.kitOne K (.type "list") (.type T)=some (T == "list") /\
 PySem.W.kitOne K (.type "tuple") (.type T)=some (T == "tuple")/\PySem.W.kitOne K (.type "dict") (.type T)=some (T == "dict"):=by
 intro T h;unfold kinds at h
 rcases Zh.mp h with rfl | h
 ·exact⟨rfl,rfl,rfl,rfl,rfl,rfl,rfl⟩
 rcases Zh.mp h with rfl | h
 ·exact⟨rfl,rfl,rfl,rfl,rfl,rfl,rfl⟩
 rcases Zh.mp h with rfl | h
 ·exact⟨rfl,rfl,rfl,rfl,rfl,rfl,rfl⟩
 rcases Zh.mp h with rfl | h
 ·exact⟨rfl,rfl,rfl,rfl,rfl,rfl,rfl⟩
 rcases Zh.mp h with rfl | h
 ·exact⟨rfl,rfl,rfl,rfl,rfl,rfl,rfl⟩
 rcases Zh.mp h with rfl | h
 ·exact⟨rfl,rfl,rfl,rfl,rfl,rfl,rfl⟩
 ·exact absurd h (by simp)
theorem RY{T:String}{k:Bool}(hT:T∈kinds)(h:Nz K T v H k):∃ty,TyOf K H v ty/\PySem.W.kitOne K ty (.type T)=some k:=by
 obtain⟨k1,k2,k3,k4,k5,k6,k7⟩:=Rf K T hT;cases v with
 | non=>cases (show k=_ from h);exact⟨_,.non,k1⟩
 | bl _=>cases (show k=_ from h);exact⟨_,.bl _,k2⟩
 | int _=>cases (show k=_ from h);exact⟨_,.int _,k3⟩
 | str _=>cases (show k=_ from h);exact⟨_,.str _,k4⟩
 | ref q =>
  rcases h with ⟨xs,h | ⟨o,h⟩,e⟩ | ⟨xs,h,e⟩ | ⟨⟨zd,h⟩,e⟩ | ⟨⟨zd,h⟩,e⟩
  ·subst e;exact⟨_,.lst h,k5⟩
  ·subst e;exact⟨_,.frz h,k5⟩
  ·subst e;exact⟨_,.tup h,k6⟩
  ·subst e;exact⟨_,.dK h,k7⟩
  ·subst e;exact⟨_,.dT h,k7⟩
 | _=>exact False.elim h
noncomputable def Yx(K:W.Frag):List V->Hp->VK->Prop:=fun xs H Q=>match xs with
 | [x,.ty T]=>T∈kinds/\∃k,Nz K T x H k/\Q (.bl k) H
 | _=>False
theorem Ju:CallR X (.builtin "isinstance") (Yx X.K):=by
 intro za s Z H xs us Q I r q
 match xs,q with
 | [x,.ty T],q =>
  obtain⟨hT,k,h,q⟩:=q;obtain⟨u,w',rfl,ru,rw'⟩:=FJ r;cases rw';obtain⟨ty,h1,h2⟩:=RY hT h;exact XB I ru h1 h2 fun tk=>⟨.bl k,H,I.tok _,rfl,q⟩
end
noncomputable def Gj(scope sc:Scope):Bool :=
 decide (scope.kind=.function) && decide (scope.names.map (·.1)).Nodup && scope.names.all fun y=>!(y.2 == .free) || (sc.names.lookup y.1 == some .cell || sc.names.lookup y.1 == some .free)
theorem CompScope.of{scope sc:Scope}(h:Gj scope sc=true):CompScope scope sc:=by
 unfold Gj at h;rw[Zp,Zp]at h;obtain⟨⟨h1,h2⟩,h3⟩:=h;refine⟨Zn h1,Zn h2,fun y hy hf=>?_⟩
 have:=ZBW.mp h3 y hy
 rw[hf]at this
 rcases(Bool.or_eq_true _ _).mp this with z | z
 ·exact absurd z (by decide)
 ·rcases(Bool.or_eq_true _ _).mp z with z | z
  ·exact .inl (by simpa using z)
  ·exact .inr (by simpa using z)
section
variable {X:Cx}{tg iter elt:Expr}{ifs:List Expr}{scope:Scope}{pos:Pos}{N':List Str}{own:Nat}{ix:List Nat}{g:TG}{tc:TT}{te:TE}{wi:TI}
theorem frB{l:List Str}(h:(l.all fun x=>scope.names.lookup x == some .free)=true):∀x∈l,scope.names.lookup x=some .free:=fun x hx=>by
 have:=ZBW.mp h x hx
 simpa using this
theorem Az (hc:X.calm=true) (hi:PI X tg iter wi) (S:Gj scope X.env.scope=true)
 (zk:N'.length=own+ix.length) (hN:(N'.drop own).map some=ix.map (X.N[·]?)) (hfr:((N'.drop own).all fun x=>scope.names.lookup x == some .free)=true)
 (hg:∀c,PG (X.comp scope N' c) tg g) (hgo:DS own g) (ht:∀c,PTs (X.comp scope N' c) ifs tc) (he:∀c,PE (X.comp scope N' c) elt te)
 (hs:∀x,foldedSetIterable iter X.env x=pure x:=by intro _;rfl):PE X (.ListComp elt [⟨tg,iter,ifs,0⟩] scope pos) (Fe wi own ix g tc te) :=
 QG hc hi (.of S) zk hN (frB hfr) hg hgo ht he hs
theorem Cv {i:Nat} {y:Str} {py spos:Pos} (hc:X.calm=true) (hnd:X.N.Nodup) (hiy:X.N[i]? = some y) (hy:X.env.scope.names.lookup y=some .local) (hi:PI X tg iter wi) (S:Gj scope X.env.scope=true)
 (zk:N'.length=own+ix.length) (hN:(N'.drop own).map some=ix.map (X.N[·]?)) (hfr:((N'.drop own).all fun x=>scope.names.lookup x == some .free)=true)
 (hg:∀c,PG (X.comp scope N' c) tg g) (hgo:DS own g) (ht:∀c,PTs (X.comp scope N' c) ifs tc) (he:∀c,PE (X.comp scope N' c) elt te)
 (hsw:swapsWith (.ListComp elt [⟨tg,iter,ifs,0⟩] scope pos) (some (.Name y py)) spos.line X.env=pure true)
 (hs:∀x,foldedSetIterable iter X.env x=pure x:=by intro _;rfl):PS X (.Assign [.Name y py] (.ListComp elt [⟨tg,iter,ifs,0⟩] scope pos) spos) (FE (Fe wi own ix g tc te) (Ak i)) :=
 TH hc hnd hiy hy hi (.of S) zk hN (frB hfr) hg hgo ht he hsw hs
noncomputable def JP(K:W.Frag)(tl:TE):TI:=fun Z H R=>tl Z H fun x H1=>match x with
 | .ref a=>((∃xs,zv K H1 a xs)/\R (Itl K a) H1)\/((∃xs,zt K H1 a xs)/\R (Itt K a) H1)
 | _=>False
theorem SB{l:Expr}{tl:TE}(hl:PE X l tl):PI X tg l (JP X.K tl):=by
 intro za s Z H R I h;refine zn (hl za s Z H _ I h) fun v s1 ⟨x,H1,I1,r1,q1⟩=>?_
 cases x with
 | ref a =>
  cases r1
  rcases q1 with ⟨⟨xs,hq⟩,q⟩ | ⟨⟨xs,hq⟩,q⟩
  ·obtain⟨ze,rv,p,hz⟩:=I1.list hq;refine wpAny_pyIter_list p.isList ?_;refine⟨s1.heap.objs.size,[s1.heap.objs.size],_,_,H1,rfl,I1.kept (t':=s1.toks) fun b o e=>Zi _ e,XJ a _,⟨_,Zr _ rfl,rfl,rfl⟩,fun b hb=>?_,q⟩;have e:b=s1.heap.objs.size:=by simpa using hb
   subst e;exact I1.fpOk (Zf _) (I1.hok.fresh (Zf _))
  ·obtain⟨ze,rv,p,hz⟩:=I1.tuple hq;refine wpAny_pyIter_tuple (show s1.heap.IsTuple a ze.toArray from p) ?_;refine⟨s1.heap.objs.size,[s1.heap.objs.size],_,_,H1,rfl,I1.kept (t':=s1.toks) fun b o e=>Zi _ e,US a _,⟨_,Zr _ rfl,rfl,rfl⟩,fun b hb=>?_,q⟩;have e:b=s1.heap.objs.size:=by simpa using hb
   subst e;exact I1.fpOk (Zf _) (I1.hok.fresh (Zf _))
 | _=>exact False.elim q1
noncomputable def Hw:D3:=fun o i v H Q=>match o,i with
 | .ref p,.int k=>∃xs j,H p=some (.lst xs)/\ixN xs.length k=some j/\Q (upd H p (.lst (xs.set j v)))
 | _,_=>False
theorem Et:Fa X Hw:=by
 intro za s Z H o i v ov iv u Q I ro ri rv h
 cases o <;> cases i <;> first
  | exact False.elim h
  | (obtain⟨xs,j,h1,h2,q⟩:=h
     exact ZL za s Z H _ _ v ov iv u Q I ro ri rv ⟨_,xs,_,j,rfl,rfl,h1,h2,q⟩)
theorem Fw (Pv:Nat->List V->Hp->Prop) (h0:Pv 0 [] H) (hl:∀i ys H,i<=xs.length->Pv i ys H->zv K H a xs) (hz:∀i ys H,i < xs.length->Pv i ys H->ys.length < sizeLine)
 (hs:∀i x ys H,xs[i]? = some x->Pv i ys H->g x σc H fun σ2 H2=>tc σ2 H2 fun b H3=>if b=true then te σ2 H3 fun y H4=>Pv (i+1) (ys++[y]) H4 else Pv (i+1) ys H3)
 (hd:∀ys H,Pv xs.length ys H->∀p,H p=none->Q (.ref p) (upd H p (.lst ys))):Cw (Itl K a) g tc te σc Q H:=by
 refine⟨fun i m ys H=>m=xs.length - i/\i<=xs.length/\Pv i ys H,⟨xs.length,by simp,Zu _,h0⟩,?_⟩;rintro i m ys H ⟨rfl,hi,p⟩;have q:=hl i ys H hi p
 by_cases zm:i < xs.length
 ·refine .inr ⟨⟨xs,xs[i],q,by simp[zm]⟩,hz i ys H zm p,Pv (i+1),fun ys' H' p'=>⟨xs.length - (i+1),by lia,rfl,zm,p'⟩,fun x H' y=>?_⟩;obtain⟨e,y⟩:=y;subst e;exact hs i x ys _ (y xs q) p
 ·have e:i=xs.length:=by lia
  subst e;exact .inl ⟨⟨xs,q,Zf _⟩,hd ys H p⟩
theorem Bz (Pv:Nat->List V->Hp->Prop) (h0:Pv 0 [] H) (hl:∀i ys H,i<=xs.length->Pv i ys H->zt K H a xs) (hz:∀i ys H,i < xs.length->Pv i ys H->ys.length < sizeLine)
 (hs:∀i x ys H,xs[i]? = some x->Pv i ys H->g x σc H fun σ2 H2=>tc σ2 H2 fun b H3=>if b=true then te σ2 H3 fun y H4=>Pv (i+1) (ys++[y]) H4 else Pv (i+1) ys H3)
 (hd:∀ys H,Pv xs.length ys H->∀p,H p=none->Q (.ref p) (upd H p (.lst ys))):Cw (Itt K a) g tc te σc Q H:=by
 refine⟨fun i m ys H=>m=xs.length - i/\i<=xs.length/\Pv i ys H,⟨xs.length,by simp,Zu _,h0⟩,?_⟩;rintro i m ys H ⟨rfl,hi,p⟩;have q:=hl i ys H hi p
 by_cases zm:i < xs.length
 ·refine .inr ⟨⟨xs,xs[i],q,by simp[zm]⟩,hz i ys H zm p,Pv (i+1),fun ys' H' p'=>⟨xs.length - (i+1),by lia,rfl,zm,p'⟩,fun x H' y=>?_⟩;obtain⟨e,y⟩:=y;subst e;exact hs i x ys _ (y xs q) p
 ·have e:i=xs.length:=by lia
  subst e;exact .inl ⟨⟨xs,q,Zf _⟩,hd ys H p⟩
theorem CM {lo:Int} (Pv:Nat->List V->Hp->Prop) (h0:Pv 0 [] H) (hz:∀i ys H,i < n->Pv i ys H->ys.length < sizeLine)
 (hs:∀i ys H,i < n->Pv i ys H->g (.int (lo+i)) σc H fun σ2 H2=>tc σ2 H2 fun b H3=>if b=true then te σ2 H3 fun y H4=>Pv (i+1) (ys++[y]) H4 else Pv (i+1) ys H3)
 (hd:∀ys H,Pv n ys H->∀p,H p=none->Q (.ref p) (upd H p (.lst ys))):Cw (Itr lo n) g tc te σc Q H:=by
 refine⟨fun i m ys H=>m=n - i/\i<=n/\Pv i ys H,⟨n,by simp,Zu _,h0⟩,?_⟩;rintro i m ys H ⟨rfl,hi,p⟩
 by_cases zm:i < n
 ·refine .inr ⟨zm,hz i ys H zm p,Pv (i+1),fun ys' H' p'=>⟨n - (i+1),by lia,rfl,zm,p'⟩,fun x H' y=>?_⟩;obtain⟨e,y⟩:=y;subst e y;exact hs i ys _ zm p
 ·have e:i=n:=by lia
  subst e;exact .inl ⟨Zf _,hd ys H p⟩
noncomputable def OU(c:TT)(tb:TS):TS:=fun D Z H=>∃W:Nat->St->Hp->Prop,(∃m,W m Z H)/\∀m Z H,W m Z H ->
 c Z H fun b H1=>if b=true then tb { D with nx:=fun σ' H'=>∃m',m' < m/\W m' σ' H',ct:=fun σ' H'=>∃m',m' < m/\W m' σ' H',bk:=D.nx } Z H1 else D.nx Z H1
theorem HJ{c:Expr}{body:List Stmt}{tc:TT}{tb:TS}(hp:PassesOwn (model X.prog X.w) X.A X.env X.xe)(hc:PT X c tc)(hb:PSs X body tb):PS X (.While c body [] pos) (OU tc tb):=by
 intro za s Z H D I h;obtain⟨W,⟨m0,w0⟩,turn⟩:=h;refine wpAny_While (codeAny_whileLoop (fun n s'=>∃σ' H',zg X za σ' H' s'/\W n σ' H') ?_ m0 ⟨Z,H,I,w0⟩);rintro n s1 ⟨σ1,H1,I1,w1⟩;refine wpAny_passesOwn hp (zn (hc za s1 σ1 H1 _ I1 (turn n σ1 H1 w1)) fun b s2 ⟨H2,I2,q2⟩=>?_);cases b with
 | true =>
  rw[if_pos rfl]at q2;rw[if_pos rfl];refine wpAny_passesOwn hp (zn (hb za s2 σ1 H2 _ I2 q2) fun f s3 q3=>?_);cases f with
  | next =>
   obtain⟨σ3,H3,I3,m',hm,w3⟩:=q3;exact⟨m',hm,σ3,H3,I3,w3⟩
  | cont =>
   obtain⟨σ3,H3,I3,m',hm,w3⟩:=q3;exact⟨m',hm,σ3,H3,I3,w3⟩
  | brk=>exact q3
  | ret v=>exact q3
 | false =>
  rw[if_neg ZBF]at q2;rw[if_neg ZBF];exact wpAny_execs_nil ⟨σ1,H2,I2,q2⟩
end
theorem AT{k:Nat}(hr:Room k A):A.units+60 < cLine:=by have:=hr.un;lia
noncomputable def zp(t:Addr)(H H':Hp):Prop:=∀b o,b≠t->H b=some o->H' b=some o
theorem zp.refl{t:Addr}:zp t H H:=fun _ _ _ h=>h
theorem zp.trans{t:Addr}{H1 H2:Hp}(a:zp t H H1)(b:zp t H1 H2):zp t H H2:=fun c o n h=>b c o n (a c o n h)
theorem zp.upd{t:Addr}(h:H p=none):zp t H (upd H p o):=fun b u _ e=>by rw[AI (Bo e h)];exact e
theorem zp.updT{t:Addr}:zp t H (L2.upd H t o):=fun b u n e=>by rw[AI n];exact e
theorem zc.upd(h:H p=none):zc H (L2.upd H p o):=fun b u e=>by rw[AI (Bo e h)];exact e
theorem zc.frm{t:Addr}(h:zc H H'):zp t H H':=fun b o _ e=>h b o e
theorem Hm(h:zv K H a xs)(k:∀o,H a=some o->H' a=some o):zv K H' a xs:=by
 rcases h with (h | ⟨o,h⟩) | h
 ·exact .inl (.inl (k _ h))
 ·exact .inl (.inr ⟨o,k _ h⟩)
 ·exact .inr h
theorem HE(h:zt K H a xs)(k:∀o,H a=some o->H' a=some o):zt K H' a xs:=by
 rcases h with (h | ⟨o,h⟩) | h
 ·exact .inl (.inl (k _ h))
 ·exact .inl (.inr ⟨o,k _ h⟩)
 ·exact .inr h
noncomputable def ScrAt(K:W.Frag)(H:Hp)(t a:Addr)(ns:List Int):Prop :=
 (Rd H a (.lst (ns.map V.int))/\a≠t)\/∃(o:Obj) (ze:Array Value) (n:Nat),K.lookup a=some o/\o.cls=.type "list" /\ o.dict=none/\o.data=.seq ze n/\ze.size<=sizeLine/\zj (ns.map V.int) ze.toList
theorem ScrAt.sq{t:Addr}(h:ScrAt K H t a ns):zv K H a (ns.map V.int):=by
 rcases h with ⟨h,_⟩ | h
 ·exact .inl h
 ·exact .inr h
theorem ScrAt.stay{t:Addr}(h:ScrAt K H t a ns)(k:∀o,a≠t->H a=some o->H' a=some o):ScrAt K H' t a ns:=by
 rcases h with ⟨h | ⟨o,h⟩,n⟩ | h
 ·exact .inl ⟨.inl (k _ n h),n⟩
 ·exact .inl ⟨.inr ⟨o,k _ n h⟩,n⟩
 ·exact .inr h
theorem ScrAt.of{t:Addr}(h:zv K H a (ns.map V.int))(ht:H t=none):ScrAt K H t a ns:=by
 rcases h with h | h
 ·refine .inl ⟨h,fun e=>?_⟩;subst e
  rcases h with h | ⟨o,h⟩ <;> rw[ht]at h <;> cases h
 ·exact .inr h
structure Tape(K:W.Frag)(H:Hp)(t a:Addr)(ns:List Int):Prop where
 at_:∃i r c:Int,0<=i/\0<=r/\H t=some (.lst [.ref a,.int i,.int r,.int c])
 scr:ScrAt K H t a ns
theorem Tape.same{t:Addr}(T:Tape K H t a ns)(h:zc H H'):Tape K H' t a ns:=by
 obtain⟨i,r,c,h1,h2,h3⟩:=T.at_;exact⟨⟨i,r,c,h1,h2,h _ _ h3⟩,T.scr.stay fun o _ e=>h a o e⟩
theorem Tape.upd{t:Addr}(T:Tape K H t a ns)(h:H p=none):Tape K (L2.upd H p o) t a ns:=T.same (zc.upd h)
theorem Tape.free{t:Addr}(T:Tape K H' t a ns)(h:zp t H H')(hp:H' p=none):H p=none:=by
 cases e:H p with
 | none=>rfl
 | some o =>
  by_cases hpt:p=t
  ·subst hpt;obtain⟨i,r,c,_,_,h3⟩:=T.at_;rw[h3]at hp;cases hp
  ·rw[h p o hpt e]at hp;cases hp
theorem Tape.neT{t:Addr}(T:Tape K H t a ns)(hp:H p=none):p≠t:=fun e=>by
 obtain⟨i,r,c,_,_,h3⟩:=T.at_;rw[e,h3]at hp;cases hp
noncomputable def FT(K:W.Frag):Sp:=fun vs H Q _=>match vs with
 | [.ref t,.int m]=>∃a ns,Tape K H t a ns/\okDiv m/\∀d H',0<=d->d < m->Tape K H' t a ns->(∀b,b≠t->H' b=H b)->Q (.int d) H'
 | _=>False
noncomputable def Jc(K:W.Frag):Sp:=fun vs H Q _=>match vs with
 | [.ref a]=>∀p,H p=none->Q (.ref p) (upd H p (.lst [.ref a,.int 0,.int 0,.int 0]))
 | _=>False
theorem Ae{i:Int}(h:i=(n:Int))(hx:xs[n]? = some v):atI xs i=some v:=by
 subst h;have hn:n < xs.length:=(Z4.mp hx).1;unfold atI ixN;rw[if_pos (ZCg n),if_pos (by lia)];simpa using hx
theorem Pa{i:Int}(h0:0<=i)(h1:i < ns.length):∃z,atI (ns.map V.int) i=some (.int z):=by
 obtain⟨n,rfl⟩:=Int.eq_ofNat_of_zero_le h0;have hn:n < ns.length:=by lia
 exact⟨ns[n],Ae rfl (by rw[Zm,Zg hn];rfl)⟩
theorem YJ(h:H p=none)(hs:zv K H a (ns.map V.int)):Tape K (L2.upd H p (.lst [.ref a,.int 0,.int 0,.int 0])) p a ns :=
 ⟨⟨0,0,0,Int.le_refl _,Int.le_refl _,AD⟩,(ScrAt.of hs h).stay fun o n e=>by rw[AI n];exact e⟩
theorem Cd{j:Int}(h1:0 < j)(h2:j<=2 ^ 1000):okDiv j:=⟨h1,Int.lt_of_le_of_lt h2 (by decide)⟩
theorem K9(h:n<=1000):n<=sizeLine:=ZBa (Aj h)
theorem smq(h:Nat.ble n 1000=true):n<=sizeLine:=K9 (Nat.le_of_ble_eq_true h)
noncomputable def CF(t:TT):Prop:=∀Z H (Q Q':Bool->Hp->Prop),(∀b H,Q b H->Q' b H)->t Z H Q->t Z H Q'
noncomputable def Bu(t:TA):Prop:=∀Z H (Q Q':List V->Hp->Prop),(∀b H,Q b H->Q' b H)->t Z H Q->t Z H Q'
noncomputable def Ba(r:R2):Prop:=∀x y H (Q Q':VK),(∀v H,Q v H->Q' v H)->r x y H Q->r x y H Q'
noncomputable def N4(r:V->Hp->VK->Prop):Prop:=∀x H (Q Q':VK),(∀v H,Q v H->Q' v H)->r x H Q->r x H Q'
noncomputable def CV(r:List V->Hp->VK->Prop):Prop:=∀xs H (Q Q':VK),(∀v H,Q v H->Q' v H)->r xs H Q->r xs H Q'
noncomputable def Fq(r:V->List V->Hp->VK->Prop):Prop:=∀x xs H (Q Q':VK),(∀v H,Q v H->Q' v H)->r x xs H Q->r x xs H Q'
noncomputable def AK(sp:Sp):Prop:=∀vs H (Q Q':VK) E,(∀v H,Q v H->Q' v H)->sp vs H Q E->sp vs H Q' E
noncomputable def Ds(t:TI):Prop:=∀Z H (Q Q':It->Hp->Prop),(∀J H,Q J H->Q' J H)->t Z H Q->t Z H Q'
noncomputable def J8(t:D3):Prop:=∀o i v H (Q Q':Hp->Prop),(∀H,Q H->Q' H)->t o i v H Q->t o i v H Q'
structure Ends.le(D D':Ends):Prop where
 nx:∀Z H,D.nx Z H->D'.nx Z H
 rt:∀v H,D.rt v H->D'.rt v H
 bk:∀Z H,D.bk Z H->D'.bk Z H
 ct:∀Z H,D.ct Z H->D'.ct Z H
noncomputable def Bh(t:TS):Prop:=∀D D' Z H,Ends.le D D'->t D Z H->t D' Z H
theorem Rj:AY (HM i):=fun Z H Q Q' h q=>by
 unfold HM at *;split at q
 ·exact h _ _ q
 ·exact q.elim
theorem YE:AY (tC v):=fun _ _ _ _ h q=>h _ _ q
theorem Rh{tb:TE}(hr:Ba r)(ha:AY ta)(hb:AY tb):AY (tOp r ta tb):=fun Z H Q Q' h q=>ha _ _ _ _ (fun _ _ q=>hb _ _ _ _ (fun _ _ q=>hr _ _ _ _ _ h q) q) q
theorem Wl{r:V->Hp->VK->Prop}(hr:N4 r)(ha:AY ta):AY (tUn r ta):=fun Z H Q Q' h q=>ha _ _ _ _ (fun _ _ q=>hr _ _ _ _ h q) q
theorem Vt{K}:Ba (HH K):=fun x y H Q Q' h q=>by
 unfold HH at *;split at q
 ·exact h _ _ q
 ·exact⟨q.1,h _ _ q.2⟩
 ·rcases q with ⟨l,b,xs,zs,e1,e2,h1,h2,h3,q⟩ | ⟨a,b,xs,ys,e1,e2,h1,h2,h3,h4,q1,q2⟩
  ·exact .inl ⟨l,b,xs,zs,e1,e2,h1,h2,h3,fun p hp=>h _ _ (q p hp)⟩
  ·exact .inr ⟨a,b,xs,ys,e1,e2,h1,h2,h3,h4,fun e=>h _ _ (q1 e),fun e p hp=>h _ _ (q2 e p hp)⟩
 ·exact q.elim
theorem UI:Ba HS:=fun x y H Q Q' h q=>by unfold HS at *;split at q <;> first | exact h _ _ q | exact q.elim
theorem ZA:Ba Kk:=fun x y H Q Q' h q=>by
 unfold Kk at *;split at q
 ·exact⟨q.1,h _ _ q.2⟩
 ·obtain⟨l,k,xs,e1,e2,h1,h2,h3,h4,q⟩:=q;exact⟨l,k,xs,e1,e2,h1,h2,h3,h4,fun p hp=>h _ _ (q p hp)⟩
 ·exact q.elim
theorem Sz:Ba Ie:=fun x y H Q Q' h q=>by unfold Ie at *;split at q <;> first | exact⟨q.1,h _ _ q.2⟩ | exact q.elim
theorem QM:Ba J9:=fun x y H Q Q' h q=>by unfold J9 at *;split at q <;> first | exact⟨q.1,h _ _ q.2⟩ | exact q.elim
theorem YV:Ba IX:=fun x y H Q Q' h q=>by unfold IX at *;split at q <;> first | exact⟨q.1,h _ _ q.2⟩ | exact q.elim
theorem SY{f}:Ba (Fo f):=fun x y H Q Q' h q=>by unfold Fo at *;split at q <;> first | exact h _ _ q | exact q.elim
theorem Qj:N4 Kn:=fun x H Q Q' h q=>by unfold Kn at *;split at q <;> first | exact h _ _ q | exact q.elim
theorem WR{p}:Ba (E2 p):=fun x y H Q Q' h q=>by unfold E2 at *;split at q <;> first | exact h _ _ q | exact q.elim
theorem Yj{n K}:Ba (mEq n K):=fun x y H Q Q' h q=>by
 unfold mEq at *;split at q <;> first | exact h _ _ q | (obtain⟨d,e,h1,h2,h3,q⟩:=q;exact⟨d,e,h1,h2,h3,h _ _ q⟩)
theorem XX{K}:Ba (mIx K):=fun x y H Q Q' h q=>by
 unfold mIx at *;split at q
 ·obtain⟨xs,v,h1,h2,q⟩:=q;exact⟨xs,v,h1,h2,h _ _ q⟩
 ·obtain⟨c,h1,h2,q⟩:=q;exact⟨c,h1,h2,h _ _ q⟩
 ·exact q.elim
theorem Kl{Q Q':Bool->Prop}(h:∀b,Q b->Q' b)(q:isB v Q):isB v Q':=by
 cases v <;> first | exact h _ q | exact q
theorem ZC{t:TE}(h:AY t):CF (uB t):=fun Z H Q Q' k q=>h _ _ _ _ (fun _ _ q=>Kl (fun b q=>k b _ q) q) q
theorem UF{tb tc:TE}(hr:Ba r)(hr':Ba r')(ha:AY ta)(hb:AY tb)(hc:AY tc):AY (KH r r' ta tb tc):=fun Z H Q Q' h q =>
 ha _ _ _ _ (fun _ _ q=>hb _ _ _ _ (fun _ _ q=>hr _ _ _ _ _ (fun _ _ q=>Kl (fun b q=>by
  split
  ·rename_i e;rw[if_pos e]at q;exact hc _ _ _ _ (fun _ _ q=>hr' _ _ _ _ _ h q) q
  ·rename_i e;rw[if_neg e]at q;exact h _ _ q) q) q) q) q
theorem Qf(ha:AY ta):AY (LR ta):=fun Z H Q Q' h q=>ha _ _ _ _ (fun _ _ q=>Kl (fun b q=>h _ _ q) q) q
theorem Rq{t:TT}{tb:TE}(ht:CF t)(ha:AY ta)(hb:AY tb):AY (tIf t ta tb):=fun Z H Q Q' h q=>ht _ _ _ _ (fun b _ q=>by
 cases b with
 | true=>exact ha _ _ _ _ h q
 | false=>exact hb _ _ _ _ h q) q
theorem SM{t u:TT}(ht:CF t)(hu:CF u):CF (NB t u):=fun Z H Q Q' h q=>ht _ _ _ _ (fun b _ q=>by
 cases b with
 | true=>exact hu _ _ _ _ h q
 | false=>exact h _ _ q) q
theorem Uw{t u:TT}(ht:CF t)(hu:CF u):CF (tOr t u):=fun Z H Q Q' h q=>ht _ _ _ _ (fun b _ q=>by
 cases b with
 | true=>exact h _ _ q
 | false=>exact hu _ _ _ _ h q) q
theorem Qm{t:TT}(ht:CF t):CF (OO t):=fun Z H Q Q' h q=>ht _ _ _ _ (fun b _ q=>h _ _ q) q
theorem Tt:Bu KD:=fun _ _ _ _ h q=>h _ _ q
theorem Ye{t:TA}(ha:AY ta)(ht:Bu t):Bu (OF ta t):=fun Z H Q Q' h q=>ha _ _ _ _ (fun _ _ q=>ht _ _ _ _ (fun _ _ q=>h _ _ q) q) q
theorem Yl{r}{t:TA}(hr:CV r)(ht:Bu t):AY (tCB r t):=fun Z H Q Q' h q=>ht _ _ _ _ (fun _ _ q=>hr _ _ _ _ h q) q
theorem SI{sp dvs E}{t:TA}(hs:AK sp)(ht:Bu t):AY (Lk sp dvs E t):=fun Z H Q Q' h q=>ht _ _ _ _ (fun _ _ q=>hs _ _ _ _ _ h q) q
theorem WG{t:TA}(ht:Bu t):AY (MC t):=fun Z H Q Q' h q=>ht _ _ _ _ (fun _ _ q=>⟨q.1,fun p hp=>h _ _ (q.2 p hp)⟩) q
theorem V7{t:TA}(ht:Bu t):AY (L0 t):=fun Z H Q Q' h q=>ht _ _ _ _ (fun _ _ q=>⟨q.1,fun p hp=>h _ _ (q.2 p hp)⟩) q
theorem Wo{wi own ix g tc te}(hi:Ds wi):AY (Fe wi own ix g tc te):=fun Z H Q Q' h q=>hi _ _ _ _ (fun J H1 q=>by
 obtain⟨W,w0,turn⟩:=q;refine⟨W,w0,fun i m ys H w=>?_⟩
 rcases turn i m ys H w with ⟨a,b⟩ | r
 ·exact .inl ⟨a,fun p hp=>h _ _ (b p hp)⟩
 ·exact .inr r) q
theorem Sa{K}:CV (GF K):=fun xs H Q Q' h q=>by unfold GF at *;split at q <;> first | (obtain⟨n,a,q⟩:=q;exact⟨n,a,h _ _ q⟩) | exact q.elim
theorem Xf:CV Hj:=fun xs H Q Q' h q=>by unfold Hj at *;split at q <;> first | exact h _ _ q | exact q.elim
theorem Qv:CV KG:=fun xs H Q Q' h q=>by unfold KG at *;split at q <;> first | exact h _ _ q | exact q.elim
theorem Vu{K}:CV (Gz K):=fun xs H Q Q' h q=>by
 unfold Gz at *;split at q
 ·obtain⟨ys,⟨a,q⟩ | ⟨a,q⟩⟩:=q
  ·exact⟨ys,.inl ⟨a,fun l hl=>h _ _ (q l hl)⟩⟩
  ·exact⟨ys,.inr ⟨a,h _ _ q⟩⟩
 ·exact q.elim
theorem TJ{K}{tl:TE}(h:AY tl):Ds (JP K tl):=fun Z H Q Q' k q=>h _ _ _ _ (fun v H1 q=>by
 cases v <;> first | exact q.elim | (rcases q with ⟨a,q⟩ | ⟨a,q⟩
                                     ·exact .inl ⟨a,k _ _ q⟩
                                     ·exact .inr ⟨a,k _ _ q⟩)) q
theorem Uc{ta:TA}(h:Bu ta):Ds (LH ta):=fun Z H Q Q' k q=>h _ _ _ _ (fun _ _ ⟨j,e,a,b,q⟩=>⟨j,e,a,b,k _ _ q⟩) q
theorem ZV{ta:TA}(h:Bu ta):Ds (MF ta):=fun Z H Q Q' k q=>h _ _ _ _ (fun _ _ ⟨i,j,e,a,q⟩=>⟨i,j,e,a,k _ _ q⟩) q
theorem WC:J8 Hw:=fun o i v H Q Q' h q=>by
 unfold Hw at *;split at q
 ·obtain⟨xs,j,a,b,q⟩:=q;exact⟨xs,j,a,b,h _ q⟩
 ·exact q.elim
theorem YY{to ti:TE}{t:D3}(h1:AY to)(h2:AY ti)(h3:J8 t):Dq (LL to ti t):=fun v Z H Q Q' h q=>h1 _ _ _ _ (fun _ _ q=>h2 _ _ _ _ (fun _ _ q=>h3 _ _ _ _ _ _ (fun H q=>h _ _ q) q) q) q
theorem SD:Bh Fj:=fun D D' Z H h q=>h.nx _ _ q
theorem W1{t u:TS}(h1:Bh t)(h2:Bh u):Bh (Ik t u):=fun D D' Z H h q=>h1 { D with nx:=u D } { D' with nx:=u D' } Z H ⟨fun Z H q=>h2 D D' Z H h q,h.rt,h.bk,h.ct⟩ q
theorem WF{g:TG}(h1:AY te)(h2:Dq g):Bh (FE te g):=fun D D' Z H h q=>h1 _ _ _ _ (fun _ _ q=>h2 _ _ _ _ _ h.nx q) q
theorem Va(h1:AY te):Bh (LU te):=fun D D' Z H h q=>h1 _ _ _ _ h.rt q
theorem Vx(h1:AY te):Bh (Lm te):=fun D D' Z H h q=>h1 _ _ _ _ (fun _ _ q=>h.nx _ _ q) q
theorem VC{c:TT}{t u:TS}(hc:CF c)(h1:Bh t)(h2:Bh u):Bh (Nf c t u):=fun D D' Z H h q=>hc _ _ _ _ (fun b _ q=>by
 cases b with
 | true=>exact h1 _ _ _ _ h q
 | false=>exact h2 _ _ _ _ h q) q
theorem Pf{c:TT}{tb:TS}(hc:CF c)(h1:Bh tb):Bh (OU c tb):=fun D D' Z H h q=>by
 obtain⟨W,w0,turn⟩:=q;refine⟨W,w0,fun m Z H w=>hc _ _ _ _ (fun b H1 q=>?_) (turn m Z H w)⟩;cases b with
 | true=>exact h1 { D with nx:=fun σ' H'=>∃m',m' < m/\W m' σ' H',ct:=fun σ' H'=>∃m',m' < m/\W m' σ' H',bk:=D.nx } _ _ _ ⟨fun _ _ q=>q,h.rt,h.nx,fun _ _ q=>q⟩ q
 | false=>exact h.nx _ _ q
theorem RU{wi:TI}{g:TG}{tb:TS}(hi:Ds wi)(hg:Dq g)(h1:Bh tb):Bh (Nq wi g tb):=fun D D' Z H h q=>hi _ _ _ _ (fun J H1 q=>by
 obtain⟨W,w0,turn⟩:=q;refine⟨W,w0,fun i m Z H w=>?_⟩
 rcases turn i m Z H w with ⟨a,b⟩ | ⟨a,N,hN,step⟩
 ·exact .inl ⟨a,h.nx _ _ b⟩
 ·exact .inr ⟨a,N,hN,fun x H' y=>hg _ _ _ _ _ (fun σ2 H2 q=>h1 { D with nx:=N,ct:=N,bk:=D.nx } _ _ _ ⟨fun _ _ q=>q,h.rt,h.nx,fun _ _ q=>q⟩ q) (step x H' y)⟩) q
theorem Ad{t u:TS}{D:Ends}(J:St->Hp->Prop)(h1:t { D with nx:=J } Z H)(h2:∀σ' H',J σ' H'->u D σ' H')(hm:Bh t):Ik t u D Z H :=
 hm { D with nx:=J } { D with nx:=u D } Z H ⟨h2,fun _ _ q=>q,fun _ _ q=>q,fun _ _ q=>q⟩ h1
theorem Xa{K}:AK (FT K):=fun vs H Q Q' E h q=>by
 unfold FT at *;split at q
 ·obtain⟨a,ns,x,y,q⟩:=q;exact⟨a,ns,x,y,fun d H' e1 e2 e3 e4=>h _ _ (q d H' e1 e2 e3 e4)⟩
 ·exact q.elim
section
variable {X:Cx}{K:W.Frag}{a b c e l tg:Expr}{es:List Expr}{ta tb tc te tl:TE}{pos p:Pos}
theorem Bi(hK:X.K=K:=by rfl):zy X (binaryOp .Add) (HH K):=hK ▸ XM
theorem kEq(hu:X.A.units+60 < cLine)(hK:X.K=K:=by rfl):zy X (compareOp .Eq) (mEq false K):=hK ▸ SZ hu
theorem kNe(hu:X.A.units+60 < cLine)(hK:X.K=K:=by rfl):zy X (compareOp .NotEq) (mEq true K):=hK ▸ Qn hu
theorem zw(ha:PE X a ta)(hb:PE X b tb)(hs:Jy b:=by intro _ _;rfl)(hK:X.K=K:=by rfl):PE X (.Subscript a b pos) (tOp (mIx K) ta tb):=hK ▸ Yk ha hb hs
theorem BG(hK:X.K=K:=by rfl):CallR X (.builtin "len") (GF K):=hK ▸ Ud
theorem CY(hK:X.K=K:=by rfl):CallR X (.type "tuple") (Gz K):=hK ▸ S6
theorem YL(hK:X.K=K:=by rfl):CallR X (.type "list") (OA K):=hK ▸ Uy
theorem BH(hl:PE X l tl)(hK:X.K=K:=by rfl):PI X tg l (JP K tl):=hK ▸ SB hl
theorem Cg {k:Nat} {t:TGs} (hc:X.calm=true) (h:PGs X es t)
 (hn:(assignEach es X.env).length=n:=by rfl) (hst:(assignEach es X.env).findIdx? (·.1)=none:=by rfl) (hK:X.K=K:=by rfl):PG X (.Tuple es k pos) (JY K n t):=hK ▸ NY hc h hn hst
end
noncomputable def Itz(K:W.Frag)(l1 l2:Addr):It :=
 ⟨fun i H=>∃xs ys x y,zv K H l1 xs/\zv K H l2 ys/\xs[i]? = some x/\ys[i]? = some y,
  fun i H v H'=>∃p x y,H p=none/\v=.ref p/\H'=upd H p (.tup [x,y])/\(∀xs,zv K H l1 xs->xs[i]? = some x)/\(∀ys,zv K H l2 ys->ys[i]? = some y),
  fun i H=>∃xs ys,zv K H l1 xs/\zv K H l2 ys/\(xs.length<=i\/ys.length<=i)⟩
theorem zg.turnedNew {za:List (Addr × Obj)} {h':Heap} {ch:List Addr} {T:Addr} (I:zg X za Z H s) (hf:∀b∈ch,BJ X za H b) (hT:s.heap.objs.size<=T)
 (k:∀b u,b∉ch->s.heap.get? b=some u->h'.get? b=some u) (new:ObjOk X.prog X.w (upd H T o) h' T o) (th:∀b∈ch,∃u,h'.get? b=some u):zg X za Z (upd H T o) { s with heap:=h' }:=by
 have hTn:H T=none:=I.hok.fresh hT;have nT:∀b u,H b=some u->b≠T:=fun b u e z=>by rw[z,hTn]at e;cases e
 have nc:∀b u,H b=some u->b∉ch:=fun b u e z=>by rw[(hf b z).1]at e;cases e
 refine I.step (g':=s.gens) (d':=s.drawn) (t':=s.toks) (ch:=ch) (fun b hb=>?_) (fun b u _ _ hc e _=>k b u hc e) (fun b u _ _ hc e _=>⟨u.slots,k b u hc e⟩) (fun b u hc e n=>?_) (fun b u hc e=>⟨u,k b u hc e⟩)
  (fun b xs e=>by rw[AI (nT _ _ e)];exact e) (fun b u v e=>by rw[AI (nT _ _ e)];exact e) (fun b ps e=>⟨#[],by rw[AI (nT _ _ e),e];simp⟩) (fun m hm=>?_) (fun b u e=>?_) I.bare
 ·obtain⟨q1,q2,q3,q4,q5,q6⟩:=hf b hb;exact⟨q4,q2,q5,q6⟩
 ·rw[AI (Zs (Z0 (Zj e) hT))];exact n
 ·obtain⟨u,es,ep,ho,r⟩:=hm;exact⟨u,es,ep,k _ u (fun z=>(hf _ z).2.1 rfl) ho,r⟩
 ·by_cases hb:b=T
  ·subst hb;rw[AD]at e;cases e;exact new
  ·rw[AI hb]at e;refine(I.hok b u e).stay (fun c v hc q=>k c v ?_ q) (fun c q=>by rw[AI (nT _ _ q)];exact q) fun c xs q=>by rw[AI (nT _ _ q)];exact q
   rcases hc with z | z
   ·rw[z];exact nc b u e
   ·exact nc c _ z
theorem Wn{z TI TO i1 i2 l1 l2:Addr}(D:ZipApart z TI TO i1 i2 l1 l2) :
 Turn P w K (.Tuple es kt tpos) (Itz K l1 l2) [z,TI,TO,i1,i2] z (fun i h=>IsZip h z TI TO .none/\IsPair h TI (.ref i1) (.ref i2)/\(∃a b,IsPair h TO a b)/\h.IsListIter i1 l1 i/\h.IsListIter i2 l2 i) where
 mem:=by simp
 obj:=fun i h st b hb=>by
  obtain⟨hz,hTI,⟨a,c,hTO⟩,⟨o1,e1,c1,d1⟩,⟨o2,e2,c2,d2⟩⟩:=st;simp only[Zh,Z9,or_false]at hb
  rcases hb with rfl | rfl | rfl | rfl | rfl
  ·exact⟨_,hz,fun v q=>nomatch q⟩
  ·exact⟨_,hTI,fun v q=>nomatch q⟩
  ·exact⟨_,hTO,fun v q=>nomatch q⟩
  ·exact⟨o1,e1,fun v q=>by rw[d1]at q;cases q⟩
  ·exact⟨o2,e2,fun v q=>by rw[d2]at q;cases q⟩
 keep:=fun i h h' ⟨hz,hTI,⟨a,c,hTO⟩,h1,h2⟩ k =>
  ⟨k z (by simp) _ hz,k TI (by simp) _ hTI,⟨a,c,k TO (by simp) _ hTO⟩,h1.at fun o e=>k i1 (by simp) o e,h2.at fun o e=>k i2 (by simp) o e⟩
 item:=by
  intro X hP hw hK hc i za s Z H E I hf st hg;subst hP hw hK;obtain⟨xs,ys,x,y,hq1,hq2,hx,hy⟩:=hg;obtain⟨hz,hTI,⟨a,c,hTO⟩,h1,h2⟩:=st;obtain⟨ze,rv,p,_⟩:=I.list hq1;obtain⟨its2,rv2,p2,_⟩:=I.list hq2;obtain⟨u,hu,ru⟩:=rv.get hx;obtain⟨u2,hu2,ru2⟩:=rv2.get hy;refine wpAny_pyNext_zip_item D hz hTI hTO h1 h2 p.isList p2.isList (x:=u) (y:=u2) (by simpa using hu) (by simpa using hu2) fun h' z1 z2 z3 z4 z5 z6 z7=>?_
  refine⟨_,rfl,?_⟩
  have z7':∀b v,b∉[z,TO,i1,i2]->s.heap.get? b=some v->h'.get? b=some v:=fun b v hb e=>by
   simp only[Zh,Z9,or_false,not_or]at hb;exact z7 b v hb.1 hb.2.1 hb.2.2.1 hb.2.2.2 e
  have I1:zg X za Z (upd H s.heap.objs.size (.tup [x,y])) { s with heap:=h' }:=by
   refine I.turnedNew (ch:=[z,TO,i1,i2]) (fun b hb=>hf b ?_) (Zf _) z7' ?_ fun b hb=>?_
   ·simp only[Zh,Z9,or_false]at hb ⊢
    rcases hb with h | h | h | h <;> simp[h]
   ·exact⟨smq rfl,[u,u2],.cons ru (.cons ru2 .nil),⟨_,z5,rfl,⟨_,rfl⟩,rfl⟩⟩
   ·simp only[Zh,Z9,or_false]at hb
    rcases hb with rfl | rfl | rfl | rfl
    ·exact⟨_,z1⟩
    ·exact⟨_,z2⟩
    ·obtain⟨o,e,_⟩:=z3;exact⟨o,e⟩
    ·obtain⟨o,e,_⟩:=z4;exact⟨o,e⟩
  refine wpAny_letOwnedTupleGo_zip (s:={ s with heap:=h' }) z1 fun h'' z8 z9=>?_
  have hfz:=hf z (by simp)
  have neT:∀b,b∈[z,TI,TO,i1,i2]->b≠s.heap.objs.size:=fun b hb e=>by
   have st':∃o,s.heap.get? b=some o:=by
    simp only[Zh,Z9,or_false]at hb
    rcases hb with rfl | rfl | rfl | rfl | rfl
    ·exact⟨_,hz⟩
    ·exact⟨_,hTI⟩
    ·exact⟨_,hTO⟩
    ·obtain⟨o,e,_⟩:=h1;exact⟨o,e⟩
    ·obtain⟨o,e,_⟩:=h2;exact⟨o,e⟩
   obtain⟨o,ho⟩:=st'
   have:=Zj ho
   rw[e]at this;exact Z2 _ this
  have hTH:∀b∈[z,TI,TO,i1,i2],upd H s.heap.objs.size (.tup [x,y]) b=none:=fun b hb=>by rw[AI (neT b hb)];exact(hf b hb).1
  have I2:zg X za Z (upd H s.heap.objs.size (.tup [x,y])) { s with heap:=h'' } :=
   I1.turned (t':=s.toks) (fun b o hb e=>(z9.2 b hb).trans e) (hTH z (by simp)) hfz.2.1 hfz.2.2.2.1 hfz.2.2.2.2.1 hfz.2.2.2.2.2
  have up:∀b o,b≠z->h'.get? b=some o->h''.get? b=some o:=fun b o hb e=>(z9.2 b hb).trans e
  refine⟨.ref s.heap.objs.size,_,I2,rfl,⟨_,x,y,I.hok.fresh (Zf _),rfl,rfl,fun xs' h=>by rw[I.list_inj h hq1];exact hx,fun ys' h=>by rw[I.list_inj h hq2];exact hy⟩,⟨z8,?_,⟨u,u2,up _ _ D.TOz z2⟩,z3.at fun o e=>up _ o D.i1z e,z4.at fun o e=>up _ o D.i2z e⟩,hTH⟩;exact up _ _ D.TIz (z7 _ _ D.TIz D.TITO D.TIi1 D.TIi2 hTI)
 done:=by
  intro X hP hw hK hc i za s Z H E I hf st hg;subst hP hw hK;obtain⟨xs,ys,hq1,hq2,hl⟩:=hg;obtain⟨hz,hTI,⟨a,c,hTO⟩,h1,h2⟩:=st;obtain⟨ze,rv,p,_⟩:=I.list hq1;obtain⟨its2,rv2,p2,_⟩:=I.list hq2;have e1:=rv.length;have e2:=rv2.length
  refine wpAny_pyNext_zip_end (I.ok.hd hc) D hz hTI hTO h1 h2 p.isList p2.isList (by
   rcases hl with h | h
   ·exact .inl (by simp;lia)
   ·exact .inr (by simp;lia)) fun h' z7=>⟨rfl,?_⟩
  have nc:∀b u,H b=some u->b∉[z,TO,i1,i2]:=fun b u e q=>by
   have:b∈[z,TI,TO,i1,i2]:=by
    simp only[Zh,Z9,or_false]at q ⊢
    rcases q with h | h | h | h <;> simp[h]
   rw[(hf b this).1]at e;cases e
  have z7':∀b v,b∉[z,TO,i1,i2]->s.heap.get? b=some v->h'.get? b=some v:=fun b v hb e=>by
   simp only[Zh,Z9,or_false,not_or]at hb;exact z7 b v hb.1 hb.2.1 hb.2.2.1 hb.2.2.2 e
  refine I.step (g':=s.gens) (d':=s.drawn) (t':=s.toks) (ch:=[z,TO,i1,i2]) (fun b hb=>?_) (fun b u _ _ hc e _=>z7' b u hc e) (fun b u _ _ hc e _=>⟨u.slots,z7' b u hc e⟩) (fun b u hc e n=>n) (fun b u hc e=>⟨u,z7' b u hc e⟩)
   (fun _ _ e=>e) (fun _ _ _ e=>e) (fun b ps e=>⟨#[],by rw[e];simp⟩) (fun m hm=>?_) (fun b u e=>?_) I.bare
  ·have:b∈[z,TI,TO,i1,i2]:=by
    simp only[Zh,Z9,or_false]at hb ⊢
    rcases hb with h | h | h | h <;> simp[h]
   obtain⟨q1,q2,q3,q4,q5,q6⟩:=hf b this;exact⟨q4,q2,q5,q6⟩
  ·obtain⟨u,es,ep,ho,r⟩:=hm;refine⟨u,es,ep,z7' _ u (fun q=>?_) ho,r⟩
   have:X.env.locals∈[z,TI,TO,i1,i2]:=by
    simp only[Zh,Z9,or_false]at q ⊢
    rcases q with h | h | h | h <;> simp[h]
   exact(hf _ this).2.1 rfl
  ·refine(I.hok b u e).stay (fun c v hc q=>z7' c v ?_ q) (fun _ q=>q) fun _ _ q=>q
   rcases hc with h | h
   ·rw[h];exact nc b u e
   ·exact nc c _ h
 self:=fun _ _ _ _ _ st h=>wpAny_pyIter_zip st.1 h
section
variable {X:Cx}
noncomputable def O9(K:W.Frag)(ta:TA):TI:=fun Z H R=>ta Z H fun vs H1=>match vs with
 | [.ref a,.ref b]=>(∃xs,zv K H1 a xs)/\(∃ys,zv K H1 b ys)/\R (Itz K a b) H1
 | _=>False
theorem NS {a b:Expr} {ta:TA} {p:Pos} (hg:Gl X "zip") (hm:X.mg "zip" = none) (ha:PA X [a,b] ta)
 (hs:starEach [a,b] X.env=[(false,eval a X.env),(false,eval b X.env)]:=by rfl) (hs2:starEach [b] X.env=[(false,eval b X.env)]:=by rfl) (hK:X.K=K:=by rfl) :
 PI X (.Tuple es kt tpos) (.Call (.Name "zip" p) [a,b] [] pos) (O9 K ta):=by
 subst hK;intro za s Z H R I h;refine Call_ (CA I hg hm (by rfl:bootBuiltins "zip" = some (.type "zip")) (PyProof.Rows.callWith_type1 (zn (ha pos za s Z H _ I h) fun us s1 ⟨vs,H1,I1,r1,q1⟩=>?_) (by rw[hs,hs2]) (by rw[hs2];rfl)))
 match vs,q1,r1 with
 | [.ref l1,.ref l2],⟨⟨xs,hx⟩,⟨ys,hy⟩,q⟩,r1 =>
 cases r1 with
 | cons r rr =>
 cases rr with
 | cons r' rr =>
 cases rr;cases r;cases r';obtain⟨ze,rv,p1,_⟩:=I1.list hx;obtain⟨its2,rv2,p2,_⟩:=I1.list hy;obtain⟨o1,n1,g1,_⟩:=id p1;obtain⟨o2,n2,g2,_⟩:=id p2;have lt1:=Zj g1;have lt2:=Zj g2;refine call_zip_2 p1.isList p2.isList fun h' z1 z2 z3 z4 z5 z6 z7=>?_
 refine wpAny_pyIter_zip (s:={ s1 with heap:=h' }) z1 ?_;have I2:zg X za Z H1 { s1 with heap:=h' }:=I1.kept (t':=s1.toks) z7;refine⟨_,_,_,_,H1,rfl,I2,Wn (i1:=s1.heap.objs.size) (i2:=s1.heap.objs.size+1) (l1:=l1) (l2:=l2) (PyProof.Rows.zipApart_new lt1 lt2),⟨z1,z2,⟨_,_,z3⟩,z4,z5⟩,fun b hb=>?_,q⟩;refine I1.fpOk ?_ ?_
 ·simp only[Zh,Z9,or_false]at hb
  rcases hb with rfl | rfl | rfl | rfl | rfl
  ·exact ZBv _ _
  ·exact ZBv _ _
  ·exact ZBv _ _
  ·exact Zf _
  ·exact ZBv _ _
 ·refine I1.hok.fresh ?_;simp only[Zh,Z9,or_false]at hb
  rcases hb with rfl | rfl | rfl | rfl | rfl
  ·exact ZBv _ _
  ·exact ZBv _ _
  ·exact ZBv _ _
  ·exact Zf _
  ·exact ZBv _ _
theorem XU{ta:TA}(h:Bu ta):Ds (O9 K ta):=fun Z H Q Q' k q=>h _ _ _ _ (fun vs _ q=>by
 match vs,q with
 | [.ref a,.ref b],⟨h1,h2,q⟩=>exact⟨h1,h2,k _ _ q⟩) q
theorem LV {l1 l2:Addr} {g:TG} {tc:TT} (Pv:Nat->List V->Hp->Prop) (h0:Pv 0 [] H) (zk:xs.length=ys.length) (hl:∀i zs H,i<=xs.length->Pv i zs H->zv K H l1 xs/\zv K H l2 ys) (hz:∀i zs H,i < xs.length->Pv i zs H->zs.length < sizeLine)
 (hs:∀i x y zs H p,xs[i]? = some x->ys[i]? = some y->Pv i zs H->H p=none->g (.ref p) σc (upd H p (.tup [x,y])) fun σ2 H2=>tc σ2 H2 fun b H3=>if b=true then te σ2 H3 fun v H4=>Pv (i+1) (zs++[v]) H4 else Pv (i+1) zs H3)
 (hd:∀zs H,Pv xs.length zs H->∀p,H p=none->Q (.ref p) (upd H p (.lst zs))):Cw (Itz K l1 l2) g tc te σc Q H:=by
 refine⟨fun i m zs H=>m=xs.length - i/\i<=xs.length/\Pv i zs H,⟨xs.length,by simp,Zu _,h0⟩,?_⟩;rintro i m zs H ⟨rfl,hi,p⟩;obtain⟨q1,q2⟩:=hl i zs H hi p
 by_cases zm:i < xs.length
 ·refine .inr ⟨⟨xs,ys,xs[i],ys[i],q1,q2,by simp[zm],Zg (by lia)⟩,hz i zs H zm p,Pv (i+1),fun zs' H' p'=>⟨xs.length - (i+1),by lia,rfl,zm,p'⟩,?_⟩;rintro v H' ⟨pp,x,y,hp,rfl,rfl,k1,k2⟩;exact hs i x y zs H pp (k1 xs q1) (k2 ys q2) p hp
 ·have e:i=xs.length:=by lia
  subst e;exact .inl ⟨⟨xs,ys,q1,q2,.inl (Zf _)⟩,hd zs H p⟩
end
section
variable {X:Cx}{K:W.Frag}{o e:Expr}{es:List Expr}{to:TE}{t:TA}{apos cpos:Pos}
noncomputable def GR:V->List V->Hp->VK->Prop:=fun x vs H Q=>match x,vs with
 | .ref l,[y]=>∃xs,H l=some (.lst xs)/\xs.length < sizeLine/\Q .non (upd H l (.lst (xs++[y])))
 | _,_=>False
theorem VA:MtR X "list.append" GR:=by
 intro za s Z H x vs v us Q I rx rv q
 match x,vs,q with
 | .ref l,[y],⟨xs,h1,h2,q⟩=>exact Xi za s Z H _ _ v us Q I rx rv ⟨l,xs,y,rfl,rfl,h1,h2,q⟩
theorem V3 (ho:PE X o to) (ha:PA X [e] t) (hbase:attributeBase o "append" X.env (eval o X.env)=eval o X.env:=by rfl)
 (hfew:((backTo cpos (starEach [e] X.env)).all (fun x=>!x.1) && (backToKw cpos (keywordEach [] X.env)).all (fun x=>x.1.isSome)
   && decide ([e].length+([]:List Keyword).length+(if ([]:List Keyword).isEmpty then 0 else 1) < 30))=true:=by rfl)
 (hline:(apos.endLine == cpos.line)=true:=by rfl) (hs:starEach [e] X.env=(false,eval e X.env)::starEach [] X.env:=by rfl) (hplain:(backTo cpos (starEach [] X.env)).any (·.1)=false:=by rfl) (hK:X.K=K:=by rfl) :
 PE X (.Call (.Attribute o "append" apos) [e] [] cpos) (tBM K "list" GR to t):=hK ▸ Gv PySem.F.plainAttrs_list PySem.F.slot_list_append PySem.F.type_list_append VA ho ha hbase hfew hline hs hplain
noncomputable def Ga(K:W.Frag):V->List V->Hp->VK->Prop:=fun x vs H Q=>match x,vs with
 | .ref l,[y]=>∃xs,zv K H l xs/\Cu y=true/\xs.all Cu=true/\Q (.int (xs.countP fun v=>eqV v y:Nat)) H
 | _,_=>False
theorem Nc:∀{xs:List V} {us:List Value},zj xs us->xs.all Cu=true->us.countP (eqU y)=xs.countP fun v=>eqV v y
 | _,_,.nil,_=>rfl
 | x::xs,u::us,.cons r t,f=>by
  rw[List.all_cons,Zp]at f;rw[List.countP_cons,List.countP_cons,OG r f.1,Nc t f.2]
theorem ZB:MtR X "list.count" (Ga X.K):=by
 intro za s Z H x vs v us Q I rx rv q
 match x,vs,q with
 | .ref l,[y],⟨xs,h1,h2,h3,q⟩ =>
 cases rx;obtain⟨u,rfl,ru⟩:=rv.one;obtain⟨ze,r,pl,hz⟩:=I.list h1;obtain⟨⟨cls,dd,data,sl⟩,n,ho,hc,hd,hs⟩:=id pl;simp only at hc hs;subst hc hs;refine call_meets F.slot_list_count ⟨_,ho,rfl⟩ F.entry_list_count (F.args_list_count_2 _ _) (SeqAt.list_countAt l ze.toArray n dd sl u (eqU y)) ⟨ho,fun w hw=>M5 ru h2 r h3 w (by simpa using hw),?_⟩;refine⟨.int _,H,I.tok _,⟨_,rfl⟩,?_⟩;have e:ze.toArray.toList.countP (eqU y)=xs.countP fun v=>eqV v y:=by rw[show ze.toArray.toList=ze by simp];exact Nc r h3
 rw[e];exact q
theorem JL (ho:PE X o to) (ha:PA X [e] t) (hbase:attributeBase o "count" X.env (eval o X.env)=eval o X.env:=by rfl)
 (hfew:((backTo cpos (starEach [e] X.env)).all (fun x=>!x.1) && (backToKw cpos (keywordEach [] X.env)).all (fun x=>x.1.isSome)
   && decide ([e].length+([]:List Keyword).length+(if ([]:List Keyword).isEmpty then 0 else 1) < 30))=true:=by rfl)
 (hline:(apos.endLine == cpos.line)=true:=by rfl) (hs:starEach [e] X.env=(false,eval e X.env)::starEach [] X.env:=by rfl) (hplain:(backTo cpos (starEach [] X.env)).any (·.1)=false:=by rfl) (hK:X.K=K:=by rfl) :
 PE X (.Call (.Attribute o "count" apos) [e] [] cpos) (tBM K "list" (Ga K) to t):=hK ▸ Gv PySem.F.plainAttrs_list PySem.F.slot_list_count PySem.F.type_list_count ZB ho ha hbase hfew hline hs hplain
theorem Uj{T:String}{r:V->List V->Hp->VK->Prop}(h1:AY to)(h2:Bu t)(h3:Fq r):AY (tBM K T r to t):=fun Z H Q Q' h q=>h1 _ _ _ _ (fun _ _ q=>⟨q.1,h2 _ _ _ _ (fun _ _ q=>h3 _ _ _ _ _ h q) q.2⟩) q
theorem QA:Fq GR:=fun x xs H Q Q' h q=>by
 unfold GR at *;split at q
 ·obtain⟨ys,a,b,q⟩:=q;exact⟨ys,a,b,h _ _ q⟩
 ·exact q.elim
theorem W4:Fq (Ga K):=fun x xs H Q Q' h q=>by
 unfold Ga at *;split at q
 ·obtain⟨ys,a,b,c,q⟩:=q;exact⟨ys,a,b,c,h _ _ q⟩
 ·exact q.elim
noncomputable def Pc(K:W.Frag):List V->Hp->VK->Prop:=fun xs H Q=>match xs with
 | [.ref l]=>∃ns:List Int,zv K H l (ns.map V.int)/\Q (.int ns.sum) H
 | _=>False
theorem QK(hc:X.calm=true):CallR X (.builtin "sum") (Pc X.K):=by
 intro za s Z H xs us Q I r q
 match xs,q with
 | [.ref l],q =>
 obtain⟨ns,hl,q⟩:=q;obtain⟨u,rfl,ru⟩:=BO r;cases ru;obtain⟨ze,rv,pl,hz⟩:=I.list hl;have hi:IntsAre ze ns:=by simpa using EV rv
 obtain⟨zs,hzs⟩:=(hi.allInts).items;have e:(numsOf ze).sum=ns.sum:=by rw[hi.numsOf]
 have pl':=pl.isList;rw[hzs]at pl';refine sum_intListG (I.ok.hd hc) pl' fun h' tk t' hk=>?_
 refine⟨.int _,H,I.kept hk,⟨t',rfl⟩,?_⟩
 have e2:preSum (numAt zs) zs.size=ns.sum:=by
  rw[preSum_eq,ZBo (by simp),<- e];rw[show ze=ze.toArray.toList by simp,hzs,nums_intItems]
 rw[e2];exact q
theorem ZG(hc:X.calm=true)(hK:X.K=K:=by rfl):CallR X (.builtin "sum") (Pc K):=hK ▸ QK hc
noncomputable def GH(K:W.Frag):List V->Hp->VK->Prop:=fun xs H Q=>match xs with
 | [.ref l]=>∃bs:List Bool,zv K H l (bs.map V.bl)/\Q (.bl (bs.all id)) H
 | _=>False
theorem Us(hc:X.calm=true):CallR X (.builtin "all") (GH X.K):=by
 intro za s Z H xs us Q I r q
 match xs,q with
 | [.ref l],q =>
 obtain⟨bs,hl,q⟩:=q;obtain⟨u,rfl,ru⟩:=BO r;cases ru;obtain⟨ze,rv,pl,hz⟩:=I.list hl;have zk:=rv.length;rw[Ze]at zk;obtain⟨o1,n1,g1,_⟩:=id pl;have zm:=Zj g1;refine call_all_walk (wpAny_pyIter_list pl.isList ?_);have zz:l≠s.heap.objs.size:=Zs zm;refine⟨_,_,_,_,_,_,fun i=>bs.getD i false,rfl,Walks.list (A:=X.A.in1) (I.ok.hd hc) s.heap.objs.size l zz ze.toArray,?_,?_,fun h' tk hk=>?_⟩
 ·exact⟨⟨_,Zr _ rfl,rfl,rfl⟩,(show s.heap.IsList l ze.toArray from pl.isList).at fun o e=>Zi _ e⟩
 ·intro i v s' Q' E' hv hq;have hv:ze.toArray[i]? = some v:=hv
  have hi:i < ze.length:=by
   have:=(Array.getElem?_eq_some_iff.mp hv).1
   simpa using this
  have hb:(bs.map V.bl)[i]? = some (.bl bs[i]):=by rw[Zm,Zg (by lia)];rfl
  obtain⟨w',q1,q2⟩:=rv.get hb;have e:v=w':=by simp at hv;rw[q1]at hv;exact(Zv hv).symm
  subst e;cases q2;refine ZBl ?_;have e2:bs.getD i false=bs[i]:=by rw[Zw,Zg (by lia)];rfl
  have hq:Q' (bs.getD i false) s':=hq;rw[e2]at hq;exact hq
 ·refine⟨.bl _,H,I.kept (fun b o e=>hk b o ?_ (Zi _ e)),rfl,?_⟩
  ·simp only[Zq];exact Zs (Zj e)
  ·have e:(List.range ze.toArray.size).all (fun i=>bs.getD i false)=bs.all id:=by
    rw[Zo,<- zk];rw[ZBi,ZBW,ZBW];constructor
    ·intro h b hb;obtain⟨i,hi,rfl⟩:=List.mem_iff_getElem.mp hb
     have:=h i (Z1.mpr hi)
     rw[Zw,Zg hi]at this;exact this
    ·intro h i hi;have hi':=Z1.mp hi;rw[Zw,Zg hi'];exact h _ (ZBK hi')
   rw[e];exact q
theorem Iq(hc:X.calm=true)(hK:X.K=K:=by rfl):CallR X (.builtin "all") (GH K):=hK ▸ Us hc
theorem Y8:CV (GH K):=fun xs H Q Q' h q=>by
 unfold GH at *;split at q
 ·obtain⟨ns,a,q⟩:=q;exact⟨ns,a,h _ _ q⟩
 ·exact q.elim
end
section
variable {prog:Program}{w:World}{A:Around}{E:Value->Shared->Prop}{s:Shared}
theorem NR{it t:Addr}{items:Array Value}(zz:t≠it):∀(n i:Nat) (s:Shared) (Q:List Value->Shared->Prop),s.heap.IsListIter it t i->s.heap.IsList t items->i+n<=items.size ->
 (∀h',h'.IsListIter it t (i+n)->Heap.SameBut it s.heap h'->Q ((items.toList.drop i).take n) { s with heap:=h' })->wpAny (model prog w) A (draw (.ref it) n) Q E s
 | 0,i,s,Q,hit,_,_,hQ=>by
  show wpAny _ _ (pure []) Q E s;exact Zd (by simpa using hQ s.heap hit (Heap.SameBut.refl ..))
 | n+1,i,s,Q,hit,ht,hle,hQ=>by
  have zm:i < items.size:=by lia
  show wpAny _ _ (pyNext (.ref it) >>= _) Q E s;refine Zc (wpAny_pyNext_list_item hit ht (x:=items[i]) (by simp[zm]) fun h₁ hit₁ hs₁=>?_);refine Zc (ZBA (NR zz n (i+1) _ _ hit₁ (ht.extBut hs₁.extBut zz) (by lia) fun h₂ hit₂ hs₂=>Zd ?_));have hd:items.toList.drop i=items[i]::items.toList.drop (i+1):=by simp[List.drop_eq_getElem_cons,zm]
  have:=hQ h₂ (by rw[show i+(n+1)=i+1+n by lia];exact hit₂) (hs₁.trans hs₂)
  rw[hd,List.take_succ_cons]at this;exact this
theorem X9 {t:Addr} {items:Array Value} {Q:List Value->Shared->Prop} (hh:A.handled=none) (ht:s.heap.IsList t items)
 (hQ:∀h',Heap.ExtBut s.heap.objs.size s.heap h'->Q items.toList { s with heap:=h' }):wpAny (model prog w) A (unpackItems (.ref t) items.size none) Q E s:=by
 have zm:t≠s.heap.objs.size:=by obtain⟨o,ho,_⟩:=ht;exact Zs (Zj ho)
 unfold unpackItems;refine Zc ?_
 ·unfold notIterableAtAll;refine Zc (wpAny_specialOf ht.typeIs slot_list_iter.lookup ?_);refine Zd ?_;simp only[ZCh,if_false];refine Zc (ZBA (wpAny_pyIter_list ht ?_));refine Zc (ZBA (NR zm items.size 0 _ _ ⟨_,Zr _ rfl,rfl,rfl⟩ (ht.at fun o e=>Zi _ e) (by lia) fun h₁ hit₁ hs₁=>?_))
  have hall:List.take items.size (List.drop 0 items.toList)=items.toList:=by
   rw[List.drop_zero];exact ZBo (by simp)
  rw[hall];rw[if_neg (by simp)];have ht₁:h₁.IsList t items:=(Heap.IsList.at ht fun o e=>Zi _ e).extBut hs₁.extBut zm;refine Zc (ZBA (wpAny_pyNext_list_end hh hit₁ ht₁ (by simp) fun h₂ he₂=>?_));simp only[Option.isSome_none,ZCh,if_false];refine Zd (hQ h₂ fun b o hb e=>he₂ b o hb (hs₁.extBut b o hb (Zi _ e)))
theorem Pj {env:Env} {elts:List Expr} {x1} {t:Addr} {items:Array Value} {Q:Unit->Shared->Prop} (hh:A.handled=none) (ht:s.heap.IsList t items)
 (hn:(assignEach elts env).length=items.size) (hstar:(assignEach elts env).findIdx? (·.1)=none)
 (h:∀h',Heap.ExtBut s.heap.objs.size s.heap h'->wpAny (model prog w) A (assignInOrder ((assignEach elts env).map (·.2)) items.toList) Q E { s with heap:=h' }) :
 wpAny (model prog w) A (assign (.Tuple elts x1 pos) env (.ref t)) Q E s:=by
 rw[assign_Tuple];refine Zc (ZB8 ?_);unfold unpack;rw[hn,hstar];exact Zc (ZBA (X9 hh ht h))
end
section
variable {X:Cx}{K:W.Frag}{pos p2:Pos}{e:Expr}{lo hi:Option Expr}{te:TE}{tl th:TO}
noncomputable def Oh(K:W.Frag)(n:Nat)(t:TGs):TG:=fun v Z H Q=>match v with
 | .ref a=>∃xs,SqA K H a xs/\xs.length=n/\t xs Z H Q
 | _=>False
theorem GO {k:Nat} {t:TGs} (hc:X.calm=true) (h:PGs X es t)
 (hn:(assignEach es X.env).length=n:=by rfl) (hst:(assignEach es X.env).findIdx? (·.1)=none:=by rfl) (hK:X.K=K:=by rfl):PG X (.Tuple es k pos) (Oh K n t):=by
 subst hK;intro za s Z H v u Q I r hw;cases v with
 | ref a =>
  obtain⟨xs,hq | hq,hl,hw⟩:=hw
  ·cases r;obtain⟨ze,rv,ht,hz⟩:=I.list hq;refine Pj (I.ok.hd hc) ht.isList (by simp[hn,<- hl,rv.length]) hst fun h' hx=>?_
   have I1:zg X za Z H { s with heap:=h' }:=I.kept (t':=s.toks) fun b o e=>hx b o (Zs (Zj e)) e
   exact h za _ Z H xs _ Q I1 (by simpa using rv) hw
  ·exact NY hc h hn hst za s Z H _ u Q I r ⟨a,xs,rfl,hq,hl,hw⟩
 | _=>exact False.elim hw
theorem Rn{t:TGs}(h:Fg t):Dq (Oh K n t):=fun v _ _ _ _ k q=>by
 cases v <;> first | exact False.elim q | (obtain⟨xs,s,l,q⟩:=q;exact⟨xs,s,l,h _ _ _ _ _ k q⟩)
end
theorem Js(h:zt K H a xs)(s:zc H H'):zt K H' a xs:=HE h fun o e=>s a o e
mutual
theorem zh.same(s:zc H H'):∀(d:Dv) (v:V),zh K H d v->zh K H' d v
 | .non,v,h=>by unfold zh at *;exact h
 | .bl b,v,h=>by unfold zh at *;exact h
 | .int i,v,h=>by unfold zh at *;exact h
 | .str x,v,h=>by unfold zh at *;exact h
 | .tup ds,v,h=>by
  unfold zh at *;obtain⟨a,xs,e,h1,h2⟩:=h;exact⟨a,xs,e,Js h1 s,zf.same s ds xs h2⟩
 | .lst ds,v,h=>by
  unfold zh at *;obtain⟨a,xs,e,h1,h2⟩:=h;exact⟨a,xs,e,Hm h1 fun o e=>s a o e,zf.same s ds xs h2⟩
theorem zf.same(s:zc H H'):∀(ds:List Dv) (xs:List V),zf K H ds xs->zf K H' ds xs
 | [],xs,h=>by unfold zf at *;exact h
 | d::ds,xs,h=>by
  unfold zf at *;obtain⟨x,r,e,h1,h2⟩:=h;exact⟨x,r,e,zh.same s d x h1,zf.same s ds r h2⟩
end
mutual
noncomputable def BS:Dv->Bool
 | .tup ds=>A8 ds
 | .lst _=>false
 | _=>true
noncomputable def A8:List Dv->Bool
 | []=>true
 | d::ds=>BS d && A8 ds
end
mutual
theorem zh.frm{t:Addr}(s:zp t H H')(ht:∃zs,H t=some (.lst zs)):∀(d:Dv) (v:V),BS d=true->zh K H d v->zh K H' d v
 | .non,v,_,h=>by unfold zh at *;exact h
 | .bl b,v,_,h=>by unfold zh at *;exact h
 | .int i,v,_,h=>by unfold zh at *;exact h
 | .str x,v,_,h=>by unfold zh at *;exact h
 | .tup ds,v,hd,h=>by
  unfold BS at hd;unfold zh at *;obtain⟨a,xs,e,h1,h2⟩:=h;refine⟨a,xs,e,?_,zf.frm s ht ds xs hd h2⟩;obtain⟨zs,hz⟩:=ht
  rcases h1 with (h1 | ⟨o,h1⟩) | h1
  ·exact .inl (.inl (s a _ (fun q=>by rw[q,hz]at h1;cases h1) h1))
  ·exact .inl (.inr ⟨o,s a _ (fun q=>by rw[q,hz]at h1;cases h1) h1⟩)
  ·exact .inr h1
 | .lst ds,v,hd,h=>by unfold BS at hd;cases hd
theorem zf.frm{t:Addr}(s:zp t H H')(ht:∃zs,H t=some (.lst zs)):∀(ds:List Dv) (xs:List V),A8 ds=true->zf K H ds xs->zf K H' ds xs
 | [],xs,_,h=>by unfold zf at *;exact h
 | d::ds,xs,hd,h=>by
  unfold A8 at hd;rw[Zp]at hd;unfold zf at *;obtain⟨x,r,e,h1,h2⟩:=h;exact⟨x,r,e,zh.frm s ht d x hd.1 h1,zf.frm s ht ds r hd.2 h2⟩
end
theorem Tape.lst{K:W.Frag}{H:Hp}{t a:Addr}{ns:List Int}(T:Tape K H t a ns):∃zs,H t=some (.lst zs):=by
 obtain⟨i,r,c,_,_,h⟩:=T.at_;exact⟨_,h⟩
theorem Dp(h:H p=some (.tup xs))(r:zf K H ds xs):zh K H (.tup ds) (.ref p):=by unfold zh;exact⟨p,xs,rfl,.of h,r⟩
theorem BF:zf K H [] []:=by unfold zf;rfl
theorem Aw{d:Dv}{x:V}(h:zh K H d x)(r:zf K H ds xs):zf K H (d::ds) (x::xs):=by unfold zf;exact⟨x,xs,rfl,h,r⟩
theorem Fz{x:Int}:zh K H (.int x) (.int x):=by unfold zh;rfl
theorem Vc{x:Bool}:zh K H (.bl x) (.bl x):=by unfold zh;rfl
theorem zf.append:∀{ds es:List Dv} {xs ys:List V},zf K H ds xs->zf K H es ys->zf K H (ds++es) (xs++ys)
 | [],es,xs,ys,h,h'=>by unfold zf at h;subst h;exact h'
 | d::ds,es,xs,ys,h,h'=>by
  unfold zf at h;obtain⟨x,r,rfl,h1,h2⟩:=h;exact Aw h1 (zf.append h2 h')
section
variable {κ:Type}[DecidableEq κ]
noncomputable def valV(zd:List (κ × V))(k:κ):Option V:=(zd.find? fun kv=>decide (kv.1=k)).map (·.2)
noncomputable def Ai(zd:List (κ × V))(k:κ)(v:V):List (κ × V) :=
 if (zd.any fun kv=>decide (kv.1=k))=true then zd.map (fun kv=>if kv.1=k then (kv.1,v) else kv) else zd++[(k,v)]
theorem B4{p:κ × V}{r:List (κ × V)}{k:κ}(e:p.1=k):valV (p::r) k=some p.2:=by simp[valV,ZCD,e]
theorem By{p:κ × V}{r:List (κ × V)}{k:κ}(e:¬p.1=k):valV (p::r) k=valV r k:=by simp[valV,ZCD,e]
theorem G5(k:κ):∀zd:List (κ × V),(zd.any fun kv=>decide (kv.1=k))=(valV zd k).isSome
 | []=>rfl
 | p::r=>by
  rw[ZCL]
  by_cases e:p.1=k
  ·simp only[B4 e,Zl e,Bool.true_or,Option.isSome_some]
  ·rw[By e,ZBC e,Bool.false_or];exact G5 k r
theorem MY(k j:κ)(y:V):∀zd:List (κ × V),valV (zd.map fun kv=>if kv.1=k then (kv.1,y) else kv) j=(valV zd j).map fun x=>if j=k then y else x
 | []=>rfl
 | p::r=>by
  have ih:=MY k j y r;rw[Z5]
  by_cases h:p.1=k
  ·rw[if_pos h]
   by_cases e:p.1=j
   ·rw[B4 (p:=(p.1,y)) e,B4 e,ZCC,if_pos (e.symm.trans h)]
   ·rw[By (p:=(p.1,y)) e,By e,ih]
  ·rw[if_neg h]
   by_cases e:p.1=j
   ·rw[B4 (p:=p) e,B4 e,ZCC,if_neg (fun z=>h (e.trans z))]
   ·rw[By (p:=p) e,By e,ih]
theorem Nk(k j:κ)(y:V):∀zd:List (κ × V),valV zd k=none->valV (zd++[(k,y)]) j=if j=k then some y else valV zd j
 | [],_=>by
  by_cases e:k=j
  ·rw[if_pos e.symm];exact B4 (p:=(k,y)) e
  ·rw[if_neg (fun z=>e z.symm)];exact By (p:=(k,y)) e
 | p::r,hn=>by
  rw[List.cons_append];have hk:¬p.1=k:=fun z=>by rw[B4 z]at hn;cases hn
  rw[By hk]at hn;have ih:=Nk k j y r hn
  by_cases e:p.1=j
  ·rw[B4 e,B4 e,if_neg (fun z=>hk (e.trans z))]
  ·rw[By e,By e,ih]
theorem Jl(zd:List (κ × V))(k j:κ)(y:V):valV (Ai zd k y) j=if j=k then some y else valV zd j:=by
 unfold Ai
 by_cases a:(zd.any fun kv=>decide (kv.1=k))=true
 ·rw[if_pos a,MY];rw[G5]at a
  by_cases e:j=k
  ·obtain⟨x,hx⟩:=ZCe.mp a;rw[if_pos e,e,hx,ZCC,if_pos rfl]
  ·rw[if_neg e];cases valV zd j with
   | none=>rfl
   | some x=>rw[ZCC,if_neg e]
 ·rw[if_neg a];refine Nk k j y zd ?_;rw[G5]at a;cases q:valV zd k with
  | none=>rfl
  | some x=>rw[q]at a;exact(a rfl).elim
theorem Oi(zd:List (κ × V))(k:κ)(v:V):(Ai zd k v).length<=zd.length+1:=by
 unfold Ai;split
 ·rw[Ze];lia
 ·rw[Zy,ZBN,List.length_nil];lia
theorem RelO.isSome_eq{o:Option V}{u:Option Value}(r:RelO o u):o.isSome=u.isSome:=by
 cases o with
 | none=>cases u with
  | none=>rfl
  | some _=>exact(show False from r).elim
 | some _=>cases u with
  | none=>exact(show False from r).elim
  | some _=>rfl
theorem RelO.getD{o:Option V}{u:Option Value}{d:V}{d':Value}(r:RelO o u)(rd:zi d d'):zi (o.getD d) (u.getD d'):=by
 cases o with
 | none=>cases u with
  | none=>exact rd
  | some _=>exact(show False from r).elim
 | some _=>cases u with
  | none=>exact(show False from r).elim
  | some _=>exact r
theorem KV.val{zd:List (κ × V)}{vs:List (κ × Value)}(r:KV zd vs)(k:κ):RelO (valV zd k) (valueAt vs k):=by
 unfold KV at r
 induction r with
 | nil=>exact True.intro
 | @cons p q ps qs h t ih =>
  obtain⟨h1,h2⟩:=h
  by_cases e:p.1=k
  ·have e':q.1=k:=h1.symm.trans e;have b:valueAt (q::qs) k=some q.2:=by simp[valueAt,ZCD,e']
   rw[B4 e,b];exact h2
  ·have e':¬q.1=k:=fun z=>e (h1.trans z)
   have b:valueAt (q::qs) k=valueAt qs k:=by simp[valueAt,ZCD,e']
   rw[By e,b];exact ih
theorem KV.any{zd:List (κ × V)}{vs:List (κ × Value)}(r:KV zd vs)(k:κ):(zd.any fun kv=>decide (kv.1=k))=vs.any fun kv=>decide (kv.1=k):=by
 unfold KV at r
 induction r with
 | nil=>rfl
 | cons h t ih=>rw[ZCL,ZCL,ih,h.1]
theorem KV.repl{zd:List (κ × V)}{vs:List (κ × Value)}(r:KV zd vs)(k:κ)(ry:zi y u) :
 KV (zd.map fun kv=>if kv.1=k then (kv.1,y) else kv) (vs.map fun kv=>if kv.1=k then (kv.1,u) else kv):=by
 unfold KV at r ⊢
 induction r with
 | nil=>exact .nil
 | @cons p q ps qs h t ih =>
  rw[Z5,Z5];refine .cons ?_ ih;obtain⟨h1,h2⟩:=h
  by_cases e:p.1=k
  ·rw[if_pos e,if_pos (h1.symm.trans e)];exact⟨h1,ry⟩
  ·rw[if_neg e,if_neg (fun z=>e (h1.trans z))];exact⟨h1,h2⟩
theorem KV.put{zd:List (κ × V)}{vs:List (κ × Value)}(r:KV zd vs)(k:κ)(ry:zi y u):KV (Ai zd k y) (stored vs k u):=by
 unfold Ai stored;rw[r.any k]
 by_cases e:(vs.any fun kv=>decide (kv.1=k))=true
 ·rw[if_pos e,if_pos e];exact r.repl k ry
 ·rw[if_neg e,if_neg e];exact Paired.snoc r ⟨rfl,ry⟩
theorem KV.length{zd:List (κ × V)}{vs:List (κ × Value)}(r:KV zd vs):zd.length=vs.length:=Paired.length r
end
theorem F6{k:Key}(r:zi (kV k) u):(BV P w).is k u=true:=by
 cases k with
 | inl i=>obtain⟨t,e⟩:=(show ∃t,u=Value.int i t from r);subst e;exact Vf P w i t
 | inr x=>obtain⟨t,e⟩:=(show ∃t,u=Value.str x t from r);subst e;exact Ww P w x t
theorem Lz:∀{ks:List Key} {us:List Value},zj (ks.map kV) us->ItemsAre (BV P w) ks us
 | [],_,r=>by rw[List.map_nil]at r;cases r;exact .nil
 | k::ks,_,r=>by
  rw[Z5]at r;cases r with
  | cons h t=>exact .cons (F6 h) (Lz t)
noncomputable abbrev KT(H:Hp):List (List Key × V)->List (List Key × Addr × Value)->Prop:=Paired fun p q=>p.1=q.1/\H q.2.1=some (.tup (p.1.map kV))/\zi p.2 q.2.2
theorem KT.val{xs:List (List Key × Addr × Value)}(r:KT H zd xs)(k:List Key):RelO (valV zd k) ((atKey xs k).map (·.2)):=by
 induction r with
 | nil=>exact True.intro
 | @cons p q ps qs h t ih =>
  obtain⟨h1,_,h2⟩:=h
  by_cases e:p.1=k
  ·have e':q.1=k:=h1.symm.trans e;have b:atKey (q::qs) k=some q.2:=by simp[atKey,ZCD,e']
   rw[B4 e,b];exact h2
  ·have e':¬q.1=k:=fun z=>e (h1.trans z)
   have b:atKey (q::qs) k=atKey qs k:=by simp[atKey,ZCD,e']
   rw[By e,b];exact ih
theorem KT.repl{xs:List (List Key × Addr × Value)}(r:KT H zd xs)(k:List Key)(ry:zi y u) :
 KT H (zd.map fun kv=>if kv.1=k then (kv.1,y) else kv) (xs.map (putAt k u)):=by
 induction r with
 | nil=>exact .nil
 | @cons p q ps qs h t ih =>
  rw[Z5,Z5];refine .cons ?_ ih;obtain⟨h1,h2,h3⟩:=h;unfold putAt
  by_cases e:p.1=k
  ·rw[if_pos e,if_pos (h1.symm.trans e)];exact⟨h1,h2,ry⟩
  ·rw[if_neg e,if_neg (fun z=>e (h1.trans z))];exact⟨h1,h2,h3⟩
theorem KT.put{xs:List (List Key × Addr × Value)}(r:KT H zd xs)(k:List Key)(hb:H b=some (.tup (k.map kV)))(ry:zi y u) :
 KT H (Ai zd k y) (storedH xs k b u):=by
 have e:(zd.any fun kv=>decide (kv.1=k))=(atKey xs k).isSome:=by
  rw[G5,(r.val k).isSome_eq,Option.isSome_map]
 unfold Ai storedH;rw[e]
 by_cases q:(atKey xs k).isSome=true
 ·rw[if_pos q,if_pos q];exact r.repl k ry
 ·rw[if_neg q,if_neg q];exact Paired.snoc r ⟨rfl,hb,ry⟩
theorem KT.keeps{xs:List (List Key × Addr × Value)}(r:KT H zd xs)(ht:∀b ys,H b=some (.tup ys)->H' b=some (.tup ys)):KT H' zd xs :=
 Paired.mapP r fun _ _ z=>⟨z.1,ht _ _ z.2.1,z.2.2⟩
section
variable {P:Program}{w:World}{H:Hp}{h:Heap}{a:Addr}
theorem Of{u:HO}(ok:HOk P w H h)(e:Rd H a u):ObjOk P w H h a u:=e.ok ok
theorem D5{zd:List (Key × V)}(ok:HOk P w H h)(e:Rd H a (.dK zd)):zd.length<=sizeLine/\(a == sysModules)=false/\∃vs,KV zd vs/\h.DictOf (BV P w) a vs :=
 show ObjOk P w H h a (.dK zd) from Of ok e
theorem RH{zd:List (Key × V)}(ok:HOk P w H h)(e:H a=some (.dK zd)):zd.length<=sizeLine/\(a == sysModules)=false/\∃vs,KV zd vs/\h.DictOf (BV P w) a vs:=D5 ok (.inl e)
theorem FV{ks:List Key}(ok:HOk P w H h)(e:H a=some (.tup (ks.map kV))):(tupleKind (BV P w)).is h ks a:=by
 obtain⟨_,ze,r,o,h1,h2,⟨n,h3⟩,_⟩:=(show ObjOk P w H h a (.tup (ks.map kV)) from ok a _ e);exact⟨o,ze.toArray,n,h1,h2,h3,by simpa using Lz r⟩
theorem EB(ok:HOk P w H h)(e:Rd H a (.dT zd)):zd.length<=sizeLine/\(a == sysModules)=false /\
 ∃xs,KT H zd xs/\h.DictOfH (tupleKind (BV P w)) a xs:=by
 obtain⟨z,y,xs,r,o,es,ep,h1,h2,h3,h4,h5⟩:=(show ObjOk P w H h a (.dT zd) from Of ok e);refine⟨z,y,xs,r,o,es,ep,h1,h2,h3,h4,fun x hx=>?_,h5⟩
 have all:∀{l:List (List Key × V)} {m:List (List Key × Addr × Value)},KT H l m->∀x∈m,(tupleKind (BV P w)).is h x.1 x.2.1:=by
  intro l m q
  induction q with
  | nil=>intro x hx;exact nomatch hx
  | @cons p q ps qs hq t ih =>
   intro x hx
   rcases Zh.mp hx with e | hx
   ·subst e;exact FV ok (by rw[<- hq.1];exact hq.2.1)
   ·exact ih x hx
 exact all r x hx
theorem TC(ok:HOk P w H h)(e:H a=some (.dT zd)):zd.length<=sizeLine/\(a == sysModules)=false /\
 ∃xs,KT H zd xs/\h.DictOfH (tupleKind (BV P w)) a xs:=EB ok (.inl e)
end
noncomputable def DGet(H:Hp)(a:Addr)(y:V)(r:Option V):Prop :=
 (∃zd k,Rd H a (.dK zd)/\y=kV k/\r=valV zd k)\/∃zd k b,Rd H a (.dT zd)/\y=.ref b/\H b=some (.tup (k.map kV))/\r=valV zd k
noncomputable def DPut(H:Hp)(a:Addr)(y v:V)(H':Hp):Prop :=
 (∃zd k,H a=some (.dK zd)/\y=kV k/\zd.length < sizeLine/\H'=upd H a (.dK (Ai zd k v))) \/
 ∃zd k b,H a=some (.dT zd)/\y=.ref b/\H b=some (.tup (k.map kV))/\zd.length < sizeLine/\H'=upd H a (.dT (Ai zd k v))
theorem DGet.k{zd:List (Key × V)}{k:Key}(e:H a=some (.dK zd)):DGet H a (kV k) (valV zd k):=.inl ⟨zd,k,.inl e,rfl,rfl⟩
theorem DGet.t{k:List Key}(e:H a=some (.dT zd))(eb:H b=some (.tup (k.map kV))):DGet H a (.ref b) (valV zd k):=.inr ⟨zd,k,b,.inl e,rfl,eb,rfl⟩
theorem DPut.k{zd:List (Key × V)}{k:Key}(e:H a=some (.dK zd))(hl:zd.length < sizeLine):DPut H a (kV k) v (upd H a (.dK (Ai zd k v))):=.inl ⟨zd,k,e,rfl,hl,rfl⟩
theorem DPut.t{k:List Key}(e:H a=some (.dT zd))(eb:H b=some (.tup (k.map kV)))(hl:zd.length < sizeLine) :
 DPut H a (.ref b) v (upd H a (.dT (Ai zd k v))):=.inr ⟨zd,k,b,e,rfl,eb,hl,rfl⟩
section
variable {X:Cx}{za:List (Addr × Obj)}{Z:St}{H:Hp}{s:Shared}{a:Addr}{y v:V}{u r:Value}{o:Option V}{A:Around}{E:Value->Shared->Prop}
theorem zg.big(I:zg X za Z H s):sysModules < s.heap.objs.size:=by
 have h:mainGlobals < s.heap.objs.size:=(I.mod.glob.keeps I.bk).lt;exact ZBu (by decide) h
theorem Rk{Q:Value->Shared->Prop}(hu:A.units+1 < cLine)(I:zg X za Z H s)(g:DGet H a y (some v))(ry:zi y u)(h:∀w' s',zg X za Z H s'->zi v w'->Q w' s') :
 wpAny (model X.prog X.w) A (getItem (.ref a) u) Q E s:=by
 rcases g with ⟨zd,k,e,ey,l⟩ | ⟨zd,k,b,e,ey,eb,l⟩
 ·subst ey;obtain⟨z,hd,vs,rel,dd⟩:=D5 I.hok e;obtain⟨w',hw,rw'⟩:=RelO.some_of (v:=v) (o:=valueAt vs k) (by rw[l];exact rel.val k);exact wpAny_getItem_of (F6 ry) dd.mapOf hw (h w' _ (I.tok _) rw')
 ·subst ey;cases (show u=Value.ref b from ry);obtain⟨z,hd,xs,rel,dd⟩:=EB I.hok e;obtain⟨w',hw,rw'⟩:=RelO.some_of (v:=v) (o:=(atKey xs k).map (·.2)) (by rw[l];exact rel.val k);obtain⟨p,hp,hp2⟩:=ZCi.mp hw;refine wpAny_getItem_heap (tupleKind_room_in1 hu) (FV I.hok eb) dd hp ?_;rw[hp2];exact h w' _ (I.tok _) rw'
theorem P8{Q:Value->Shared->Prop}(hu:A.units+1 < cLine)(I:zg X za Z H s)(g:DGet H a y o)(ry:zi y u)(h:∀s',zg X za Z H s'->Q (.bool (!o.isSome)) s') :
 wpAny (model X.prog X.w) A (compareOp .NotIn u (.ref a)) Q E s:=by
 rcases g with ⟨zd,k,e,ey,l⟩ | ⟨zd,k,b,e,ey,eb,l⟩
 ·subst ey;obtain⟨z,hd,vs,rel,dd⟩:=D5 I.hok e;refine wpAny_notIn_of (F6 ry) hd dd.mapOf ?_;rw[<- (rel.val k).isSome_eq,<- l];exact h _ (I.tok _)
 ·subst ey;cases (show u=Value.ref b from ry);obtain⟨z,hd,xs,rel,dd⟩:=EB I.hok e;refine wpAny_notIn_heap (tupleKind_room_in1 hu) (FV I.hok eb) hd dd ?_;have q:=(rel.val k).isSome_eq;rw[Option.isSome_map]at q;rw[<- q,<- l];exact h _ (I.tok _)
theorem Jm{h':Heap}{t':Nat}{ob:HO}(I:zg X za Z H s)(mu:Mut (H a))(hs:Heap.SameBut a s.heap h')(he:∃q,h'.get? a=some q)(new:ObjOk X.prog X.w (upd H a ob) h' a ob) :
 zg X za Z (upd H a ob) { s with heap:=h',toks:=t' } :=
 I.write (x:=a) (e:=a) mu (.inl rfl) (fun b q hb z=>(hs.2 b hb).trans z) he new
theorem QU{h':Heap}{zd:List (Key × V)}{vs:List (Key × Value)}(z:zd.length<=sizeLine)(hd:(a == sysModules)=false)(rel:KV zd vs)(dd:h'.DictOf (BV P w) a vs) :
 ObjOk P w H' h' a (.dK zd):=⟨z,hd,vs,rel,dd⟩
theorem Yt{Q:Unit->Shared->Prop}(hu:A.units+1 < cLine)(I:zg X za Z H s)(g:DPut H a y v H')(ry:zi y u)(rv:zi v r)(h:∀s',zg X za Z H' s'->Q () s') :
 wpAny (model X.prog X.w) A (setItem (.ref a) u r) Q E s:=by
 rcases g with ⟨zd,k,e,ey,l,eH⟩ | ⟨zd,k,b,e,ey,eb,l,eH⟩
 ·subst ey eH;obtain⟨z,hd,vs,rel,dd⟩:=RH I.hok e;have hz:vs.length<=sizeLine:=by rw[<- rel.length];exact z
  have hl:(Ai zd k v).length<=sizeLine:=by have:=Oi zd k v;lia
  refine wpAny_setItem_pairs (hsz:=hz) (F6 ry) dd fun h' dd' hs=>h _ ?_
  have he:∃q,h'.get? a=some q:=let ⟨q,_,_,hq,_⟩:=dd';⟨q,hq⟩;exact Jm I (by rw[e];exact True.intro) hs he (QU hl hd (rel.put k rv) dd')
 ·subst ey eH;cases (show u=Value.ref b from ry);obtain⟨z,hd,xs,rel,dd⟩:=TC I.hok e;have hz:xs.length<=sizeLine:=by rw[<- Paired.length rel];exact z
  have hl:(Ai zd k v).length<=sizeLine:=by have:=Oi zd k v;lia
  refine wpAny_setItem_heap (hsz:=hz) (tupleKind_room_in1 hu) (FV I.hok eb) dd fun h' dd' hs=>h _ ?_
  obtain⟨q,es,ep,hq,h2,h3,h4,_,h5⟩:=dd';refine Jm I (by rw[e];exact True.intro) hs ⟨q,hq⟩ ⟨hl,hd,_,(rel.put k eb rv).keeps fun c ys ec=>?_,q,es,ep,hq,h2,h3,h4,h5⟩;rw[AI (BK ec e (fun z=>nomatch z))];exact ec
end
noncomputable def Gd(i:Expr):Prop:=∀ov iv,subscripted i false ov iv=operate [ov,iv] (getItem ov iv)
theorem N2 {prog:Program} {E:Value->Shared->Prop} {env:Env} {value slice:Expr} {T id:String} {Q:Value->Shared->Prop}
 (hl:typeLookup (.type T) "__getitem__" = pure (some (.builtin id))) (hs:Gd slice)
 (h:wpAny (model prog w) A (eval value env) (fun o s₁=>wpAny (model prog w) A (eval slice env) (fun i s₂=>s₂.TypeIs o T/\wpAny (model prog w) A (getItem o i) Q E s₂) E s₁) E s) :
 wpAny (model prog w) A (eval (.Subscript value slice pos) env) Q E s:=by
 refine Subscript_ (ZBH h (fun o s₁ h₁=>ZBH h₁ (fun i s₂ h₂=>?_) fun _ _ x=>x) fun _ _ x=>x);obtain⟨hT,h₂⟩:=h₂;unfold subscriptTail;refine Zc ?_;rw[getitemInPython_of_ne hT.not_modules];refine Zc (wpAny_specialOf hT hl ?_)
 have fin:wpAny (model prog w) A (subscripted slice false o i) (fun r s₃=>wpAny (model prog w) A (letTemporaryGo value o r >>= fun _=>pure r) Q E s₃) E s₂:=by
  rw[hs o i];exact wpAny_operating (ZBH h₂ (fun r s₃ h₃=>Zc (wpAny_letTemporaryGo (Zd h₃))) fun _ _ x=>x)
 first
  | exact Zd (Zc fin)
  | exact Zc (Zd (Zc fin))
  | exact Zc fin
theorem WJ{za:List (Addr × Obj)}{o:Option V}(I:zg X za Z H s)(g:DGet H a y o):s.TypeIs (.ref a) "dict":=by
 rcases g with ⟨zd,k,e,_,_⟩ | ⟨zd,k,b,e,_,_,_⟩
 ·obtain⟨_,_,vs,_,dd⟩:=D5 I.hok e;exact dd.typeIs
 ·obtain⟨_,_,xs,_,dd⟩:=EB I.hok e;exact dd.typeIs
noncomputable def X7(td ty:TE):TE:=fun Z H Q=>td Z H fun x H1=>ty Z H1 fun y H2=>∃a v,x=.ref a/\DGet H2 a y (some v)/\Q v H2
noncomputable def Mt(td ty tv:TE):TS:=fun D Z H=>tv Z H fun v H1=>td Z H1 fun x H2=>ty Z H2 fun y H3=>∃a H4,x=.ref a/\DPut H3 a y v H4/\D.nx Z H4
section
variable {X:Cx}{o i e value:Expr}{pos pos' tpos:Pos}{td ty tv:TE}
theorem Ii(hu:X.A.units+1 < cLine)(ho:PE X o td)(hi:PE X i ty)(hs:Gd i):PE X (.Subscript o i pos) (X7 td ty):=by
 intro za s Z H Q I h;refine N2 PySem.F.slot_dict_getitem.lookup hs (zn (ho za s Z H _ I h) fun u s1 ⟨x,H1,I1,rx,q1⟩=>zn (hi za s1 Z H1 _ I1 q1) fun iv s2 ⟨y,H2,I2,ry,a,v,ex,g,q2⟩=>?_);subst ex;obtain rfl:u=Value.ref a:=rx;exact⟨WJ I2 g,Rk hu I2 g ry fun w' s3 I3 rw'=>⟨v,H2,I3,rw',q2⟩⟩
theorem Fb(hu:X.A.units+1 < cLine)(ho:PE X o td)(hi:PE X i ty)(hv:PE X value tv)(hs:swapsWith value (some (.Subscript o i pos')) pos.line X.env=pure false) :
 PS X (.Assign [.Subscript o i pos'] value pos) (Mt td ty tv):=by
 intro za s Z H D I h;refine wpAny_Assign_Subscript (zn (hv za s Z H _ I h) fun r s1 ⟨v,H1,I1,rv,q1⟩=>zn (ho za s1 Z H1 _ I1 q1) fun u s2 ⟨x,H2,I2,rx,q2⟩=>zn (hi za s2 Z H2 _ I2 q2) fun iv s3 ⟨y,H3,I3,ry,a,H4,ex,g,q3⟩=>?_) hs;subst ex;obtain rfl:u=Value.ref a:=rx;exact Yt hu I3 g ry rv fun s4 I4=>⟨Z,H4,I4,q3⟩
end
theorem T9(h:Heap)(hb:sysModules < h.objs.size):ObjOk P w H (h.push { cls:=.type "dict",data:=.dict #[] }) h.objs.size (.dK []) :=
 ⟨Zu _,beq_eq_false_iff_ne.mpr (Ne.symm (Zs hb)),[],.nil,Heap.DictOf.new h⟩
theorem Yw(h:Heap)(hb:sysModules < h.objs.size):ObjOk P w H (h.push { cls:=.type "dict",data:=.dict #[] }) h.objs.size (.dT []) :=
 ⟨Zu _,beq_eq_false_iff_ne.mpr (Ne.symm (Zs hb)),[],.nil,_,#[],0,Zr _ rfl,⟨rfl,rfl,rfl⟩,rfl,rfl,ZCW⟩
noncomputable def U8:TE:=fun _ H Q=>∀p,H p=none->Q (.ref p) (upd H p (.dK []))
noncomputable def On:TE:=fun _ H Q=>∀p,H p=none->Q (.ref p) (upd H p (.dT []))
section
variable {X:Cx}{pos:Pos}
theorem Gs:PE X (.Dict [] [] pos) U8:=fun za s Z H Q I h =>
 wpAny_Dict_empty ⟨.ref s.heap.objs.size,_,I.laid (a:=s.heap.objs.size) (o:=.dK []) (t':=s.toks) (fun _ _ q=>Zi _ q) (Zf _) (T9 s.heap I.big),rfl,h _ (I.hok.fresh (Zf _))⟩
theorem Vk:PE X (.Dict [] [] pos) On:=fun za s Z H Q I h =>
 wpAny_Dict_empty ⟨.ref s.heap.objs.size,_,I.laid (a:=s.heap.objs.size) (o:=.dT []) (t':=s.toks) (fun _ _ q=>Zi _ q) (Zf _) (Yw s.heap I.big),rfl,h _ (I.hok.fresh (Zf _))⟩
end
structure M2(X:Cx)(o:Expr)(m:Str)(apos:Pos)(e f:Expr)(cpos:Pos):Prop where
 base:attributeBase o m X.env (eval o X.env)=eval o X.env
 few:((backTo cpos (starEach [e,f] X.env)).all (fun x=>!x.1) && (backToKw cpos (keywordEach [] X.env)).all (fun x=>x.1.isSome)
  && decide (([e,f]:List Expr).length+([]:List Keyword).length+(if ([]:List Keyword).isEmpty then 0 else 1) < 30))=true
 line:(apos.endLine == cpos.line)=true
 trees:backTo cpos (starEach [e,f] X.env)=[(false,eval e X.env),(false,eval f X.env)]
noncomputable def IsD(H:Hp)(a:Addr):Prop:=(∃zd,Rd H a (.dK zd))\/∃zd,Rd H a (.dT zd)
theorem Xd{za:List (Addr × Obj)}(I:zg X za Z H s)(d:IsD H a) :
 s.TypeIs (.ref a) "dict" /\ (∀b,Value.ref a=.ref b->∃ob,s.heap.get? b=some ob/\ob.dict=none)/\(a == sysModules)=false:=by
 rcases d with ⟨zd,e⟩ | ⟨zd,e⟩
 ·obtain⟨_,hd,vs,_,dd⟩:=D5 I.hok e;refine⟨dd.typeIs,fun b q=>?_,hd⟩;cases q;obtain⟨ob,_,_,h1,h2,_⟩:=dd;exact⟨ob,h1,h2.2.1⟩
 ·obtain⟨_,hd,xs,_,dd⟩:=EB I.hok e;refine⟨dd.typeIs,fun b q=>?_,hd⟩;cases q;obtain⟨ob,_,_,h1,h2,_⟩:=dd;exact⟨ob,h1,h2.2.1⟩
section
variable {X:Cx}{za:List (Addr × Obj)}{Z:St}{H:Hp}{s:Shared}{a:Addr}{y d:V}{u r:Value}{o:Option V}{A:Around}{E:Value->Shared->Prop}
theorem Wj{Q:Value->Shared->Prop}(hu:A.units+1 < cLine)(I:zg X za Z H s)(g:DGet H a y o)(ry:zi y u)(rd:zi d r)(h:∀w' s',zg X za Z H s'->zi (o.getD d) w'->Q w' s') :
 wpAny (model X.prog X.w) A (call (.builtin "dict.get") [.ref a,u,r]) Q E s:=by
 rcases g with ⟨zd,k,e,ey,l⟩ | ⟨zd,k,b,e,ey,eb,l⟩
 ·subst ey;obtain⟨z,hd,vs,rel,dd⟩:=D5 I.hok e;refine call_meetsIn PySem.F.slot_dict_get dd.typeIs PySem.F.entry_dict_get (PySem.F.args_dict_get_3 _ _ _) (meets_dict_get_default (BV X.prog X.w) a (F6 ry) hd r) ⟨_,dd.mapOf,h _ _ (I.tok _) ?_⟩;rw[l];exact(rel.val k).getD rd
 ·subst ey;cases (show u=Value.ref b from ry);obtain⟨z,hd,xs,rel,dd⟩:=EB I.hok e;refine call_meetsIn PySem.F.slot_dict_get dd.typeIs PySem.F.entry_dict_get (PySem.F.args_dict_get_3 _ _ _) (meetsH_dict_get_default (tupleKind (BV X.prog X.w)) a b hd r) ⟨tupleKind_room_in1 hu,k,xs,FV I.hok eb,dd,h _ _ (I.tok _) ?_⟩;rw[l];exact(rel.val k).getD rd
end
noncomputable def Yi(td ty tx:TE):TE:=fun Z H Q=>td Z H fun x H1=>∃a,x=.ref a/\IsD H1 a/\ty Z H1 fun y H2=>tx Z H2 fun z H3=>∃o,DGet H3 a y o/\Q (o.getD z) H3
section
variable {X:Cx}{o e f:Expr}{apos cpos:Pos}{td ty tx:TE}
theorem NP(hu:X.A.units+1 < cLine)(ho:PE X o td)(he:PE X e ty)(hf:PE X f tx)(m:M2 X o "get" apos e f cpos):PE X (.Call (.Attribute o "get" apos) [e,f] [] cpos) (Yi td ty tx):=by
 intro za s Z H Q I h;refine wpAny_Call_method m.base m.few m.line PySem.F.plainAttrs_dict PySem.F.slot_dict_get PySem.F.type_dict_get (zn (ho za s Z H _ I h) fun u s1 ⟨x,H1,I1,rx,a,ex,d,q1⟩=>?_);subst ex;obtain rfl:u=Value.ref a:=rx;obtain⟨t1,t2,_⟩:=Xd I1 d;refine⟨t1,t2,?_⟩;rw[m.trees]
 refine Calls.callWith_builtin rfl (Calls.evalArgs_plain (Calls.spliced_cons (zn (he za s1 Z H1 _ I1 q1) fun iv s2 ⟨y,H2,I2,ry,q2⟩ =>
  Calls.spliced_cons (zn (hf za s2 Z H2 _ I2 q2) fun fv s3 ⟨z,H3,I3,rz,ov,g,q3⟩=>Calls.spliced_nil ?_))))
 exact Wj hu I3 g ry rz fun w' s4 I4 rw'=>⟨_,H3,I4,rw',q3⟩
end
theorem Y2{M:Model}{E:Value->Shared->Prop}{b:Bool}{Q:Int->Shared->Prop}(h:Q (if b=true then 1 else 0) s):wpAny M A (Builtin.Int.intOfSelf (.bool b)) Q E s:=by
 unfold Builtin.Int.intOfSelf;exact Zd h
theorem Tm{prog:Program}{E:Value->Shared->Prop}{b:Bool}{Q:Int->Shared->Prop}(h:Q (if b=true then 1 else 0) { s with toks:=s.toks+1 }):wpAny (model prog w) A (pyHash (.bool b)) Q E s:=by
 show wpAny _ _ (pyHashByItsType (.bool b)) _ _ _;refine PySem.W.pyHash_slot (T:="bool") rfl PySem.F.slot_bool_hash PySem.F.entry_int_hash (PySem.F.args_int_hash_1 _) rfl (.inl rfl) ?_;unfold Builtin.«int.__hash__» Builtin.Int.intSlot0;refine Zc (Zc ?_);show wpAny _ _ (pure (Value.bool b,[])) _ _ _;refine Zd (Zc (Y2 (Zd ?_)));cases b with
 | true=>exact Zc (wpAny_mkInt (Zd ⟨_,_,rfl,h⟩))
 | false=>exact Zc (wpAny_mkInt (Zd ⟨_,_,rfl,h⟩))
noncomputable def Fx:Bool->Value->Bool
 | b,.bool c=>b == c
 | _,_=>false
theorem Da{b:Bool}{v:Value}(h:Fx b v=true):v=.bool b:=by
 unfold Fx at h;split at h
 ·rw[beq_iff_eq.mp h]
 ·cases h
noncomputable def Cr(prog:Program)(w:World):PySem.KeyKind prog w Bool where
 is:=Fx
 hash:=fun b=>if b=true then 1 else 0
 inj:=fun v a b ha hb=>by
  have e1:=Da ha;have e2:=Da hb;rw[e1]at e2;injection e2
 byValue:=fun k v h=>by rw[Da h];rfl
 pyHash:=fun hv h=>by rw[Da hv];exact Tm h
 eqBool:=fun {A E s a b u v Q} hu hv h=>by
  rw[Da hu,Da hv];refine SeqAt.EqAt.bool_bool a b _ _ _ _ ?_;have e:(a == b)=decide (a=b):=by cases a <;> cases b <;> rfl
  rw[e];exact h
 «strs»:=fun k x t v h=>by
  have:=Da h
  cases this
noncomputable abbrev BX:=List (List Bool × Addr × Bool)
noncomputable def bxv(xs:BX):List (List Bool × Addr × Value):=xs.map fun q=>(q.1,q.2.1,Value.bool q.2.2)
noncomputable def dB(P:Program)(w:World)(a:Addr)(xs:BX):HO:=.ext fun h=>∃o es ep,h.get? a=some o/\o.ExactDict/\o.data=.dict es ep/\es.toList=(bxv xs).map (entryOfKey (tupleKind (Cr P w)))/\((bxv xs).map (·.1)).Nodup/\xs.length<=sizeLine/\(a == sysModules)=false
noncomputable def CU(H:Hp)(xs:BX):Prop:=∀q∈xs,H q.2.1=some (.tup (q.1.map V.bl))
theorem LF:∀{ks:List Bool} {us:List Value},zj (ks.map V.bl) us->PySem.ItemsAre (Cr P w) ks us
 | [],_,r=>by rw[List.map_nil]at r;cases r;exact .nil
 | k::ks,_,r=>by
  rw[Z5]at r;cases r with
  | cons h t =>
   refine .cons ?_ (LF t);rw[show _=Value.bool k from h]
   show(k == k)=true
   simp
section
variable {P:Program}{w:World}{H:Hp}{h:Heap}{a:Addr}
theorem Gx{ks:List Bool}(ok:HOk P w H h)(e:H a=some (.tup (ks.map V.bl))):(tupleKind (Cr P w)).is h ks a:=by
 obtain⟨_,ze,r,o,h1,h2,⟨n,h3⟩,_⟩:=(show ObjOk P w H h a (.tup (ks.map V.bl)) from ok a _ e);exact⟨o,ze.toArray,n,h1,h2,h3,by simpa using LF r⟩
theorem Jw{xs:BX}(ok:HOk P w H h)(e:H a=some (dB P w a xs))(hk:CU H xs):xs.length<=sizeLine/\(a == sysModules)=false/\h.DictOfH (tupleKind (Cr P w)) a (bxv xs):=by
 obtain⟨⟨o,es,ep,h1,h2,h3,h4,h5,h6,h7⟩,_⟩:=(show ObjOk P w H h a (dB P w a xs) from ok a _ e);refine⟨h6,h7,o,es,ep,h1,h2,h3,h4,fun x hx=>?_,h5⟩;obtain⟨q,hq,rfl⟩:=Zk.mp hx;exact Gx ok (hk q hq)
theorem PD{xs:BX}(hl:xs.length<=sizeLine)(hd:(a == sysModules)=false)(dd:h.DictOfH (tupleKind (Cr P w)) a (bxv xs)):ObjOk P w H' h a (dB P w a xs):=by
 obtain⟨o,es,ep,h1,h2,h3,h4,_,h5⟩:=dd;refine⟨⟨o,es,ep,h1,h2,h3,h4,h5,hl,hd⟩,⟨o,h1⟩,fun g1 g2 ⟨o,es,ep,h1,h2,h3,h4,h5,h6,h7⟩ k=>⟨o,es,ep,k _ h1,h2,h3,h4,h5,h6,h7⟩⟩
end
noncomputable def Cm(xs:BX)(ks:List Bool):Bool:=xs.any fun q=>decide (q.1=ks)
theorem J6(xs:BX)(ks:List Bool):(atKey (bxv xs) ks).isSome=Cm xs ks:=by
 unfold atKey bxv Cm
 induction xs with
 | nil=>rfl
 | cons q r ih =>
  rw[Z5,ZCD,ZCL]
  by_cases e:q.1=ks
  ·simp[e]
  ·simp only[e,decide_false,Bool.false_or];exact ih
section
variable {X:Cx}{o i e value:Expr}{pos pos' tpos:Pos}{td ty tv:TE}
noncomputable def GN(P:Program)(w:World):R2:=fun x y H Q=>match x,y with
 | .ref b,.ref a=>∃xs ks,H b=some (.tup (ks.map V.bl))/\H a=some (dB P w a xs)/\CU H xs/\Q (.bl (!Cm xs ks)) H
 | _,_=>False
theorem R9(hu:X.A.units+60 < cLine):zy X (compareOp .NotIn) (GN X.prog X.w):=by
 intro za s Z H x y v u Q I rx ry q
 cases x <;> cases y <;> first
  | exact False.elim q
  | (obtain⟨xs,ks,h1,h2,h3,q⟩:=q
     cases (show v=Value.ref _ from rx);cases (show u=Value.ref _ from ry);obtain⟨z,hd,dd⟩:=Jw I.hok h2 h3;refine wpAny_notIn_heap (tupleKind_room_in1 (by lia)) (Gx I.hok h1) hd dd ?_;rw[J6];exact⟨.bl (!Cm xs ks),H,I.tok _,rfl,q⟩)
noncomputable def HD(P:Program)(w:World):R2:=fun x y H Q=>match x,y with
 | .ref a,.ref b=>∃xs ks c v,H b=some (.tup (ks.map V.bl))/\H a=some (dB P w a xs)/\CU H xs/\atKey (bxv xs) ks=some (c,.bool v)/\Q (.bl v) H
 | _,_=>False
theorem Y1(hu:X.A.units+60 < cLine)(ho:PE X o td)(hi:PE X i ty)(hs:Gd i:=by intro _ _;rfl):PE X (.Subscript o i pos) (tOp (HD X.prog X.w) td ty):=by
 intro za s Z H Q I h;refine N2 PySem.F.slot_dict_getitem.lookup hs (zn (ho za s Z H _ I h) fun u s1 ⟨x,H1,I1,rx,q1⟩=>zn (hi za s1 Z H1 _ I1 q1) fun iv s2 ⟨y,H2,I2,ry,q⟩=>?_)
 cases x <;> cases y <;> first
  | exact False.elim q
  | (obtain⟨xs,ks,c,v,h1,h2,h3,h4,q⟩:=q
     cases (show u=Value.ref _ from rx);cases (show iv=Value.ref _ from ry);obtain⟨z,hd,dd⟩:=Jw I2.hok h2 h3;exact⟨dd.typeIs,wpAny_getItem_heap (tupleKind_room_in1 (by lia)) (Gx I2.hok h1) dd h4 ⟨.bl v,H2,I2.tok _,rfl,q⟩⟩)
noncomputable def Gp(P:Program)(w:World):D3:=fun o i v H Q=>match o,i,v with
 | .ref a,.ref b,.bl v=>∃xs ks,H b=some (.tup (ks.map V.bl))/\H a=some (dB P w a xs)/\CU H xs/\Cm xs ks=false/\xs.length < sizeLine/\Q (upd H a (dB P w a (xs++[(ks,b,v)])))
 | _,_,_=>False
theorem P1(hu:X.A.units+60 < cLine):Fa X (Gp X.prog X.w):=by
 intro za s Z H o i v ov iv u Q I ro ri rv h
 cases o <;> cases i <;> cases v <;> first
  | exact False.elim h
  | (obtain⟨xs,ks,h1,h2,h3,h4,h5,q⟩:=h
     cases (show ov=Value.ref _ from ro);cases (show iv=Value.ref _ from ri);cases (show u=Value.bool _ from rv);obtain⟨z,hd,dd⟩:=Jw I.hok h2 h3;refine wpAny_setItem_heap (hsz:=by unfold bxv;rw[Ze];exact z) (tupleKind_room_in1 (by lia)) (Gx I.hok h1) dd fun h' dd' hs=>?_
     rw[show storedH (bxv xs) ks _ _=bxv (xs++[(ks,_,_)]) by
      unfold storedH;rw[J6,h4,if_neg (by decide)];unfold bxv;rw[Zt];rfl]at dd'
     have he:∃q,h'.get? _=some q:=let ⟨q,_,_,hq,_⟩:=dd';⟨q,hq⟩;exact⟨_,Jm I (by rw[h2];exact True.intro) hs he (PD (by rw[Zy];exact h5) hd dd'),q⟩)
noncomputable def J5(P:Program)(w:World):TE:=fun _ H Q=>∀p,H p=none->Q (.ref p) (upd H p (dB P w p []))
theorem XF:PE X (.Dict [] [] pos) (J5 X.prog X.w):=fun za s Z H Q I h =>
 wpAny_Dict_empty ⟨.ref s.heap.objs.size,_,I.laid (a:=s.heap.objs.size) (o:=dB X.prog X.w s.heap.objs.size []) (t':=s.toks) (fun _ _ q=>Zi _ q) (Zf _)
  (PD (Zu _) (beq_eq_false_iff_ne.mpr (Ne.symm (Zs I.big))) ⟨_,#[],0,Zr _ rfl,⟨rfl,rfl,rfl⟩,rfl,rfl,(fun x hx=>by cases hx),ZCW⟩),rfl,h _ (I.hok.fresh (Zf _))⟩
end
section
variable {X:Cx}{P:Program}{w:World}{o i:Expr}{pos:Pos}{td ty:TE}
theorem Xt(hP:X.prog=P:=by rfl)(hw:X.w=w:=by rfl):PE X (.Dict [] [] pos) (J5 P w):=by subst hP hw;exact XF
theorem RQ(hu:X.A.units+60 < cLine)(hP:X.prog=P:=by rfl)(hw:X.w=w:=by rfl):zy X (compareOp .NotIn) (GN P w):=by subst hP hw;exact R9 hu
theorem Sm(hu:X.A.units+60 < cLine)(ho:PE X o td)(hi:PE X i ty)(hs:Gd i:=by intro _ _;rfl)(hP:X.prog=P:=by rfl)(hw:X.w=w:=by rfl):PE X (.Subscript o i pos) (tOp (HD P w) td ty):=by subst hP hw;exact Y1 hu ho hi hs
theorem QN(hu:X.A.units+60 < cLine)(hP:X.prog=P:=by rfl)(hw:X.w=w:=by rfl):Fa X (Gp P w):=by subst hP hw;exact P1 hu
end
theorem UZ{P w}:Ba (GN P w):=fun x y H Q Q' h q=>by
 unfold GN at *;split at q
 ·obtain⟨xs,ks,a,b,c,q⟩:=q;exact⟨xs,ks,a,b,c,h _ _ q⟩
 ·exact q.elim
theorem U4{P w}:Ba (HD P w):=fun x y H Q Q' h q=>by
 unfold HD at *;split at q
 ·obtain⟨xs,ks,c,v,a,b,d,e,q⟩:=q;exact⟨xs,ks,c,v,a,b,d,e,h _ _ q⟩
 ·exact q.elim
theorem Ua{P w}:J8 (Gp P w):=fun o i v H Q Q' h q=>by
 unfold Gp at *;split at q
 ·obtain⟨xs,ks,a,b,c,d,e,q⟩:=q;exact⟨xs,ks,a,b,c,d,e,h _ q⟩
 ·exact q.elim
theorem Sw{P w}:AY (J5 P w):=fun Z H Q Q' h q=>fun p hp=>h _ _ (q p hp)
section
variable {X:Cx}{K:W.Frag}{o:Expr}{to:TE}{apos cpos:Pos}
noncomputable def Hy:V->List V->Hp->VK->Prop:=fun x vs H Q=>match x,vs with
 | .int i,[]=>Q (.int (Builtin.Int.intBits i:Nat)) H
 | _,_=>False
theorem Ph:MtR X "int.bit_length" Hy:=by
 intro za s Z H x vs v us Q I rx rv q
 match x,vs,q with
 | .int i,[],q =>
  cases rv;obtain⟨t,rfl⟩:=(show ∃t,v=Value.int i t from rx);exact PyProof.Rows.call_int_bit_length ⟨.int (Builtin.Int.intBits i:Nat),H,I.tok _,⟨_,rfl⟩,q⟩
theorem Pe(ho:PE X o to)(hbase:attributeBase o "bit_length" X.env (eval o X.env)=eval o X.env:=by rfl)(hline:(apos.endLine == cpos.line)=true:=by rfl)(hK:X.K=K:=by rfl) :
 PE X (.Call (.Attribute o "bit_length" apos) [] [] cpos) (NJ K "int" Hy to):=hK ▸ U1 PySem.F.plainAttrs_int PySem.F.slot_int_bit_length PySem.F.type_int_bit_length Ph ho hbase hline
end
noncomputable def Ite(K:W.Frag)(l:Addr):It :=
 ⟨fun i H=>∃xs x,zv K H l xs/\xs[i]? = some x,
  fun i H v H'=>∃p x,H p=none/\v=.ref p/\H'=upd H p (.tup [.int i,x])/\∀xs,zv K H l xs->xs[i]? = some x,
  fun i H=>∃xs,zv K H l xs/\xs.length<=i⟩
theorem TD{e it:Addr}(zz:e≠it) :
 Turn P w K (.Tuple es kt tpos) (Ite K l) [e,it] e (fun i h=>(∃old,IsEnum h e it (i:Int) old)/\h.IsListIter it l i) where
 mem:=by simp
 obj:=fun i h st b hb=>by
  obtain⟨⟨old,hz⟩,⟨o1,e1,c1,d1⟩⟩:=st;simp only[Zh,Z9,or_false]at hb
  rcases hb with rfl | rfl
  ·exact⟨_,hz,fun v q=>nomatch q⟩
  ·exact⟨o1,e1,fun v q=>by rw[d1]at q;cases q⟩
 keep:=fun i h h' ⟨⟨old,hz⟩,h1⟩ k=>⟨⟨old,k e (by simp) _ hz⟩,h1.at fun o q=>k it (by simp) o q⟩
 item:=by
  intro X hP hw hK hc i za s Z H E I hf st hg;subst hP hw hK;obtain⟨xs,x,hq1,hx⟩:=hg;obtain⟨⟨old,hz⟩,h1⟩:=st;obtain⟨ze,rv,p,_⟩:=I.list hq1;obtain⟨u,hu,ru⟩:=rv.get hx;refine wpAny_pyNext_enum_item hz h1 p.isList (x:=u) (by simpa using hu) zz fun h' z1 z2 z3 z4 z5=>?_
  refine⟨_,rfl,?_⟩
  have z5':∀b v,b∉[e,it]->s.heap.get? b=some v->h'.get? b=some v:=fun b v hb q=>by
   simp only[Zh,Z9,or_false,not_or]at hb;exact z5 b v hb.1 hb.2 q
  have I1:zg X za Z (upd H s.heap.objs.size (.tup [.int i,x])) { s with heap:=h' }:=by
   refine I.turnedNew (ch:=[e,it]) (fun b hb=>hf b hb) (Zf _) z5' ?_ fun b hb=>?_
   ·exact⟨smq rfl,[.int i s.toks,u],.cons ⟨_,rfl⟩ (.cons ru .nil),⟨_,z3,rfl,⟨_,rfl⟩,rfl⟩⟩
   ·simp only[Zh,Z9,or_false]at hb
    rcases hb with rfl | rfl
    ·exact⟨_,z1⟩
    ·obtain⟨o,q,_⟩:=z2;exact⟨o,q⟩
  refine wpAny_letOwnedTupleGo_enum (s:={ s with heap:=h',toks:=s.toks+1 }) z1 fun h'' z8 z9=>?_
  have hfz:=hf e (by simp)
  have neT:∀b,b∈[e,it]->b≠s.heap.objs.size:=fun b hb q=>by
   have st':∃o,s.heap.get? b=some o:=by
    simp only[Zh,Z9,or_false]at hb
    rcases hb with rfl | rfl
    ·exact⟨_,hz⟩
    ·obtain⟨o,q,_⟩:=h1;exact⟨o,q⟩
   obtain⟨o,ho⟩:=st'
   have:=Zj ho
   rw[q]at this;exact Z2 _ this
  have hTH:∀b∈[e,it],upd H s.heap.objs.size (.tup [.int i,x]) b=none:=fun b hb=>by rw[AI (neT b hb)];exact(hf b hb).1
  have I2:zg X za Z (upd H s.heap.objs.size (.tup [.int i,x])) { s with heap:=h'',toks:=s.toks+1 } :=
   I1.turned (t':=s.toks+1) (fun b o hb q=>(z9.2 b hb).trans q) (hTH e (by simp)) hfz.2.1 hfz.2.2.2.1 hfz.2.2.2.2.1 hfz.2.2.2.2.2
  have up:∀b o,b≠e->h'.get? b=some o->h''.get? b=some o:=fun b o hb q=>(z9.2 b hb).trans q
  exact⟨.ref s.heap.objs.size,_,I2,rfl,⟨_,x,I.hok.fresh (Zf _),rfl,rfl,fun xs' h=>by rw[I.list_inj h hq1];exact hx⟩,⟨⟨_,z8⟩,z2.at fun o q=>up _ o (Ne.symm zz) q⟩,hTH⟩
 done:=by
  intro X hP hw hK hc i za s Z H E I hf st hg;subst hP hw hK;obtain⟨xs,hq1,hl⟩:=hg;obtain⟨⟨old,hz⟩,h1⟩:=st;obtain⟨ze,rv,p,_⟩:=I.list hq1;have e1:=rv.length;refine wpAny_pyNext_enum_end (I.ok.hd hc) hz h1 p.isList (by simp;lia) fun h' z7=>⟨rfl,?_⟩
  obtain⟨f0,f1,f2,f3,f4,f5⟩:=hf it (by simp);exact I.turned (t':=s.toks) (fun b o hb q=>z7 b o hb q) f0 f1 f3 f4 f5
 self:=fun _ _ _ _ _ st h=>wpAny_pyIter_enum st.1.choose_spec h
section
variable {X:Cx}
noncomputable def Xx(K:W.Frag)(ta:TA):TI:=fun Z H R=>ta Z H fun vs H1=>match vs with
 | [.ref a]=>(∃xs,zv K H1 a xs)/\R (Ite K a) H1
 | _=>False
theorem PJ {a:Expr} {ta:TA} {p:Pos} (hg:Gl X "enumerate") (hm:X.mg "enumerate" = none) (ha:PA X [a] ta)
 (hs:starEach [a] X.env=[(false,eval a X.env)]:=by rfl) (hK:X.K=K:=by rfl) :
 PI X (.Tuple es kt tpos) (.Call (.Name "enumerate" p) [a] [] pos) (Xx K ta):=by
 subst hK;intro za s Z H R I h;refine Call_ (CA I hg hm (by rfl:bootBuiltins "enumerate" = some (.type "enumerate")) (PyProof.Rows.callWith_type1 (zn (ha pos za s Z H _ I h) fun us s1 ⟨vs,H1,I1,r1,q1⟩=>?_) (by rw[hs];rfl) (by rfl)))
 match vs,q1,r1 with
 | [.ref l1],⟨⟨xs,hx⟩,q⟩,r1 =>
 cases r1 with
 | cons r rr =>
 cases rr;cases r;obtain⟨ze,rv,p1,_⟩:=I1.list hx;refine call_enumerate_list p1.isList fun h' z1 z2 z3 z4=>?_
 refine wpAny_pyIter_enum (s:={ s1 with heap:=h' }) z1 ?_;have I2:zg X za Z H1 { s1 with heap:=h' }:=I1.kept (t':=s1.toks) z4;refine⟨_,_,_,_,H1,rfl,I2,TD (l:=l1) (it:=s1.heap.objs.size) (ZBs (ZBb _)),⟨⟨_,z1⟩,z2⟩,fun b hb=>?_,q⟩;refine I1.fpOk ?_ (I1.hok.fresh ?_)
 all_goals
  simp only[Zh,Z9,or_false]at hb
  rcases hb with rfl | rfl
  ·exact ZBz _
  ·exact Zf _
theorem NU {g:TG} {tc:TT} (Pv:Nat->List V->Hp->Prop) (h0:Pv 0 [] H) (hl:∀i zs H,i<=xs.length->Pv i zs H->zv K H l xs) (hz:∀i zs H,i < xs.length->Pv i zs H->zs.length < sizeLine)
 (hs:∀i x zs H p,xs[i]? = some x->Pv i zs H->H p=none->g (.ref p) σc (upd H p (.tup [.int (i:Nat),x])) fun σ2 H2=>tc σ2 H2 fun b H3=>if b=true then te σ2 H3 fun v H4=>Pv (i+1) (zs++[v]) H4 else Pv (i+1) zs H3)
 (hd:∀zs H,Pv xs.length zs H->∀p,H p=none->Q (.ref p) (upd H p (.lst zs))):Cw (Ite K l) g tc te σc Q H:=by
 refine⟨fun i m zs H=>m=xs.length - i/\i<=xs.length/\Pv i zs H,⟨xs.length,by simp,Zu _,h0⟩,?_⟩;rintro i m zs H ⟨rfl,hi,p⟩;have q1:=hl i zs H hi p
 by_cases zm:i < xs.length
 ·refine .inr ⟨⟨xs,xs[i],q1,by simp[zm]⟩,hz i zs H zm p,Pv (i+1),fun zs' H' p'=>⟨xs.length - (i+1),by lia,rfl,zm,p'⟩,?_⟩;rintro v H' ⟨pp,x,hp,rfl,rfl,k1⟩;exact hs i x zs H pp (k1 xs q1) p hp
 ·have e:i=xs.length:=by lia
  subst e;exact .inl ⟨⟨xs,q1,Zf _⟩,hd zs H p⟩
end
theorem YG:∀m < 7,(Builtin.Int.intBits ((2 ^ m:Nat):Int):Nat)=m+1:=by decide +kernel
noncomputable def TyS(K:W.Frag)(H:Hp)(x:V)(t:String):Prop:=match x with
 | .int _=>t = "int"
 | .bl _=>t = "bool"
 | .ref a=>(t = "tuple" /\ ∃xs,zt K H a xs)\/(t = "list" /\ ∃xs,zv K H a xs)
 | _=>False
noncomputable def Bt(t T:String):Bool:=t == T || (t == "bool" && T == "int")
section
variable {X:Cx}{K:W.Frag}
theorem Mg{za:List (Addr × Obj)}{x:V}{t:String}(I:zg X za Z H s)(rx:zi x u)(h:TyS X.K H x t) :
 (t = "int" \/ t = "bool" \/ t = "tuple" \/ t = "list")/\u≠Value.builtin "__main__.__loader__#opaque" /\ ∃Hh:Heap->Prop,PySem.W.KitX X.K u (.type t) Hh/\Hh s.heap:=by
 cases x with
 | int i =>
  obtain⟨k,rfl⟩:=(show ∃t,u=Value.int i t from rx);cases (show t = "int" from h);exact⟨.inl rfl,(fun z=>nomatch z),_,PySem.W.kitx_int,True.intro⟩
 | bl b =>
  cases (show u=Value.bool b from rx);cases (show t = "bool" from h);exact⟨.inr (.inl rfl),(fun z=>nomatch z),_,PySem.W.kitx_bool,True.intro⟩
 | ref a =>
  cases (show u=Value.ref a from rx)
  rcases h with ⟨rfl,xs,hq⟩ | ⟨rfl,xs,hq⟩
  ·obtain⟨ze,rv,p,_⟩:=I.tuple hq;obtain⟨o,h1,h2,_⟩:=p;exact⟨.inr (.inr (.inl rfl)),(fun z=>nomatch z),_,PySem.W.kitx_tuple,⟨o,h1,h2⟩⟩
  ·obtain⟨ze,rv,p,_⟩:=I.list hq;obtain⟨o,n,h1,h2,_⟩:=p;exact⟨.inr (.inr (.inr rfl)),(fun z=>nomatch z),_,PySem.W.kitx_list,⟨o,h1,h2⟩⟩
 | _=>exact False.elim h
end
open AutoSeq1 (wpAny_loadPart')
section
variable {prog:Program}{w:World}{A:Around}{E:Value->Shared->Prop}{s:Shared}
theorem Sb {j tp:Addr} {k:Nat} {ze:Array Value} {z:Value} {Q:Value->Shared->Prop} (hj:s.heap.IsTupleIter j tp k) (hp:s.heap.IsTuple tp ze) (hz:ze[k]? = some z)
 (q:∀h',h'.IsTupleIter j tp (k+1)->Heap.SameBut j s.heap h'->Q z { s with heap:=h' }):wpAny (model prog w) A (Builtin.SmallTypes.nextOf (.ref j)) Q E s:=by
 obtain⟨ob,g1,g2,g3⟩:=id hj;obtain⟨ol,k1,_,nl,k3⟩:=hp;unfold Builtin.SmallTypes.nextOf;refine Zc (wpAny_callSpecial?_slot (name:=Str.ofString "__next__") hj.typeIs F.slot_tuple_iterator_next (ZBV F.slot_tuple_iterator_next hj.typeIs F.entry_tuple_iterator_next ?_ (F.args_tuple_iterator_next_1 _)));show wpAny _ _ (field (.ref j) 0 >>= _) _ _ s;refine Zc (ZB2 g1 g3 (x:=.ref tp) rfl ?_);show wpAny _ _ (if (Value.ref tp == Value.none)=true then _ else _) _ _ s;rw[if_neg (c:=(Value.ref tp == Value.none)=true) (fun z=>ZBF z)];show wpAny _ _ (field (.ref j) 1 >>= _) _ _ s;refine Zc (ZB2 g1 g3 (x:=.int k 0) rfl ?_);show wpAny _ _ (seqItems? (.ref tp) >>= _) _ _ s;refine Zc (wpAny_seqItems k1 k3 ?_);simp only[Z6,hz];refine Zc (ZB3 g1 g3 (by simp) (Zd ⟨z,rfl,Zd (q _ ?_ (ZBj ..))⟩));refine⟨_,ZCB _ g1 (Obj.isFreed_of_fields (Obj.data_mapFields g3 _)),(Obj.cls_mapFields ..).trans g2,?_⟩;rw[Obj.data_mapFields g3];simp[rawInt]
theorem LY {j tp:Addr} {k:Nat} {ze:Array Value} {Q:Value->Shared->Prop} (hh:A.handled=none) (hj:s.heap.IsTupleIter j tp k) (hp:s.heap.IsTuple tp ze) (hz:ze[k]? = none)
 (q:∀h' e,Heap.ExtBut j s.heap h'->(∃o,h'.get? e=some o/\o.cls=.type "StopIteration")->E (.ref e) { s with heap:=h' }):wpAny (model prog w) A (Builtin.SmallTypes.nextOf (.ref j)) Q E s:=by
 obtain⟨ob,g1,g2,g3⟩:=id hj;obtain⟨ol,k1,_,nl,k3⟩:=hp;unfold Builtin.SmallTypes.nextOf;refine Zc (wpAny_callSpecial?_slot (name:=Str.ofString "__next__") hj.typeIs F.slot_tuple_iterator_next (ZBV F.slot_tuple_iterator_next hj.typeIs F.entry_tuple_iterator_next ?_ (F.args_tuple_iterator_next_1 _)));show wpAny _ _ (field (.ref j) 0 >>= _) _ _ s;refine Zc (ZB2 g1 g3 (x:=.ref tp) rfl ?_);show wpAny _ _ (if (Value.ref tp == Value.none)=true then _ else _) _ _ s;rw[if_neg (c:=(Value.ref tp == Value.none)=true) (fun z=>ZBF z)];show wpAny _ _ (field (.ref j) 1 >>= _) _ _ s;refine Zc (ZB2 g1 g3 (x:=.int k 0) rfl ?_);show wpAny _ _ (seqItems? (.ref tp) >>= _) _ _ s;refine Zc (wpAny_seqItems k1 k3 ?_);simp only[Z6,hz];refine Zc (wpAny_rule (Zc (ZB3 g1 g3 (by simp) ?_)));show wpAny _ _ (newExc (.type "StopIteration") [] >>= fun z=>_) _ _ _;refine Zc ?_;simp only[newExc,newTuple];refine Zc (ZBJ (hd:=by size_fits) ?_);refine Zc (m:=firstArgMember _ _) (wpAny_of_eq (a:=Value.none) (by first | (simp only[firstArgMember];rfl) | rfl) ?_);refine ZBJ (hd:=by size_fits) ?_;simp only[raiseNew];refine Zc (wpAny_handled ?_)
 first | rw[hh] | rw[show A.in1.handled=none from hh]
 refine Zc (Zd (wpAny_throw ?_));exact q _ _ (((ZBj ..).extBut.push _).push _) ⟨_,Zr _ rfl,rfl⟩
theorem XT(hh:A.handled=none)(j tp:Addr)(zz:tp≠j)(ze:Array Value) :
 Draws prog w A j [j,tp] ze.size (fun k v=>ze[k]? = some v) (fun k h=>h.IsTupleIter j tp k/\h.IsTuple tp ze) where
 live:=fun _ _ st=>by obtain⟨⟨o,ho,_⟩,_⟩:=st;exact⟨o,ho⟩
 frame:=fun _ _ _ st hk=>by
  obtain⟨st1,o,h1,h2⟩:=st;exact⟨st1.at fun o e=>hk j (by simp) o e,o,hk tp (by simp) o h1,h2⟩
 item:=fun k s Q E hi st hQ=>by
  refine Sb st.1 st.2 (z:=ze[k]) (by simp[hi]) fun h' h1 h2=>?_
  exact hQ _ h' s.toks (by simp[hi]) ⟨h1,st.2.extBut h2.extBut zz⟩ h2
 done:=fun s Q E st hE=>LY hh st.1 st.2 (by simp) hE
theorem SE(tp:Addr)(ze:Array Value)(n:Nat)(dct:Option Addr)(sl:Array (Option Value)) :
 Meets (Builtin.«enumerate.__new__» ⟨[.type "enumerate",.ref tp],[]⟩) (fun _ R s=>s.heap.get? tp=some { cls:=.type "tuple",dict:=dct,data:=.seq ze n,slots:=sl } /\
  R (.ok (.ret (.ref (s.heap.push { cls:=.type "tuple_iterator",data:=.fields #[.ref tp,.int 0 0] }).objs.size)))
   { s with heap:=(s.heap.push { cls:=.type "tuple_iterator",data:=.fields #[.ref tp,.int 0 0] }).push { cls:=.type "enumerate",data:=.fields #[.none,.bool false,.ref s.heap.objs.size,rawInt 0,.none,.none] } }) :=
 .of_wp fun prog w A R s h=>by
  obtain⟨hp,g,d,tk,os⟩:=s;obtain⟨hl,h⟩:=h;have hsub:=sub_enumerate;have ht:Heap.IsTuple (Shared.heap ⟨hp,g,d,tk,os⟩) tp ze:=⟨_,hl,rfl,n,rfl⟩
  wp_walk using wpAny_loadPart' hl
  refine wpAny_stack_any fun st=>Zd ?_
  split
  ·rename_i c _ _ _ _ _;cases (c == Value.type "enumerate") <;> (wp_walk using wpAny_loadPart' hl,wpAny_pyIter_tuple ht;exact⟨_,rfl,h⟩)
  ·wp_walk using wpAny_loadPart' hl,wpAny_pyIter_tuple ht
   exact⟨_,rfl,h⟩
theorem TQ {tp:Addr} {ze:Array Value} {Q:Value->Shared->Prop} (ht:s.heap.IsTuple tp ze)
 (h:∀h',IsEnum h' (s.heap.objs.size+1) s.heap.objs.size 0 .none->h'.IsTupleIter s.heap.objs.size tp 0->(∀b o,s.heap.get? b=some o->h'.get? b=some o)->Q (.ref (s.heap.objs.size+1)) { s with heap:=h' }) :
 wpAny (model prog w) A (call (.type "enumerate") [.ref tp]) Q E s:=by
 obtain⟨⟨c,dct,dt,sl⟩,hl,hc,n,hd⟩:=ht;cases (show c=.type "tuple" from hc);cases (show dt=.seq ze n from hd);refine callType_new F.called_enumerate (by decide) (F.typeCall_enumerate_1 _) (F.newCall_enumerate_1 _) (fun obj=>F.args_object_init_2 obj _) F.entry_enumerate_new (SE tp ze n dct sl) ⟨hl,?_⟩;have z1:(s.heap.push { cls:=.type "tuple_iterator",data:=.fields #[.ref tp,.int 0 0] }).objs.size=s.heap.objs.size+1:=ZBP ..;show _/\_;rw[z1];have z2:=Zr (s.heap.push { cls:=.type "tuple_iterator",data:=.fields #[.ref tp,.int 0 0] }) (o:={ cls:=.type "enumerate",data:=.fields #[.none,.bool false,.ref s.heap.objs.size,rawInt 0,.none,.none] }) rfl;rw[z1]at z2;have z3:IsEnum _ (s.heap.objs.size+1) s.heap.objs.size 0 .none:=z2;exact⟨⟨_,z2,rfl⟩,h _ z3 ⟨_,Zi _ (Zr _ rfl),rfl,rfl⟩ fun b o x=>Zi _ (Zi _ x)⟩
end
noncomputable def IW(K:W.Frag)(l:Addr):It :=
 ⟨fun i H=>∃xs x,zt K H l xs/\xs[i]? = some x,
  fun i H v H'=>∃p x,H p=none/\v=.ref p/\H'=upd H p (.tup [.int i,x])/\∀xs,zt K H l xs->xs[i]? = some x,
  fun i H=>∃xs,zt K H l xs/\xs.length<=i⟩
theorem YA{e it:Addr}(zz:e≠it) :
 Turn P w K (.Tuple es kt tpos) (IW K l) [e,it] e (fun i h=>(∃old,IsEnum h e it (i:Int) old)/\h.IsTupleIter it l i) where
 mem:=by simp
 obj:=fun i h st b hb=>by
  obtain⟨⟨old,hz⟩,⟨o1,e1,c1,d1⟩⟩:=st;simp only[Zh,Z9,or_false]at hb
  rcases hb with rfl | rfl
  ·exact⟨_,hz,fun v q=>nomatch q⟩
  ·exact⟨o1,e1,fun v q=>by rw[d1]at q;cases q⟩
 keep:=fun i h h' ⟨⟨old,hz⟩,h1⟩ k=>⟨⟨old,k e (by simp) _ hz⟩,h1.at fun o q=>k it (by simp) o q⟩
 item:=by
  intro X hP hw hK hc i za s Z H E I hf st hg;subst hP hw hK;obtain⟨xs,x,hq1,hx⟩:=hg;obtain⟨⟨old,hz⟩,h1⟩:=st;obtain⟨ze,rv,p,_⟩:=I.tuple hq1;obtain⟨u,hu,ru⟩:=rv.get hx;have hp:s.heap.IsTuple l ze.toArray:=p;have le:l≠e:=fun q=>by obtain⟨o,g1,g2,_⟩:=hp;rw[q]at g1;rw[show s.heap.get? e=_ from hz]at g1;cases g1;exact absurd (show Value.type "enumerate" = Value.type "tuple" from g2) (by decide)
  have li:l≠it:=fun q=>by obtain⟨o,g1,g2,_⟩:=hp;obtain⟨o',g3,g4,_⟩:=h1;rw[q,g3]at g1;cases g1;rw[g4]at g2;exact absurd g2 (by decide)
  refine wpAny_pyNext_enum_itemD (XT (A:=X.A.in1) (show X.A.in1.handled=none from I.ok.hd hc) it l li ze.toArray) hz ⟨h1,hp⟩ ?_ zz (by simp[zz,Ne.symm le]) fun y h' tk py z1 z2' z3 z4 z5=>?_
  ·have:=(Z4.mp hu).1
   simpa using this
  obtain⟨z2,_⟩:=z2'
  have ey:y=u:=by
   have:ze.toArray[i]? = some u:=by simpa using hu
   rw[this]at py;exact(Zv py).symm
  subst ey;refine⟨_,rfl,?_⟩
  have z5':∀b v,b∉[e,it]->s.heap.get? b=some v->h'.get? b=some v:=fun b v hb q=>by
   simp only[Zh,Z9,or_false,not_or]at hb;exact z5 b v hb.1 hb.2 q
  have I1:zg X za Z (upd H s.heap.objs.size (.tup [.int i,x])) { s with heap:=h' }:=by
   refine I.turnedNew (ch:=[e,it]) (fun b hb=>hf b hb) (Zf _) z5' ?_ fun b hb=>?_
   ·exact⟨smq rfl,[.int i tk,y],.cons ⟨_,rfl⟩ (.cons ru .nil),⟨_,z3,rfl,⟨_,rfl⟩,rfl⟩⟩
   ·simp only[Zh,Z9,or_false]at hb
    rcases hb with rfl | rfl
    ·exact⟨_,z1⟩
    ·obtain⟨o,q,_⟩:=z2;exact⟨o,q⟩
  refine wpAny_letOwnedTupleGo_enum (s:={ s with heap:=h',toks:=tk+1 }) z1 fun h'' z8 z9=>?_
  have hfz:=hf e (by simp)
  have neT:∀b,b∈[e,it]->b≠s.heap.objs.size:=fun b hb q=>by
   have st':∃o,s.heap.get? b=some o:=by
    simp only[Zh,Z9,or_false]at hb
    rcases hb with rfl | rfl
    ·exact⟨_,hz⟩
    ·obtain⟨o,q,_⟩:=h1;exact⟨o,q⟩
   obtain⟨o,ho⟩:=st'
   have:=Zj ho
   rw[q]at this;exact Z2 _ this
  have hTH:∀b∈[e,it],upd H s.heap.objs.size (.tup [.int i,x]) b=none:=fun b hb=>by rw[AI (neT b hb)];exact(hf b hb).1
  have I2:zg X za Z (upd H s.heap.objs.size (.tup [.int i,x])) { s with heap:=h'',toks:=tk+1 } :=
   I1.turned (t':=tk+1) (fun b o hb q=>(z9.2 b hb).trans q) (hTH e (by simp)) hfz.2.1 hfz.2.2.2.1 hfz.2.2.2.2.1 hfz.2.2.2.2.2
  have up:∀b o,b≠e->h'.get? b=some o->h''.get? b=some o:=fun b o hb q=>(z9.2 b hb).trans q
  exact⟨.ref s.heap.objs.size,_,I2,rfl,⟨_,x,I.hok.fresh (Zf _),rfl,rfl,fun xs' h=>by rw[I.tuple_inj h hq1];exact hx⟩,⟨⟨_,z8⟩,z2.at fun o q=>up _ o (Ne.symm zz) q⟩,hTH⟩
 done:=by
  intro X hP hw hK hc i za s Z H E I hf st hg;subst hP hw hK;obtain⟨xs,hq1,hl⟩:=hg;obtain⟨⟨old,hz⟩,h1⟩:=st;obtain⟨ze,rv,p,_⟩:=I.tuple hq1;have e1:=rv.length;have hp:s.heap.IsTuple l ze.toArray:=p;have hT:s.TypeIs (.ref e) "enumerate":=⟨_,hz,rfl⟩;unfold pyNext;refine Zc (wpAny_attempt (wpAny_callSpecial?_slot (name:=Str.ofString "__next__") hT F.slot_enumerate_next (ZBV F.slot_enumerate_next hT F.entry_enumerate_next ?_ (F.args_enumerate_next_1 _))));show wpAny _ _ (field (.ref e) 2 >>= fun z=>_) _ _ _;refine Zc (ZB2 hz rfl (x:=.ref it) rfl ?_);refine Zc (LY (by first | exact I.ok.hd hc | simpa using I.ok.hd hc) h1 hp (by simp;lia) fun h' x z7 hx'=>?_);obtain⟨o,ho,hcl⟩:=hx';refine Zc (wpAny_isInstance (T:="StopIteration") (b:=true) ⟨o,ho,hcl⟩ isSubtype_stop (Zd ⟨rfl,?_⟩));obtain⟨f0,f1,f2,f3,f4,f5⟩:=hf it (by simp);exact I.turned (t':=s.toks) (fun b o hb q=>z7 b o hb q) f0 f1 f3 f4 f5
 self:=fun _ _ _ _ _ st h=>wpAny_pyIter_enum st.1.choose_spec h
section
variable {X:Cx}
noncomputable def VN(K:W.Frag)(ta:TA):TI:=fun Z H R=>ta Z H fun vs H1=>match vs with
 | [.ref a]=>(∃xs,zt K H1 a xs)/\R (IW K a) H1
 | _=>False
theorem K0 {a:Expr} {ta:TA} {p:Pos} (hg:Gl X "enumerate") (hm:X.mg "enumerate" = none) (ha:PA X [a] ta)
 (hs:starEach [a] X.env=[(false,eval a X.env)]:=by rfl) (hK:X.K=K:=by rfl) :
 PI X (.Tuple es kt tpos) (.Call (.Name "enumerate" p) [a] [] pos) (VN K ta):=by
 subst hK;intro za s Z H R I h;refine Call_ (CA I hg hm (by rfl:bootBuiltins "enumerate" = some (.type "enumerate")) (PyProof.Rows.callWith_type1 (zn (ha pos za s Z H _ I h) fun us s1 ⟨vs,H1,I1,r1,q1⟩=>?_) (by rw[hs];rfl) (by rfl)))
 match vs,q1,r1 with
 | [.ref l1],⟨⟨xs,hx⟩,q⟩,r1 =>
 cases r1 with
 | cons r rr =>
 cases rr;cases r;obtain⟨ze,rv,p1,_⟩:=I1.tuple hx;refine TQ (ze:=ze.toArray) p1 fun h' z1 z2 z4=>?_
 refine wpAny_pyIter_enum (s:={ s1 with heap:=h' }) z1 ?_;have I2:zg X za Z H1 { s1 with heap:=h' }:=I1.kept (t':=s1.toks) z4;refine⟨_,_,_,_,H1,rfl,I2,YA (l:=l1) (it:=s1.heap.objs.size) (ZBs (ZBb _)),⟨⟨_,z1⟩,z2⟩,fun b hb=>?_,q⟩;refine I1.fpOk ?_ (I1.hok.fresh ?_)
 all_goals
  simp only[Zh,Z9,or_false]at hb
  rcases hb with rfl | rfl
  ·exact ZBz _
  ·exact Zf _
theorem Ix {g:TG} {tc:TT} (Pv:Nat->List V->Hp->Prop) (h0:Pv 0 [] H) (hl:∀i zs H,i<=xs.length->Pv i zs H->zt K H l xs) (hz:∀i zs H,i < xs.length->Pv i zs H->zs.length < sizeLine)
 (hs:∀i x zs H p,xs[i]? = some x->Pv i zs H->H p=none->g (.ref p) σc (upd H p (.tup [.int (i:Nat),x])) fun σ2 H2=>tc σ2 H2 fun b H3=>if b=true then te σ2 H3 fun v H4=>Pv (i+1) (zs++[v]) H4 else Pv (i+1) zs H3)
 (hd:∀zs H,Pv xs.length zs H->∀p,H p=none->Q (.ref p) (upd H p (.lst zs))):Cw (IW K l) g tc te σc Q H:=by
 refine⟨fun i m zs H=>m=xs.length - i/\i<=xs.length/\Pv i zs H,⟨xs.length,by simp,Zu _,h0⟩,?_⟩;rintro i m zs H ⟨rfl,hi,p⟩;have q1:=hl i zs H hi p
 by_cases zm:i < xs.length
 ·refine .inr ⟨⟨xs,xs[i],q1,by simp[zm]⟩,hz i zs H zm p,Pv (i+1),fun zs' H' p'=>⟨xs.length - (i+1),by lia,rfl,zm,p'⟩,?_⟩;rintro v H' ⟨pp,x,hp,rfl,rfl,k1⟩;exact hs i x zs H pp (k1 xs q1) p hp
 ·have e:i=xs.length:=by lia
  subst e;exact .inl ⟨⟨xs,q1,Zf _⟩,hd zs H p⟩
end
theorem MP(a b:Nat):(a &&& b) / 2=a / 2 &&& b / 2:=by
 have:=Nat.and_div_two_pow (a:=a) (b:=b) (n:=1)
 simpa using this
theorem GS(a b:Nat):(a ^^^ b) / 2=a / 2 ^^^ b / 2:=by
 have:=Nat.xor_div_two_pow (a:=a) (b:=b) (n:=1)
 simpa using this
theorem Xn(a b:Nat):(a ||| b) / 2=a / 2 ||| b / 2:=by
 have:=Nat.or_div_two_pow (a:=a) (b:=b) (n:=1)
 simpa using this
theorem FY(a b:Nat):(a &&& b) % 2=a % 2 * (b % 2)/\(a ^^^ b) % 2=(a % 2+b % 2) % 2/\(a ||| b) % 2=a % 2+b % 2 - a % 2 * (b % 2):=by
 have h1:=Nat.and_mod_two_pow (a:=a) (b:=b) (n:=1);have h2:=Nat.xor_mod_two_pow (a:=a) (b:=b) (n:=1);have h3:=Nat.or_mod_two_pow (a:=a) (b:=b) (n:=1);rw[Nat.pow_one]at h1 h2 h3;rw[h1,h2,h3];have ha:a % 2=0\/a % 2=1:=by lia
 have hb:b % 2=0\/b % 2=1:=by lia
 rcases ha with ha | ha <;> rcases hb with hb | hb <;> rw[ha,hb] <;> decide
theorem RI:∀a b:Nat,(a ^^^ b)+2 * (a &&& b)=a+b:=by
 intro a
 induction a using Nat.strongRecOn with
 | ind a ih =>
  intro b
  by_cases h0:a=0
  ·subst h0;simp
  ·have i:=ih (a / 2) (by lia) (b / 2);rw[<- GS,<- MP]at i;obtain⟨l1,l2,_⟩:=FY a b;have ha:a % 2=0\/a % 2=1:=by lia
   have hb:b % 2=0\/b % 2=1:=by lia
   rcases ha with ha | ha <;> rcases hb with hb | hb <;> rw[ha,hb]at l1 l2 <;> lia
theorem Qd:∀a b:Nat,(a ||| b)+(a &&& b)=a+b:=by
 intro a
 induction a using Nat.strongRecOn with
 | ind a ih =>
  intro b
  by_cases h0:a=0
  ·subst h0;simp
  ·have i:=ih (a / 2) (by lia) (b / 2);rw[<- Xn,<- MP]at i;obtain⟨l1,_,l2⟩:=FY a b;have ha:a % 2=0\/a % 2=1:=by lia
   have hb:b % 2=0\/b % 2=1:=by lia
   rcases ha with ha | ha <;> rcases hb with hb | hb <;> rw[ha,hb]at l1 l2 <;> lia
theorem FC(a b:Nat):Builtin.bitAnd (a:Int) (b:Int)=((a &&& b:Nat):Int):=by
 unfold Builtin.bitAnd;rw[Zl (ZCg a),Zl (ZCg b)];rfl
theorem Uv(a b:Nat):Builtin.bitOr (a:Int) (b:Int)=((a ||| b:Nat):Int):=by
 rw[PyProof.Rows.bitOr_and,FC]
 have:=Qd a b
 lia
noncomputable def iL(xs:List Nat):List V:=xs.map fun i=>V.int (i:Nat)
noncomputable def iD(xs:List Nat):List Dv:=xs.map fun i=>Dv.int (i:Nat)
theorem Ag(xs:List Nat):(iL xs).length=xs.length:=by unfold iL;rw[Ze]
theorem Bj(xs ys:List Nat):iL (xs++ys)=iL xs++iL ys:=by unfold iL;rw[Zt]
theorem CD{xs:List Nat}(h:(iL xs)[i]? = some v):∃x,xs[i]? = some x/\x∈xs/\v=.int (x:Nat):=by
 unfold iL at h;rw[Zm]at h;cases e:xs[i]? with
 | none=>rw[e]at h;cases h
 | some x=>rw[e]at h;exact⟨x,rfl,ZBQ e,(Zv h).symm⟩
theorem LA:∀xs:List Nat,zf K H (iD xs) (iL xs)
 | []=>by unfold iD iL zf;rfl
 | x::xs=>by
  show zf K H (Dv.int (x:Nat)::iD xs) (V.int (x:Nat)::iL xs);unfold zf;exact⟨_,_,rfl,by unfold zh;rfl,LA xs⟩
theorem LK{H0:Hp}{t:Addr}(s:zc H0 H)(ht:H0 t=none):zc H0 (upd H t o):=fun b u e=>by
 rw[AI (Bo e ht)];exact s b u e
theorem zc.sqT(e:zc H H')(h:zt K H a xs):zt K H' a xs:=HE h (fun o k=>e _ _ k)
theorem zc.sqL(e:zc H H')(h:zv K H a xs):zv K H' a xs:=Hm h (fun o k=>e _ _ k)
noncomputable def AQ(f:Nat->Int):Nat->Int
 | 0=>0
 | n+1=>AQ f n+f n
theorem BB{f:Nat->Int}:∀{n:Nat},(∀j,j < n->f j=g j)->AQ f n=AQ g n
 | 0,_=>rfl
 | n+1,h=>by
  show AQ f n+f n=AQ g n+g n;rw[BB fun j hj=>h j (ZB4 hj),h n (ZBb n)]
theorem Lr(f:Nat->Int)(a:Nat):∀b,AQ f (a+b)=AQ f a+AQ (fun j=>f (a+j)) b
 | 0=>by show AQ f a=AQ f a+0;lia
 | b+1=>by
  show AQ f (a+b)+f (a+b)=AQ f a+(AQ (fun j=>f (a+j)) b+f (a+b));rw[Lr f a b];lia
theorem Hv(f g:Nat->Int):∀n,AQ f n+AQ g n=AQ (fun j=>f j+g j) n
 | 0=>rfl
 | n+1=>by
  show AQ f n+f n+(AQ g n+g n)=AQ (fun j=>f j+g j) n+(f n+g n);rw[<- Hv f g n];lia
theorem Df(c:Int)(f:Nat->Int):∀n,c * AQ f n=AQ (fun j=>c * f j) n
 | 0=>by show c * 0=0;lia
 | n+1=>by
  show c * (AQ f n+f n)=AQ (fun j=>c * f j) n+c * f n;rw[<- Df c f n,Int.mul_add]
theorem SO(c:Int)(f:Nat->Int)(n:Nat):AQ f n * c=AQ (fun j=>f j * c) n:=by
 rw[Int.mul_comm,Df];exact BB fun j _=>Int.mul_comm _ _
theorem IH:∀n,AQ (fun _=>0) n=0
 | 0=>rfl
 | n+1=>by show AQ (fun _=>0) n+0=0;rw[IH n];rfl
theorem Hn(f:Nat->Nat->Int)(m:Nat):∀n,AQ (fun i=>AQ (fun j=>f i j) m) n=AQ (fun j=>AQ (fun i=>f i j) n) m
 | 0=>by show(0:Int)=AQ (fun _=>0) m;rw[IH]
 | n+1=>by
  show AQ (fun i=>AQ (fun j=>f i j) m) n+AQ (fun j=>f n j) m=AQ (fun j=>AQ (fun i=>f i j) n+f n j) m;rw[Hn f m n,Hv]
theorem GL(g:Nat->Int)(x:Nat):∀n,AQ (fun y=>if x=y then g y else 0) n=if x < n then g x else 0
 | 0=>by simp[AQ]
 | n+1=>by
  show AQ (fun y=>if x=y then g y else 0) n+(if x=n then g n else 0)=_;rw[GL g x n]
  by_cases h:x=n
  ·subst h;rw[if_neg (by lia),if_pos rfl,if_pos (by lia)];lia
  ·by_cases h2:x < n
   ·rw[if_pos h2,if_neg h,if_pos (by lia)];lia
   ·rw[if_neg h2,if_neg h,if_neg (by lia)];rfl
theorem Go(f:Nat->Int):∀m,AQ f (2 * m)=AQ (fun j=>f (2 * j)+f (2 * j+1)) m
 | 0=>rfl
 | m+1=>by
  show AQ f (2 * m)+f (2 * m)+f (2 * m+1)=AQ (fun j=>f (2 * j)+f (2 * j+1)) m+(f (2 * m)+f (2 * m+1));rw[Go f m];lia
noncomputable def chi:Nat->Nat->Nat->Int
 | 0,_,_=>1
 | n+1,a,b=>(if a % 2=1/\b % 2=1 then -1 else 1) * chi n (a / 2) (b / 2)
theorem GT:∀n a b c,chi n a (b ^^^ c)=chi n a b * chi n a c
 | 0,_,_,_=>rfl
 | n+1,a,b,c=>by
  show _ * chi n (a / 2) ((b ^^^ c) / 2)=(_ * chi n (a / 2) (b / 2)) * (_ * chi n (a / 2) (c / 2));rw[GS,GT n];generalize chi n (a / 2) (b / 2)=x;generalize chi n (a / 2) (c / 2)=y;have e:=(FY b c).2.1;have ha:a % 2=0\/a % 2=1:=by lia
  have hb:b % 2=0\/b % 2=1:=by lia
  have hc:c % 2=0\/c % 2=1:=by lia
  rw[e]
  rcases ha with ha | ha <;> rcases hb with hb | hb <;> rcases hc with hc | hc <;> rw[ha,hb,hc] <;> simp[Int.mul_neg,Int.neg_mul]
theorem chi_one:∀n a b,chi n a b=1\/chi n a b = -1
 | 0,_,_=>.inl rfl
 | n+1,a,b=>by
  show _ * chi n (a / 2) (b / 2)=1\/_ * chi n (a / 2) (b / 2) = -1
  rcases chi_one n (a / 2) (b / 2) with h | h <;> rw[h] <;> by_cases g:a % 2=1/\b % 2=1 <;> simp[g]
theorem OR:∀n a,chi n a 0=1
 | 0,_=>rfl
 | n+1,a=>by
  show(if a % 2=1/\0 % 2=1 then -1 else 1) * chi n (a / 2) (0 / 2)=1
  rw[if_neg (by lia),Nat.zero_div,OR n];rfl
theorem LC:∀n b,b < 2 ^ n->AQ (fun a=>chi n a b) (2 ^ n)=if b=0 then ((2 ^ n:Nat):Int) else 0
 | 0,b,h=>by
  have:b=0:=by simpa using h
  subst this;rfl
 | n+1,b,h=>by
  rw[ZBX,ZBc,Go]
  have e:∀j,chi (n+1) (2 * j) b+chi (n+1) (2 * j+1) b=(if b % 2=1 then 0 else 2) * chi n j (b / 2):=fun j=>by
   show(if 2 * j % 2=1/\b % 2=1 then -1 else 1) * chi n (2 * j / 2) (b / 2)+(if (2 * j+1) % 2=1/\b % 2=1 then -1 else 1) * chi n ((2 * j+1) / 2) (b / 2)=_
   rw[show 2 * j / 2=j by lia,show(2 * j+1) / 2=j by lia,if_neg (by lia)]
   by_cases hb:b % 2=1
   ·rw[if_pos ⟨by lia,hb⟩,if_pos hb];lia
   ·rw[if_neg (fun z=>hb z.2),if_neg hb];lia
  rw[BB (g:=fun j=>(if b % 2=1 then 0 else 2) * chi n j (b / 2)) fun j _=>e j,<- Df,LC n (b / 2) (by rw[ZBX]at h;lia)]
  by_cases hb:b % 2=1
  ·rw[if_pos hb,Int.zero_mul,if_neg (by lia)]
  ·rw[if_neg hb]
   by_cases h0:b=0
   ·subst h0;simp[Int.natCast_mul]
   ·rw[if_neg (by lia),if_neg h0];rfl
theorem xor_eq_zero{a b:Nat}:a ^^^ b=0 ↔ a=b:=by
 constructor
 ·intro h
  have:=congrArg (fun z=>z ^^^ b) h
  simpa [Nat.xor_assoc] using this
 ·intro h;subst h;exact Nat.xor_self a
noncomputable def wt(n:Nat)(v:Nat->Int)(s:Nat):Int:=AQ (fun p=>chi n s p * v p) (2 ^ n)
theorem P6(n:Nat)(a b:Nat->Int):AQ (fun s=>wt n a s * wt n b s) (2 ^ n)=((2 ^ n:Nat):Int) * AQ (fun x=>a x * b x) (2 ^ n):=by
 have e1:∀s,wt n a s * wt n b s=AQ (fun x=>AQ (fun y=>(a x * b y) * chi n s (x ^^^ y)) (2 ^ n)) (2 ^ n):=fun s=>by
  unfold wt;rw[SO];refine BB fun x _=>?_
  rw[Df];refine BB fun y _=>?_
  rw[GT]
  ac_rfl
 rw[BB fun s _=>e1 s,Hn,Df];refine BB fun x hx=>?_
 rw[Hn]
 have e2:∀y,y < 2 ^ n->AQ (fun s=>a x * b y * chi n s (x ^^^ y)) (2 ^ n)=if x=y then ((2 ^ n:Nat):Int) * (a x * b y) else 0:=fun y hy=>by
  rw[<- Df,LC n _ (Nat.xor_lt_two_pow hx hy)]
  by_cases h:x=y
  ·rw[if_pos (xor_eq_zero.mpr h),if_pos h,Int.mul_comm]
  ·rw[if_neg (fun z=>h (xor_eq_zero.mp z)),if_neg h,Int.mul_zero]
 rw[BB e2,GL (fun y=>((2 ^ n:Nat):Int) * (a x * b y)),if_pos hx]
theorem ND:∀(n:Nat) (f:Nat->Int) (t:Nat),t < 2 ^ n->AQ (fun x=>f (x ^^^ t)) (2 ^ n)=AQ f (2 ^ n)
 | 0,f,t,h=>by
  have:t=0:=by simpa using h
  subst this;exact BB fun j _=>by rw[Nat.xor_zero]
 | n+1,f,t,h=>by
  rw[ZBX,ZBc,Go,Go];have ih:=ND n (fun j=>f (2 * j)+f (2 * j+1)) (t / 2) (by rw[ZBX]at h;lia);rw[<- ih];refine BB fun j _=>?_
  have k1:=GS (2 * j) t;have k2:=GS (2 * j+1) t;have l1:=(FY (2 * j) t).2.1;have l2:=(FY (2 * j+1) t).2.1;rw[show 2 * j / 2=j by lia]at k1;rw[show(2 * j+1) / 2=j by lia]at k2;have ht:t % 2=0\/t % 2=1:=by lia
  rcases ht with ht | ht
  ·have e1:2 * j ^^^ t=2 * (j ^^^ t / 2):=by lia
   have e2:2 * j+1 ^^^ t=2 * (j ^^^ t / 2)+1:=by lia
   rw[e1,e2]
  ·have e1:2 * j ^^^ t=2 * (j ^^^ t / 2)+1:=by lia
   have e2:2 * j+1 ^^^ t=2 * (j ^^^ t / 2):=by lia
   rw[e1,e2,Int.add_comm]
theorem JT(n:Nat)(v:Nat->Int)(p:Nat)(hp:p < 2 ^ n):AQ (fun s=>chi n s p * wt n v s) (2 ^ n)=((2 ^ n:Nat):Int) * v p:=by
 have e:AQ (fun s=>chi n s p * wt n v s) (2 ^ n)=AQ (fun s=>wt n (fun x=>if p=x then 1 else 0) s * wt n v s) (2 ^ n):=BB fun s _=>by
  congr 1
  unfold wt;rw[BB (g:=fun y=>if p=y then chi n s y else 0) fun y _=>by by_cases h:p=y <;> simp[h],GL,if_pos hp]
 rw[e,P6]
 congr 1
 rw[BB (g:=fun y=>if p=y then v y else 0) fun y _=>by by_cases h:p=y <;> simp[h],GL,if_pos hp]
theorem Jn:∀{s b r c j:Nat},r < 2 ^ s->j < 2 ^ s->b < 2->c < 2->chi (s+1) (b * 2 ^ s+r) (c * 2 ^ s+j)=chi s r j * (if b=1/\c=1 then -1 else 1)
 | 0,b,r,c,j,hr,hj,hb,hc=>by
  have r0:r=0:=by simpa using hr
  have j0:j=0:=by simpa using hj
  subst r0 j0;have eb:b=0\/b=1:=by lia
  have ec:c=0\/c=1:=by lia
  rcases eb with rfl | rfl <;> rcases ec with rfl | rfl <;> rfl
 | s+1,b,r,c,j,hr,hj,hb,hc=>by
  have d1:∀x:Nat,x * 2 ^ (s+1)=2 * (x * 2 ^ s):=fun x=>by rw[ZBX,ZBc (2 ^ s),<- Nat.mul_assoc,ZBc x 2,Nat.mul_assoc]
  have k1:(b * 2 ^ (s+1)+r) % 2=r % 2:=by rw[d1];lia
  have k2:(c * 2 ^ (s+1)+j) % 2=j % 2:=by rw[d1];lia
  have k3:(b * 2 ^ (s+1)+r) / 2=b * 2 ^ s+r / 2:=by rw[d1];lia
  have k4:(c * 2 ^ (s+1)+j) / 2=c * 2 ^ s+j / 2:=by rw[d1];lia
  have e1:chi (s+1+1) (b * 2 ^ (s+1)+r) (c * 2 ^ (s+1)+j)=(if r % 2=1/\j % 2=1 then -1 else 1) * chi (s+1) (b * 2 ^ s+r / 2) (c * 2 ^ s+j / 2):=by
   show(if (b * 2 ^ (s+1)+r) % 2=1/\(c * 2 ^ (s+1)+j) % 2=1 then -1 else 1) * chi (s+1) ((b * 2 ^ (s+1)+r) / 2) ((c * 2 ^ (s+1)+j) / 2)=_
   rw[k1,k2,k3,k4]
  rw[e1,Jn (s:=s) (by rw[ZBX]at hr;lia) (by rw[ZBX]at hj;lia) hb hc,<- Int.mul_assoc];rfl
noncomputable def Ew(v:Nat->Int)(s k:Nat):Int:=if k / s % 2=1 then v (k - s) - v k else v k+v (k+s)
noncomputable def Bq(v:Nat->Int):Nat->Nat->Int
 | 0=>v
 | s+1=>Ew (Bq v s) (2 ^ s)
noncomputable def hs(v:Nat->Int)(s k:Nat):Int:=AQ (fun j=>chi s (k % 2 ^ s) j * v (k / 2 ^ s * 2 ^ s+j)) (2 ^ s)
theorem Ep{v:Nat->Int}{s q r:Nat}(h:r < 2 ^ s):hs v s (q * 2 ^ s+r)=AQ (fun j=>chi s r j * v (q * 2 ^ s+j)) (2 ^ s):=by
 unfold hs;have e1:(q * 2 ^ s+r) % 2 ^ s=r:=by rw[ZBc,Nat.mul_add_mod,Nat.mod_eq_of_lt h]
 have e2:(q * 2 ^ s+r) / 2 ^ s=q:=by rw[ZBc,Nat.mul_add_div (ZBd s),Nat.div_eq_of_lt h,Nat.add_zero]
 rw[e1,e2]
theorem U6{v:Nat->Int}{s:Nat}(q b r:Nat)(hr:r < 2 ^ s)(hb:b < 2) :
 Ew (hs v s) (2 ^ s) (q * 2 ^ (s+1)+(b * 2 ^ s+r))=hs v (s+1) (q * 2 ^ (s+1)+(b * 2 ^ s+r)):=by
 have hB:2 ^ (s+1)=2 ^ s+2 ^ s:=by rw[ZBX];lia
 have hrr:b * 2 ^ s+r < 2 ^ (s+1):=by
  rw[hB]
  have:b=0\/b=1:=by lia
  rcases this with e | e <;> subst e <;> lia
 rw[Ep hrr,hB,Lr]
 have low:∀j,j < 2 ^ s->chi (s+1) (b * 2 ^ s+r) j=chi s r j:=fun j hj=>by
  have:=Jn (c:=0) hr hj hb (by decide)
  rw[Nat.zero_mul,Nat.zero_add,if_neg (by lia),ZCI]at this;exact this
 have high:∀j,j < 2 ^ s->chi (s+1) (b * 2 ^ s+r) (2 ^ s+j)=chi s r j * (if b=1 then -1 else 1):=fun j hj=>by
  have:=Jn (c:=1) hr hj hb (by decide)
  rw[Nat.one_mul]at this;rw[this];simp
 have e0:q * (2 ^ s+2 ^ s)+(b * 2 ^ s+r)=(2 * q+b) * 2 ^ s+r:=by
  rw[Nat.add_mul,ZBc 2 q,Nat.mul_assoc,Nat.two_mul];lia
 have eq0:q * (2 ^ s+2 ^ s)=(2 * q) * 2 ^ s:=by rw[ZBc 2 q,Nat.mul_assoc,Nat.two_mul]
 have eq1:q * (2 ^ s+2 ^ s)+2 ^ s=(2 * q+1) * 2 ^ s:=by rw[Nat.add_mul,Nat.one_mul,eq0]
 unfold Ew;rw[e0]
 have et:((2 * q+b) * 2 ^ s+r) / 2 ^ s % 2=b:=by
  rw[ZBc,Nat.mul_add_div (ZBd s),Nat.div_eq_of_lt hr];lia
 rw[et]
 have:b=0\/b=1:=by lia
 rcases this with e | e <;> subst e
 ·rw[if_neg (by decide)];have ek:(2 * q+0) * 2 ^ s+r+2 ^ s=(2 * q+1) * 2 ^ s+r:=by rw[Nat.add_zero,Nat.add_mul,Nat.one_mul];lia
  rw[ek,Ep hr,Ep hr]
  congr 1
  ·refine BB fun j hj=>?_
   rw[low j hj,eq0];rfl
  ·refine BB fun j hj=>?_
   show chi s r j * v ((2 * q+1) * 2 ^ s+j)=chi (s+1) (0 * 2 ^ s+r) (2 ^ s+j) * v (q * (2 ^ s+2 ^ s)+(2 ^ s+j));rw[high j hj,if_neg (by decide),ZCI,<- Nat.add_assoc,eq1]
 ·rw[if_pos rfl];have ek:(2 * q+1) * 2 ^ s+r - 2 ^ s=(2 * q) * 2 ^ s+r:=by rw[Nat.add_mul,Nat.one_mul];lia
  rw[ek,Ep hr,Ep hr,Int.sub_eq_add_neg]
  congr 1
  ·refine BB fun j hj=>?_
   rw[low j hj,eq0]
  ·have neg:∀(f:Nat->Int) n,- AQ f n=AQ (fun j=>- f j) n:=fun f n=>by
    induction n with
    | zero=>rfl
    | succ n ih=>show -(AQ f n+f n)=AQ (fun j=>- f j) n + - f n;rw[<- ih];lia
   rw[neg];refine BB fun j hj=>?_
   show -(chi s r j * v ((2 * q+1) * 2 ^ s+j))=chi (s+1) (1 * 2 ^ s+r) (2 ^ s+j) * v (q * (2 ^ s+2 ^ s)+(2 ^ s+j));rw[high j hj,if_pos rfl,<- Nat.add_assoc,eq1,Int.mul_neg,ZCI,Int.neg_mul]
theorem Po(s k:Nat):∃q b r,k=q * 2 ^ (s+1)+(b * 2 ^ s+r)/\r < 2 ^ s/\b < 2:=by
 refine⟨k / 2 ^ s / 2,k / 2 ^ s % 2,k % 2 ^ s,?_,Nat.mod_lt _ (ZBd s),Nat.mod_lt _ (by decide)⟩;have h1:=Nat.div_add_mod k (2 ^ s);have h2:=Nat.div_add_mod (k / 2 ^ s) 2;rw[ZBX];generalize k % 2 ^ s=r at *;generalize hd:k / 2 ^ s=d at *;rw[<- Nat.add_assoc,ZBc (2 ^ s) 2,<- Nat.mul_assoc,<- Nat.add_mul,ZBc (d / 2) 2,h2,ZBc];exact h1.symm
theorem Nt(v:Nat->Int):∀s k,Bq v s k=hs v s k
 | 0,k=>by
  show v k=AQ (fun j=>chi 0 (k % 2 ^ 0) j * v (k / 2 ^ 0 * 2 ^ 0+j)) 1;show v k=0+chi 0 (k % 2 ^ 0) 0 * v (k / 2 ^ 0 * 2 ^ 0+0)
  have:chi 0 (k % 2 ^ 0) 0=1:=rfl
  rw[this,Int.one_mul,ZBw];simp
 | s+1,k=>by
  have e:Bq v s=hs v s:=funext fun k=>Nt v s k
  show Ew (Bq v s) (2 ^ s) k=_;rw[e];obtain⟨q,b,r,rfl,hr,hb⟩:=Po s k;exact U6 q b r hr hb
theorem Pn{v:Nat->Int}{m k:Nat}(h:k < 2 ^ m):Bq v m k=AQ (fun j=>chi m k j * v j) (2 ^ m):=by
 rw[Nt]
 have:=Ep (v:=v) (s:=m) (q:=0) h
 rw[Nat.zero_mul,Nat.zero_add]at this;rw[this];refine BB fun j _=>?_
 rw[Nat.zero_add]
theorem TZ{v:Nat->Int}{m k:Nat}(h:k < 2 ^ m):Bq v m k=wt m v k:=Pn h
noncomputable def Ng:Nat->Nat->Nat
 | 0,_=>0
 | f+1,x=>x % 2+Ng f (x / 2)
@[irreducible] noncomputable def many(x:Nat):Nat:=Ng 64 x
noncomputable def ixL(g:Nat->Int)(M:Nat):List V:=(List.range M).map fun i=>V.int (g i)
theorem ixL_len{M:Nat}:(ixL g M).length=M:=by unfold ixL;simp
theorem Nm{M k:Nat}(h:k < M):(ixL g M)[k]? = some (.int (g k)):=by unfold ixL;rw[Zm,ZBp h];rfl
theorem GJ{M k:Nat}(h:k < M):atI (ixL g M) (k:Int)=some (.int (g k)):=Ae rfl (Nm h)
theorem Pk{M:Nat}(h:i < M):(ixL g M).take (i+1)=(ixL g M).take i++[V.int (g i)]:=by
 rw[ZBB,Nm h];rfl
theorem MA(g:Nat->Int)(M:Nat):ixL g (M+1)=ixL g M++[V.int (g M)]:=by unfold ixL;rw[ZBq,Zt];rfl
noncomputable def Dk(b:Bool):Int:=if b=true then -1 else 1
noncomputable def An(bs:List Bool)(p:Nat):Int:=Dk (bs.getD p false)
noncomputable def A3(g:Nat->Int):Nat->List (Nat × Int)
 | 0=>[]
 | i+1=>A3 g i++(if g i=0 then [] else [(i,g i)])
theorem LZ{f:Nat->Int}:∀{n:Nat},(∀j,j < n->f j=g j)->A3 f n=A3 g n
 | 0,_=>rfl
 | n+1,h=>by
  show A3 f n++(if f n=0 then [] else [(n,f n)])=A3 g n++(if g n=0 then [] else [(n,g n)]);rw[LZ fun j hj=>h j (ZB4 hj),h n (ZBb n)]
theorem LO(g:Nat->Int):∀n,(A3 g n).length<=n
 | 0=>Zf _
 | n+1=>by
  unfold A3;rw[Zy]
  have:=LO g n
  split
  ·rw[List.length_nil];lia
  ·rw[List.length_singleton];lia
theorem Ln:∀{n:Nat} {q:Nat × Int},q∈A3 g n->q.1 < n/\q.2=g q.1/\q.2≠0
 | 0,q,h=>by cases h
 | n+1,q,h=>by
  rcases ZBE.mp h with h | h
  ·have:=Ln h;exact⟨by lia,this.2⟩
  ·split at h
   ·cases h
   ·rename_i hn;rw[Zq.mp h];exact⟨ZBb n,rfl,hn⟩
noncomputable def Dz(q:Nat × Int):Dv:=.tup [.int q.1,.int q.2]
noncomputable def F0(m:Nat)(ts:List (Nat × Int)):Dv:=.tup [.int m,.tup (ts.map Dz)]
structure SumAt(K:W.Frag)(H:Hp)(v:V)(m:Nat)(ts:List (Nat × Int)):Prop where
 at_:∃(a b:Addr) (vs:List V),v=.ref a/\zt K H a [.int m,.ref b]/\zt K H b vs/\zf K H (ts.map Dz) vs
theorem SumAt.of{m:Nat}{ts:List (Nat × Int)}(h:zh K H (F0 m ts) v):SumAt K H v m ts:=by
 unfold F0 zh at h;obtain⟨a,xs,rfl,ha,hr⟩:=h;unfold zf at hr;obtain⟨x,r,rfl,h1,hr⟩:=hr;unfold zh at h1;subst h1;unfold zf at hr;obtain⟨x,r,rfl,h2,hr⟩:=hr;unfold zf at hr;subst hr;unfold zh at h2;obtain⟨b,vs,rfl,hb,hr⟩:=h2;exact⟨a,b,vs,rfl,ha,hb,hr⟩
theorem SumAt.rep{m:Nat}{ts:List (Nat × Int)}(h:SumAt K H v m ts):zh K H (F0 m ts) v:=by
 obtain⟨a,b,vs,rfl,ha,hb,hr⟩:=h.at_;unfold F0 zh;refine⟨a,_,rfl,ha,Aw Fz (Aw ?_ BF)⟩;unfold zh;exact⟨b,vs,rfl,hb,hr⟩
theorem PN{ts:List (Nat × Int)}{vs:List V}(h:zf K H (ts.map Dz) vs)(e:vs[i]? = some v):∃q c,ts[i]? = some q/\v=.ref c/\zt K H c [.int q.1,.int q.2]:=by
 have hl:=h.length
 have hi:i < ts.length:=by
  have:=(Z4.mp e).1
  rw[Ze]at hl;lia
 have e1:(ts.map Dz)[i]? = some (Dz ts[i]):=by rw[Zm,Zg hi];rfl
 obtain⟨x,e2,hx⟩:=h.get e1;rw[e]at e2;cases e2;unfold Dz zh at hx;obtain⟨c,xs,rfl,hc,hr⟩:=hx;unfold zf at hr;obtain⟨x,r,rfl,h1,hr⟩:=hr;unfold zh at h1;subst h1;unfold zf at hr;obtain⟨x,r,rfl,h2,hr⟩:=hr;unfold zh at h2;subst h2;unfold zf at hr;subst hr;exact⟨ts[i],c,Zg hi,rfl,hc⟩
theorem Pw:∀m < 7,∀s < m,∀k < 2 ^ m,k / 2 ^ s % 2≠1->k+2 ^ s < 2 ^ m:=by decide +kernel
noncomputable def gB(bs:List Bool)(i:Nat):Bool:=bs.getD i false
theorem NF{bs:List Bool}(h:i < bs.length):gB bs i=bs[i]:=by unfold gB;rw[Zw,Zg h];rfl
theorem Ed{bs:List Bool}(h:i < bs.length):atI (bs.map V.bl) ((i:Nat):Int)=some (.bl (gB bs i)):=by
 rw[NF h];exact Ae rfl (by rw[Zm,Zg h];rfl)
noncomputable def orL:Nat->List (Nat × Int)->Nat
 | a,[]=>a
 | a,q::ts=>orL (a ||| q.1) ts
theorem MZ:∀(xs ys:List (Nat × Int)) (a:Nat),orL a (xs++ys)=orL (orL a xs) ys
 | [],_,_=>rfl
 | x::xs,ys,a=>by show orL (a ||| x.1) (xs++ys)=_;rw[MZ xs ys];rfl
theorem Xe{ts:List (Nat × Int)}{q:Nat × Int}(h:ts[i]? = some q):orL 0 (ts.take (i+1))=orL 0 (ts.take i) ||| q.1:=by
 rw[ZBB,h,MZ];rfl
theorem Lw(j:Nat):∀(ts:List (Nat × Int)) (a:Nat),(orL a ts).testBit j=(a.testBit j || ts.any fun q=>q.1.testBit j)
 | [],a=>by simp[orL]
 | q::ts,a=>by
  show(orL (a ||| q.1) ts).testBit j=_
  rw[Lw j ts,Nat.testBit_or,ZCL,Bool.or_assoc]
theorem KB:∀{n s:Nat},s < n->g s≠0->(s,g s)∈A3 g n
 | 0,s,h,_=>by lia
 | n+1,s,h,hg=>by
  show(s,g s)∈A3 g n++_
  by_cases e:s=n
  ·subst e;rw[if_neg hg];exact Zx _ (Zq.mpr rfl)
  ·exact ZBO _ (KB (by lia) hg)
noncomputable def Nb(x:Int)(k:Nat):Prop:=x.natAbs < 2 ^ k
theorem Nb.mul{x y:Int}{a b:Nat}(hx:Nb x a)(hy:Nb y b):Nb (x * y) (a+b):=by
 unfold Nb at *;rw[Int.natAbs_mul,Nat.pow_add];exact Nat.mul_lt_mul'' hx hy
theorem Nb.up{x:Int}{a b:Nat}(hx:Nb x a)(h:a<=b):Nb x b:=Z0 hx (Z3 (by decide) h)
theorem Nb.pow{x:Int}{a:Nat}(hx:Nb x a):∀i,Nb (x ^ i) (a * i+1)
 | 0=>by unfold Nb;rw[Int.pow_zero];show 1 < 2 ^ (a * 0+1);rw[Nat.mul_zero];decide
 | i+1=>by
  rw[Int.pow_succ]
  have:=(hx.pow i).mul hx
  rw[show a * (i+1)+1=a * i+1+a by rw[Nat.mul_succ];lia];exact this
theorem Nb.okMul{x y:Int}(hx:Nb x 4000)(hy:Nb y 4000):okMul x y:=.inl ⟨hx.up (by decide),hy.up (by decide)⟩
noncomputable def Eb(H:Hp)(Q:VK)(xs:List V):Prop:=∀p H',H p=none->zc H H'->H' p=some (.lst xs)->Q (.ref p) H'
theorem At{Q':VK}(h:∀v H,Q v H->Q' v H)(q:Eb H Q xs):Eb H Q' xs:=fun p H' a b c=>h _ _ (q p H' a b c)
theorem VG(f:Nat->Bool)(n:Nat):((List.range (n+1)).map f).map V.bl=((List.range n).map f).map V.bl++[V.bl (f n)]:=by
 rw[ZBq,Zt,Zt];rfl
theorem UE{td ty tv:TE}(h1:AY td)(h2:AY ty)(h3:AY tv):Bh (Mt td ty tv):=fun D D' Z H h q=>h3 _ _ _ _ (fun _ _ q=>h1 _ _ _ _ (fun _ _ q=>h2 _ _ _ _ (fun _ _ ⟨a,H4,e,g,q⟩=>⟨a,H4,e,g,h.nx _ _ q⟩) q) q) q
theorem Cb(h:A.units+60 < cLine):A.units+1 < cLine:=by lia
end L2
namespace L2
open PySem PySem.Spec PyProof.Rows
variable {K:W.Frag}{H:Hp}{d:Addr}{zd:List (Key × V)}
section
variable {X:Cx}{K:W.Frag}{e sx:Expr}{te ts:TE}{lo hi:Option Expr}{tl th:TO}{pos p2:Pos}
noncomputable def mIs(neg:Bool):R2:=fun x y H Q=>match x,y with
 | .bl a,.bl b=>Q (.bl (neg ^^ (a == b))) H
 | x,.non=>Q (.bl (neg ^^ decide (x=.non))) H
 | _,_=>False
theorem KA:zy X (compareOp .IsNot) (mIs true):=by
 intro za s Z H x y v u Q I rx ry h;unfold mIs at h;split at h
 ·cases rx;cases ry;rename_i a b;exact wpAny_of_eq (show compareOp .IsNot (.bool a) (.bool b)=pure (.bool (!(a == b))) by cases a <;> cases b <;> rfl) ⟨.bl (!(a == b)),H,I,rfl,by rw[Bool.true_xor]at h;exact h⟩
 ·exact Ri za s Z H _ _ v u Q I rx ry ⟨rfl,by rw[Bool.true_xor]at h;exact h⟩
 ·exact h.elim
theorem Qb{neg:Bool}:Ba (mIs neg):=fun x y H Q Q' h q=>by
 unfold mIs at *;split at q
 ·exact h _ _ q
 ·exact h _ _ q
 ·exact q.elim
end
noncomputable def tyD:Dv->String
 | .non=>"NoneType"
 | .bl _=>"bool"
 | .int _=>"int"
 | .str _=>"str"
 | .tup _=>"tuple"
 | .lst _=>"list"
noncomputable def NA(K:W.Frag):List V->Hp->VK->Prop:=fun xs H Q=>match xs with
 | [x,.ty T]=>T∈kinds/\∃d,zh K H d x/\Q (.bl (Bt (tyD d) T)) H
 | _=>False
theorem Km{t T:String}(ht:t = "int" \/ t = "bool" \/ t = "tuple" \/ t = "list")(hT:T∈kinds):PySem.W.kitOne K (.type t) (.type T)=some (Bt t T):=by
 unfold kinds at hT;simp only[Zh,Z9,or_false]at hT
 rcases ht with rfl | rfl | rfl | rfl <;> rcases hT with rfl | rfl | rfl | rfl | rfl | rfl <;> rfl
theorem Fu{X:Cx}:CallR X (.builtin "isinstance") (NA X.K):=by
 intro za s Z H xs us Q I r q
 match xs,q with
 | [x,.ty T],q =>
  obtain⟨hT,d,h,q⟩:=q
  have go:∀t,TyS X.K H x t->Q (.bl (Bt t T)) H->wpAny (model X.prog X.w) X.A (call (.builtin "isinstance") us) (EP X za Z Q) X.xe s:=fun t ht hq=>by
   obtain⟨u,w',rfl,ru,rw'⟩:=FJ r;cases rw';obtain⟨ht,hn,Hh,k,hh⟩:=Mg I ru ht;exact PySem.W.kia_one k I.kIn hh (Km ht hT) hn fun tk=>⟨.bl (Bt t T),H,I.tok _,rfl,hq⟩
  have hT':=hT;unfold kinds at hT';simp only[Zh,Z9,or_false]at hT';cases d with
  | non =>
   unfold zh at h;subst h;refine Ju za s Z H _ us Q I r ⟨hT,_,rfl,?_⟩;have e:(T == "NoneType")=Bt (tyD .non) T:=by rcases hT' with rfl | rfl | rfl | rfl | rfl | rfl <;> rfl
   rw[e];exact q
  | str z =>
   unfold zh at h;subst h;refine Ju za s Z H _ us Q I r ⟨hT,_,rfl,?_⟩;have e:(T == "str")=Bt (tyD (.str z)) T:=by rcases hT' with rfl | rfl | rfl | rfl | rfl | rfl <;> rfl
   rw[e];exact q
  | bl b=>unfold zh at h;subst h;exact go _ rfl q
  | int i=>unfold zh at h;subst h;exact go _ rfl q
  | tup ds=>unfold zh at h;obtain⟨a,xs,rfl,hs,_⟩:=h;exact go _ (.inl ⟨rfl,xs,hs⟩) q
  | lst ds=>unfold zh at h;obtain⟨a,xs,rfl,hs,_⟩:=h;exact go _ (.inr ⟨rfl,xs,hs⟩) q
theorem Ue{X:Cx}(hK:X.K=K:=by rfl):CallR X (.builtin "isinstance") (NA K):=hK ▸ Fu
theorem KJ:∀bs:List Bool,zf K H (bs.map Dv.bl) (bs.map V.bl)
 | []=>BF
 | b::bs=>Aw Vc (KJ bs)
theorem Dr{ds:List Dv}{v:V}(h:zh K H (.tup ds) v):∃a xs,v=.ref a/\zt K H a xs/\zf K H ds xs:=by unfold zh at h;exact h
theorem EX{p:Addr}{xs:List V}{ds:List Dv}(h:zt K H p xs)(r:zf K H ds xs):zh K H (.tup ds) (.ref p):=by unfold zh;exact⟨p,xs,rfl,h,r⟩
section
variable {X:Cx}{za:List (Addr × Obj)}{Z:St}{H:Hp}{s:Shared}
theorem zg.hold(I:zg X za Z H s)(h:H d=some (.dK zd)):∃o,s.heap.get? d=some o/\zg X za Z (upd H d (.frz o (.dK zd))) s:=by
 obtain⟨hl,hs,vs,r,dd⟩:=(show ObjOk X.prog X.w H s.heap d (.dK zd) from I.hok d _ h);obtain⟨o,es,ep,ho,rest⟩:=id dd;refine⟨o,ho,?_⟩
 have:=I.write (x:=d) (e:=d) (o:=.frz o (.dK zd)) (h':=s.heap) (t':=s.toks) (by rw[h];exact True.intro) (.inl rfl) (fun b u _ q=>q) ⟨o,ho⟩ ⟨ho,hl,hs,vs,r,dd⟩
 exact this
theorem zg.held{o:Obj}(I:zg X za Z H s)(h:H d=some (.frz o (.dK zd))):s.heap.get? d=some o/\(d == sysModules)=false/\zd.length<=sizeLine/\∃vs,KV zd vs/\s.heap.DictOf (BV X.prog X.w) d vs:=by
 obtain⟨ho,hl,hs,vs,r,dd⟩:=(show ObjOk X.prog X.w H s.heap d (.frz o (.dK zd)) from I.hok d _ h);exact⟨ho,hs,hl,vs,r,dd⟩
theorem KV.get{vs:List (Key × Value)}(r:KV zd vs):∀{i:Nat} {q:Key × V},zd[i]? = some q->∃v,vs[i]? = some (q.1,v)/\zi q.2 v:=by
 induction r with
 | nil=>intro i q e;simp at e
 | @cons a b l1 l2 h t ih =>
  intro i q e;cases i with
  | zero =>
   simp at e;subst e;obtain⟨b1,b2⟩:=b;obtain⟨h1,h2⟩:=h;exact⟨b2,by simp;exact h1.symm,h2⟩
  | succ i =>
   obtain⟨v,h1,h2⟩:=ih (i:=i) (q:=q) (by simpa using e);exact⟨v,by simpa using h1,h2⟩
theorem KV.len{vs:List (Key × Value)}(r:KV zd vs):zd.length=vs.length:=Paired.length r
theorem QV{k:Key}{u:Value}(h:Do k u=true):zi (kV k) u:=by
 rcases keyIs_shape h with ⟨i,t,rfl,rfl⟩ | ⟨x,t,rfl,rfl⟩
 ·exact⟨t,rfl⟩
 ·exact⟨t,rfl⟩
end
noncomputable def Itm(d:Addr)(o:Obj):It :=
 ⟨fun i H=>∃zd q,H d=some (.frz o (.dK zd))/\zd[i]? = some q,
  fun i H v H'=>∃p zd q,H d=some (.frz o (.dK zd))/\zd[i]? = some q/\H p=none/\v=.ref p/\H'=upd H p (.tup [kV q.1,q.2]),
  fun i H=>∃zd,H d=some (.frz o (.dK zd))/\zd.length<=i⟩
theorem Ko{P:Program}{w:World}{h:Heap}{o:Obj}{es:Array DictEntry}{ep:Nat}{vs:List (Key × Value)}(ho:h.get? d=some o)(hd:o.data=.dict es ep)(dd:h.DictOf (BV P w) d vs):h.DictAt (BV P w) d vs ep/\es.size=vs.length:=by
 obtain⟨o',es',ep',h1,h2,h3,h4,h5,h6⟩:=dd;rw[ho]at h1;cases h1;rw[hd]at h3;cases h3;exact⟨⟨o,es,ho,h2,hd,h4,h5,h6⟩,by rw[<- h5.length];simp⟩
theorem SW:entryFor table "dict_itemiterator.__iter__" = some Builtin.«dict_keyiterator.__iter__» :=
 entryFor_alias (id':="dict_keyiterator.__iter__") (by kernel_rfl) (by first | rfl | decide +kernel) (by decide +kernel) (by kernel_rfl)
theorem Pp{prog:Program}{w:World}{A:Around}{E:Value->Shared->Prop}{s:Shared}{it:Addr}{i n ep:Nat}{ok ov:Value}{Q:Value->Shared->Prop}(hz:IsItemIter s.heap it d i n ep ok ov)(h:Q (.ref it) s):wpAny (model prog w) A (pyIter (.ref it)) Q E s:=by
 have hT:s.TypeIs (.ref it) "dict_itemiterator":=⟨_,hz,rfl⟩;refine wpAny_pyIter_slot hT F.slot_dict_itemiterator_iter (ZBV F.slot_dict_itemiterator_iter hT SW ?_ (F.args_dict_itemiterator_iter_1 _));show wpAny _ _ (ret (.ref it)) _ _ s;exact Zd ⟨_,rfl,"dict_itemiterator",_,hT,F.slot_dict_itemiterator_next.lookup,h⟩
theorem Vs{P:Program}{w:World}{ts:List Expr}{kt:Nat}{tpos:Pos}{it:Addr}{o:Obj}{es:Array DictEntry}{ep:Nat}(hdat:o.data=.dict es ep) :
 Turn P w K (.Tuple ts kt tpos) (Itm d o) [it] it (fun i h=>∃ok ov,IsItemIter h it d i es.size ep ok ov) where
 mem:=by simp
 obj:=fun i h st b hb=>by
  obtain⟨ok,ov,hz⟩:=st;obtain rfl:b=it:=by simpa using hb
  exact⟨_,hz,fun v q=>nomatch q⟩
 keep:=fun i h h' ⟨ok,ov,hz⟩ k=>⟨ok,ov,k it (by simp) _ hz⟩
 item:=by
  intro X hP hw hK hc i za s Z H E I hf st hg;subst hP hw hK;obtain⟨zd,q,hq1,hx⟩:=hg;obtain⟨ok,ov,hz⟩:=st;obtain⟨ho,hs,hl,vs,rv,dd⟩:=I.held hq1;obtain⟨da,hsz⟩:=Ko ho hdat dd;obtain⟨u,hu,ru⟩:=rv.get hx;rw[hsz]at hz;refine wpAny_pyNext_items_item hz da hu fun key h' z0 z1 z2 z3 z4=>?_
  refine⟨_,rfl,?_⟩;have z4':∀b v,b∉[it]->s.heap.get? b=some v->h'.get? b=some v:=fun b v hb q=>z4 b v (by simpa using hb) q
  have I1:zg X za Z (upd H s.heap.objs.size (.tup [kV q.1,q.2])) { s with heap:=h' }:=by
   refine I.turnedNew (ch:=[it]) (fun b hb=>hf b hb) (Zf _) z4' ?_ fun b hb=>?_
   ·exact⟨smq rfl,[key,u],.cons (QV z0) (.cons ru .nil),⟨_,z2,rfl,⟨_,rfl⟩,rfl⟩⟩
   ·obtain rfl:b=it:=by simpa using hb
    exact⟨_,z1⟩
  refine wpAny_letOwnedTupleGo_items (s:={ s with heap:=h' }) z1 fun h'' z8 z9=>?_
  have hfz:=hf it (by simp)
  have neT:it≠s.heap.objs.size:=fun q=>by
   have:=Zj hz
   rw[q]at this;exact Z2 _ this
  have hTH:∀b∈[it],upd H s.heap.objs.size (.tup [kV q.1,q.2]) b=none:=fun b hb=>by
   obtain rfl:b=it:=by simpa using hb
   rw[AI neT];exact hfz.1
  have I2:zg X za Z (upd H s.heap.objs.size (.tup [kV q.1,q.2])) { s with heap:=h'' } :=
   I1.turned (t':=s.toks) (fun b o hb q=>(z9.2 b hb).trans q) (hTH it (by simp)) hfz.2.1 hfz.2.2.2.1 hfz.2.2.2.2.1 hfz.2.2.2.2.2
  rw[<- hsz]at z8;exact⟨.ref s.heap.objs.size,_,I2,rfl,⟨_,zd,q,hq1,hx,I.hok.fresh (Zf _),rfl,rfl⟩,⟨_,_,z8⟩,hTH⟩
 done:=by
  intro X hP hw hK hc i za s Z H E I hf st hg;subst hP hw hK;obtain⟨zd,hq1,hl⟩:=hg;obtain⟨ok,ov,hz⟩:=st;obtain⟨ho,hs,hl',vs,rv,dd⟩:=I.held hq1;obtain⟨da,hsz⟩:=Ko ho hdat dd;have e1:=rv.len;rw[hsz]at hz;refine wpAny_pyNext_items_end (I.ok.hd hc) hz da (by simp;lia) fun h' z7=>⟨rfl,?_⟩
  obtain⟨f0,f1,f2,f3,f4,f5⟩:=hf it (by simp);exact I.turned (t':=s.toks) (fun b o hb q=>z7 b o hb q) f0 f1 f3 f4 f5
 self:=fun A i s Q E st h=>by
  obtain⟨ok,ov,hz⟩:=st;exact Pp hz h
noncomputable def FN(x:V)(H:Hp)(R:Addr->Obj->Hp->Prop):Prop:=match x with
 | .ref d=>(∃zd,H d=some (.dK zd)/\∀o,R d o (upd H d (.frz o (.dK zd))))\/∃zd o,H d=some (.frz o (.dK zd))/\R d o H
 | _=>False
theorem W7{X:Cx}{za:List (Addr × Obj)}{Z:St}{s:Shared}{x:V}{v:Value}{R:Addr->Obj->Hp->Prop}(I:zg X za Z H s)(r:zi x v)(h:FN x H R) :
 ∃d zd o H2,v=.ref d/\zg X za Z H2 s/\H2 d=some (.frz o (.dK zd))/\R d o H2:=by
 cases x with
 | ref d =>
  cases r
  rcases h with ⟨zd,e,q⟩ | ⟨zd,o,e,q⟩
  ·obtain⟨o,ho,I2⟩:=I.hold e;exact⟨d,zd,o,_,rfl,I2,AD,q o⟩
  ·exact⟨d,zd,o,H,rfl,I,e,q⟩
 | _=>exact False.elim h
noncomputable def Lh(to:TE):TI:=fun Z H R=>to Z H fun x H1=>FN x H1 fun d o H2=>R (Itm d o) H2
section
variable {X:Cx}{K:W.Frag}{tg oe:Expr}{to:TE}{ts:List Expr}{kt:Nat}{tpos apos cpos:Pos}
theorem Hg(ho:PE X oe to)(hbase:attributeBase oe "items" X.env (eval oe X.env)=eval oe X.env:=by rfl)(hline:(apos.endLine == cpos.line)=true:=by rfl) :
 PI X (.Tuple ts kt tpos) (.Call (.Attribute oe "items" apos) [] [] cpos) (Lh to):=by
 intro za s Z H R I h;refine wpAny_Call_method0_late hbase hline (zn (ho za s Z H _ I h) fun v s1 ⟨x,H1,I1,r1,q1⟩=>?_);obtain⟨d,zd,o,H2,rfl,I2,hd2,q⟩:=W7 I1 r1 q1;obtain⟨ho',hs,hl,vs,rv,dd⟩:=I2.held hd2;obtain⟨o',es,ep,e1,e2,e3,_⟩:=id dd;rw[ho']at e1;cases e1;refine⟨"dict","dict.items",PySem.F.plainAttrs_dict,PySem.F.slot_dict_items,PySem.F.type_dict_items,dd.typeIs,fun a ea=>?_,Calls.callWith_builtin rfl (PySem.evalArgs_none ?_)⟩
 ·cases ea;exact⟨o,ho',e2.2.1⟩
 refine call_meetsIn PySem.F.slot_dict_items dd.typeIs PySem.F.entry_dict_items (PySem.F.args_dict_items_1 _) (meets_dict_items (BV X.prog X.w) d hs) ⟨⟨vs,dd⟩,?_⟩;have I3:zg X za Z H2 { s1 with heap:=s1.heap.push { cls:=.type "dict_items",data:=.fields #[.ref d] } }:=I2.kept (t':=s1.toks) fun b u e=>Zi _ e
 have hv:(s1.heap.push { cls:=.type "dict_items",data:=.fields #[.ref d] }).IsItemsView s1.heap.objs.size d:=⟨_,Zr _ rfl,rfl,rfl⟩;obtain⟨ho3,_,_,vs3,rv3,dd3⟩:=I3.held hd2;obtain⟨da,hsz⟩:=Ko ho3 e3 dd3;refine wpAny_pyIter_items (s:={ s1 with heap:=s1.heap.push { cls:=.type "dict_items",data:=.fields #[.ref d] } }) hv da ?_;generalize s1.heap.push { cls:=.type "dict_items",data:=.fields #[.ref d] } = h3 at *;refine⟨h3.objs.size,[h3.objs.size],_,_,H2,rfl,I3.kept (t':=s1.toks) fun b o e=>Zi _ e,Vs e3,⟨.none,.none,?_⟩,fun b hb=>?_,q⟩
 ·rw[hsz];exact Zr _ rfl
 ·obtain rfl:b=h3.objs.size:=by simpa using hb
  exact I3.fpOk (Zf _) (I3.hok.fresh (Zf _))
end
theorem Qq{x:V}{R R':Addr->Obj->Hp->Prop}(k:∀d o H,R d o H->R' d o H)(h:FN x H R):FN x H R':=by
 cases x with
 | ref d =>
  rcases h with ⟨zd,e,q⟩ | ⟨zd,o,e,q⟩
  ·exact .inl ⟨zd,e,fun o=>k _ _ _ (q o)⟩
  ·exact .inr ⟨zd,o,e,k _ _ _ q⟩
 | _=>exact False.elim h
theorem Ps{to:TE}(h:AY to):Ds (Lh to):=fun Z H Q Q' k q=>h _ _ _ _ (fun _ _ q=>Qq (fun _ _ _ q=>k _ _ q) q) q
theorem RO {o:Obj} {g:TG} {tb:TS} {D:Ends} {Z:St} (Pv:Nat->St->Hp->Prop) (h0:Pv 0 Z H) (hl:∀i Z H,i<=zd.length->Pv i Z H->H d=some (.frz o (.dK zd)))
 (hs:∀i q p Z H,zd[i]? = some q->Pv i Z H->H p=none->g (.ref p) Z (upd H p (.tup [kV q.1,q.2])) fun σ2 H2=>tb { D with nx:=Pv (i+1),ct:=Pv (i+1),bk:=D.nx } σ2 H2) (hd:∀Z H,Pv zd.length Z H->D.nx Z H) :
 ∃W:Nat->Nat->St->Hp->Prop,(∃m,W 0 m Z H)/\∀i m Z H,W i m Z H ->
  ((Itm d o).stop i H/\D.nx Z H)\/((Itm d o).go i H/\∃N:St->Hp->Prop,(∀σ' H',N σ' H'->∃m',m' < m/\W (i+1) m' σ' H')/\∀x H',(Itm d o).yld i H x H'->g x Z H' fun σ2 H2=>tb { D with nx:=N,ct:=N,bk:=D.nx } σ2 H2):=by
 refine⟨fun i m Z H=>m=zd.length - i/\i<=zd.length/\Pv i Z H,⟨zd.length,by simp,Zu _,h0⟩,?_⟩;rintro i m Z H ⟨rfl,hi,p⟩;have q:=hl i Z H hi p
 by_cases zm:i < zd.length
 ·refine .inr ⟨⟨zd,zd[i],q,by simp[zm]⟩,Pv (i+1),fun σ' H' p'=>⟨zd.length - (i+1),by lia,rfl,zm,p'⟩,fun x H' y=>?_⟩;obtain⟨pp,kvs',r,e1,e2,e3,rfl,rfl⟩:=y;rw[q]at e1;cases e1;exact hs i r pp Z H e2 p e3
 ·have e:i=zd.length:=by lia
  subst e;exact .inl ⟨⟨zd,q,Zf _⟩,hd Z H p⟩
end L2
namespace L2
open PySem PySem.Spec PyProof.Rows PySem.W
open Att (GK MB VI)
variable {H H':Hp}{Pt:Addr}{K:W.Frag}{ps:Array Value}
noncomputable def CdO(a:Addr)(q:Str):HO:=.ext fun h=>h.CodeRec (.ref a) q
theorem QF{P:Program}{w:World}{h:Heap}{a:Addr}{q:Str}(r:h.CodeRec (.ref a) q):ObjOk P w H h a (CdO a q):=by
 refine⟨r,?_,fun h1 h2 p k=>?_⟩
 ·obtain⟨c,o,vs,t,e,g,_⟩:=r;cases e;exact⟨o,g⟩
 ·obtain⟨c,o,vs,t,e,g,z⟩:=p;cases e;exact⟨_,o,vs,t,rfl,k o g,z⟩
noncomputable def zA(Pt:Addr)(pos:Pos)(q:Str)(H:Hp):Prop :=
 ∃ps:Array Value,H Pt=some (.tbl ps)/\TriplesOk ps.toList/\(codeAmong pos ps.toList=none\/∃c',codeAmong pos ps.toList=some (.ref c')/\H c'=some (CdO c' q))
noncomputable def zx(Pt:Addr)(H H':Hp):Prop:=∀b o,b≠Pt->H b=some o->H' b=some o
theorem zx.refl(Pt:Addr)(H:Hp):zx Pt H H:=fun _ _ _ e=>e
theorem zx.trans{H1 H2:Hp}(a:zx Pt H H1)(b:zx Pt H1 H2):zx Pt H H2:=fun c o n e=>b c o n (a c o n e)
theorem zx.same(h:zc H H'):zx Pt H H':=fun b o _ e=>h b o e
theorem zA.same{pos:Pos}{q:Str}(l:zA Pt pos q H)(h:zc H H'):zA Pt pos q H':=by
 obtain⟨ps,a,b,c⟩:=l;refine⟨ps,h _ _ a,b,?_⟩
 rcases c with c | ⟨c',c,d⟩
 ·exact .inl c
 ·exact .inr ⟨c',c,h _ _ d⟩
theorem GC{a:Addr}{xs:List V}(s:zx Pt H H')(hz:H Pt=some (.tbl ps))(h1:zt K H a xs):zt K H' a xs:=by
 rcases h1 with (h1 | ⟨o,h1⟩) | h1
 ·exact .inl (.inl (s a _ (fun q=>by rw[q,hz]at h1;cases h1) h1))
 ·exact .inl (.inr ⟨o,s a _ (fun q=>by rw[q,hz]at h1;cases h1) h1⟩)
 ·exact .inr h1
theorem SR{a:Addr}{xs:List V}(s:zx Pt H H')(hz:H Pt=some (.tbl ps))(h1:zv K H a xs):zv K H' a xs:=by
 rcases h1 with (h1 | ⟨o,h1⟩) | h1
 ·exact .inl (.inl (s a _ (fun q=>by rw[q,hz]at h1;cases h1) h1))
 ·exact .inl (.inr ⟨o,s a _ (fun q=>by rw[q,hz]at h1;cases h1) h1⟩)
 ·exact .inr h1
mutual
theorem zh.tab(s:zx Pt H H')(hz:H Pt=some (.tbl ps)):∀(d:Dv) (v:V),zh K H d v->zh K H' d v
 | .non,v,h=>by unfold zh at *;exact h
 | .bl b,v,h=>by unfold zh at *;exact h
 | .int i,v,h=>by unfold zh at *;exact h
 | .str x,v,h=>by unfold zh at *;exact h
 | .tup ds,v,h=>by
  unfold zh at *;obtain⟨a,xs,e,h1,h2⟩:=h;exact⟨a,xs,e,GC s hz h1,zf.tab s hz ds xs h2⟩
 | .lst ds,v,h=>by
  unfold zh at *;obtain⟨a,xs,e,h1,h2⟩:=h;exact⟨a,xs,e,SR s hz h1,zf.tab s hz ds xs h2⟩
theorem zf.tab(s:zx Pt H H')(hz:H Pt=some (.tbl ps)):∀(ds:List Dv) (xs:List V),zf K H ds xs->zf K H' ds xs
 | [],xs,h=>by unfold zf at *;exact h
 | d::ds,xs,h=>by
  unfold zf at *;obtain⟨x,r,e,h1,h2⟩:=h;exact⟨x,r,e,zh.tab s hz d x h1,zf.tab s hz ds r h2⟩
end
noncomputable def BMn(mg:Str->Option Value)(h:Heap):Prop:=∃bm ob,mg "__builtins__" = some (.ref bm)/\bm≠builtinsNs/\h.get? bm=some ob/\ob.cls=.type "module" /\ ob.dict=some builtinsNs/\ob.data=.plain
section
variable {X:Cx}{za:List (Addr × Obj)}{Z:List (Option V)}{H:Hp}{s:Shared}{h':Heap}
theorem zg.grow {c':Addr} {more:Array Value} {t':Nat} {q:Str} (I:zg X za Z H s) (hP:H Pt=some (.tbl ps)) (hx:Heap.ExtBut Pt s.heap h') (hP':h'.get? Pt=some (tabObj (ps++more)))
 (hc:s.heap.objs.size<=c') (hr:h'.CodeRec (.ref c') q):zg X za Z (upd (upd H Pt (.tbl (ps++more))) c' (CdO c' q)) { s with heap:=h',toks:=t' }:=by
 have hcn:H c'=none:=I.hok.fresh hc;have hcP:c'≠Pt:=fun z=>by rw[z,hP]at hcn;cases hcn
 have hn:∀b,H b=none->b≠Pt:=fun b e z=>by rw[z,hP]at e;cases e
 have hs:∀b u,H b=some u->b≠c':=fun b u e z=>by rw[z,hcn]at e;cases e
 have up:∀b,b≠c'->b≠Pt->upd (upd H Pt (.tbl (ps++more))) c' (CdO c' q) b=H b:=fun b n1 n2=>by rw[AI n1,AI n2]
 refine I.un ⟨fun b o e n _ _=>hx b o (hn b n) e,fun b o e n _ _=>⟨o.slots,hx b o (hn b n) e⟩,fun b o e n _=>?_,fun b o e _=>?_,fun b xs e=>?_,fun b o u e=>?_,fun b qs e=>?_⟩ fun b u e=>?_
 ·rw[up b (Zs (Z0 (Zj e) hc)) (hn b n)];exact n
 ·by_cases z:b=Pt
  ·subst z;exact⟨_,hP'⟩
  ·exact⟨o,hx b o z e⟩
 ·have z:b≠Pt:=fun z=>by rw[z,hP]at e;cases e
  rw[up b (hs b _ e) z];exact e
 ·have z:b≠Pt:=fun z=>by rw[z,hP]at e;cases e
  rw[up b (hs b _ e) z];exact e
 ·by_cases z:b=Pt
  ·subst z;rw[hP]at e;cases e;exact⟨more,by rw[AI (Ne.symm hcP),AD]⟩
  ·exact⟨#[],by rw[up b (hs b _ e) z,e];simp⟩
 ·by_cases z:b=c'
  ·subst z;rw[AD]at e;cases e;exact QF hr
  ·rw[AI z]at e
   by_cases y:b=Pt
   ·subst y;rw[AD]at e;cases e;exact hP'
   ·rw[AI y]at e;refine(I.hok b u e).stay (fun c v hc' r=>hx c v ?_ r) (fun c r=>?_) fun c xs r=>?_
    ·rcases hc' with k | k
     ·rw[k];exact y
     ·rintro rfl;rw[hP]at k;cases k
    ·rw[up c (hs c _ r) (fun k=>by rw[k,hP]at r;cases r)];exact r
    ·rw[up c (hs c _ r) (fun k=>by rw[k,hP]at r;cases r)];exact r
end
theorem WX {P:Program} {w:World} {mg mb:Str->Option Value} {CX:CXT} {k:Nat} {fa a:Addr} {fd:FuncData} {x:Str} {sp:Sp} {s₁:Shared} {vs:List Value} {ns:List Int} {ts:List (Addr × Addr)}
 (KX:K.In s₁.heap) (hns:s₁.heap.Ns mainGlobals mg) (hb:s₁.heap.Ns builtinsNs mb) (hbb:∀x:Str,x ≠ "__name__" -> mb x=bootBuiltins x) (hlim:s₁.heap.NoLimit) (hg:s₁.gens = #[])
 (ha:s₁.heap.get? a=some { cls:=.type "list",data:=.seq vs.toArray }) (hi:IntsAre vs ns) (hl:ns.length<=sizeLine) (hr:Room k callerA) (hbm:BMn mg s₁.heap) (hT:TabsAt ts s₁.heap) (hnt:noTabs K=true)
 (F:∀base:Heap,K.In base->base.Ns mainGlobals mg->BMn mg base->FnOk P w K mg base CX k fa fd [x] sp) (hbind:∀(s:Shared) (u:Value),BindsTo s fd ⟨[u],[]⟩ [(x,u)])
 (hsp:∀H:Hp,(∀q∈ts,H q.2=some (.tbl #[]))->zv K H a (ns.map V.int)->sp [.ref a] H (fun v _=>v=.bl true) fun _ _ _=>False)
 (hCX:∀H e s',CX [] H s₁ (fun _ _ _=>False) e s'->False) :
 codeAny (model P w) callerA (.call (.ref fa) ⟨[.ref a],[]⟩) (fun r s'=>r=.ok (.ret (.bool true))/\OldK s₁.heap s'.heap/\s'.os=s₁.os/\AllBare s'.gens) s₁:=by
 have rv:=Lx hi;have lenV:=hi.length
 have tabK:∀b,b∈ts.map (·.2)->K.lookup b=none:=fun b hb'=>by
  obtain⟨q,hq,rfl⟩:=Zk.mp hb';cases e:K.lookup q.2 with
  | none=>rfl
  | some o =>
   have e1:=KX _ _ e;rw[(hT q hq).2]at e1;cases e1;have h2:=ZBW.mp hnt (q.2,tabObj #[]) (mem_of_lookupK e);exact absurd (show false=true from h2) ZBF
 have tabO:∀b,b∈ts.map (·.2)->s₁.heap.get? b=some (tabObj #[]):=fun b hb'=>by
  obtain⟨q,hq,rfl⟩:=Zk.mp hb';exact(hT q hq).2
 have core:∀H:Hp,(∀b,H b=none\/(∃o xs,H b=some (.frz o (.lst xs)))\/(b∈ts.map (·.2)/\H b=some (.tbl #[])))->(∀q∈ts,H q.2=some (.tbl #[]))->zv K H a (ns.map V.int)->HOk P w H s₁.heap->(∀b,H b≠none->b=a\/b∈ts.map (·.2))->(H a≠none->K.lookup a=none) ->
  codeAny (model P w) callerA (.call (.ref fa) ⟨[.ref a],[]⟩) (fun r s'=>r=.ok (.ret (.bool true))/\OldK s₁.heap s'.heap/\s'.os=s₁.os/\AllBare s'.gens) s₁:=by
  intro H hO hTs hS hok hA hK;have base_of:∀{b:Addr} {o:Obj},s₁.heap.get? b=some o->H b=none->(CQ s₁.heap H).get? b=some o:=fun e n=>No e n
  have noA:∀{b:Addr} {o:Obj},s₁.heap.get? b=some o->(∀as n,o.data≠.seq as n)->(∀as,o.data≠.fields as)->H b=none:=fun {b o} e d d2=>by
   cases q:H b with
   | none=>rfl
   | some u =>
    rcases hA b (by rw[q];simp) with e' | e'
    ·subst e';rw[ha]at e;cases e;exact absurd rfl (d _ _)
    ·rw[tabO b e']at e;cases e;exact absurd rfl (d2 _)
  have nsK:∀{b:Addr} {m:Str->Option Value},s₁.heap.Ns b m->(CQ s₁.heap H).Ns b m:=fun {b m} ⟨o,es,ep,e,d,r⟩=>⟨o,es,ep,base_of e (noA e (fun _ _=>by rw[d];simp) (fun _=>by rw[d];simp)),d,r⟩
  have hKb:K.In (CQ s₁.heap H):=fun b o e=>base_of (KX b o e) (by
   cases q:H b with
   | none=>rfl
   | some u =>
    rcases hA b (by rw[q];simp) with e' | e'
    ·subst e';rw[hK (by rw[q];simp)]at e;cases e
    ·rw[tabK b e']at e;cases e)
  have hM:Mod K mg (CQ s₁.heap H):=⟨hKb,nsK hns,⟨mb,nsK hb,hbb⟩,let ⟨mc,h1,h2⟩:=hlim;⟨mc,nsK h1,h2⟩⟩
  have hBb:BMn mg (CQ s₁.heap H):=by
   obtain⟨bm,ob,b1,b2,b3,b4,b5,b6⟩:=hbm;exact⟨bm,ob,b1,b2,base_of b3 (noA b3 (fun _ _=>by rw[b6];simp) (fun _=>by rw[b6];simp)),b4,b5,b6⟩
  have e0:Env0 P w K mg (CQ s₁.heap H) callerA [] s₁ H:=⟨rfl,hM,fun b o e=>Nr e,ZB9 (Oa _ _),trivial,fun b hb=>absurd (show b∈([]:List Addr) from hb) (by simp),hok,.of_eq hg⟩;refine ZBm ((F _ hKb (nsK hns) hBb).run callerA [] s₁ H ⟨[.ref a],[]⟩ [.ref a] [.ref a] _ _ hr e0 (hbind s₁ (.ref a)) (.cons rfl .nil) (hsp H hTs hS)) fun r s' h=>?_
  cases r with
  | error e=>exact(hCX H e s' h).elim
  | ok fl =>
   cases fl with
   | next=>exact False.elim h
   | brk=>exact False.elim h
   | cont=>exact False.elim h
   | ret u =>
    obtain⟨v,H',os,bare,un,hok',r',q⟩:=h;have q':v=.bl true:=q;subst q';obtain rfl:u=Value.bool true:=r'
    have kk:∀b o,s₁.heap.get? b=some o->b∉ts.map (·.2)->s'.heap.get? b=some o:=fun b o e nb=>by
     cases q:H b with
     | none=>exact un.keep b o e q (by intro z;exact absurd (show b∈([]:List Addr) from z) (by simp)) (by simp)
     | some u =>
      rcases hO b with z | ⟨ob,xs,z⟩ | ⟨z,_⟩
      ·rw[q]at z;cases z
      ·have z2:=un.frzs b ob _ z;obtain⟨e1,_⟩:=hok b _ z;obtain⟨e2,_⟩:=hok' b _ z2;rw[e]at e1;cases e1;exact e2
      ·exact absurd z nb
    have tt:∀b,b∈ts.map (·.2)->∃more,s'.heap.get? b=some (tabObj more):=fun b hb'=>by
     obtain⟨q,hq,rfl⟩:=Zk.mp hb';obtain⟨more,e⟩:=un.tbls _ _ (hTs q hq);exact⟨_,hok' _ _ e⟩
    refine⟨rfl,⟨fun b o e=>?_,fun b o e=>?_⟩,os,bare⟩
    ·by_cases z:b∈ts.map (·.2)
     ·obtain⟨more,e2⟩:=tt b z;have e3:=tabO b z;rw[e]at e3;cases e3;obtain⟨q,hq,rfl⟩:=Zk.mp z;refine .inr (.inl ⟨((hT q hq).1.tab (hT q hq).2).isCodeTable,rfl,#[],more,rfl,by rw[e2];simp⟩)
     ·exact .inl (kk b o e z)
    ·by_cases z:b∈ts.map (·.2)
     ·obtain⟨more,e2⟩:=tt b z;exact⟨_,e2⟩
     ·exact⟨o,kk b o e z⟩
 have aT:a∉ts.map (·.2):=fun z=>by
  have e:=tabO a z;rw[ha]at e;cases e
 have tm:∀q∈ts,q.2∈ts.map (·.2):=fun q hq=>List.mem_map_of_mem hq
 cases hk:K.lookup a with
 | some o =>
  have e:=KX a o hk;rw[ha]at e;cases e;refine core (fun b=>if b∈ts.map (·.2) then some (.tbl #[]) else none) (fun b=>?_) (fun q hq=>if_pos (tm q hq)) (.inr ⟨_,vs.toArray,_,hk,rfl,rfl,rfl,by rw[Zo,lenV];exact hl,by simpa using rv⟩) (fun b u z=>?_) (fun b z=>?_) fun z=>absurd (if_neg aT) z
  ·by_cases z:b∈ts.map (·.2)
   ·exact .inr (.inr ⟨z,if_pos z⟩)
   ·exact .inl (if_neg z)
  ·by_cases y:b∈ts.map (·.2)
   ·have z':=(if_pos y).symm.trans z;cases z';exact tabO b y
   ·have z':=(if_neg y).symm.trans z;cases z'
  ·by_cases y:b∈ts.map (·.2)
   ·exact .inr y
   ·exact absurd (if_neg y) z
 | none =>
  refine core (fun b=>if b=a then some (.frz { cls:=.type "list",data:=.seq vs.toArray } (.lst (ns.map V.int))) else if b∈ts.map (·.2) then some (.tbl #[]) else none) (fun b=>?_) (fun q hq=>?_) (.inl (.inr ⟨{ cls:=.type "list",data:=.seq vs.toArray },if_pos rfl⟩)) (fun b u z=>?_) (fun b z=>?_) fun _=>hk
  ·by_cases hb:b=a
   ·exact .inr (.inl ⟨_,_,if_pos hb⟩)
   ·by_cases y:b∈ts.map (·.2)
    ·exact .inr (.inr ⟨y,(if_neg hb).trans (if_pos y)⟩)
    ·exact .inl ((if_neg hb).trans (if_neg y))
  ·have hb:q.2≠a:=fun z=>aT (z ▸ tm q hq)
   exact(if_neg hb).trans (if_pos (tm q hq))
  ·by_cases hb:b=a
   ·have z':=(if_pos hb).symm.trans z;cases z';subst hb;exact⟨ha,by rw[Ze];exact hl,vs,_,rv,ha⟩
   ·by_cases y:b∈ts.map (·.2)
    ·have z':=((if_neg hb).trans (if_pos y)).symm.trans z;cases z';exact tabO b y
    ·have z':=((if_neg hb).trans (if_neg y)).symm.trans z;cases z'
  ·by_cases hb:b=a
   ·exact .inl hb
   ·by_cases y:b∈ts.map (·.2)
    ·exact .inr y
    ·exact absurd ((if_neg hb).trans (if_neg y)) z
theorem walk_ofT {l:PySem.W.OpenLaw} {n k:Nat} {q:Program} {loose:List Str} {XP:(Str->Option Value)->Heap->Prop} {YP:World->Heap->Prop} {d:DefRec} {K:Params->W.Frag} {sp:World->List Addr->Sp} {x:Str}
 (hn:l.most=some n) (hn2:n<=sizeLine) (hdf:d.params.defaults=[]) (hr:Room k callerA)
 (hY:∀(w:World) (h:Heap),YP w h->(K w.params).In h)
 (F:∀(w:World) (mg:Str->Option Value) (fa:Addr) (h:Heap),YP w h->(K w.params).In h->h.Ns mainGlobals mg->mg d.name=some (.ref fa) ->
   ∃(fd:FuncData) (ts:List (Addr × Addr)),TabsAt ts h/\noTabs (K w.params)=true/\(∀(s:Shared) (u:Value),BindsTo s fd ⟨[u],[]⟩ [(x,u)]) /\
    ∀base:Heap,(K w.params).In base->base.Ns mainGlobals mg->BMn mg base->FnOk l.prog w (K w.params) mg base CX0 k fa fd [x] (sp w (ts.map (·.2))))
 (hsp:∀(w:World) (H:Hp) (a:Addr) (ns:List Int) (ts:List Addr),ns.length<=n->(∀Pt∈ts,H Pt=some (.tbl #[]))->zv (K w.params) H a (ns.map V.int)->sp w ts [.ref a] H (fun v _=>v=.bl true) fun _ _ _=>False) :
 PySem.W.WalkO q loose XP YP l.row.toRowW d [] (fun f vs=>PySem.call f vs):=by
 refine Att.attach_call hn hdf fun w s₀ s₁ mg mb fa o pm cd doc a vs ns G Y ho hd hcd hmg hobj hints zk hg=>?_
 have KX:=hY w _ Y;obtain⟨fd,ts,hT,hnt,hb,hF⟩:=F w mg fa _ Y KX G.T.g hmg
 exact WX KX G.T.g G.T.b G.T.builtins G.T.nolimit hg hobj hints (ZBU zk hn2) hr G.T.bmain hT hnt hF hb (fun H hO hS=>hsp w H a ns _ zk (fun Pt hP=>by
  obtain⟨q,hq,rfl⟩:=Zk.mp hP;exact hO q hq) hS) fun H e s' z=>z
theorem Fun.okC {P:Program} {w:World} {mg:Str->Option Value} {base:Heap} {x qual:Str} {st:Stmt} {f c:Addr} {fd:FuncData} {N ps:List Str} {k:Nat} {sp:Sp} (F:Fun K x qual st f fd) (hc:fd.code=.ref c) (S:FnScope N ps (AJ st)) (len:∀vs H Q E,sp vs H Q E->vs.length=ps.length)
 (hbody:∀(A:Around) (outer:List Env) (s:Shared) (H:Hp) (vs:List V) (Q:VK) (E:XK),Room k (A.deeper (envOfC qual (AJ st) s.heap.objs.size f (.ref c)))->sp vs H Q E ->
   ∃t,PSs (Dn CX0 P w K mg base N qual (AJ st) f (.ref c) A outer s H E).nox (Bc st) t/\t { nx:=fun _ H'=>Q .non H',rt:=Q } (DA N vs) H):FnOk P w K mg base CX0 (k+1) f fd ps sp:=by
 obtain⟨oc,od,kV,doc,pm,an,zB,ct,osl,rfl,lk,hcd⟩:=F.ex;cases hc;refine Pb lk hcd S len fun A outer s H vs Q E hr hsp=>?_
 obtain⟨t,h,q⟩:=hbody A outer s H vs Q E hr hsp;exact⟨t,h.nox,q⟩
end L2
namespace L2
open PySem
noncomputable def HC(K:W.Frag)(ts:List Addr):Sp:=fun vs H Q _=>∃(a:Addr) (ns:List Int),vs=[.ref a]/\zv K H a (ns.map V.int)/\ns.length<=63/\(∀Pt∈ts,H Pt=some (.tbl #[]))/\∀H',Q (.bl true) H'
theorem O7{Pt:Addr}{pos:Pos}{q:Str}{H:Hp}(h:H Pt=some (.tbl #[])):zA Pt pos q H:=⟨#[],h,trivial,.inl rfl⟩
end L2
namespace L2
open PySem PySem.Spec PyProof.Rows
section
variable {X:Cx}{K:W.Frag}
noncomputable def OM(K:W.Frag):List V->Hp->VK->Prop:=fun xs H Q=>match xs with
 | [.ref l]=>∃bs:List Bool,zv K H l (bs.map V.bl)/\Q (.bl (bs.any id)) H
 | _=>False
theorem SS(hc:X.calm=true):CallR X (.builtin "any") (OM X.K):=by
 intro za s Z H xs us Q I r q
 match xs,q with
 | [.ref l],q =>
 obtain⟨bs,hl,q⟩:=q;obtain⟨u,rfl,ru⟩:=BO r;cases ru;obtain⟨ze,rv,pl,hz⟩:=I.list hl;have zk:=rv.length;rw[Ze]at zk;obtain⟨o1,n1,g1,_⟩:=id pl;have zm:=Zj g1;refine call_any_walk (wpAny_pyIter_list pl.isList ?_);have zz:l≠s.heap.objs.size:=Zs zm;refine⟨_,_,_,_,_,_,fun i=>bs.getD i false,rfl,Walks.list (A:=X.A.in1) (I.ok.hd hc) s.heap.objs.size l zz ze.toArray,?_,?_,fun h' tk hk=>?_⟩
 ·exact⟨⟨_,Zr _ rfl,rfl,rfl⟩,(show s.heap.IsList l ze.toArray from pl.isList).at fun o e=>Zi _ e⟩
 ·intro i v s' Q' E' hv hq;have hv:ze.toArray[i]? = some v:=hv
  have hi:i < ze.length:=by
   have:=(Array.getElem?_eq_some_iff.mp hv).1
   simpa using this
  have hb:(bs.map V.bl)[i]? = some (.bl bs[i]):=by rw[Zm,Zg (by lia)];rfl
  obtain⟨w',q1,q2⟩:=rv.get hb;have e:v=w':=by simp at hv;rw[q1]at hv;exact(Zv hv).symm
  subst e;cases q2;refine ZBl ?_;have e2:bs.getD i false=bs[i]:=by rw[Zw,Zg (by lia)];rfl
  have hq:Q' (bs.getD i false) s':=hq;rw[e2]at hq;exact hq
 ·refine⟨.bl _,H,I.kept (fun b o e=>hk b o ?_ (Zi _ e)),rfl,?_⟩
  ·simp only[Zq];exact Zs (Zj e)
  ·have e:(List.range ze.toArray.size).any (fun i=>bs.getD i false)=bs.any id:=by
    rw[Zo,<- zk];rw[ZBi,ZBe,ZBe];constructor
    ·rintro⟨i,hi,e⟩;have hi':=Z1.mp hi;rw[Zw,Zg hi']at e;exact⟨_,ZBK hi',e⟩
    ·rintro⟨b,hb,e⟩;obtain⟨i,hi,rfl⟩:=List.mem_iff_getElem.mp hb;refine⟨i,Z1.mpr hi,?_⟩;rw[Zw,Zg hi];exact e
   rw[e];exact q
theorem Yd(hc:X.calm=true)(hK:X.K=K:=by rfl):CallR X (.builtin "any") (OM K):=hK ▸ SS hc
end
end L2
namespace L2
theorem on1{α:Type}{P:List α->Prop}(h:∀a,P [a]):∀us:List α,us.length=1->P us
 | [a],_=>h a
theorem on2{α:Type}{P:List α->Prop}(h:∀a b,P [a,b]):∀us:List α,us.length=2->P us
 | [a,b],_=>h a b
theorem on3{α:Type}{P:List α->Prop}(h:∀a b c,P [a,b,c]):∀us:List α,us.length=3->P us
 | [a,b,c],_=>h a b c
theorem on4{α:Type}{P:List α->Prop}(h:∀a b c d,P [a,b,c,d]):∀us:List α,us.length=4->P us
 | [a,b,c,d],_=>h a b c d
open PySem in
theorem Zb{xs es:List PySem.Expr}{p:Pos}{env:Env}:starEach (.List xs p::es) env=(false,eval (.List xs p) env)::starEach es env:=by rfl
end L2
namespace L2
open PySem PyProof.Rows
theorem Pg:∀{ns:List Int} {us:List Value},IntsAre us ns->zj (ns.map V.int) us:=by
 intro ns us h
 induction h with
 | nil=>exact .nil
 | cons _ _ _ ih=>exact .cons ⟨_,rfl⟩ ih
theorem N0:∀(n i:Nat) (us:List Value),us.length=n->(∀(j:Nat) (v:Value),us[j]? = some v->∃t,v=Value.int (((i+j:Nat):Int)) t)->zj ((List.range' i n).map fun(k:Nat)=>V.int (k:Int)) us
 | 0,i,[],_,_=>.nil
 | 0,i,_::_,h,_=>by cases h
 | n+1,i,[],h,_=>by cases h
 | n+1,i,u::us,h,hu=>by
  obtain⟨t,e⟩:=hu 0 u rfl;have r:zi (V.int ((i:Nat):Int)) u:=⟨t,by rw[e];rfl⟩;rw[List.range'_succ,Z5];refine .cons r (N0 n (i+1) us (by simpa using h) fun j v hj=>?_);obtain⟨t,e⟩:=hu (j+1) v (by simpa using hj);exact⟨t,by rw[e];congr 1;lia⟩
end L2
namespace HT
open PySem PyProof.Rows
section
variable {prog:Program}{w:World}{A:Around}{E:Value->Shared->Prop}{s:Shared}
theorem getItem_tuple_whole {t sl:Addr} {items:Array Value} {vl vu:Value} {lo hi:Option Int} {Q:Value->Shared->Prop} (ht:IsTup s.heap t items) (hs:s.heap.IsSliceOf sl vl vu .none) (pl:IsPart vl lo) (pu:IsPart vu hi)
 (hw:sIx items.size 0 lo=0/\sIx items.size items.size hi=items.size)
 (h:Q (.ref t) s):wpAny (model prog w) A (getItem (.ref t) (.ref sl)) Q E s:=by
 obtain⟨os,hos,hcs,hds⟩:=id hs;have hTs:s.TypeIs (.ref sl) "slice":=⟨os,hos,hcs⟩;unfold getItem
 try with_reducible refine ZBA ?_
 first | refine Zc (Zd ?_) | skip
 refine Zc (wpAny_sequenceKey ht.typeIs (by decide) ?_)
 refine Zc (wpAny_callSpecial?_slot (name:=Str.ofString "__getitem__") ht.typeIs PyProof.Rows.slot_tuple_getitem
  (ZBV PyProof.Rows.slot_tuple_getitem ht.typeIs entry_tuple_getitem ?_ (args_tuple_getitem _ _)))
 show wpAny _ _ (Builtin.Tuple.tupleItemsOf (.ref t) >>= _) _ _ s;refine Zc (tupleItemsOf_ ht ?_);refine Zc (wpAny_typeOf hTs ?_);rw[if_pos (by decide)];refine Zc (Mz hs pl pu ?_);rw[hw.1,hw.2];show wpAny _ _ (if (((0:Nat):Int) == 0 && (1:Int) == 1 && (items.size - 0) == items.size)=true then _ else _) _ _ s;have hyes:(((0:Nat):Int) == 0 && (1:Int) == 1 && (items.size - 0) == items.size)=true:=by simp
 rw[if_pos hyes];unfold Builtin.Tuple.tupleIsExact;refine Zc (Zc (wpAny_typeOf ht.typeIs (Zd ?_)));rw[if_pos (by decide)];refine Zc (wpAny_rule ?_)
 first
  | exact Zc (Zd ⟨_,rfl,Zd h⟩)
  | exact Zd ⟨_,rfl,Zd h⟩
  | exact Zc (Zd (Zd ⟨_,rfl,Zd h⟩))
  | exact Zc (Zc (Zd (Zd ⟨_,rfl,Zd h⟩)))
end
end HT
namespace L2
open PySem PySem.Spec PyProof.Rows
section
variable {X:Cx}{K:W.Frag}{e sx:Expr}{te ts:TE}{lo hi:Option Expr}{tl th:TO}{pos p2:Pos}
noncomputable def PU(K:W.Frag):V->Option Int->Option Int->Hp->VK->Prop:=fun x lo hi H Q=>match x with
 | .ref a=>∃xs,zt K H a xs/\∀p H',zc H H'->zt K H' p (Dd xs lo hi)->Q (.ref p) H'
 | _=>False
theorem Pl:SlR X (PU X.K):=by
 intro za s Z H x v vl vu lo hi sl Q I rx hs pl pu q;cases x with
 | ref a =>
  obtain⟨xs,hx,q⟩:=q
  by_cases hw:HT.sIx xs.length 0 lo=0/\HT.sIx xs.length xs.length hi=xs.length
  ·cases rx;obtain⟨ze,r,ht,hz⟩:=I.tuple hx;have zk:ze.toArray.size=xs.length:=by rw[Zo];exact r.length.symm
   refine⟨"tuple",_,PyProof.Rows.slot_tuple_getitem.lookup,ht.typeIs,?_⟩;refine HT.getItem_tuple_whole ht hs pl pu (by rw[zk];exact hw) ⟨.ref a,H,I,rfl,q a H (fun _ _ h=>h) ?_⟩
   have:Dd xs lo hi=xs:=by
    unfold Dd;rw[hw.1,hw.2,List.drop_zero,ZBo (by lia)]
   rw[this];exact hx
  ·exact P9 za s Z H _ v vl vu lo hi sl Q I rx hs pl pu ⟨a,xs,rfl,hx,hw,fun p hp=>q p _ (zc.upd hp) (.of AD)⟩
 | _=>exact False.elim q
theorem Rs(he:PE X e te)(hl:PO X lo tl)(hu:PO X hi th)(hK:X.K=K:=by rfl):PE X (.Subscript e (.Slice lo hi none p2) pos) (tSl (PU K) te tl th):=hK ▸ Y6 Pl he hl hu
end
section
variable {X:Cx}{K:W.Frag}
noncomputable def Gn(K:W.Frag):List V->Hp->VK->Prop:=fun xs H Q=>match xs with
 | [.ref l]=>∃ns:List Int,zv K H l (ns.map V.int)/\0 < ns.length/\∀M,M∈ns->(∀a∈ns,M<=a)->Q (.int M) H
 | _=>False
theorem ZJ(hc:X.calm=true):CallR X (.builtin "min") (Gn X.K):=by
 intro za s Z H xs us Q I r q
 match xs,q with
 | [.ref l],q =>
 obtain⟨ns,hl,zz,q⟩:=q;obtain⟨u,rfl,ru⟩:=BO r;cases ru;obtain⟨ze,rv,pl,hz⟩:=I.list hl;have hi:IntsAre ze ns:=by simpa using EV rv
 obtain⟨zs,hzs⟩:=(hi.allInts).items;have pl':=pl.isList;rw[hzs]at pl'
 have hns:ns=zs.toList.map (·.1):=by
  rw[<- hi.numsOf,<- nums_intItems,<- hzs]
 have hsz:0 < zs.size:=by
  rw[hns,Ze,Z8]at zz;exact zz
 refine min_intList (I.ok.hd hc) pl' hsz fun v h' tk hv hk=>?_
 obtain⟨t,rfl⟩:=intItems_at hv;obtain⟨h1,h2⟩:=argBest_lt (numAt zs) (zs.size - 1);refine⟨.int _,H,I.kept hk,⟨t,rfl⟩,q _ ?_ fun a ha=>?_⟩
 ·rw[hns,numAt_eq];exact getD_mem (by rw[Ze,Z8];lia)
 ·rw[hns]at ha;obtain⟨j,hj,rfl⟩:=mem_getD ha;rw[Ze,Z8]at hj;rw[<- numAt_eq];exact h2 j (by lia)
theorem PQ(hc:X.calm=true)(hK:X.K=K:=by rfl):CallR X (.builtin "min") (Gn K):=hK ▸ ZJ hc
theorem RC:CV (Gn K):=fun xs H Q Q' h q=>by
 unfold Gn at *;split at q
 ·obtain⟨ns,a,b,q⟩:=q;exact⟨ns,a,b,fun M x y=>h _ _ (q M x y)⟩
 ·exact q.elim
end
section
variable {X:Cx}{K:W.Frag}
noncomputable def HG(K:W.Frag):List V->Hp->VK->Prop:=fun xs H Q=>match xs with
 | [.ref l]=>∃ns:List Int,zv K H l (ns.map V.int)/\0 < ns.length/\∀M,M∈ns->(∀a∈ns,a<=M)->Q (.int M) H
 | _=>False
theorem XI(hc:X.calm=true):CallR X (.builtin "max") (HG X.K):=by
 intro za s Z H xs us Q I r q
 match xs,q with
 | [.ref l],q =>
 obtain⟨ns,hl,zz,q⟩:=q;obtain⟨u,rfl,ru⟩:=BO r;cases ru;obtain⟨ze,rv,pl,hz⟩:=I.list hl;have hi:IntsAre ze ns:=by simpa using EV rv
 obtain⟨zs,hzs⟩:=(hi.allInts).items;have pl':=pl.isList;rw[hzs]at pl'
 have hns:ns=zs.toList.map (·.1):=by
  rw[<- hi.numsOf,<- nums_intItems,<- hzs]
 have hsz:0 < zs.size:=by
  rw[hns,Ze,Z8]at zz;exact zz
 refine max_intList (I.ok.hd hc) pl' hsz fun v h' tk hv hk=>?_
 obtain⟨t,rfl⟩:=intItems_at hv;obtain⟨h1,h2⟩:=argBest_gt (numAt zs) (zs.size - 1);refine⟨.int _,H,I.kept hk,⟨t,rfl⟩,q _ ?_ fun a ha=>?_⟩
 ·rw[hns,numAt_eq];exact getD_mem (by rw[Ze,Z8];lia)
 ·rw[hns]at ha;obtain⟨j,hj,rfl⟩:=mem_getD ha;rw[Ze,Z8]at hj;rw[<- numAt_eq];exact h2 j (by lia)
theorem La(hc:X.calm=true)(hK:X.K=K:=by rfl):CallR X (.builtin "max") (HG K):=hK ▸ XI hc
theorem Sq:CV (HG K):=fun xs H Q Q' h q=>by
 unfold HG at *;split at q
 ·obtain⟨ns,a,b,q⟩:=q;exact⟨ns,a,b,fun M x y=>h _ _ (q M x y)⟩
 ·exact q.elim
end
open Classical in
noncomputable def ZZ(K:W.Frag)(H:Hp)(u:Value):Dv:=if h:∃d x,zi x u/\zh K H d x then h.choose else .non
inductive Dw where
 | non | bl (b:Bool) | int (i:Int) | str (x:Str) | tup (ds:List Dw) | lst (ds:List Dw) | emp
noncomputable def N7(a:Addr)(xs:List V):Heap->Prop:=fun h=>a≠sysModules/\∃(ze:List Value) (n:Nat),zj xs ze/\h.get? a=some { cls:=.type "list",data:=.seq ze.toArray n }
mutual
noncomputable def zr(K:W.Frag)(H:Hp):Dw->V->Prop
 | .non,v=>v=.non
 | .bl b,v=>v=.bl b
 | .int i,v=>v=.int i
 | .str x,v=>v=.str x
 | .tup ds,v=>∃a xs,v=.ref a/\zt K H a xs/\zo K H ds xs
 | .lst ds,v=>∃a xs,v=.ref a/\H a=some (.ext (N7 a xs))/\zo K H ds xs
 | .emp,v=>∃a,v=.ref a/\H a=some (.dK [])
noncomputable def zo(K:W.Frag)(H:Hp):List Dw->List V->Prop
 | [],xs=>xs=[]
 | d::ds,xs=>∃x r,xs=x::r/\zr K H d x/\zo K H ds r
end
theorem zo.length{K:W.Frag}{H:Hp}:∀{ds:List Dw} {xs:List V},zo K H ds xs->ds.length=xs.length
 | [],xs,h=>by unfold zo at h;subst h;rfl
 | d::ds,xs,h=>by
  unfold zo at h;obtain⟨x,r,rfl,_,h⟩:=h;rw[ZBN,ZBN,zo.length h]
theorem zo.get{K:W.Frag}{H:Hp}:∀{ds:List Dw} {xs:List V} {i:Nat} {d:Dw},zo K H ds xs->ds[i]? = some d->∃x,xs[i]? = some x/\zr K H d x
 | [],_,_,_,_,e=>by simp at e
 | d::ds,xs,0,_,h,e=>by
  unfold zo at h;obtain⟨x,r,rfl,h1,_⟩:=h;simp at e;subst e;exact⟨x,rfl,h1⟩
 | d::ds,xs,i+1,_,h,e=>by
  unfold zo at h;obtain⟨x,r,rfl,_,h⟩:=h;obtain⟨y,h1,h2⟩:=zo.get (i:=i) h (by simpa using e);exact⟨y,by simpa using h1,h2⟩
theorem Dc{K:W.Frag}{H:Hp}{ds:List Dw}{v:V}(h:zr K H (.tup ds) v):∃a xs,v=.ref a/\zt K H a xs/\zo K H ds xs:=by unfold zr at h;exact h
mutual
theorem zr.same{K:W.Frag}{H H':Hp}(s:zc H H'):∀(d:Dw) (v:V),zr K H d v->zr K H' d v
 | .non,v,h=>by unfold zr at *;exact h
 | .bl b,v,h=>by unfold zr at *;exact h
 | .int i,v,h=>by unfold zr at *;exact h
 | .str x,v,h=>by unfold zr at *;exact h
 | .emp,v,h=>by unfold zr at *;obtain⟨a,e,h⟩:=h;exact⟨a,e,s _ _ h⟩
 | .tup ds,v,h=>by
  unfold zr at *;obtain⟨a,xs,e,h1,h2⟩:=h;exact⟨a,xs,e,Js h1 s,zo.same s ds xs h2⟩
 | .lst ds,v,h=>by
  unfold zr at *;obtain⟨a,xs,e,h1,h2⟩:=h;exact⟨a,xs,e,s _ _ h1,zo.same s ds xs h2⟩
theorem zo.same{K:W.Frag}{H H':Hp}(s:zc H H'):∀(ds:List Dw) (xs:List V),zo K H ds xs->zo K H' ds xs
 | [],xs,h=>by unfold zo at *;exact h
 | d::ds,xs,h=>by
  unfold zo at *;obtain⟨x,r,e,h1,h2⟩:=h;exact⟨x,r,e,zr.same s d x h1,zo.same s ds r h2⟩
end
mutual
noncomputable def upW:Dv->Dw
 | .non=>.non
 | .bl b=>.bl b
 | .int i=>.int i
 | .str x=>.str x
 | .tup ds=>.tup (CT ds)
 | .lst ds=>.lst (CT ds)
noncomputable def CT:List Dv->List Dw
 | []=>[]
 | d::ds=>upW d::CT ds
end
mutual
theorem JD{K:W.Frag}{H:Hp}:∀(d:Dv) (v:V),BS d=true->zh K H d v->zr K H (upW d) v
 | .non,v,_,h=>by unfold upW zr;unfold zh at h;exact h
 | .bl b,v,_,h=>by unfold upW zr;unfold zh at h;exact h
 | .int i,v,_,h=>by unfold upW zr;unfold zh at h;exact h
 | .str x,v,_,h=>by unfold upW zr;unfold zh at h;exact h
 | .tup ds,v,hd,h=>by
  unfold BS at hd;unfold zh at h;obtain⟨a,xs,e,h1,h2⟩:=h;unfold upW zr;exact⟨a,xs,e,h1,LM ds xs hd h2⟩
 | .lst ds,v,hd,h=>by unfold BS at hd;cases hd
theorem LM{K:W.Frag}{H:Hp}:∀(ds:List Dv) (xs:List V),A8 ds=true->zf K H ds xs->zo K H (CT ds) xs
 | [],xs,_,h=>by unfold CT zo;unfold zf at h;exact h
 | d::ds,xs,hd,h=>by
  unfold A8 at hd;rw[Zp]at hd;unfold zf at h;obtain⟨x,r,e,h1,h2⟩:=h;unfold CT zo;exact⟨x,r,e,JD d x hd.1 h1,LM ds r hd.2 h2⟩
end
noncomputable def tyW:Dw->String
 | .non=>"NoneType"
 | .bl _=>"bool"
 | .int _=>"int"
 | .str _=>"str"
 | .tup _=>"tuple"
 | .lst _=>"list"
 | .emp=>"dict"
noncomputable def G0(K:W.Frag):List V->Hp->VK->Prop:=fun xs H Q=>match xs with
 | [x,.ty T]=>T∈kinds/\∃d,zr K H d x/\Q (.bl (Bt (tyW d) T)) H
 | _=>False
theorem YC{X:Cx}:CallR X (.builtin "isinstance") (G0 X.K):=by
 intro za s Z H xs us Q I r q
 match xs,q with
 | [x,.ty T],q =>
  obtain⟨hT,d,h,q⟩:=q;have hT':=hT;unfold kinds at hT';simp only[Zh,Z9,or_false]at hT';cases d with
  | non =>
   unfold zr at h;subst h;exact Fu za s Z H _ us Q I r ⟨hT,.non,by unfold zh;rfl,q⟩
  | str z =>
   unfold zr at h;subst h;exact Fu za s Z H _ us Q I r ⟨hT,.str z,by unfold zh;rfl,q⟩
  | bl b =>
   unfold zr at h;subst h;exact Fu za s Z H _ us Q I r ⟨hT,.bl b,by unfold zh;rfl,q⟩
  | int i =>
   unfold zr at h;subst h;exact Fu za s Z H _ us Q I r ⟨hT,.int i,by unfold zh;rfl,q⟩
  | tup ds =>
   unfold zr at h;obtain⟨a,ys,rfl,hs,_⟩:=h;obtain⟨u,w',rfl,ru,rw'⟩:=FJ r;cases rw';obtain⟨ht,hn,Hh,k,hh⟩:=Mg I ru (show TyS X.K H (.ref a) "tuple" from .inl ⟨rfl,ys,hs⟩);exact PySem.W.kia_one k I.kIn hh (Km ht hT) hn fun tk=>⟨.bl (Bt "tuple" T),H,I.tok _,rfl,q⟩
  | lst ds =>
   unfold zr at h;obtain⟨a,ys,rfl,hs,_⟩:=h;obtain⟨u,w',rfl,ru,rw'⟩:=FJ r;cases rw';cases ru;obtain⟨⟨_,ze,n,_,h1⟩,_⟩:=(show ObjOk X.prog X.w H s.heap a (.ext (N7 a ys)) from I.hok a _ hs);exact PySem.W.kia_one PySem.W.kitx_list I.kIn ⟨_,h1,rfl⟩ (Km (.inr (.inr (.inr rfl))) hT) (fun z=>nomatch z) fun tk=>⟨.bl (Bt "list" T),H,I.tok _,rfl,q⟩
  | emp =>
   unfold zr at h;obtain⟨a,rfl,hs⟩:=h;refine Ju za s Z H _ us Q I r ⟨hT,_,.inr (.inr (.inl ⟨⟨_,hs⟩,rfl⟩)),?_⟩;have e:(T == "dict")=Bt (tyW .emp) T:=by rcases hT' with rfl | rfl | rfl | rfl | rfl | rfl <;> rfl
   rw[e];exact q
theorem E6{X:Cx}{K:W.Frag}(hK:X.K=K:=by rfl):CallR X (.builtin "isinstance") (G0 K):=hK ▸ YC
theorem Sl{K:W.Frag}:CV (G0 K):=fun xs H Q Q' h q=>by
 unfold G0 at *;split at q
 ·obtain⟨a,t,b,q⟩:=q;exact⟨a,t,b,h _ _ q⟩
 ·exact q.elim
section
variable {X:Cx}{K:W.Frag}
noncomputable def Hr(K:W.Frag):R2:=fun x y H Q=>match x,y with
 | .int a,.int b=>Q (.bl (!(a == b))) H
 | .ref a,.ref b=>∃xs,((zt K H a xs/\zt K H b [])\/(zv K H a xs/\zv K H b []))/\Q (.bl (!xs.isEmpty)) H
 | _,_=>False
theorem Vz(hu:X.A.units+60 < cLine):zy X (compareOp .NotEq) (Hr X.K):=by
 intro za s Z H x y v u Q I rx ry q;have hu':X.A.units < cLine:=by lia
 cases x <;> cases y <;> first | exact False.elim q | skip
 ·rename_i a b;exact om_neAll hu za s Z H _ _ v u Q I rx ry ⟨.int a,.int b,by unfold zh;rfl,by unfold zh;rfl,by unfold BL;lia,by unfold eqD;exact q⟩
 rename_i a b;cases rx;cases ry;obtain⟨xs,hq,q⟩:=q
 rcases hq with ⟨ha,hb⟩ | ⟨ha,hb⟩
 ·obtain⟨ze,r1,p1,_⟩:=I.tuple ha;obtain⟨its2,r2,p2,_⟩:=I.tuple hb;cases r2;have N:=SeqAt.RcNeAt.tuples (A:=X.A) (e:=fun _=>false) p1 p2 hu' (fun j h1 h2=>absurd h2 (by simp));refine N X.prog X.w _ _ ⟨.bl _,H,I,rfl,?_⟩;cases r1 <;> simpa using q
 ·obtain⟨ze,r1,p1,_⟩:=I.list ha;obtain⟨its2,r2,p2,_⟩:=I.list hb;cases r2;cases r1 with
  | nil =>
   have N:=SeqAt.RcNeAt.lists (A:=X.A) (e:=fun _=>false) p1.isList p2.isList rfl hu' (fun j h1 h2=>absurd h2 (by simp));refine N X.prog X.w _ _ ⟨.bl _,H,I,rfl,?_⟩;simpa using q
  | cons r t =>
   have N:=SeqAt.RcNeAt.lists_lengths (A:=X.A) p1.isList p2.isList (by simp) hu';refine N X.prog X.w _ _ ⟨.bl _,H,I,rfl,?_⟩;simpa using q
theorem Mv(hu:X.A.units+60 < cLine)(hK:X.K=K:=by rfl):zy X (compareOp .NotEq) (Hr K):=hK ▸ Vz hu
theorem Xj:Ba (Hr K):=fun x y H Q Q' m q=>by
 cases x <;> cases y <;> first
  | exact False.elim q
  | exact m _ _ q
  | skip
 obtain⟨xs,h,q⟩:=q;exact⟨xs,h,m _ _ q⟩
end
theorem Jz(val:Nat->Int):∀i,(firstMet val i).Nodup
 | 0=>by rw[firstMet_zero];exact ZCW
 | i+1=>by
  rw[firstMet_succ];unfold step_dedup;have ih:=Jz val i;split
  ·exact ih
  ·rename_i h;rw[ZCX];refine⟨ih,by simp,?_⟩;intro a ha b hb e;rw[Zq.mp hb]at e;exact h (ZBe.mpr ⟨a,ha,by rw[e];simp⟩)
theorem MJ(ns:List Int)(k:Int):k∈firstMet (fun i=>ns.getD i 0) ns.length ↔ k∈ns:=by
 have h:=firstMet_any (fun i=>ns.getD i 0) ns.length k
 have e:(List.range ns.length).map (fun i=>ns.getD i 0)=ns:=by
  apply List.ext_getElem
  ·simp
  ·intro i h1 h2;simp;rw[Zg h2];rfl
 rw[e]at h;have a1:∀l:List Int,l.any (· == k)=true ↔ k∈l:=fun l=>by simp
 rw[<- a1,<- a1,h]
noncomputable def FZ(ds:List Int):HO:=.set (fun k=>ds.any (· == k)) ds.length
noncomputable def Mh(K:W.Frag):List V->Hp->VK->Prop:=fun xs H Q=>match xs with
 | [.ref p]=>∃ns:List Int,zv K H p (ns.map V.int)/\ns.length<=1000/\∀(ds:List Int) q,ds.Nodup->(∀k,k∈ds ↔ k∈ns)->H q=none->Q (.ref q) (upd H q (FZ ds))
 | _=>False
section
variable {X:Cx}{K:W.Frag}
theorem XN(hh:X.calm=true):CallR X (.type "set") (Mh X.K):=by
 intro za s Z H xs us Q I r h
 match xs,h with
 | [.ref p],h =>
 obtain⟨ns,hq,hn,q⟩:=h;obtain⟨u,rfl,rx⟩:=BO r;cases rx;obtain⟨ze,rv,pl,hz⟩:=I.list hq;have hi:IntsAre ze ns:=by simpa using EV rv
 have zk:ze.length=ns.length:=by rw[<- rv.length,Ze]
 refine call_set_list (ns:=ns) (I.ok.hd hh) pl.isList (by simpa using hi) (by rw[Zo,zk];show ns.length+1 < 4096;lia) fun h' tk hs hk=>?_
 have hsz:ze.toArray.size=ns.length:=by rw[Zo,zk]
 rw[hsz]at hs;refine⟨.ref s.heap.objs.size,_,I.laid (t':=tk) (o:=FZ (firstMet (fun i=>ns.getD i 0) ns.length)) (fun b o e=>hk b o (Zj e) e) (Zf _) hs,rfl,q _ _ (Jz _ _) (MJ ns) (I.hok.fresh (Zf _))⟩
theorem ZX(hh:X.calm=true)(hK:X.K=K:=by rfl):CallR X (.type "set") (Mh K):=hK ▸ XN hh
noncomputable def Vn:List V->Hp->VK->Prop:=fun xs H Q=>match xs with
 | [.ref p]=>∃ds:List Int,H p=some (FZ ds)/\Q (.int ds.length) H
 | _=>False
theorem Ys:CallR X (.builtin "len") Vn:=by
 intro za s Z H xs us Q I r h
 match xs,h with
 | [.ref p],h =>
 obtain⟨ds,hq,q⟩:=h;obtain⟨u,rfl,rx⟩:=BO r;cases rx;obtain⟨o,es,ep,t,h1,h2,h3,_,_,h6,h7,h8⟩:=(show ObjOk X.prog X.w H s.heap p (FZ ds) from I.hok p _ hq);refine call_len_set h1 h2 h3 h7 (Int.lt_trans (Int.ofNat_lt.mpr h6) (by decide)) ⟨.int ds.length,H,I.tok _,⟨_,by rw[h8]⟩,q⟩
end
noncomputable def Ris(xs:Array Nat):Prop:=xs.toList.Pairwise (· < ·)
theorem Ris.lt{xs:Array Nat}(h:Ris xs){i k:Nat}(hik:i < k)(hk:k < xs.size)(j:Nat):xs.getD i j < xs.getD k j:=by
 have hi:i < xs.size:=ZBu hik hk
 have:=List.pairwise_iff_getElem.mp h i k (by simpa using hi) (by simpa using hk) hik
 simpa [Array.getD,hi,hk] using this
theorem JC{xs:Array Nat}{j:Nat}(h:Ris xs):∀(f lo hi:Nat),hi - lo<=f->lo<=hi->hi<=xs.size->(∀i,i < lo->xs.getD i j < j)->(∀i,hi<=i->i < xs.size->j<=xs.getD i j) ->
 SetTable.below.go xs j f lo hi<=xs.size/\(∀i,i < SetTable.below.go xs j f lo hi->xs.getD i j < j)/\∀i,SetTable.below.go xs j f lo hi<=i->i < xs.size->j<=xs.getD i j
 | 0,lo,hi,h1,h2,h3,h4,h5=>by
  have e:lo=hi:=by lia
  subst e;exact⟨h3,h4,h5⟩
 | f+1,lo,hi,h1,h2,h3,h4,h5=>by
  unfold SetTable.below.go
  by_cases hl:lo < hi
  ·rw[if_pos hl];dsimp only;have hm:(lo+hi) / 2 < xs.size:=by lia
   by_cases hx:xs.getD ((lo+hi) / 2) j < j
   ·rw[if_pos hx];refine JC h f _ _ (by lia) (by lia) h3 (fun i hi'=>?_) h5
    rcases ZBL i ((lo+hi) / 2) with z | z
    ·exact ZBu (h.lt z hm j) hx
    ·have:i=(lo+hi) / 2:=by lia
     rw[this];exact hx
   ·rw[if_neg hx];refine JC h f _ _ (by lia) (by lia) (by lia) h4 (fun i hi' hs=>?_)
    rcases ZBL ((lo+hi) / 2) i with z | z
    ·have:=h.lt z hs j;lia
    ·have:i=(lo+hi) / 2:=by lia
     rw[this];lia
  ·rw[if_neg hl];have e:lo=hi:=by lia
   subst e;exact⟨h3,h4,h5⟩
theorem IQ{xs:Array Nat}(h:Ris xs)(j:Nat):SetTable.below xs j<=xs.size/\(∀i,i < SetTable.below xs j->xs.getD i j < j)/\∀i,SetTable.below xs j<=i->i < xs.size->j<=xs.getD i j :=
 JC h _ _ _ (by lia) (by lia) (Zf _) (fun i z=>by lia) (fun i z y=>by lia)
theorem QY{xs:Array Nat}(h:Ris xs){k:Nat}(hk:k < xs.size):SetTable.below xs (xs.getD k 0+1)=k+1:=by
 obtain⟨a,b,c⟩:=IQ h (xs.getD k 0+1);generalize SetTable.below xs (xs.getD k 0+1)=r at a b c;have e0:∀i z,i < xs.size->xs.getD i z=xs.getD i 0:=fun i z hi=>by simp[Array.getD,hi]
 rcases ZCE r (k+1) with z | z | z
 ·have:=c k (by lia) hk
  rw[e0 k (xs.getD k 0+1) hk]at this;lia
 ·exact z
 ·have h1:=b (k+1) z;have hs:k+1 < xs.size:=by lia
  have h2:=h.lt (ZBb k) hs 0;rw[e0 (k+1) (xs.getD k 0+1) hs]at h1
  have:xs.getD k 0 < xs.getD (k+1) 0:=h2
  lia
theorem Vi{xs:Array Nat}(h:Ris xs):SetTable.below xs 0=0:=by
 obtain⟨a,b,c⟩:=IQ h 0
 rcases Nat.eq_zero_or_pos (SetTable.below xs 0) with z | z
 ·exact z
 ·have:=b 0 z;lia
theorem ZD{xs:Array Nat}(h:Ris xs){j:Nat}(hn:xs[SetTable.below xs j]? ≠ some j):Ris (SetTable.insertAt xs (SetTable.below xs j) j):=by
 obtain⟨a,b,c⟩:=IQ h j;generalize SetTable.below xs j=r at a b c hn;unfold Ris;rw[SetTable.toList_insertAt,List.pairwise_append,ZCj];have g:∀i,i < xs.size->xs.toList[i]? = some (xs.getD i j):=fun i hi=>by simp[Array.getD,hi]
 have lo:∀x∈xs.toList.take r,x < j:=fun x hx=>by
  obtain⟨i,hi,e⟩:=ZBG hx;rw[Z7]at hi;rw[List.getElem_take]at e;have hi2:i < xs.size:=by have:=(Nat.lt_min.mp hi).2;simpa using this
  have:=g i hi2
  rw[Zg (by simpa using hi2),e]at this;cases this;exact b i (Nat.lt_min.mp hi).1
 have hi:∀x∈xs.toList.drop r,j < x:=fun x hx=>by
  obtain⟨i,hi,e⟩:=ZBG hx;rw[List.length_drop]at hi;rw[List.getElem_drop]at e
  have hi2:r+i < xs.size:=by have:xs.toList.length=xs.size:=by simp
                             lia
  have e1:=g (r+i) hi2;rw[Zg (by simpa using hi2),e]at e1;have e2:=c (r+i) (ZBv _ _) hi2;have e3:x=xs.getD (r+i) j:=Zv e1
  rcases Nat.eq_zero_or_pos i with z | z
  ·subst z
   have:x≠j:=fun q=>hn (by rw[<- ZCM,g r hi2];rw[<- q];exact congrArg some (by rw[e3]at q;rw[e3];exact(by rw[q]:xs.getD (r+0) j=xs.getD (r+0) j) ▸ (by simp[Array.getD,show r < xs.size from hi2])))
   lia
  ·have h1:=h.lt (show r < r+i by lia) hi2 j;have h2:=c r (Zf _) (by lia);lia
 refine⟨List.Pairwise.sublist (List.take_sublist _ _) h,⟨hi,List.Pairwise.sublist (List.drop_sublist _ _) h⟩,fun x hx y hy=>?_⟩
 rcases Zh.mp hy with rfl | hy2
 ·exact lo x hx
 ·exact ZBu (lo x hx) (hi y hy2)
theorem L9(t:SetTable)(p:SetTable.Probe):(t.advance p).dummy=p.dummy:=by
 unfold SetTable.advance;split <;> rfl
noncomputable def FR(t:SetTable)(j:Nat):Prop:=t.place[SetTable.below t.place j]? ≠ some j
theorem Mo{t:SetTable}{j:Nat}(h:∀i,t.slot j≠.live i):FR t j:=fun e=>h _ (by unfold SetTable.slot;dsimp only;rw[if_pos (by rw[e];exact beq_self_eq_true _)])
theorem probe_go{t:SetTable}{g:Nat->Int}{h:Int}{j:Nat}{d:Option Nat}:∀(f:Nat) (p:SetTable.Probe),(∀x,p.dummy=some x->FR t x)->SetTable.probe.go t g h f p=some (.empty j d)->FR t j/\∀x,d=some x->FR t x
 | 0,p,hp,e=>by unfold SetTable.probe.go at e;cases e
 | f+1,p,hp,e=>by
  unfold SetTable.probe.go at e;split at e
  ·rename_i hs;cases e;exact⟨Mo (fun i z=>by rw[hs]at z;cases z),hp⟩
  ·rename_i hs;refine probe_go f _ (fun x hx=>?_) e;rw[L9]at hx;cases hx;exact Mo fun i z=>by rw[hs]at z;cases z
  ·split at e
   ·cases e
   ·exact probe_go f _ (fun x hx=>hp x (by rw[L9]at hx;exact hx)) e
theorem V4{t:SetTable}{h:Int}{j:Nat}{b:Bool}(e:t.freeSlot h=some (j,b)):FR t j:=by
 unfold SetTable.freeSlot at e;split at e
 ·rename_i j' d hm;cases e;obtain⟨a,c⟩:=probe_go _ _ (fun x hx=>by cases hx) (show SetTable.probe.go t _ h _ (t.probeStart h)=_ from hm);cases d with
  | none=>exact a
  | some x=>exact c x rfl
 ·cases e
structure TabG(w:World)(t:SetTable):Prop where
 led:t.led = !w.params.followText "set-order"
 ris:Ris t.place
theorem XE(n:Nat):Ris (Array.range n):=by
 unfold Ris;rw[Array.toList_range];exact ZCN
theorem UT(w:World):TabG w (.fresh 0 0 (!w.params.followText "set-order")):=⟨rfl,List.Pairwise.nil⟩
theorem Gy{w:World}{t:SetTable}(g:TabG w t)(n:Nat):TabG w (t.standIn n):=⟨g.led,XE n⟩
theorem tg_orStandIn{w:World}{t:SetTable}(g:TabG w t)(n:Nat):TabG w (t.orStandIn n):=by
 unfold SetTable.orStandIn;split
 ·exact g
 ·exact Gy g n
theorem V0{w:World}{t:SetTable}(g:TabG w t)(es:Array (Int × Value))(h:Int)(x:Value):TabG w (layNew t es h x).2.1:=by
 unfold layNew;split
 ·rename_i j b e;exact tg_orStandIn (t:=(t.put j).1) ⟨g.led,ZD g.ris (V4 e)⟩ _
 ·exact Gy g _
theorem WH{w:World}{t t':SetTable}(g:TabG w t){hs:Array Int}{n:Nat}{o:Array Nat}(e:t.relaid hs n=some (t',o)):TabG w t':=by
 unfold SetTable.relaid SetTable.laid at e;cases q:SetTable.layClean (SetTable.sizeAbove n - 1) hs with
 | none=>rw[q]at e;cases e
 | some ow =>
  rw[q]at e;cases e;refine⟨g.led,?_⟩;unfold Ris;dsimp only;rw[ZCF,List.pairwise_filterMap];refine List.Pairwise.imp (fun {a b} hab x hx y hy=>?_) ZCN;cases h1:ow.getD a none with
  | none=>rw[h1]at hx;cases hx
  | some u =>
   cases h2:ow.getD b none with
   | none=>rw[h2]at hy;cases hy
   | some v =>
    rw[h1]at hx;rw[h2]at hy;cases hx;cases hy;exact hab
theorem WN{w:World}{t:SetTable}(g:TabG w t)(es:Array (Int × Value))(n:Nat):TabG w (relayAll t es n).2.1:=by
 unfold relayAll;split
 ·rename_i t' o e;dsimp only;split
  ·exact WH g e
  ·exact Gy g _
 ·exact Gy g _
theorem ZE{w:World}{t:SetTable}(g:TabG w t)(b:Bool):TabG w { t with plain:=b }:=⟨g.led,g.ris⟩
noncomputable def SetW(P:Program)(w:World)(h:Heap)(a:Addr)(S:Int->Bool)(n:Nat):Prop :=
 ∃o es ep t,h.get? a=some o/\o.ExactSet/\o.data=.set es ep t/\ElemsOf (intKind P w) es.toList/\(∀k,S k=true ↔ ∃e∈es.toList,(intKind P w).is k e.2=true)/\es.size < scanBound/\t.fits es.size=true/\es.size=n/\TabG w t
section
variable {P:Program}{w:World}{A:Around}{E:Value->Shared->Prop}{s:Shared}{a:Addr}
theorem SetW.at{h h':Heap}{S:Int->Bool}{n:Nat}(x:SetW P w h a S n)(k:∀o,h.get? a=some o->h'.get? a=some o):SetW P w h' a S n:=by
 obtain⟨o,es,ep,t,h1,r⟩:=x;exact⟨o,es,ep,t,k _ h1,r⟩
theorem SetW.of{h:Heap}{S:Int->Bool}{n:Nat}(x:SetW P w h a S n):h.SetOf (intKind P w) a S n:=by
 obtain⟨o,es,ep,t,h1,h2,h3,h4,h5,h6,h7,h8,_⟩:=x;exact⟨o,es,ep,t,h1,h2,h3,h4,h5,h6,h7,h8⟩
theorem OS {h:Heap} {o:Obj} {es es':Array (Int × Value)} {ep:Nat} {t t':SetTable} {S:Int->Bool} (h1:h.get? a=some o) (h2:o.ExactSet) (h3:o.data=.set es ep t) (h4:ElemsOf (intKind P w) es'.toList)
 (h5:∀k,S k=true ↔ ∃e∈es'.toList,(intKind P w).is k e.2=true) (h6:es'.size < scanBound) (h7:t'.fits es'.size=true) (g:TabG w t') :
 (h.update a (Obj.putSet es' t')).get? a=some { o with data:=.set es' (ep+1) t' } /\ SetW P w (h.update a (Obj.putSet es' t')) a S es'.size :=
 have q:=SetOf_store (knd:=intKind P w) h1 h2 h3 h4 h5 h6 h7
 ⟨q.1,_,es',ep+1,t',q.1,h2,rfl,h4,h5,h6,h7,rfl,g⟩
theorem Xq{b:Bool}{Q:Unit->Shared->Prop}{s₁:Shared}(q:Q () s₁):wpAny (model P w) A (match b with | true=>rule "set.scan.the-table-gave-way" | false=>pure ()) Q E s₁:=by
 cases b with
 | true=>exact wpAny_rule q
 | false=>exact Zd q
theorem Md {g:Bool->Sem Unit} (hg:∀(b:Bool) (s₁:Shared) (Q:Unit->Shared->Prop),Q () s₁->wpAny (model P w) A (g b) Q E s₁) {o:Obj} {es es1:Array (Int × Value)} {ep:Nat} {t t2:SetTable} {S:Int->Bool} {wd:Bool} {R:Option Bool->Shared->Prop}
 (h1:s.heap.get? a=some o) (h2:o.ExactSet) (h3:o.data=.set es ep t) (h4:ElemsOf (intKind P w) es1.toList) (h5:∀k,S k=true ↔ ∃e∈es1.toList,(intKind P w).is k e.2=true) (h6:es1.size < scanBound) (h7:t2.fits es1.size=true) (gd:TabG w t2)
 (fin:∀h',Heap.SameBut a s.heap h'->SetW P w h' a S es1.size->R (some true) { s with heap:=h' }) :
 wpAny (model P w) A (do
  storeSet a es1 t2
  if (!wd && t2.tooFull)=true then do
   g (relayAll t2 es1 (SetTable.grown es1.size)).2.2;storeSet a (relayAll t2 es1 (SetTable.grown es1.size)).1 (relayAll t2 es1 (SetTable.grown es1.size)).2.1
   pure (some true)
   else
    pure (some true)) R E s:=by
 obtain⟨k1,k2⟩:=OS h1 h2 h3 h4 h5 h6 h7 gd;refine Zc (wpAny_storeSet_of h1 h3 ?_ (fits_of_scanBound h6));have sb:=ZBj s.heap a (Obj.putSet es1 t2);split
 ·have pm:=relayAll_perm t2 es1 (SetTable.grown es1.size);have ft:=relayAll_fits t2 es1 (SetTable.grown es1.size);have tg:=WN gd es1 (SetTable.grown es1.size);generalize relayAll t2 es1 (SetTable.grown es1.size)=V at pm ft tg ⊢;obtain⟨e2,t3,gv⟩:=V;dsimp only at pm ft tg ⊢;have z:e2.size=es1.size:=by rw[<- Z8,pm.length_eq,Z8]
  obtain⟨_,k4⟩:=OS (S:=S) k1 h2 rfl (h4.perm pm) (fun k=>(h5 k).trans ⟨fun⟨e,x,y⟩=>⟨e,pm.mem_iff.mpr x,y⟩,fun⟨e,x,y⟩=>⟨e,pm.mem_iff.mp x,y⟩⟩) (by rw[z];exact h6) ft tg;rw[z]at k4;exact Zc (hg _ _ _ (Zc (wpAny_storeSet_of k1 rfl (Zd (fin _ (sb.trans (ZBj _ a _)) k4)) (fits_of_scanBound (by rw[z];exact h6)))))
 ·exact Zd (fin _ sb k2)
theorem YO {S:Int->Bool} {n:Nat} {k:Int} {x:Value} {Q:Bool->Shared->Prop} (hk:(intKind P w).is k x=true) (hx:x.scannable=true) (hS:SetW P w s.heap a S n) (hn:n+1 < scanBound)
 (fin:∀h',Heap.SameBut a s.heap h'->SetW P w h' a (fun k'=>S k' || decide (k'=k)) (if S k then n else n+1)->Q (!S k) { s with heap:=h' }) :
 wpAny (model P w) A (setAddHashed a x ((intKind P w).hash k)) Q E s:=by
 obtain⟨o,es,ep,t,h1,h2,h3,h4,h5,h6,h7,h8,gd⟩:=hS;unfold setAddHashed setAddHashedIn;refine ZBA (Zc (wpAny_setState_of h1 h3 h7 ?_));dsimp only;rw[byScan_of hx h6 h4];simp only[↓reduceIte];unfold setAddByScan;refine Zc (Zc (wpAny_rule (Zc (wpAny_setScan_of hk h1 h3 h7 h4 ?_))));cases hr:List.findIdx? (fun e=>(intKind P w).is k e.2) es.toList with
 | some j =>
  dsimp only;obtain⟨hj,hp,_⟩:=List.findIdx?_eq_some_iff_getElem.mp hr;have sk:S k=true:=(h5 k).mpr ⟨es.toList[j],ZBK hj,hp⟩
  have q:=fin s.heap (Heap.SameBut.refl a s.heap) ⟨o,es,ep,t,h1,h2,h3,h4,(fun k'=>by
   rw[Bool.or_eq_true,decide_eq_true_eq,<- h5 k'];exact⟨fun z=>z.elim id (fun e=>e ▸ sk),.inl⟩),h6,h7,(by rw[sk];exact h8),gd⟩
  rw[sk]at q;exact Zd (Zd q)
 | none =>
  dsimp only
  have sk:S k=false:=by
   cases z:S k with
   | false=>rfl
   | true =>
    obtain⟨e,he,hp⟩:=(h5 k).mp z
    have:=List.findIdx?_eq_none_iff.mp hr e he;rw[hp]at this;cases this
  have pm:=layNew_perm t es ((intKind P w).hash k) x;have ft:=layNew_fits t es ((intKind P w).hash k) x;have tg:=V0 gd es ((intKind P w).hash k) x;generalize layNew t es ((intKind P w).hash k) x=V at pm ft tg ⊢;obtain⟨e1,t1,wd,gv⟩:=V;dsimp only at pm ft tg ⊢;rw[Array.toList_push]at pm;have z1:e1.size=n+1:=by rw[<- Z8,pm.length_eq,Zy,Z8,h8];rfl
  have c1:ElemsOf (intKind P w) e1.toList:=(h4.push hk hx).perm pm;have c2:∀k',(S k' || decide (k'=k))=true ↔ ∃e∈e1.toList,(intKind P w).is k' e.2=true:=mem_push_iff hk h5 pm
  have en:∀h',Heap.SameBut a s.heap h'->SetW P w h' a (fun k'=>S k' || decide (k'=k)) e1.size->Q true { s with heap:=h' }:=fun h' sb q=>by
   have r:=fin h' sb;rw[sk]at r;rw[z1]at q;exact r q
  have gw:∀(b:Bool) (s₁:Shared) (Q':Unit->Shared->Prop),Q' () s₁->wpAny (model P w) A (match b with | true=>rule "set.scan.the-table-gave-way" | false=>pure ()) Q' E s₁:=fun b s₁ Q' q=>Xq q
  refine Zc (gw _ _ _ ?_);split
  ·refine Zc ?_;rw[hashByValue_scannable 8 hx];refine Zd (Md gw h1 h2 h3 c1 c2 (by rw[z1];exact hn) ?_ ?_ fun h' sb q=>Zd (en h' sb q))
   ·split
    ·exact ft
    ·exact SetTable.fits_plain_off ft
   ·split
    ·exact tg
    ·exact ZE tg _
  ·refine Zc (Zd ?_);simp only[↓reduceIte];exact Md gw h1 h2 h3 c1 c2 (by rw[z1];exact hn) ft tg fun h' sb q=>Zd (en h' sb q)
end
section
variable {P:Program}{w:World}{A:Around}{E:Value->Shared->Prop}{s:Shared}{a:Addr}
theorem SetW.congr{h:Heap}{S S':Int->Bool}{n n':Nat}(x:SetW P w h a S n)(e:∀k,S k=S' k)(en:n=n'):SetW P w h a S' n':=by
 obtain rfl:S=S':=funext e;subst en;exact x
noncomputable def FB(P:Program)(w:World)(h:Heap)(a:Addr)(f:Nat->Int)(i:Nat):Prop:=SetW P w h a (fun k=>(firstMet f i).any (· == k)) (firstMet f i).length
theorem NT {R:Result->Shared->Prop} {I:Addr} {fp wr:List Addr} {G:Array GenState->Array GenState->Prop} {n:Nat} {Pv:Nat->Value->Prop} {St:Nat->Shared->Prop} (W:WalksS P w A.in1 I fp wr G n Pv St) (ha:a∉fp)
 (f:Nat->Int) (hf:∀i v,Pv i v->∃t,v=.int (f i) t) (hb:n+1 < scanBound):∀(k i:Nat) (s:Shared),n - i=k->i<=n->St i s->FB P w s.heap a f i ->
  (∀s',Moved (a::wr) G s s'->FB P w s'.heap a f n->R (.ok (.ret .none)) s')->codeAny (model P w) A (.builtin "set.update.loop" ⟨[.ref a,.ref I],[]⟩) R s
 | 0,i,s,hk,hi,st,hS,hR=>by
  obtain rfl:i=n:=by lia
  refine ZBR PyProof.Rows.F.entry_set_update_loop ?_;rw[ZBf PyProof.Rows.F.plain_set_update_loop _];show wpAny _ A.in1 (pyNext (.ref I) >>= _) _ _ s;refine Zc (W.done s _ _ st fun s' hm=>Zd (hR s' (hm.mono fun b hb=>Zz _ hb) (hS.at fun o e=>hm.heap a o (fun z=>ha (W.sub _ z)) e)))
 | k+1,i,s,hk,hi,st,hS,hR=>by
  have zm:i < n:=by lia
  refine ZBR PyProof.Rows.F.entry_set_update_loop ?_;rw[ZBf PyProof.Rows.F.plain_set_update_loop _];show wpAny _ A.in1 (pyNext (.ref I) >>= _) _ _ s;refine Zc (W.item i s _ _ zm st fun v s' hP st' hm=>?_);obtain⟨t,rfl⟩:=hf i v hP;have hS':FB P w s'.heap a f i:=hS.at fun o e=>hm.heap a o (fun z=>ha (W.sub _ z)) e
  show wpAny _ A.in1 (holding [Value.int (f i) t] (setAdd a (.int (f i) t)) >>= _) _ _ s';refine Zc (ZBA ?_);unfold setAdd;refine ZBA (Zc ((intKind P w).pyHash (k:=f i) (intKind_is _ _ _ _) ?_));refine YO (s:={ s' with toks:=s'.toks+1 }) (intKind_is _ _ _ _) rfl hS' (by have:=firstMet_length_le f i;lia) fun h' sb q=>?_
  refine Zd ⟨ZBg PyProof.Rows.F.plain_set_update_loop _,NT W ha f hf hb k (i+1) _ (by lia) zm (W.frame _ s' _ _ st' (ZBz _) fun b hb' o e=>?_)
   (q.congr (fun k'=>by rw[firstMet_succ,step_any]) (by rw[firstMet_succ,step_length])) fun s'' hm2 hS2=>?_⟩
  ·rw[sb.2 b (fun z:b=a=>ha (by rw[<- z];exact hb'))];exact e
  ·refine hR s'' (Moved.trans W.gtrans ((hm.mono fun b hb=>Zz _ hb).then_heap (ZBz _) fun b o hb' e=>?_) hm2) hS2;rw[sb.2 b (fun z:b=a=>hb' (by rw[z];exact ZBD))];exact e
theorem Xu:isSubtype (.type "tuple") (.type "set")=pure false:=by rw[isSubtype_type];kernel_rfl
theorem SV:isSubtype (.type "tuple") (.type "frozenset")=pure false:=by rw[isSubtype_type];kernel_rfl
theorem Lo(v:Value){Q:Value->Shared->Prop}(h:Q (.ref s.heap.objs.size) { s with heap:=s.heap.push { cls:=.type "set",dict:=none,data:=.set #[] 0 (.fresh 0 0 (!w.params.followText "set-order")) } }) :
 codeAny (model P w) A (.call (.builtin "set.__new__") ⟨[.type "set",v],[]⟩) (wants Q E) s:=by
 refine codeAny_of_tree ?_;show wpAny _ A.in1 (do checkBuiltinCall "set.__new__" ⟨[.type "set",v],[]⟩;again (.builtin "set.__new__" ⟨[.type "set",v],[]⟩)) _ _ s;refine Zc (wpAny_of_eq (PySem.F.newCall_set_1 v) (Zd ⟨ZBg PySem.F.plain_set_new _,ZBR PySem.F.entry_set_new ?_⟩));rw[ZBf PySem.F.plain_set_new _];unfold Builtin.«set.__new__» Builtin.Frozenset.newClass;have hsub:=PySem.sub_set_self;obtain⟨hp,g,d,tk,os⟩:=s;dsimp only;wp_walk;refine wpAny_askSetting (Zd ?_);dsimp only;simp only[newObj];exact Zc (wpAny_alloc (Zd (Zd h)))
set_option maxHeartbeats 6400000 in
theorem YW {l:Addr} {ze:Array Value} {ns:List Int} {Q:Value->Shared->Prop} (hh:A.handled=none) (hl:s.heap.IsTuple l ze) (hi:IntsAre ze.toList ns) (hb:ze.size+1 < scanBound)
 (fin:∀(h':Heap) (tk:Nat),FB P w h' s.heap.objs.size (fun i=>ns.getD i 0) ze.size->(∀b o,b < s.heap.objs.size->s.heap.get? b=some o->h'.get? b=some o)->Q (.ref s.heap.objs.size) { s with heap:=h',toks:=tk }) :
 wpAny (model P w) A (call (.type "set") [.ref l]) Q E s:=by
 obtain⟨c,tl,hmro⟩:=PySem.F.called_set.mro;have hmade:=PySem.F.called_set.made;have hsub:=PySem.F.called_set.sub;refine wpAny_call (codeAny_of_tree ?_);show wpAny _ _ (callAny (.type "set") _) _ _ _;refine Zd ⟨Code.quiet_builtin _ (by decide +kernel),ZBR PySem.F.entry_type_call ?_⟩;rw[Around.under_plain (weight_type_call_type "set" [.ref l] []) rfl];have k1:=PySem.F.called_set.notType;have k2:=PySem.F.called_set.canCreate;have k3:=PySem.F.typeCall_set_1 (.ref l)
 (repeat (any_goals (first | assumption | wp_step)));refine ZBm (Lo (.ref l) (E:=E) (Q:=fun v s₁=>v=.ref s.heap.objs.size/\s₁ = { s with heap:=s.heap.push { cls:=.type "set",dict:=none,data:=.set #[] 0 (.fresh 0 0 (!w.params.followText "set-order")) } }) ⟨rfl,rfl⟩) fun r s₁ hr=>?_
 cases r with
 | error e=>exact hr
 | ok fl =>
  cases fl with
  | ret ob =>
   obtain⟨rfl,rfl⟩:=hr;generalize hled:(!w.params.followText "set-order")=led;have hS:(s.heap.push { cls:=.type "set",dict:=none,data:=.set #[] 0 (.fresh 0 0 led) }).get? s.heap.objs.size=some { cls:=.type "set",dict:=none,data:=.set #[] 0 (.fresh 0 0 led) }:=Zr _ rfl;have hT:Shared.TypeIs { s with heap:=s.heap.push { cls:=.type "set",dict:=none,data:=.set #[] 0 (.fresh 0 0 led) } } (.ref s.heap.objs.size) "set":=⟨_,hS,rfl⟩;have k4:=PySem.F.called_set.init.lookup;have k5:=PySem.F.called_set.init.bind (.ref s.heap.objs.size)
   (repeat (any_goals (first | assumption | wp_step)));refine ZBm (codeAny_call_builtin (R:=wants (fun r s₂=>r=.none/\∃h' tk,s₂ = { s with heap:=h',toks:=tk } /\ FB P w h' s.heap.objs.size (fun i=>ns.getD i 0) ze.size /\
    (∀b o,b < s.heap.objs.size->s.heap.get? b=some o->h'.get? b=some o)) E) PySem.F.called_set.init.plain PySem.F.entry_set_init (check_set_init_1 hT ?_)) fun r₂ s₂ hr₂=>?_
   ·obtain⟨ol,hol,hcl,nl,hdl⟩:=hl;obtain⟨ocls,odict,odata,oslots⟩:=ol;simp only at hcl hdl;subst hcl;subst hdl;have hol':(s.heap.push { cls:=.type "set",dict:=none,data:=.set #[] 0 (.fresh 0 0 led) }).get? l=some { cls:=.type "tuple",dict:=odict,data:=.seq ze nl,slots:=oslots }:=Zi _ hol;have s1:=Xu;have s2:=SV;have s3:(Value.type "tuple" == Value.type "dict")=false:=by decide
    have hl1:(s.heap.push { cls:=.type "set",dict:=none,data:=.set #[] 0 (.fresh 0 0 led) }).IsTuple l ze:=⟨_,hol',rfl,nl,rfl⟩;unfold Builtin.«set.__init__» noKeywords Builtin.Frozenset.updateFrom;generalize hPI:pyIter=PI
    wp_walk
    subst hPI;refine wpAny_pyIter_tuple hl1 (Zc (wpAny_runValue ?_))
    have hlS:l < s.heap.objs.size:=Zj hol;have z1:l≠(s.heap.push { cls:=.type "set",dict:=none,data:=.set #[] 0 (.fresh 0 0 led) }).objs.size:=by
     rw[ZBP];exact(Zs (ZB4 hlS))
    have z2:s.heap.objs.size∉[(s.heap.push { cls:=.type "set",dict:=none,data:=.set #[] 0 (.fresh 0 0 led) }).objs.size,l]:=by
     rw[ZBP];simp only[Zh,Zq,ZCY,or_false,not_or];exact⟨Zs (ZBb _),ZBs hlS⟩
    refine NT ((Walks.tuple (A:=A.in1.in1.in1) (by simp[hh]) _ l z1 ze).toS) z2 (fun i=>ns.getD i 0) (fun i v hv=>PyProof.Rows.IntsAre.int_at hi i v (by rw[ZCM];exact hv)) hb (ze.size - 0) 0 _ (by lia) (Zu _)
     ⟨⟨_,Zr _ rfl,rfl,rfl⟩,(hl1.push _)⟩ ?b0 ?bR
    case b0 =>
     refine⟨_,#[],0,_,Zi _ hS,⟨rfl,rfl,rfl⟩,rfl,fun e he=>by simp at he,fun k=>by simp[firstMet],by decide,by rfl,rfl,?_⟩;rw[<- hled];exact UT w
    case bR =>
     intro s' hm hS';obtain⟨h',g',d',tk',os'⟩:=s';obtain rfl:g'=s.gens:=hm.gens;obtain rfl:d'=s.drawn:=hm.drawn;obtain rfl:os'=s.os:=hm.os;refine Zd ?_;show wpAny _ _ (ret Value.none) _ _ _;refine Zd ⟨rfl,h',tk',rfl,hS',fun b o hb e=>hm.heap b o ?_ (Zi _ (Zi _ e))⟩;rw[ZBP];simp only[Zh,Zq,ZCY,or_false,not_or];exact⟨Zs hb,Zs (ZB4 hb)⟩
   ·cases r₂ with
    | error e=>exact hr₂
    | ok fl₂ =>
     cases fl₂ with
     | ret r =>
      obtain⟨rfl,h',tk,rfl,hS',hk'⟩:=hr₂;repeat (any_goals (first | assumption | wp_step))
      exact fin _ _ hS' hk'
     | _=>exact hr₂.elim
  | _=>exact hr.elim
end
namespace F
theorem slot_set_iterator_next:Slot "set_iterator" "__next__" "set_iterator.__next__" :=
 .of (owner:="set_iterator") (n:="__next__") (by rw[typeLookup_type,builtinLookup_eq_fast];kernel_rfl) (by decide +kernel) (by decide +kernel) (by decide +kernel) (by first | exact .inl (by decide +kernel) | exact .inr (by decide +kernel)) (by rw[isSubtype_type];kernel_rfl)
theorem slot_set_iterator_iter:Slot "set_iterator" "__iter__" "set_iterator.__iter__" :=
 .of (owner:="set_iterator") (n:="__iter__") (by rw[typeLookup_type,builtinLookup_eq_fast];kernel_rfl) (by decide +kernel) (by decide +kernel) (by decide +kernel) (by first | exact .inl (by decide +kernel) | exact .inr (by decide +kernel)) (by rw[isSubtype_type];kernel_rfl)
theorem entry_set_iterator_next:entryFor table "set_iterator.__next__" = some Builtin.«set_iterator.__next__»:=entryFor_of_tree (by kernel_rfl)
theorem entry_set_iterator_iter:entryFor table "set_iterator.__iter__" = some Builtin.«dict_keyiterator.__iter__»:=entryFor_alias (id':="dict_keyiterator.__iter__") (by kernel_rfl) (by first | rfl | decide +kernel | (unfold String.splitOn;simp +decide [String.splitOnAux])) (by decide +kernel) (by kernel_rfl)
theorem entry_set_iter:entryFor table "set.__iter__" = some Builtin.«frozenset.__iter__»:=entryFor_alias (id':="frozenset.__iter__") (by kernel_rfl) rfl (by decide +kernel) (by kernel_rfl)
theorem args_set_iterator_next(a:Value):argsOk "set_iterator.__next__" ⟨[a],[]⟩:=by unfold argsOk;kernel_rfl
theorem args_set_iterator_iter(a:Value):argsOk "set_iterator.__iter__" ⟨[a],[]⟩:=by unfold argsOk;kernel_rfl
end F
theorem Tc{M:Model}{A:Around}{E:Value->Shared->Prop}{s:Shared}{src:Source}{n:Nat}{Q:Nat->Shared->Prop}(hn:n≠0)(h:∀i d,i < n->Q i { s with drawn:=d }):wpAny M A (choose src n) Q E s :=
 fun _ _ _=>⟨hn,h _ _ (Nat.mod_lt _ (Nat.pos_of_ne_zero hn))⟩
theorem NG{α:Type}{l:List α}{i:Nat}(h:i < l.length):(l[i]::l.eraseIdx i).Perm l:=by
 rw[List.eraseIdx_eq_take_drop_succ];have e:l=l.take i++l[i]::l.drop (i+1):=by rw[<- List.drop_eq_getElem_cons h,List.take_append_drop]
 exact List.perm_middle.symm.trans (e ▸ .rfl)
theorem ME{M:Model}{A:Around}{E:Value->Shared->Prop}{α:Type}:∀(n:Nat) (xs:List α) (s:Shared) (Q:List α->Shared->Prop),xs.length=n->(∀ys d,ys.Perm xs->Q ys { s with drawn:=d })->wpAny M A (drawOrder n xs) Q E s
 | 0,xs,s,Q,hl,h=>by
  obtain rfl:xs=[]:=ZCZ.mp hl;unfold drawOrder;exact Zd (h [] s.drawn .nil)
 | n+1,[],s,Q,hl,h=>by cases hl
 | n+1,x0::r,s,Q,hl,h=>by
  unfold drawOrder;refine Zc (Tc (by simp) fun i d hi=>?_);obtain⟨x,hx⟩:∃x,(x0::r)[i]? = some x:=⟨_,Zg hi⟩;rw[hx];dsimp only;refine Zc (ME n _ _ _ (by rw[List.length_eraseIdx];simp only[hi,if_true];lia) fun ys d2 hp=>Zd ?_);refine h _ d2 ?_;have e:(x0::r)[i]=x:=by rw[Zg hi]at hx;exact Zv hx
  exact(List.Perm.cons x hp).trans (e ▸ NG hi)
theorem L8{α:Type}(nx:Nat->Nat):∀(f k:Nat) (l:List α) (out:Array α),l.length=f->(pickOrder.go nx f k l out).toList.Perm (out.toList++l)
 | 0,k,l,out,hl=>by
  obtain rfl:l=[]:=ZCZ.mp hl;unfold pickOrder.go;rw[ZBI]
 | f+1,k,l,out,hl=>by
  unfold pickOrder.go;have hi:nx k % l.length < l.length:=Nat.mod_lt _ (by lia);rw[Zg hi];dsimp only;refine(L8 nx f (k+1) _ _ (by rw[List.length_eraseIdx];simp only[hi,if_true];lia)).trans ?_;rw[Array.toList_push,List.append_assoc];exact List.Perm.append_left _ (NG hi)
theorem Ji{α:Type}(nx:Nat->Nat)(xs:Array α):(pickOrder nx xs).toList.Perm xs.toList:=by
 have:=L8 nx xs.size 0 xs.toList #[] (by simp)
 rw[List.nil_append]at this;exact this
noncomputable def IsSetIter(h:Heap)(I:Addr)(f:Value)(i:Nat)(a:Addr)(n ep:Nat):Prop:=∃o,h.get? I=some o/\o.cls=.type "set_iterator" /\ o.data=.fields #[f,.int i 0,.ref a,.int n 0,.int ep 0]
theorem IsSetIter.typeIs{s:Shared}{I a:Addr}{f:Value}{i n ep:Nat}(x:IsSetIter s.heap I f i a n ep):s.TypeIs (.ref I) "set_iterator":=let ⟨o,ho,hc,_⟩:=x;⟨o,ho,hc⟩
theorem IsSetIter.at{h h':Heap}{I a:Addr}{f:Value}{i n ep:Nat}(x:IsSetIter h I f i a n ep)(e:∀o,h.get? I=some o->h'.get? I=some o):IsSetIter h' I f i a n ep:=let ⟨o,ho,r⟩:=x;⟨o,e _ ho,r⟩
section
variable {P:Program}{w:World}{A:Around}{E:Value->Shared->Prop}{s:Shared}{a I:Addr}
theorem Gr{h:Heap}{o:Obj}{vs:Array Value}(ho:h.get? I=some o)(hd:o.data=.fields vs)(k:Nat)(x:Value):∃o',(h.update I (Obj.mapFields (·.setIfInBounds k x))).get? I=some o'/\o'.cls=o.cls/\o'.data=.fields (vs.setIfInBounds k x) :=
 ⟨_,ZCB _ ho (Obj.isFreed_of_fields (Obj.data_mapFields hd _)),Obj.cls_mapFields ..,Obj.data_mapFields hd _⟩
theorem Np {o:Obj} {es:Array (Int × Value)} {ep i slot nx:Nat} {t:SetTable} {x:Value} {Q:Option Value->Shared->Prop} (hit:IsSetIter s.heap I (.int slot 0) i a es.size ep) (h1:s.heap.get? a=some o) (h3:o.data=.set es ep t) (h7:t.fits es.size=true)
 (hn:∀(A:Around) (E:Value->Shared->Prop) (Q:Option (Value × Nat)->Shared->Prop),Q (some (x,nx)) s->wpAny (model P w) A (setNext a slot i ep) Q E s)
 (hQ:∀h',IsSetIter h' I (.int nx 0) (i+1) a es.size ep->Heap.SameBut I s.heap h'->Q (some x) { s with heap:=h' }):wpAny (model P w) A (pyNext (.ref I)) Q E s:=by
 obtain⟨oi,ho,hc,hd⟩:=id hit;unfold pyNext;refine Zc (wpAny_attempt (wpAny_callSpecial?_slot (name:=Str.ofString "__next__") hit.typeIs F.slot_set_iterator_next (ZBV F.slot_set_iterator_next hit.typeIs F.entry_set_iterator_next ?_ (F.args_set_iterator_next _))));show wpAny _ _ (fieldsOf (.ref I) >>= _) _ _ s;refine Zc (wpAny_fieldsOf ho hd ?_);dsimp only;refine Zc (wpAny_setEntries_of h1 h3 h7 ?_);refine ZBY (fun hab=>absurd hab (by simp)) (fun _=>?_);refine Zc (hn _ _ _ ?_);dsimp only;obtain⟨o1,ho1,hc1,hd1⟩:=Gr ho hd 0 (rawInt nx);refine Zc (ZB3 ho hd (by simp) (Zc (ZB3 ho1 hd1 (by simp) (Zd ⟨x,rfl,Zd (hQ _ ?_ ((ZBj ..).trans (ZBj ..)))⟩))));obtain⟨o2,ho2,hc2,hd2⟩:=Gr ho1 hd1 1 (rawInt (i+1));exact⟨o2,ho2,hc2.trans (hc1.trans hc),by rw[hd2];simp[rawInt]⟩
theorem MR {o:Obj} {es:Array (Int × Value)} {ep i slot:Nat} {t:SetTable} {Q:Option Value->Shared->Prop} (hh:A.handled=none) (hit:IsSetIter s.heap I (.int slot 0) i a es.size ep) (h1:s.heap.get? a=some o) (h3:o.data=.set es ep t) (h7:t.fits es.size=true)
 (hn:∀(A:Around) (E:Value->Shared->Prop) (Q:Option (Value × Nat)->Shared->Prop),Q none s->wpAny (model P w) A (setNext a slot i ep) Q E s)
 (hQ:∀h',Heap.ExtBut I s.heap h'->Q none { s with heap:=h' }):wpAny (model P w) A (pyNext (.ref I)) Q E s:=by
 obtain⟨oi,ho,hc,hd⟩:=id hit;unfold pyNext;refine Zc (wpAny_attempt (wpAny_callSpecial?_slot (name:=Str.ofString "__next__") hit.typeIs F.slot_set_iterator_next (ZBV F.slot_set_iterator_next hit.typeIs F.entry_set_iterator_next ?_ (F.args_set_iterator_next _))));show wpAny _ _ (fieldsOf (.ref I) >>= _) _ _ s;refine Zc (wpAny_fieldsOf ho hd ?_);dsimp only;refine Zc (wpAny_setEntries_of h1 h3 h7 ?_);refine ZBY (fun hab=>absurd hab (by simp)) (fun _=>?_);refine Zc (hn _ _ _ ?_);dsimp only;refine Zc (ZB3 ho hd (by simp) ?_);show wpAny _ _ (newExc (.type "StopIteration") [] >>= _) _ _ _;refine Zc ?_;simp only[newExc,newTuple];refine Zc (ZBJ (Zc (m:=firstArgMember _ _) (wpAny_of_eq (a:=Value.none) (by first | rfl | (simp only[firstArgMember];rfl)) (ZBJ ?_ (by size_fits)))) (by size_fits));simp only[raiseNew];refine Zc (wpAny_handled ?_);first | rw[show A.in1.handled=none from hh] | rw[hh]
 refine Zc (Zd (wpAny_throw ?st));refine Zc (wpAny_isInstance (T:="StopIteration") (b:=true) ⟨_,Zr _ rfl,rfl⟩ isSubtype_stop ?_);exact Zd (hQ _ ((((ZBj ..)).extBut.push _).push _))
theorem YN {o ot:Obj} {es:Array (Int × Value)} {ep i tp nt:Nat} {t:SetTable} {ps:Array Value} {p:Nat} {x:Int × Value} {Q:Option Value->Shared->Prop} (hit:IsSetIter s.heap I (.ref tp) i a es.size ep) (h1:s.heap.get? a=some o) (h3:o.data=.set es ep t) (h7:t.fits es.size=true)
 (ht:s.heap.get? tp=some ot) (hdt:ot.data=.seq ps nt) (hp:ps[i]? = some (.int p 0)) (hx:es[p]? = some x)
 (hQ:∀h',IsSetIter h' I (.ref tp) (i+1) a es.size ep->Heap.SameBut I s.heap h'->Q (some x.2) { s with heap:=h' }):wpAny (model P w) A (pyNext (.ref I)) Q E s:=by
 obtain⟨oi,ho,hc,hd⟩:=id hit;unfold pyNext;refine Zc (wpAny_attempt (wpAny_callSpecial?_slot (name:=Str.ofString "__next__") hit.typeIs F.slot_set_iterator_next (ZBV F.slot_set_iterator_next hit.typeIs F.entry_set_iterator_next ?_ (F.args_set_iterator_next _))));show wpAny _ _ (fieldsOf (.ref I) >>= _) _ _ s;refine Zc (wpAny_fieldsOf ho hd ?_);dsimp only;refine Zc (wpAny_setEntries_of h1 h3 h7 ?_);refine ZBY (fun hab=>absurd hab (by simp)) (fun _=>?_);refine Zc (wpAny_seqItems ht hdt ?_);simp only[Z6,hp];unfold setNextDrawn;refine Zc (Zc (wpAny_setState_of h1 h3 h7 ?_));dsimp only;refine ZBY (fun hab=>absurd hab (by simp)) (fun _=>?_);rw[hx];refine Zd (Zc (ZB3 ho hd (by simp) (Zd ⟨x.2,rfl,Zd (hQ _ ?_ (ZBj ..))⟩)));obtain⟨o2,ho2,hc2,hd2⟩:=Gr ho hd 1 (rawInt (i+1));exact⟨o2,ho2,hc2.trans hc,by rw[hd2];simp[rawInt]⟩
theorem RG {o ot:Obj} {es:Array (Int × Value)} {ep i tp nt:Nat} {t:SetTable} {ps:Array Value} {Q:Option Value->Shared->Prop} (hh:A.handled=none) (hit:IsSetIter s.heap I (.ref tp) i a es.size ep) (h1:s.heap.get? a=some o) (h3:o.data=.set es ep t) (h7:t.fits es.size=true)
 (ht:s.heap.get? tp=some ot) (hdt:ot.data=.seq ps nt) (hp:ps[i]? = none)
 (hQ:∀h',Heap.ExtBut I s.heap h'->Q none { s with heap:=h' }):wpAny (model P w) A (pyNext (.ref I)) Q E s:=by
 obtain⟨oi,ho,hc,hd⟩:=id hit;unfold pyNext;refine Zc (wpAny_attempt (wpAny_callSpecial?_slot (name:=Str.ofString "__next__") hit.typeIs F.slot_set_iterator_next (ZBV F.slot_set_iterator_next hit.typeIs F.entry_set_iterator_next ?_ (F.args_set_iterator_next _))));show wpAny _ _ (fieldsOf (.ref I) >>= _) _ _ s;refine Zc (wpAny_fieldsOf ho hd ?_);dsimp only;refine Zc (wpAny_setEntries_of h1 h3 h7 ?_);refine ZBY (fun hab=>absurd hab (by simp)) (fun _=>?_);refine Zc (wpAny_seqItems ht hdt ?_);simp only[Z6,hp];obtain⟨o1,ho1,hc1,hd1⟩:=Gr ho hd 0 (rawInt 0);refine Zc (ZB3 ho hd (by simp) (Zc (ZB3 ho1 hd1 (by simp) ?_)));show wpAny _ _ (newExc (.type "StopIteration") [] >>= _) _ _ _;refine Zc ?_;simp only[newExc,newTuple];refine Zc (ZBJ (Zc (m:=firstArgMember _ _) (wpAny_of_eq (a:=Value.none) (by first | rfl | (simp only[firstArgMember];rfl)) (ZBJ ?_ (by size_fits)))) (by size_fits));simp only[raiseNew];refine Zc (wpAny_handled ?_);first | rw[show A.in1.handled=none from hh] | rw[hh]
 refine Zc (Zd (wpAny_throw ?st));refine Zc (wpAny_isInstance (T:="StopIteration") (b:=true) ⟨_,Zr _ rfl,rfl⟩ isSubtype_stop ?_);exact Zd (hQ _ ((((ZBj ..).trans (ZBj ..)).extBut.push _).push _))
theorem Hu{f:Value}{i n ep:Nat}{Q:Value->Shared->Prop}(hit:IsSetIter s.heap I f i a n ep)(h:Q (.ref I) s):wpAny (model P w) A (pyIter (.ref I)) Q E s:=by
 refine wpAny_pyIter_slot hit.typeIs F.slot_set_iterator_iter (ZBV F.slot_set_iterator_iter hit.typeIs F.entry_set_iterator_iter ?_ (F.args_set_iterator_iter _));show wpAny _ _ (ret (.ref I)) _ _ s;exact Zd ⟨_,rfl,"set_iterator",_,hit.typeIs,F.slot_set_iterator_next.lookup,h⟩
end
section
variable {P:Program}{w:World}{A:Around}{E:Value->Shared->Prop}{s:Shared}{a I:Addr}
theorem Mi{l:List (Int × Value)}(h:ElemsOf (intKind P w) l){e:Int × Value}(he:e∈l):∃t,e.2=.int (numOf e.2) t:=by
 obtain⟨⟨k,hk,_⟩,_⟩:=h e he;obtain⟨t,et⟩:=Value.isInt_shape (show Value.isInt k e.2=true from hk);exact⟨t,by rw[et];rfl⟩
theorem JK{l:List (Int × Value)}(h:ElemsOf (intKind P w) l)(k:Int):k∈l.map (fun(e:Int × Value)=>numOf e.2) ↔ ∃e∈l,(intKind P w).is k e.2=true:=by
 rw[Zk];constructor
 ·rintro⟨e,he,rfl⟩;obtain⟨t,et⟩:=Mi h he;exact⟨e,he,by rw[et];exact intKind_is _ _ _ _⟩
 ·rintro⟨e,he,hk⟩;obtain⟨t,et⟩:=Value.isInt_shape (show Value.isInt k e.2=true from hk);exact⟨e,he,by rw[et];rfl⟩
theorem HL{Q:Bool->Shared->Prop}(h:Q (w.params.followText "set-order") s):wpAny (model P w) A setsByText Q E s:=by
 unfold setsByText;exact Zc (wpAny_askSetting (Zd h))
theorem LD {o:Obj} {es:Array (Int × Value)} {ep i:Nat} {t:SetTable} (hx:w.params.followText "set-order" = true) (h1:s.heap.get? a=some o) (h3:o.data=.set es ep t) (h7:t.fits es.size=true) {Q:Option (Value × Nat)->Shared->Prop}
 (h:Q (((pickOrder (w.params.setOrder a ep) es)[i]?).map fun e=>(e.2,0)) s):wpAny (model P w) A (setNext a 0 i ep) Q E s:=by
 unfold setNext;refine Zc (wpAny_setState_of h1 h3 h7 ?_);dsimp only;refine Zc (HL ?_);rw[hx];simp only[↓reduceIte];refine ZBY (fun hab=>absurd hab (by simp)) (fun _=>?_);unfold setWalk;refine Zc (Zc (wpAny_setState_of h1 h3 h7 ?_));dsimp only;refine Zc (HL ?_);rw[hx];simp only[↓reduceIte];exact Zc (wpAny_askSetting (Zd (Zd h)))
theorem OQ {o:Obj} {es:Array (Int × Value)} {ep i sl:Nat} {t:SetTable} (hx:w.params.followText "set-order" = false) (h1:s.heap.get? a=some o) (h3:o.data=.set es ep t) (h7:t.fits es.size=true) (hl:t.led=true) (hd:(!t.plain && decide (es.size > 1))=false)
 {k:Nat} (hk:SetTable.below t.place sl=k) {Q:Option (Value × Nat)->Shared->Prop}
 (h:Q (match es[k]?,t.place[k]? with | some (_,x),some j=>some (x,j+1) | _,_=>none) s):wpAny (model P w) A (setNext a sl i ep) Q E s:=by
 unfold setNext;refine Zc (wpAny_setState_of h1 h3 h7 ?_);dsimp only;refine Zc (HL ?_);rw[hx];refine ZBY (fun hab=>absurd hab (by simp)) (fun _=>?_);refine ZBY (fun hab=>absurd (show(!t.plain && decide (es.size > 1))=true from hab) (by rw[hd];simp)) (fun _=>?_);refine Zc ?_;show wpAny _ _ (if (!t.led && !es.isEmpty)=true then unsupported "set:maker-not-led" else pure ()) _ _ _;refine ZBY (fun hab=>absurd hab (by rw[hl];simp)) (fun _=>Zd ?_);subst hk;exact Zd h
noncomputable def HQ(L:List (Int × Value))(i:Nat)(v:Value):Prop:=∃t,v=.int ((L.map fun(e:Int × Value)=>numOf e.2).getD i 0) t
theorem Hl{L:List (Int × Value)}(h:ElemsOf (intKind P w) L){i:Nat}{e:Int × Value}(he:L[i]? = some e):HQ L i e.2:=by
 obtain⟨t,et⟩:=Mi h (ZBQ he);refine⟨t,?_⟩;rw[Zw,Zm,he];exact et
theorem Yb{o:Obj}{es:Array (Int × Value)}{ep:Nat}{t:SetTable}(hh:A.handled=none)(zz:a≠I)(hx:w.params.followText "set-order" = true)(h3:o.data=.set es ep t)(h4:ElemsOf (intKind P w) es.toList)(h7:t.fits es.size=true) :
 Walks P w A I [I,a] [I] es.size (HQ (pickOrder (w.params.setOrder a ep) es).toList) (fun i h=>IsSetIter h I (.int 0 0) i a es.size ep/\h.get? a=some o) where
 sub:=fun b hb=>by simp at hb;simp[hb]
 frame:=fun _ _ _ st hk=>⟨st.1.at fun o e=>hk I (by simp) o e,hk a (by simp) _ st.2⟩
 item:=fun i s Q E hi st hQ=>by
  have pm:=Ji (w.params.setOrder a ep) es;have hl:i < (pickOrder (w.params.setOrder a ep) es).size:=by rw[<- Z8,pm.length_eq,Z8];exact hi
  refine Np (slot:=0) (nx:=0) (x:=(pickOrder (w.params.setOrder a ep) es)[i].2) st.1 st.2 h3 h7 (fun A E Q q=>LD hx st.2 h3 h7 (by rw[ZB5 hl];exact q)) fun h' hit' sb=>?_
  exact hQ _ h' s.toks (Hl (h4.perm pm) (by rw[ZCM,ZB5 hl])) ⟨hit',(sb.2 a zz).trans st.2⟩ fun b o hb e=>sb.extBut b o (fun h=>hb (by simp[h])) e
 done:=fun s Q E st hQ=>by
  have pm:=Ji (w.params.setOrder a ep) es;refine MR (slot:=0) hh st.1 st.2 h3 h7 (fun A E Q q=>LD hx st.2 h3 h7 ?_) fun h' he'=>hQ h' s.toks fun b o hb e=>he' b o (fun h=>hb (by simp[h])) e
  rw[Array.getElem?_eq_none (by rw[<- Z8,pm.length_eq,Z8];exact Zf _)];exact q
 self:=fun _ _ _ _ st hQ=>Hu st.1 hQ
noncomputable def G2(t:SetTable)(i:Nat):Nat:=match i with | 0=>0 | k+1=>t.place.getD k 0+1
theorem PP{t:SetTable}(g:Ris t.place){i:Nat}(h:i<=t.place.size):SetTable.below t.place (G2 t i)=i:=by
 cases i with
 | zero=>exact Vi g
 | succ k=>exact QY g h
theorem Vb{o:Obj}{es:Array (Int × Value)}{ep:Nat}{t:SetTable}(hh:A.handled=none)(zz:a≠I)(hx:w.params.followText "set-order" = false)(hd:(!t.plain && decide (es.size > 1))=false)(h3:o.data=.set es ep t)(h4:ElemsOf (intKind P w) es.toList)(h7:t.fits es.size=true)(g:TabG w t) :
 Walks P w A I [I,a] [I] es.size (HQ es.toList) (fun i h=>IsSetIter h I (.int (G2 t i) 0) i a es.size ep/\h.get? a=some o) where
 sub:=fun b hb=>by simp at hb;simp[hb]
 frame:=fun _ _ _ st hk=>⟨st.1.at fun o e=>hk I (by simp) o e,hk a (by simp) _ st.2⟩
 item:=fun i s Q E hi st hQ=>by
  have hz:t.place.size=es.size:=by have:=h7;unfold SetTable.fits at this;simp at this;exact this.1
  have hl:t.led=true:=by rw[g.led,hx];rfl
  refine Np (nx:=G2 t (i+1)) (x:=es[i].2) st.1 st.2 h3 h7 (fun A E Q q=>OQ hx st.2 h3 h7 hl hd (PP g.ris (by lia)) ?_) fun h' hit' sb=>?_
  ·rw[ZB5 hi,ZB5 (show i < t.place.size by lia)];have e:G2 t (i+1)=t.place[i]+1:=by show t.place.getD i 0+1=_;simp[Array.getD,show i < t.place.size by lia]
   rw[e]at q;exact q
  ·exact hQ _ h' s.toks (Hl h4 (by rw[ZCM,ZB5 hi])) ⟨hit',(sb.2 a zz).trans st.2⟩ fun b o hb e=>sb.extBut b o (fun h=>hb (by simp[h])) e
 done:=fun s Q E st hQ=>by
  have hz:t.place.size=es.size:=by have:=h7;unfold SetTable.fits at this;simp at this;exact this.1
  have hl:t.led=true:=by rw[g.led,hx];rfl
  refine MR hh st.1 st.2 h3 h7 (fun A E Q q=>OQ hx st.2 h3 h7 hl hd (PP g.ris (by lia)) ?_) fun h' he'=>hQ h' s.toks fun b o hb e=>he' b o (fun h=>hb (by simp[h])) e
  rw[Array.getElem?_eq_none (Zf _)];exact q
 self:=fun _ _ _ _ st hQ=>Hu st.1 hQ
theorem Lj{α:Type}(es:Array α):∀(l:List Nat),(∀x∈l,x < es.size)->∀i:Nat,(l.filterMap (es[·]?))[i]? = (l[i]?).bind (es[·]?)
 | [],_,i=>by simp
 | x::r,hx,i=>by
  have hx0:x < es.size:=hx x ZBD;rw[ZB7,ZB5 hx0];cases i with
  | zero=>simp[hx0]
  | succ j=>simpa using Lj es r (fun y hy=>hx y (Zz _ hy)) j
theorem WT {o ot:Obj} {es:Array (Int × Value)} {ep tp nt:Nat} {t:SetTable} {ps:List Nat} (hh:A.handled=none) (zz:a≠I) (hnt:tp≠I) (h3:o.data=.set es ep t) (h4:ElemsOf (intKind P w) es.toList) (h7:t.fits es.size=true)
 (hdt:ot.data=.seq (ps.map fun(i:Nat)=>rawInt i).toArray nt) (hp:ps.Perm (List.range es.size)) :
 Walks P w A I [I,a,tp] [I] es.size (HQ (ps.filterMap (es[·]?))) (fun i h=>IsSetIter h I (.ref tp) i a es.size ep/\h.get? a=some o/\h.get? tp=some ot) where
 sub:=fun b hb=>by simp at hb;simp[hb]
 frame:=fun _ _ _ st hk=>⟨st.1.at fun o e=>hk I (by simp) o e,hk a (by simp) _ st.2.1,hk tp (by simp) _ st.2.2⟩
 item:=fun i s Q E hi st hQ=>by
  have hl:ps.length=es.size:=by rw[hp.length_eq,ZBk]
  have hi':i < ps.length:=by lia
  have hpi:ps[i] < es.size:=Z1.mp (hp.mem_iff.mp (ZBK hi'));have pm:(ps.filterMap (es[·]?)).Perm es.toList:=(hp.filterMap _).trans (by rw[filterMap_getElem?_range]);refine YN (p:=ps[i]) (x:=es[ps[i]]) st.1 st.2.1 h3 h7 st.2.2 hdt (by simp[hi',rawInt]) (ZB5 hpi) fun h' hit' sb=>?_
  exact hQ _ h' s.toks (Hl (h4.perm pm) (by rw[Lj es ps (fun x hx=>Z1.mp (hp.mem_iff.mp hx)) i,Zg hi'];exact ZB5 hpi)) ⟨hit',(sb.2 a zz).trans st.2.1,(sb.2 tp hnt).trans st.2.2⟩ fun b o hb e=>sb.extBut b o (fun h=>hb (by simp[h])) e
 done:=fun s Q E st hQ=>by
  have hl:ps.length=es.size:=by rw[hp.length_eq,ZBk]
  exact RG hh st.1 st.2.1 h3 h7 st.2.2 hdt (by simp[hl]) fun h' he'=>hQ h' s.toks fun b o hb e=>he' b o (fun h=>hb (by simp[h])) e
 self:=fun _ _ _ _ st hQ=>Hu st.1 hQ
theorem Rv {S:Int->Bool} {n:Nat} {Q:Value->Shared->Prop} (hS:SetW P w s.heap a S n)
 (fin:∀(h':Heap) d (I:Addr) (fp:List Addr) (St:Nat->Heap->Prop) (ms:List Int),ms.length=n->(∀k,k∈ms ↔ S k=true)->(∀b o,s.heap.get? b=some o->h'.get? b=some o)->s.heap.objs.size<=I->(∀b∈fp,b=a\/s.heap.objs.size<=b) ->
   (∀A:Around,A.handled=none->Walks P w A I fp [I] n (fun i v=>∃t,v=.int (ms.getD i 0) t) St)->St 0 h'->Q (.ref I) { s with heap:=h',drawn:=d }):wpAny (model P w) A (pyIter (.ref a)) Q E s:=by
 obtain⟨o,es,ep,t,h1,h2,h3,h4,h5,h6,h7,h8,g⟩:=hS;have hT:s.TypeIs (.ref a) "set":=⟨o,h1,h2.1⟩;have zm:=Zj h1;subst h8;refine wpAny_pyIter_slot hT PySem.F.slot_set_iter (ZBV PySem.F.slot_set_iter hT F.entry_set_iter ?_ (PySem.F.args_set_iter_1 _));show wpAny _ _ (Builtin.Frozenset.sizeOf a >>= _) _ _ s;refine Zc (Zc (wpAny_setEntries_of h1 h3 h7 (Zd ?_)));show wpAny _ _ (setDrawn a >>= _) _ _ s;unfold setDrawn;refine Zc (Zc (wpAny_setState_of h1 h3 h7 ?_));dsimp only;refine Zc (HL (Zd ?_));cases hx:w.params.followText "set-order" with
 | true =>
  refine ZBY (fun hab=>absurd hab (by simp)) (fun _=>?_);refine Zc (Zd (Zc (wpAny_setEpoch_of h1 h3 h7 ?_)));have pm:=Ji (w.params.setOrder a ep) es;refine Zc (ZBJ (Zd ⟨_,rfl,"set_iterator",_,⟨_,Zr _ rfl,rfl⟩,F.slot_set_iterator_next.lookup,?_⟩))
  refine fin _ s.drawn s.heap.objs.size [s.heap.objs.size,a] _ ((pickOrder (w.params.setOrder a ep) es).toList.map fun(e:Int × Value)=>numOf e.2) (by rw[Ze,pm.length_eq,Z8]) (fun k=>by rw[JK (h4.perm pm),h5 k];exact⟨fun⟨e,x,y⟩=>⟨e,pm.mem_iff.mp x,y⟩,fun⟨e,x,y⟩=>⟨e,pm.mem_iff.mpr x,y⟩⟩) (fun b o e=>Zi _ e) (Zf _)
   (fun b hb=>by simp at hb;rcases hb with rfl | rfl <;> simp) (fun A hh=>Yb hh (Zs zm) hx h3 h4 h7) ⟨⟨_,Zr _ rfl,rfl,rfl⟩,Zi _ h1⟩
 | false =>
  by_cases hd:(!t.plain && decide (es.size > 1))=true
  ·refine ZBY (fun _=>?_) (fun hab=>absurd (show(!false && (!t.plain && decide (es.size > 1)))=true by rw[hd];rfl) hab);refine Zc (ME es.size (List.range es.size) _ _ (by simp) fun ps d hp=>?_);refine Zc (wpAny_newTuple ?_ (by rw[Ze,hp.length_eq,ZBk];exact fits_of_scanBound h6));refine Zc (wpAny_setEpoch_of (Zi _ h1) h3 h7 ?_);have pm:(ps.filterMap (es[·]?)).Perm es.toList:=(hp.filterMap _).trans (by rw[filterMap_getElem?_range]);refine Zc (ZBJ (Zd ⟨_,rfl,"set_iterator",_,⟨_,Zr _ rfl,rfl⟩,F.slot_set_iterator_next.lookup,?_⟩))
   refine fin _ d (s.heap.push { cls:=.type "tuple",data:=.seq (ps.map fun(i:Nat)=>rawInt i).toArray }).objs.size [(s.heap.push { cls:=.type "tuple",data:=.seq (ps.map fun(i:Nat)=>rawInt i).toArray }).objs.size,a,s.heap.objs.size] _ ((ps.filterMap (es[·]?)).map fun(e:Int × Value)=>numOf e.2) (by rw[Ze,pm.length_eq,Z8])
    (fun k=>by rw[JK (h4.perm pm),h5 k];exact⟨fun⟨e,x,y⟩=>⟨e,pm.mem_iff.mp x,y⟩,fun⟨e,x,y⟩=>⟨e,pm.mem_iff.mpr x,y⟩⟩) (fun b o e=>Zi _ (Zi _ e)) (by rw[ZBP];exact ZBz _)
    (fun b hb=>by rw[ZBP]at hb;simp at hb;rcases hb with rfl | rfl | rfl <;> simp) (fun A hh=>WT hh (by rw[ZBP];exact Zs (ZB4 zm)) (by rw[ZBP];exact Zs (ZBb _)) h3 h4 h7 rfl hp)
    ⟨⟨_,Zr _ rfl,rfl,rfl⟩,Zi _ (Zi _ h1),Zi _ (Zr _ rfl)⟩
  ·have hd':(!t.plain && decide (es.size > 1))=false:=by simpa using hd
   refine ZBY (fun hab=>absurd (show(!t.plain && decide (es.size > 1))=true from hab) (by rw[hd'];simp)) (fun _=>?_);refine Zc (Zd (Zc (wpAny_setEpoch_of h1 h3 h7 ?_)));refine Zc (ZBJ (Zd ⟨_,rfl,"set_iterator",_,⟨_,Zr _ rfl,rfl⟩,F.slot_set_iterator_next.lookup,?_⟩))
   refine fin _ s.drawn s.heap.objs.size [s.heap.objs.size,a] _ (es.toList.map fun(e:Int × Value)=>numOf e.2) (by rw[Ze,Z8]) (fun k=>by rw[JK h4,h5 k]) (fun b o e=>Zi _ e) (Zf _)
    (fun b hb=>by simp at hb;rcases hb with rfl | rfl <;> simp) (fun A hh=>Vb hh (Zs zm) hx hd' h3 h4 h7 g) ⟨⟨_,Zr _ rfl,rfl,rfl⟩,Zi _ h1⟩
end
end L2
namespace L2
open PySem PySem.Spec PyProof.Rows PySem.W PySem.Calls
section
variable {P:Program}{w:World}{A:Around}{E:Value->Shared->Prop}{s:Shared}{a I:Addr}
theorem We{Q:Bool->Shared->Prop}(hT:s.TypeIs (.ref a) "set")(h:Q false s):wpAny (model P w) A (Builtin.List.listLengthHint (.ref a)) Q E s:=by
 unfold Builtin.List.listLengthHint;refine Zc (wpAny_specialOf hT PySem.F.slot_set_len.lookup ?_);generalize hid:("set.__len__" : String)=id0
 wp_delta
 rw[show splitId id0=some ("set","__len__") from by subst hid;decide +kernel];subst hid;refine Zc (wpAny_isInstance (T:="set") (b:=true) hT (by rw[isSubtype_type];kernel_rfl) ?_);refine ZBY (fun hab=>absurd hab (by decide)) (fun _=>ZBY (fun _=>Zc (wpAny_typeOf hT (Zd h))) (fun hab=>absurd (by decide +kernel) hab))
theorem Qr {R:Result->Shared->Prop} {S:Int->Bool} {n:Nat} {l:Addr} {c0:Nat} (hh:A.handled=none) (hS:SetW P w s.heap a S n) (hn:n<=sizeLine) (hl:s.heap.get? l=some { cls:=.type "list",data:=.seq #[] c0 }) (res:Value)
 (fin:∀(h':Heap) d tk (zq:Array Value) (c:Nat) (ms:List Int),ms.length=n->(∀k,k∈ms ↔ S k=true)->(∀b o,b≠l->s.heap.get? b=some o->h'.get? b=some o)->h'.get? l=some { cls:=.type "list",dict:=none,data:=.seq zq c,slots:=#[] } ->
   ItemsOf (fun i v=>∃t,v=.int (ms.getD i 0) t) zq n->R (.ok (.ret res)) { s with heap:=h',drawn:=d,toks:=tk }) :
 wpAny (model P w) A.in1 (Builtin.List.listExtendWith (.ref l) (.ref a) res)
  (fun fin s'=>match fin with | .done f=>R (.ok f) s' | .again c'=>c'.quiet=true/\codeAny (model P w) A c' R s') (fun e s'=>R (.error e) s') s:=by
 have hT:s.TypeIs (.ref a) "set":=hS.of.typeIs
 have hla:l≠a:=fun e=>by
  obtain⟨o,es,ep,t,h1,h2,_⟩:=hS;rw[<- e,hl]at h1;cases h1;exact absurd h2.1 (show ¬(Value.type "list" = Value.type "set") by decide)
 unfold Builtin.List.listExtendWith;refine Zc (wpAny_typeOf (T:="set") hT ?_);have e1:Builtin.List.listSameRef (.ref l) (.ref a)=false:=by simp[Builtin.List.listSameRef,hla]
 have e2:(Value.type "set" == Value.type "list")=false:=by decide
 have e3:(Value.type "set" == Value.type "tuple")=false:=by decide
 simp only[e1,e2,e3,Bool.or_false,ZCh,if_false];refine Zc (Rv hS fun h1 d I fp St ms hm1 hm2 hk hI hfp W st=>?_)
 have hlf:l∉fp:=fun z=>by
  rcases hfp l z with q | q
  ·exact hla q
  ·exact absurd (Zj hl) (Nat.not_lt.mpr q)
 have key:∀(h2:Heap) (c1 tk:Nat),St 0 h2->(∀b o,b≠l->s.heap.get? b=some o->h2.get? b=some o)->h2.get? l=some { cls:=.type "list",data:=.seq #[] c1 } ->
  codeAny (model P w) A (.builtin "list.extend.loop" ⟨[.ref l,.ref I,res],[]⟩) R { s with heap:=h2,drawn:=d,toks:=tk }:=fun h2 c1 tk st2 hk2 hl2=>by
  refine codeAny_extend_loopS (W A.in1 hh).toS hn l hlf res n 0 _ #[] c1 rfl (Zu _) st2 hl2 (ItemsOf.nil _) fun s' zq c hm hs' hacc=>?_
  rw[Moved.eq_with hm];refine fin s'.heap d s'.toks zq c ms hm1 hm2 (fun b o hb e=>hm.heap b o (fun z=>?_) (hk2 b o hb e)) hs' hacc
  rcases Zh.mp z with q | q
  ·exact hb q
  ·rw[Zq]at q;exact absurd (Zj e) (by rw[q];exact Nat.not_lt.mpr hI)
 have hl1:=hk _ _ hl;refine Zc (ZBA (We (SetW.of (hS.at fun o e=>hk _ _ e)).typeIs ?_));refine ZBY (fun _=>?_) (fun _=>Zd ⟨ZBg PySem.F.plain_extend_loop _,key _ c0 _ st (fun b o _ e=>hk b o e) hl1⟩);refine Zc (wpAny_rule (Zc ?_));show wpAny _ _ (updateSeq l (·.push .none) >>= fun _=>updateSeq l (·.pop)) _ _ _;have g1:=ZCB (Obj.mapSeq (·.push Value.none)) hl1 rfl;have g2:=ZCB (Obj.mapSeq (·.pop)) g1 rfl;refine Zc (wpAny_updateSeq hl1 rfl (wpAny_updateSeq (hz:=by seq_fits) g1 rfl (Zd ⟨ZBg PySem.F.plain_extend_loop _,key _ _ _ ?_ (fun b o hb e=>?_) g2⟩)))
 ·refine(W A hh).frame 0 _ _ st fun b hb o e=>?_
  have hbl:b≠l:=fun h=>hlf (h ▸ hb)
  exact(ZBr _ _ (Ne.symm hbl)).trans ((ZBr _ _ (Ne.symm hbl)).trans e)
 ·exact(ZBr _ _ (Ne.symm hb)).trans ((ZBr _ _ (Ne.symm hb)).trans (hk b o e))
theorem Y7 {S:Int->Bool} {n:Nat} {R:List Value->Shared->Prop} (hh:A.handled=none) (hS:SetW P w s.heap a S n) (hn:n<=sizeLine)
 (fin:∀(h':Heap) d tk (zq:Array Value) (ms:List Int),ms.length=n->(∀k,k∈ms ↔ S k=true)->(∀b o,s.heap.get? b=some o->h'.get? b=some o)->s.heap.objs.size < h'.objs.size->ItemsOf (fun i v=>∃t,v=.int (ms.getD i 0) t) zq n->R zq.toList { s with heap:=h',drawn:=d,toks:=tk }) :
 wpAny (model P w) A (collect (.ref a)) R E s:=by
 unfold collect;refine Zc (wpAny_runValue (ZBR entry_proto_collect' ?_));rw[ZBf PySem.F.plain_proto_collect _];show wpAny _ A.in1 (newList [] >>= fun l=>again (.builtin "list.__iadd__" ⟨[l,.ref a],[]⟩)) _ _ s;refine Zc (ZBJ (Zd ⟨ZBg PySem.F.plain_list_iadd _,ZBR entry_list_iadd' ?_⟩));rw[ZBf PySem.F.plain_list_iadd _];have g1:(s.heap.push { cls:=.type "list",data:=.seq ([]:List Value).toArray }).get? s.heap.objs.size=some { cls:=.type "list",data:=.seq #[] }:=Zr _ rfl;show wpAny _ A.in1 (Builtin.List.listExtendWith (.ref s.heap.objs.size) (.ref a) (.ref s.heap.objs.size)) _ _ _
 refine ZBH (Qr (A:=A) (s:={ s with heap:=s.heap.push { cls:=.type "list",data:=.seq ([]:List Value).toArray } })
  (R:=fun(q:Result) (s':Shared)=>∃(h':Heap) (d:_) (tk:Nat) (zq:Array Value) (c:Nat) (ms:List Int),q=.ok (.ret (.ref s.heap.objs.size))/\s' = { s with heap:=h',drawn:=d,toks:=tk } /\ ms.length=n/\(∀k,k∈ms ↔ S k=true) /\
    (∀b o,s.heap.get? b=some o->h'.get? b=some o)/\h'.get? s.heap.objs.size=some { cls:=.type "list",dict:=none,data:=.seq zq c,slots:=#[] } /\ ItemsOf (fun i v=>∃t,v=.int (ms.getD i 0) t) zq n)
  hh (hS.at fun o e=>Zi _ e) hn g1 (.ref s.heap.objs.size) fun h' d tk zq c ms m1 m2 hk g2 hacc=>⟨h',d,tk,zq,c,ms,rfl,rfl,m1,m2,fun b o e=>hk b o (Zs (Zj e)) (Zi _ e),g2,hacc⟩) (fun fn s' x=>?_) fun e s' x=>?_
 ·cases fn with
  | done f =>
   obtain⟨h',d,tk,zq,c,ms,e,rfl,m1,m2,hk,g2,hacc⟩:=x;cases e;show wpAny _ A (load s.heap.objs.size >>= _) _ _ _;exact Zc (wpAny_load g2 (Zd (fin h' d tk zq ms m1 m2 hk (Zj g2) hacc)))
  | again c₁ =>
   refine⟨x.1,ZBm x.2 fun q s₂ y=>?_⟩;obtain⟨h',d,tk,zq,c,ms,rfl,rfl,m1,m2,hk,g2,hacc⟩:=y;show wpAny _ A (load s.heap.objs.size >>= _) _ _ _;exact Zc (wpAny_load g2 (Zd (fin h' d tk zq ms m1 m2 hk (Zj g2) hacc)))
 ·obtain⟨_,_,_,_,_,_,e',_⟩:=x;cases e'
theorem Sv{zq:Array Value}{ms:List Int}(h:ItemsOf (fun i v=>∃t,v=.int (ms.getD i 0) t) zq ms.length):IntsAre zq.toList ms:=by
 have e:zq.toList.map numOf=ms:=by
  apply List.ext_getElem
  ·rw[Ze,Z8,h.1]
  ·intro i h1 h2;rw[List.getElem_map];have h3:i < zq.size:=by rw[h.1];exact h2
   obtain⟨t,et⟩:=h.2 i zq[i] (by simp[h3]);rw[Array.getElem_toList,et];show ms.getD i 0=_;rw[Zw,Zg h2];rfl
 have:=intsAre_map zq.toList (fun v hv=>by
  obtain⟨i,hi,ei⟩:=ZBG hv;obtain⟨t,et⟩:=h.2 i v (by rw[<- ZCM,Zg hi,ei]);exact⟨_,t,et⟩)
 rw[e]at this;exact this
theorem X8 {S:Int->Bool} {n:Nat} {Q:Value->Shared->Prop} (hh:A.handled=none) (hS:SetW P w s.heap a S n) (h64:n < 64)
 (fin:∀(h':Heap) d tk (p:Addr) (ms:List Int) (out:Array Value) (e:Nat),ms.length=n->(∀k,k∈ms ↔ S k=true)->ms.Pairwise (· <= ·)->IntsAre out.toList ms->h'.get? p=some (seqObj "list" out e)->s.heap.objs.size<=p->(∀b o,s.heap.get? b=some o->h'.get? b=some o)->Q (.ref p) { s with heap:=h',drawn:=d,toks:=tk }) :
 wpAny (model P w) A (call (.builtin "sorted") [.ref a]) Q E s:=by
 have hz:n<=sizeLine:=ZBU (ZBa h64) (by decide);refine call_function_entry kind_sorted plain_sorted entry_sorted (args_sorted1 _) ?_;unfold Builtin.«sorted»;refine Zc (m:=checkCount "sorted" 1 1 _) (Zd (Zc (Y7 (A:=A.in1) hh hS hz fun h' d tk zq ms m1 m2 hk zm hacc=>?_)));subst m1;have hI:=Sv hacc;have hl:zq.toList.length=ms.length:=by rw[Z8,hacc.1]
 refine Zc (wpAny_newList ?_ (by rw[hl];exact hz));have hoL:(h'.push (seqObj "list" zq.toList.toArray 0)).get? h'.objs.size=some (seqObj "list" zq.toList.toArray 0):=Zr _ rfl;refine Zc (ZBA (ZBV slot_list_sort ⟨_,hoL,rfl⟩ entry_list_sort (list_sort_tree hoL hI (by lia) fun out ns' a1 a2 a3=>⟨_,rfl,?_⟩) (args_list_sort _)));obtain⟨e,he⟩:=sortedHeap_at (out:=out) hoL;refine Zd ⟨_,rfl,fin _ d tk h'.objs.size ns' out e (a2.length_eq) (fun k=>by rw[a2.mem_iff];exact m2 k) a3 a1 he (ZBa zm) fun b o q=>?_⟩;have hb:=hk b o q;have hlt2:=Zj hb;rw[sortedHeap_old (Zs hlt2) (by rw[ZBP];exact ZB4 hlt2)];exact Zi _ hb
end
end L2
namespace L2
open PySem PySem.Spec PyProof.Rows
noncomputable def DB(P:Program)(w:World)(a:Addr)(ds:List Int):Heap->Prop:=fun h=>SetW P w h a (fun k=>ds.any (· == k)) ds.length
theorem RJ{P:Program}{w:World}{H:Hp}{h:Heap}{a:Addr}{ds:List Int}(x:DB P w a ds h):ObjOk P w H h a (.ext (DB P w a ds)) :=
 ⟨x,(by obtain⟨o,_,_,_,e,_⟩:=x;exact⟨o,e⟩),fun h1 h2 y k=>SetW.at y k⟩
noncomputable def Lv(K:W.Frag)(P:Program)(w:World):List V->Hp->VK->Prop:=fun xs H Q=>match xs with
 | [.ref p]=>∃ns:List Int,zt K H p (ns.map V.int)/\ns.length<=1000/\∀(ds:List Int) q,ds.Nodup->(∀k,k∈ds ↔ k∈ns)->H q=none->Q (.ref q) (upd H q (.ext (DB P w q ds)))
 | _=>False
noncomputable def MD(P:Program)(w:World):List V->Hp->VK->Prop:=fun xs H Q=>match xs with
 | [.ref p]=>∃ds:List Int,H p=some (.ext (DB P w p ds))/\ds.length < 64/\∀(ms:List Int) q,ms.length=ds.length->(∀k,k∈ms ↔ k∈ds)->ms.Pairwise (· <= ·)->H q=none->Q (.ref q) (upd H q (.lst (ms.map V.int)))
 | _=>False
section
variable {X:Cx}{K:W.Frag}{P:Program}{w:World}
theorem zg.drew{za:List (Addr × Obj)}{Z:List (Option V)}{H:Hp}{s:Shared}(I:zg X za Z H s)(d:Drawn):zg X za Z H { s with drawn:=d }:=⟨I.ok,I.os,I.bare,I.base,I.loc,I.cell,I.free,I.freeC,I.pin,I.hok,I.len⟩
theorem TB(hh:X.calm=true):CallR X (.type "set") (Lv X.K X.prog X.w):=by
 intro za s Z H xs us Q I r h
 match xs,h with
 | [.ref p],h =>
 obtain⟨ns,hq,hn,q⟩:=h;obtain⟨u,rfl,rx⟩:=BO r;cases rx;obtain⟨ze,rv,pl,hz⟩:=I.tuple hq;have hi:IntsAre ze ns:=by simpa using EV rv
 have zk:ze.length=ns.length:=by rw[<- rv.length,Ze]
 refine YW (ns:=ns) (I.ok.hd hh) pl (by simpa using hi) (by rw[Zo,zk];show ns.length+1 < 4096;lia) fun h' tk hs hk=>?_
 have hsz:ze.toArray.size=ns.length:=by rw[Zo,zk]
 rw[hsz]at hs;exact⟨.ref s.heap.objs.size,_,I.laid (t':=tk) (o:=.ext (DB X.prog X.w s.heap.objs.size (firstMet (fun i=>ns.getD i 0) ns.length))) (fun b o e=>hk b o (Zj e) e) (Zf _) (RJ hs),rfl,q _ _ (Jz _ _) (MJ ns) (I.hok.fresh (Zf _))⟩
theorem SJ(hh:X.calm=true)(hK:X.K=K:=by rfl)(hP:X.prog=P:=by rfl)(hw:X.w=w:=by rfl):CallR X (.type "set") (Lv K P w):=by subst hK hP hw;exact TB hh
theorem Ui(hh:X.calm=true):CallR X (.builtin "sorted") (MD X.prog X.w):=by
 intro za s Z H xs us Q I r h
 match xs,h with
 | [.ref p],h =>
 obtain⟨ds,hq,hn,q⟩:=h;obtain⟨u,rfl,rx⟩:=BO r;cases rx;obtain⟨hs,_⟩:=(show ObjOk X.prog X.w H s.heap p (.ext (DB X.prog X.w p ds)) from I.hok p _ hq);refine X8 (I.ok.hd hh) hs hn fun h' d tk b ms out e m1 m2 m3 hi hb hp hk=>?_
 refine⟨.ref b,_,(I.laid (t':=tk) (o:=.lst (ms.map V.int)) (fun b o e=>hk b o e) hp ?_).drew d,rfl,q ms _ m1 (fun k=>(m2 k).trans (by simp)) m3 (I.hok.fresh hp)⟩;exact⟨by rw[Ze,m1];exact ZBU (ZBa hn) (by decide),out.toList,e,Pg hi,hb⟩
theorem Te(hh:X.calm=true)(hP:X.prog=P:=by rfl)(hw:X.w=w:=by rfl):CallR X (.builtin "sorted") (MD P w):=by subst hP hw;exact Ui hh
noncomputable def O8(C:Addr)(ta:TE)(f:Str):TE:=fun Z H Q=>ta Z H fun x H1=>match x with
 | .ref a=>∃dx fs v,H1 a=some (.ins C dx fs)/\fs.lookup f=some v/\Q v H1
 | _=>False
noncomputable def Xl(C:Addr)(ta tv:TE)(f:Str):TS:=fun D Z H=>tv Z H fun y H1=>ta Z H1 fun x H2=>match x with
 | .ref a=>∃dx fs,H2 a=some (.ins C dx fs)/\fs.length < 1000/\D.nx Z (upd H2 a (.ins C dx (AW f y fs)))
 | _=>False
variable {C:Addr}{f:Str}{e o value:Expr}{ta tv td ty:TE}{pos pos':Pos}
theorem BN(c:Cls K C)(n:NoAttr K C f)(he:PE X e ta)(hK:X.K=K:=by rfl)(hb:attributeBase e f X.env (eval e X.env)=eval e X.env:=by rfl):PE X (.Attribute e f pos) (O8 C ta f):=by
 subst hK;intro za s Z H Q I h;refine RT hb (zn (he za s Z H _ I h) fun u s1 ⟨x,H1,I1,rx,q⟩=>?_)
 match x,q with
 | .ref a,⟨dx,fs,v,ea,l,q⟩ =>
 obtain rfl:u=Value.ref a:=rx;exact UG I1 ea c n l fun u' s2 I2 ru=>⟨v,H1,I2,ru,q⟩
theorem Dt(c:Cls K C)(n:NoAttr K C f)(ha:PE X o ta)(hv:PE X value tv)(hK:X.K=K:=by rfl)(hs:swapsWith value (some (.Attribute o f pos')) pos.line X.env=pure false:=by rfl):PS X (.Assign [.Attribute o f pos'] value pos) (Xl C ta tv f):=by
 subst hK;intro za s Z H D I h;refine plainObj_wpAny_Assign_Attribute (zn (hv za s Z H _ I h) fun u s1 ⟨y,H1,I1,ry,q⟩=>zn (ha za s1 Z H1 _ I1 q) fun ov s2 ⟨x,H2,I2,rx,q2⟩=>?_) hs
 match x,q2 with
 | .ref a,⟨dx,fs,ea,l,q2⟩ =>
 obtain rfl:ov=Value.ref a:=rx;exact Sd I2 ea c n l ry fun s3 I3=>⟨Z,_,I3,q2⟩
theorem YI(h:AY ta):AY (O8 C ta f):=fun Z H Q Q' k q=>h _ _ _ _ (fun v H1 q=>by
 cases v <;> first | exact q.elim | (obtain⟨dx,fs,v,a,b,q⟩:=q;exact⟨dx,fs,v,a,b,k _ _ q⟩)) q
theorem UX{m:Str}{sp:Sp}{dvs:List V}{E:XK}{t:TA}(hs:AK sp)(h1:AY ta)(h2:Bu t):AY (IE C m sp dvs E ta t):=fun Z H Q Q' h q =>
 h1 _ _ _ _ (fun v H1 ⟨a,dx,fs,e1,e2,e3,q⟩=>⟨a,dx,fs,e1,e2,e3,h2 _ _ _ _ (fun _ _ q=>hs _ _ _ _ _ h q) q⟩) q
noncomputable def Ig(neg:Bool):R2:=fun y x H Q=>match x with
 | .ref a=>∃o,DGet H a y o/\Q (.bl (xor neg o.isSome)) H
 | _=>False
theorem GV(hu:X.A.units+60 < cLine):zy X (compareOp .NotIn) (Ig true):=by
 intro za s Z H y x v u Q I ry rx q
 match x,q with
 | .ref a,⟨o,g,q⟩ =>
 obtain rfl:u=Value.ref a:=rx;exact P8 (Cb hu) I g ry fun s3 I3=>⟨.bl (!o.isSome),H,I3,rfl,(by cases o <;> exact q)⟩
theorem ZM{b:Bool}:Ba (Ig b):=fun x y H Q Q' h q=>by
 unfold Ig at *;split at q
 ·obtain⟨o,a,q⟩:=q;exact⟨o,a,h _ _ q⟩
 ·exact q.elim
end
theorem TM:AY On:=fun Z H Q Q' h q p hp=>h _ _ (q p hp)
end L2
namespace L2
open PySem PySem.Spec PyProof.Rows PySem.W
noncomputable def GQ(K:W.Frag)(base:Heap)(f:Addr):Prop:=PySem.W.keepIn K (.ref f)=true\/∃o fd,base.get? f=some o/\o.data=.func fd
noncomputable def Li(f:Addr)(sp:Sp)(tn:TE)(t:TA):TE:=fun Z H Q=>tn Z H fun v H1=>v=.ref f/\t Z H1 fun vs H2=>sp vs H2 Q E0
section
variable {X:Cx}{k:Nat}{f:Addr}{fd:FuncData}{ps:List Str}{sp:Sp}{x:Str}{p pos:Pos}{e:Expr}{es:List Expr}{t:TA}{tn:TE}
theorem K7 (hn:PE X (.Name x p) tn) (F:FnOk X.prog X.w X.K X.mg X.base CX0 k f fd ps sp) (hr:Room k X.A) (hf:GQ X.K X.base f) (hb:Binds X.K fd ps []) (ha:PA X (e::es) t)
 (he:starEach (e::es) X.env=(false,eval e X.env)::starEach es X.env:=by rfl) (hpl:(backTo pos (starEach es X.env)).any (·.1)=false:=by rfl) :
 PE X (.Call (.Name x p) (e::es) [] pos) (Li f sp tn t):=by
 intro za s Z H Q I h;refine wpAny_Call_Name_kw (zn (hn za s Z H _ I h) fun v s1 ⟨y,H1,I1,r1,q1⟩=>?_);obtain⟨rfl,q1⟩:=q1;cases r1
 have fin:∀(us:List Value) (s2:Shared),(∃vs H2,zg X za Z H2 s2/\zj vs us/\sp vs H2 Q E0)->wpAny (model X.prog X.w) X.A (call (.ref f) us) (EP X za Z Q) X.xe s2:=fun us s2 ⟨vs,H2,I2,r,q⟩ =>
  HI F hr hb .nil AG I2 r (by rw[ZBI];exact q)
 rcases hf with hk | ⟨o,fd',e1,e2⟩
 ·refine PySem.W.callWith_K (h₀:=X.base) I.ok.mod.kin hk (zn (ha pos za s1 Z H1 _ I1 q1) fun us s2 ⟨vs,H2,I2,r,q⟩=>⟨I2.kIn,fin us s2 ⟨vs,H2,I2,r,q⟩⟩) he hpl
 ·have h0:=zn (ha pos za s1 Z H1 _ I1 q1) fun us s2 ⟨vs,H2,I2,r,q⟩=>(show s2.heap.get? f=some o/\wpAny (model X.prog X.w) X.A (call (.ref f) ([]++us)) (EP X za Z Q) X.xe s2 from⟨I2.bk _ _ e1,fin us s2 ⟨vs,H2,I2,r,q⟩⟩)
  rw[he]at h0 ⊢;refine callWith_of (P:=fun h=>h.get? f=some o) (by show((false || (backTo pos (starEach es X.env)).any (·.1)) || false)=false;rw[hpl];rfl) (fun h hh=>⟨.frame,.inl rfl,(Looks.ld (part:=none) hh).andThen ?_⟩) (Calls.evalArgs_plain h0);rw[e2];exact .now
theorem Ts(h1:AY tn)(h2:Bu t)(hs:AK sp):AY (Li f sp tn t):=fun Z H Q Q' k q=>h1 _ _ _ _ (fun v H1 q=>⟨q.1,h2 _ _ _ _ (fun vs H2 q=>hs vs H2 Q Q' E0 k q) q.2⟩) q
end
section
variable {X:Cx}{za:List (Addr × Obj)}{Z:St}{H:Hp}{s:Shared}
theorem zg.pin1(I:zg X za Z H s){a:Addr}{o:Obj}(ha:s.heap.get? a=some o)(n:H a=none)(h1:a≠X.env.locals)(h2:a∉X.fs)(h3:∀v,o.data≠.cell v):zg X ((a,o)::za) Z H s:=by
 refine⟨I.ok,I.os,I.bare,I.base,I.loc,I.cell,I.free,I.freeC,fun p hp=>?_,I.hok,I.len⟩
 rcases ZBE.mp hp with z | z
 ·exact I.pin p (ZBO _ z)
 ·rcases Zh.mp z with rfl | z
  ·exact⟨ha,n,h1,h2,h3⟩
  ·exact I.pin p (Zx _ z)
theorem zg.unpin1{q:Addr × Obj}(I:zg X (q::za) Z H s):zg X za Z H s:=by
 refine⟨I.ok,I.os,I.bare,I.base,I.loc,I.cell,I.free,I.freeC,fun p hp=>?_,I.hok,I.len⟩
 rcases ZBE.mp hp with z | z
 ·exact I.pin p (ZBO _ z)
 ·exact I.pin p (Zx _ (Zz _ z))
noncomputable def JU(X:Cx)(H:Hp):Hp:=fun b=>if b∈frs X.stack then some (.tup []) else H b
noncomputable def Cn(X:Cx)(H:Hp)(s:Shared):Heap:=CQ s.heap (JU X H)
theorem Eo{b:Addr}{o:Obj}(e:s.heap.get? b=some o)(n:H b=none)(f:b∉frs X.stack):(Cn X H s).get? b=some o:=No e (by unfold JU;rw[if_neg f];exact n)
theorem HZ{b:Addr}{o:Obj}(e:(Cn X H s).get? b=some o):s.heap.get? b=some o/\H b=none/\b∉frs X.stack:=by
 obtain⟨h1,h2⟩:=Nr e;unfold JU at h2
 by_cases f:b∈frs X.stack
 ·rw[if_pos f]at h2;cases h2
 ·rw[if_neg f]at h2;exact⟨h1,h2,f⟩
theorem Ox{h base base':Heap}:∀{l:List Env},h.FunFrames base l->(∀b∈frs l,base'.get? b=none)->h.FunFrames base' l
 | [],_,_=>trivial
 | env::l,⟨a,⟨L,o,e1,_,e3,e4⟩,r⟩,hb=>by
  refine⟨a,⟨L,o,e1,hb L ?_,e3,e4⟩,Ox r fun b hb'=>hb b ?_⟩
  ·rw[frs,ZB7,e1];exact ZBD ..
  ·rw[frs,ZB7,e1];exact Zz _ hb'
theorem Iv(I:zg X za Z H s):∀b o,X.base.get? b=some o->(Cn X H s).get? b=some o:=fun b o e =>
 Eo (I.bs b o e).1 (I.bs b o e).2 fun z=>by
  have:=(I.stack.mem z).1
  rw[e]at this;cases this
theorem Oe(I:zg X za Z H s):Env0 X.prog X.w X.K X.mg (Cn X H s) X.A X.stack s H:=by
 have sub:=Iv I;refine⟨I.ok.frames,⟨I.ok.mod.kin.keeps sub,I.ok.mod.glob.keeps sub,let ⟨mb,h1,h2⟩:=I.ok.mod.blt;⟨mb,h1.keeps sub,h2⟩,I.ok.mod.nolimit.keeps sub⟩,fun b o e=>⟨(HZ e).1,(HZ e).2.1⟩,ZB9 (Oa _ _),Ox I.stack fun b hb=>?_,I.stkFree,I.hok,I.bare⟩;cases e:(Cn X H s).get? b with
 | none=>rfl
 | some o=>exact absurd hb (HZ e).2.2
theorem X5 {k:Nat} {f:Addr} {fd:FuncData} {ps:List Str} {sp:Sp} {us:List Value} {vs:List V} {Q:VK} (I:zg X za Z H s) (F:FnOk X.prog X.w X.K X.mg (Cn X H s) CX0 k f fd ps sp) (hr:Room k X.A) (hb:Binds X.K fd ps [])
 (r:zj vs us) (h:sp vs H Q E0):wpAny (model X.prog X.w) X.A (call (.ref f) us) (EP X za Z Q) X.xe s:=by
 have hl:(us++[]).length=ps.length:=by rw[ZBI,<- r.length];exact F.len _ _ _ _ h
 have hbb:=hb s us I.kIn hl;rw[ZBI]at hbb;refine wpAny_call (ZBm (F.run X.A X.stack s H ⟨us,[]⟩ us vs Q E0 hr (Oe I) hbb r h) fun r s' hq=>?_);cases r with
 | error e=>exact False.elim hq
 | ok fl =>
  cases fl with
  | ret u=>exact I.after hq
  | next=>exact False.elim hq
  | brk=>exact False.elim hq
  | cont=>exact False.elim hq
end
section
variable {X:Cx}{Pt c f:Addr}{fd:FuncData}{ps:List Str}{k i:Nat}{kn a:Str}{kp pos lpos:Pos}{params:Arguments}{body:Expr}{scope:Scope}{e:Expr}{es:List Expr}{t:TA}{qual:Str}{spK:Addr->Addr->V->Sp}
noncomputable def YX(Pt:Addr)(lpos:Pos)(qual:Str)(i:Nat)(spK:Addr->Addr->V->Sp)(t:TA):TE:=fun Z H Q=>∃vA,Z[i]? = some (some vA)/\zA Pt lpos qual H /\
 ∀zu c' H1,zx Pt H H1->zA Pt lpos qual H1->H1 c'=some (CdO c' qual)->H1 zu=none->t Z H1 fun vs H2=>spK zu c' vA (.ref zu::vs) H2 Q E0
theorem RD (hg:Gl X kn) (hm:X.mg kn=some (.ref f)) (hk:PySem.W.keepIn X.K (.ref f)=true) (hr:Room k X.A) (hb:Binds X.K fd ps []) (hcode:X.env.code=.ref c) (hcK:codeHdIn X.K c Pt=true) (hbm:BMn X.mg X.base)
 (hq:X.env.qual ++ "<lambda>" = qual) (hdef:defaultsOf params X.env=([],[])) (hN:X.N[i]? = some a) (hcl:∀cell,X.env.cells.lookup a=some cell->closureFor scope X.env=pure [(a,cell)]) (hka:X.env.kindOf a=some .cell) (hfn:X.fn a=true)
 (hF:∀(base':Heap) (zu cell c':Addr) (pm ctv uA:Value) (vA:V),(∀b o,X.base.get? b=some o->base'.get? b=some o)->base'.get? zu=some (kla_obj "<lambda>" qual params body scope [(a,cell)] pm c' ctv)->base'.IsCell cell (some uA)->zi vA uA->FnOk X.prog X.w X.K X.mg base' CX0 k f fd ps (spK zu c' vA))
 (ha:PA X (e::es) t) (hd:(kn == ("__debug__" : Str))=false:=by decide)
 (he:starEach (.Lambda params body scope lpos::e::es) X.env=(false,eval (.Lambda params body scope lpos) X.env)::starEach (e::es) X.env:=by rfl) (hpl:(backTo pos (starEach (e::es) X.env)).any (·.1)=false:=by rfl) :
 PE X (.Call (.Name kn kp) (.Lambda params body scope lpos::e::es) [] pos) (YX Pt lpos qual i spK t):=by
 intro za s1 Z H1 Q I1 h;subst hq;obtain⟨vA,hv,hL,hQ⟩:=h;refine wpAny_Call_Name_kw (G8 I1 hg hm ?_ hd);refine PySem.W.callWith_K (h₀:=X.base) I1.ok.mod.kin hk ?_ he hpl;rw[he];show wpAny _ _ (spliced ((false,eval (.Lambda params body scope lpos) X.env)::backTo pos (starEach (e::es) X.env))) _ _ s1;refine Calls.spliced_cons ?_;obtain⟨Pps,hP,htr,hcs⟩:=id hL
 have fin:∀(H2:Hp) (s2:Shared) (zu c' cell:Addr) (pm ctv:Value),zg X za Z H2 s2->X.env.cells.lookup a=some cell->s2.heap.get? zu=some (kla_obj "<lambda>" (X.env.qual ++ "<lambda>") params body scope [(a,cell)] pm c' ctv) ->
  H2 zu=none->zu≠X.env.locals->zu∉X.fs->zx Pt H1 H2->zA Pt lpos (X.env.qual ++ "<lambda>") H2->H2 c'=some (CdO c' (X.env.qual ++ "<lambda>")) ->
  wpAny (model X.prog X.w) X.A (spliced (backTo pos (starEach (e::es) X.env))) (fun us s3=>X.K.In s3.heap/\wpAny (model X.prog X.w) X.A (call (.ref f) ([]++Value.ref zu::us)) (EP X za Z Q) X.xe s3) X.xe s2:=by
  intro H2 s2 zu c' cell pm ctv I2 hcell hf hn hnl hnf hG hL2 hc';have J:=I2.pin1 hf hn hnl hnf (fun v z=>by cases z);refine zn (ha pos _ s2 Z H2 _ J (hQ zu c' H2 hG hL2 hc' hn)) fun us s3 ⟨vs,H3,I3,r3,q3⟩=>⟨I3.kIn,?_⟩
  have hl3:=(I3.pin (zu,_) (Zx _ (ZBD ..)));obtain⟨m,hns,hloc⟩:=I3.loc;obtain⟨uA,rA,look⟩:=hloc i a vA hN hv (.inr (.inl hka))
  rcases look with ⟨z,_⟩ | ⟨_,cell',e1,e2⟩
  ·rw[hka]at z;cases z
  rw[hcell]at e1;cases e1;have I4:=I3.unpin1
  have lamS:zu∉frs X.stack:=fun z=>by
   rcases Zh.mp (I3.stkSub _ z) with z | z
   ·exact hl3.2.2.1 z
   ·exact hl3.2.2.2.1 z
  have cellS:cell∉frs X.stack:=fun z=>by
   rcases Zh.mp (I3.stkSub _ z) with z | z
   ·exact I3.cne _ _ hcell z
   ·obtain⟨_,o,ho,_⟩:=I3.ok.funs.mem z;exact absurd (Z0 (Zj ho) (I3.ok.cab a cell hfn hcell)) (Z2 _)
  refine X5 I4 (hF _ zu cell c' pm ctv uA vA (Iv I4) (Eo hl3.1 hl3.2.1 lamS) ?_ rA) hr hb (.cons (show zi (.ref zu) (.ref zu) from rfl) r3) q3;obtain⟨o,ho,hd'⟩:=e2;exact⟨o,Eo ho (I3.freeC _ _ hcell) cellS,hd'⟩
 obtain⟨cell,hcell⟩:=I1.ok.has a (.inl hka);have gl:∀{s:Shared} {H:Hp},zg X za Z H s->s.heap.Ns mainGlobals X.mg:=fun J=>J.mod.glob.keeps J.bk
 have C:CodeHd s1.heap c Pt:=codeHd_of_K I1.kIn hcK;have hPt:s1.heap.get? Pt=some (tabObj Pps):=I1.hok _ _ hP
 have gP:mainGlobals≠Pt:=fun z=>by
  obtain⟨o,es,ep,e,hd,_⟩:=gl I1;rw[z,hPt]at e;cases e;cases hd
 have hB:s1.heap.BuiltinsAt X.mg Pt:=by
  obtain⟨bm,ob,b1,b2,b3,b4,b5,b6⟩:=hbm;have e:=I1.bk _ _ b3;refine⟨bm,ob,b1,b2,fun z=>?_,fun z=>?_,e,b4,b5,b6⟩
  ·obtain⟨o,es,ep,e',hd,_⟩:=gl I1;rw[z,e']at e;cases e;rw[hd]at b6;cases b6
  ·rw[z,hPt]at e;cases e;cases b4
 refine kla_eval hdef ?_
 rcases hcs with hnf | ⟨c',hf,hc'⟩
 ·refine kla_makeFunction (hcl cell hcell) I1.ok.glob (gl I1) hcode C hPt htr hnf gP hB fun c' ctv h' tk hx' hge zm hrec htb=>?_
  have J:=I1.grow (t':=tk) hP hx' htb hge hrec;have J':=J.kept (h':=h'.push _) (t':=tk) fun b u e=>Zi (kla_obj "<lambda>" (X.env.qual ++ "<lambda>") params body scope [(a,cell)] ((X.mg "__name__").getD .none) c' ctv) e
  have hcn:H1 c'=none:=I1.hok.fresh hge;have hcP:c'≠Pt:=fun z=>by rw[z,hP]at hcn;cases hcn
  refine fin _ _ h'.objs.size c' cell _ ctv J' hcell (Zr _ rfl) (J.hok.fresh (Zf _)) (ZBs J.lt) (J.nofs (Zf _)) (fun b o n e=>?_) ⟨_,by rw[AI (Ne.symm hcP),AD],?_,.inr ⟨c',?_,AD⟩⟩ AD
  ·have hbc:b≠c':=fun z=>by rw[z,hcn]at e;cases e
   rw[AI hbc,AI n];exact e
  ·rw[ZCk];exact TriplesOk_snoc _ _ _ _ htr
  ·rw[ZCk];exact codeAmong_snoc _ htr hnf
 ·refine kla_makeFunctionHit (hcl cell hcell) I1.ok.glob (gl I1) hcode C hPt htr hf hB fun ctv h' tk hk' hsz=>?_
  have J0:zg X za Z H1 { s1 with heap:=h',toks:=tk }:=I1.kept hk';have J:=I1.kept (h':=h'.push _) (t':=tk) fun b u e=>Zi (kla_obj "<lambda>" (X.env.qual ++ "<lambda>") params body scope [(a,cell)] ((X.mg "__name__").getD .none) c' ctv) (hk' b u e)
  exact fin _ _ h'.objs.size c' cell _ ctv J hcell (Zr _ rfl) (J0.hok.fresh (Zf _)) (ZBs J0.lt) (J0.nofs (Zf _)) (zx.refl _ _) hL hc'
end
noncomputable abbrev GU(scope:Scope)(L:Addr)(a:Str)(cell:Addr)(qual:Str)(zu c':Addr):Env:=newEnv scope L mainGlobals [(a,cell)] (qual ++ ".<locals>.") (some zu) (.ref c') none builtinsNs
noncomputable def KY(P:Program)(w:World)(K:W.Frag)(mg:Str->Option Value)(base:Heap)(scope:Scope)(a x:Str)(cell:Addr)(qual:Str)(zu c':Addr)(A:Around)(outer:List Env)(s:Shared)(H:Hp):Cx where
 prog:=P
 w:=w
 K:=K
 mg:=mg
 base:=base
 A:=A.deeper (GU scope s.heap.objs.size a cell qual zu c')
 N:=[x,a]
 s₀:=s
 H₀:=H
 env:=GU scope s.heap.objs.size a cell qual zu c'
 outer:=outer
 stack:=GU scope s.heap.objs.size a cell qual zu c'::outer
 ex:=[]
 calm:=true
 fn:=fun _=>false
 pn:=[]
 xe:=fun _ _=>False
noncomputable def B9(c':Addr)(qual:Str)(spB:V->Hp->VK->Prop):Sp:=fun vs H Q _=>match vs with
 | [v]=>H c'=some (CdO c' qual)/\spB v H Q
 | _=>False
theorem Wm{c':Addr}{qual:Str}{spB:V->Hp->VK->Prop}(h:∀v H Q Q',(∀y H',Q y H'->Q' y H')->spB v H Q->spB v H Q'):AK (B9 c' qual spB):=fun vs H Q Q' E k q=>by
 unfold B9 at *;split at q
 ·exact⟨q.1,h _ _ _ _ k q.2⟩
 ·exact q.elim
theorem SK {P:Program} {w:World} {K:W.Frag} {mg:Str->Option Value} {base:Heap} {k:Nat} {zu cell c':Addr} {qual a x:Str} {params:Arguments} {body:Expr} {scope:Scope} {pm ctv:Value} {spB:V->Hp->VK->Prop} {vA:V} {uA:Value}
 (hl:base.get? zu=some (kla_obj "<lambda>" qual params body scope [(a,cell)] pm c' ctv)) (hc:base.IsCell cell (some uA)) (rA:zi vA uA)
 (hx:scope.names.lookup x=some .local) (ha:scope.names.lookup a=some .free) (hfr:∀y,scope.names.lookup y=some .free->y=a) (hco:scope.isCoroutine=false) (hgen:scope.isGenerator=false) (hkind:scope.kind=.function)
 (hcell:∀y∈scope.names,y.2≠.cell)
 (hbody:∀(A:Around) (outer:List Env) (s:Shared) (H:Hp) (v:V) (Q:VK),Room k (A.deeper (GU scope s.heap.objs.size a cell qual zu c'))->spB v H Q ->
   ∃te,PE (KY P w K mg base scope a x cell qual zu c' A outer s H) body te/\te [some v,some vA] H Q) :
 FnOk P w K mg base CX0 (k+1) zu (kla_fn "<lambda>" qual params body scope [(a,cell)] pm (.ref c') ctv) [x] (B9 c' qual spB):=by
 refine⟨fun vs H Q E h=>by unfold B9 at h;split at h;rfl;exact h.elim,fun A outer s H args us vs Q E hr e0 hbd r hsp=>?_⟩
 match vs,hsp,r with
 | [v],⟨hcd,hq⟩,r =>
 obtain⟨u,rfl,ru⟩:=BO r;have lim:s.heap.NoLimit:=e0.mod.nolimit.keeps fun b o e=>(e0.bs b o e).1
 obtain⟨hcr,_⟩:=e0.hok _ _ hcd;refine kla_callFunE hr.depth (e0.bs _ _ hl).1 rfl hco hgen rfl hcr (hbd _ _ _ _ ?_);refine wpAny_newFunctionEnv hcell (fun y hy=>by rw[Zq.mp hy];exact hx) (fun h₁ hns hsb=>⟨lim.fresh _ hsb,?_⟩) hkind;have hk₁:∀b o,s.heap.get? b=some o->h₁.get? b=some o:=fun b o e=>hsb.extBut b o (Zs (Zj e)) (Zi _ e)
 refine kla_codeExpr ?_;obtain⟨te,ht,hte⟩:=hbody A outer s H v Q (hr.deeper _) hq
 have hcell1:h₁.IsCell cell (some uA):=by
  obtain⟨o,e,d⟩:=hc;exact⟨o,hk₁ _ _ (e0.bs _ _ e).1,d⟩
 have hcH:H cell=none:=by
  obtain⟨o,e,d⟩:=hc;exact(e0.bs _ _ e).2
 have lk:∀y c,List.lookup y [(a,cell)]=some c->y=a/\c=cell:=fun y c e=>by
  rw[ZBh]at e
  by_cases z:y=a
  ·subst z;simp at e;exact⟨rfl,e.symm⟩
  ·rw[beq_eq_false_iff_ne.mpr z]at e;cases e
 have noA:∀b:Addr,b∉(KY P w K mg base scope a x cell qual zu c' A outer s H).ex:=fun b z=>absurd (show b∈([]:List Addr) from z) (by simp)
 have kindc:∀y,scope.names.lookup y≠some .cell:=fun y z=>hcell _ (PySem.mem_of_lookup z) rfl
 have nax:a≠x:=fun z=>by rw[z,hx]at ha;cases ha
 have I:zg (KY P w K mg base scope a x cell qual zu c' A outer s H) [] [some v,some vA] H { s with heap:=h₁,toks:=s.toks+[(x,u)].length }:=by
  refine⟨⟨e0.mod,hkind,rfl,rfl,Zf _,fun y z c h1 h2=>?_,fun y hy=>?_,fun y c hf _=>?_,fun _=>hr.hd,Around.frames_deeper e0.frames,.inr ⟨rfl,rfl⟩,fun b z=>absurd z (noA b),e0.bs,e0.bsz,fun b _ _=>noA b,fun b z=>absurd z (noA b),e0.funs,e0.frf⟩,
   rfl,e0.bare,Un.kept hk₁,⟨_,hns,fun i y z h1 h2 h3=>?_⟩,fun y c h=>?_,e0.hok.fresh (Zf _),fun y c h=>?_,fun p hp=>absurd (show p∈([]:List (Addr × Obj)) from hp) (by simp),e0.hok.kept hk₁,rfl⟩
  ·exact(lk _ _ h1).1.trans (lk _ _ h2).1.symm
  ·have hy:scope.names.lookup y=some .cell\/scope.names.lookup y=some .free:=hy
   rcases hy with hy | hy
   ·exact absurd hy (kindc y)
   ·rw[hfr y hy];exact⟨cell,by show List.lookup a [(a,cell)]=_;simp⟩
  ·cases hf
  ·match i,h1,h2 with
   | 0,h1,h2 =>
    cases h1;cases h2;exact⟨u,ru,.inl ⟨hx,by simp⟩⟩
   | 1,h1,h2 =>
    cases h1;cases h2;exact⟨uA,rA,.inr ⟨.inr ha,cell,by show List.lookup a [(a,cell)]=_;simp,hcell1⟩⟩
   | n+2,h1,h2=>cases h2
  ·obtain⟨_,rfl⟩:=lk y c h;exact⟨_,hcell1⟩
  ·obtain⟨_,rfl⟩:=lk y c h;exact hcH
 refine ZBH (ht [] _ _ _ _ I hte) (fun u' s' hs=>?_) fun e s' hs=>False.elim hs
 obtain⟨v',H',J,rv,q⟩:=hs;exact⟨v',H',J.os,J.bare,J.base,J.hok,rv,q⟩
end L2
namespace L2
open PySem PyProof.Rows
noncomputable def GY(K:W.Frag):V->List V->Hp->VK->Prop:=fun x vs H Q=>match x,vs with
 | .ref l,[.ref b]=>∃xs ys,H l=some (.lst xs)/\zt K H b ys/\xs.length+ys.length<=100000/\Q .non (upd H l (.lst (xs++ys)))
 | _,_=>False
section
variable {X:Cx}{K:W.Frag}{o e:Expr}{to:TE}{t:TA}{apos cpos:Pos}
theorem V6:MtR X "list.extend" (GY X.K):=by
 intro za s Z H x vs v us Q I rx rv q
 match x,vs,q with
 | .ref l,[.ref b],⟨xs,ys,hH,hb,h3,q⟩ =>
 cases rx;obtain⟨u,rfl,ru⟩:=BO rv;cases ru;obtain⟨z,ze,n,r,hl,e⟩:=I.lstM hH;obtain⟨its2,r2,⟨o2,e2,c2,n2,d2⟩,hz2⟩:=I.tuple hb;have l1:=r.length;have l2:=r2.length
 have hlb:l≠b:=fun q=>by
  rw[q,e2]at e;cases e;exact absurd c2 (by simp)
 refine ZBV F.slot_list_extend ⟨_,e,rfl⟩ F.entry_list_extend ?_ (F.args_list_extend_2 _ _);show wpAny _ _ (Builtin.List.listExtendWith (.ref l) (.ref b) .none) _ _ s;unfold Builtin.List.listExtendWith;refine Zc (wpAny_typeOf (T:="tuple") ⟨o2,e2,c2⟩ ?_);have h1:Builtin.List.listSameRef (.ref l) (.ref b)=false:=by simp[Builtin.List.listSameRef,hlb]
 have h2:(Value.type "tuple" == Value.type "list")=false:=by decide
 have h3':(Value.type "tuple" == Value.type "tuple")=true:=by decide
 simp only[h1,h2,h3',Bool.or_true,if_true];refine Zc (listItems_at e2 d2 (Zc (listItems_at e rfl ?_)))
 rw[if_neg (by
  rw[Zp];rintro⟨_,q⟩;unfold Builtin.List.listTooLong at q;simp[sizeLine_eq]at q;lia)]
 refine Zc (listUpdate_at e rfl ?_ (by rw[Zo,sizeLine_eq];lia) (by rw[Array.size_append,Zo,Zo,sizeLine_eq];lia));refine Zd ⟨_,rfl,?_⟩;exact⟨.non,_,I.lset (its':=ze++its2) hH e (by simp) (r.append r2) (by rw[Zy,sizeLine_eq];lia),rfl,q⟩
theorem Qu (ho:PE X o to) (ha:PA X [e] t) (hbase:attributeBase o "extend" X.env (eval o X.env)=eval o X.env:=by rfl)
 (hfew:((backTo cpos (starEach [e] X.env)).all (fun x=>!x.1) && (backToKw cpos (keywordEach [] X.env)).all (fun x=>x.1.isSome)
   && decide ([e].length+([]:List Keyword).length+(if ([]:List Keyword).isEmpty then 0 else 1) < 30))=true:=by rfl)
 (hline:(apos.endLine == cpos.line)=true:=by rfl) (hs:starEach [e] X.env=(false,eval e X.env)::starEach [] X.env:=by rfl) (hplain:(backTo cpos (starEach [] X.env)).any (·.1)=false:=by rfl) (hK:X.K=K:=by rfl) :
 PE X (.Call (.Attribute o "extend" apos) [e] [] cpos) (tBM K "list" (GY K) to t):=hK ▸ Gv PySem.F.plainAttrs_list PySem.F.slot_list_extend PySem.F.type_list_extend V6 ho ha hbase hfew hline hs hplain
theorem TY:Fq (GY K):=fun x xs H Q Q' h q=>by
 unfold GY at *;split at q
 ·obtain⟨a,b,c,d,e,q⟩:=q;exact⟨a,b,c,d,e,h _ _ q⟩
 ·exact q.elim
end
end L2
namespace L2
open PySem PySem.Spec PyProof.Rows
theorem Ra {prog:Program} {w:World} {A:Around} {R:Result->Shared->Prop} {I S:Addr} {fp wr:List Addr} {n:Nat} {P:Nat->Value->Prop} {St:Nat->Heap->Prop} {x0:Str} {d0:Value}
 (W:Walks prog w A.in1 I fp wr n P St) (val:Nat->Int) (hval:∀i v,P i v->∃t,v=.int (val i) t) (hSf:S∉fp) :
 ∀(k j:Nat) (s:Shared) (cur:Array Value) (c:Nat),n - j=k->j<=n->St j s.heap->s.heap.get? S=some { cls:=.type "list",dict:=none,data:=.seq cur c,slots:=#[] } ->
  ((j=0/\cur = #[])\/∃i v,i < j/\cur = #[v,v]/\P i v/\∀i',i' < j->val i'<=val i) ->
  (∀v h' tk,((n=0/\v=d0)\/∃i,i < n/\P i v/\∀i',i' < n->val i'<=val i)->(∀b o,b∉wr->b≠S->s.heap.get? b=some o->h'.get? b=some o)->R (.ok (.ret v)) { s with heap:=h',toks:=tk }) ->
  codeAny (model prog w) A (.builtin "max.loop" ⟨[.ref I,.none,.ref S],[(x0,d0)]⟩) R s:=by
 have hSw:S∉wr:=fun h=>hSf (W.sub _ h);have nm:(toString "max" ++ toString ".loop" : String) = "max.loop":=by decide
 intro k
 induction k with
 | zero =>
  intro j s cur c hk hj hst hS hcur hR;obtain rfl:j=n:=by lia
  refine ZBR F.entry_max_loop (by
   rw[ZBf F.plain_max_loop _];show wpAny _ _ (seqItems? (Value.ref S) >>= _) _ _ _;refine Zc (wpAny_seqItems hS rfl (show wpAny _ _ (tryCatch (pyNext (Value.ref I)) _ >>= _) _ _ _ from Zc (ZBx (W.done s _ _ hst fun h' tk hk'=>?_))))
   rcases hcur with ⟨z,rfl⟩ | ⟨i,v,hi,rfl,hP,hm⟩
   ·show wpAny _ _ (rule _ >>= _) _ _ _;exact Zc (wpAny_rule (Zd (hR d0 h' tk (.inl ⟨z,rfl⟩) fun b o hb _ e=>hk' b o hb e)))
   ·show wpAny _ _ (updateSeq S (fun _=>#[]) >>= _) _ _ _;exact Zc (wpAny_updateSeq (hk' S _ hSw hS) rfl (Zc (ZB6 (Zd (hR v _ tk (.inr ⟨i,hi,hP,hm⟩) fun b o hb hbS e=>(ZBr _ _ (Ne.symm hbS)).trans (hk' b o hb e)))))))
 | succ k ih =>
  intro j s cur c hk hj hst hS hcur hR;have zm:j < n:=by lia
  have hk1:n - (j+1)=k:=by rw[Nat.sub_add_eq,hk];rfl
  refine ZBR F.entry_max_loop (by
   rw[ZBf F.plain_max_loop _];show wpAny _ _ (seqItems? (Value.ref S) >>= _) _ _ _;refine Zc (wpAny_seqItems hS rfl (show wpAny _ _ (tryCatch (pyNext (Value.ref I)) _ >>= _) _ _ _ from Zc (ZBx (W.item j s _ _ zm hst fun v h' tk hP hst' hk'=>?_))));have hS':=hk' S _ hSw hS
   have go:∀(h2:Heap) (cur':Array Value) (c':Nat),(∀b,b≠S->h2.get? b=h'.get? b)->h2.get? S=some { cls:=.type "list",dict:=none,data:=.seq cur' c',slots:=#[] } -> (∃i v,i < j+1/\cur' = #[v,v]/\P i v/\∀i',i' < j+1->val i'<=val i) ->
    codeAny (model prog w) A (.builtin "max.loop" ⟨[.ref I,.none,.ref S],[(x0,d0)]⟩) R { s with heap:=h2,toks:=tk }:=fun h2 cur' c' hx hS2 hc2 =>
    ih (j+1) { s with heap:=h2,toks:=tk } cur' c' hk1 zm (W.frame _ _ _ hst' fun b hb o e=>(hx b fun z=>hSf (z ▸ hb)).trans e) hS2 (.inr hc2) fun v' h3 tk3 hv hk3=>hR v' h3 tk3 hv fun b o hb hbS e=>hk3 b o hb hbS ((hx b hbS).trans (hk' b o hb e))
   rcases hcur with ⟨z,rfl⟩ | ⟨i,u,hi,rfl,hPu,hm⟩
   ·subst z;show wpAny _ _ (updateSeq S (fun _=>#[v,v]) >>= _) _ _ _;refine Zc (wpAny_updateSeq hS' rfl ?_);rw[nm];exact Zd ⟨ZBg F.plain_max_loop _,go _ _ _ (fun b hb=>ZBr _ _ (Ne.symm hb)) (ZCB _ hS' rfl) ⟨0,v,by lia,rfl,hP,fun i' h=>by rw[show i'=0 by lia];exact Int.le_refl _⟩⟩
   ·show wpAny _ _ (tryCatch (holding [v,v] (richCompare .Gt v u >>= _)) _ >>= _) _ _ _;refine Zc (ZBx (ZBA (Zc (CmpOf.ints_gt val hval j i v u _ _ _ hP hPu (Zc (ZBA (ZBl (Zc (ZB6 (Zd ?_))))))))));show wpAny _ _ (if decide (val j > val i)=true then _ else _) _ _ _
    by_cases hb:val j > val i
    ·rw[if_pos (Zl hb)];show wpAny _ _ (updateSeq S (fun _=>#[v,v]) >>= _) _ _ _;refine Zc (wpAny_updateSeq hS' rfl (Zc (ZB6 ?_)));rw[nm]
     exact Zd ⟨ZBg F.plain_max_loop _,go _ _ _ (fun b hb=>ZBr _ _ (Ne.symm hb)) (ZCB _ hS' rfl) ⟨j,v,by lia,rfl,hP,fun i' h=>by
      rcases ZBL i' j with z | z
      ·have:=hm i' z;lia
      ·rw[show i'=j by lia];exact Int.le_refl _⟩⟩
    ·rw[if_neg (fun z=>hb (Zn z))];show wpAny _ _ (letGo [v,v] >>= _) _ _ _;refine Zc (ZB6 ?_);rw[nm]
     exact Zd ⟨ZBg F.plain_max_loop _,go h' _ _ (fun b _=>rfl) hS' ⟨i,u,by lia,rfl,hPu,fun i' h=>by
      rcases ZBL i' j with z | z
      ·exact hm i' z
      ·rw[show i'=j by lia];lia⟩⟩)
theorem UW(a d:Value):argsOk "max" ⟨[a],[(Str.ofString "default",d)]⟩:=by unfold argsOk;kernel_rfl
theorem WI {prog:Program} {w:World} {A:Around} {E:Value->Shared->Prop} {s:Shared} {l:Addr} {xs:Array (Int × Tok)} {d0:Value} {Q:Value->Shared->Prop} (hh:A.handled=none) (hl:s.heap.IsList l (intItems xs))
 (h:∀v h' tk,((xs.size=0/\v=d0)\/∃i,i < xs.size/\(intItems xs)[i]? = some v/\∀i',i' < xs.size->numAt xs i'<=numAt xs i)->(∀b o,s.heap.get? b=some o->h'.get? b=some o)->Q v { s with heap:=h',toks:=tk }) :
 wpAny (model prog w) A (call (.builtin "max") [.ref l] [(Str.ofString "default",d0)]) Q E s:=by
 refine kmk_tree F.kind_max F.plain_max F.entry_max (UW _ _) (by
  show wpAny _ _ (Builtin.Builtins.bindParams "max" ["key","default"] 0 ⟨[],[(Str.ofString "default",d0)]⟩ >>= _) _ _ s;refine Zc (wpAny_of_eq (show Builtin.Builtins.bindParams "max" ["key","default"] 0 ⟨[],[(Str.ofString "default",d0)]⟩=pure [none,some d0] from rfl) (Zc (Zd (Zc (iter_intList hl fun s2 e st hfp hlI=>?_)))));subst e;have W:=Walks.list (prog:=prog) (w:=w) (A:=A.in1) hh s.heap.objs.size l hlI (intItems xs);refine Zc (ZBJ ?_);have sz:(intItems xs).size=xs.size:=by simp[intItems]
  refine Zd ⟨by rfl,Ra W (numAt xs) (fun _ _ z=>intItems_at z) (S:=(s.heap.push { cls:=.type "list_iterator",data:=.fields #[.ref l,.int 0 0] }).objs.size) (fun hm=>Z2 _ (hfp _ hm)) _ 0 _ #[] _ rfl (Zu _) (W.frame _ _ _ st fun b _ o e=>Zi _ e) (Zr _ rfl) (.inl ⟨rfl,rfl⟩) fun v h' tk hv hk=>?_⟩;refine h v h' tk ?_ (old_kept (l:=l) fun b o hb e=>hk b o hb (Zs (Zj e)) (Zi _ e));rw[sz]at hv;exact hv)
section
variable {X:Cx}{K:W.Frag}{e:Expr}{te:TE}{p pos kpos cp:Pos}{kd:Nat}{i:Int}
noncomputable def PR(K:W.Frag)(i:Int)(te:TE):TE:=fun Z H Q=>te Z H fun x H1=>∃l ns,x=.ref l/\zv K H1 l (ns.map V.int)/\∀M:Int,(ns=[]->M=i)->(ns≠[]->M∈ns/\∀a∈ns,a<=M)->Q (.int M) H1
theorem Ut(h:AY te):AY (PR K i te):=fun Z H Q Q' j q=>h _ _ _ _ (fun x H1 ⟨l,ns,h1,h2,q⟩=>⟨l,ns,h1,h2,fun M a b=>j _ _ (q M a b)⟩) q
theorem N1 (he:PE X e te) (hm:X.mg "max" = none) (hc:X.calm=true) (hg:Gl X "max":=by rfl) (hK:X.K=K:=by rfl)
 (hst:starEach [e] X.env=(false,eval e X.env)::starEach [] X.env:=by rfl) :
 PE X (.Call (.Name "max" p) [e] [⟨some "default",.Constant (.int i) kd cp,kpos⟩] pos) (PR K i te):=by
 intro za s Z H Q I h;subst hK;refine wpAny_Call_Name_kw (CA I hg hm (show bootBuiltins "max" = some (.builtin "max") by kernel_rfl) ?_);refine callWith_kw (e:=e) (rest:=[]) (id:="max") ?_ (by rw[hst];rfl) (by rw[hst];rfl);refine zn ((AA he AB hst) pos za s Z H (fun vs H1=>match vs with | [x]=>(∃l ns,x=.ref l/\zv X.K H1 l (ns.map V.int)/\∀M:Int,(ns=[]->M=i)->(ns≠[]->M∈ns/\∀a∈ns,a<=M)->Q (.int M) H1) | _=>False) I h) fun us s1 ⟨vs,H1,I1,r1,q1⟩=>?_
 match vs,r1,q1 with
 | [_],.cons rx .nil,⟨l,ns,ex,hl,q⟩ =>
 subst ex;cases rx;show wpAny _ _ (evalAll ((do let v <- eval (.Constant (.int i) kd cp) X.env;standAt pos;pure v)::[])) _ _ s1;refine wpAny_evalAll_cons (Zc (wpAny_Constant_int (Zc (ZB8 (Zd (wpAny_evalAll_nil ?_))))));obtain⟨ze,rv,pl,hz⟩:=I1.list hl;have hi:IntsAre ze ns:=by simpa using EV rv
 obtain⟨zs,hzs⟩:=(hi.allInts).items;have pl':=pl.isList;rw[hzs]at pl'
 have hns:ns=zs.toList.map (·.1):=by
  rw[<- hi.numsOf,<- nums_intItems,<- hzs]
 have zk:ns.length=zs.size:=by rw[hns,Ze,Z8]
 have hnum:∀j,j < zs.size->∃z,ns[j]? = some z/\numAt zs j=z:=fun j hj=>by
  rw[hns];exact⟨zs[j].1,by simp[hj],by simp[numAt,hj]⟩
 refine WI (I1.ok.hd hc) pl' fun v h' tk hv hk=>?_
 rcases hv with ⟨z,rfl⟩ | ⟨j,hj,ev,hm⟩
 ·have:ns=[]:=ZCZ.mp (by lia)
  exact⟨.int i,H1,I1.kept (t':=tk) hk,⟨_,rfl⟩,q i (fun _=>rfl) (fun y=>absurd this y)⟩
 ·obtain⟨t,rfl⟩:=intItems_at ev;obtain⟨z,ez,e2⟩:=hnum j hj;refine⟨.int (numAt zs j),H1,I1.kept (t':=tk) hk,⟨_,rfl⟩,q _ (fun y=>?_) fun _=>⟨?_,fun a ha=>?_⟩⟩
  ·rw[y]at zk;simp at zk;lia
  ·rw[e2];exact ZBQ ez
  ·obtain⟨j',hj'⟩:=List.getElem?_of_mem ha;have zm:j' < zs.size:=by rw[<- zk];exact(Z4.mp hj').1
   obtain⟨z',ez',e2'⟩:=hnum j' zm;rw[hj']at ez';cases ez';rw[<- e2'];exact hm j' zm
end
end L2
namespace L2
open PySem PyProof.Rows
noncomputable def Fn(K:W.Frag):V->List V->Hp->VK->Prop:=fun x vs H Q=>match x,vs with
 | .ref l,[.ref b]=>∃xs ys,H l=some (.lst xs)/\zv K H b ys/\b≠l/\xs.length+ys.length<=16000000/\Q .non (upd H l (.lst (xs++ys)))
 | _,_=>False
section
variable {X:Cx}{K:W.Frag}{o e:Expr}{to:TE}{t:TA}{apos cpos:Pos}
theorem ZP:MtR X "list.extend" (Fn X.K):=by
 intro za s Z H x vs v us Q I rx rv q
 match x,vs,q with
 | .ref l,[.ref b],⟨xs,ys,hH,hb,zz,h3,q⟩ =>
 cases rx;obtain⟨u,rfl,ru⟩:=BO rv;cases ru;obtain⟨z,ze,n,r,hl,e⟩:=I.lstM hH;obtain⟨its2,r2,pl2,hz2⟩:=I.list hb;obtain⟨o2,e2,c2,n2,d2⟩:=pl2.isList;have l1:=r.length;have l2:=r2.length;have hlb:l≠b:=Ne.symm zz;refine ZBV F.slot_list_extend ⟨_,e,rfl⟩ F.entry_list_extend ?_ (F.args_list_extend_2 _ _);show wpAny _ _ (Builtin.List.listExtendWith (.ref l) (.ref b) .none) _ _ s;unfold Builtin.List.listExtendWith;refine Zc (wpAny_typeOf (T:="list") ⟨o2,e2,c2⟩ ?_);have h1:Builtin.List.listSameRef (.ref l) (.ref b)=false:=by simp[Builtin.List.listSameRef,hlb]
 have h2:(Value.type "list" == Value.type "list")=true:=by decide
 simp only[h1,h2,Bool.true_or,if_true];refine Zc (listItems_at e2 d2 (Zc (listItems_at e rfl ?_)))
 rw[if_neg (by
  rw[Zp];rintro⟨_,q⟩;unfold Builtin.List.listTooLong at q;simp[sizeLine_eq]at q;lia)]
 refine Zc (listUpdate_at e rfl ?_ (by rw[Zo,sizeLine_eq];lia) (by rw[Array.size_append,Zo,Zo,sizeLine_eq];lia));refine Zd ⟨_,rfl,?_⟩;exact⟨.non,_,I.lset (its':=ze++its2) hH e (by simp) (r.append r2) (by rw[Zy,sizeLine_eq];lia),rfl,q⟩
theorem TV (ho:PE X o to) (ha:PA X [e] t) (hbase:attributeBase o "extend" X.env (eval o X.env)=eval o X.env:=by rfl)
 (hfew:((backTo cpos (starEach [e] X.env)).all (fun x=>!x.1) && (backToKw cpos (keywordEach [] X.env)).all (fun x=>x.1.isSome)
   && decide ([e].length+([]:List Keyword).length+(if ([]:List Keyword).isEmpty then 0 else 1) < 30))=true:=by rfl)
 (hline:(apos.endLine == cpos.line)=true:=by rfl) (hs:starEach [e] X.env=(false,eval e X.env)::starEach [] X.env:=by rfl) (hplain:(backTo cpos (starEach [] X.env)).any (·.1)=false:=by rfl) (hK:X.K=K:=by rfl) :
 PE X (.Call (.Attribute o "extend" apos) [e] [] cpos) (tBM K "list" (Fn K) to t):=hK ▸ Gv PySem.F.plainAttrs_list PySem.F.slot_list_extend PySem.F.type_list_extend ZP ho ha hbase hfew hline hs hplain
theorem Th:Fq (Fn K):=fun x xs H Q Q' h q=>by
 unfold Fn at *;split at q
 ·obtain⟨a,b,c,d,n,e,q⟩:=q;exact⟨a,b,c,d,n,e,h _ _ q⟩
 ·exact q.elim
end
theorem N6 {d:Addr} {o:Obj} {zd:List (Key × V)} {g:TG} {tc:TT} {te:TE} {σc:St} {Q:VK} {H:Hp} (Pv:Nat->List V->Hp->Prop) (h0:Pv 0 [] H) (hl:∀i ys H,i<=zd.length->Pv i ys H->H d=some (.frz o (.dK zd))) (hz:∀i ys H,i < zd.length->Pv i ys H->ys.length < sizeLine)
 (hs:∀i r p ys H,zd[i]? = some r->Pv i ys H->H p=none->g (.ref p) σc (upd H p (.tup [kV r.1,r.2])) fun σ2 H2=>tc σ2 H2 fun b H3=>if b=true then te σ2 H3 fun y H4=>Pv (i+1) (ys++[y]) H4 else Pv (i+1) ys H3)
 (hd:∀ys H,Pv zd.length ys H->∀p,H p=none->Q (.ref p) (upd H p (.lst ys))):Cw (Itm d o) g tc te σc Q H:=by
 refine⟨fun i m ys H=>m=zd.length - i/\i<=zd.length/\Pv i ys H,⟨zd.length,by simp,Zu _,h0⟩,?_⟩;rintro i m ys H ⟨rfl,hi,p⟩;have q:=hl i ys H hi p
 by_cases zm:i < zd.length
 ·refine .inr ⟨⟨zd,zd[i],q,by simp[zm]⟩,hz i ys H zm p,Pv (i+1),fun ys' H' p'=>⟨zd.length - (i+1),by lia,rfl,zm,p'⟩,fun x H' y=>?_⟩;obtain⟨pp,kvs',r,e1,e2,e3,rfl,rfl⟩:=y;rw[q]at e1;cases e1;exact hs i r pp ys H e2 p e3
 ·have e:i=zd.length:=by lia
  subst e;exact .inl ⟨⟨zd,q,Zf _⟩,hd ys H p⟩
section
variable {κ:Keyed->Int}
noncomputable def Srt(κ:Keyed->Int)(l:List Keyed):Prop:=l.Pairwise fun x y=>κ x<=κ y
variable {la lb o:List Keyed}{i j n:Nat}
end
section
variable {prog:Program}{w:World}{A:Around}{E:Value->Shared->Prop}{s:Shared}{kd:SortKind}{El:Keyed->Prop}{κ:Keyed->Int}{a₀:Array Keyed}
structure Tw(kd:SortKind)(κ:Keyed->Int)(a₀:Array Keyed)(n1 n2 pw:Nat)(st:SortSt):Prop where
 perm:(arrOf st).toList.Perm a₀.toList
 kind:kindOf st=kd
 failed:failedOf st=none
 pend:pendingOf st = #[(0,n1,pw),(n1,n2,0)]
 l1:0 < n1
 l2:0 < n2
 len:n1+n2=a₀.size
 s1:Srt κ ((arrOf st).toList.take n1)
 s2:Srt κ ((arrOf st).toList.drop n1)
end
end L2
namespace L2
open PySem PySem.Spec PyProof.Rows
section
variable {X:Cx}{za:List (Addr × Obj)}{Z:St}{H H':Hp}{s:Shared}{h':Heap}
theorem ObjOk.is{P:Program}{w:World}{h:Heap}{a:Addr}{o:HO}(x:ObjOk P w H h a o):∃u,h.get? a=some u:=by
 cases o with
 | lst xs=>obtain⟨_,_,_,_,e⟩:=x;exact⟨_,e⟩
 | tup xs=>obtain⟨_,_,_,o,e,_⟩:=x;exact⟨_,e⟩
 | dK zd=>obtain⟨_,_,_,_,o,_,_,e,_⟩:=x;exact⟨_,e⟩
 | dT zd=>obtain⟨_,_,_,_,o,_,_,e,_⟩:=x;exact⟨_,e⟩
 | set S n=>obtain⟨o,_,_,_,e,_⟩:=x;exact⟨_,e⟩
 | ins C dx fs=>obtain⟨_,_,_,e,_⟩:=x;exact⟨_,e⟩
 | own y=>exact x
 | xd fs=>obtain⟨_,⟨_,_,_,e,_⟩,_⟩:=x;exact⟨_,e⟩
 | rng lo hi=>obtain⟨_,_,_,e⟩:=x;exact⟨_,e⟩
 | frz ob u=>obtain⟨e,_⟩:=x;exact⟨_,e⟩
 | tbl ps=>exact⟨_,x⟩
 | met f y=>exact⟨_,x⟩
 | ext φ=>obtain⟨_,e,_⟩:=x;exact e
theorem PM{P:Program}{w:World}{h:Heap}{a:Addr}(hok:HOk P w H h)(n:h.get? a=none):H a=none:=by
 cases e:H a with
 | none=>rfl
 | some o =>
  obtain⟨u,q⟩:=(hok a o e).is;rw[n]at q;cases q
end
noncomputable abbrev TX:=St->Hp->VK->XK->Prop
section
variable {prog:Program} {w:World} {A:Around} {E:Value->Shared->Prop} {h:Heap} {g:Array GenState} {d:Drawn} {t:Nat} {os:OsState}
 {nm q:Str} {C N:Addr} {bs bm bmB:List Value} {hdct:Bool} {sn:List Str} {sub:List Value} {ab:Bool} {col:Option Bool} {dd:Option Addr} {k0 k1 k2 k3 k5:Option Value} {B Bn newId nid initId inN:String} {bmN:List Value}
end
section
variable {X:Cx}{za:List (Addr × Obj)}{Z:St}{H H':Hp}{s:Shared}{h':Heap}{x C fI:Addr}{K:W.Frag}
theorem zg.laidN{a:Addr}{o:HO}{t':Nat}(I:zg X za Z H s)(k:∀b u,s.heap.get? b=some u->h'.get? b=some u)(nx:s.heap.get? a=none)(new:ObjOk X.prog X.w (upd H a o) h' a o):zg X za Z (upd H a o) { s with heap:=h',toks:=t' }:=by
 have hn:H a=none:=PM I.hok nx;have ne:∀b u,s.heap.get? b=some u->b≠a:=fun b u e z=>by rw[z,nx]at e;cases e
 have nh:∀b u,H b=some u->b≠a:=fun b u e z=>by rw[z,hn]at e;cases e
 refine I.un ⟨fun b u e _ _ _=>k b u e,fun b u e _ _ _=>⟨u.slots,k b u e⟩,fun b u e n _=>by rw[AI (ne b u e)];exact n,fun b u e _=>⟨u,k b u e⟩,fun b xs e=>by rw[AI (nh b _ e)];exact e,fun b u v e=>by rw[AI (nh b _ e)];exact e,fun b ps e=>⟨#[],by rw[AI (nh b _ e),e];simp⟩⟩ fun b u e=>?_
 by_cases z:b=a
 ·subst z;rw[AD]at e;cases e;exact new
 ·rw[AI z]at e;exact(I.hok b u e).stay (fun c v _ q=>k c v q) (fun c q=>by rw[AI (nh c _ q)];exact q) fun c xs q=>by rw[AI (nh c _ q)];exact q
end
noncomputable abbrev XW:=Addr->Addr->Option Addr->St->Hp->Prop
noncomputable abbrev TSX:=XW->St->Hp->Prop
end L2
namespace L2
open PySem PyProof.Rows
section
variable {prog:Program}{w:World}{A:Around}{E:Value->Shared->Prop}{s:Shared}
theorem T7 {R:Result->Shared->Prop} {r S:Addr} {a b c:Int} {t u v:Tok} {n:Nat} (hh:A.handled=none) (hr:IsRange s.heap r a b c t u v) (hsmall:Builtin.Range.small a b c=true) (hn:Builtin.Range.rangeSize a b c=n) (zk:n<=2 ^ 24) (hS:s.heap.get? S=some { cls:=.type "list",data:=.seq #[] })
 (hR:∀h' tk acc' c',(∀b o,b≠S->s.heap.get? b=some o->h'.get? b=some o)->h'.get? S=some { cls:=.type "list",dict:=none,data:=.seq acc' c',slots:=#[] } -> ItemsOf (fun i v=>∃t,v=.int (a+i * c) t) acc' n->R (.ok (.ret (.ref S))) { s with heap:=h',toks:=tk }) :
 codeAny (model prog w) A (.builtin "list.__iadd__" ⟨[.ref S,.ref r],[]⟩) R s:=ZBR F.entry_list_iadd (by
 rw[ZBf F.plain_list_iadd _];exact wpAny_extend_range (R:=R) hh hr hsmall hn zk S (.ref S) 0 hS hR)
theorem Um {Q:List Value->Shared->Prop} {r:Addr} {a b c:Int} {t u v:Tok} {n:Nat} (hh:A.handled=none) (hr:IsRange s.heap r a b c t u v) (hsmall:Builtin.Range.small a b c=true) (hn:Builtin.Range.rangeSize a b c=n) (zk:n<=2 ^ 24)
 (hQ:∀h' tk zq,(∀b o,s.heap.get? b=some o->h'.get? b=some o)->ItemsOf (fun i v=>∃t,v=.int (a+i * c) t) zq n->Q zq.toList { s with heap:=h',toks:=tk }):wpAny (model prog w) A (collect (.ref r)) Q E s:=by
 unfold collect;refine Zc (wpAny_runValue (ZBR F.entry_proto_collect ?_));rw[ZBf F.plain_proto_collect _];show wpAny _ A.in1 (newList [] >>= fun l=>again (.builtin "list.__iadd__" ⟨[l,.ref r],[]⟩)) _ _ s;refine Zc (ZBJ ?_);refine Zd ⟨ZBg F.plain_list_iadd _,T7 (s:={ s with heap:=s.heap.push { cls:=.type "list",data:=.seq ([]:List Value).toArray } }) (n:=n) hh (Zi _ hr) hsmall hn zk (Zr _ rfl) fun h' tk zq c' hk hS hacc=>?_⟩;show wpAny _ A (load s.heap.objs.size >>= _) _ _ _;refine Zc (wpAny_load hS ?_);exact Zd (hQ h' tk zq (fun b o e=>hk b o (Zs (Zj e)) (Zi _ e)) hacc)
theorem Wi {Q:Value->Shared->Prop} {r:Addr} {a b c:Int} {t u v:Tok} {n:Nat} (hh:A.handled=none) (hr:IsRange s.heap r a b c t u v) (hsmall:Builtin.Range.small a b c=true) (hn:Builtin.Range.rangeSize a b c=n) (zk:n<=1000)
 (h:∀(h':Heap) (tk:Nat) (zq:Array Value),(∀b o,s.heap.get? b=some o->h'.get? b=some o)->ItemsOf (fun i v=>∃t,v=.int (a+i * c) t) zq n->Q (.ref h'.objs.size) { s with heap:=h'.push { cls:=.type "tuple",data:=.seq zq },toks:=tk }) :
 wpAny (model prog w) A (call (.type "tuple") [.ref r]) Q E s:=by
 have M:Meets (Builtin.«tuple.__new__» ⟨[.type "tuple",.ref r],[]⟩) (fun A R s=>A.handled=none/\IsRange s.heap r a b c t u v/\∀(h':Heap) (tk:Nat) (zq:Array Value),(∀b o,s.heap.get? b=some o->h'.get? b=some o)->ItemsOf (fun i v=>∃t,v=.int (a+i * c) t) zq n ->
  R (.ok (.ret (.ref h'.objs.size))) { s with heap:=h'.push { cls:=.type "tuple",data:=.seq zq },toks:=tk }):=.of_wp fun prog w A R s h=>by
  obtain⟨hh,hr,h⟩:=h;have hsub:=sub_tuple_self;have hinit:=init_tuple_lookup;have hmh:=madeHere_tuple;have hT:s.TypeIs (.ref r) "range":=⟨_,hr,rfl⟩;have hh1:A.in1.handled=none:=hh
  wp_walk using wpAny_typeOf hT,Um (n:=n) hh1 hr hsmall hn (by lia)
  intro h' tk zq hk hacc;show wpAny _ _ (Builtin.Tuple.tupleExact zq.toList.toArray >>= fun v=>ret v) _ _ _;unfold Builtin.Tuple.tupleExact;refine Zc (ZBJ ?_ (show zq.toList.toArray.size<=sizeLine by simp only[Array.toArray_toList];rw[hacc.1,sizeLine_eq];lia));refine Zd ⟨_,rfl,?_⟩;have e:zq.toList.toArray=zq:=by simp
  rw[e];exact h h' tk zq hk hacc
 refine callType_new F.called_tuple (by decide) (F.typeCall_tuple_1 _) (F.newCall_tuple_1 _) (fun obj=>F.args_object_init_2 obj _) F.entry_tuple_new
  M ⟨hh,hr,fun h' tk zq hk hacc=>⟨⟨_,Zr _ rfl,rfl⟩,h h' tk zq hk hacc⟩⟩
end
noncomputable def tTR(ta:TA):TE:=fun Z H Q=>ta Z H fun vs H1=>match vs with
 | [.int j]=>∃n:Nat,j=n/\n<=1000/\∀p,H1 p=none->Q (.ref p) (upd H1 p (.tup ((List.range n).map fun(k:Nat)=>V.int (k:Int))))
 | _=>False
theorem Ql{ta:TA}(h:Bu ta):AY (tTR ta):=fun Z H Q Q' k q=>h _ _ _ _ (fun vs _ q=>by
 match vs,q with
 | [.int j],⟨n,h1,h2,q⟩=>exact⟨n,h1,h2,fun d hd=>k _ _ (q d hd)⟩) q
section
variable {X:Cx}
theorem VS {a:Expr} {ta:TA} {p pos p2 pos2:Pos} (hc:X.calm=true) (hg:Gl X "tuple") (hm:X.mg "tuple" = none) (hg2:Gl X "range") (hm2:X.mg "range" = none) (ha:PA X [a] ta)
 (hs:starEach [a] X.env=[(false,eval a X.env)]:=by rfl)
 (hs3:starEach [.Call (.Name "range" p2) [a] [] pos2] X.env=[(false,eval (.Call (.Name "range" p2) [a] [] pos2) X.env)]:=by rfl) :
 PE X (.Call (.Name "tuple" p) [.Call (.Name "range" p2) [a] [] pos2] [] pos) (tTR ta):=by
 intro za s Z H Q I h;refine Call_ (CA I hg hm (by rfl:bootBuiltins "tuple" = some (.type "tuple")) (PyProof.Rows.callWith_type1 ?_ (by rw[hs3];rfl) (by rfl)));rw[hs3];show wpAny _ _ (spliced ((false,eval (.Call (.Name "range" p2) [a] [] pos2) X.env)::[])) _ _ s;refine Calls.spliced_cons ?_;refine Call_ (CA I hg2 hm2 (by rfl:bootBuiltins "range" = some (.type "range")) (PyProof.Rows.callWith_type1 (zn (ha pos2 za s Z H _ I h) fun us s1 ⟨vs,H1,I1,r1,q1⟩=>?_) hs rfl))
 match vs,q1,r1 with
 | [.int j],⟨n,hj,hn,q⟩,r1 =>
 subst hj;cases r1 with
 | cons r rr =>
 cases rr;obtain⟨t,rfl⟩:=r;refine call_range_1 ?_;refine Calls.spliced_nil ?_;refine Wi (n:=n) (I.ok.hd hc) (IsRange.new ..) (small_one (by lia) (by lia) (by lia) (by lia)) ?_ hn fun h' tk zq hk hacc=>?_
 ·rw[rangeSize_one];split <;> lia
 have keep:∀b u,s1.heap.get? b=some u->(h'.push { cls:=.type "tuple",data:=.seq zq }).get? b=some u:=fun b u e=>Zi _ (hk b u (Zi _ e))
 have nx:s1.heap.get? h'.objs.size=none:=by
  cases e:s1.heap.get? h'.objs.size with
  | none=>rfl
  | some o=>exact absurd (Zj (hk _ _ (Zi _ e))) (Z2 _)
 refine⟨.ref _,_,I1.laidN (t':=tk) (o:=.tup ((List.range n).map fun(k:Nat)=>V.int (k:Int))) keep nx ?_,rfl,q _ (PM I1.hok nx)⟩;refine⟨by rw[Ze,ZBk];exact K9 hn,zq.toList,?_,⟨_,Zr _ rfl,rfl,⟨_,by simp;rfl⟩,rfl⟩⟩;rw[List.range_eq_range'];refine N0 n 0 zq.toList (by rw[Z8];exact hacc.1) fun j v hj=>?_
 obtain⟨t,e⟩:=hacc.2 j v (by rw[<- ZCM];exact hj);exact⟨t,by rw[e];congr 1;lia⟩
end
end L2
namespace L2
open PySem PySem.Spec PyProof.Rows PySem.W
section
variable {X:Cx}{za:List (Addr × Obj)}{Z:St}
structure MinSt(X:Cx)(za:List (Addr × Obj))(Z:St)(l I S:Addr)(xs:List V)(J:Nat->Hp->Prop)(kf:Nat->Int)(j i:Nat)(vb:Value)(H:Hp)(s:Shared):Prop where
 inv:zg X za Z H s
 fI:BJ X za H I
 fS:BJ X za H S
 gS:∃tb c,s.heap.get? S=some (seqObj "list" #[vb,.int (kf i) tb] c)
 it:s.heap.IsListIter I l (j+1)
 rb:∃x,xs[i]? = some x/\zi x vb
 at_:J (j+1) H
noncomputable abbrev PF(X:Cx)(za:List (Addr × Obj))(Z:St)(q:Addr)(xs:List V)(J:Nat->Hp->Prop)(kf:Nat->Int):Prop :=
 ∀(n:Nat) (x:V) (u:Value) (H:Hp) (s:Shared) (pl:List (Addr × Obj)),xs[n]? = some x->zi x u->J n H->zg X (za++pl) Z H s ->
  wpAny (model X.prog X.w) X.A.in1 (call (.ref q) [u]) (fun y s'=>∃H' t,y=.int (kf n) t/\zg X (za++pl) Z H' s'/\J (n+1) H') (fun _ _=>False) s
theorem VD {q l I S:Addr} {xs:List V} {J:Nat->Hp->Prop} {kf:Nat->Int} {R:Result->Shared->Prop} (hc:X.calm=true) (hSI:S≠I) (hlI:l≠I)
 (hl:∀n H,J n H->zv X.K H l xs) (turn:PF X za Z q xs J kf)
 (hR:∀i x v H s,xs[i]? = some x->zi x v->(∀j,j < xs.length->kf i<=kf j/\(j < i->kf i < kf j))->J xs.length H->zg X za Z H s->R (.ok (.ret v)) s) :
 ∀(r j i:Nat) (vb:Value) (H:Hp) (s:Shared),xs.length - (j+1)=r->j+1<=xs.length->MinSt X za Z l I S xs J kf j i vb H s->i<=j->(∀j',j'<=j->kf i<=kf j'/\(j' < i->kf i < kf j')) ->
  codeAny (model X.prog X.w) X.A (.builtin "min.loop" ⟨[.ref I,.ref q,.ref S],[]⟩) R s:=by
 have hname:(toString "min" ++ toString ".loop" : String) = "min.loop":=by decide
 intro r
 induction r with
 | zero =>
  intro j i vb H s hr hj M hij hbest;obtain⟨tb,c,gS⟩:=M.gS;obtain⟨xb,hxb,rb⟩:=M.rb;have hh:=M.inv.ok.hd hc;obtain⟨ze,rv,pl,hz⟩:=M.inv.list (hl _ _ M.at_);have zk:=rv.length;have W:=Walks.list (prog:=X.prog) (w:=X.w) (A:=X.A.in1) hh I l hlI ze.toArray;have hsz:ze.toArray.size=ze.length:=Zo ..;have hin:j+1=ze.length:=by lia
  refine ZBR PySem.F.entry_min_loop ?_;rw[ZBf PySem.F.plain_min_loop _];show wpAny _ X.A.in1 (seqItems? (.ref S) >>= _) _ _ _;refine Zc (wpAny_seqItems gS rfl ?_);show wpAny _ X.A.in1 (tryCatch (pyNext (.ref I)) _ >>= _) _ _ _;refine Zc (ZBx (W.done _ _ _ ⟨by rw[hsz,<- hin];exact M.it,pl.isList⟩ fun h' tk' hk'=>?_));have I1:zg X za Z H { s with heap:=h',toks:=tk' }:=M.inv.turned (fun b o n e=>hk' b o (by simpa using n) e) M.fI.1 M.fI.2.1 M.fI.2.2.2.1 M.fI.2.2.2.2.1 M.fI.2.2.2.2.2;have hS':=hk' S _ (by simpa using hSI) gS;have s1:=ZBj h' S (Obj.mapSeq fun _=>(#[]:Array Value));show wpAny _ X.A.in1 (updateSeq S (fun _=>#[]) >>= _) _ _ _;refine Zc ?_;refine wpAny_updateSeq hS' rfl (Zc (ZB6 (Zd ?_)));have I2:=I1.turned (t':=tk') (h':=h'.update S (Obj.mapSeq fun _=>(#[]:Array Value))) (fun b o n e=>(s1.2 b n).trans e) M.fS.1 M.fS.2.1 M.fS.2.2.2.1 M.fS.2.2.2.2.1 M.fS.2.2.2.2.2;exact hR i xb vb H _ hxb rb (fun j' hj'=>hbest j' (by lia)) (by rw[show xs.length=j+1 by lia];exact M.at_) I2
 | succ r ih =>
  intro j i vb H s hr hj M hij hbest;obtain⟨tb,c,gS⟩:=M.gS;obtain⟨xb,hxb,rb⟩:=M.rb;have hh:=M.inv.ok.hd hc;obtain⟨ze,rv,pl,hz⟩:=M.inv.list (hl _ _ M.at_);have zk:=rv.length;have W:=Walks.list (prog:=X.prog) (w:=X.w) (A:=X.A.in1) hh I l hlI ze.toArray;have hsz:ze.toArray.size=ze.length:=Zo ..;have zm:j+1 < xs.length:=by lia
  refine ZBR PySem.F.entry_min_loop ?_;rw[ZBf PySem.F.plain_min_loop _];show wpAny _ X.A.in1 (seqItems? (.ref S) >>= _) _ _ _;refine Zc (wpAny_seqItems gS rfl ?_);show wpAny _ X.A.in1 (tryCatch (pyNext (.ref I)) _ >>= _) _ _ _;refine Zc (ZBx (W.item (j+1) _ _ _ (by rw[hsz];lia) ⟨M.it,pl.isList⟩ fun v h' tk' hP hst' hk'=>?_));have hv:ze[j+1]? = some v:=by simpa using hP
  obtain⟨x,hx⟩:∃x,xs[j+1]? = some x:=⟨_,Zg zm⟩;obtain⟨u,hu,ru⟩:=rv.get hx;rw[hv]at hu;cases hu;have I1:zg X za Z H { s with heap:=h',toks:=tk' }:=M.inv.turned (fun b o n e=>hk' b o (by simpa using n) e) M.fI.1 M.fI.2.1 M.fI.2.2.2.1 M.fI.2.2.2.2.1 M.fI.2.2.2.2.2;have gS1:=hk' S _ (by simpa using hSI) gS;obtain⟨oI',hoI',hoc,hod⟩:=id hst'.1
  have I2:=I1.pinned (fp:=[I,S]) (fun b hb=>by
   rcases Zh.mp hb with rfl | hb
   ·exact M.fI
   ·rw[Zq.mp hb];exact M.fS) (fun b hb=>by
   rcases Zh.mp hb with rfl | hb
   ·exact⟨oI',hoI',fun v z=>by rw[hod]at z;cases z⟩
   ·rw[Zq.mp hb];exact⟨_,gS1,fun v z=>by cases z⟩)
  show wpAny _ X.A.in1 (tryCatch (holding [v] (call (.ref q) [v])) _ >>= _) _ _ _;refine Zc (ZBx (ZBA (ZBH (turn (j+1) x v H _ _ hx ru M.at_ I2) (fun y s2 he=>?_) fun _ _ hF=>hF.elim)));obtain⟨H2,t2,rfl,I3,hJ2⟩:=he;have pI:=I3.pin (I,oI') (Zx _ (Zx _ (Cj (by simp) hoI')));have pS:=I3.pin (S,_) (Zx _ (Zx _ (Cj (by simp) gS1)));have I4:=I3.unpinned;have fI2:BJ X za H2 I:=⟨pI.2.1,M.fI.2⟩;have fS2:BJ X za H2 S:=⟨pS.2.1,M.fS.2⟩;show wpAny _ X.A.in1 (tryCatch (holding [v,.int (kf (j+1)) t2] (richCompare .Lt (.int (kf (j+1)) t2) (.int (kf i) tb) >>= _)) _ >>= _) _ _ _;refine Zc (ZBx (ZBA (Zc (CmpOf.ints_lt (prog:=X.prog) (w:=X.w) (A:=X.A.in1) (P:=fun i v=>∃t,v=.int (kf i) t) kf (fun i v h=>h) (j+1) i _ _ _ _ _ ⟨t2,rfl⟩ ⟨tb,rfl⟩ ?_))));refine Zc (ZBA (ZBl ?_));refine Zc (ZB6 (Zd ?_))
  by_cases hb':kf (j+1) < kf i
  ·have s1:=ZBj s2.heap S (Obj.mapSeq fun _=>#[v,.int (kf (j+1)) t2]);obtain⟨c2,hc2⟩:∃c2,(s2.heap.update S (Obj.mapSeq fun _=>#[v,.int (kf (j+1)) t2])).get? S=some (seqObj "list" #[v,.int (kf (j+1)) t2] c2):=⟨_,get?_update_seq pS.1 fun _=>#[v,.int (kf (j+1)) t2]⟩;simp only[hb',decide_true,if_true];refine Zc ?_;refine wpAny_updateSeq pS.1 rfl (Zc (ZB6 ?_));rw[hname];have I5:=I4.turned (t':=s2.toks) (h':=s2.heap.update S (Obj.mapSeq fun _=>#[v,.int (kf (j+1)) t2])) (fun b o n e=>(s1.2 b n).trans e) fS2.1 fS2.2.1 fS2.2.2.2.1 fS2.2.2.2.2.1 fS2.2.2.2.2.2;refine Zd ⟨ZBg PySem.F.plain_min_loop _,ih (j+1) (j+1) v H2 _ (by lia) zm ⟨I5,fI2,fS2,⟨t2,c2,hc2⟩,⟨oI',(s1.2 I hSI.symm).trans pI.1,hoc,hod⟩,⟨x,hx,ru⟩,hJ2⟩ (Zf _) fun j' hj'=>?_⟩
   by_cases e:j'=j+1
   ·subst e;exact⟨by lia,fun _=>by lia⟩
   ·have hb1:=hbest j' (by lia);have hb2:=hb1.1;exact⟨by lia,fun _=>by lia⟩
  ·simp only[hb',decide_false,ZCh,if_false];refine Zc (ZB6 ?_);rw[hname];refine Zd ⟨ZBg PySem.F.plain_min_loop _,ih (j+1) i vb H2 _ (by lia) zm ⟨I4,fI2,fS2,⟨tb,c,pS.1⟩,⟨oI',pI.1,hoc,hod⟩,⟨xb,hxb,rb⟩,hJ2⟩ (by lia) fun j' hj'=>?_⟩
   by_cases e:j'=j+1
   ·subst e;exact⟨by lia,fun _=>by lia⟩
   ·exact hbest j' (by lia)
theorem Qo {q l:Addr} {xs:List V} {J:Nat->Hp->Prop} {kf:Nat->Int} {H:Hp} {s:Shared} {Q:VK} {E:Value->Shared->Prop} (hc:X.calm=true) (I0:zg X za Z H s) (hpos:0 < xs.length) (h0:J 0 H)
 (hl:∀n H,J n H->zv X.K H l xs) (turn:PF X za Z q xs J kf)
 (hQ:∀i x H,xs[i]? = some x->(∀j,j < xs.length->kf i<=kf j/\(j < i->kf i < kf j))->J xs.length H->Q x H) :
 wpAny (model X.prog X.w) X.A (call (.builtin "min") [.ref l] [(Str.ofString "key",.ref q)]) (EP X za Z Q) E s:=by
 have hname:(toString "min" ++ toString ".loop" : String) = "min.loop":=by decide
 have hh:=I0.ok.hd hc;obtain⟨ze,rv,pl,hz⟩:=I0.list (hl _ _ h0);have zk:=rv.length;obtain⟨ol,_,hol,_⟩:=id pl;have hll:l < s.heap.objs.size:=Zj hol;refine kmk_tree PySem.F.kind_min PySem.F.plain_min PySem.F.entry_min (kmk_min_key _ _) ?_;show wpAny _ X.A.in1 (Builtin.Builtins.bindParams "min" ["key","default"] 0 ⟨[],[(Str.ofString "key",.ref q)]⟩ >>= _) _ _ s;refine Zc (wpAny_of_eq (show Builtin.Builtins.bindParams "min" ["key","default"] 0 ⟨[],[(Str.ofString "key",.ref q)]⟩=pure [some (.ref q),none] from rfl) ?_);refine Zc (Zd ?_);refine Zc (wpAny_pyIter_list pl.isList ?_);refine Zc (wpAny_newList ?_ (Zu _));rw[hname];refine Zd ⟨ZBg PySem.F.plain_min_loop _,?_⟩;generalize hI:s.heap.objs.size=I at *;generalize hh1:s.heap.push { cls:=.type "list_iterator",data:=.fields #[.ref l,.int 0 0] } = h1 at *;generalize hS:h1.objs.size=S at *;have hSI':S=I+1:=by rw[<- hS,<- hh1,<- hI];exact size_push' ..
 have hSI:S≠I:=by lia
 have hlI:l≠I:=Zs hll;have k1:∀b o,s.heap.get? b=some o->(h1.push (seqObj "list" #[] 0)).get? b=some o:=fun b o e=>Zi _ (by rw[<- hh1];exact Zi _ e)
 have gI:(h1.push (seqObj "list" #[] 0)).get? I=some { cls:=.type "list_iterator",data:=.fields #[.ref l,.int 0 0] }:=Zi _ (by rw[<- hh1,<- hI];exact Zr _ rfl);have gS:(h1.push (seqObj "list" #[] 0)).get? S=some (seqObj "list" #[] 0):=by rw[<- hS];exact Zr _ rfl
 have fI:BJ X za H I:=I0.fpOk (ZB9 hI) (I0.hok.fresh (ZB9 hI));have fS:BJ X za H S:=I0.fpOk (by lia) (I0.hok.fresh (by lia));have W:=Walks.list (prog:=X.prog) (w:=X.w) (A:=X.A.in1) hh I l hlI ze.toArray;have hsz:ze.toArray.size=ze.length:=Zo ..;refine ZBR PySem.F.entry_min_loop ?_;rw[ZBf PySem.F.plain_min_loop _];show wpAny _ X.A.in1 (seqItems? (.ref S) >>= _) _ _ _;refine Zc (wpAny_seqItems gS rfl ?_);show wpAny _ X.A.in1 (tryCatch (pyNext (.ref I)) _ >>= _) _ _ _
 have pl1:(h1.push (seqObj "list" #[] 0)).IsList l ze.toArray:=by
  obtain⟨o,k,e,z⟩:=pl;have pl':PlainL (h1.push (seqObj "list" #[] 0)) l ze.toArray:=⟨o,k,k1 _ _ e,z⟩;exact pl'.isList
 refine Zc (ZBx (W.item 0 _ _ _ (by rw[hsz];lia) ⟨⟨_,gI,rfl,rfl⟩,pl1⟩ fun v h' tk' hP hst' hk'=>?_));have hv:ze[0]? = some v:=by simpa using hP
 obtain⟨x,hx⟩:∃x,xs[0]? = some x:=⟨_,Zg hpos⟩;obtain⟨u,hu,ru⟩:=rv.get hx;rw[hv]at hu;cases hu;have I1:zg X za Z H { s with heap:=h',toks:=tk' }:=(I0.kept (t':=tk') k1).turned (t':=tk') (fun b o n e=>hk' b o (by simpa using n) e) fI.1 fI.2.1 fI.2.2.2.1 fI.2.2.2.2.1 fI.2.2.2.2.2;have gS1:=hk' S _ (by simpa using hSI) gS;obtain⟨oI',hoI',hoc,hod⟩:=id hst'.1
 have I2:=I1.pinned (fp:=[I,S]) (fun b hb=>by
  rcases Zh.mp hb with rfl | hb
  ·exact fI
  ·rw[Zq.mp hb];exact fS) (fun b hb=>by
  rcases Zh.mp hb with rfl | hb
  ·exact⟨oI',hoI',fun v z=>by rw[hod]at z;cases z⟩
  ·rw[Zq.mp hb];exact⟨_,gS1,fun v z=>by cases z⟩)
 show wpAny _ X.A.in1 (tryCatch (holding [v] (call (.ref q) [v])) _ >>= _) _ _ _;refine Zc (ZBx (ZBA (ZBH (turn 0 x v H _ _ hx ru h0 I2) (fun y s2 he=>?_) fun _ _ hF=>hF.elim)));obtain⟨H2,t2,rfl,I3,hJ2⟩:=he;have pI:=I3.pin (I,oI') (Zx _ (Zx _ (Cj (by simp) hoI')));have pS:=I3.pin (S,_) (Zx _ (Zx _ (Cj (by simp) gS1)));have I4:=I3.unpinned;have fI2:BJ X za H2 I:=⟨pI.2.1,fI.2⟩;have fS2:BJ X za H2 S:=⟨pS.2.1,fS.2⟩;have s1:=ZBj s2.heap S (Obj.mapSeq fun _=>#[v,.int (kf 0) t2]);obtain⟨c2,hc2⟩:∃c2,(s2.heap.update S (Obj.mapSeq fun _=>#[v,.int (kf 0) t2])).get? S=some (seqObj "list" #[v,.int (kf 0) t2] c2):=⟨_,get?_update_seq pS.1 fun _=>#[v,.int (kf 0) t2]⟩;show wpAny _ X.A.in1 (updateSeq S (fun _=>#[v,.int (kf 0) t2]) >>= _) _ _ _;refine Zc ?_;refine wpAny_updateSeq pS.1 rfl ?_;rw[hname];have I5:=I4.turned (t':=s2.toks) (h':=s2.heap.update S (Obj.mapSeq fun _=>#[v,.int (kf 0) t2])) (fun b o n e=>(s1.2 b n).trans e) fS2.1 fS2.2.1 fS2.2.2.2.1 fS2.2.2.2.2.1 fS2.2.2.2.2.2;refine Zd ⟨ZBg PySem.F.plain_min_loop _,VD hc hSI hlI hl turn (fun i x v H s hi hr hb hJ hI=>⟨x,H,hI,hr,hQ i x H hi hb hJ⟩) _ 0 0 v H2 _ rfl hpos ⟨I5,fI2,fS2,⟨t2,c2,hc2⟩,⟨oI',(s1.2 I hSI.symm).trans pI.1,hoc,hod⟩,⟨x,hx,ru⟩,hJ2⟩ (Zf _) fun j' hj'=>?_⟩;have e:j'=0:=by lia
 subst e;exact⟨by lia,fun h=>absurd h (Z2 _)⟩
end
noncomputable abbrev G7(scope:Scope)(L:Addr)(a b:Str)(ca cb:Addr)(qual:Str)(zu c':Addr):Env:=newEnv scope L mainGlobals [(a,ca),(b,cb)] (qual ++ ".<locals>.") (some zu) (.ref c') none builtinsNs
noncomputable def HV(P:Program)(w:World)(K:W.Frag)(mg:Str->Option Value)(base:Heap)(scope:Scope)(a b x:Str)(ca cb:Addr)(qual:Str)(zu c':Addr)(A:Around)(outer:List Env)(s:Shared)(H:Hp):Cx where
 prog:=P
 w:=w
 K:=K
 mg:=mg
 base:=base
 A:=A.deeper (G7 scope s.heap.objs.size a b ca cb qual zu c')
 N:=[x,a,b]
 s₀:=s
 H₀:=H
 env:=G7 scope s.heap.objs.size a b ca cb qual zu c'
 outer:=outer
 stack:=G7 scope s.heap.objs.size a b ca cb qual zu c'::outer
 ex:=[]
 calm:=true
 fn:=fun _=>false
 pn:=[]
 xe:=fun _ _=>False
theorem look2{a b y:Str}{ca cb c:Addr}(e:List.lookup y [(a,ca),(b,cb)]=some c):(y=a/\c=ca)\/(y=b/\c=cb):=by
 rw[ZBh]at e
 by_cases z:y=a
 ·subst z;simp at e;exact .inl ⟨rfl,e.symm⟩
 ·rw[beq_eq_false_iff_ne.mpr z]at e;have e:List.lookup y [(b,cb)]=some c:=e;rw[ZBh]at e
  by_cases z:y=b
  ·subst z;simp at e;exact .inr ⟨rfl,e.symm⟩
  ·rw[beq_eq_false_iff_ne.mpr z]at e;cases e
theorem U3 {P:Program} {w:World} {K:W.Frag} {mg:Str->Option Value} {base:Heap} {k:Nat} {zu ca cb c':Addr} {qual a b x:Str} {params:Arguments} {body:Expr} {scope:Scope} {pm ctv:Value} {spB:V->Hp->VK->Prop} {vA vB:V} {uA uB:Value}
 (hl:base.get? zu=some (kla_obj "<lambda>" qual params body scope [(a,ca),(b,cb)] pm c' ctv)) (hca:base.IsCell ca (some uA)) (rA:zi vA uA) (hcb:base.IsCell cb (some uB)) (rB:zi vB uB) (hab:a≠b) (hcab:ca≠cb)
 (hx:scope.names.lookup x=some .local) (ha:scope.names.lookup a=some .free) (hb:scope.names.lookup b=some .free) (hfr:∀y,scope.names.lookup y=some .free->y=a\/y=b) (hco:scope.isCoroutine=false) (hgen:scope.isGenerator=false) (hkind:scope.kind=.function)
 (hcell:∀y∈scope.names,y.2≠.cell)
 (hbody:∀(A:Around) (outer:List Env) (s:Shared) (H:Hp) (v:V) (Q:VK),Room k (A.deeper (G7 scope s.heap.objs.size a b ca cb qual zu c'))->spB v H Q ->
   ∃te,PE (HV P w K mg base scope a b x ca cb qual zu c' A outer s H) body te/\te [some v,some vA,some vB] H Q) :
 FnOk P w K mg base CX0 (k+1) zu (kla_fn "<lambda>" qual params body scope [(a,ca),(b,cb)] pm (.ref c') ctv) [x] (B9 c' qual spB):=by
 refine⟨fun vs H Q E h=>by unfold B9 at h;split at h;rfl;exact h.elim,fun A outer s H args us vs Q E hr e0 hbd r hsp=>?_⟩
 match vs,hsp,r with
 | [v],⟨hcd,hq⟩,r =>
 obtain⟨u,rfl,ru⟩:=BO r;have lim:s.heap.NoLimit:=e0.mod.nolimit.keeps fun b o e=>(e0.bs b o e).1
 obtain⟨hcr,_⟩:=e0.hok _ _ hcd;refine kla_callFunE hr.depth (e0.bs _ _ hl).1 rfl hco hgen rfl hcr (hbd _ _ _ _ ?_);refine wpAny_newFunctionEnv hcell (fun y hy=>by rw[Zq.mp hy];exact hx) (fun h₁ hns hsb=>⟨lim.fresh _ hsb,?_⟩) hkind;have hk₁:∀b o,s.heap.get? b=some o->h₁.get? b=some o:=fun b o e=>hsb.extBut b o (Zs (Zj e)) (Zi _ e)
 refine kla_codeExpr ?_;obtain⟨te,ht,hte⟩:=hbody A outer s H v Q (hr.deeper _) hq
 have hca1:h₁.IsCell ca (some uA):=by
  obtain⟨o,e,d⟩:=hca;exact⟨o,hk₁ _ _ (e0.bs _ _ e).1,d⟩
 have hcb1:h₁.IsCell cb (some uB):=by
  obtain⟨o,e,d⟩:=hcb;exact⟨o,hk₁ _ _ (e0.bs _ _ e).1,d⟩
 have hcaH:H ca=none:=by
  obtain⟨o,e,d⟩:=hca;exact(e0.bs _ _ e).2
 have hcbH:H cb=none:=by
  obtain⟨o,e,d⟩:=hcb;exact(e0.bs _ _ e).2
 have noA:∀b':Addr,b'∉(HV P w K mg base scope a b x ca cb qual zu c' A outer s H).ex:=fun b z=>absurd (show b∈([]:List Addr) from z) (by simp)
 have kindc:∀y,scope.names.lookup y≠some .cell:=fun y z=>hcell _ (PySem.mem_of_lookup z) rfl
 have la:List.lookup a [(a,ca),(b,cb)]=some ca:=by simp
 have lb:List.lookup b [(a,ca),(b,cb)]=some cb:=by
  rw[ZBh,beq_eq_false_iff_ne.mpr (Ne.symm hab)];simp
 have I:zg (HV P w K mg base scope a b x ca cb qual zu c' A outer s H) [] [some v,some vA,some vB] H { s with heap:=h₁,toks:=s.toks+[(x,u)].length }:=by
  refine⟨⟨e0.mod,hkind,rfl,rfl,Zf _,fun y z c h1 h2=>?_,fun y hy=>?_,fun y c hf _=>?_,fun _=>hr.hd,Around.frames_deeper e0.frames,.inr ⟨rfl,rfl⟩,fun b z=>absurd z (noA b),e0.bs,e0.bsz,fun b _ _=>noA b,fun b z=>absurd z (noA b),e0.funs,e0.frf⟩,
   rfl,e0.bare,Un.kept hk₁,⟨_,hns,fun i y z h1 h2 h3=>?_⟩,fun y c h=>?_,e0.hok.fresh (Zf _),fun y c h=>?_,fun p hp=>absurd (show p∈([]:List (Addr × Obj)) from hp) (by simp),e0.hok.kept hk₁,rfl⟩
  ·rcases look2 h1 with ⟨e1,e2⟩ | ⟨e1,e2⟩ <;> rcases look2 h2 with ⟨e3,e4⟩ | ⟨e3,e4⟩
   ·rw[e1,e3]
   ·exact absurd (e2.symm.trans e4) hcab
   ·exact absurd (e4.symm.trans e2) hcab
   ·rw[e1,e3]
  ·have hy:scope.names.lookup y=some .cell\/scope.names.lookup y=some .free:=hy
   rcases hy with hy | hy
   ·exact absurd hy (kindc y)
   ·rcases hfr y hy with rfl | rfl
    ·exact⟨ca,la⟩
    ·exact⟨cb,lb⟩
  ·cases hf
  ·match i,h1,h2 with
   | 0,h1,h2 =>
    cases h1;cases h2;exact⟨u,ru,.inl ⟨hx,by simp⟩⟩
   | 1,h1,h2 =>
    cases h1;cases h2;exact⟨uA,rA,.inr ⟨.inr ha,ca,la,hca1⟩⟩
   | 2,h1,h2 =>
    cases h1;cases h2;exact⟨uB,rB,.inr ⟨.inr hb,cb,lb,hcb1⟩⟩
   | n+3,h1,h2=>cases h2
  ·rcases look2 h with ⟨_,rfl⟩ | ⟨_,rfl⟩
   ·exact⟨_,hca1⟩
   ·exact⟨_,hcb1⟩
  ·rcases look2 h with ⟨_,rfl⟩ | ⟨_,rfl⟩
   ·exact hcaH
   ·exact hcbH
 refine ZBH (ht [] _ _ _ _ I hte) (fun u' s' hs=>?_) fun e s' hs=>False.elim hs
 obtain⟨v',H',J,rv,q⟩:=hs;exact⟨v',H',J.os,J.bare,J.base,J.hok,rv,q⟩
section
variable {X:Cx}{za:List (Addr × Obj)}{Z:St}{H:Hp}{s:Shared}
theorem Ru {k:Nat} {f:Addr} {fd:FuncData} {ps:List Str} {sp:Sp} {us:List Value} {vs:List V} {Q:VK} {E:Value->Shared->Prop} (I:zg X za Z H s) (F:FnOk X.prog X.w X.K X.mg (Cn X H s) CX0 k f fd ps sp) (hr:Room k X.A.in1) (hb:BindsTo s fd ⟨us,[]⟩ (ps.zip us))
 (r:zj vs us) (h:sp vs H Q E0):wpAny (model X.prog X.w) X.A.in1 (call (.ref f) us) (EP X za Z Q) E s:=by
 refine wpAny_call (ZBm (F.run X.A.in1 X.stack s H ⟨us,[]⟩ us vs Q E0 hr (Oe I).in1 hb r h) fun r s' hq=>?_);cases r with
 | error e=>exact False.elim hq
 | ok fl =>
  cases fl with
  | ret u=>exact I.after hq
  | next=>exact False.elim hq
  | brk=>exact False.elim hq
  | cont=>exact False.elim hq
end
section
variable {X:Cx}{Pt c:Addr}{k i j:Nat}{a b x:Str}{p pos kpos lpos:Pos}{params:Arguments}{body:Expr}{scope:Scope}{e:Expr}{te:TE}{qual:Str}{spB:V->V->V->Hp->VK->Prop}
noncomputable def Su(K:W.Frag)(Pt:Addr)(lpos:Pos)(qual:Str)(i j:Nat)(spB:V->V->V->Hp->VK->Prop)(te:TE):TE:=fun Z H Q=>te Z H fun y H1=>∃l xs vA vB,y=.ref l/\0 < xs.length/\Z[i]? = some (some vA)/\Z[j]? = some (some vB)/\zA Pt lpos qual H1 /\
 ∀c' H2,zx Pt H1 H2->zA Pt lpos qual H2->H2 c'=some (CdO c' qual)->∃(J:Nat->Hp->Prop) (kf:Nat->Int),J 0 H2/\(∀n H3,J n H3->zv K H3 l xs/\H3 c'=some (CdO c' qual)) /\
  (∀n v H3,xs[n]? = some v->J n H3->spB vA vB v H3 fun y H4=>y=.int (kf n)/\J (n+1) H4) /\
  ∀n v H3,xs[n]? = some v->(∀m,m < xs.length->kf n<=kf m/\(m < n->kf n < kf m))->J xs.length H3->Q v H3
theorem ZU {K:W.Frag} (he:PE X e te) (hm:X.mg "min" = none) (hr:Room (k+1) X.A) (hc:X.calm=true) (hcode:X.env.code=.ref c) (hcK:codeHdIn X.K c Pt=true) (hbm:BMn X.mg X.base)
 (hq:X.env.qual ++ "<lambda>" = qual) (hdef:defaultsOf params X.env=([],[])) (hNi:X.N[i]? = some a) (hNj:X.N[j]? = some b)
 (hcl:∀ca cb,X.env.cells.lookup a=some ca->X.env.cells.lookup b=some cb->closureFor scope X.env=pure [(a,ca),(b,cb)]) (hka:X.env.kindOf a=some .cell) (hkb:X.env.kindOf b=some .cell) (hfa:X.fn a=true) (hfb:X.fn b=true) (hab:a≠b)
 (hbind:∀(u pm ctv:Value) (ca cb c':Addr),bindArgs (kla_fn "<lambda>" qual params body scope [(a,ca),(b,cb)] pm (.ref c') ctv) ⟨[u],[]⟩=pure [(x,u)])
 (hF:∀(base':Heap) (zu ca cb c':Addr) (pm ctv uA uB:Value) (vA vB:V),(∀b o,X.base.get? b=some o->base'.get? b=some o)->base'.get? zu=some (kla_obj "<lambda>" qual params body scope [(a,ca),(b,cb)] pm c' ctv)->ca≠cb ->
   base'.IsCell ca (some uA)->zi vA uA->base'.IsCell cb (some uB)->zi vB uB->FnOk X.prog X.w X.K X.mg base' CX0 k zu (kla_fn "<lambda>" qual params body scope [(a,ca),(b,cb)] pm (.ref c') ctv) [x] (B9 c' qual (spB vA vB)))
 (hg:Gl X "min":=by rfl) (hK:X.K=K:=by rfl)
 (hst:starEach [e] X.env=(false,eval e X.env)::starEach [] X.env:=by rfl) :
 PE X (.Call (.Name "min" p) [e] [⟨some "key",.Lambda params body scope lpos,kpos⟩] pos) (Su K Pt lpos qual i j spB te):=by
 intro za s Z H Q I h;subst hq hK;refine wpAny_Call_Name_kw (CA I hg hm (show bootBuiltins "min" = some (.builtin "min") by kernel_rfl) ?_);refine callWith_kw (e:=e) (rest:=[]) (id:="min") ?_ (by rw[hst];rfl) (by rw[hst];rfl)
 refine zn ((AA he AB hst) pos za s Z H (fun vs H1=>match vs with | [y]=>(∃l xs vA vB,y=.ref l/\0 < xs.length/\Z[i]? = some (some vA)/\Z[j]? = some (some vB)/\zA Pt lpos (X.env.qual ++ "<lambda>") H1 /\
  ∀c' H2,zx Pt H1 H2->zA Pt lpos (X.env.qual ++ "<lambda>") H2->H2 c'=some (CdO c' (X.env.qual ++ "<lambda>"))->∃(J:Nat->Hp->Prop) (kf:Nat->Int),J 0 H2/\(∀n H3,J n H3->zv X.K H3 l xs/\H3 c'=some (CdO c' (X.env.qual ++ "<lambda>"))) /\
   (∀n v H3,xs[n]? = some v->J n H3->spB vA vB v H3 fun y H4=>y=.int (kf n)/\J (n+1) H4) /\
   ∀n v H3,xs[n]? = some v->(∀m,m < xs.length->kf n<=kf m/\(m < n->kf n < kf m))->J xs.length H3->Q v H3) | _=>False) I h) fun us s1 ⟨vs,H1,I1,r1,q1⟩=>?_
 match vs,r1,q1 with
 | [_],.cons rx .nil,⟨l,xs,vA,vB,ex,hpos,hvA,hvB,hL,hQ⟩ =>
 subst ex;cases rx;obtain⟨ps,hP,htr,hcs⟩:=id hL
 have fin:∀(H2:Hp) (s2:Shared) (zu c' ca cb:Addr) (pm ctv:Value),zg X za Z H2 s2->X.env.cells.lookup a=some ca->X.env.cells.lookup b=some cb->s2.heap.get? zu=some (kla_obj "<lambda>" (X.env.qual ++ "<lambda>") params body scope [(a,ca),(b,cb)] pm c' ctv) ->
  H2 zu=none->zu≠X.env.locals->zu∉X.fs->zx Pt H1 H2->zA Pt lpos (X.env.qual ++ "<lambda>") H2->H2 c'=some (CdO c' (X.env.qual ++ "<lambda>")) ->
  wpAny (model X.prog X.w) X.A (call (.builtin "min") [.ref l] [(Str.ofString "key",.ref zu)]) (EP X za Z Q) X.xe s2:=by
  intro H2 s2 zu c' ca cb pm ctv I2 hla hlb hf hn hnl hnf hG hL2 hc';obtain⟨J,kf,h0,hJ,hturn,hend⟩:=hQ c' H2 hG hL2 hc';have I3:=I2.pin1 hf hn hnl hnf (fun v z=>by cases z);have hcab:ca≠cb:=fun z=>hab (I2.ok.inj a b ca hla (by rw[hlb,z]))
  refine zn (Qo (J:=J) (kf:=kf) (E:=X.xe) hc I3 hpos h0 (fun n H h=>(hJ n H h).1) (fun n y u H s pl hy ru hj I4=>?_) (fun n y H hy hb hj=>hend n y H hy hb hj)) fun u s3 ⟨y,H3,I5,r5,q5⟩=>⟨y,H3,I5.unpin1,r5,q5⟩
  have hl3:=(I4.pin (zu,_) (Zx _ (ZBO _ (ZBD ..))));obtain⟨m,hns,hloc⟩:=I4.loc;obtain⟨uA,rA,lookA⟩:=hloc i a vA hNi hvA (.inr (.inl hka));obtain⟨uB,rB,lookB⟩:=hloc j b vB hNj hvB (.inr (.inl hkb))
  rcases lookA with ⟨z,_⟩ | ⟨_,ca',e1,e2⟩
  ·rw[hka]at z;cases z
  rcases lookB with ⟨z,_⟩ | ⟨_,cb',e3,e4⟩
  ·rw[hkb]at z;cases z
  rw[hla]at e1;cases e1;rw[hlb]at e3;cases e3
  have lamS:zu∉frs X.stack:=fun z=>by
   rcases Zh.mp (I4.stkSub _ z) with z | z
   ·exact hl3.2.2.1 z
   ·exact hl3.2.2.2.1 z
  have cellS:∀y c,X.fn y=true->X.env.cells.lookup y=some c->c∉frs X.stack:=fun y c hy hc z=>by
   rcases Zh.mp (I4.stkSub _ z) with z | z
   ·exact I4.cne _ _ hc z
   ·obtain⟨_,o,ho,_⟩:=I4.ok.funs.mem z;exact absurd (Z0 (Zj ho) (I4.ok.cab y c hy hc)) (Z2 _)
  have cA:(Cn X H s).IsCell ca (some uA):=by
   obtain⟨o,ho,hd'⟩:=e2;exact⟨o,Eo ho (I4.freeC _ _ hla) (cellS a ca hfa hla),hd'⟩
  have cB:(Cn X H s).IsCell cb (some uB):=by
   obtain⟨o,ho,hd'⟩:=e4;exact⟨o,Eo ho (I4.freeC _ _ hlb) (cellS b cb hfb hlb),hd'⟩
  have F:=hF (Cn X H s) zu ca cb c' pm ctv uA uB vA vB (Iv I4) (Eo hl3.1 hl3.2.1 lamS) hcab cA rA cB rB;refine zn (Ru (vs:=[y]) (us:=[u]) (Q:=fun v H4=>v=.int (kf n)/\J (n+1) H4) I4 F hr.in1 (.of_eq (hbind u pm ctv ca cb c')) (.cons ru .nil) ⟨(hJ n H hj).2,hturn n y H hy hj⟩) fun y2 s2 h2=>?_
  obtain⟨y3,H4,I6,r6,q6,q7⟩:=h2;subst q6;obtain⟨t,rfl⟩:=r6;exact⟨H4,t,rfl,I6,q7⟩
 show wpAny _ _ (evalAll ((do let v <- eval (.Lambda params body scope lpos) X.env;standAt pos;pure v)::[])) _ _ s1;obtain⟨ca,hla⟩:=I1.ok.has a (.inl hka);obtain⟨cb,hlb⟩:=I1.ok.has b (.inl hkb);have hcl':=hcl ca cb hla hlb;have gl:∀{s:Shared} {H:Hp},zg X za Z H s->s.heap.Ns mainGlobals X.mg:=fun J=>J.mod.glob.keeps J.bk
 have C:CodeHd s1.heap c Pt:=codeHd_of_K I1.kIn hcK;have hPt:s1.heap.get? Pt=some (tabObj ps):=I1.hok _ _ hP
 have gP:mainGlobals≠Pt:=fun z=>by
  obtain⟨o,es,ep,e,hd,_⟩:=gl I1;rw[z,hPt]at e;cases e;cases hd
 have hB:s1.heap.BuiltinsAt X.mg Pt:=by
  obtain⟨bm,ob,b1,b2,b3,b4,b5,b6⟩:=hbm;have e:=I1.bk _ _ b3;refine⟨bm,ob,b1,b2,fun z=>?_,fun z=>?_,e,b4,b5,b6⟩
  ·obtain⟨o,es,ep,e',hd,_⟩:=gl I1;rw[z,e']at e;cases e;rw[hd]at b6;cases b6
  ·rw[z,hPt]at e;cases e;cases b4
 refine wpAny_evalAll_cons (Zc (kla_eval hdef ?_))
 rcases hcs with hnf | ⟨c',hf,hc'⟩
 ·refine kla_makeFunction hcl' I1.ok.glob (gl I1) hcode C hPt htr hnf gP hB fun c' ctv h' tk hx' hge zm hrec htb=>?_
  refine Zc (ZB8 (Zd (wpAny_evalAll_nil ?_)));have J:=I1.grow (t':=tk) hP hx' htb hge hrec;have J':=J.kept (h':=h'.push _) (t':=tk) fun b' u e=>Zi (kla_obj "<lambda>" (X.env.qual ++ "<lambda>") params body scope [(a,ca),(b,cb)] ((X.mg "__name__").getD .none) c' ctv) e
  have hcn:H1 c'=none:=I1.hok.fresh hge;have hcP:c'≠Pt:=fun z=>by rw[z,hP]at hcn;cases hcn
  refine fin _ _ h'.objs.size c' ca cb _ ctv J' hla hlb (Zr _ rfl) (J.hok.fresh (Zf _)) (ZBs J.lt) (J.nofs (Zf _)) (fun b o n e=>?_) ⟨_,by rw[AI (Ne.symm hcP),AD],?_,.inr ⟨c',?_,AD⟩⟩ AD
  ·have hbc:b≠c':=fun z=>by rw[z,hcn]at e;cases e
   rw[AI hbc,AI n];exact e
  ·rw[ZCk];exact TriplesOk_snoc _ _ _ _ htr
  ·rw[ZCk];exact codeAmong_snoc _ htr hnf
 ·refine kla_makeFunctionHit hcl' I1.ok.glob (gl I1) hcode C hPt htr hf hB fun ctv h' tk hk' hsz=>?_
  refine Zc (ZB8 (Zd (wpAny_evalAll_nil ?_)));have J0:zg X za Z H1 { s1 with heap:=h',toks:=tk }:=I1.kept hk';have J:=I1.kept (h':=h'.push _) (t':=tk) fun b' u e=>Zi (kla_obj "<lambda>" (X.env.qual ++ "<lambda>") params body scope [(a,ca),(b,cb)] ((X.mg "__name__").getD .none) c' ctv) (hk' b' u e)
  exact fin _ _ h'.objs.size c' ca cb _ ctv J hla hlb (Zr _ rfl) (J0.hok.fresh (Zf _)) (ZBs J0.lt) (J0.nofs (Zf _)) (zx.refl _ _) hL hc'
end
end L2
set_option maxHeartbeats 6400000
namespace L2
open PySem PySem.Spec PyProof.Rows
noncomputable def sawB(f:Nat->Bool)(i:Nat)(k:Bool):Bool:=(List.range i).any fun j=>f j == k
noncomputable def C5(f:Nat->Bool)(i:Nat):Nat:=(sawB f i true).toNat+(sawB f i false).toNat
theorem Hq(f:Nat->Bool)(i:Nat)(k:Bool):sawB f (i+1) k=(sawB f i k || decide (k=f i)):=by
 unfold sawB;rw[ZBq,List.any_append,ZCL,List.any_nil,Bool.or_false];cases f i <;> cases k <;> rfl
theorem Wc(f:Nat->Bool)(i:Nat):C5 f (i+1)=if sawB f i (f i) then C5 f i else C5 f i+1:=by
 unfold C5;rw[Hq,Hq];cases f i <;> cases sawB f i true <;> cases sawB f i false <;> rfl
theorem Py(f:Nat->Bool)(i:Nat):C5 f i<=2:=by
 unfold C5;cases sawB f i true <;> cases sawB f i false <;> decide
noncomputable def Fc(a:Addr)(n:Nat):HO:=.ext fun h=>∃o es ep t,h.get? a=some o/\o.ExactSet/\o.data=.set es ep t/\es.size < scanBound/\t.fits es.size=true/\es.size=n
section
variable {P:Program}{w:World}{A:Around}{E:Value->Shared->Prop}{s:Shared}{a:Addr}
noncomputable def metB(P:Program)(w:World)(h:Heap)(a:Addr)(f:Nat->Bool)(i:Nat):Prop:=h.SetOf (Cr P w) a (sawB f i) (C5 f i)
theorem metB.at{f:Nat->Bool}{i:Nat}{h h':Heap}(x:metB P w h a f i)(k:∀o,h.get? a=some o->h'.get? a=some o):metB P w h' a f i:=by
 obtain⟨o,es,ep,t,h1,r⟩:=x;exact⟨o,es,ep,t,k o h1,r⟩
theorem Me {R:Result->Shared->Prop} {I:Addr} {fp wr:List Addr} {G:Array GenState->Array GenState->Prop} {n:Nat} {Pv:Nat->Value->Prop} {St:Nat->Shared->Prop} (W:WalksS P w A.in1 I fp wr G n Pv St) (ha:a∉fp)
 (f:Nat->Bool) (hf:∀i v,Pv i v->v=.bool (f i)):∀(k i:Nat) (s:Shared),n - i=k->i<=n->St i s->metB P w s.heap a f i ->
  (∀s',Moved (a::wr) G s s'->metB P w s'.heap a f n->R (.ok (.ret .none)) s')->codeAny (model P w) A (.builtin "set.update.loop" ⟨[.ref a,.ref I],[]⟩) R s
 | 0,i,s,hk,hi,st,hS,hR=>by
  obtain rfl:i=n:=by lia
  refine ZBR PyProof.Rows.F.entry_set_update_loop ?_;rw[ZBf PyProof.Rows.F.plain_set_update_loop _];show wpAny _ A.in1 (pyNext (.ref I) >>= _) _ _ s;refine Zc (W.done s _ _ st fun s' hm=>Zd (hR s' (hm.mono fun b hb=>Zz _ hb) (hS.at fun o e=>hm.heap a o (fun z=>ha (W.sub _ z)) e)))
 | k+1,i,s,hk,hi,st,hS,hR=>by
  have zm:i < n:=by lia
  refine ZBR PyProof.Rows.F.entry_set_update_loop ?_;rw[ZBf PyProof.Rows.F.plain_set_update_loop _];show wpAny _ A.in1 (pyNext (.ref I) >>= _) _ _ s;refine Zc (W.item i s _ _ zm st fun v s' hP st' hm=>?_);obtain rfl:=hf i v hP;have hS':metB P w s'.heap a f i:=hS.at fun o e=>hm.heap a o (fun z=>ha (W.sub _ z)) e
  have hkey:(Cr P w).is (f i) (.bool (f i))=true:=by show Fx (f i) (.bool (f i))=true;unfold Fx;simp
  show wpAny _ A.in1 (holding [Value.bool (f i)] (setAdd a (.bool (f i))) >>= _) _ _ s';refine Zc (ZBA ?_);unfold setAdd;refine ZBA (Zc ((Cr P w).pyHash (k:=f i) hkey ?_));refine wpAny_setAddHashed_of (knd:=Cr P w) (s:={ s' with toks:=s'.toks+1 }) hkey rfl hS' (ZCU (Nat.succ_le_succ (Py f i)) (by decide)) fun h' sb q=>?_
  have q':metB P w h' a f (i+1):=by
   unfold metB;rw[Wc,show sawB f (i+1)=fun k'=>sawB f i k' || decide (k'=f i) from funext (Hq f i)];exact q
  refine Zd ⟨ZBg PyProof.Rows.F.plain_set_update_loop _,Me W ha f hf k (i+1) _ (by lia) zm (W.frame _ s' _ _ st' (ZBz _) fun b hb' o e=>?_) q' fun s'' hm2 hS2=>?_⟩
  ·rw[sb.2 b (fun z:b=a=>ha (by rw[<- z];exact hb'))];exact e
  ·refine hR s'' (Moved.trans W.gtrans ((hm.mono fun b hb=>Zz _ hb).then_heap (ZBz _) fun b o hb' e=>?_) hm2) hS2;rw[sb.2 b (fun z:b=a=>hb' (by rw[z];exact ZBD))];exact e
theorem Ux {l:Addr} {ze:Array Value} {f:Nat->Bool} {Q:Value->Shared->Prop} (hh:A.handled=none) (hl:s.heap.IsList l ze) (hi:∀(i:Nat) (v:Value),ze[i]? = some v->v=Value.bool (f i))
 (fin:∀(h':Heap) (tk:Nat),metB P w h' s.heap.objs.size f ze.size->(∀b o,b < s.heap.objs.size->s.heap.get? b=some o->h'.get? b=some o)->Q (.ref s.heap.objs.size) { s with heap:=h',toks:=tk }) :
 wpAny (model P w) A (call (.type "set") [.ref l]) Q E s:=by
 obtain⟨c,tl,hmro⟩:=PySem.F.called_set.mro;have hmade:=PySem.F.called_set.made;have hsub:=PySem.F.called_set.sub;refine wpAny_call (codeAny_of_tree ?_);show wpAny _ _ (callAny (.type "set") _) _ _ _;refine Zd ⟨Code.quiet_builtin _ (by decide +kernel),ZBR PySem.F.entry_type_call ?_⟩;rw[Around.under_plain (weight_type_call_type "set" [.ref l] []) rfl];have k1:=PySem.F.called_set.notType;have k2:=PySem.F.called_set.canCreate;have k3:=PySem.F.typeCall_set_1 (.ref l)
 (repeat (any_goals (first | assumption | wp_step)));refine ZBm (Lo (.ref l) (E:=E) (Q:=fun v s₁=>v=.ref s.heap.objs.size/\s₁ = { s with heap:=s.heap.push { cls:=.type "set",dict:=none,data:=.set #[] 0 (.fresh 0 0 (!w.params.followText "set-order")) } }) ⟨rfl,rfl⟩) fun r s₁ hr=>?_
 cases r with
 | error e=>exact hr
 | ok fl =>
  cases fl with
  | ret ob =>
   obtain⟨rfl,rfl⟩:=hr;generalize (!w.params.followText "set-order")=led;have hS:(s.heap.push { cls:=.type "set",dict:=none,data:=.set #[] 0 (.fresh 0 0 led) }).get? s.heap.objs.size=some { cls:=.type "set",dict:=none,data:=.set #[] 0 (.fresh 0 0 led) }:=Zr _ rfl;have hT:Shared.TypeIs { s with heap:=s.heap.push { cls:=.type "set",dict:=none,data:=.set #[] 0 (.fresh 0 0 led) } } (.ref s.heap.objs.size) "set":=⟨_,hS,rfl⟩;have k4:=PySem.F.called_set.init.lookup;have k5:=PySem.F.called_set.init.bind (.ref s.heap.objs.size)
   (repeat (any_goals (first | assumption | wp_step)));refine ZBm (codeAny_call_builtin (R:=wants (fun r s₂=>r=.none/\∃h' tk,s₂ = { s with heap:=h',toks:=tk } /\ metB P w h' s.heap.objs.size f ze.size /\
    (∀b o,b < s.heap.objs.size->s.heap.get? b=some o->h'.get? b=some o)) E) PySem.F.called_set.init.plain PySem.F.entry_set_init (check_set_init_1 hT ?_)) fun r₂ s₂ hr₂=>?_
   ·obtain⟨ol,hol,hcl,nl,hdl⟩:=hl;obtain⟨ocls,odict,odata,oslots⟩:=ol;simp only at hcl hdl;subst hcl;subst hdl;have hol':(s.heap.push { cls:=.type "set",dict:=none,data:=.set #[] 0 (.fresh 0 0 led) }).get? l=some { cls:=.type "list",dict:=odict,data:=.seq ze nl,slots:=oslots }:=Zi _ hol;have s1:=PySem.F.sub_list_set;have s2:=PySem.F.sub_list_frozenset;have s3:(Value.type "list" == Value.type "dict")=false:=by decide
    have hl1:(s.heap.push { cls:=.type "set",dict:=none,data:=.set #[] 0 (.fresh 0 0 led) }).IsList l ze:=⟨_,hol',rfl,nl,rfl⟩;unfold Builtin.«set.__init__» noKeywords Builtin.Frozenset.updateFrom;generalize hPI:pyIter=PI
    wp_walk
    subst hPI;refine wpAny_pyIter_list hl1 (Zc (wpAny_runValue ?_))
    have hlS:l < s.heap.objs.size:=Zj hol;have z1:l≠(s.heap.push { cls:=.type "set",dict:=none,data:=.set #[] 0 (.fresh 0 0 led) }).objs.size:=by
     rw[ZBP];exact(Zs (ZB4 hlS))
    have z2:s.heap.objs.size∉[(s.heap.push { cls:=.type "set",dict:=none,data:=.set #[] 0 (.fresh 0 0 led) }).objs.size,l]:=by
     rw[ZBP];simp only[Zh,Zq,ZCY,or_false,not_or];exact⟨Zs (ZBb _),ZBs hlS⟩
    refine Me ((Walks.list (A:=A.in1.in1.in1) (by simp[hh]) _ l z1 ze).toS) z2 f hi (ze.size - 0) 0 _ (by lia) (Zu _)
     ⟨⟨_,Zr _ rfl,rfl,rfl⟩,(hl1.push _)⟩ ?b0 ?bR
    case b0 =>
     exact(PyProof.Rows.setObjOf_fresh (knd:=Cr P w) led).setOf (Zi _ hS) (by decide)
    case bR =>
     intro s' hm hS';obtain⟨h',g',d',tk',os'⟩:=s';obtain rfl:g'=s.gens:=hm.gens;obtain rfl:d'=s.drawn:=hm.drawn;obtain rfl:os'=s.os:=hm.os;refine Zd ?_;show wpAny _ _ (ret Value.none) _ _ _;refine Zd ⟨rfl,h',tk',rfl,hS',fun b o hb e=>hm.heap b o ?_ (Zi _ (Zi _ e))⟩;rw[ZBP];simp only[Zh,Zq,ZCY,or_false,not_or];exact⟨Zs hb,Zs (ZB4 hb)⟩
   ·cases r₂ with
    | error e=>exact hr₂
    | ok fl₂ =>
     cases fl₂ with
     | ret r =>
      obtain⟨rfl,h',tk,rfl,hS',hk'⟩:=hr₂;repeat (any_goals (first | assumption | wp_step))
      exact fin _ _ hS' hk'
     | _=>exact hr₂.elim
  | _=>exact hr.elim
end
noncomputable def GM(K:W.Frag):List V->Hp->VK->Prop:=fun xs H Q=>match xs with
 | [.ref p]=>∃bs:List Bool,zv K H p (bs.map V.bl)/\∀q,H q=none->Q (.ref q) (upd H q (Fc q ((bs.any (· == true)).toNat+(bs.any (· == false)).toNat)))
 | _=>False
theorem LN(bs:List Bool)(k:Bool):sawB (fun i=>bs.getD i false) bs.length k=bs.any (· == k):=by
 unfold sawB;have e:∀{j:Nat} (h:j < bs.length),bs.getD j false=bs[j]:=fun h=>by rw[Zw,Zg h];rfl
 rw[ZBi,ZBe,ZBe];constructor
 ·rintro⟨j,hj,h⟩;have hj:=Z1.mp hj;exact⟨bs[j],ZBK hj,by rw[<- e hj];exact h⟩
 ·rintro⟨b,hb,h⟩;obtain⟨j,hj,rfl⟩:=ZBG hb;exact⟨j,Z1.mpr hj,by show(bs.getD j false == k)=true;rw[e hj];exact h⟩
theorem ML:∀{bs:List Bool} {us:List Value},zj (bs.map V.bl) us->∀(i:Nat) (v:Value),us[i]? = some v->v=.bool (bs.getD i false)
 | [],_,.nil,i,v,h=>by simp at h
 | b::bs,_,.cons r t,0,v,h=>by cases h;exact r
 | b::bs,_,.cons r t,i+1,v,h=>by simpa using ML t i v (by simpa using h)
section
variable {X:Cx}{K:W.Frag}
theorem Pi(hh:X.calm=true):CallR X (.type "set") (GM X.K):=by
 intro za s Z H xs us Q I r h
 match xs,h with
 | [.ref p],h =>
 obtain⟨bs,hq,q⟩:=h;obtain⟨u,rfl,rx⟩:=BO r;cases rx;obtain⟨ze,rv,pl,hz⟩:=I.list hq;have zk:ze.length=bs.length:=by rw[<- rv.length,Ze]
 refine Ux (f:=fun i=>bs.getD i false) (I.ok.hd hh) pl.isList (fun i v hv=>ML rv i v (by simpa using hv)) fun h' tk hs hk=>?_
 obtain⟨o,es,ep,t,h1,h2,h3,h4,h5,h6,h7,h8⟩:=hs
 have en:C5 (fun i=>bs.getD i false) ze.toArray.size=(bs.any (· == true)).toNat+(bs.any (· == false)).toNat:=by
  unfold C5;rw[Zo,zk,LN,LN]
 rw[en]at h8;refine⟨.ref s.heap.objs.size,_,I.laid (t':=tk) (o:=Fc s.heap.objs.size ((bs.any (· == true)).toNat+(bs.any (· == false)).toNat)) (fun b o e=>hk b o (Zj e) e) (Zf _) ?_,rfl,q _ (I.hok.fresh (Zf _))⟩;exact⟨⟨o,es,ep,t,h1,h2,h3,h6,h7,h8⟩,⟨o,h1⟩,fun g1 g2 ⟨o,es,ep,t,h1,h2,h3,h6,h7,h8⟩ k=>⟨o,es,ep,t,k _ h1,h2,h3,h6,h7,h8⟩⟩
theorem TR(hh:X.calm=true)(hK:X.K=K:=by rfl):CallR X (.type "set") (GM K):=hK ▸ Pi hh
theorem Tv:CV (GM K):=fun xs H Q Q' h q=>by
 unfold GM at *;split at q
 ·obtain⟨bs,a,q⟩:=q;exact⟨bs,a,fun p x=>h _ _ (q p x)⟩
 ·exact q.elim
noncomputable def Im:List V->Hp->VK->Prop:=fun xs H Q=>match xs with
 | [.ref p]=>∃n:Nat,H p=some (Fc p n)/\Q (.int n) H
 | _=>False
theorem Qi:CallR X (.builtin "len") Im:=by
 intro za s Z H xs us Q I r h
 match xs,h with
 | [.ref p],h =>
 obtain⟨n,hq,q⟩:=h;obtain⟨u,rfl,rx⟩:=BO r;cases rx;obtain⟨⟨o,es,ep,t,h1,h2,h3,h6,h7,h8⟩,_⟩:=(show ObjOk X.prog X.w H s.heap p (Fc p n) from I.hok p _ hq);refine call_len_set h1 h2 h3 h7 (Int.lt_trans (Int.ofNat_lt.mpr h6) (by decide)) ⟨.int n,H,I.tok _,⟨_,by rw[h8]⟩,q⟩
theorem Tp:CV Im:=fun xs H Q Q' h q=>by
 unfold Im at *;split at q
 ·obtain⟨n,a,q⟩:=q;exact⟨n,a,h _ _ q⟩
 ·exact q.elim
end
end L2
namespace Mine
open PySem L2
variable {H H' H0:Hp}{v:V}{xs:List V}{M N S Tw U i j k m n y:Nat}{C Pt a b d l nd p t:Addr}{K:W.Frag}{ls ns:List Int}{o:HO}{bs:List Bool}{ts ys:List Nat}{zd:List (Key × V)}{rs:List (List Bool)}{es:DY}{X:List Addr}{q:Str}
noncomputable def top(i:Nat):Stmt:=PySem.Challenge.pw_flips_k91_whole_asks_against_sums.main.body.getD i (.Pass ⟨0,0,0,0⟩)
noncomputable abbrev Kh:Stmt:=top 4
noncomputable abbrev IF:Stmt:=top 5
noncomputable abbrev J2:Stmt:=top 6
noncomputable abbrev KC:Stmt:=top 7
noncomputable abbrev K3:Stmt:=top 9
noncomputable abbrev KM:Stmt:=top 10
noncomputable abbrev Kp:Stmt:=top 11
noncomputable abbrev Jf:Stmt:=top 12
noncomputable abbrev IN:Stmt:=top 13
noncomputable abbrev Jk:Stmt:=Bg (top 15) 0
noncomputable abbrev IP:Stmt:=Bg (top 15) 1
noncomputable abbrev Jd:Stmt:=Bg (top 15) 2
noncomputable abbrev Jq:Stmt:=Bg (top 15) 3
noncomputable abbrev Hs:Stmt:=Bg (top 15) 4
noncomputable abbrev Io:Stmt:=Bg (top 15) 5
noncomputable abbrev JV:Stmt:=Bg (top 15) 6
noncomputable abbrev HX:Stmt:=Bg (top 15) 7
noncomputable abbrev Ja:Stmt:=Bg (top 15) 8
noncomputable abbrev JN:Stmt:=Bg (top 15) 9
noncomputable abbrev Kv:Stmt:=Bg (top 15) 10
noncomputable abbrev Cf:Stmt:=Bg (top 15) 11
noncomputable abbrev Ku:Stmt:=top 16
noncomputable abbrev Ho:Stmt:=top 18
noncomputable abbrev IT:Stmt:=top 19
noncomputable abbrev JF:Stmt:=top 20
noncomputable abbrev Ij:Stmt:=top 21
noncomputable abbrev JX:Stmt:=top 22
noncomputable abbrev Kf:Stmt:=top 24
noncomputable abbrev JA:Stmt:=top 25
noncomputable abbrev KP:Stmt:=top 26
noncomputable abbrev J7:Stmt:=top 28
noncomputable abbrev Jo:Stmt:=top 29
noncomputable abbrev Ka:Stmt:=top 30
noncomputable abbrev Ib:Stmt:=top 32
noncomputable abbrev Ip:Stmt:=top 33
noncomputable abbrev HW:Stmt:=top 34
noncomputable abbrev Iw:Stmt:=Bg (top 35) 0
noncomputable abbrev JQ:Stmt:=Bg (top 35) 1
noncomputable abbrev Hk:Stmt:=Bg (top 35) 2
noncomputable abbrev Ki:Stmt:=Bg (top 35) 3
noncomputable abbrev Kj:Stmt:=Bg (top 35) 4
noncomputable abbrev JG:Stmt:=top 37
noncomputable abbrev Iu:Stmt:=top 39
noncomputable abbrev Ct:Stmt:=top 43
noncomputable abbrev K1:Stmt:=top 44
noncomputable abbrev KZ:Stmt:=top 45
noncomputable abbrev Iy:Stmt:=top 46
noncomputable abbrev Jb:Stmt:=top 47
noncomputable abbrev JM:Stmt:=top 49
noncomputable abbrev Kt:Stmt:=top 50
noncomputable abbrev Kg:Stmt:=top 52
noncomputable abbrev Kb:Stmt:=top 53
noncomputable abbrev Je:Stmt:=top 54
noncomputable abbrev Jt:Stmt:=top 55
noncomputable abbrev JR:Stmt:=top 56
noncomputable abbrev JI:Stmt:=top 57
noncomputable abbrev KF:Stmt:=top 58
noncomputable abbrev Hf:Stmt:=top 59
noncomputable abbrev C2:Stmt:=top 60
local macro_rules | `(tactic| walk_at "f")=>`(tactic| exact⟨rfl,rfl,rfl,by decide +kernel,rfl,by decide +kernel,by decide +kernel⟩)
theorem W9:FnScope ["thing"] ["thing"] (AJ Kh):=by walk_at "f"
theorem Ul:FnScope ["bound","thing"] ["bound","thing"] (AJ IF):=by walk_at "f"
theorem ZI:FnScope ["n"] ["n"] (AJ J2):=by walk_at "f"
theorem sc_z57:FnScope ["base","times","power","step"] ["base","times"] (AJ KC):=by walk_at "f"
theorem ZT:FnScope ["table"] ["table"] (AJ K3):=by walk_at "f"
theorem Se:FnScope ["place","switch"] ["place","switch"] (AJ KM):=by walk_at "f"
theorem Ve:FnScope ["subset","other"] ["subset","other"] (AJ Kp):=by walk_at "f"
theorem RW:FnScope ["members"] ["members"] (AJ Jf):=by walk_at "f"
theorem XV:FnScope ["subset"] ["subset"] (AJ IN):=by walk_at "f"
theorem Yo:FnScope ["self","game"] ["self","game"] (AJ Jk):=by walk_at "f"
theorem UU:FnScope ["self"] ["self"] (AJ IP):=by walk_at "f"
theorem RA:FnScope ["self","things"] ["self","things"] (AJ Jd):=by walk_at "f"
theorem Vv:FnScope ["self","things"] ["self","things"] (AJ Jq):=by walk_at "f"
theorem sc_z27:FnScope ["self","things","question","answer","yes"] ["self","things","question","answer"] (AJ Hs):=by walk_at "f"
theorem UB:FnScope ["self","things"] ["self","things"] (AJ Io):=by walk_at "f"
theorem Yq:FnScope ["self","things"] ["self","things"] (AJ JV):=by walk_at "f"
theorem Rm:FnScope ["self","things"] ["self","things"] (AJ HX):=by walk_at "f"
theorem Xp:FnScope ["self","things","question"] ["self","things","question"] (AJ Ja):=by walk_at "f"
theorem sc_z22:FnScope ["self","things","question","no","yes"] ["self","things","question"] (AJ JN):=by walk_at "f"
theorem XY:FnScope ["self","things"] ["self","things"] (AJ Kv):=by walk_at "f"
theorem Rl:FnScope ["self","things"] ["self","things"] (AJ Cf):=by walk_at "f"
theorem YZ:FnScope ["wanted","values"] ["wanted","values"] (AJ Ku):=by walk_at "f"
theorem QC:FnScope ["thing"] ["thing"] (AJ Ho):=by walk_at "f"
theorem sc_z70:FnScope ["table","values"] ["table"] (AJ IT):=by walk_at "f"
theorem UN:FnScope ["n","weights"] ["n","weights"] (AJ JF):=by walk_at "f"
theorem sc_z39:FnScope ["numbers","sums","step"] ["numbers"] (AJ Ij):=by walk_at "f"
theorem Wf:FnScope ["numbers","step","place"] ["numbers","step","place"] (AJ JX):=by walk_at "f"
theorem sc_z66:FnScope ["table","labels","rows"] ["table"] (AJ Kf):=by walk_at "f"
theorem sc_z29:FnScope ["game","found"] ["game"] (AJ JA):=by walk_at "f"
theorem sc_z34:FnScope ["game","labels","answers","one","other"] ["game"] (AJ KP):=by walk_at "f"
theorem sc_z69:FnScope ["game","reckoner","things"] ["game"] (AJ J7):=by walk_at "f"
theorem sc_z54:FnScope ["reckoner","things","question","no","yes"] ["reckoner","things"] (AJ Jo):=by walk_at "f"
theorem sc_z42:FnScope ["reckoner","things","entries","level","below","each","number"] ["reckoner","things"] (AJ Ka):=by walk_at "f"
theorem Vq:FnScope ["game","d","thing"] ["game","d","thing"] (AJ Ib):=by walk_at "f"
theorem SN:FnScope ["game","thing"] ["game","thing"] (AJ Ip):=by walk_at "f"
theorem sc_z46:FnScope ["many","thing","last","each"] ["many","thing"] (AJ HW):=by walk_at "f"
theorem sc_z33:FnScope ["self","game","entries","entry","things"] ["self","game","entries"] (AJ Iw):=by walk_at "f"
theorem sc_z25:FnScope ["self","things","number"] ["self"] (AJ JQ):=by walk_at "f"
theorem sc_z32:FnScope ["self","things","number","yes","left_by_yes"] ["self","things","number","yes"] (AJ Hk):=by walk_at "f"
theorem UV:FnScope ["self","things","number"] ["self","things","number"] (AJ Ki):=by walk_at "f"
theorem sc_z16:FnScope ["self","things","inside"] ["self","things"] (AJ Kj):=by walk_at "f"
theorem sc_z61:FnScope ["one","switches","subset","weight"] ["one"] (AJ JG):=by walk_at "f"
theorem sc_z55:FnScope ["has_form","parts_within","is_beyond","thing","level","depth","many","below","part"] ["has_form","parts_within","is_beyond","thing"] (AJ Iu):=by walk_at "f"
theorem Qh:FnScope ["game","thing"] ["game","thing"] (AJ Ct):=by walk_at "f"
theorem UO:FnScope ["questions","thing"] ["questions","thing"] (AJ K1):=by walk_at "f"
theorem Ta:FnScope ["tree"] ["tree"] (AJ KZ):=by walk_at "f"
theorem UR:FnScope ["many","depth"] ["many","depth"] (AJ Iy):=by walk_at "f"
theorem sc_z72:FnScope ["game","tree","thing","spot","asks"] ["game","tree","thing"] (AJ Jb):=by walk_at "f"
theorem Rc:FnScope ["game","d","thing"] ["game","d","thing"] (AJ JM):=by walk_at "f"
theorem sc_z43:FnScope ["game","d","tree","hidden","found"] ["game","d","tree","hidden"] (AJ Kt):=by walk_at "f"
theorem QS:FnScope ["_law_script"] ["_law_script"] (AJ Kg):=by walk_at "f"
theorem sc_z49:FnScope ["_law_tape_here","_law_many","_law_script","_law_digit","_law_cell","_law_seed"] ["_law_tape_here","_law_many"] (AJ Kb):=by walk_at "f"
theorem To:FnScope ["_law_k"] ["_law_k"] (AJ Je):=by walk_at "f"
theorem Ya:FnScope ["_law_n","_law_number"] ["_law_n","_law_number"] (AJ Jt):=by walk_at "f"
theorem sc_z50:FnScope ["_law_n","_law_one","_law_place","_law_shared"] ["_law_n","_law_one","_law_place"] (AJ JR):=by walk_at "f"
theorem sc_z45:FnScope ["_law_tape_here","_law_n","_law_many","_law_way","_law_some","_law_first","_law_answers","_law_seen","_law_place","_law_key","_law_turn"] ["_law_tape_here","_law_n"] (AJ JI):=by walk_at "f"
theorem sc_z52:FnScope ["_law_n","_law_table_here","_law_places","_law_known","_law_found","_law_k","_law_off","_law_on"] ["_law_n","_law_table_here","_law_places","_law_known"] (AJ KF):=by walk_at "f"
theorem sc_z38:FnScope ["_law_n","_law_table_here","_law_place","_law_found","_law_k","_law_step"] ["_law_n","_law_table_here","_law_place"] (AJ Hf):=by walk_at "f"
theorem sc_law:FnScope ["_law_script","_law_tape_here","_law_turn","_law_n","_law_table_here","_law_game","_law_whole","_law_many","_law_tree","_law_paper","_law_widest","_law_sharpest","_law_place","_law_label","_law_asks_here"] ["_law_script"] (AJ C2):=by walk_at "f"
noncomputable def B8:Str:=PySem.Str.ofString "Reckoner.first_question" ++ PySem.Str.ofString ".<locals>." ++ PySem.Str.ofString "<lambda>"
noncomputable def F9:Pos:=⟨79,45,79,97⟩
noncomputable def CS:Str:=PySem.Str.ofString "is_tree" ++ PySem.Str.ofString ".<locals>." ++ PySem.Str.ofString "<lambda>"
noncomputable def Ft:Pos:=⟨216,20,216,66⟩
set_option genInjectivity false
set_option genSizeOf false
structure Fun1(K:W.Frag)(mg:Str->Option Value)(n:Str)(st:Stmt)(ps:List Str) where
 f:Addr
 d:FuncData
 F:Fun K n n st f d
 b:Binds K d ps []
 m:mg n=some (.ref f)
structure Meth1(K:W.Frag)(C:Addr)(n q:Str)(st:Stmt)(ps:List Str) where
 f:Addr
 d:FuncData
 F:Fun K n q st f d
 b:Binds K d ps []
 m:Meth K C n f
structure Txt(K:W.Frag)(mg:Str->Option Value) where
 zD:Addr
 Z0b:mg "Bearing" = some (.ref zD)
 zF:Cls K zD
 zV:NoAttr K zD "yeses"
 zG:NoAttr K zD "numbers"
 zO:NoAttr K zD "found"
 zC:Addr
 Z0a:mg "Reckoner" = some (.ref zC)
 zE:Cls K zC
 zI:NoAttr K zC "labels"
 zK:NoAttr K zC "yeses"
 zS:NoAttr K zC "alike"
 zL:NoAttr K zC "known"
 z58:Fun1 K mg "is_whole" Kh ["thing"]
 z56:Fun1 K mg "is_below" IF ["bound","thing"]
 z68:Fun1 K mg "two_to" J2 ["n"]
 z57:Fun1 K mg "power_of" KC ["base","times"]
 z41:Fun1 K mg "switches_of" K3 ["table"]
 z71:Fun1 K mg "is_on" KM ["place","switch"]
 z67:Fun1 K mg "within" Kp ["subset","other"]
 z40:Fun1 K mg "set_holding" Jf ["members"]
 z44:Fun1 K mg "members_of" IN ["subset"]
 z31:Meth1 K zC "__init__" "Reckoner.__init__" Jk ["self","game"]
 zW:Mk K zC z31.f
 z23:Meth1 K zC "everything" "Reckoner.everything" IP ["self"]
 z18:Meth1 K zC "has_one_label" "Reckoner.has_one_label" Jd ["self","things"]
 z26:Meth1 K zC "label_of" "Reckoner.label_of" Jq ["self","things"]
 z27:Meth1 K zC "left_of" "Reckoner.left_of" Hs ["self","things","question","answer"]
 z19:Meth1 K zC "fewest_among" "Reckoner.fewest_among" Io ["self","things"]
 z15:Meth1 K zC "fewest_reckoned" "Reckoner.fewest_reckoned" JV ["self","things"]
 z28:Meth1 K zC "parting" "Reckoner.parting" HX ["self","things"]
 z21:Meth1 K zC "worst_behind" "Reckoner.worst_behind" Ja ["self","things","question"]
 z22:Meth1 K zC "harder_left" "Reckoner.harder_left" JN ["self","things","question"]
 z20:Meth1 K zC "harder_lefts" "Reckoner.harder_lefts" Kv ["self","things"]
 z17:Meth1 K zC "first_question" "Reckoner.first_question" Cf ["self","things"]
 z35:Fun1 K mg "members_where" Ku ["wanted","values"]
 z64:Fun1 K mg "is_pair" Ho ["thing"]
 z70:Fun1 K mg "sum_of" IT ["table"]
 z62:Fun1 K mg "sum_from" JF ["n","weights"]
 z39:Fun1 K mg "times_signs" Ij ["numbers"]
 z63:Fun1 K mg "crossed" JX ["numbers","step","place"]
 z66:Fun1 K mg "game_of" Kf ["table"]
 z29:Fun1 K mg "refuse_without_end" JA ["game"]
 z34:Fun1 K mg "first_unparted" KP ["game"]
 z69:Fun1 K mg "fewest" J7 ["game"]
 z54:Fun1 K mg "best_tree" Jo ["reckoner","things"]
 z42:Fun1 K mg "hard_paper" Ka ["reckoner","things"]
 z47:Fun1 K mg "lets_hard" Ib ["game","d","thing"]
 z59:Fun1 K mg "is_entry" Ip ["game","thing"]
 z46:Fun1 K mg "are_things" HW ["many","thing"]
 z33:Meth1 K zD "__init__" "Bearing.__init__" Iw ["self","game","entries"]
 zX:Mk K zD z33.f
 z25:Meth1 K zD "bears_all" "Bearing.bears_all" JQ ["self"]
 z32:Meth1 K zD "bears" "Bearing.bears" Hk ["self","things","number","yes"]
 z24:Meth1 K zD "has_within" "Bearing.has_within" Ki ["self","things","number"]
 z16:Meth1 K zD "greatest_within" "Bearing.greatest_within" Kj ["self","things"]
 z61:Fun1 K mg "hangs_on" JG ["one"]
 z55:Fun1 K mg "keeps_to" Iu ["has_form","parts_within","is_beyond","thing"]
 z65:Fun1 K mg "is_tree" Ct ["game","thing"]
 z36:Fun1 K mg "has_tree_form" K1 ["questions","thing"]
 z37:Fun1 K mg "trees_within" KZ ["tree"]
 z30:Fun1 K mg "is_too_large_tree" Iy ["many","depth"]
 z72:Fun1 K mg "asked" Jb ["game","tree","thing"]
 z48:Fun1 K mg "lets_tree" JM ["game","d","thing"]
 z43:Fun1 K mg "comes_home" Kt ["game","d","tree","hidden"]
 z53:Fun1 K mg "_law_tape" Kg ["_law_script"]
 z49:Fun1 K mg "_law_next" Kb ["_law_tape_here","_law_many"]
 z60:Fun1 K mg "_law_two" Je ["_law_k"]
 z51:Fun1 K mg "_law_bits" Jt ["_law_n","_law_number"]
 z50:Fun1 K mg "_law_sign" JR ["_law_n","_law_one","_law_place"]
 z45:Fun1 K mg "_law_table" JI ["_law_tape_here","_law_n"]
 z52:Fun1 K mg "_law_asks" KF ["_law_n","_law_table_here","_law_places","_law_known"]
 z38:Fun1 K mg "_law_turning" Hf ["_law_n","_law_table_here","_law_place"]
 yq:Addr
 yr:FuncData
 Z0g:Fun K "law" "law" C2 yq yr
 Z0i:Binds K yr ["_law_script"] []
 Z0h:mg "law" = some (.ref yq)
 yk:Addr
 zY:Addr
 Z0c:z17.d.code=.ref yk
 Z0e:W.codeHdIn K yk zY=true
 ym:Addr
 yb:Addr
 Z0f:z65.d.code=.ref ym
 Z0d:W.codeHdIn K ym yb=true
 np_0:zY≠yb
 yf:mg "all" = none
 yp:mg "any" = none
 yd:mg "bool" = none
 zN:mg "enumerate" = none
 yc:mg "int" = none
 zJ:mg "isinstance" = none
 zR:mg "len" = none
 ye:mg "list" = none
 ya:mg "max" = none
 yh:mg "min" = none
 zH:mg "range" = none
 yg:mg "set" = none
 zZ:mg "sorted" = none
 yo:mg "sum" = none
 zM:mg "tuple" = none
 yn:mg "zip" = none
 zU:Tok
 zT:mg "MOST_TREES" = some (.int 2000 zU)
 zQ:Tok
 zP:mg "MOST_WITHIN" = some (.int 16 zQ)
set_option genInjectivity true
set_option genSizeOf true
abbrev Ok_(P:Program)(w:World)(base:Heap){K:W.Frag}{mg:Str->Option Value}{n:Str}{st:Stmt}{ps:List Str}(z:Fun1 K mg n st ps)(k:Nat)(sp:Sp):Prop:=FnOk P w K mg base CX0 k z.f z.d ps sp
abbrev Om_(P:Program)(w:World)(mg:Str->Option Value)(base:Heap){K:W.Frag}{C:Addr}{n q:Str}{st:Stmt}{ps:List Str}(z:Meth1 K C n q st ps)(k:Nat)(sp:Sp):Prop:=FnOk P w K mg base CX0 k z.f z.d ps sp
section
variable {P:Program}{w:World}{K:W.Frag}{mg:Str->Option Value}{base:Heap}(T:Txt K mg)
local macro_rules | `(tactic| walk_at "sm")=>`(tactic| repeat' with_reducible first | exact SD | apply W1 | apply WF | apply Va | apply Vx | apply VC | apply Pf | apply RU | exact Rj | exact YE | apply Rh | apply Wl | apply UF | apply Qf | apply Rq | apply Yl | apply SI | apply WG | apply V7 | apply Wo | exact Vt | exact UI | exact ZA | exact Sz | exact QM | exact YV | exact SY | exact Qj | exact WR | exact Yj | exact XX | exact UZ | exact U4 | exact Ua | exact Sw | apply ZC | apply SM | apply Uw | apply Qm | exact Tt | apply Ye | exact Sa | exact Xf | exact RC | exact Sq | exact Qv | exact Vu | apply TJ | apply Uc | apply ZV | apply YY | exact Ar | apply Cc | exact BM | exact WC | exact Xa | exact Qb | apply Ut | apply UE | apply XU | apply Ql | apply Ps | exact Xj | exact Sl | exact Tv | exact Tp | apply Uj | exact QA | exact TY | exact Th | apply Ts | exact W4 | exact Y8 | exact TM | apply YI | apply UX | exact ZM | apply Rn | assumption)
set_option hygiene false in
local macro_rules | `(tactic| walk_at "q")=>`(tactic| (split at q;(revert q;repeat' first | exact h _ _ | exact At h | exact Ap h | exact As h | walk_at "m");(exact q.elim)))
set_option hygiene false in
local macro_rules | `(tactic| walk_at "e")=>`(tactic| (split at h <;> first | rfl | exact h.elim))
set_option hygiene false in
local macro_rules | `(tactic| walk_at "f")=>`(tactic| (intro zB A outer s H vs Q E hr h;have hu:=AT hr))
set_option hygiene false in
local macro_rules | `(tactic| walk_at "g")=>`(tactic| (split at h;rotate_left;(exact h.elim)))
local macro_rules | `(tactic| left)=>`(tactic| exact⟨by rfl,by first | exact Or.inl rfl | exact Or.inr (Or.inl rfl) | exact Or.inr (Or.inr rfl),by decide,by decide⟩)
local macro_rules | `(tactic| walk_at "m")=>`(tactic| with_reducible first | refine Exists.imp fun _=>?_ | refine And.imp_right ?_ | refine forall_imp fun _=>?_)
local macro_rules | `(tactic| walk_at "o")=>`(tactic| first | exact Or.inl rfl | exact Or.inr (Or.inl rfl) | exact Or.inr (Or.inr rfl))
local macro_rules | `(tactic| walk_at "i")=>`(tactic| first | exact .inl rfl | exact .inr rfl | assumption)
local macro_rules | `(tactic| right)=>`(tactic| first | exact Or.inl rfl | exact Or.inr rfl)
local macro_rules | `(tactic| walk_at "n")=>`(tactic| first | exact IG _ (by decide) (by decide) | rfl)
noncomputable def Kq:Sp:=fun vs H Q _=>match vs with
 | [.int b,.int t]=>∃m:Nat,t=m/\m<=64/\((-(2 ^ 64) < b/\b < 2 ^ 64)\/(Nb b 100/\m<=12))/\Q (.int (b ^ m)) H
 | _=>False
theorem Tz:Ok_ P w base T.z57 1 Kq:=by
 refine T.z57.F.ok sc_z57 (fun vs H Q E h=>by unfold Kq at h;walk_at "e") ?_;walk_at "f";unfold Kq at h;walk_at "g"
 rename_i b t;obtain⟨m,e1,h1,b1,q⟩:=h;subst e1;refine⟨_,(@AF _ _ _ _ _ (@AR _ _ 2 _ _ _ _ sc_z57.nd rfl (by right) AC (by rfl) (by walk_at "i")) (@AF _ _ _ _ _ (@Bk _ _ _ _ _ _ _ _ PassesOwn.never rfl (BP rfl T.zH (AA (vv 1) AB)) (AN (i:=3) sc_z57.nd rfl (by right)) (@AH _ _ _ (@AR _ _ 2 _ _ _ _ sc_z57.nd rfl (by right) (AU DO (vv 2) (vv 0)) (by rfl) (by walk_at "i"))) (by intro _;rfl)) (@AH _ _ _ (@AL _ _ _ _ (vv 2))))),?_⟩;refine⟨m,rfl,by lia,by lia,?_⟩;refine C7 (fun i Z H'=>H'=H/\∃z:Option V,Z=[some (.int b),some (.int m),some (.int (b ^ i)),z]) ⟨rfl,none,by rw[Int.pow_zero];rfl⟩ ?_ ?_
 ·rintro i Z H' hi ⟨rfl,z,rfl⟩;have hi':i < m:=by lia
  have okm:okMul (b ^ i) b:=by
   rcases b1 with b1 | ⟨b1,b2⟩
   ·exact .inr (.inr b1)
   ·exact Nb.okMul ((b1.pow i).up (by lia)) (b1.up (by lia))
  refine⟨okm,rfl,some (.int (0+(i:Int))),?_⟩;rw[Int.pow_succ];rfl
 ·rintro Z H' ⟨rfl,z,rfl⟩
  have:(m:Int).toNat=m:=by lia
  rw[this];exact q
noncomputable def IS:Sp:=fun vs H Q _=>match vs with
 | [.int n]=>∃m:Nat,n=m/\m<=64/\Q (.int (2 ^ m:Nat)) H
 | _=>False
theorem Hz:Ok_ P w base T.z68 2 IS:=by
 refine T.z68.F.ok ZI (fun vs H Q E h=>by unfold IS at h;walk_at "e") ?_;walk_at "f";unfold IS at h;walk_at "g"
 rename_i n;obtain⟨m,e1,h1,q⟩:=h;subst e1;refine⟨_,(@AH _ _ _ (@AL _ _ _ _ (AM (@Tz P w K mg base T) (hr.mono (show 1<=_ by decide)) rfl T.z57.m T.z57.F.kp T.z57.b .nil AG (AA AC (AA (vv 0) AB))))),?_⟩;refine⟨m,rfl,h1,.inl ⟨by decide,by decide⟩,?_⟩;have e:(2:Int) ^ m=((2 ^ m:Nat):Int):=by rw[ZCK];rfl
 rw[e];exact q
theorem YD:Ok_ P w base T.z53 1 (Jc K):=by
 refine T.z53.F.ok QS (fun vs H Q E h=>by unfold Jc at h;walk_at "e") (fun zB A outer s H vs Q E hr h=>?_);unfold Jc at h;walk_at "g"
 rename_i a;have k:=h;refine⟨_,(@AH _ _ _ (@AL _ _ _ _ (@Ca _ _ _ _ (AA (vv 0) (AA AC (AA AC (AA AC AB))))))),?_⟩;exact⟨by show 4<=sizeLine;rw[sizeLine_eq];decide,k⟩
theorem Oo:Ok_ P w base T.z49 1 (FT K):=by
 refine T.z49.F.ok sc_z49 (fun vs H Q E h=>by unfold FT at h;walk_at "e") ?_;walk_at "f";unfold FT at h;walk_at "g"
 rename_i t m;obtain⟨a,ns,TP,hm,k⟩:=h;obtain⟨⟨i,r,c,hi,hr0,ht⟩,hscr⟩:=id TP;refine⟨_,(@AF _ _ _ _ _ (@AR _ _ 2 _ _ _ _ sc_z49.nd rfl (by right) (zw (K:=K) (vv 0) AC) (by rfl) (by walk_at "i")) (@AF _ _ _ _ _ (@DC _ _ _ _ _ _ (AU (Bi (K:=K)) (zw (K:=K) (vv 0) AC) AC) (Dl (vv 0) AC Et) (by rfl) (by rfl) (by rfl)) (@AF _ _ _ _ _ (@Ao _ _ _ _ _ _ _ _ (PW.pt (EW (Af (kEq (K:=K) hu) (zw (K:=K) (vv 0) AC) AC) (Ef (Af DL (zw (K:=K) (vv 0) AC) (Aa (BG (K:=K)) rfl T.zR (by rfl) (AA (vv 2) AB)))))) (@AF _ _ _ _ _ (@DC _ _ _ _ _ _ (Aa (Gc rfl) rfl T.ya (by rfl) (AA AC (AA (AU Fv (zw (K:=K) (vv 2) (zw (K:=K) (vv 0) AC)) (AU Wb AC AC)) AB))) (Dl (vv 0) AC Et) (by rfl) (by rfl) (by rfl)) (@AH _ _ _ (@DC _ _ _ _ _ _ (AU (Bi (K:=K)) (zw (K:=K) (vv 0) AC) AC) (Dl (vv 0) AC Et) (by rfl) (by rfl) (by rfl)))) Aq) (@AF _ _ _ _ _ (@Ao _ _ _ _ _ _ _ _ (Af Bm (zw (K:=K) (vv 0) AC) AC) (@AF _ _ _ _ _ (@AR _ _ 3 _ _ _ _ sc_z49.nd rfl (by right) (AU CW (zw (K:=K) (vv 0) AC) (vv 1)) (by rfl) (by walk_at "i")) (@AF _ _ _ _ _ (@DC _ _ _ _ _ _ (AU Fv (zw (K:=K) (vv 0) AC) (vv 1)) (Dl (vv 0) AC Et) (by rfl) (by rfl) (by rfl)) (@AH _ _ _ (@AL _ _ _ _ (vv 3))))) Aq) (@AF _ _ _ _ _ (@AR _ _ 4 _ _ _ _ sc_z49.nd rfl (by right) (C3 (Af Bm (Aa (BG (K:=K)) rfl T.zR (by rfl) (AA (vv 2) AB)) AC) (zw (K:=K) (vv 2) (AU CW (zw (K:=K) (vv 0) AC) (Aa (BG (K:=K)) rfl T.zR (by rfl) (AA (vv 2) AB)))) AC) (by rfl) (by walk_at "i")) (@AF _ _ _ _ _ (@AR _ _ 5 _ _ _ _ sc_z49.nd rfl (by right) (AU CW (AU DO (AU (Bi (K:=K)) (AU (Bi (K:=K)) (AU CW (vv 4) AC) (AU DO AC (zw (K:=K) (vv 0) AC))) AC) AC) AC) (by rfl) (by walk_at "i")) (@AH _ _ _ (@AL _ _ _ _ (AU CW (AU CW (AU DO (AU CW (AU (Bi (K:=K)) (AU DO (vv 5) AC) (zw (K:=K) (vv 0) AC)) AC) AC) AC) (vv 1)))))))))),?_⟩
 -- script=tape[0];tape[3]=tape[3]+1
 refine⟨_,_,.inl (.of ht),rfl,_,_,.inl (.of ht),rfl,_,_,ht,rfl,?_⟩;have sc0:∀{H1:Hp},(∀b,b≠t->H1 b=H b)->ScrAt K H1 t a ns:=fun h=>hscr.stay fun o n e=>by rw[h a n];exact e
 have sc1:∀{H1:Hp},(∀b,b≠t->H1 b=H b)->zv K H1 a (ns.map V.int):=fun h=>(sc0 h).sq
 have f1:∀{o:HO} {H1:Hp},(∀b,b≠t->H1 b=H b)->∀b,b≠t->upd H1 t o b=H b:=fun h b n=>by rw[AI n];exact h b n
 dsimp only;refine Ad (fun σ' H1=>σ'=[some (.ref t),some (.int m),some (.ref a),none,none,none]/\(∀b,b≠t->H1 b=H b)/\∃i r c:Int,0<=i/\0<=r/\H1 t=some (.lst [.ref a,.int i,.int r,.int c])) ?_ ?_ (by walk_at "sm")
 ·-- the next number of the script,where the last one is used up
  have h1:∀{o:HO} (b:Addr),b≠t->upd H t o b=H b:=fun b n=>AI n
  refine⟨_,_,.inl (.of AD),rfl,?_⟩;refine Ab (fun e=>?_) (fun e=>?_)
  ·refine⟨_,_,.inl (.of AD),rfl,ns.length,.inl ⟨_,sc1 h1,by rw[Ze]⟩,?_⟩;refine Ab (fun e=>?_) (fun e=>?_)
   ·have zm:i < ns.length:=Zn e;obtain⟨z,hz⟩:=Pa hi zm;refine⟨_,_,.inl (.of AD),rfl,_,_,.inl (sc1 h1),hz,⟨by decide,by decide,by decide⟩,⟨by decide,by decide⟩,?_⟩;refine⟨_,_,AD,rfl,_,_,.inl (.of AD),rfl,_,_,AD,rfl,rfl,?_,i+1,max 0 (z / 10 ^ 18),c+1,by lia,by lia,AD⟩;exact f1 (f1 h1)
   ·exact⟨rfl,h1,i,r,c+1,hi,hr0,AD⟩
  ·exact⟨rfl,h1,i,r,c+1,hi,hr0,AD⟩
 rintro σ' H1 ⟨rfl,h1,i,r,c,hi,hr0,ht⟩;have T1:∀{H2:Hp} {i r c:Int},(∀b,b≠t->H2 b=H b)->0<=i->0<=r->H2 t=some (.lst [.ref a,.int i,.int r,.int c])->Tape K H2 t a ns:=fun h h1 h2 h3=>⟨⟨_,_,_,h1,h2,h3⟩,sc0 h⟩
 -- a digit of it
 refine⟨_,_,.inl (.of ht),rfl,?_⟩;have hm0:0 < m:=hm.1;refine Ab (fun e=>?_) (fun e=>?_)
 ·refine⟨_,_,.inl (.of ht),rfl,hm0,_,_,.inl (.of ht),rfl,hm,_,_,ht,rfl,?_⟩;exact k _ _ (Int.emod_nonneg _ (by lia)) (Int.emod_lt_of_pos _ hm0) (T1 (f1 h1) hi (Int.ediv_nonneg hr0 (by lia)) AD) (f1 h1)
 -- else a number made of the cell
 dsimp only[Fj];refine Ad (fun σ' H2=>H2=H1/\∃z:Int,σ'=[some (.ref t),some (.int m),some (.ref a),none,some (.int z),none]) ?_ ?_ (by walk_at "sm")
 ·refine⟨ns.length,.inl ⟨_,sc1 h1,by rw[Ze]⟩,?_⟩;refine Ab (fun e=>?_) (fun e=>?_)
  ·have zm:(0:Int) < ns.length:=Zn e;obtain⟨z,hz⟩:=Pa (ns:=ns) (Int.emod_nonneg c (show(ns.length:Int)≠0 by lia)) (Int.emod_lt_of_pos c zm);exact⟨_,_,.inl (.of ht),rfl,ns.length,.inl ⟨_,sc1 h1,by rw[Ze]⟩,zm,_,_,.inl (sc1 h1),hz,rfl,z,rfl⟩
  ·exact⟨rfl,0,rfl⟩
 rintro σ' H2 ⟨rfl,z,rfl⟩;refine⟨by decide,_,_,.inl (.of ht),rfl,.inr (.inl ⟨by decide,by decide⟩),.inr (.inr ⟨by decide,by decide⟩),by decide,?_⟩;refine⟨.inr (.inr ⟨by decide,by decide⟩),_,_,.inl (.of ht),rfl,by decide,.inr (.inr ⟨by decide,by decide⟩),by decide,hm0,?_⟩;exact k _ _ (Int.emod_nonneg _ (by lia)) (Int.emod_lt_of_pos _ hm0) (T1 h1 hi hr0 ht) h1
noncomputable def A7(n x:Nat):List Bool:=(List.range n).map fun k=>x / 2 ^ k % 2 == 1
noncomputable def Bd(n x y:Nat):List Bool:=(List.zip (A7 n x) (A7 n y)).map fun p=>p.1 && p.2
noncomputable def sgL(n x y:Nat):Int:=if (Bd n x y).countP id % 2=1 then -1 else 1
noncomputable def out(H:Hp)(Q:VK)(v:V):Prop:=∀H',zc H H'->Q v H'
noncomputable def Jr(H:Hp)(Q:VK)(xs:List V):Prop:=∀p H',H p=none->zc H H'->H' p=some (.lst xs)->Q (.ref p) H'
noncomputable def OI(H:Hp)(Q:VK)(xs:List V):Prop:=∀p H',H p=none->zc H H'->H' p=some (.tup xs)->Q (.ref p) H'
theorem Ap{Q Q':VK}(h:∀v H,Q v H->Q' v H)(q:out H Q v):out H Q' v:=fun H' s=>h _ _ (q H' s)
theorem Za{Q Q':VK}(h:∀v H,Q v H->Q' v H)(q:Jr H Q xs):Jr H Q' xs:=fun p H' a b c=>h _ _ (q p H' a b c)
theorem As{Q Q':VK}(h:∀v H,Q v H->Q' v H)(q:OI H Q xs):OI H Q' xs:=fun p H' a b c=>h _ _ (q p H' a b c)
noncomputable def Dh:Sp:=fun vs H Q _=>match vs with
 | [.int k]=>0<=k/\k<=6/\out H Q (.int (2 ^ k.toNat))
 | _=>False
theorem Nl:AK Dh:=fun vs H Q Q' E h q=>by
 unfold Dh at *;split at q
 ·exact⟨q.1,q.2.1,Ap h q.2.2⟩
 ·exact q.elim
theorem Gh:Ok_ P w base T.z60 1 Dh:=by
 refine T.z60.F.ok To (fun vs H Q E h=>by unfold Dh at h;walk_at "e") (fun zB A outer s H vs Q E hr h=>?_);unfold Dh at h;walk_at "g"
 rename_i k;obtain⟨h1,h2,q⟩:=h;refine⟨_,(@AH _ _ _ (@AL _ _ _ _ (zw (K:=K) (@Ca _ _ _ _ (AA AC (AA AC (AA AC (AA AC (AA AC (AA AC (AA AC AB)))))))) (vv 0)))),?_⟩;refine⟨smq rfl,fun p hp=>?_⟩
 have e:atI [V.int 1,.int 2,.int 4,.int 8,.int 16,.int 32,.int 64] k=some (.int (2 ^ k.toNat)):=by
  have:k=0\/k=1\/k=2\/k=3\/k=4\/k=5\/k=6:=by lia
  rcases this with e | e | e | e | e | e | e <;> subst e <;> rfl
 exact⟨_,_,.inl (.of AD),e,q _ (zc.upd hp)⟩
noncomputable def DE:Sp:=fun vs H Q _=>match vs with
 | [.int n,.int x]=>∃m y:Nat,n=m/\x=y/\m<=6/\Jr H Q ((A7 m y).map V.bl)
 | _=>False
theorem HR:AK DE:=fun vs H Q Q' E h q=>by
 unfold DE at *;walk_at "q"
theorem VF(h:i < m):(A7 m y).take (i+1)=(A7 m y).take i++[y / 2 ^ i % 2 == 1]:=by
 rw[ZBB]
 congr 1
 unfold A7;rw[Zm,ZBp h];rfl
theorem B3:(A7 m y).length=m:=by unfold A7;simp
theorem Fk:Ok_ P w base T.z51 2 DE:=by
 refine T.z51.F.ok Ya (fun vs H Q E h=>by unfold DE at h;walk_at "e") ?_;walk_at "f";unfold DE at h;walk_at "g"
 rename_i n x;obtain⟨m,y,e1,e2,h1,q⟩:=h;subst e1 e2;refine⟨_,(@AH _ _ _ (@AL _ _ _ _ (@Az _ _ _ _ _ _ _ (["_law_k","_law_number"]) 1 [1] _ _ _ _ rfl (BP rfl T.zH (AA (vv 0) AB)) (by kernel_rfl) rfl rfl (by kernel_rfl) (fun c=>AN (i:=0) (show(["_law_k","_law_number"]:List Str).Nodup by decide +kernel) rfl (by right)) (AX (by decide)) (fun c=>Av) (fun c=>(BD (kEq (K:=K) hu) (AU CW (AU Fv (vv 1) (AM (@Gh P w K mg base T) (hr.mono (show 1<=_ by decide)) rfl T.z60.m T.z60.F.kp T.z60.b .nil AG (AA (vv 0) AB))) AC) AC)) (by intro _;rfl)))),?_⟩;refine⟨m,rfl,by lia,by lia,?_⟩;refine CM (fun i ys H'=>zc H H'/\ys=((A7 m y).take i).map V.bl) ⟨zc.refl _,rfl⟩ (fun i ys H' hi ⟨_,e⟩=>by rw[e];exact Aj (by rw[Ze,Z7];lia)) ?_ ?_
 ·rintro i ys H' hi ⟨s1,rfl⟩;have hi':i < m:=by lia
  refine⟨by lia,by lia,fun H2 s2=>?_⟩;have e0:((0:Int)+(i:Int)).toNat=i:=by lia
  rw[e0];have ep:((2:Int) ^ i)=((2 ^ i:Nat):Int):=by rw[ZCK];rfl
  have hp:0 < 2 ^ i:=ZBd i;have hle:(2:Nat) ^ i<=2 ^ 6:=Z3 (by decide) (by lia);refine⟨Cd (by rw[ep];lia) (by rw[ep];exact Int.le_trans (ZCO.mpr hle) (by decide)),by decide,?_⟩;refine⟨s1.trans s2,?_⟩;rw[VF hi',Zt]
  congr 2
  rw[ep];show V.bl (false ^^ (((y:Int) / ((2 ^ i:Nat):Int) % 2) == 1))=V.bl (y / 2 ^ i % 2 == 1);rw[ZBn,<- Int.natCast_ediv]
  congr 1
  rw[ZBi];simp only[beq_iff_eq];lia
 ·rintro ys H' ⟨s1,rfl⟩ p hp
  have:(A7 m y).take (m:Int).toNat=A7 m y:=by
   rw[ZBo];rw[B3];lia
  rw[this];exact q p _ (s1.free hp) (s1.trans (zc.upd hp)) AD
noncomputable def D7(K:W.Frag):Sp:=fun vs H Q _=>match vs with
 | [.int n,.int x,.int y]=>∃m a b:Nat,n=m/\x=a/\y=b/\m<=6/\out H Q (.int (sgL m a b))
 | _=>False
theorem Yn:AK (D7 K):=fun vs H Q Q' E h q=>by
 unfold D7 at *;walk_at "q"
theorem K6(bs:List Bool):(bs.map V.bl).countP (fun v=>eqV v (.bl true))=bs.countP id:=by
 rw[List.countP_map]
 congr 1
 funext b
 cases b <;> rfl
theorem VT(bs:List Bool):(bs.map V.bl).all Cu=true:=by
 rw[List.all_map,ZBW];intro b _;rfl
theorem shared_take{a b:Nat}(h:i < m):(Bd m a b).take (i+1)=(Bd m a b).take i++[(a / 2 ^ i % 2 == 1) && (b / 2 ^ i % 2 == 1)]:=by
 rw[ZBB]
 congr 1
 unfold Bd A7;simp[Zm,List.getElem?_zip_eq_some,h]
theorem Uq:Ok_ P w base T.z50 3 (D7 K):=by
 have G_z51:=@Fk P w K mg base T;refine T.z50.F.ok sc_z50 (fun vs H Q E h=>by unfold D7 at h;walk_at "e") ?_;walk_at "f";have hr_z51:=hr.mono (show 2<=_ by decide);unfold D7 at h;walk_at "g"
 rename_i n x y;obtain⟨m,a,b,e1,e2,e3,h1,q⟩:=h;subst e1 e2 e3;refine⟨_,(@AF _ _ _ _ _ (@Cv _ _ _ _ _ _ _ (["_law_a","_law_b"]) 2 [] _ _ _ _ 3 _ _ _ rfl sc_z50.nd rfl rfl (NS (K:=K) rfl T.yn (AA (AM G_z51 hr_z51 rfl T.z51.m T.z51.F.kp T.z51.b .nil AG (AA (vv 0) (AA (vv 1) AB))) (AA (AM G_z51 hr_z51 rfl T.z51.m T.z51.F.kp T.z51.b .nil AG (AA (vv 0) (AA (vv 2) AB))) AB))) (by kernel_rfl) rfl rfl (by kernel_rfl) (fun c=>Cg (K:=K) (n:=2) rfl (Ax (AN (i:=0) (show(["_law_a","_law_b"]:List Str).Nodup by decide +kernel) rfl (by right)) (Ax (AN (i:=1) (show(["_law_a","_law_b"]:List Str).Nodup by decide +kernel) rfl (by right)) Bv))) (Ce (BQ Ar (Cc Ar BM) (AX (by decide)) (BQ Ar BM (AX (by decide)) Co))) (fun c=>Av) (fun c=>(CP (vv 0) (Bx (vv 1)))) (by rfl) (by intro _;rfl)) (@AH _ _ _ (@AL _ _ _ _ (zw (K:=K) (@Ca _ _ _ _ (AA AC (AA (Gg Gu AC) AB))) (AU CW (JL (K:=K) (vv 3) (AA Au AB)) AC))))),?_⟩;refine⟨m,a,rfl,rfl,h1,fun p1 H1 n1 s1 g1=>⟨m,b,rfl,rfl,h1,fun p2 H2 n2 s2 g2=>?_⟩⟩;have g1':=s2 _ _ g1;refine⟨⟨_,.of g1'⟩,⟨_,.of g2⟩,?_⟩
 refine LV (xs:=(A7 m a).map V.bl) (ys:=(A7 m b).map V.bl) (fun i zs H'=>zc H2 H'/\zs=((Bd m a b).take i).map V.bl) ⟨zc.refl _,rfl⟩ (by rw[Ze,Ze,B3,B3])
  (fun i zs H' _ ⟨s,_⟩=>⟨.of (s _ _ g1'),.of (s _ _ g2)⟩) (fun i zs H' hi ⟨_,e⟩=>by
   rw[Ze,B3]at hi;rw[e];exact Aj (by rw[Ze,Z7];lia)) ?_ ?_
 ·rintro i u v zs H' p hx hy ⟨s,rfl⟩ hp
  have hi:i < m:=by
   have:=(Z4.mp hx).1
   rw[Ze,B3]at this;exact this
  have ex:u=.bl (a / 2 ^ i % 2 == 1):=by
   rw[Zm,show A7 m a=(List.range m).map _ from rfl,Zm,ZBp hi]at hx;exact(Zv hx).symm
  have ey:v=.bl (b / 2 ^ i % 2 == 1):=by
   rw[Zm,show A7 m b=(List.range m).map _ from rfl,Zm,ZBp hi]at hy;exact(Zv hy).symm
  subst ex ey;refine⟨p,_,rfl,.of AD,rfl,_,_,rfl,_,_,rfl,rfl,?_⟩;have s':zc H2 (upd H' p (.tup [.bl (a / 2 ^ i % 2 == 1),.bl (b / 2 ^ i % 2 == 1)])):=s.trans (zc.upd hp);refine Ab (fun e=>?_) (fun e=>?_)
  ·refine⟨s',?_⟩;rw[shared_take hi,Zt,e,ZCG];rfl
  ·refine⟨s',?_⟩;have e:(a / 2 ^ i % 2 == 1)=false:=by simpa using e
   rw[shared_take hi,Zt,e,ZCH];rfl
 rintro zs H' ⟨s,rfl⟩ l hl;have zk:((A7 m a).map V.bl).length=m:=by rw[Ze,B3]
 have sl:(Bd m a b).length=m:=by unfold Bd;simp[B3]
 rw[zk,ZBo (by lia)];refine⟨smq rfl,fun r hr'=>?_⟩
 have hl':upd (upd H' l (.lst ((Bd m a b).map V.bl))) r (.lst [.int 1,.int (-1)]) l=some (.lst ((Bd m a b).map V.bl)):=by
  have:l≠r:=fun e=>by rw[e,AD]at hr';cases hr'
  rw[AI this];exact AD
 refine⟨.inl ⟨rfl,_,.of hl'⟩,_,.of hl',rfl,VT _,by decide,?_⟩;rw[K6]
 have e:atI [V.int 1,V.int (-1)] ((((Bd m a b).countP id:Nat):Int) % 2)=some (.int (sgL m a b)):=by
  unfold sgL
  have:(Bd m a b).countP id % 2=0\/(Bd m a b).countP id % 2=1:=by lia
  rcases this with e | e
  ·rw[if_neg (by lia)]
   have:(((Bd m a b).countP id:Nat):Int) % 2=0:=by lia
   rw[this];rfl
  ·rw[if_pos e]
   have:(((Bd m a b).countP id:Nat):Int) % 2=1:=by lia
   rw[this];rfl
 refine⟨_,_,.inl (.of AD),e,?_⟩;exact q _ ((s1.trans s2).trans ((s.trans (zc.upd hl)).trans (zc.upd hr')))
noncomputable def EE(K:W.Frag):Sp:=fun vs H Q _=>match vs with
 | [.ref t,.int n]=>∃(a:Addr) (ns:List Int) (m:Nat),Tape K H t a ns/\n=m/\1<=m/\m<=6/\∀(bs:List Bool) p H',bs.length=2 ^ m->H p=none->H' p=some (.tup (bs.map V.bl))->Tape K H' t a ns->zp t H H'->Q (.ref p) H'
 | _=>False
theorem Wg:AK (EE K):=fun vs H Q Q' E h q=>by
 unfold EE at *;walk_at "q"
structure TabL(K:W.Frag)(H0:Hp)(t a:Addr)(ns:List Int)(M:Nat)(l:Addr)(H:Hp):Prop where
 tp:Tape K H t a ns
 fr:zp t H0 H
 new:H0 l=none
 at_:∃bs:List Bool,H l=some (.lst (bs.map V.bl))/\bs.length=M
noncomputable def Ei(K:W.Frag)(H0:Hp)(t a:Addr)(ns:List Int)(m M:Nat):St->Hp->Prop:=fun Z H=>∃(l:Addr) (way:Int) (y:Nat) (fb:Bool) (z1 z2 z3 z4:Option V),
 Z=[some (.ref t),some (.int m),some (.int M),some (.int way),some (.int y),some (.bl fb),some (.ref l),z1,z2,z3,z4]/\y < M/\TabL K H0 t a ns M l H
theorem Fy(h:∀b,b≠t->H' b=H b):zp t H H':=fun b o n e=>by rw[h b n];exact e
theorem TabL.same(L:TabL K H0 t a ns M l H)(s:zc H H'):TabL K H0 t a ns M l H' :=
 ⟨L.tp.same s,L.fr.trans s.frm,L.new,let ⟨bs,h,e⟩:=L.at_;⟨bs,s _ _ h,e⟩⟩
theorem TabL.ne(L:TabL K H0 t a ns M l H)(T0:Tape K H0 t a ns):l≠t:=T0.neT L.new
theorem TabL.draw(L:TabL K H0 t a ns M l H)(T0:Tape K H0 t a ns)(T1:Tape K H' t a ns)(f:∀b,b≠t->H' b=H b):TabL K H0 t a ns M l H' :=
 ⟨T1,L.fr.trans (Fy f),L.new,let ⟨bs,h,e⟩:=L.at_;⟨bs,by rw[f l (L.ne T0)];exact h,e⟩⟩
theorem Iz(f:zp t H0 H)(hp:H0 p=none):zp t H0 (upd H p o):=fun b u n e=>by
 rw[AI (Bo e hp)];exact f b u n e
theorem TabL.other(L:TabL K H0 t a ns M l H)(T0:Tape K H0 t a ns)(hp:H0 p=none)(hl:p≠l):TabL K H0 t a ns M l (upd H p o):=by
 have nt:=T0.neT hp;have F:zp t H0 (upd H p o):=Iz L.fr hp;obtain⟨i,r,c,h1,h2,h3⟩:=L.tp.at_;refine⟨⟨⟨i,r,c,h1,h2,by rw[AI (Ne.symm nt)];exact h3⟩,T0.scr.stay fun o n e=>F a o n e⟩,F,L.new,?_⟩;obtain⟨bs,h,e⟩:=L.at_;exact⟨bs,by rw[AI (Ne.symm hl)];exact h,e⟩
theorem TabL.put(L:TabL K H0 t a ns M l H)(T0:Tape K H0 t a ns)(hb:bs.length=M):TabL K H0 t a ns M l (upd H l (.lst (bs.map V.bl))):=by
 have F:zp t H0 (upd H l (.lst (bs.map V.bl))):=Iz L.fr L.new;obtain⟨i,r,c,h1,h2,h3⟩:=L.tp.at_;exact⟨⟨⟨i,r,c,h1,h2,by rw[AI (Ne.symm (L.ne T0))];exact h3⟩,T0.scr.stay fun o n e=>F a o n e⟩,F,L.new,bs,AD,hb⟩
theorem M6(h:i < n):ixN n ((i:Nat):Int)=some i:=by
 unfold ixN;rw[if_pos (ZCg i),if_pos (by lia)];simp
theorem O2(bs:List Bool)(i:Nat)(b:Bool):(bs.map V.bl).set i (.bl b)=(bs.set i b).map V.bl:=by
 rw[List.map_set]
theorem Ug{xs:BX}{ks:List Bool}(h:Cm xs ks=true):∃c v,atKey (bxv xs) ks=some (c,Value.bool v):=by
 have e:=J6 xs ks;rw[h]at e;obtain⟨⟨c,u⟩,hc⟩:=ZCe.mp e;have hc':=hc;unfold atKey at hc';obtain⟨z,hz,ez⟩:=ZCi.mp hc';have hm:=List.mem_of_find?_eq_some hz;unfold bxv at hm;obtain⟨q,_,rfl⟩:=Zk.mp hm;cases ez;exact⟨_,_,hc⟩
theorem OK{xs:BX}{o':HO}(h:CU H xs)(hp:H p=some o)(ho:∀ys,HO.tup ys≠o):CU (upd H p o') xs:=fun q hq=>by
 rw[AI (BK (h q hq) hp (ho _))];exact h q hq
theorem QR{xs:BX}(h:CU H xs)(s:zc H H'):CU H' xs:=fun q hq=>s _ _ (h q hq)
theorem U5:Ok_ P w base T.z45 4 (EE K):=by
 have G_z49:=@Oo P w K mg base T;have G_z51:=@Fk P w K mg base T;refine T.z45.F.ok sc_z45 (fun vs H Q E h=>by unfold EE at h;walk_at "e") ?_;walk_at "f";have mo1:AK (D7 K):=Yn;have mo2:AK DE:=HR;have hr_z49:=hr.mono (show 1<=_ by decide);have hr_z51:=hr.mono (show 2<=_ by decide);unfold EE at h;walk_at "g"
 rename_i t n;obtain⟨a,ns,m,TP,e1,m1,m6,q⟩:=h;subst e1;refine⟨_,(@AF _ _ _ _ _ (@AR _ _ 2 _ _ _ _ sc_z45.nd rfl (by right) (AM (@Gh P w K mg base T) (hr.mono (show 1<=_ by decide)) rfl T.z60.m T.z60.F.kp T.z60.b .nil AG (AA (vv 1) AB)) (by rfl) (by walk_at "i")) (@AF _ _ _ _ _ (@AR _ _ 3 _ _ _ _ sc_z45.nd rfl (by right) (AM G_z49 hr_z49 rfl T.z49.m T.z49.F.kp T.z49.b .nil AG (AA (vv 0) (AA AC AB))) (by rfl) (by walk_at "i")) (@AF _ _ _ _ _ (@AR _ _ 4 _ _ _ _ sc_z45.nd rfl (by right) (AM G_z49 hr_z49 rfl T.z49.m T.z49.F.kp T.z49.b .nil AG (AA (vv 0) (AA (vv 2) AB))) (by rfl) (by walk_at "i")) (@AF _ _ _ _ _ (@AR _ _ 5 _ _ _ _ sc_z45.nd rfl (by right) (BD (kEq (K:=K) hu) (AM G_z49 hr_z49 rfl T.z49.m T.z49.F.kp T.z49.b .nil AG (AA (vv 0) (AA AC AB))) AC) (by rfl) (by walk_at "i")) (@AF _ _ _ _ _ (@Cv _ _ _ _ _ _ _ (["_law_place","_law_first"]) 1 [5] _ _ _ _ 6 _ _ _ rfl sc_z45.nd rfl rfl (BP rfl T.zH (AA (vv 2) AB)) (by kernel_rfl) rfl rfl (by kernel_rfl) (fun c=>AN (i:=0) (show(["_law_place","_law_first"]:List Str).Nodup by decide +kernel) rfl (by right)) (AX (by decide)) (fun c=>Av) (fun c=>(vv 1)) (by rfl) (by intro _;rfl)) (@AF _ _ _ _ _ (@Ao _ _ _ _ _ _ _ _ (Af DL (vv 3) AC) (@AH _ _ _ (@Cv _ _ _ _ _ _ _ (["_law_place","_law_tape_here"]) 1 [0] _ _ _ _ 6 _ _ _ rfl sc_z45.nd rfl rfl (BP rfl T.zH (AA (vv 2) AB)) (by kernel_rfl) rfl rfl (by kernel_rfl) (fun c=>AN (i:=0) (show(["_law_place","_law_tape_here"]:List Str).Nodup by decide +kernel) rfl (by right)) (AX (by decide)) (fun c=>Av) (fun c=>(BD (kEq (K:=K) hu) (AM G_z49 hr_z49 rfl T.z49.m T.z49.F.kp T.z49.b .nil AG (AA (vv 1) (AA AC AB))) AC)) (by rfl) (by intro _;rfl))) Aq) (@AF _ _ _ _ _ (@Ao _ _ _ _ _ _ _ _ (Af (kEq (K:=K) hu) (vv 3) AC) (@AH _ _ _ (@Cv _ _ _ _ _ _ _ (["_law_place","_law_first","_law_n","_law_some"]) 1 ([5,1,4]) _ _ _ _ 6 _ _ _ rfl sc_z45.nd rfl rfl (BP rfl T.zH (AA (vv 2) AB)) (by kernel_rfl) rfl rfl (by kernel_rfl) (fun c=>AN (i:=0) (show(["_law_place","_law_first","_law_n","_law_some"]:List Str).Nodup by decide +kernel) rfl (by right)) (AX (by decide)) (fun c=>Av) (fun c=>(BD (kEq (K:=K) hu) (vv 1) (BD (kEq (K:=K) hu) (AM (@Uq P w K mg base T) (hr.mono (show 3<=_ by decide)) rfl T.z50.m T.z50.F.kp T.z50.b .nil AG (AA (vv 2) (AA (vv 3) (AA (vv 0) AB)))) AC))) (by rfl) (by intro _;rfl))) Aq) (@AF _ _ _ _ _ (@Ao _ _ _ _ _ _ _ _ (Af (kEq (K:=K) hu) (vv 3) AC) (@AF _ _ _ _ _ (@AR _ _ 7 _ _ _ _ sc_z45.nd rfl (by right) (Xt (P:=P) (w:=w)) (by rfl) (by walk_at "i")) (@AH _ _ _ (@Bk _ _ _ _ _ _ _ _ PassesOwn.never rfl (BP rfl T.zH (AA (vv 2) AB)) (AN (i:=8) sc_z45.nd rfl (by right)) (@AF _ _ _ _ _ (@AR _ _ 9 _ _ _ _ sc_z45.nd rfl (by right) (BU (CY (K:=K)) rfl T.zM (by rfl) (AA (Az (N':=["_law_a","_law_b"]) (own:=2) (ix:=[]) rfl (NS (K:=K) rfl T.yn (AA (AM G_z51 hr_z51 rfl T.z51.m T.z51.F.kp T.z51.b .nil AG (AA (vv 1) (AA (vv 8) AB))) (AA (AM G_z51 hr_z51 rfl T.z51.m T.z51.F.kp T.z51.b .nil AG (AA (vv 1) (AA (vv 4) AB))) AB))) (by kernel_rfl) rfl rfl (by kernel_rfl) (fun c=>Cg (K:=K) (n:=2) rfl (Ax (AN (i:=0) (show(["_law_a","_law_b"]:List Str).Nodup by decide +kernel) rfl (by right)) (Ax (AN (i:=1) (show(["_law_a","_law_b"]:List Str).Nodup by decide +kernel) rfl (by right)) Bv))) (Ce (BQ Ar (Cc Ar BM) (AX (by decide)) (BQ Ar BM (AX (by decide)) Co))) (fun c=>Av) (fun c=>(CP (vv 0) (Bx (vv 1))))) AB)) (by rfl) (by walk_at "i")) (@AF _ _ _ _ _ (@Ao _ _ _ _ _ _ _ _ (Af (RQ (P:=P) (w:=w) hu) (vv 9) (vv 7)) (@AH _ _ _ (@DC _ _ _ _ _ _ (BD (kEq (K:=K) hu) (AM G_z49 hr_z49 rfl T.z49.m T.z49.F.kp T.z49.b .nil AG (AA (vv 0) (AA AC AB))) AC) (Dl (vv 7) (vv 9) (QN (P:=P) (w:=w) hu)) (by rfl) (by rfl) (by rfl))) Aq) (@AH _ _ _ (@DC _ _ _ _ _ _ (Sm (P:=P) (w:=w) hu (vv 7) (vv 9)) (Dl (vv 6) (vv 8) Et) (by rfl) (by rfl) (by rfl))))) (by intro _;rfl)))) Aq) (@AF _ _ _ _ _ (@Bk _ _ _ _ _ _ _ _ PassesOwn.never rfl (BP rfl T.zH (AA (AU DO (AM G_z49 hr_z49 rfl T.z49.m T.z49.F.kp T.z49.b .nil AG (AA (vv 0) (AA AC AB))) (BU Gf rfl T.yc (by rfl) (AA (BD Bm (vv 3) AC) AB))) AB)) (AN (i:=10) sc_z45.nd rfl (by right)) (@AF _ _ _ _ _ (@AR _ _ 8 _ _ _ _ sc_z45.nd rfl (by right) (AM G_z49 hr_z49 rfl T.z49.m T.z49.F.kp T.z49.b .nil AG (AA (vv 0) (AA (vv 2) AB))) (by rfl) (by walk_at "i")) (@AH _ _ _ (@DC _ _ _ _ _ _ (NV (zw (K:=K) (vv 6) (vv 8))) (Dl (vv 6) (vv 8) Et) (by rfl) (by rfl) (by rfl)))) (by intro _;rfl)) (@AH _ _ _ (@AL _ _ _ _ (BU (CY (K:=K)) rfl T.zM (by rfl) (AA (vv 6) AB))))))))))))),?_⟩;have e2:(2:Int) ^ ((m:Int).toNat)=((2 ^ m:Nat):Int):=by rw[Z6,ZCK];rfl
 have h64:2 ^ m<=64:=Z3 (n:=2) (by decide) m6;have h2:2<=2 ^ m:=Z3 (n:=2) (i:=1) (by decide) m1;refine⟨by lia,by lia,fun H1 s1=>?_⟩;rw[e2];generalize hM:2 ^ m=M at *;have T1:=TP.same s1;have hMd:okDiv (M:Int):=Cd (by lia) (Int.le_trans (ZCO.mpr h64) (by decide));have hMr:(M:Int) < 2 ^ 62:=Int.lt_of_le_of_lt (ZCO.mpr h64) (by decide);refine⟨a,ns,T1,Cd (by decide) (by decide),fun way H2 w0 w1 T2 f2=>⟨a,ns,T2,hMd,fun y' H3 y0 y1 T3 f3=>⟨a,ns,T3,Cd (by decide) (by decide),fun d H4 _ _ T4 f4=>?_⟩⟩⟩;obtain⟨y,rfl⟩:=Int.eq_ofNat_of_zero_le y0;have hy:y < M:=by lia
 have F4:zp t H H4:=s1.frm.trans ((Fy f2).trans ((Fy f3).trans (Fy f4)));dsimp only[tC,mEq,Ak,eqV];generalize (false ^^ (d == 1))=fb;refine Ad (Ei K H t a ns m M) ?_ ?_ (by walk_at "sm")
 ·refine⟨(M:Int),rfl,by lia,by lia,?_⟩
  refine CM (fun i ys H'=>H'=H4/\ys=(List.replicate i fb).map V.bl) ⟨rfl,rfl⟩ (fun i ys H' hi ⟨_,e⟩=>by
   rw[e];exact Aj (by rw[Ze,ZCS];lia)) ?_ ?_
  ·rintro i ys H' hi ⟨rfl,rfl⟩;refine⟨rfl,?_⟩;rw[List.replicate_succ',Zt];rfl
  ·rintro ys H' ⟨rfl,rfl⟩ l hl;exact⟨l,way,y,fb,none,none,none,none,rfl,hy,T4.upd hl,F4.trans (zp.upd hl),T4.free F4 hl,_,AD,by rw[ZCS];lia⟩
 rintro Z Ha ⟨l,way,y,fb,z1,z2,z3,z4,rfl,hy,L⟩;refine Ad (Ei K H t a ns m M) ?_ ?_ (by walk_at "sm")
 ·-- any answers
  refine Ab (fun e=>?_) (fun e=>⟨l,way,y,fb,z1,z2,z3,z4,rfl,hy,L⟩);refine⟨(M:Int),rfl,by lia,by lia,?_⟩
  refine CM (fun i ys H'=>Tape K H' t a ns/\zp t H H'/\∃bs:List Bool,ys=bs.map V.bl/\bs.length=i) ⟨L.tp,L.fr,[],rfl,rfl⟩ (fun i ys H' hi ⟨_,_,bs,e,el⟩=>by
   rw[e];exact Aj (by rw[Ze];lia)) ?_ ?_
  ·rintro i ys H' hi ⟨Ti,Fi,bs,rfl,rfl⟩;refine⟨a,ns,Ti,Cd (by decide) (by decide),fun d H2 _ _ T2 f2=>?_⟩;exact⟨T2,Fi.trans (Fy f2),bs++[(false ^^ (d == 1))],by rw[Zt];rfl,by rw[Zy];rfl⟩
  ·rintro ys H' ⟨Ti,Fi,bs,rfl,hb⟩ l' hl;exact⟨l',way,y,fb,z1,z2,z3,z4,rfl,hy,Ti.upd hl,Fi.trans (zp.upd hl),Ti.free Fi hl,bs,AD,by lia⟩
 clear L;rintro Z Ha ⟨l,way,y,fb,z1,z2,z3,z4,rfl,hy,L⟩;refine Ad (Ei K H t a ns m M) ?_ ?_ (by walk_at "sm")
 ·-- odd of a set
  refine Ab (fun e=>?_) (fun e=>⟨l,way,y,fb,z1,z2,z3,z4,rfl,hy,L⟩);refine⟨(M:Int),rfl,by lia,by lia,?_⟩
  refine CM (fun i ys H'=>zc Ha H'/\∃bs:List Bool,ys=bs.map V.bl/\bs.length=i) ⟨zc.refl _,[],rfl,rfl⟩ (fun i ys H' hi ⟨_,bs,e,el⟩=>by
   rw[e];exact Aj (by rw[Ze];lia)) ?_ ?_
  ·rintro i ys H' hi ⟨Si,bs,rfl,rfl⟩;refine⟨m,y,bs.length,rfl,rfl,by lia,m6,fun H2 s2=>?_⟩;exact⟨Si.trans s2,bs++[(false ^^ (fb == (false ^^ (sgL m y bs.length == 1))))],by rw[Zt];rfl,by rw[Zy];rfl⟩
  ·rintro ys H' ⟨Si,bs,rfl,hb⟩ l' hl;have Fi:=L.fr.trans (Si.frm (t:=t));exact⟨l',way,y,fb,z1,z2,z3,z4,rfl,hy,(L.tp.same Si).upd hl,Fi.trans (zp.upd hl),(L.tp.same Si).free Fi hl,bs,AD,by lia⟩
 clear L;rintro Z Ha ⟨l,way,y,fb,z1,z2,z3,z4,rfl,hy,L⟩;refine Ad (Ei K H t a ns m M) ?_ ?_ (by walk_at "sm")
 ·-- of few switches
  refine Ab (fun e=>?_) (fun e=>⟨l,way,y,fb,z1,z2,z3,z4,rfl,hy,L⟩);refine fun p hp=>?_
  have hp0:H p=none:=L.tp.free L.fr hp
  have pl:p≠l:=fun e=>by
   obtain⟨bs,hb,_⟩:=L.at_;rw[e,hb]at hp;cases hp
  refine⟨(M:Int),rfl,by lia,by lia,?_⟩
  refine C7 (fun i Z H'=>∃(z2 z3:Option V) (xs:BX),Z=[some (.ref t),some (.int m),some (.int M),some (.int way),some (.int y),some (.bl fb),some (.ref l),some (.ref p),z2,z3,z4]/\TabL K H t a ns M l H'/\H' p=some (dB P w p xs)/\CU H' xs/\xs.length<=i)
   ⟨z2,z3,[],rfl,L.other TP hp0 pl,AD,(fun q hq=>by cases hq),Zf _⟩ ?_ ?_
  ·rintro i Z Hb hi ⟨z2,z3,xs,rfl,Lb,hd,hk,hx⟩;have hi':i < M:=by lia
   have e0:(0:Int)+(i:Int)=(i:Int):=ZBw _;rw[e0];refine⟨m,i,rfl,rfl,m6,fun p1 H1 n1 s1 g1=>⟨m,y,rfl,rfl,m6,fun p2 H2 n2 s2 g2=>?_⟩⟩;have g1':=s2 _ _ g1;refine⟨⟨_,.of g1'⟩,⟨_,.of g2⟩,?_⟩
   refine LV (xs:=(A7 m i).map V.bl) (ys:=(A7 m y).map V.bl) (fun j zs H'=>zc H2 H'/\zs=((Bd m i y).take j).map V.bl) ⟨zc.refl _,rfl⟩ (by rw[Ze,Ze,B3,B3])
    (fun j zs H' _ ⟨s,_⟩=>⟨.of (s _ _ g1'),.of (s _ _ g2)⟩) (fun j zs H' hj ⟨_,e⟩=>by
     rw[Ze,B3]at hj;rw[e];exact Aj (by rw[Ze,Z7];lia)) ?_ ?_
   ·rintro j u v zs H' pp hx hy ⟨s,rfl⟩ hpp
    have hj:j < m:=by
     have:=(Z4.mp hx).1
     rw[Ze,B3]at this;exact this
    have ex:u=.bl (i / 2 ^ j % 2 == 1):=by
     rw[Zm,show A7 m i=(List.range m).map _ from rfl,Zm,ZBp hj]at hx;exact(Zv hx).symm
    have ey:v=.bl (y / 2 ^ j % 2 == 1):=by
     rw[Zm,show A7 m y=(List.range m).map _ from rfl,Zm,ZBp hj]at hy;exact(Zv hy).symm
    subst ex ey;refine⟨pp,_,rfl,.of AD,rfl,_,_,rfl,_,_,rfl,rfl,?_⟩;have s':zc H2 (upd H' pp (.tup [.bl (i / 2 ^ j % 2 == 1),.bl (y / 2 ^ j % 2 == 1)])):=s.trans (zc.upd hpp);refine Ab (fun e=>?_) (fun e=>?_)
    ·refine⟨s',?_⟩;rw[shared_take hj,Zt,e,ZCG];rfl
    ·refine⟨s',?_⟩;have e:(i / 2 ^ j % 2 == 1)=false:=by simpa using e
     rw[shared_take hj,Zt,e,ZCH];rfl
   rintro zs H3 ⟨s3,rfl⟩ l3 hl3;have zk:((A7 m i).map V.bl).length=m:=by rw[Ze,B3]
   have sl:(Bd m i y).length=m:=by unfold Bd;simp[B3]
   rw[zk,ZBo (by lia)];generalize Bd m i y=ks;refine⟨_,.inl ⟨.of AD,fun kk hkk=>?_⟩⟩;have S:zc Hb (upd (upd H3 l3 (.lst (ks.map V.bl))) kk (.tup (ks.map V.bl))):=(s1.trans (s2.trans s3)).trans ((zc.upd hl3).trans (zc.upd hkk));have gk:upd (upd H3 l3 (.lst (ks.map V.bl))) kk (.tup (ks.map V.bl)) kk=some (.tup (ks.map V.bl)):=AD;have Lc:=Lb.same S;have hd:=S _ _ hd;have hk:=QR hk S;clear Lb;generalize upd (upd H3 l3 (.lst (ks.map V.bl))) kk (.tup (ks.map V.bl))=Hc at *;dsimp only[Ak];refine Ad (fun Z H'=>∃xs:BX,Z=[some (.ref t),some (.int m),some (.int M),some (.int way),some (.int y),some (.bl fb),some (.ref l),some (.ref p),some (.int i),some (.ref kk),z4]/\TabL K H t a ns M l H'/\H' p=some (dB P w p xs)/\CU H' xs/\xs.length<=i+1/\H' kk=some (.tup (ks.map V.bl))/\Cm xs ks=true) ?_ ?_ (by walk_at "sm")
   ·refine⟨xs,ks,gk,hd,hk,?_⟩;refine Ab (fun e=>?_) (fun e=>?_)
    ·have hn:Cm xs ks=false:=by simpa using e
     refine⟨a,ns,Lc.tp,Cd (by decide) (by decide),fun d H6 _ _ T6 f6=>?_⟩;have L6:=Lc.draw TP T6 f6;have pt:p≠t:=TP.neT hp0;have hd6:H6 p=some (dB P w p xs):=by rw[f6 p pt];exact hd
     have nt:∀{b:Addr} {ys:List V},Hc b=some (.tup ys)->b≠t:=fun {b ys} hb e=>by
      obtain⟨i,r,c,_,_,h3⟩:=Lc.tp.at_;rw[e,h3]at hb;cases hb
     have gk6:H6 kk=some (.tup (ks.map V.bl)):=by rw[f6 kk (nt gk)];exact gk
     have hk6:CU H6 xs:=fun q hq=>by rw[f6 _ (nt (hk q hq))];exact hk q hq
     refine⟨xs,ks,gk6,hd6,hk6,hn,Aj (by lia),?_⟩;refine⟨xs++[(ks,kk,(false ^^ (d == 1)))],rfl,L6.other TP hp0 pl,AD,?_,by rw[Zy];exact Nat.succ_le_succ hx,?_,?_⟩
     ·intro q hq
      rcases ZBE.mp hq with hq | hq
      ·exact OK hk6 hd6 (fun ys z=>nomatch z) q hq
      ·have:=Zq.mp hq
       subst this;rw[AI (BK gk6 hd6 (fun z=>nomatch z))];exact gk6
     ·rw[AI (BK gk6 hd6 (fun z=>nomatch z))];exact gk6
     ·unfold Cm;rw[List.any_append];simp
    ·have hn:Cm xs ks=true:=by simpa using e
     exact⟨xs,rfl,Lc,hd,hk,Nat.le_succ_of_le hx,gk,hn⟩
   rintro Z He ⟨xs,rfl,Le,hd,hk,hx,gk,hh⟩;obtain⟨c,v,hv⟩:=Ug hh;obtain⟨bs,hbs,hbl⟩:=Le.at_;refine⟨xs,ks,c,v,gk,hd,hk,hv,_,i,hbs,M6 (by rw[Ze];lia),?_⟩;rw[O2];refine⟨some (.int i),some (.ref kk),xs,rfl,Le.put TP (by rw[List.length_set];exact hbl),?_,OK hk hbs (fun ys z=>nomatch z),hx⟩;rw[AI pl];exact hd
  ·rintro Z He ⟨z2,z3,xs,rfl,Le,_⟩;exact⟨l,way,y,fb,_,z2,z3,z4,rfl,hy,Le⟩
 clear L;rintro Z Ha ⟨l,way,y,fb,z1,z2,z3,z4,rfl,hy,L⟩;refine Ad (Ei K H t a ns m M) ?_ ?_ (by walk_at "sm")
 ·-- some places turned
  refine⟨a,ns,L.tp,Cd (by decide) (by decide),fun d Hb d0 d3 Tb fb'=>?_⟩;have Lb:=L.draw TP Tb fb'
  have hmul:∃N:Nat,d * (if decide (way > 1)=true then 1 else 0)=(N:Int)/\N<=2:=by
   by_cases h:way > 1
   ·rw[Zl h,if_pos rfl,ZCI];exact⟨d.toNat,by lia,by lia⟩
   ·rw[ZBC h,if_neg (by decide),Int.mul_zero];exact⟨0,rfl,by lia⟩
  obtain⟨N,hN,hN2⟩:=hmul;refine⟨.inr (.inl ⟨by lia,by lia⟩),(N:Int),congrArg (fun z=>[V.int z]) hN,by lia,by lia,?_⟩;refine C7 (fun _=>Ei K H t a ns m M) ⟨l,way,y,fb,z1,z2,z3,z4,rfl,hy,Lb⟩ ?_ (fun Z H' h=>h);rintro i Z Hc hi ⟨l,way,y,fb,z1,z2,z3,z4,rfl,hy,Lc⟩;refine⟨a,ns,Lc.tp,hMd,fun k' Hd k0 k1 Td fd=>?_⟩;obtain⟨k,rfl⟩:=Int.eq_ofNat_of_zero_le k0;have Ld:=Lc.draw TP Td fd;obtain⟨bs,hbs,hbl⟩:=Ld.at_;have hk:k < bs.length:=by lia
  refine⟨_,.bl bs[k],.inl (.of hbs),Ae rfl (by rw[Zm,Zg hk];rfl),_,k,hbs,M6 (by rw[Ze];lia),?_⟩;rw[O2];exact⟨l,way,y,fb,z1,some (.int k),z3,some (.int (0+(i:Int))),rfl,hy,Ld.put TP (by rw[List.length_set];exact hbl)⟩
 clear L;rintro Z Ha ⟨l,way,y,fb,z1,z2,z3,z4,rfl,hy,L⟩;obtain⟨bs,hbs,hbl⟩:=L.at_;refine⟨_,.inl ⟨.of hbs,fun p hp=>?_⟩⟩;exact q bs p _ hbl (L.tp.free L.fr hp) AD (L.tp.upd hp) (L.fr.trans (zp.upd hp))
noncomputable def EH(K:W.Frag):Sp:=fun vs H Q _=>match vs with
 | [.ref p,.int s,.int k]=>∃(g:Nat->Int) (M sn kn:Nat),zv K H p (ixL g M)/\s=sn/\k=kn/\kn < M/\0 < sn/\sn<=64/\(kn / sn % 2≠1->kn+sn < M)/\Q (.int (Ew g sn kn)) H
 | _=>False
theorem Y0:AK (EH K):=fun vs H Q Q' E h q=>by
 unfold EH at *;walk_at "q"
theorem Ub:Ok_ P w base T.z63 1 (EH K):=by
 refine T.z63.F.ok Wf (fun vs H Q E h=>by unfold EH at h;walk_at "e") ?_;walk_at "f";unfold EH at h;walk_at "g"
 rename_i p s k;obtain⟨g,M,sn,kn,hp,e1,e2,h1,h2,h3,h4,q⟩:=h;subst e1 e2;refine⟨_,(@AF _ _ _ _ _ (@Ao _ _ _ _ _ _ _ _ (Af (kEq (K:=K) hu) (AU CW (AU Fv (vv 2) (vv 1)) AC) AC) (@AH _ _ _ (@AL _ _ _ _ (AU C4 (zw (K:=K) (vv 0) (AU C4 (vv 2) (vv 1))) (zw (K:=K) (vv 0) (vv 2))))) Aq) (@AH _ _ _ (@AL _ _ _ _ (AU (Bi (K:=K)) (zw (K:=K) (vv 0) (vv 2)) (zw (K:=K) (vv 0) (AU (Bi (K:=K)) (vv 2) (vv 1))))))),?_⟩;refine⟨Cd (by lia) (Int.le_trans (ZCO.mpr h3) (by decide)),by decide,?_⟩;unfold Ew at q
 have ed:((kn:Int) / (sn:Int) % 2 == 1)=decide (kn / sn % 2=1):=by
  rw[<- Int.natCast_ediv];generalize kn / sn=d;rw[ZBi];simp only[beq_iff_eq,decide_eq_true_eq];lia
 dsimp only[tC,mEq,isB];rw[ed];refine Ab (fun e=>?_) (fun e=>?_)
 ·have e':kn / sn % 2=1:=by simpa using e
  rw[if_pos e']at q
  have hge:sn<=kn:=by
   rcases ZBL kn sn with z | z
   ·rw[Nat.div_eq_of_lt z]at e';cases e'
   ·exact z
  refine⟨_,.int (g (kn - sn)),.inl hp,?_,_,_,.inl hp,GJ h1,q⟩
  have:(kn:Int) - (sn:Int)=((kn - sn:Nat):Int):=by lia
  rw[this];exact GJ (by lia)
 ·have e':¬kn / sn % 2=1:=by simpa using e
  rw[if_neg e']at q;refine⟨_,_,.inl hp,GJ h1,_,.int (g (kn+sn)),.inl hp,?_,q⟩
  have:(kn:Int)+(sn:Int)=((kn+sn:Nat):Int):=by lia
  rw[this];exact GJ (h4 e')
noncomputable def Hi(K:W.Frag):Sp:=fun vs H Q _=>match vs with
 | [.ref p]=>∃(g:Nat->Int) (m:Nat),zv K H p (ixL g (2 ^ m))/\m<=6/\Eb H Q (ixL (Bq g m) (2 ^ m))
 | _=>False
theorem Wx:Ok_ P w base T.z39 2 (Hi K):=by
 refine T.z39.F.ok sc_z39 (fun vs H Q E h=>by unfold Hi at h;walk_at "e") ?_;walk_at "f";have mo1:AK (EH K):=Y0;unfold Hi at h;walk_at "g"
 rename_i p;obtain⟨g,m,hp,m6,q⟩:=h;refine⟨_,(@AF _ _ _ _ _ (@AR _ _ 1 _ _ _ _ sc_z39.nd rfl (by right) (BU (YL (K:=K)) rfl T.ye (by rfl) (AA (vv 0) AB)) (by rfl) (by walk_at "i")) (@AF _ _ _ _ _ (@AR _ _ 2 _ _ _ _ sc_z39.nd rfl (by right) AC (by rfl) (by walk_at "i")) (@AF _ _ _ _ _ (@HJ _ _ _ _ _ _ PassesOwn.never (Af DL (vv 2) (Aa (BG (K:=K)) rfl T.zR (by rfl) (AA (vv 1) AB))) (@AF _ _ _ _ _ (@AR _ _ 1 _ _ _ _ sc_z39.nd rfl (by right) (@Az _ _ _ _ _ _ _ (["place","sums","step"]) 1 ([1,2]) _ _ _ _ rfl (BP rfl T.zH (AA (Aa (BG (K:=K)) rfl T.zR (by rfl) (AA (vv 1) AB)) AB)) (by kernel_rfl) rfl rfl (by kernel_rfl) (fun c=>AN (i:=0) (show(["place","sums","step"]:List Str).Nodup by decide +kernel) rfl (by right)) (AX (by decide)) (fun c=>Av) (fun c=>(AM (@Ub P w K mg base T) (hr.mono (show 1<=_ by decide)) rfl T.z63.m T.z63.F.kp T.z63.b .nil AG (AA (vv 1) (AA (vv 2) (AA (vv 0) AB))))) (by intro _;rfl)) (by rfl) (by walk_at "i")) (@AH _ _ _ (@AR _ _ 2 _ _ _ _ sc_z39.nd rfl (by right) (AU DO (vv 2) AC) (by rfl) (by walk_at "i"))))) (@AH _ _ _ (@AL _ _ _ _ (vv 1)))))),?_⟩;have hin:=Pw m (by lia);have hpow:∀s,s < m->2 ^ s < 2 ^ m:=fun s hs=>Nat.pow_lt_pow_right (by decide) hs
 have hpm:∀s,s < m->2 ^ s<=64:=fun s hs=>ZBU (ZBa (hpow s hs)) (Z3 (n:=2) (j:=6) (by decide) m6)
 have h64:2 ^ m<=64:=Z3 (n:=2) (by decide) m6;have hpos:∀s:Nat,0 < 2 ^ s:=fun s=>ZBd s
 refine⟨_,.inl hp,fun l hl=>?_⟩;dsimp only[Ak];have h0:ixL g (2 ^ m)=ixL (Bq g 0) (2 ^ m):=rfl;rw[h0];refine Ad (fun Z H'=>Z=[some (.ref p),some (.ref l),some (.int (2 ^ 0:Nat))]/\upd H l (.lst (ixL (Bq g 0) (2 ^ m)))=H') ⟨rfl,rfl⟩ ?_ (by walk_at "sm");rintro Z _ ⟨rfl,rfl⟩;generalize hM:2 ^ m=M at *;have hMr:(M:Int) < 2 ^ 62:=Int.lt_of_le_of_lt (ZCO.mpr h64) (by decide);refine⟨fun f Z H'=>∃(s:Nat) (l:Addr),s<=m/\f=m - s/\Z=[some (.ref p),some (.ref l),some (.int (2 ^ s:Nat))]/\zc H H'/\H l=none/\H' l=some (.lst (ixL (Bq g s) M)),⟨m,0,l,Zu _,rfl,rfl,zc.upd hl,hl,AD⟩,?_⟩;clear hl;rintro f Z H1 ⟨s,l,hs,rfl,rfl,s1,hl,g1⟩;refine⟨M,.inl ⟨_,.of g1,ixL_len.symm⟩,?_⟩;refine Ab (fun e=>?_) (fun e=>?_)
 ·have zm:2 ^ s < M:=by have:((2 ^ s:Nat):Int) < (M:Int):=Zn e;lia
  have hsm:s < m:=by
   rcases ZBL s m with z | z
   ·exact z
   ·have:s=m:=by lia
    subst this;lia
  refine⟨M,.inl ⟨_,.of g1,ixL_len.symm⟩,(M:Int),rfl,by lia,by lia,?_⟩
  refine CM (fun i ys H'=>H1=H'/\ys=(ixL (Bq g (s+1)) M).take i) ⟨rfl,rfl⟩ (fun i ys H' hi ⟨_,e⟩=>by
   rw[e];exact Aj (by rw[Z7,ixL_len];lia)) ?_ ?_
  ·rintro i ys H' hi ⟨rfl,rfl⟩;have hi':i < M:=by lia
   refine⟨Bq g s,M,2 ^ s,i,.of g1,rfl,by lia,hi',hpos s,hpm s hsm,hin s hsm i hi',rfl,?_⟩;rw[Pk hi'];rfl
  ·rintro ys H' ⟨rfl,rfl⟩ l' hl';refine⟨.inr (.inr ⟨by decide,by decide⟩),m - (s+1),by lia,s+1,l',hsm,rfl,?_,s1.trans (zc.upd hl'),s1.free hl',?_⟩
   ·show [some (V.ref p),some (V.ref l'),some (V.int (((2 ^ s:Nat):Int) * 2))]=_;rw[ZBX,Int.natCast_mul];rfl
   ·rw[Z6,ZBo (by rw[ixL_len];lia)];exact AD
 ·have hsm:s=m:=by
   rcases ZBL s m with z | z
   ·have:=hpow s z
    exact(e (Zl (by lia))).elim
   ·lia
  subst hsm;exact q l H1 hl s1 g1
noncomputable def EA(K:W.Frag):Sp:=fun vs H Q _=>match vs with
 | [.ref p]=>∃(m:Nat) (xs:List V),zt K H p xs/\xs.length=2 ^ m/\m<=6/\Q (.int m) H
 | _=>False
theorem X6:AK (EA K):=fun vs H Q Q' E h q=>by
 unfold EA at *;walk_at "q"
theorem Oq:Ok_ P w base T.z41 1 (EA K):=by
 refine T.z41.F.ok ZT (fun vs H Q E h=>by unfold EA at h;walk_at "e") ?_;walk_at "f";unfold EA at h;walk_at "g"
 rename_i p;obtain⟨m,xs,hp,hl,m6,q⟩:=h;refine⟨_,(@AH _ _ _ (@AL _ _ _ _ (AU C4 (Pe (K:=K) (Aa (BG (K:=K)) rfl T.zR (by rfl) (AA (vv 0) AB))) AC))),?_⟩;have hb:=YG m (by lia);refine⟨2 ^ m,.inr ⟨_,hp,hl.symm⟩,rfl,?_⟩;dsimp only[Hy,tC,HS];rw[hb]
 have:((m+1:Nat):Int) - 1=(m:Int):=by lia
 rw[this];exact q
noncomputable def KW(K:W.Frag):Sp:=fun vs H Q _=>match vs with
 | [.int n,.ref p]=>∃(m M:Nat) (g:Nat->Int),n=m/\M<=64/\zv K H p (ixL g M)/\∀v H',zc H H'->zh K H' (F0 m (A3 g M)) v->Q v H'
 | _=>False
theorem Tq:Ok_ P w base T.z62 1 (KW K):=by
 refine T.z62.F.ok UN (fun vs H Q E h=>by unfold KW at h;walk_at "e") ?_;walk_at "f";unfold KW at h;walk_at "g"
 rename_i n p;obtain⟨m,M,g,e1,hM,hp,q⟩:=h;subst e1;refine⟨_,(@AH _ _ _ (@AL _ _ _ _ (CG (AA (vv 0) (AA (BU (CY (K:=K)) rfl T.zM (by rfl) (AA (Az (N':=["subset","weight"]) (own:=2) (ix:=[]) rfl (PJ (K:=K) rfl T.zN (AA (vv 1) AB)) (by kernel_rfl) rfl rfl (by kernel_rfl) (fun c=>Cg (K:=K) (n:=2) rfl (Ax (AN (i:=0) (show(["subset","weight"]:List Str).Nodup by decide +kernel) rfl (by right)) (Ax (AN (i:=1) (show(["subset","weight"]:List Str).Nodup by decide +kernel) rfl (by right)) Bv))) (Ce (BQ Ar (Cc Ar BM) (AX (by decide)) (BQ Ar BM (AX (by decide)) Co))) (fun c=>DD (Af (kNe (K:=K) hu) (vv 1) AC)) (fun c=>(CG (AA (vv 0) (AA (vv 1) AB))))) AB)) AB))))),?_⟩;refine⟨⟨_,hp⟩,?_⟩
 refine NU (xs:=ixL g M) (fun i zs H'=>zc H H'/\zf K H' ((A3 g i).map Dz) zs/\zs.length<=i) ⟨zc.refl _,BF,Zf _⟩
  (fun i zs H' _ ⟨s,_,_⟩=>Hm hp fun o e=>s _ _ e) (fun i zs H' hi ⟨_,_,e⟩=>by rw[ixL_len]at hi;exact Aj (by lia)) ?_ ?_
 ·rintro i x zs H1 pp hx ⟨s1,r1,l1⟩ hpp
  have hi:i < M:=by
   have:=(Z4.mp hx).1
   rw[ixL_len]at this;exact this
  have ex:x=.int (g i):=by
   unfold ixL at hx;rw[Zm,ZBp hi]at hx;exact(Zv hx).symm
  subst ex;refine⟨pp,_,rfl,.of AD,rfl,_,_,rfl,_,_,rfl,rfl,?_⟩;have s2:zc H1 (upd H1 pp (.tup [.int i,.int (g i)])):=zc.upd hpp;have et:A3 g (i+1)=A3 g i++(if g i=0 then [] else [(i,g i)]):=rfl;generalize upd H1 pp (.tup [.int i,.int (g i)])=H2 at *;rw[et];refine Ab (fun e=>?_) (fun e=>?_)
  ·have w0:¬g i=0:=by simpa using e
   rw[if_neg w0,Zt];refine⟨smq rfl,fun k hk=>⟨s1.trans (s2.trans (zc.upd hk)),?_,by rw[Zy];exact Nat.succ_le_succ l1⟩⟩;exact zf.append (zf.same (s2.trans (zc.upd hk)) _ _ r1) (Aw (Dp (xs:=[.int i,.int (g i)]) AD (Aw Fz (Aw Fz BF))) BF)
  ·have w0:g i=0:=by simpa using e
   rw[if_pos w0,ZBI];exact⟨s1.trans s2,zf.same s2 _ _ r1,Nat.le_succ_of_le l1⟩
 rintro zs H1 ⟨s1,r1,_⟩ l hl;rw[ixL_len]at r1;refine⟨_,.inl ⟨.of AD,fun k hk=>⟨smq rfl,fun k2 hk2=>?_⟩⟩⟩;have S0:=zc.upd (o:=.lst zs) hl;have S:=(zc.upd (o:=.tup zs) hk).trans (zc.upd (o:=.tup [.int m,.ref k]) hk2);refine q _ _ (s1.trans (S0.trans S)) ?_;refine Dp AD (Aw Fz (Aw (Dp (xs:=zs) ?_ (zf.same (S0.trans S) _ _ r1)) BF));exact zc.upd hk2 _ _ AD
noncomputable def EU(K:W.Frag):Sp:=fun vs H Q _=>match vs with
 | [.ref p]=>∃(m:Nat) (bs:List Bool),m<=6/\bs.length=2 ^ m/\zt K H p (bs.map V.bl)/\∀v H',zc H H'->SumAt K H' v m (A3 (wt m (An bs)) (2 ^ m))->Q v H'
 | _=>False
theorem Xb:AK (EU K):=fun vs H Q Q' E h q=>by
 unfold EU at *;walk_at "q"
theorem Uu:Ok_ P w base T.z70 3 (EU K):=by
 refine T.z70.F.ok sc_z70 (fun vs H Q E h=>by unfold EU at h;walk_at "e") ?_;walk_at "f";unfold EU at h;walk_at "g"
 rename_i p;obtain⟨m,bs,m6,hb,hp,q⟩:=h;refine⟨_,(@AF _ _ _ _ _ (@Cv _ _ _ _ _ _ _ ["answer"] 1 [] _ _ _ _ 1 _ _ _ rfl sc_z70.nd rfl rfl (BH (K:=K) (vv 0)) (by kernel_rfl) rfl rfl (by kernel_rfl) (fun c=>AN (i:=0) (show(["answer"]:List Str).Nodup by decide +kernel) rfl (by right)) (AX (by decide)) (fun c=>Av) (fun c=>(C3 (A9 (vv 0)) (Gg Gu AC) AC)) (by rfl) (by intro _;rfl)) (@AH _ _ _ (@AL _ _ _ _ (AM (@Tq P w K mg base T) (hr.mono (show 1<=_ by decide)) rfl T.z62.m T.z62.F.kp T.z62.b .nil AG (AA (AM (@Oq P w K mg base T) (hr.mono (show 1<=_ by decide)) rfl T.z41.m T.z41.F.kp T.z41.b .nil AG (AA (vv 0) AB)) (AA (AM (@Wx P w K mg base T) (hr.mono (show 2<=_ by decide)) rfl T.z39.m T.z39.F.kp T.z39.b .nil AG (AA (vv 1) AB)) AB)))))),?_⟩;have h64:2 ^ m<=64:=Z3 (n:=2) (by decide) m6;have et:A3 (Bq (An bs) m) (2 ^ m)=A3 (wt m (An bs)) (2 ^ m):=LZ fun j hj=>TZ hj
 rw[<- et]at q;refine .inr ⟨⟨_,hp⟩,?_⟩
 refine Bz (xs:=bs.map V.bl) (fun i ys H'=>H=H'/\ys=ixL (An bs) i) ⟨rfl,rfl⟩ (fun i ys H' _ ⟨e,_⟩=>by rw[<- e];exact hp) (fun i ys H' hi ⟨_,e⟩=>by
  rw[Ze]at hi;rw[e,ixL_len];exact Aj (by lia)) ?_ ?_
 ·rintro i x ys H' hx ⟨rfl,rfl⟩
  have hi:i < bs.length:=by
   have:=(Z4.mp hx).1
   rw[Ze]at this;exact this
  have ex:x=.bl (gB bs i):=by
   rw[Zm,Zg hi]at hx;rw[NF hi];exact(Zv hx).symm
  subst ex;have ev:An bs i=if gB bs i=true then -1 else 1:=rfl
  refine Ab (fun e=>?_) (fun e=>?_)
  ·refine⟨rfl,?_⟩;rw[MA,ev,if_pos e]
  ·refine⟨rfl,?_⟩;rw[MA,ev,if_neg e]
 rintro ys H' ⟨rfl,rfl⟩ l hl;rw[Ze,hb];have s0:zc H (upd H l (.lst (ixL (An bs) (2 ^ m)))):=zc.upd hl;refine⟨m,_,Js hp s0,by rw[Ze];exact hb,m6,An bs,m,.of AD,m6,fun p2 H2 n2 s2 g2=>?_⟩;exact⟨m,2 ^ m,Bq (An bs) m,rfl,h64,.of g2,fun v H' s' r'=>q v H' (s0.trans (s2.trans s')) (.of r')⟩
noncomputable def Ey(K:W.Frag):Sp:=fun vs H Q _=>match vs with
 | [v]=>∃(m:Nat) (g:Nat->Int),SumAt K H v m (A3 g (2 ^ m))/\Q (.int (orL 0 (A3 g (2 ^ m)):Nat)) H
 | _=>False
theorem SF:AK (Ey K):=fun vs H Q Q' E h q=>by
 unfold Ey at *;walk_at "q"
theorem QP:Ok_ P w base T.z61 1 (Ey K):=by
 refine T.z61.F.ok sc_z61 (fun vs H Q E h=>by unfold Ey at h;walk_at "e") ?_;walk_at "f";unfold Ey at h;walk_at "g"
 rename_i v;obtain⟨m,g,S,q⟩:=h;obtain⟨a,b,vs,rfl,ha,hb,hr'⟩:=id S.at_;have hvl:vs.length=(A3 g (2 ^ m)).length:=by have:=hr'.length;rw[Ze]at this;lia
 generalize A3 g (2 ^ m)=ts at *;refine⟨_,(@AF _ _ _ _ _ (@AR _ _ 1 _ _ _ _ sc_z61.nd rfl (by right) AC (by rfl) (by walk_at "i")) (@AF _ _ _ _ _ (@Bk _ _ _ _ _ _ _ _ PassesOwn.never rfl (BH (K:=K) (zw (K:=K) (vv 0) AC)) (GO (K:=K) (n:=2) rfl (Ax (AN (i:=2) sc_z61.nd rfl (by right)) (Ax (AN (i:=3) sc_z61.nd rfl (by right)) Bv))) (@AH _ _ _ (@AR _ _ 1 _ _ _ _ sc_z61.nd rfl (by right) (AU Xm (vv 1) (vv 2)) (by rfl) (by walk_at "i"))) (by intro _;rfl)) (@AH _ _ _ (@AL _ _ _ _ (vv 1))))),?_⟩;refine⟨_,.ref b,.inr ha,rfl,.inr ⟨⟨_,hb⟩,?_⟩⟩;refine IZ (xs:=vs) (fun i Z H'=>H'=H/\∃z2 z3:Option V,Z=[some (.ref a),some (.int (orL 0 (ts.take i):Nat)),z2,z3]) ⟨rfl,none,none,rfl⟩ (fun i Z H' _ ⟨e,_⟩=>by rw[e];exact hb) ?_ ?_
 ·rintro i x Z H' hx ⟨rfl,z2,z3,rfl⟩;obtain⟨⟨k,wgt⟩,c,hq,rfl,hc⟩:=PN hr' hx;refine⟨_,.inr hc,rfl,_,_,rfl,_,_,rfl,rfl,?_⟩;refine⟨rfl,some (.int k),some (.int wgt),?_⟩;rw[Xe hq,<- Uv];rfl
 ·rintro Z H' ⟨rfl,z2,z3,rfl⟩;rw[ZBo (by lia)];exact q
noncomputable def One(L:Nat->Int)(S:Nat->Bool):Prop:=∀i j,S i=true->S j=true->L i=L j
noncomputable def Can(L:Nat->Int)(Y:List (Nat->Bool)):Nat->(Nat->Bool)->Prop
 | 0,S=>One L S
 | n+1,S=>One L S\/∃y∈Y,Can L Y n (fun k=>S k && y k)/\Can L Y n (fun k=>S k && !y k)
section
variable {L L':Nat->Int}{Y Y':List (Nat->Bool)}{S S':Nat->Bool}{n m a b c:Nat}
theorem NO(h:∀k,S' k=true->S k=true)(o:One L S):One L S':=fun i j x y=>o i j (h i x) (h j y)
theorem Bl:∀{n:Nat} {S S':Nat->Bool},(∀k,S' k=true->S k=true)->Can L Y n S->Can L Y n S'
 | 0,_,_,h,o=>NO h o
 | n+1,S,S',h,.inl o=>.inl (NO h o)
 | n+1,S,S',h,.inr ⟨y,hy,p,q⟩=>.inr ⟨y,hy,Bl (fun k z=>by simp only[Zp]at z ⊢;exact⟨h k z.1,z.2⟩) p,Bl (fun k z=>by simp only[Zp]at z ⊢;exact⟨h k z.1,z.2⟩) q⟩
theorem Ic:∀{n:Nat} {S:Nat->Bool},Can L Y n S->Can L Y (n+1) S
 | 0,_,o=>.inl o
 | n+1,S,.inl o=>.inl o
 | n+1,S,.inr ⟨y,hy,p,q⟩=>.inr ⟨y,hy,Ic p,Ic q⟩
theorem Db(h:n<=m)(p:Can L Y n S):Can L Y m S:=by
 induction h with
 | refl=>exact p
 | step _ ih=>exact Ic ih
theorem FS(h:∀y∈Y,y∈Y'):∀{n:Nat} {S:Nat->Bool},Can L Y n S->Can L Y' n S
 | 0,_,o=>o
 | n+1,S,.inl o=>.inl o
 | n+1,S,.inr ⟨y,hy,p,q⟩=>.inr ⟨y,h y hy,FS h p,FS h q⟩
noncomputable def Al(L:Nat->Int)(Y:List (Nat->Bool))(S:Nat->Bool)(m:Nat):Prop:=Can L Y m S/\∀n,Can L Y n S->m<=n
theorem GI(x:Al L Y S a)(y:Al L Y S b):a=b:=Nat.le_antisymm (x.2 _ y.1) (y.2 _ x.1)
theorem PX(x:Al L Y S a):a=0 ↔ One L S :=
 ⟨fun e=>by subst e;exact x.1,fun o=>Nat.le_zero.mp (x.2 0 o)⟩
theorem Sg{y:Nat->Bool}(hy:y∈Y)(x:Al L Y S a)(p:Al L Y (fun k=>S k && y k) b)(q:Al L Y (fun k=>S k && !y k) c):a<=1+max b c:=by
 rw[Nat.add_comm];exact x.2 (max b c+1) (.inr ⟨y,hy,Db (Nat.le_max_left ..) p.1,Db (Nat.le_max_right ..) q.1⟩)
noncomputable def BC(S y:Nat->Bool):Prop:=(∃k,S k=true/\y k=true)/\∃k,S k=true/\y k=false
theorem not_parts{y:Nat->Bool}(h:¬BC S y):(∀k,S k=true->(S k && y k)=true)\/∀k,S k=true->(S k && !y k)=true:=by
 by_cases z:∃k,S k=true/\y k=true
 ·refine .inl fun k hk=>?_
  rw[hk,ZCG];cases e:y k with
  | true=>rfl
  | false=>exact absurd ⟨z,k,hk,e⟩ h
 ·refine .inr fun k hk=>?_
  rw[hk,ZCG];cases e:y k with
  | false=>rfl
  | true=>exact absurd ⟨k,hk,e⟩ z
theorem GZ(ho:¬One L S):∀{n:Nat},Can L Y n S->∃y∈Y,BC S y
 | 0,o=>absurd o ho
 | n+1,.inl o=>absurd o ho
 | n+1,.inr ⟨y,hy,p,q⟩=>by
  by_cases h:BC S y
  ·exact⟨y,hy,h⟩
  ·rcases not_parts h with z | z
   ·exact GZ ho (Bl z p)
   ·exact GZ ho (Bl z q)
theorem N9 (ho:¬One L S) (h1:∃y∈Y,BC S y/\∃b c,Al L Y (fun k=>S k && y k) b/\Al L Y (fun k=>S k && !y k) c/\m=max b c)
 (h2:∀y∈Y,BC S y->∃b c,Al L Y (fun k=>S k && y k) b/\Al L Y (fun k=>S k && !y k) c/\m<=max b c):Al L Y S (1+m):=by
 constructor
 ·obtain⟨y,hy,hp,b,c,p,q,e⟩:=h1;rw[Nat.add_comm];exact .inr ⟨y,hy,Db (by rw[e];exact Nat.le_max_left ..) p.1,Db (by rw[e];exact Nat.le_max_right ..) q.1⟩
 ·intro n
  induction n with
  | zero=>exact fun o=>absurd o ho
  | succ n ih =>
   rintro(o | ⟨y,hy,p,q⟩)
   ·exact absurd o ho
   ·by_cases h:BC S y
    ·obtain⟨b,c,p',q',hm⟩:=h2 y hy h;have x1:=p'.2 _ p;have x2:=q'.2 _ q;lia
    ·rcases not_parts h with z | z
     ·exact Nat.le_succ_of_le (ih (Bl z p))
     ·exact Nat.le_succ_of_le (ih (Bl z q))
theorem Xz:∀{n:Nat} {S:Nat->Bool} (ds:List Int),Can L Y n S->ds.Nodup->(∀d∈ds,∃k,S k=true/\L k=d)->ds.length<=2 ^ n:=by
 have one:∀{S:Nat->Bool} (ds:List Int),One L S->ds.Nodup->(∀d∈ds,∃k,S k=true/\L k=d)->ds.length<=1:=by
  intro S ds o nd h
  match ds,nd,h with
  | [],_,_=>exact Zu _
  | [_],_,_=>exact Zf _
  | x::y::r,nd,h =>
   obtain⟨i,hi,ei⟩:=h x (by simp);obtain⟨j,hj,ej⟩:=h y (by simp)
   have:=o i j hi hj
   rw[ei,ej]at this;simp[this]at nd
 intro n
 induction n with
 | zero=>exact fun ds o nd h=>one ds o nd h
 | succ n ih =>
  intro S ds c nd h
  rcases c with o | ⟨y,hy,p,q⟩
  ·exact ZBU (one ds o nd h) Nat.one_le_two_pow
  ·classical
   have e:ds.length=(ds.filter fun d=>decide (∃k,(S k && y k)=true/\L k=d)).length+(ds.filter fun d=>!decide (∃k,(S k && y k)=true/\L k=d)).length:=by
    clear nd h
    induction ds with
    | nil=>rfl
    | cons x r ih2 =>
     rw[List.filter_cons,List.filter_cons];cases decide (∃k,(S k && y k)=true/\L k=x) <;> simp[ih2] <;> lia
   have a1:=ih (ds.filter fun d=>decide (∃k,(S k && y k)=true/\L k=d)) p (nd.filter _) fun d hd=>by
    have:=(ZBM.mp hd).2
    exact Zn this
   have a2:=ih (ds.filter fun d=>!decide (∃k,(S k && y k)=true/\L k=d)) q (nd.filter _) fun d hd=>by
    obtain⟨h1,h2⟩:=ZBM.mp hd;obtain⟨k,hk,ek⟩:=h d h1;refine⟨k,?_,ek⟩;cases z:y k with
    | false=>rw[hk];rfl
    | true =>
     have:decide (∃k,(S k && y k)=true/\L k=d)=true:=Zl ⟨k,by rw[hk,z];rfl,ek⟩
     rw[this]at h2;cases h2
   rw[ZBX];lia
noncomputable def AS(N:Nat)(S:Nat->Bool):Nat:=((List.range N).filter S).length
theorem D1(N:Nat)(S:Nat->Bool):AS (N+1) S=AS N S+if S N=true then 1 else 0:=by
 unfold AS;rw[ZBq,ZCP,Zy];cases h:S N <;> simp[h]
theorem FI(N:Nat)(S y:Nat->Bool):AS N S=AS N (fun k=>S k && y k)+AS N (fun k=>S k && !y k):=by
 induction N with
 | zero=>rfl
 | succ N ih =>
  rw[D1,D1,D1,ih];cases S N <;> cases y N <;> simp <;> lia
theorem Fm{S:Nat->Bool}(hk:k < N)(hs:S k=true):1<=AS N S:=ZCa (ZBM.mpr ⟨Z1.mpr hk,hs⟩)
theorem P4{S:Nat->Bool}(hi:i < N)(hj:j < N)(si:S i=true)(sj:S j=true)(ne:i≠j):2<=AS N S:=by
 rw[FI N S (fun k=>k == i)]
 have:=Fm (S:=fun k=>S k && k == i) hi (by simp[si])
 have:=Fm (S:=fun k=>S k && !(k == i)) hj (by simp[sj,Ne.symm ne])
 lia
theorem Ou(hS:∀k,S k=true->k < N){y:Nat->Bool}(h:BC S y):AS N (fun k=>S k && y k) < AS N S/\AS N (fun k=>S k && !y k) < AS N S:=by
 obtain⟨⟨i,hi,yi⟩,j,hj,yj⟩:=h
 have:=FI N S y
 have:=Fm (S:=fun k=>S k && y k) (hS i hi) (by simp[hi,yi])
 have:=Fm (S:=fun k=>S k && !y k) (hS j hj) (by simp[hj,yj])
 lia
theorem Gq(he:∀i j,i < N->j < N->(∀y∈Y,y i=y j)->L i=L j):∀(n:Nat) (S:Nat->Bool),(∀k,S k=true->k < N)->AS N S<=n+1->Can L Y n S:=by
 intro n
 induction n with
 | zero =>
  intro S hS hc i j hi hj
  by_cases e:i=j
  ·rw[e]
  ·have:=P4 (hS i hi) (hS j hj) hi hj e
   lia
 | succ n ih =>
  intro S hS hc
  by_cases o:One L S
  ·exact .inl o
  ·have:∃i j,S i=true/\S j=true/\L i≠L j:=by
    refine Classical.byContradiction fun z=>o fun i j hi hj=>Classical.byContradiction fun q=>z ⟨i,j,hi,hj,q⟩
   obtain⟨i,j,hi,hj,ne⟩:=this
   have:∃y∈Y,y i≠y j:=by
    refine Classical.byContradiction fun z=>ne (he i j (hS i hi) (hS j hj) fun y hy=>Classical.byContradiction fun q=>z ⟨y,hy,q⟩)
   obtain⟨y,hy,zz⟩:=this
   have hp:BC S y:=by
    cases yi:y i with
    | true =>
     refine⟨⟨i,hi,yi⟩,j,hj,?_⟩;cases yj:y j with
     | false=>rfl
     | true=>rw[yi,yj]at zz;exact absurd rfl zz
    | false =>
     refine⟨⟨j,hj,?_⟩,i,hi,yi⟩;cases yj:y j with
     | true=>rfl
     | false=>rw[yi,yj]at zz;exact absurd rfl zz
   obtain⟨c1,c2⟩:=Ou hS hp;exact .inr ⟨y,hy,ih _ (fun k z=>hS k (by simp only[Zp]at z;exact z.1)) (by lia),ih _ (fun k z=>hS k (by simp only[Zp]at z;exact z.1)) (by lia)⟩
theorem LJ:∀{n:Nat} {S:Nat->Bool},Can L Y n S->∃m,Al L Y S m:=by
 intro n S h
 induction n with
 | zero=>exact⟨0,h,fun _ _=>Zu _⟩
 | succ n ih =>
  by_cases z:Can L Y n S
  ·exact ih z
  ·exact⟨n+1,h,fun k hk=>by
    rcases ZBL k (n+1) with q | q
    ·exact absurd (Db (by lia) hk) z
    ·exact q⟩
end
noncomputable def msk(ts:List Nat):Nat:=(ts.map (2 ^ ·)).sum
theorem Gw(t:Nat)(ts:List Nat):msk (t::ts)=2 ^ t+msk ts:=by unfold msk;rw[Z5,List.sum_cons]
theorem Uk(ts us:List Nat):msk (ts++us)=msk ts+msk us:=by unfold msk;rw[Zt,List.sum_append]
theorem OC:∀(ts:List Nat) (N:Nat),ts.Pairwise (fun a b=>b < a)->(∀t∈ts,t < N)->msk ts < 2 ^ N/\∀k,(msk ts).testBit k=decide (k∈ts)
 | [],N,_,_=>⟨ZBd N,fun k=>by simp[msk]⟩
 | t::ts,N,hp,hl=>by
  obtain⟨h1,h2⟩:=ZCj.mp hp;obtain⟨i1,i2⟩:=OC ts t h2 h1;rw[Gw];have ht:t < N:=hl t (by simp);have e2:2 ^ t+2 ^ t<=2 ^ N:=by rw[<- Nat.two_mul,ZBc,<- ZBX];exact Z3 (by decide) ht
  refine⟨by lia,fun k=>?_⟩
  rcases ZCE k t with z | z | z
  ·rw[Nat.testBit_two_pow_add_gt z,i2 k];simp only[Zh,show k≠t by lia,false_or]
  ·subst z;rw[Nat.testBit_two_pow_add_eq,i2 k]
   have:k∉ts:=fun q=>Z2 _ (h1 k q)
   simp[this]
  ·have:2 ^ t+msk ts < 2 ^ k:=by
    have:2 ^ (t+1)<=2 ^ k:=Z3 (by decide) z
    rw[ZBX]at this;lia
   rw[ZCb this];have h3:k∉ts:=fun q=>Z2 _ (ZBu z (h1 k q))
   simp[h3,show k≠t by lia]
theorem RK(ts:List Nat):msk ts.reverse=msk ts:=by
 induction ts with
 | nil=>rfl
 | cons t ts ih=>rw[List.reverse_cons,Uk,ih,Gw,Gw];simp[msk];lia
theorem DJ(hp:ts.Pairwise (· < ·))(hl:∀t∈ts,t < N):msk ts < 2 ^ N/\∀k,(msk ts).testBit k=decide (k∈ts):=by
 have:=OC ts.reverse N (List.pairwise_reverse.mpr hp) (fun t ht=>hl t (List.mem_reverse.mp ht))
 rw[RK]at this;exact⟨this.1,fun k=>by rw[this.2 k];simp⟩
theorem Ff(x y k:Nat):(x - (x &&& y)).testBit k=(x.testBit k && !y.testBit k):=by
 have e:x - (x &&& y)=x ^^^ (x &&& y):=by
  have h:∀(n x y:Nat),x < 2 ^ n->(x ^^^ (x &&& y))+(x &&& y)=x:=by
   intro n
   induction n with
   | zero=>intro x y h;have:x=0:=by simpa using h
           subst this;simp
   | succ n ih =>
    intro x y h;have i:=ih (x / 2) (y / 2) (by rw[ZBX]at h;lia);have d1:(x ^^^ (x &&& y)) / 2=x / 2 ^^^ (x / 2 &&& y / 2):=by rw[Nat.xor_div_two,Nat.and_div_two]
    have d2:(x &&& y) / 2=x / 2 &&& y / 2:=Nat.and_div_two
    have m1:(x ^^^ (x &&& y)) % 2+(x &&& y) % 2=x % 2:=by
     have g:∀z:Nat,z % 2=(z.testBit 0).toNat:=fun z=>by rw[Nat.toNat_testBit,Nat.pow_zero,Nat.div_one]
     rw[g,g (x &&& y),g x,Nat.testBit_xor,ZBS];cases x.testBit 0 <;> cases y.testBit 0 <;> rfl
    lia
  have:=h x x y Nat.lt_two_pow_self
  lia
 rw[e,Nat.testBit_xor,ZBS];cases x.testBit k <;> cases y.testBit k <;> rfl
theorem DT(S y:Nat):(S &&& y).testBit=fun k=>S.testBit k && y.testBit k:=funext fun k=>ZBS ..
theorem Ch(S y:Nat):(S - (S &&& y)).testBit=fun k=>S.testBit k && !y.testBit k:=funext fun k=>Ff ..
theorem C9(h:S < 2 ^ n)(hk:S.testBit k=true):k < n:=by
 rcases ZBL k n with z | z
 ·exact z
 ·rw[ZCb (Z0 h (Z3 (by decide) z))]at hk;cases hk
noncomputable def EL:Sp:=fun vs H Q _=>match vs with
 | [.int x,.int y]=>∃a b:Nat,x=a/\y=b/\Q (.bl (decide (a &&& b=a))) H
 | _=>False
theorem Yf:AK EL:=fun vs H Q Q' E h q=>by
 unfold EL at *;walk_at "q"
theorem OH:Ok_ P w base T.z67 1 EL:=by
 refine T.z67.F.ok Ve (fun vs H Q E h=>by unfold EL at h;walk_at "e") ?_;walk_at "f";unfold EL at h;walk_at "g"
 rename_i x y;obtain⟨a,b,e1,e2,q⟩:=h;subst e1 e2;refine⟨_,(@AH _ _ _ (@AL _ _ _ _ (BD (kEq (K:=K) hu) (AU GB (vv 0) (vv 1)) (vv 0)))),?_⟩
 have e:(false ^^ (Builtin.bitAnd (a:Int) (b:Int) == (a:Int)))=decide (a &&& b=a):=by
  rw[FC,ZBn,ZBi];simp only[beq_iff_eq,decide_eq_true_eq];lia
 show Q (.bl (false ^^ (Builtin.bitAnd (a:Int) (b:Int) == (a:Int)))) H;rw[e];exact q
noncomputable def whr(bs:List Bool)(n:Nat):List Nat:=(List.range n).filter (gB bs)
theorem JB(bs:List Bool)(n:Nat):whr bs (n+1)=whr bs n++(if gB bs n=true then [n] else []):=by
 unfold whr;rw[ZBq,ZCP];cases h:gB bs n <;> simp[h]
theorem EK(bs:List Bool)(n:Nat):(whr bs n).length<=n:=by
 have:=ZCQ (gB bs) (List.range n)
 rw[ZBk]at this;exact this
theorem JW(bs:List Bool)(n:Nat):(whr bs n).Pairwise (· < ·):=List.Pairwise.filter _ ZCN
theorem Eh{t:Nat}(h:t∈whr bs n):t < n:=Z1.mp (ZBM.mp h).1
theorem PV{t:Nat}:t∈whr bs n ↔ t < n/\gB bs t=true:=by unfold whr;rw[ZBM,Z1]
noncomputable def Ia(K:W.Frag):Sp:=fun vs H Q _=>match vs with
 | [.bl b,.ref p]=>∃rb:List Bool,zt K H p (rb.map V.bl)/\rb.length<=100/\Eb H Q (iL (whr (rb.map (· == b)) rb.length))
 | [.int z,.ref p]=>∃ls:List Int,zt K H p (ls.map V.int)/\ls.length<=100/\Eb H Q (iL (whr (ls.map (· == z)) ls.length))
 | _=>False
theorem FH{α:Type}{f:α->Bool}{l:List α}{x:α}(h:l[i]? = some x):gB (l.map f) i=f x:=by
 unfold gB;rw[Zw,Zm,h];rfl
theorem Vm:Ok_ P w base T.z35 1 (Ia K):=by
 refine T.z35.F.ok YZ (fun vs H Q E h=>by unfold Ia at h;walk_at "e") ?_;walk_at "f";unfold Ia at h;split at h
 ·rename_i b p;obtain⟨rb,hp,hl,q⟩:=h;refine⟨_,(@AH _ _ _ (@AL _ _ _ _ (@Az _ _ _ _ _ _ _ (["member","each","wanted"]) 2 [0] _ _ _ _ rfl (K0 (K:=K) rfl T.zN (AA (vv 1) AB)) (by kernel_rfl) rfl rfl (by kernel_rfl) (fun c=>Cg (K:=K) (n:=2) rfl (Ax (AN (i:=0) (show(["member","each","wanted"]:List Str).Nodup by decide +kernel) rfl (by right)) (Ax (AN (i:=1) (show(["member","each","wanted"]:List Str).Nodup by decide +kernel) rfl (by right)) Bv))) (Ce (BQ Ar (Cc Ar BM) (AX (by decide)) (BQ Ar BM (AX (by decide)) Co))) (fun c=>DD (Af (kEq (K:=K) hu) (vv 1) (vv 2))) (fun c=>(vv 0)) (by intro _;rfl)))),?_⟩;refine⟨⟨_,hp⟩,?_⟩
  refine Ix (xs:=rb.map V.bl) (fun i zs H'=>zc H H'/\zs=iL (whr (rb.map (· == b)) i)) ⟨zc.refl _,rfl⟩ (fun i zs H' _ ⟨s,_⟩=>s.sqT hp) (fun i zs H' hi ⟨_,e⟩=>by
   rw[Ze]at hi
   have:=EK (rb.map (· == b)) i
   rw[e,Ag];exact Aj (by lia)) ?_ ?_
  ·rintro i x zs H2 pp hx ⟨s2,rfl⟩ hpp;rw[Zm]at hx;cases e0:rb[i]? with
   | none=>rw[e0]at hx;cases hx
   | some r =>
    rw[e0]at hx;cases hx;have eg:gB (rb.map (· == b)) i=(r == b):=FH e0;refine⟨pp,_,rfl,.of AD,rfl,_,_,rfl,_,_,rfl,rfl,?_⟩;rw[JB,Bj,eg];refine Ab (fun e=>?_) (fun e=>?_)
    ·have e':(r == b)=true:=by rw[<- ZBn (r == b)];exact e
     rw[if_pos e'];exact⟨s2.trans (zc.upd hpp),rfl⟩
    ·have e':¬(r == b)=true:=by rw[<- ZBn (r == b)];exact e
     rw[if_neg e'];exact⟨s2.trans (zc.upd hpp),by show _=_++[];rw[ZBI]⟩
  ·rintro zs H2 ⟨s2,rfl⟩ l hl;rw[Ze];exact q l _ (s2.free hl) (s2.trans (zc.upd hl)) AD
 ·rename_i b p;obtain⟨rb,hp,hl,q⟩:=h;refine⟨_,(@AH _ _ _ (@AL _ _ _ _ (@Az _ _ _ _ _ _ _ (["member","each","wanted"]) 2 [0] _ _ _ _ rfl (K0 (K:=K) rfl T.zN (AA (vv 1) AB)) (by kernel_rfl) rfl rfl (by kernel_rfl) (fun c=>Cg (K:=K) (n:=2) rfl (Ax (AN (i:=0) (show(["member","each","wanted"]:List Str).Nodup by decide +kernel) rfl (by right)) (Ax (AN (i:=1) (show(["member","each","wanted"]:List Str).Nodup by decide +kernel) rfl (by right)) Bv))) (Ce (BQ Ar (Cc Ar BM) (AX (by decide)) (BQ Ar BM (AX (by decide)) Co))) (fun c=>DD (Af (kEq (K:=K) hu) (vv 1) (vv 2))) (fun c=>(vv 0)) (by intro _;rfl)))),?_⟩;refine⟨⟨_,hp⟩,?_⟩
  refine Ix (xs:=rb.map V.int) (fun i zs H'=>zc H H'/\zs=iL (whr (rb.map (· == b)) i)) ⟨zc.refl _,rfl⟩ (fun i zs H' _ ⟨s,_⟩=>s.sqT hp) (fun i zs H' hi ⟨_,e⟩=>by
   rw[Ze]at hi
   have:=EK (rb.map (· == b)) i
   rw[e,Ag];exact Aj (by lia)) ?_ ?_
  ·rintro i x zs H2 pp hx ⟨s2,rfl⟩ hpp;rw[Zm]at hx;cases e0:rb[i]? with
   | none=>rw[e0]at hx;cases hx
   | some r =>
    rw[e0]at hx;cases hx;have eg:gB (rb.map (· == b)) i=(r == b):=FH e0;refine⟨pp,_,rfl,.of AD,rfl,_,_,rfl,_,_,rfl,rfl,?_⟩;rw[JB,Bj,eg];refine Ab (fun e=>?_) (fun e=>?_)
    ·have e':(r == b)=true:=by rw[<- ZBn (r == b)];exact e
     rw[if_pos e'];exact⟨s2.trans (zc.upd hpp),rfl⟩
    ·have e':¬(r == b)=true:=by rw[<- ZBn (r == b)];exact e
     rw[if_neg e'];exact⟨s2.trans (zc.upd hpp),by show _=_++[];rw[ZBI]⟩
  ·rintro zs H2 ⟨s2,rfl⟩ l hl;rw[Ze];exact q l _ (s2.free hl) (s2.trans (zc.upd hl)) AD
 ·exact h.elim
noncomputable def SqI(K:W.Frag)(H:Hp)(p:Addr)(ts:List Nat):Prop:=zv K H p (iL ts)\/zt K H p (iL ts)
noncomputable def Ez(K:W.Frag):Sp:=fun vs H Q _=>match vs with
 | [.ref p]=>∃ts:List Nat,SqI K H p ts/\ts.length<=64/\(∀t∈ts,t<=60)/\∀H',zc H H'->Q (.int (msk ts:Nat)) H'
 | _=>False
theorem Sy:AK (Ez K):=fun vs H Q Q' E h q=>by
 unfold Ez at *;walk_at "q"
theorem Y3(ts:List Nat):(ts.map fun t=>((2 ^ t:Nat):Int)).sum=(msk ts:Nat):=by
 induction ts with
 | nil=>rfl
 | cons t ts ih=>rw[Z5,List.sum_cons,ih,Gw];lia
theorem Ms:Ok_ P w base T.z40 3 (Ez K):=by
 refine T.z40.F.ok RW (fun vs H Q E h=>by unfold Ez at h;walk_at "e") ?_;walk_at "f";unfold Ez at h;walk_at "g"
 rename_i p;obtain⟨ts,hp,hl,hb,q⟩:=h;refine⟨_,(@AH _ _ _ (@AL _ _ _ _ (Aa (ZG (K:=K) rfl) rfl T.yo (by rfl) (AA (@Az _ _ _ _ _ _ _ ["member"] 1 [] _ _ _ _ rfl (BH (K:=K) (vv 0)) (by kernel_rfl) rfl rfl (by kernel_rfl) (fun c=>AN (i:=0) (show(["member"]:List Str).Nodup by decide +kernel) rfl (by right)) (AX (by decide)) (fun c=>Av) (fun c=>(AM (@Hz P w K mg base T) (hr.mono (show 2<=_ by decide)) rfl T.z68.m T.z68.F.kp T.z68.b .nil AG (AA (vv 0) AB))) (by intro _;rfl)) AB)))),?_⟩
 have turn:∀(k:Nat) (x:V) (ys:List V) (H':Hp),(iL ts)[k]? = some x->(zc H H'/\ys=(ts.take k).map fun t=>V.int ((2 ^ t:Nat):Int))->∃t:Nat,x=.int (t:Nat)/\t<=60/\(ts.take (k+1)).map (fun t=>V.int ((2 ^ t:Nat):Int))=ys++[V.int ((2 ^ t:Nat):Int)]:=by
  rintro k x ys H' hx ⟨_,rfl⟩;obtain⟨t,ht,hmem,rfl⟩:=CD hx;refine⟨t,rfl,hb t hmem,?_⟩;rw[ZBB,ht,Zt];rfl
 have fin:∀(ys:List V) (H':Hp),(zc H H'/\ys=(ts.take (iL ts).length).map fun t=>V.int ((2 ^ t:Nat):Int))->∀l,H' l=none->∃ns:List Int,zv K (upd H' l (.lst ys)) l (ns.map V.int)/\Q (.int ns.sum) (upd H' l (.lst ys)):=by
  rintro ys H' ⟨s1,rfl⟩ l hl;refine⟨ts.map fun t=>((2 ^ t:Nat):Int),?_,?_⟩
  ·rw[ZBZ,Ag,ZBT];exact .of AD
  ·rw[Y3];exact q _ (s1.trans (zc.upd hl))
 rcases hp with hp | hp
 ·refine .inl ⟨⟨_,hp⟩,?_⟩
  refine Fw (xs:=iL ts) (fun k ys H'=>zc H H'/\ys=(ts.take k).map fun t=>V.int ((2 ^ t:Nat):Int)) ⟨zc.refl _,rfl⟩ (fun k ys H' _ ⟨s,_⟩=>s.sqL hp) (fun k ys H' hk ⟨_,e⟩=>by
   rw[Ag]at hk;rw[e,Ze,Z7];exact Aj (by lia)) ?_ ?_
  ·intro k x ys H' hx hP;obtain⟨t,rfl,t60,e⟩:=turn k x ys H' hx hP;refine⟨t,rfl,by lia,?_⟩;exact⟨hP.1,e.symm⟩
  ·exact fin
 ·refine .inr ⟨⟨_,hp⟩,?_⟩
  refine Bz (xs:=iL ts) (fun k ys H'=>zc H H'/\ys=(ts.take k).map fun t=>V.int ((2 ^ t:Nat):Int)) ⟨zc.refl _,rfl⟩ (fun k ys H' _ ⟨s,_⟩=>s.sqT hp) (fun k ys H' hk ⟨_,e⟩=>by
   rw[Ag]at hk;rw[e,Ze,Z7];exact Aj (by lia)) ?_ ?_
  ·intro k x ys H' hx hP;obtain⟨t,rfl,t60,e⟩:=turn k x ys H' hx hP;refine⟨t,rfl,by lia,?_⟩;exact⟨hP.1,e.symm⟩
  ·exact fin
noncomputable def AE(ls:List Int)(k:Nat):Int:=ls.getD k 0
noncomputable def AV(ys:List Nat):List (Nat->Bool):=ys.map Nat.testBit
noncomputable def Bf(a b c d:V):List (Str × V):=[("labels",a),("yeses",b),("alike",c),("known",d)]
theorem lk1(a b c d:V):(Bf a b c d).lookup ("labels" : Str)=some a:=by rfl
theorem lk2(a b c d:V):(Bf a b c d).lookup ("yeses" : Str)=some b:=by rfl
theorem lk3(a b c d:V):(Bf a b c d).lookup ("alike" : Str)=some c:=by rfl
theorem lk4(a b c d:V):(Bf a b c d).lookup ("known" : Str)=some d:=by rfl
theorem ln1(a b c d:V):(Bf a b c d).lookup ("fewest_among" : Str)=none:=by rfl
theorem ln2(a b c d:V):(Bf a b c d).lookup ("fewest_reckoned" : Str)=none:=by rfl
theorem ln3(a b c d:V):(Bf a b c d).lookup ("has_one_label" : Str)=none:=by rfl
theorem ln4(a b c d:V):(Bf a b c d).lookup ("worst_behind" : Str)=none:=by rfl
theorem ln5(a b c d:V):(Bf a b c d).lookup ("parting" : Str)=none:=by rfl
theorem ln6(a b c d:V):(Bf a b c d).lookup ("harder_left" : Str)=none:=by rfl
theorem ln7(a b c d:V):(Bf a b c d).lookup ("left_of" : Str)=none:=by rfl
theorem pf1(a:V):AW "labels" a []=([("labels",a)]:List (Str × V)):=by rfl
theorem pf2(a b:V):AW "yeses" b [("labels",a)]=([("labels",a),("yeses",b)]:List (Str × V)):=by rfl
theorem pf3(a b c:V):AW "alike" c [("labels",a),("yeses",b)]=([("labels",a),("yeses",b),("alike",c)]:List (Str × V)):=by rfl
theorem pf4(a b c d:V):AW "known" d [("labels",a),("yeses",b),("alike",c)]=Bf a b c d:=by rfl
structure Memo(ls:List Int)(ys:List Nat)(zd:List (Key × V)):Prop where
 nd:(zd.map (·.1)).Nodup
 ok:∀e∈zd,∃S m:Nat,e=((Sum.inl (S:Int):Key),V.int (m:Int))/\S < 2 ^ ls.length/\Al (AE ls) (AV ys) S.testBit m
theorem DX:∀(N:Nat) (l:List Nat),l.Nodup->(∀x∈l,x < N)->l.length<=N
 | 0,l,_,h=>by
  cases l with
  | nil=>exact Zf _
  | cons x r=>exact absurd (h x (by simp)) (by lia)
 | N+1,l,nd,h=>by
  have:=DX N (l.erase N) (nd.erase N) (fun x hx=>by
   have h2:=(nd.mem_erase_iff).mp hx
   have:=h x h2.2
   have:=h2.1
   lia)
  by_cases z:N∈l
  ·have e:=List.length_erase_of_mem z;lia
  ·have e:=List.erase_of_not_mem z;rw[e]at this;lia
theorem Memo.len(h:Memo ls ys zd)(h16:ls.length<=16):zd.length < 2 ^ 24:=by
 have hl:zd.length<=2 ^ ls.length:=by
  have e:(zd.map fun e=>match e.1 with | Sum.inl z=>z.toNat | Sum.inr _=>0).length=zd.length:=Ze ..;rw[<- e];apply DX
  ·refine ZCF.mpr ?_;have nd:=ZCF.mp h.nd;refine List.Pairwise.imp_of_mem ?_ nd;intro a b ha hb ne;obtain⟨S,m,ea,_⟩:=h.ok a ha;obtain⟨S',m',eb,_⟩:=h.ok b hb;subst ea eb;intro q;apply ne
   have:(S:Int).toNat=(S':Int).toNat:=q
   have:S=S':=by lia
   rw[this]
  ·intro x hx;obtain⟨a,ha,rfl⟩:=Zk.mp hx;obtain⟨S,m,ea,hs,_⟩:=h.ok a ha;subst ea
   show(S:Int).toNat < _
   rw[Z6];exact hs
 have:2 ^ ls.length<=2 ^ 16:=Z3 (by decide) h16
 lia
theorem ES{k:Key}(h:valV zd k=some v):(k,v)∈zd:=by
 unfold valV at h;cases e:zd.find? fun kv=>decide (kv.1=k) with
 | none=>rw[e]at h;cases h
 | some x =>
  rw[e]at h;have h1:=List.find?_some e;have h2:=List.mem_of_find?_eq_some e;cases h
  have:x.1=k:=Zn h1
  rw[<- this];exact h2
theorem Memo.get(h:Memo ls ys zd)(e:valV zd (Sum.inl (S:Int):Key)=some v):∃m:Nat,v=.int m/\Al (AE ls) (AV ys) S.testBit m:=by
 obtain⟨S',m,ee,_,hf⟩:=h.ok _ (ES e);have e1:(Sum.inl (S:Int):Key)=Sum.inl (S':Int):=congrArg Prod.fst ee;have e2:v=V.int m:=congrArg Prod.snd ee
 have:(S:Int)=S':=Sum.inl.inj e1
 have:S=S':=by lia
 subst this;exact⟨m,e2,hf⟩
theorem Memo.put(h:Memo ls ys zd)(hs:S < 2 ^ ls.length)(hf:Al (AE ls) (AV ys) S.testBit m):Memo ls ys (Ai zd (Sum.inl (S:Int):Key) (V.int m)):=by
 unfold Ai;split
 ·refine⟨?_,?_⟩
  ·have e:(zd.map (fun kv=>if kv.1=(Sum.inl (S:Int):Key) then (kv.1,V.int m) else kv)).map (·.1)=zd.map (·.1):=by
    rw[ZBZ];apply ZCc;intro a _;simp only[Function.comp];split <;> rfl
   rw[e];exact h.nd
  ·intro e he;obtain⟨a,ha,rfl⟩:=Zk.mp he;split
   ·rename_i q;exact⟨S,m,by rw[q],hs,hf⟩
   ·exact h.ok a ha
 ·rename_i z;refine⟨?_,?_⟩
  ·rw[Zt,ZCX];refine⟨h.nd,by simp,?_⟩;intro a ha b hb q;have hb':b=(Sum.inl (S:Int):Key):=by simpa using hb
   obtain⟨x,hx,rfl⟩:=Zk.mp ha;exact z (ZBe.mpr ⟨x,hx,Zl (q.trans hb')⟩)
  ·intro e he
   rcases ZBE.mp he with q | q
   ·exact h.ok e q
   ·rw[Zq]at q;exact⟨S,m,q,hs,hf⟩
noncomputable def OE(ls:List Int)(as:List Nat):Prop:=∀S,S < 2 ^ ls.length->(as.any (fun a=>decide (S &&& a=S))=true ↔ One (AE ls) S.testBit)
structure RkAt(K:W.Frag)(C:Addr)(ls:List Int)(ys:List Nat)(H:Hp)(p d:Addr):Prop where
 at_:∃dx tl yl al as zd,H p=some (.ins C dx (Bf (.ref tl) (.ref yl) (.ref al) (.ref d)))/\zt K H tl (ls.map V.int)/\H yl=some (.lst (iL ys))/\H al=some (.lst (iL as))/\H d=some (.dK zd)/\as.length<=100/\OE ls as/\Memo ls ys zd
 l16:ls.length<=16
 y16:ys.length<=16
theorem RkAt.same(r:RkAt K C ls ys H p d)(s:zc H H'):RkAt K C ls ys H' p d:=by
 obtain⟨dx,tl,yl,al,as,zd,h1,h2,h3,h4,h5,h6,h7,h8⟩:=r.at_;exact⟨⟨dx,tl,yl,al,as,zd,s _ _ h1,s.sqT h2,s _ _ h3,s _ _ h4,s _ _ h5,h6,h7,h8⟩,r.l16,r.y16⟩
noncomputable def CC(o:HO):Prop:=(∀xs,o≠.tup xs)/\∀ob u,o≠.frz ob u
theorem Cq(f:zp d H H')(hd:H d=some o)(no:CC o)(h:zt K H a xs):zt K H' a xs:=by
 by_cases e:a=d
 ·subst e
  rcases h with (h | ⟨ob,h⟩) | h
  ·rw[hd]at h;exact absurd (Zv h) (no.1 _)
  ·rw[hd]at h;exact absurd (Zv h) (no.2 _ _)
  ·exact .inr h
 ·exact HE h fun o k=>f _ _ e k
theorem Gk:CC (.dK zd):=⟨(fun _ z=>nomatch z),(fun _ _ z=>nomatch z)⟩
theorem De{dx:Addr}{fs:List (Str × V)}:CC (.ins C dx fs):=⟨(fun _ z=>nomatch z),(fun _ _ z=>nomatch z)⟩
theorem RkAt.put{kvs':List (Key × V)}(r:RkAt K C ls ys H p d)(f:zp d H H')(hd:H' d=some (.dK kvs'))(m:Memo ls ys kvs'):RkAt K C ls ys H' p d:=by
 obtain⟨dx,tl,yl,al,as,zd,h1,h2,h3,h4,h5,h6,h7,h8⟩:=r.at_;exact⟨⟨dx,tl,yl,al,as,kvs',f _ _ (BK h1 h5 (by intro z;cases z)) h1,Cq f h5 Gk h2,f _ _ (BK h3 h5 (by intro z;cases z)) h3,f _ _ (BK h4 h5 (by intro z;cases z)) h4,hd,h6,h7,m⟩,r.l16,r.y16⟩
theorem A5(s:zc H H'):zp t H H':=fun b o _ e=>s b o e
noncomputable def J4(K:W.Frag)(C:Addr):Sp:=fun vs H Q _=>match vs with
 | [.ref p,.int z]=>∃ls ys d S,RkAt K C ls ys H p d/\z=(S:Nat)/\S < 2 ^ ls.length/\∀b H',(b=true ↔ One (AE ls) S.testBit)->zc H H'->Q (.bl b) H'
 | _=>False
theorem Mm:Om_ P w mg base T.z18 2 (J4 K T.zC):=by
 refine T.z18.F.ok RA (fun vs H Q E h=>by unfold J4 at h;walk_at "e") ?_;walk_at "f";unfold J4 at h;walk_at "g"
 rename_i p z;obtain⟨ls,ys,d,S,R,e1,hS,q⟩:=h;subst e1;obtain⟨dx,tl,yl,al,as,zd,h1,h2,h3,h4,h5,h6,h7,h8⟩:=R.at_;refine⟨_,(@AH _ _ _ (@AL _ _ _ _ (Aa (Yd (K:=K) rfl) rfl T.yp (by rfl) (AA (Az (N':=["alike","things"]) (own:=1) (ix:=[1]) rfl (BH (K:=K) (BN T.zE T.zS (vv 0))) (by kernel_rfl) rfl rfl (by kernel_rfl) (fun c=>AN (i:=0) (show(["alike","things"]:List Str).Nodup by decide +kernel) rfl (by right)) (AX (by decide)) (fun c=>Av) (fun c=>(AM (@OH P w K mg base T) (hr.mono (show 1<=_ by decide)) rfl T.z67.m T.z67.F.kp T.z67.b .nil AG (AA (vv 1) (AA (vv 0) AB))))) AB)))),?_⟩;refine⟨dx,_,_,h1,lk3 _ _ _ _,.inl ⟨⟨_,.of h4⟩,?_⟩⟩
 refine Fw (xs:=iL as) (fun k zs H'=>zc H H'/\zs=((as.take k).map fun a=>decide (S &&& a=S)).map V.bl) ⟨zc.refl _,rfl⟩ (fun k zs H' _ ⟨s,_⟩=>s.sqL (.of h4)) (fun k zs H' hk ⟨_,e⟩=>by
  rw[Ag]at hk;rw[e,Ze,Ze,Z7];exact Aj (by lia)) ?_ ?_
 ·rintro k x zs H' hx ⟨s1,rfl⟩;obtain⟨a,ha,_,rfl⟩:=CD hx;refine⟨S,a,rfl,rfl,s1,?_⟩;rw[ZBB,ha,Zt,Zt];rfl
 ·rintro zs H' ⟨s1,rfl⟩ l hl;rw[Ag,ZBT];refine⟨_,.of AD,q _ _ ?_ (s1.trans (zc.upd hl))⟩;rw[List.any_map];exact h7 S hS
noncomputable def Mq(K:W.Frag)(C:Addr):Sp:=fun vs H Q _=>match vs with
 | [.ref p,.int z,.int i,.bl ans]=>∃ls ys d S j y,RkAt K C ls ys H p d/\z=(S:Nat)/\i=(j:Nat)/\ys[j]? = some y/\Q (.int ((if ans=true then S &&& y else S - (S &&& y):Nat):Int)) H
 | _=>False
theorem W8(h:ys[j]? = some y):atI (iL ys) ((j:Nat):Int)=some (.int (y:Nat)):=Ae rfl (by unfold iL;rw[Zm,h];rfl)
theorem KR:Om_ P w mg base T.z27 1 (Mq K T.zC):=by
 refine T.z27.F.ok sc_z27 (fun vs H Q E h=>by unfold Mq at h;walk_at "e") ?_;walk_at "f"
 match vs,h with
 | [.ref p,.int z,.int i,.bl ans],⟨ls,ys,d,S,j,y,R,e1,e2,hj,q⟩ =>
 subst e1 e2;obtain⟨dx,tl,yl,al,as,zd,h1,h2,h3,h4,h5,h6,h7,h8⟩:=R.at_;refine⟨_,(@AF _ _ _ _ _ (@AR _ _ 4 _ _ _ _ sc_z27.nd rfl (by right) (AU GB (vv 1) (zw (K:=K) (BN T.zE T.zK (vv 0)) (vv 2))) (by rfl) (by walk_at "i")) (@AH _ _ _ (@AL _ _ _ _ (C3 (A9 (vv 3)) (vv 4) (AU C4 (vv 1) (vv 4)))))),?_⟩;refine⟨dx,_,_,h1,lk2 _ _ _ _,_,.int (y:Nat),.inl (.of h3),W8 hj,?_⟩;dsimp only[Ak,Fo];rw[FC];cases ans with
 | true=>exact q
 | false =>
  have e:((S:Int) - ((S &&& y:Nat):Int))=((S - (S &&& y):Nat):Int):=by
   have:=ZCR (n:=S) (m:=y)
   lia
  show Q (.int ((S:Int) - ((S &&& y:Nat):Int))) H;rw[e];exact q
noncomputable def CN(S y:Nat):Bool:=decide (0 < S &&& y) && decide (S &&& y < S)
noncomputable def BA(S:Nat)(ys:List Nat)(n:Nat):List Nat:=(List.range n).filter fun i=>CN S (ys.getD i 0)
theorem XS(S:Nat)(ys:List Nat)(n:Nat):BA S ys (n+1)=BA S ys n++(if CN S (ys.getD n 0)=true then [n] else []):=by
 unfold BA;rw[ZBq,ZCP];cases h:CN S (ys.getD n 0) <;> simp only[List.filter_cons,List.filter_nil,h] <;> rfl
theorem LP(S:Nat)(ys:List Nat)(n:Nat):(BA S ys n).length<=n:=by
 have:=ZCQ (fun i=>CN S (ys.getD i 0)) (List.range n)
 rw[ZBk]at this;exact this
theorem HU(S y:Nat):CN S y=true ↔ BC S.testBit y.testBit:=by
 unfold CN BC;rw[Zp,decide_eq_true_eq,decide_eq_true_eq]
 have h1:0 < S &&& y ↔ ∃k,S.testBit k=true/\y.testBit k=true:=by
  constructor
  ·intro h;obtain⟨k,hk⟩:=Nat.exists_testBit_of_ne_zero (Nat.pos_iff_ne_zero.mp h);rw[ZBS,Zp]at hk;exact⟨k,hk⟩
  ·rintro⟨k,a,b⟩
   rcases Nat.eq_zero_or_pos (S &&& y) with z | z
   ·have:(S &&& y).testBit k=true:=by rw[ZBS,a,b];rfl
    rw[z]at this;simp at this
   ·exact z
 have h2:S &&& y < S ↔ ∃k,S.testBit k=true/\y.testBit k=false:=by
  have hle:=ZCR (n:=S) (m:=y);constructor
  ·intro h;obtain⟨k,hk⟩:=Nat.exists_testBit_of_ne_zero (show S - (S &&& y)≠0 by lia);rw[Ff,Zp]at hk;exact⟨k,hk.1,by simpa using hk.2⟩
  ·rintro⟨k,a,b⟩
   rcases ZBL (S &&& y) S with z | z
   ·exact z
   ·have e:S &&& y=S:=by lia
    have:(S &&& y).testBit k=true:=by rw[e];exact a
    rw[ZBS,b]at this;simp at this
 rw[h1,h2]
noncomputable def Jg(K:W.Frag)(C:Addr):Sp:=fun vs H Q _=>match vs with
 | [.ref p,.int z]=>∃ls ys d S,RkAt K C ls ys H p d/\z=(S:Nat)/\Eb H Q (iL (BA S ys ys.length))
 | _=>False
theorem NH:Om_ P w mg base T.z28 1 (Jg K T.zC):=by
 refine T.z28.F.ok Rm (fun vs H Q E h=>by unfold Jg at h;walk_at "e") ?_;walk_at "f";unfold Jg at h;walk_at "g"
 rename_i p z;obtain⟨ls,ys,d,S,R,e1,q⟩:=h;subst e1;obtain⟨dx,tl,yl,al,as,zd,h1,h2,h3,h4,h5,h6,h7,h8⟩:=R.at_;have y16:=R.y16;refine⟨_,(@AH _ _ _ (@AL _ _ _ _ (@Az _ _ _ _ _ _ _ (["question","yes","things"]) 2 [1] _ _ _ _ rfl (PJ (K:=K) rfl T.zN (AA (BN T.zE T.zK (vv 0)) AB)) (by kernel_rfl) rfl rfl (by kernel_rfl) (fun c=>Cg (K:=K) (n:=2) rfl (Ax (AN (i:=0) (show(["question","yes","things"]:List Str).Nodup by decide +kernel) rfl (by right)) (Ax (AN (i:=1) (show(["question","yes","things"]:List Str).Nodup by decide +kernel) rfl (by right)) Bv))) (Ce (BQ Ar (Cc Ar BM) (AX (by decide)) (BQ Ar BM (AX (by decide)) Co))) (fun c=>DD (PC DL DL AC (AU GB (vv 2) (vv 1)) (vv 2))) (fun c=>(vv 0)) (by intro _;rfl)))),?_⟩;refine⟨dx,_,_,h1,lk2 _ _ _ _,⟨_,.of h3⟩,?_⟩
 refine NU (xs:=iL ys) (fun i zs H'=>zc H H'/\zs=iL (BA S ys i)) ⟨zc.refl _,rfl⟩ (fun i zs H' _ ⟨s,_⟩=>s.sqL (.of h3)) (fun i zs H' hi ⟨_,e⟩=>by
  rw[Ag]at hi
  have:=LP S ys i
  rw[e,Ag];exact Aj (by lia)) ?_ ?_
 ·rintro i x zs H2 pp hx ⟨s2,rfl⟩ hpp;obtain⟨y,hy,_,rfl⟩:=CD hx;refine⟨pp,_,rfl,.of AD,rfl,_,_,rfl,_,_,rfl,rfl,?_⟩;have eg:ys.getD i 0=y:=by rw[Zw,hy];rfl
  rw[XS,Bj,eg];have s3:=s2.trans (zc.upd (o:=.tup [.int (i:Nat),.int (y:Nat)]) hpp);have eb:Builtin.bitAnd (S:Int) (y:Int)=((S &&& y:Nat):Int):=FC ..;refine Ab (fun e=>?_) (fun e=>?_)
  ·rw[eb]at e;have e':0 < S &&& y:=by have:=Zn e;lia
   refine Ab (fun f=>?_) (fun f=>?_)
   ·rw[eb]at f;have f':S &&& y < S:=by have:=Zn f;lia
    rw[if_pos (show CN S y=true by unfold CN;rw[Zl e',Zl f'];rfl)];exact⟨s3,rfl⟩
   ·rw[eb]at f;have f':¬S &&& y < S:=fun q=>f (Zl (by lia))
    rw[if_neg (show ¬CN S y=true by unfold CN;rw[ZBC f',ZCV];simp)];exact⟨s3,by show _=_++[];rw[ZBI]⟩
  ·rw[eb]at e;have e':¬0 < S &&& y:=fun q=>e (Zl (by lia))
   rw[if_neg (show ¬CN S y=true by unfold CN;rw[ZBC e',ZCH];simp)];exact⟨s3,by show _=_++[];rw[ZBI]⟩
 ·rintro zs H2 ⟨s2,rfl⟩ l hl;rw[Ag];exact q l _ (s2.free hl) (s2.trans (zc.upd hl)) AD
noncomputable def Bb(K:W.Frag)(C:Addr)(c:Nat):Sp:=fun vs H Q _=>match vs with
 | [.ref p,.int z]=>∃ls ys d S,RkAt K C ls ys H p d/\z=(S:Nat)/\S < 2 ^ ls.length/\(∃n,Can (AE ls) (AV ys) n S.testBit)/\AS ls.length S.testBit < c/\∀(m:Nat) H',Al (AE ls) (AV ys) S.testBit m->RkAt K C ls ys H' p d->zp d H H'->Q (.int (m:Nat)) H'
 | _=>False
theorem OZ{c:Nat}:AK (Bb K C c):=fun vs H Q Q' E h q=>by
 unfold Bb at *;walk_at "q"
noncomputable def Kx(K:W.Frag)(C:Addr)(c:Nat):Sp:=fun vs H Q _=>match vs with
 | [.ref p,.int z,.int i]=>∃ls ys d S j y,RkAt K C ls ys H p d/\z=(S:Nat)/\S < 2 ^ ls.length/\(∃n,Can (AE ls) (AV ys) n S.testBit)/\i=(j:Nat)/\ys[j]? = some y/\BC S.testBit y.testBit/\AS ls.length S.testBit < c+1 /\
  ∀(b e X:Nat) H',Al (AE ls) (AV ys) (S &&& y).testBit b->Al (AE ls) (AV ys) (S - (S &&& y)).testBit e->(X=S &&& y/\e < b\/X=S - (S &&& y)/\b<=e)->RkAt K C ls ys H' p d->zp d H H'->Q (.int (X:Nat)) H'
 | _=>False
noncomputable def EG(K:W.Frag)(C:Addr)(c:Nat):Sp:=fun vs H Q _=>match vs with
 | [.ref p,.int z,.int i]=>∃ls ys d S j y,RkAt K C ls ys H p d/\z=(S:Nat)/\S < 2 ^ ls.length/\(∃n,Can (AE ls) (AV ys) n S.testBit)/\i=(j:Nat)/\ys[j]? = some y/\BC S.testBit y.testBit/\AS ls.length S.testBit < c+1 /\
  ∀(b e:Nat) H',Al (AE ls) (AV ys) (S &&& y).testBit b->Al (AE ls) (AV ys) (S - (S &&& y)).testBit e->RkAt K C ls ys H' p d->zp d H H'->Q (.int (max b e:Nat)) H'
 | _=>False
theorem G4{c:Nat}(hS:S < 2 ^ ls.length)(hc:Can (AE ls) (AV ys) n S.testBit)(hp:BC S.testBit y.testBit)(hk:AS ls.length S.testBit < c+1) :
 (S &&& y < 2 ^ ls.length/\Can (AE ls) (AV ys) n (S &&& y).testBit/\AS ls.length (S &&& y).testBit < c)/\S - (S &&& y) < 2 ^ ls.length/\Can (AE ls) (AV ys) n (S - (S &&& y)).testBit/\AS ls.length (S - (S &&& y)).testBit < c:=by
 obtain⟨c1,c2⟩:=Ou (fun k hk=>C9 hS hk) hp;have hle:=ZCR (n:=S) (m:=y);rw[DT,Ch];exact⟨⟨by lia,Bl (fun k z=>by simp only[Zp]at z;exact z.1) hc,by lia⟩,by lia,Bl (fun k z=>by simp only[Zp]at z;exact z.1) hc,by lia⟩
theorem Rp(c:Nat)(G_z19:Om_ P w mg base T.z19 (4 * c+4) (Bb K T.zC c)) :
 Om_ P w mg base T.z22 (4 * c+5) (Kx K T.zC c):=by
 have G_z27:=@KR P w K mg base T;refine T.z22.F.ok sc_z22 (fun vs H Q E h=>by unfold Kx at h;walk_at "e") ?_;walk_at "f";have hr_z27:=hr.mono (show 1<=4 * c+4 by lia);have hr_z19:=hr;unfold Kx at h;walk_at "g"
 rename_i p z i;obtain⟨ls,ys,d,S,j,y,R,e1,hS,⟨n,hc⟩,e2,hj,hp,hk,q⟩:=h;subst e1 e2;obtain⟨⟨a1,a2,a3⟩,b1,b2,b3⟩:=G4 hS hc hp hk;obtain⟨dx,tl,yl,al,as,zd,h1,_⟩:=id R.at_;refine⟨_,(@AF _ _ _ _ _ (@AR _ _ 3 _ _ _ _ sc_z22.nd rfl (by right) (Ay (vv 0) T.zE T.z27.m G_z27 hr_z27 T.z27.b .nil AG (AA (vv 1) (AA (vv 2) (AA Au AB)))) (by rfl) (by walk_at "i")) (@AF _ _ _ _ _ (@AR _ _ 4 _ _ _ _ sc_z22.nd rfl (by right) (Ay (vv 0) T.zE T.z27.m G_z27 hr_z27 T.z27.b .nil AG (AA (vv 1) (AA (vv 2) (AA Au AB)))) (by rfl) (by walk_at "i")) (@AH _ _ _ (@AL _ _ _ _ (C3 (Af Bm (Ay (vv 0) T.zE T.z19.m G_z19 hr_z19 T.z19.b .nil AG (AA (vv 4) AB)) (Ay (vv 0) T.zE T.z19.m G_z19 hr_z19 T.z19.b .nil AG (AA (vv 3) AB))) (vv 4) (vv 3)))))),?_⟩;refine⟨p,dx,_,rfl,h1,ln7 _ _ _ _,ls,ys,d,S,j,y,R,rfl,rfl,hj,?_⟩;dsimp only[Ak];refine⟨p,dx,_,rfl,h1,ln7 _ _ _ _,ls,ys,d,S,j,y,R,rfl,rfl,hj,?_⟩;dsimp only[Ak];refine⟨p,dx,_,rfl,h1,ln1 _ _ _ _,ls,ys,d,S &&& y,R,rfl,a1,⟨n,a2⟩,a3,fun b H1 f1 R1 fr1=>?_⟩;obtain⟨dx1,tl1,yl1,al1,as1,kvs1,k1,_⟩:=id R1.at_;refine⟨p,dx1,_,rfl,k1,ln1 _ _ _ _,ls,ys,d,S - (S &&& y),R1,rfl,b1,⟨n,b2⟩,b3,fun e H2 f2 R2 fr2=>?_⟩;refine Ab (fun x=>?_) (fun x=>?_)
 ·have x':e < b:=by have:=Zn x;lia
  exact q b e _ H2 f1 f2 (.inl ⟨rfl,x'⟩) R2 (fr1.trans fr2)
 ·have x':¬e < b:=fun w=>x (Zl (by lia))
  exact q b e _ H2 f1 f2 (.inr ⟨rfl,by lia⟩) R2 (fr1.trans fr2)
theorem M1(c:Nat)(G_z19:Om_ P w mg base T.z19 (4 * c+4) (Bb K T.zC c)) :
 Om_ P w mg base T.z21 (4 * c+6) (EG K T.zC c):=by
 have G_z22:=Rp T c G_z19;refine T.z21.F.ok Xp (fun vs H Q E h=>by unfold EG at h;walk_at "e") ?_;walk_at "f";have hr_z19:=hr.mono (show 4 * c+4<=4 * c+5 by lia);have hr_z22:=hr;unfold EG at h;walk_at "g"
 rename_i p z i;obtain⟨ls,ys,d,S,j,y,R,e1,hS,⟨n,hc⟩,e2,hj,hp,hk,q⟩:=h;subst e1 e2;obtain⟨⟨a1,a2,a3⟩,b1,b2,b3⟩:=G4 hS hc hp hk;obtain⟨dx,tl,yl,al,as,zd,h1,_⟩:=id R.at_;refine⟨_,(@AH _ _ _ (@AL _ _ _ _ (Ay (vv 0) T.zE T.z19.m G_z19 hr_z19 T.z19.b .nil AG (AA (Ay (vv 0) T.zE T.z22.m G_z22 hr_z22 T.z22.b .nil AG (AA (vv 1) (AA (vv 2) AB))) AB)))),?_⟩;refine⟨p,dx,_,rfl,h1,ln1 _ _ _ _,p,dx,_,rfl,h1,ln6 _ _ _ _,ls,ys,d,S,j,y,R,rfl,hS,⟨n,hc⟩,rfl,hj,hp,hk,fun b e X H1 f1 f2 hX R1 fr1=>?_⟩
 have X1:X < 2 ^ ls.length/\(∃n,Can (AE ls) (AV ys) n X.testBit)/\AS ls.length X.testBit < c/\∀m,Al (AE ls) (AV ys) X.testBit m->m=max b e:=by
  rcases hX with ⟨rfl,x⟩ | ⟨rfl,x⟩
  ·exact⟨a1,⟨n,a2⟩,a3,fun m hm=>by rw[GI hm f1];lia⟩
  ·exact⟨b1,⟨n,b2⟩,b3,fun m hm=>by rw[GI hm f2];lia⟩
 obtain⟨x1,x2,x3,x4⟩:=X1;refine⟨ls,ys,d,X,R1,rfl,x1,x2,x3,fun m H2 hm R2 fr2=>?_⟩;rw[x4 m hm];exact q b e H2 f1 f2 R2 (fr1.trans fr2)
noncomputable def GW(ls:List Int)(ys:List Nat)(S:Nat)(qs ms:List Nat):Prop:=ms.length=qs.length/\∀(t i:Nat),qs[t]? = some i->∃b e,Al (AE ls) (AV ys) (S &&& ys.getD i 0).testBit b/\Al (AE ls) (AV ys) (S - (S &&& ys.getD i 0)).testBit e/\ms[t]? = some (max b e)
theorem Wu{qs ms:List Nat}{b e:Nat}(h:GW ls ys S qs ms)(f1:Al (AE ls) (AV ys) (S &&& ys.getD i 0).testBit b)(f2:Al (AE ls) (AV ys) (S - (S &&& ys.getD i 0)).testBit e):GW ls ys S (qs++[i]) (ms++[max b e]):=by
 refine⟨by rw[Zy,Zy,h.1];rfl,fun t i' ht=>?_⟩
 rcases ZCE t qs.length with z | z | z
 ·rw[ZB1 z]at ht;obtain⟨b',e',g1,g2,g3⟩:=h.2 t i' ht;exact⟨b',e',g1,g2,by rw[ZB1 (by rw[h.1];exact z)];exact g3⟩
 ·subst z;rw[ZB0 (Zf _),Nat.sub_self]at ht;cases ht;exact⟨b,e,f1,f2,by rw[<- h.1,ZB0 (Zf _),Nat.sub_self];rfl⟩
 ·rw[ZB0 (ZBa z)]at ht;rw[List.getElem?_eq_none (by simp;lia)]at ht;cases ht
theorem Ej(h:i∈BA S ys ys.length):ys[i]? = some (ys.getD i 0)/\BC S.testBit (ys.getD i 0).testBit:=by
 obtain⟨h1,h2⟩:=ZBM.mp h;have h1:=Z1.mp h1;refine⟨?_,(HU _ _).mp h2⟩;rw[Zw,Zg h1];rfl
theorem UC{ms:List Nat}(ho:¬One (AE ls) S.testBit)(h:GW ls ys S (BA S ys ys.length) ms)(h1:M∈ms)(h2:∀a∈ms,M<=a):Al (AE ls) (AV ys) S.testBit (1+M):=by
 refine N9 ho ?_ ?_
 ·obtain⟨t,ht,et⟩:=ZBG h1;have ht':t < (BA S ys ys.length).length:=by rw[<- h.1];exact ht
  obtain⟨b,e,g1,g2,g3⟩:=h.2 t _ (Zg ht');obtain⟨y1,y2⟩:=Ej (ZBK ht');rw[DT]at g1;rw[Ch]at g2;refine⟨_,Zk.mpr ⟨_,ZBQ y1,rfl⟩,y2,b,e,g1,g2,?_⟩;rw[Zg ht,et]at g3;exact Zv g3
 ·intro f hf hp;obtain⟨y,hy,rfl⟩:=Zk.mp hf;obtain⟨i,hi,ei⟩:=ZBG hy;have eg:ys.getD i 0=y:=by rw[Zw,Zg hi,ei];rfl
  have him:i∈BA S ys ys.length:=ZBM.mpr ⟨Z1.mpr hi,(HU _ _).mpr (by rw[eg];exact hp)⟩;obtain⟨t,ht,et⟩:=ZBG him;obtain⟨b,e,g1,g2,g3⟩:=h.2 t i (by rw[Zg ht,et]);rw[DT,eg]at g1;rw[Ch,eg]at g2;exact⟨b,e,g1,g2,h2 _ (ZBQ g3)⟩
theorem MK(ho:¬One (AE ls) S.testBit)(hc:Can (AE ls) (AV ys) n S.testBit):0 < (BA S ys ys.length).length:=by
 obtain⟨f,hf,hp⟩:=GZ ho hc;obtain⟨y,hy,rfl⟩:=Zk.mp hf;obtain⟨i,hi,ei⟩:=ZBG hy;have eg:ys.getD i 0=y:=by rw[Zw,Zg hi,ei];rfl
 exact ZCa (ZBM.mpr ⟨Z1.mpr hi,(HU _ _).mpr (by rw[eg];exact hp)⟩)
theorem SQ(c:Nat)(G_z19:Om_ P w mg base T.z19 (4 * c+4) (Bb K T.zC c)) :
 Om_ P w mg base T.z15 (4 * c+7) (Bb K T.zC (c+1)):=by
 have G_z21:=M1 T c G_z19;refine T.z15.F.ok Yq (fun vs H Q E h=>by unfold Bb at h;walk_at "e") ?_;walk_at "f";have hr_z21:=hr;have hr_z18:=hr.mono (show 2<=4 * c+6 by lia);have hr_z28:=hr.mono (show 1<=4 * c+6 by lia);unfold Bb at h;walk_at "g"
 rename_i p z;obtain⟨ls,ys,d,S,R,e1,hS,⟨n,hc⟩,hk,q⟩:=h;subst e1;obtain⟨dx,tl,yl,al,as,zd,h1,_,_,_,hd,_⟩:=id R.at_;have l16:=R.l16;have y16:=R.y16;refine⟨_,(@AF _ _ _ _ _ (@Ao _ _ _ _ _ _ _ _ (A9 (Ay (vv 0) T.zE T.z18.m (@Mm P w K mg base T) hr_z18 T.z18.b .nil AG (AA (vv 1) AB))) (@AH _ _ _ (@AL _ _ _ _ AC)) Aq) (@AH _ _ _ (@AL _ _ _ _ (AU (Bi (K:=K)) AC (Aa (PQ (K:=K) rfl) rfl T.yh (by rfl) (AA (Az (N':=["question","self","things"]) (own:=1) (ix:=[0,1]) rfl (BH (K:=K) (Ay (vv 0) T.zE T.z28.m (@NH P w K mg base T) hr_z28 T.z28.b .nil AG (AA (vv 1) AB))) (by kernel_rfl) rfl rfl (by kernel_rfl) (fun c=>AN (i:=0) (show(["question","self","things"]:List Str).Nodup by decide +kernel) rfl (by right)) (AX (by decide)) (fun c=>Av) (fun c=>(Ay (vv 1) T.zE T.z21.m G_z21 hr_z21 T.z21.b .nil AG (AA (vv 2) (AA (vv 0) AB))))) AB)))))),?_⟩;refine⟨p,dx,_,rfl,h1,ln3 _ _ _ _,ls,ys,d,S,R,rfl,hS,fun b H1 hb s1=>?_⟩;have R1:=R.same s1;have hd1:=s1 _ _ hd;cases b with
 | true=>exact q 0 H1 ⟨hb.mp rfl,fun _ _=>Zu _⟩ R1 (A5 s1)
 | false =>
  have ho:¬One (AE ls) S.testBit:=fun o=>nomatch hb.mpr o
  refine⟨p,dx,_,rfl,s1 _ _ h1,ln5 _ _ _ _,ls,ys,d,S,R1,rfl,fun l H2 hl s2 g2=>.inl ⟨⟨_,.of g2⟩,?_⟩⟩;have R2:=R1.same s2;have hd2:=s2 _ _ hd1;have hld:l≠d:=BK g2 hd2 (by intro z;cases z);have zk:=LP S ys ys.length
  refine Fw (xs:=iL (BA S ys ys.length)) (fun k zs H'=>RkAt K T.zC ls ys H' p d/\zp d H2 H'/\∃ms,zs=iL ms/\GW ls ys S ((BA S ys ys.length).take k) ms) ⟨R2,zp.refl,[],rfl,rfl,fun t i ht=>by simp at ht⟩ (fun k zs H' _ ⟨_,f,_⟩=>.of (f _ _ hld g2)) (fun k zs H' hk' ⟨_,_,ms,e,hw⟩=>by
   rw[Ag]at hk';rw[e,Ag,hw.1,Z7];exact Aj (by lia)) ?_ ?_
  ·rintro k x zs H' hx ⟨R',f',ms,rfl,hw⟩;obtain⟨i,hi,him,rfl⟩:=CD hx;obtain⟨y1,y2⟩:=Ej him;obtain⟨dx',tl',yl',al',as',kvs',k1,_⟩:=id R'.at_;refine⟨p,dx',_,rfl,k1,ln4 _ _ _ _,ls,ys,d,S,i,_,R',rfl,hS,⟨n,hc⟩,rfl,y1,y2,hk,fun b e H3 g1 g2' R3 f3=>?_⟩;refine⟨R3,f'.trans f3,ms++[max b e],by rw[Bj];rfl,?_⟩;rw[ZBB,hi];exact Wu hw g1 g2'
  ·rintro zs H' ⟨R',f',ms,rfl,hw⟩ l2 hl2;rw[Ag,ZBT]at hw;refine⟨ms.map fun m=>((m:Nat):Int),by rw[ZBZ];exact .of AD,by rw[Ze,hw.1];exact MK ho hc,fun M hM hle=>?_⟩;obtain⟨M',hM',rfl⟩:=Zk.mp hM;have fm:=UC ho hw hM' (fun a ha=>by have:=hle _ (Zk.mpr ⟨a,ha,rfl⟩);lia);have sl:zc H' (upd H' l2 (.lst (iL ms))):=zc.upd hl2;have e:(1:Int)+((M':Nat):Int)=((1+M':Nat):Int):=by lia
   show Q (.int (1+((M':Nat):Int))) _;rw[e];exact q (1+M') _ fm (R'.same sl) ((A5 s1).trans ((A5 s2).trans (f'.trans (A5 sl))))
theorem VO(c:Nat)(G_z19:Om_ P w mg base T.z19 (4 * c+4) (Bb K T.zC c)) :
 FnOk P w K mg base CX0 (4 * (c+1)+4) T.z19.f T.z19.d ["self","things"] (Bb K T.zC (c+1)):=by
 have G_z15:=SQ T c G_z19;refine T.z19.F.ok UB (fun vs H Q E h=>by unfold Bb at h;walk_at "e") ?_;walk_at "f";have hr_z15:=hr.mono (show 4 * c+7<=4 * (c+1)+3 by lia);unfold Bb at h;walk_at "g"
 rename_i p z;obtain⟨ls,ys,d,S,R,e1,hS,hc,hk,q⟩:=h;subst e1;obtain⟨dx,tl,yl,al,as,zd,h1,h2,h3,h4,hd,h6,h7,h8⟩:=id R.at_;have mono1:AK (Bb K T.zC (c+1)):=OZ;refine⟨_,(@AF _ _ _ _ _ (@Ao _ _ _ _ _ _ _ _ (Af (GV hu) (vv 1) (BN T.zE T.zL (vv 0))) (@AH _ _ _ (@Fb _ _ _ _ _ _ _ _ _ (Cb hu) (BN T.zE T.zL (vv 0)) (vv 1) (Ay (vv 0) T.zE T.z15.m G_z15 hr_z15 T.z15.b .nil AG (AA (vv 1) AB)) (by rfl))) Aq) (@AH _ _ _ (@AL _ _ _ _ (Ii (Cb hu) (BN T.zE T.zL (vv 0)) (vv 1) (by intro _ _;rfl))))),?_⟩;refine Ad (fun Z H1=>Z=[some (.ref p),some (.int (S:Nat))]/\RkAt K T.zC ls ys H1 p d/\zp d H H1/\∃(kvs':List (Key × V)) (m:Nat),H1 d=some (.dK kvs')/\valV kvs' (Sum.inl (S:Int):Key)=some (.int m)/\Al (AE ls) (AV ys) S.testBit m) ?_ ?_ (by walk_at "sm")
 ·refine⟨dx,_,_,h1,lk4 _ _ _ _,valV zd (Sum.inl (S:Int):Key),DGet.k (k:=Sum.inl (S:Int)) hd,?_⟩;cases e:valV zd (Sum.inl (S:Int):Key) with
  | some v =>
   obtain⟨m,rfl,hm⟩:=h8.get e;exact⟨rfl,R,zp.refl,zd,m,hd,e,hm⟩
  | none =>
   refine⟨p,dx,_,rfl,h1,ln2 _ _ _ _,ls,ys,d,S,R,rfl,hS,hc,hk,fun m H1 hm R1 f1=>?_⟩;obtain⟨dx1,tl1,yl1,al1,as1,kvs1,k1,_,_,_,k5,_,_,k8⟩:=id R1.at_;refine⟨dx1,_,_,k1,lk4 _ _ _ _,d,_,rfl,DPut.k (k:=Sum.inl (S:Int)) k5 (k8.len R.l16),?_⟩;have fu:zp d H1 (upd H1 d (.dK (Ai kvs1 (Sum.inl (S:Int):Key) (V.int m)))):=zp.updT;exact⟨rfl,R1.put fu AD (k8.put hS hm),f1.trans fu,_,m,AD,by rw[Jl,if_pos rfl],hm⟩
 ·rintro Z H1 ⟨rfl,R1,f1,kvs',m,hd1,hv,hm⟩;obtain⟨dx1,tl1,yl1,al1,as1,kvs1,k1,_⟩:=id R1.at_;refine⟨dx1,_,_,k1,lk4 _ _ _ _,d,.int m,rfl,?_,q m H1 hm R1 f1⟩;rw[<- hv];exact DGet.k (k:=Sum.inl (S:Int)) hd1
theorem HY:∀c:Nat,Om_ P w mg base T.z19 (4 * c+4) (Bb K T.zC c)
 | 0=>by
  have no:∀vs H Q E,¬Bb K T.zC 0 vs H Q E:=fun vs H Q E h=>by
   unfold Bb at h;split at h
   ·obtain⟨ls,ys,d,S,_,_,_,_,z,_⟩:=h;exact absurd z (ZBt _)
   ·exact h
  exact⟨fun vs H Q E h=>(no _ _ _ _ h).elim,fun A outer s H args us vs Q E _ _ _ _ h=>(no _ _ _ _ h).elim⟩
 | c+1=>VO T c (HY c)
theorem IV:Om_ P w mg base T.z19 72 (Bb K T.zC 17):=HY T 17
noncomputable def CB(a b c:V):List (Str × V):=[("yeses",a),("numbers",b),("found",c)]
theorem lb1(a b c:V):(CB a b c).lookup ("yeses" : Str)=some a:=by rfl
theorem lb2(a b c:V):(CB a b c).lookup ("numbers" : Str)=some b:=by rfl
theorem lb3(a b c:V):(CB a b c).lookup ("found" : Str)=some c:=by rfl
theorem nb1(a b c:V):(CB a b c).lookup ("bears" : Str)=none:=by rfl
theorem nb2(a b c:V):(CB a b c).lookup ("has_within" : Str)=none:=by rfl
theorem nb3(a b c:V):(CB a b c).lookup ("greatest_within" : Str)=none:=by rfl
theorem nb4(a b c:V):(CB a b c).lookup ("bears_all" : Str)=none:=by rfl
theorem pb1(a:V):AW "yeses" a []=([("yeses",a)]:List (Str × V)):=by rfl
theorem pb2(a b:V):AW "numbers" b [("yeses",a)]=([("yeses",a),("numbers",b)]:List (Str × V)):=by rfl
theorem pb3(a b c:V):AW "found" c [("yeses",a),("numbers",b)]=CB a b c:=by rfl
noncomputable abbrev kN(S:Nat):Key:=Sum.inl (S:Int)
structure NumsOk(n:Nat)(zd:List (Key × V)):Prop where
 nd:(zd.map (·.1)).Nodup
 ok:∀e∈zd,∃(S:Nat) (k:Int),e=(kN S,V.int k)/\S < 2 ^ n/\1<=k
noncomputable def BE(zd:List (Key × V))(U:Nat)(m:Int):Prop:=∃(S:Nat) (k:Int),(kN S,V.int k)∈zd/\S &&& U=S/\m<=k
noncomputable def EF(zd:List (Key × V))(U:Nat)(g:Int):Prop:=∀m:Int,1<=m->(m<=g ↔ BE zd U m)
structure FMemo(n:Nat)(zd fvs:List (Key × V)):Prop where
 nd:(fvs.map (·.1)).Nodup
 ok:∀e∈fvs,∃(U:Nat) (g:Int),e=(kN U,V.int g)/\U < 2 ^ n/\EF zd U g
theorem FMemo.get{fvs:List (Key × V)}(h:FMemo n zd fvs)(e:valV fvs (kN U)=some v):∃g:Int,v=.int g/\EF zd U g:=by
 obtain⟨T',g,ee,_,hf⟩:=h.ok _ (ES e);have e1:kN U=kN T':=congrArg Prod.fst ee;have e2:v=V.int g:=congrArg Prod.snd ee
 have:U=T':=by injection e1 with z;lia
 subst this;exact⟨g,e2,hf⟩
theorem LS{k:Key}(nd:(zd.map (·.1)).Nodup):((Ai zd k v).map (·.1)).Nodup:=by
 unfold Ai;split
 ·have e:(zd.map (fun kv=>if kv.1=k then (kv.1,v) else kv)).map (·.1)=zd.map (·.1):=by
   rw[ZBZ];apply ZCc;intro a _;simp only[Function.comp];split <;> rfl
  rw[e];exact nd
 ·rename_i z;rw[Zt,ZCX];refine⟨nd,by simp,?_⟩;intro a ha b hb q;have hb':b=k:=by simpa using hb
  obtain⟨x,hx,rfl⟩:=Zk.mp ha;exact z (ZBe.mpr ⟨x,hx,Zl (q.trans hb')⟩)
theorem put_mem{k:Key}{e:Key × V}(h:e∈Ai zd k v):e=(k,v)\/(e∈zd/\e.1≠k):=by
 unfold Ai at h;split at h
 ·obtain⟨a,ha,rfl⟩:=Zk.mp h;split
  ·rename_i q;exact .inl (by rw[q])
  ·rename_i q;exact .inr ⟨ha,q⟩
 ·rename_i z
  rcases ZBE.mp h with q | q
  ·exact .inr ⟨q,fun y=>z (ZBe.mpr ⟨e,q,Zl y⟩)⟩
  ·rw[Zq]at q;exact .inl q
theorem Om{k:Key}:(k,v)∈Ai zd k v:=by
 unfold Ai;split
 ·rename_i z;obtain⟨x,hx,e⟩:=ZBe.mp z;have e:=Zn e;exact Zk.mpr ⟨x,hx,by rw[if_pos e,e]⟩
 ·exact Zx _ (by simp)
theorem Qx{k:Key}{e:Key × V}(h:e∈zd)(n:e.1≠k):e∈Ai zd k v:=by
 unfold Ai;split
 ·exact Zk.mpr ⟨e,h,by rw[if_neg n]⟩
 ·exact ZBO _ h
theorem WP{k:Key}(nd:(zd.map (·.1)).Nodup)(h:(k,v)∈zd):valV zd k=some v:=by
 induction zd with
 | nil=>cases h
 | cons x r ih =>
  rw[Z5,ZCA]at nd
  rcases Zh.mp h with e | e
  ·subst e;exact B4 rfl
  ·rw[By fun z=>nd.1 (by rw[z];exact Zk.mpr ⟨_,e,rfl⟩)];exact ih nd.2 e
theorem FMemo.put{fvs:List (Key × V)}(h:FMemo n zd fvs){g:Int}(hT:U < 2 ^ n)(hg:EF zd U g):FMemo n zd (Ai fvs (kN U) (V.int g)) :=
 ⟨LS h.nd,fun e he=>by
  rcases put_mem he with rfl | ⟨q,_⟩
  ·exact⟨U,g,rfl,hT,hg⟩
  ·exact h.ok e q⟩
theorem Ks{fvs:List (Key × V)}(nd:(fvs.map (·.1)).Nodup)(h:∀e∈fvs,∃(U:Nat) (v:V),e=(kN U,v)/\U < 2 ^ n)(n16:n<=16):fvs.length < 2 ^ 24:=by
 have hl:fvs.length<=2 ^ n:=by
  have e:(fvs.map fun e=>match e.1 with | Sum.inl z=>z.toNat | Sum.inr _=>0).length=fvs.length:=Ze ..;rw[<- e];apply DX
  ·refine ZCF.mpr (List.Pairwise.imp_of_mem ?_ (ZCF.mp nd));intro a b ha hb ne q;obtain⟨U,v,rfl,_⟩:=h a ha;obtain⟨U',v',rfl,_⟩:=h b hb;apply ne;have q':(U:Int).toNat=(U':Int).toNat:=q;rw[Z6,Z6]at q';rw[q']
  ·intro x hx;obtain⟨a,ha,rfl⟩:=Zk.mp hx;obtain⟨U,v,rfl,hU⟩:=h a ha
   show(U:Int).toNat < 2 ^ n
   rw[Z6];exact hU
 have:2 ^ n<=2 ^ 16:=Z3 (by decide) n16
 lia
structure BrAt(K:W.Frag)(C:Addr)(n:Nat)(ys:List Nat)(zd:List (Key × V))(H:Hp)(p nd fd:Addr):Prop where
 at_:∃dx yl fvs,H p=some (.ins C dx (CB (.ref yl) (.ref nd) (.ref fd)))/\H yl=some (.lst (iL ys))/\Rd H nd (.dK zd)/\H fd=some (.dK fvs)/\FMemo n zd fvs
 nums:NumsOk n zd
 n16:n<=16
 y16:ys.length<=16
 ne:nd≠fd
 ylt:∀y∈ys,y < 2 ^ n
noncomputable def KpB(nd fd:Addr)(H H':Hp):Prop:=(∀b o,b≠nd->b≠fd->H b=some o->H' b=some o)/\∀o u,H nd=some (.frz o u)->H' nd=some (.frz o u)
theorem KpB.refl{fd:Addr}:KpB nd fd H H:=⟨fun _ _ _ _ e=>e,fun _ _ e=>e⟩
theorem KpB.trans{fd:Addr}{H1 H2:Hp}(a:KpB nd fd H H1)(b:KpB nd fd H1 H2):KpB nd fd H H2:=⟨fun c o x y e=>b.1 c o x y (a.1 c o x y e),fun o u e=>b.2 o u (a.2 o u e)⟩
theorem KpB.same{fd:Addr}(s:zc H H'):KpB nd fd H H':=⟨fun b o _ _ e=>s b o e,fun o u e=>s _ _ e⟩
theorem BrAt.same{fd:Addr}(r:BrAt K C n ys zd H p nd fd)(s:zc H H'):BrAt K C n ys zd H' p nd fd:=by
 obtain⟨dx,yl,fvs,h1,h2,h3,h4,h5⟩:=r.at_;refine⟨⟨dx,yl,fvs,s _ _ h1,s _ _ h2,?_,s _ _ h4,h5⟩,r.nums,r.n16,r.y16,r.ne,r.ylt⟩
 rcases h3 with h | ⟨o,h⟩
 ·exact .inl (s _ _ h)
 ·exact .inr ⟨o,s _ _ h⟩
theorem Ma{R:Addr->Obj->Hp->Prop}(hn:Rd H nd (.dK zd))(h:∀o H1,H1 nd=some (.frz o (.dK zd))->(∀b,b≠nd->H1 b=H b)->(∀o' u,H nd=some (.frz o' u)->H1 nd=some (.frz o' u))->R nd o H1):FN (.ref nd) H R:=by
 rcases hn with e | ⟨o,e⟩
 ·exact .inl ⟨zd,e,fun o=>h o _ AD (fun b hb=>AI hb) fun o' u z=>by rw[e]at z;cases z⟩
 ·exact .inr ⟨zd,o,e,h o H e (fun _ _=>rfl) fun _ _ z=>z⟩
theorem BrAt.held{H1:Hp}{fd:Addr}{o:Obj}(r:BrAt K C n ys zd H p nd fd)(h1:H1 nd=some (.frz o (.dK zd)))(h2:∀b,b≠nd->H1 b=H b):BrAt K C n ys zd H1 p nd fd:=by
 obtain⟨dx,yl,fvs,k1,k2,k3,k4,k5⟩:=r.at_
 have no:∀{b:Addr} {u:HO},H b=some u->(u≠.dK zd/\∀o,u≠.frz o (.dK zd))->b≠nd:=fun hb hu z=>by
  subst z
  rcases k3 with z | ⟨o,z⟩
  ·rw[hb]at z;exact hu.1 (Zv z)
  ·rw[hb]at z;exact hu.2 o (Zv z)
 exact⟨⟨dx,yl,fvs,by rw[h2 p (no k1 ⟨(fun z=>nomatch z),(fun _ z=>nomatch z)⟩)];exact k1,by rw[h2 yl (no k2 ⟨(fun z=>nomatch z),(fun _ z=>nomatch z)⟩)];exact k2,.inr ⟨o,h1⟩,by rw[h2 fd (Ne.symm r.ne)];exact k4,k5⟩,r.nums,r.n16,r.y16,r.ne,r.ylt⟩
theorem BrAt.put{fvs':List (Key × V)}{fd:Addr}(r:BrAt K C n ys zd H p nd fd)(m:FMemo n zd fvs'):BrAt K C n ys zd (upd H fd (.dK fvs')) p nd fd:=by
 obtain⟨dx,yl,fvs,k1,k2,k3,k4,k5⟩:=r.at_;refine⟨⟨dx,yl,fvs',?_,?_,?_,AD,m⟩,r.nums,r.n16,r.y16,r.ne,r.ylt⟩
 ·rw[AI (BK k1 k4 (by intro z;cases z))];exact k1
 ·rw[AI (BK k2 k4 (by intro z;cases z))];exact k2
 ·rcases k3 with z | ⟨o,z⟩
  ·exact .inl (by rw[AI r.ne];exact z)
  ·exact .inr ⟨o,by rw[AI r.ne];exact z⟩
noncomputable def inF(U:Nat)(e:Key × V):Option Int:=match e with
 | (Sum.inl z,.int k)=>if z.toNat &&& U=z.toNat then some k else none
 | _=>none
theorem IL{k:Int}:inF U (kN S,.int k)=if S &&& U=S then some k else none:=by
 show(if (S:Int).toNat &&& U=(S:Int).toNat then some k else none)=_
 rw[Z6]
theorem Sk(h:NumsOk n zd){m:Int}:BE zd U m ↔ ∃k∈zd.filterMap (inF U),m<=k:=by
 constructor
 ·rintro⟨S,k,h1,h2,h3⟩;exact⟨k,ZCd.mpr ⟨_,h1,by rw[IL,if_pos h2]⟩,h3⟩
 ·rintro⟨k,hk,h3⟩;obtain⟨e,he,hf⟩:=ZCd.mp hk;obtain⟨S,k',rfl,_,_⟩:=h.ok e he;rw[IL]at hf
  by_cases z:S &&& U=S
  ·rw[if_pos z]at hf;cases hf;exact⟨S,_,he,z,h3⟩
  ·rw[if_neg z]at hf;cases hf
theorem Pz(h:NumsOk n zd){M:Int}(h0:zd.filterMap (inF U)=[]->M=0)(h1:zd.filterMap (inF U)≠[]->M∈zd.filterMap (inF U)/\∀a∈zd.filterMap (inF U),a<=M):EF zd U M:=fun m hm=>by
 rw[Sk h]
 by_cases e:zd.filterMap (inF U)=[]
 ·rw[e,h0 e];constructor
  ·intro;lia
  ·rintro⟨k,hk,_⟩;cases hk
 ·obtain⟨a1,a2⟩:=h1 e;exact⟨fun z=>⟨M,a1,z⟩,fun⟨k,hk,z⟩=>Int.le_trans z (a2 k hk)⟩
noncomputable def Eg(K:W.Frag)(C:Addr):Sp:=fun vs H Q _=>match vs with
 | [.ref p,.int z]=>∃n ys zd nd fd U,BrAt K C n ys zd H p nd fd/\z=(U:Nat)/\U < 2 ^ n/\∀(g:Int) H',EF zd U g->KpB nd fd H H'->BrAt K C n ys zd H' p nd fd->Q (.int g) H'
 | _=>False
theorem Xk:AK (Eg K C):=fun vs H Q Q' E h q=>by
 unfold Eg at *;walk_at "q"
theorem Sj:Om_ P w mg base T.z16 2 (Eg K T.zD):=by
 refine T.z16.F.ok sc_z16 (fun vs H Q E h=>by unfold Eg at h;walk_at "e") ?_;walk_at "f";have mo1:AK EL:=Yf;unfold Eg at h;walk_at "g"
 rename_i p z;obtain⟨n,ys,zd,nd,fd,U,R,e1,hT,q⟩:=h;subst e1;obtain⟨dx,yl,fvs,h1,h2,h3,h4,h5⟩:=id R.at_;refine⟨_,(@AF _ _ _ _ _ (@Ao _ _ _ _ _ _ _ _ (Af (GV hu) (vv 1) (BN T.zF T.zO (vv 0))) (@AF _ _ _ _ _ (@Cv _ _ _ _ _ _ _ (["each","number","things"]) 2 [1] _ _ _ _ 2 _ _ _ rfl sc_z16.nd rfl rfl (Hg (BN T.zF T.zG (vv 0))) (by kernel_rfl) rfl rfl (by kernel_rfl) (fun c=>Cg (K:=K) (n:=2) rfl (Ax (AN (i:=0) (show(["each","number","things"]:List Str).Nodup by decide +kernel) rfl (by right)) (Ax (AN (i:=1) (show(["each","number","things"]:List Str).Nodup by decide +kernel) rfl (by right)) Bv))) (Ce (BQ Ar (Cc Ar BM) (AX (by decide)) (BQ Ar BM (AX (by decide)) Co))) (fun c=>DD (A9 (AM (@OH P w K mg base T) (hr.mono (show 1<=_ by decide)) rfl T.z67.m T.z67.F.kp T.z67.b .nil AG (AA (vv 0) (AA (vv 2) AB))))) (fun c=>(vv 1)) (by rfl) (by intro _;rfl)) (@AH _ _ _ (@Fb _ _ _ _ _ _ _ _ _ (Cb hu) (BN T.zF T.zO (vv 0)) (vv 1) (N1 (K:=K) (vv 2) T.ya rfl) (by rfl)))) Aq) (@AH _ _ _ (@AL _ _ _ _ (Ii (Cb hu) (BN T.zF T.zO (vv 0)) (vv 1) (by intro _ _;rfl))))),?_⟩;refine Ad (fun Z H'=>∃(z2:Option V) (fvs':List (Key × V)) (g:Int),Z=[some (.ref p),some (.int (U:Nat)),z2]/\BrAt K T.zD n ys zd H' p nd fd/\KpB nd fd H H'/\H' fd=some (.dK fvs')/\valV fvs' (kN U)=some (.int g)/\EF zd U g) ?_ ?_ (by walk_at "sm")
 ·refine⟨dx,_,_,h1,lb3 _ _ _,valV fvs (kN U),DGet.k (k:=kN U) h4,?_⟩;cases e:valV fvs (kN U) with
  | some v =>
   obtain⟨g,rfl,hg⟩:=h5.get e;exact⟨none,fvs,g,rfl,R,KpB.refl,h4,e,hg⟩
  | none =>
   refine⟨dx,_,_,h1,lb2 _ _ _,Ma h3 fun o H1 a1 a2 a3=>?_⟩;have R1:=R.held a1 a2;have kp1:KpB nd fd H H1:=⟨fun b u hb _ e=>by rw[a2 b hb];exact e,a3⟩;refine N6 (zd:=zd) (fun j zs H'=>zc H1 H'/\zs=((zd.take j).filterMap (inF U)).map V.int) ⟨zc.refl _,rfl⟩ (fun j zs H' _ ⟨s1,_⟩=>s1 _ _ a1) (fun j zs H' hj ⟨_,e⟩=>?_) ?_ ?_
   ·have l1:=Ks R.nums.nd (fun e he=>by obtain⟨S,k,h1,h2,_⟩:=R.nums.ok e he;exact⟨S,_,h1,h2⟩) R.n16;rw[e,Ze];refine ZCU (List.length_filterMap_le _ _) ?_;rw[Z7];have e:sizeLine=16777216:=by decide
    lia
   ·rintro j r pp zs H2 hr2 ⟨s2,rfl⟩ npp;obtain⟨S,k,rfl,hS,hk⟩:=R.nums.ok r (ZBQ hr2);refine⟨pp,_,rfl,.of AD,rfl,_,_,rfl,_,_,rfl,rfl,?_⟩;refine⟨S,U,rfl,rfl,?_⟩;have s3:=s2.trans (zc.upd (o:=.tup [kV (kN S),V.int k]) npp)
    have et:(zd.take (j+1)).filterMap (inF U)=(zd.take j).filterMap (inF U)++(if S &&& U=S then [k] else []):=by
     rw[ZBB,hr2,List.filterMap_append]
     congr 1
     show List.filterMap (inF U) [(kN S,.int k)]=_;rw[ZB7,IL]
     by_cases z:S &&& U=S
     ·rw[if_pos z,if_pos z];rfl
     ·rw[if_neg z,if_neg z];rfl
    rw[et]
    by_cases z:S &&& U=S
    ·rw[if_pos z];show if decide (S &&& U=S)=true then _ else _
     rw[if_pos (Zl z)];exact⟨s3,by rw[Zt];rfl⟩
    ·rw[if_neg z];show if decide (S &&& U=S)=true then _ else _
     rw[if_neg (fun y=>z (Zn y))];exact⟨s3,by rw[ZBI]⟩
   ·rintro zs H2 ⟨s2,rfl⟩ l nl;rw[ZBT];have s3:=s2.trans (zc.upd (o:=.lst ((zd.filterMap (inF U)).map V.int)) nl);have g3:=AD (H:=H2) (a:=l) (o:=.lst ((zd.filterMap (inF U)).map V.int));generalize upd H2 l (.lst ((zd.filterMap (inF U)).map V.int))=H3 at *;have R3:=R1.same s3;obtain⟨dx3,yl3,fvs3,b1,b2,b3,b4,b5⟩:=id R3.at_;refine⟨l,_,rfl,.of g3,fun M m0 m1=>?_⟩;have hg:=Pz R.nums m0 m1;have zk:=Ks b5.nd (fun e he=>by obtain⟨S,k,h1,h2,_⟩:=b5.ok e he;exact⟨S,_,h1,h2⟩) R.n16;refine⟨dx3,_,_,b1,lb3 _ _ _,fd,_,rfl,DPut.k (k:=kN U) b4 zk,?_⟩;refine⟨_,_,M,rfl,R3.put (b5.put hT hg),kp1.trans ((KpB.same s3).trans ⟨fun b o x y e=>by rw[AI y];exact e,fun o u e=>by rw[AI R.ne];exact e⟩),AD,(Jl fvs3 (kN U) (kN U) _).trans (if_pos rfl),hg⟩
 ·rintro Z H1 ⟨z2,fvs',g,rfl,R1,k1,f1,v1,g1⟩;obtain⟨dx1,yl1,fvs1,b1,_⟩:=id R1.at_;refine⟨dx1,_,_,b1,lb3 _ _ _,fd,.int g,rfl,?_,q g H1 g1 k1 R1⟩;rw[<- v1];exact DGet.k (k:=kN U) f1
noncomputable def Fh(K:W.Frag)(C:Addr):Sp:=fun vs H Q _=>match vs with
 | [.ref p,.int z,.int m]=>∃n ys zd nd fd U,BrAt K C n ys zd H p nd fd/\z=(U:Nat)/\U < 2 ^ n/\1<=m/\∀(b:Bool) H',(b=true ↔ BE zd U m)->KpB nd fd H H'->BrAt K C n ys zd H' p nd fd->Q (.bl b) H'
 | _=>False
theorem WA:AK (Fh K C):=fun vs H Q Q' E h q=>by
 unfold Fh at *;walk_at "q"
theorem Nx(h:Rd H a (.dK zd)):IsD H a:=.inl ⟨zd,h⟩
theorem ON{k:Key}(h:Rd H a (.dK zd)):DGet H a (kV k) (valV zd k):=.inl ⟨zd,k,h,rfl,rfl⟩
theorem VR:Om_ P w mg base T.z24 3 (Fh K T.zD):=by
 refine T.z24.F.ok UV (fun vs H Q E h=>by unfold Fh at h;walk_at "e") ?_;walk_at "f";have mo1:AK (Eg K T.zD):=Xk
 match vs,h with
 | [.ref p,.int z,.int m],⟨n,ys,zd,nd,fd,U,R,e1,hT,hm,q⟩ =>
 subst e1;obtain⟨dx,yl,fvs,h1,h2,h3,h4,h5⟩:=id R.at_;refine⟨_,(@AH _ _ _ (@AL _ _ _ _ (Jj (BD G6 (NP (Cb hu) (BN T.zF T.zG (vv 0)) (vv 1) AC ⟨by rfl,by rfl,by rfl,by rfl⟩) (vv 2)) (Bx (BD G6 (Ay (vv 0) T.zF T.z16.m (@Sj P w K mg base T) (hr.mono (show 2<=_ by decide)) T.z16.b .nil AG (AA (vv 1) AB)) (vv 2)))))),?_⟩;refine⟨dx,_,_,h1,lb2 _ _ _,nd,rfl,Nx h3,valV zd (kN U),ON (k:=kN U) h3,?_⟩;cases e:valV zd (kN U) with
 | none =>
  have e0:¬decide (m<=(0:Int))=true:=fun z=>by have:=Zn z;lia
  show if decide (m<=(0:Int))=true then _ else _
  rw[if_neg e0];refine⟨p,dx,_,rfl,h1,nb3 _ _ _,n,ys,zd,nd,fd,U,R,rfl,hT,fun g H1 hg kp R1=>q _ H1 ?_ kp R1⟩;rw[decide_eq_true_iff];exact hg m hm
 | some v =>
  obtain⟨S,k,ee,_,hk⟩:=R.nums.ok _ (ES e);have e2:v=V.int k:=congrArg Prod.snd ee;subst e2;refine Ab (fun z=>?_) (fun z=>?_)
  ·exact q true H ⟨fun _=>⟨U,k,ES e,Nat.and_self U,Zn z⟩,fun _=>rfl⟩ KpB.refl R
  ·refine⟨p,dx,_,rfl,h1,nb3 _ _ _,n,ys,zd,nd,fd,U,R,rfl,hT,fun g H1 hg kp R1=>q _ H1 ?_ kp R1⟩;rw[decide_eq_true_iff];exact hg m hm
noncomputable def EY(K:W.Frag)(C:Addr):Sp:=fun vs H Q _=>match vs with
 | [.ref p,.int z,.int m,.int v]=>∃n ys zd nd fd U y,BrAt K C n ys zd H p nd fd/\z=(U:Nat)/\U < 2 ^ n/\2<=m/\v=(y:Nat)/\∀(b:Bool) H',(b=true ↔ BE zd (U &&& y) (m - 1)\/BE zd (U - (U &&& y)) (m - 1))->KpB nd fd H H'->BrAt K C n ys zd H' p nd fd->Q (.bl b) H'
 | _=>False
theorem WD:AK (EY K C):=fun vs H Q Q' E h q=>by
 unfold EY at *;walk_at "q"
theorem Vo:Om_ P w mg base T.z32 4 (EY K T.zD):=by
 have G_z24:=@VR P w K mg base T;refine T.z32.F.ok sc_z32 (fun vs H Q E h=>by unfold EY at h;walk_at "e") ?_;walk_at "f";have hr_z24:=hr.mono (show 3<=_ by decide);have mo1:AK (Fh K T.zD):=WA;unfold EY at h;walk_at "g"
 rename_i p z m v;obtain⟨n,ys,zd,nd,fd,U,y,R,e1,hT,hm,e2,q⟩:=h;subst e1 e2;refine⟨_,(@AF _ _ _ _ _ (@AR _ _ 4 _ _ _ _ sc_z32.nd rfl (by right) (AU GB (vv 1) (vv 3)) (by rfl) (by walk_at "i")) (@AH _ _ _ (@AL _ _ _ _ (Jj (Ay (vv 0) T.zF T.z24.m G_z24 hr_z24 T.z24.b .nil AG (AA (vv 4) (AA (AU C4 (vv 2) AC) AB))) (Bx (Ay (vv 0) T.zF T.z24.m G_z24 hr_z24 T.z24.b .nil AG (AA (AU C4 (vv 1) (vv 4)) (AA (AU C4 (vv 2) AC) AB)))))))),?_⟩;obtain⟨dx,yl,fvs,h1,h2,h3,h4,h5⟩:=id R.at_;have hle:=ZCR (n:=U) (m:=y);refine Ad (fun Z H'=>Z=[some (.ref p),some (.int (U:Nat)),some (.int m),some (.int (y:Nat)),some (.int ((U &&& y:Nat):Int))]/\H=H') ?_ ?_ (by walk_at "sm")
 ·refine⟨?_,rfl⟩;show [some (V.ref p),some (V.int (U:Nat)),some (V.int m),some (V.int (y:Nat)),some (V.int (Builtin.bitAnd (U:Int) (y:Int)))]=_;rw[FC]
 rintro Z _ ⟨rfl,rfl⟩;refine⟨p,dx,_,rfl,h1,nb2 _ _ _,n,ys,zd,nd,fd,U &&& y,R,rfl,by lia,by lia,fun b1 H1 hb1 kp1 R1=>?_⟩;refine Ab (fun z=>?_) (fun z=>?_)
 ·exact q true H1 ⟨fun _=>.inl (hb1.mp z),fun _=>rfl⟩ kp1 R1
 ·obtain⟨dx1,yl1,fvs1,k1,_⟩:=id R1.at_;refine⟨p,dx1,_,rfl,k1,nb2 _ _ _,n,ys,zd,nd,fd,U - (U &&& y),R1,by show(U:Int) - ((U &&& y:Nat):Int)=_;lia,by lia,by lia,fun b2 H2 hb2 kp2 R2=>q b2 H2 ?_ (kp1.trans kp2) R2⟩;rw[hb2];exact⟨.inr,fun h=>h.resolve_left fun x=>z (hb1.mpr x)⟩
noncomputable def Ek(K:W.Frag)(C:Addr):Sp:=fun vs H Q _=>match vs with
 | [.ref p]=>∃n ys zd nd fd,BrAt K C n ys zd H p nd fd/\∀(b:Bool) H',(b=true ↔ ∀(U:Nat) (m:Int),(kN U,V.int m)∈zd->1 < m->∀y∈ys,BE zd (U &&& y) (m - 1)\/BE zd (U - (U &&& y)) (m - 1))->KpB nd fd H H'->Q (.bl b) H'
 | _=>False
theorem So:AK (Ek K C):=fun vs H Q Q' E h q=>by
 unfold Ek at *;walk_at "q"
theorem Vl:Om_ P w mg base T.z25 5 (Ek K T.zD):=by
 refine T.z25.F.ok sc_z25 (fun vs H Q E h=>by unfold Ek at h;walk_at "e") ?_;walk_at "f";have mo1:AK (EY K T.zD):=WD;unfold Ek at h;walk_at "g"
 rename_i p;obtain⟨n,ys,zd,nd,fd,R,q⟩:=h;obtain⟨dx,yl,fvs,h1,h2,h3,h4,h5⟩:=id R.at_;refine⟨_,(@AF _ _ _ _ _ (@Bk _ _ _ _ _ _ _ _ PassesOwn.never rfl (Hg (BN T.zF T.zG (vv 0))) (GO (K:=K) (n:=2) rfl (Ax (AN (i:=1) sc_z25.nd rfl (by right)) (Ax (AN (i:=2) sc_z25.nd rfl (by right)) Bv))) (@AH _ _ _ (@Ao _ _ _ _ _ _ _ _ (PW.pt (EW (Af Bm (vv 2) AC) (Ef (Bw (A9 (Aa (Iq (K:=K) rfl) rfl T.yf (by rfl) (AA (Az (N':=["yes","self","things","number"]) (own:=1) (ix:=[0,1,2]) rfl (BH (K:=K) (BN T.zF T.zV (vv 0))) (by kernel_rfl) rfl rfl (by kernel_rfl) (fun c=>AN (i:=0) (show(["yes","self","things","number"]:List Str).Nodup by decide +kernel) rfl (by right)) (AX (by decide)) (fun c=>Av) (fun c=>(Ay (vv 1) T.zF T.z32.m (@Vo P w K mg base T) (hr.mono (show 4<=_ by decide)) T.z32.b .nil AG (AA (vv 2) (AA (vv 3) (AA (vv 0) AB)))))) AB))))))) (@AH _ _ _ (@AL _ _ _ _ Au)) Aq)) (by intro _;rfl)) (@AH _ _ _ (@AL _ _ _ _ Au))),?_⟩;refine Ad (fun Z H'=>KpB nd fd H H'/\∀(U:Nat) (m:Int),(kN U,V.int m)∈zd->1 < m->∀y∈ys,BE zd (U &&& y) (m - 1)\/BE zd (U - (U &&& y)) (m - 1)) ?_ (fun Z H' ⟨kp,hall⟩=>q true H' ⟨fun _=>hall,fun _=>rfl⟩ kp) (by walk_at "sm");refine⟨dx,_,_,h1,lb2 _ _ _,Ma h3 fun o H1 a1 a2 a3=>?_⟩;have R1:=R.held a1 a2;have kp1:KpB nd fd H H1:=⟨fun b u hb _ e=>by rw[a2 b hb];exact e,a3⟩;refine RO (zd:=zd) (fun j Z H'=>(∃z1 z2:Option V,Z=[some (.ref p),z1,z2])/\KpB nd fd H H'/\H' nd=some (.frz o (.dK zd))/\BrAt K T.zD n ys zd H' p nd fd/\∀(U:Nat) (m:Int),(kN U,V.int m)∈zd.take j->1 < m->∀y∈ys,BE zd (U &&& y) (m - 1)\/BE zd (U - (U &&& y)) (m - 1)) ⟨⟨_,_,rfl⟩,kp1,a1,R1,fun U m hm=>by rw[List.take_zero]at hm;cases hm⟩ (fun j Z H' _ ⟨_,_,e,_⟩=>e) ?_ (fun Z H' ⟨_,kp,_,_,hall⟩=>⟨kp,by rw[ZBT]at hall;exact hall⟩);rintro j r pp Z H2 hr2 ⟨⟨z1,z2,rfl⟩,kp2,f2,R2,hall⟩ npp;obtain⟨U,m,rfl,hU,hm1⟩:=R.nums.ok r (ZBQ hr2);have s3:=zc.upd (o:=.tup [kV (kN U),V.int m]) npp;have hmem:(kN U,V.int m)∈zd:=ZBQ hr2;have R3:=R2.same s3;have kp3:=kp2.trans (KpB.same s3);have f3:=s3 _ _ f2;refine⟨_,.inr (.of AD),rfl,_,_,rfl,_,_,rfl,rfl,?_⟩
 have hstep:∀H4,(1 < m->∀y∈ys,BE zd (U &&& y) (m - 1)\/BE zd (U - (U &&& y)) (m - 1))->KpB nd fd H H4->H4 nd=some (.frz o (.dK zd))->BrAt K T.zD n ys zd H4 p nd fd->(∃z1 z2:Option V,[some (V.ref p),some (V.int (U:Nat)),some (V.int m)]=[some (V.ref p),z1,z2])/\KpB nd fd H H4/\H4 nd=some (.frz o (.dK zd))/\BrAt K T.zD n ys zd H4 p nd fd/\∀(U:Nat) (m:Int),(kN U,V.int m)∈zd.take (j+1)->1 < m->∀y∈ys,BE zd (U &&& y) (m - 1)\/BE zd (U - (U &&& y)) (m - 1):=by
  intro H4 hh kp4 f4 R4;refine⟨⟨_,_,rfl⟩,kp4,f4,R4,fun U' m' hm'=>?_⟩;rw[ZBB,hr2]at hm'
  rcases ZBE.mp hm' with x | x
  ·exact hall U' m' x
  ·have x':(kN U',V.int m')=(kN U,V.int m):=by simpa using x
   have e1:kN U'=kN U:=congrArg Prod.fst x';have e2:V.int m'=V.int m:=congrArg Prod.snd x';cases e2;have e3:U'=U:=by injection e1 with z;lia
   subst e3;exact hh
 generalize upd H2 pp (.tup [kV (kN U),V.int m])=H3 at *;refine Ab (fun z=>?_) (fun z=>?_)
 ·have hm2:1 < m:=Zn z;obtain⟨dx3,yl3,fvs3,b1,b2,b3,b4,b5⟩:=id R3.at_;refine⟨dx3,_,_,b1,lb1 _ _ _,.inl ⟨⟨_,.of b2⟩,?_⟩⟩;have y16:=R.y16
  refine Fw (xs:=iL ys) (fun i zs H'=>∃bs:List Bool,zs=bs.map V.bl/\bs.length=i/\KpB nd fd H3 H'/\H' yl3=some (.lst (iL ys))/\H' nd=some (.frz o (.dK zd))/\BrAt K T.zD n ys zd H' p nd fd/\∀(t:Nat) (y:Nat),t < i->ys[t]? = some y->(bs[t]? = some true ↔ BE zd (U &&& y) (m - 1)\/BE zd (U - (U &&& y)) (m - 1))) ⟨[],rfl,rfl,KpB.refl,b2,f3,R3,fun t y h=>absurd h (ZBt _)⟩ (fun i zs H' _ ⟨_,_,_,_,e,_⟩=>.of e) (fun i zs H' hi ⟨bs,e,e2,_⟩=>by
   rw[Ag]at hi;rw[e,Ze,e2];exact Aj (by lia)) ?_ ?_
  ·rintro i x zs H4 hx ⟨bs,rfl,hbl,kp4,y4,f4,R4,hh⟩;obtain⟨y,hy,_,rfl⟩:=CD hx;obtain⟨dx4,yl4,fvs4,c1,_⟩:=id R4.at_;refine⟨p,dx4,_,rfl,c1,nb1 _ _ _,n,ys,zd,nd,fd,U,y,R4,rfl,hU,by lia,rfl,fun b H5 hb kp5 R5=>?_⟩;refine⟨bs++[b],by rw[Zt];rfl,by rw[Zy,hbl];rfl,kp4.trans kp5,kp5.1 _ _ (fun z=>by rw[z,f4]at y4;cases y4) (fun z=>?_) y4,kp5.2 _ _ f4,R5,fun t y' ht hy'=>?_⟩
   ·obtain⟨_,_,fvs5,_,_,_,d4,_⟩:=R4.at_;rw[z,d4]at y4;cases y4
   ·rcases ZBL t i with a | a
    ·rw[ZB1 (by lia)];exact hh t y' a hy'
    ·have:t=i:=by lia
     subst this;rw[hy]at hy';cases hy';rw[ZB0 (by lia),hbl,Nat.sub_self];rw[<- hb];simp
  ·rintro zs H4 ⟨bs,rfl,hbl,kp4,y4,f4,R4,hh⟩ l nl;rw[Ag]at hbl hh;refine⟨bs,.of AD,?_⟩;have s5:=zc.upd (o:=.lst (bs.map V.bl)) nl
   have key:bs.all id=true ↔ ∀y∈ys,BE zd (U &&& y) (m - 1)\/BE zd (U - (U &&& y)) (m - 1):=by
    rw[ZBW];constructor
    ·intro h y hy;obtain⟨t,ht,rfl⟩:=ZBG hy;refine(hh t _ ht (Zg ht)).mp ?_
     have:=h _ (ZBK (show t < bs.length by lia))
     rw[Zg (show t < bs.length by lia)];exact congrArg some this
    ·intro h b hb;obtain⟨t,ht,rfl⟩:=ZBG hb
     have:=(hh t ys[t] (by lia) (Zg (by lia))).mpr (h _ (ZBK (by lia)))
     rw[Zg ht]at this;exact Zv this
   cases hb:bs.all id with
   | true=>exact hstep _ (fun _=>key.mp hb) (kp3.trans (kp4.trans (KpB.same s5))) (s5 _ _ f4) (R4.same s5)
   | false =>
    refine q false _ ⟨(fun z=>nomatch z),fun h=>?_⟩ (kp3.trans (kp4.trans (KpB.same s5)));exact absurd (hb.symm.trans (key.mpr (h U m hmem hm2))) (by decide)
 ·exact hstep _ (fun h=>absurd (Zl h) z) kp3 f3 R3
noncomputable def FL(ts:List (List Bool)):List Dv:=ts.map fun b=>.tup (b.map Dv.bl)
noncomputable def gmD(ls:List Int)(rs:List (List Bool)):Dv:=.tup [.tup (ls.map Dv.int),.tup (FL rs)]
structure Gm(ls:List Int)(rs:List (List Bool)):Prop where
 l1:1<=ls.length
 l16:ls.length<=16
 r1:1<=rs.length
 r16:rs.length<=16
 row:∀r∈rs,r.length=ls.length
 sm:∀x∈ls,x.natAbs<=100000000000000000000
theorem NI:∀bs:List Bool,Cz (bs.map Dv.bl)=0
 | []=>by simp[Cz]
 | b::bs=>by
  show Cz (Dv.bl b::bs.map Dv.bl)=_;unfold Cz;rw[NI bs];rfl
noncomputable def BY(m i:Nat):List Bool:=(List.range (2 ^ m)).map fun p=>p / 2 ^ i % 2 == 1
noncomputable def Ih(bs:List Bool):List Dv:=bs.map fun b=>Dv.int (if b then 1 else 0)
noncomputable def C8(bs:List Bool):List V:=bs.map fun b=>V.int (if b then 1 else 0)
noncomputable def DG(m n:Nat):List Dv:=(List.range n).map fun i=>.tup ((BY m i).map Dv.bl)
noncomputable def Ke(bs:List Bool)(m:Nat):Dv:=.tup [.tup (Ih bs),.tup (DG m m)]
theorem WB(m i:Nat):(BY m i).length=2 ^ m:=by unfold BY;simp
theorem XH(m n:Nat):DG m (n+1)=DG m n++[.tup ((BY m n).map Dv.bl)]:=by unfold DG;rw[ZBq,Zt];rfl
theorem Qp(m n:Nat):(DG m n).length=n:=by unfold DG;simp
theorem MX:∀bs:List Bool,zf K H (Ih bs) (C8 bs)
 | []=>BF
 | b::bs=>Aw Fz (MX bs)
theorem RB(bs:List Bool):(C8 bs).length=bs.length:=by unfold C8;simp
theorem Yv(bs cs:List Bool):C8 (bs++cs)=C8 bs++C8 cs:=by unfold C8;simp
noncomputable def QW(K:W.Frag)(H:Hp)(Q:VK)(d:Dv):Prop:=∀u H',zc H H'->zh K H' d u->Q u H'
noncomputable def EZ(K:W.Frag):Sp:=fun vs H Q _=>match vs with
 | [.ref p]=>∃(bs:List Bool) (m:Nat),zt K H p (bs.map V.bl)/\bs.length=2 ^ m/\1<=m/\m<=4/\QW K H Q (Ke bs m)
 | _=>False
theorem UQ:AK (EZ K):=fun vs H Q Q' E h q=>by
 unfold EZ at *;split at q
 ·obtain⟨bs,m,h1,h2,h3,h4,q⟩:=q;exact⟨bs,m,h1,h2,h3,h4,fun u H' x1 x2=>h _ _ (q u H' x1 x2)⟩
 ·exact False.elim q
noncomputable def Am(rb:List Bool)(ans:Bool)(ts:List Nat):List Nat:=ts.filter fun k=>gB rb k == ans
theorem OV{rb:List Bool}{ans:Bool}(h:ts[i]? = some k):Am rb ans (ts.take (i+1))=Am rb ans (ts.take i)++(if (gB rb k == ans)=true then [k] else []):=by
 unfold Am;rw[ZBB,h,ZCP]
 congr 1
 simp only[Option.toList_some,List.filter_cons,List.filter_nil]
theorem OX(rb:List Bool)(ans:Bool)(ts:List Nat):(Am rb ans ts).length<=ts.length:=ZCQ _ _
theorem Tg{d1 d2:Dv}(h:zh K H (.tup [d1,d2]) v):∃a x1 x2,v=.ref a/\zt K H a [x1,x2]/\zh K H d1 x1/\zh K H d2 x2:=by
 obtain⟨a,xs,rfl,hs,hx⟩:=Dr h;obtain⟨x1,r1,rfl,hx1,hx'⟩:=(show ∃x r,xs=x::r/\zh K H d1 x/\zf K H [d2] r by unfold zf at hx;exact hx);obtain⟨x2,r2,rfl,hx2,hx''⟩:=(show ∃x r,r1=x::r/\zh K H d2 x/\zf K H [] r by unfold zf at hx';exact hx');obtain rfl:r2=[]:=by unfold zf at hx'';exact hx''
 exact⟨a,x1,x2,rfl,hs,hx1,hx2⟩
theorem O0:∀{bs:List Bool} {xs:List V},zf K H (bs.map Dv.bl) xs->xs=bs.map V.bl
 | [],xs,h=>by unfold zf at h;exact h
 | b::bs,xs,h=>by
  rw[Z5]at h;unfold zf at h;obtain⟨x,r,rfl,h1,h2⟩:=h;unfold zh at h1;rw[h1,O0 h2];rfl
theorem MN:∀{bs:List Int} {xs:List V},zf K H (bs.map Dv.int) xs->xs=bs.map V.int
 | [],xs,h=>by unfold zf at h;exact h
 | b::bs,xs,h=>by
  rw[Z5]at h;unfold zf at h;obtain⟨x,r,rfl,h1,h2⟩:=h;unfold zh at h1;rw[h1,MN h2];rfl
structure GmAt(K:W.Frag)(H:Hp)(ls:List Int)(rs:List (List Bool))(a tl rl:Addr)(ps:List Addr):Prop where
 two:zt K H a [.ref tl,.ref rl]
 lab:zt K H tl (ls.map V.int)
 rows:zt K H rl (ps.map V.ref)
 len:ps.length=rs.length
 row:∀(i:Nat) (q:Addr) (r:List Bool),ps[i]? = some q->rs[i]? = some r->zt K H q (r.map V.bl)
theorem Mu:∀{rs:List (List Bool)} {xs:List V},zf K H (FL rs) xs->∃ps:List Addr,xs=ps.map V.ref/\ps.length=rs.length/\∀(i:Nat) (q:Addr) (r:List Bool),ps[i]? = some q->rs[i]? = some r->zt K H q (r.map V.bl)
 | [],xs,h=>by
  have:xs=[]:=by simpa [FL,zf] using h
  exact⟨[],this,rfl,fun i q r z=>by simp at z⟩
 | r::rs,xs,h=>by
  have h':zf K H (Dv.tup (r.map Dv.bl)::FL rs) xs:=h;unfold zf at h';obtain⟨x,ys,rfl,h1,h2⟩:=h';obtain⟨a,zs,rfl,hs,hz⟩:=Dr h1;obtain rfl:=O0 hz;obtain⟨ps,rfl,hl,hr⟩:=Mu h2;refine⟨a::ps,rfl,by rw[ZBN,ZBN,hl],fun i q r' hi hr'=>?_⟩;cases i with
  | zero=>cases hi;cases hr';exact hs
  | succ i=>exact hr i q r' hi hr'
theorem DR(h:zh K H (gmD ls rs) v):∃a tl rl ps,v=.ref a/\GmAt K H ls rs a tl rl ps:=by
 obtain⟨a,x1,x2,rfl,hs,h1,h2⟩:=Tg h;obtain⟨tl,zs,rfl,hl,hz⟩:=Dr h1;obtain rfl:=MN hz;obtain⟨rl,ws,rfl,hr,hw⟩:=Dr h2;obtain⟨ps,rfl,e,hp⟩:=Mu hw;exact⟨a,tl,rl,ps,rfl,hs,hl,hr,e,hp⟩
theorem GmAt.same{tl rl:Addr}{ps:List Addr}(g:GmAt K H ls rs a tl rl ps)(s:zc H H'):GmAt K H' ls rs a tl rl ps :=
 ⟨s.sqT g.two,s.sqT g.lab,s.sqT g.rows,g.len,fun i q r x y=>s.sqT (g.row i q r x y)⟩
theorem GmAt.frm{tl rl:Addr}{ps:List Addr}(g:GmAt K H ls rs a tl rl ps)(f:zp t H H')(ht:H t=some o)(no:CC o):GmAt K H' ls rs a tl rl ps :=
 ⟨Cq f ht no g.two,Cq f ht no g.lab,Cq f ht no g.rows,g.len,fun i q r x y=>Cq f ht no (g.row i q r x y)⟩
noncomputable def AO(r:List Bool):Nat:=msk (whr (r.map (· == true)) r.length)
noncomputable def DN(ls:List Int)(z:Int):Nat:=msk (whr (ls.map (· == z)) ls.length)
theorem mskR_bit(r:List Bool)(k:Nat):(AO r).testBit k=gB r k:=by
 unfold AO;rw[(DJ (JW _ _) (fun t ht=>Eh ht)).2 k,ZBi,decide_eq_true_eq,PV]
 by_cases h:k < r.length
 ·have e:gB (r.map (· == true)) k=gB r k:=by
   rw[FH (x:=r[k]) (Zg h)];unfold gB;rw[Zw,Zg h];simp
  rw[e];simp[h]
 ·have e:gB r k=false:=by unfold gB;rw[Zw,List.getElem?_eq_none (by lia)];rfl
  rw[e];simp[h]
theorem My(ls:List Int)(z:Int)(k:Nat):(DN ls z).testBit k=(decide (k < ls.length) && decide (AE ls k=z)):=by
 unfold DN;rw[(DJ (JW _ _) (fun t ht=>Eh ht)).2 k,ZBi,decide_eq_true_eq,PV]
 by_cases h:k < ls.length
 ·have e:gB (ls.map (· == z)) k=decide (AE ls k=z):=by
   rw[FH (x:=ls[k]) (Zg h)];unfold AE;rw[Zw,Zg h];rfl
  rw[e];simp[h]
 ·simp[h]
theorem FW(rs:List (List Bool)):AV (rs.map AO)=rs.map gB:=by
 unfold AV;rw[ZBZ];apply ZCc;intro r _
 funext k
 exact mskR_bit r k
theorem sub_bits:S &&& m=S ↔ ∀k,S.testBit k=true->m.testBit k=true:=by
 constructor
 ·intro e k hk
  have:(S &&& m).testBit k=true:=by rw[e];exact hk
  rw[ZBS,hk]at this;simpa using this
 ·intro h;apply ZCl;intro k;rw[ZBS];cases e:S.testBit k with
  | false=>rfl
  | true=>rw[h k e];rfl
theorem WE{ms:List Int}(h1:1<=ls.length)(hm:∀z,z∈ms ↔ z∈ls):OE ls (ms.map (DN ls)):=by
 intro S hS;rw[List.any_map,ZBe];constructor
 ·rintro⟨z,hz,h⟩ i j hi hj;have h:=sub_bits.mp (Zn h);have a:=h i hi;have b:=h j hj;rw[My,Zp,decide_eq_true_eq,decide_eq_true_eq]at a b;rw[a.2,b.2]
 ·intro o
  by_cases e:∃k,S.testBit k=true
  ·obtain⟨k,hk⟩:=e;have hkl:=C9 hS hk;refine⟨AE ls k,(hm _).mpr ?_,Zl (sub_bits.mpr fun i hi=>?_)⟩
   ·unfold AE;rw[Zw,Zg hkl];exact ZBK hkl
   ·rw[My,Zl (C9 hS hi),Zl (o i k hi hk)];rfl
  ·cases ls with
   | nil=>simp at h1
   | cons x r=>exact⟨x,(hm _).mpr (by simp),Zl (sub_bits.mpr fun i hi=>absurd ⟨i,hi⟩ e)⟩
noncomputable def Kc(K:W.Frag)(C:Addr):Sp:=fun vs H Q _=>match vs with
 | [.ref p,v]=>∃ls rs dx,H p=some (.ins C dx [])/\zh K H (gmD ls rs) v/\Gm ls rs/\∀d H',H d=none->RkAt K C ls (rs.map AO) H' p d->zp p H H'->Q .non H'
 | _=>False
theorem JO{α:Type}[DecidableEq α]:∀{ds ls:List α},ds.Nodup->(∀z∈ds,z∈ls)->ds.length<=ls.length
 | [],ls,_,_=>Zu _
 | z::ds,ls,nd,h=>by
  obtain⟨h1,h2⟩:=ZCA.mp nd;have hz:z∈ls:=h z (by simp)
  have:=JO (ds:=ds) (ls:=ls.erase z) h2 (fun x hx=>(List.mem_erase_of_ne (fun e:x=z=>h1 (e ▸ hx))).mpr (h x (Zz _ hx)))
  have e:=List.length_erase_of_mem hz
  have:0 < ls.length:=ZCa hz
  rw[ZBN];lia
theorem TF(h1:ts.Pairwise (· < ·))(h2:∀t∈ts,t < n):ts.length<=n:=DX n ts (h1.imp fun h=>Zs h) h2
theorem U0:Om_ P w mg base T.z31 4 (Kc K T.zC):=by
 have G_z40:=@Ms P w K mg base T;have G_z35:=@Vm P w K mg base T;refine T.z31.F.ok Yo (fun vs H Q E h=>by unfold Kc at h;walk_at "e") ?_;walk_at "f";have hr_z40:=hr.mono (show 3<=_ by decide);have hr_z35:=hr.mono (show 1<=_ by decide);unfold Kc at h;walk_at "g"
 rename_i p v;obtain⟨ls,rs,dx,hp,hv,G,q⟩:=h;obtain⟨a,tl,rl,ps,rfl,g⟩:=DR hv;have l1:=G.l1;have l16:=G.l16;have r16:=G.r16;have hpl:=g.len;refine⟨_,(@AF _ _ _ _ _ (Dt T.zE T.zI (vv 0) (BU (CY (K:=K)) rfl T.zM (by rfl) (AA (zw (K:=K) (vv 1) AC) AB))) (@AF _ _ _ _ _ (Dt T.zE T.zK (vv 0) (@Az _ _ _ _ _ _ _ ["row"] 1 [] _ _ _ _ rfl (BH (K:=K) (zw (K:=K) (vv 1) AC)) (by kernel_rfl) rfl rfl (by kernel_rfl) (fun c=>AN (i:=0) (show(["row"]:List Str).Nodup by decide +kernel) rfl (by right)) (AX (by decide)) (fun c=>Av) (fun c=>(AM G_z40 hr_z40 rfl T.z40.m T.z40.F.kp T.z40.b .nil AG (AA (AM G_z35 hr_z35 rfl T.z35.m T.z35.F.kp T.z35.b .nil AG (AA Au (AA (vv 0) AB))) AB))) (by intro _;rfl))) (@AF _ _ _ _ _ (Dt T.zE T.zS (vv 0) (Az (N':=["label","self"]) (own:=1) (ix:=[0]) rfl (BH (K:=K) (Aa (Te (P:=P) (w:=w) rfl) rfl T.zZ (by rfl) (AA (BU (SJ (K:=K) (P:=P) (w:=w) rfl) rfl T.yg (by rfl) (AA (BN T.zE T.zI (vv 0)) AB)) AB))) (by kernel_rfl) rfl rfl (by kernel_rfl) (fun c=>AN (i:=0) (show(["label","self"]:List Str).Nodup by decide +kernel) rfl (by right)) (AX (by decide)) (fun c=>Av) (fun c=>(AM G_z40 hr_z40 rfl T.z40.m T.z40.F.kp T.z40.b .nil AG (AA (AM G_z35 hr_z35 rfl T.z35.m T.z35.F.kp T.z35.b .nil AG (AA (vv 0) (AA (BN T.zE T.zI (vv 1)) AB))) AB))))) (@AH _ _ _ (Dt T.zE T.zL (vv 0) Gs))))),?_⟩;refine⟨_,.ref tl,.inr g.two,rfl,_,.inr ⟨g.lab,dx,_,hp,(show 0 < 1000 by decide),?_⟩⟩;have f1:zp p H (upd H p (.ins T.zC dx (AW "labels" (.ref tl) []))):=zp.updT;have hp1:upd H p (.ins T.zC dx (AW "labels" (.ref tl) [])) p=some (.ins T.zC dx [("labels",.ref tl)]):=by rw[pf1];exact AD
 have g1:=g.frm f1 hp De;generalize upd H p (.ins T.zC dx (AW "labels" (.ref tl) []))=H1 at *
 -- the rows
 refine⟨_,.ref rl,.inr g1.two,rfl,.inr ⟨⟨_,g1.rows⟩,?_⟩⟩
 refine Bz (xs:=ps.map V.ref) (fun k zs H'=>zc H1 H'/\zs=iL ((rs.take k).map AO)) ⟨zc.refl _,rfl⟩ (fun k zs H' _ ⟨s,_⟩=>s.sqT g1.rows) (fun k zs H' hk ⟨_,e⟩=>by
  rw[Ze]at hk;rw[e,Ag,Ze,Z7];exact Aj (by lia)) ?_ ?_
 ·rintro k x zs H' hx ⟨s1,rfl⟩;rw[Zm]at hx;cases e0:ps[k]? with
  | none=>rw[e0]at hx;cases hx
  | some b =>
   rw[e0]at hx;cases hx;have hk:k < rs.length:=by rw[<- hpl];exact(Z4.mp e0).1
   have er:rs[k]? = some rs[k]:=Zg hk;have hrow:=G.row _ (ZBK hk);refine⟨rs[k],s1.sqT (g1.row k b _ e0 er),by lia,fun l H2 hl s2 g2=>?_⟩;refine⟨_,.inl (.of g2),by have:=EK (rs[k].map (· == true)) rs[k].length;lia,fun t ht=>by have:=Eh ht;lia,fun H3 s3=>?_⟩;refine⟨s1.trans (s2.trans s3),?_⟩;rw[ZBB,er,Zt,Bj];rfl
 rintro zs H2' ⟨s1,rfl⟩ yl hyl;rw[Ze,hpl,ZBT];have s2:zc H1 (upd H2' yl (.lst (iL (rs.map AO)))):=s1.trans (zc.upd hyl);have gy2:upd H2' yl (.lst (iL (rs.map AO))) yl=some (.lst (iL (rs.map AO))):=AD;generalize upd H2' yl (.lst (iL (rs.map AO)))=H2 at *;have hp2:=s2 _ _ hp1;have ny:yl≠p:=BK gy2 hp2 (by intro z;cases z);refine⟨dx,_,hp2,(show 1 < 1000 by decide),?_⟩;have f3:zp p H2 (upd H2 p (.ins T.zC dx (AW "yeses" (.ref yl) [("labels",.ref tl)]))):=zp.updT;have hp3:upd H2 p (.ins T.zC dx (AW "yeses" (.ref yl) [("labels",.ref tl)])) p=some (.ins T.zC dx [("labels",.ref tl),("yeses",.ref yl)]):=by rw[pf2];exact AD
 have g3:=(g1.same s2).frm f3 hp2 De;have gy3:=f3 _ _ ny gy2;have F3:zp p H (upd H2 p (.ins T.zC dx (AW "yeses" (.ref yl) [("labels",.ref tl)]))):=f1.trans ((A5 s2).trans f3);generalize upd H2 p (.ins T.zC dx (AW "yeses" (.ref yl) [("labels",.ref tl)]))=H3 at *
 -- the labels
 refine⟨dx,_,.ref tl,hp3,by rfl,ls,g3.lab,by lia,fun ds qs nd hmem hqs=>?_⟩;have hdl:ds.length<=ls.length:=JO nd fun z hz=>(hmem z).mp hz
 refine⟨ds,AD,by lia,fun ms l2 hml hmm _ hl2=>.inl ⟨⟨_,.of AD⟩,?_⟩⟩;have s4:zc H3 (upd (upd H3 qs (.ext (DB P w qs ds))) l2 (.lst (ms.map V.int))):=(zc.upd hqs).trans (zc.upd hl2);have gl4:upd (upd H3 qs (.ext (DB P w qs ds))) l2 (.lst (ms.map V.int)) l2=some (.lst (ms.map V.int)):=AD;generalize upd (upd H3 qs (.ext (DB P w qs ds))) l2 (.lst (ms.map V.int))=H4 at *;have g4:=g3.same s4;have hp4:=s4 _ _ hp3
 refine Fw (xs:=ms.map V.int) (fun k zs H'=>zc H4 H'/\zs=iL ((ms.take k).map (DN ls))) ⟨zc.refl _,rfl⟩ (fun k zs H' _ ⟨s,_⟩=>s.sqL (.of gl4)) (fun k zs H' hk ⟨_,e⟩=>by
  rw[Ze]at hk;rw[e,Ag,Ze,Z7];exact Aj (by lia)) ?_ ?_
 ·rintro k x zs H' hx ⟨s5,rfl⟩;rw[Zm]at hx;cases e0:ms[k]? with
  | none=>rw[e0]at hx;cases hx
  | some z =>
   rw[e0]at hx;cases hx;refine⟨dx,_,.ref tl,s5 _ _ hp4,by rfl,ls,s5.sqT g4.lab,by lia,fun l H2 hl s6 g2=>?_⟩;refine⟨_,.inl (.of g2),by have:=EK (ls.map (· == z)) ls.length;lia,fun t ht=>by have:=Eh ht;lia,fun H3 s7=>?_⟩;refine⟨s5.trans (s6.trans s7),?_⟩;rw[ZBB,e0,Zt,Bj];rfl
 rintro zs H5' ⟨s5,rfl⟩ al hal;rw[Ze,ZBT];have s6:zc H4 (upd H5' al (.lst (iL (ms.map (DN ls))))):=s5.trans (zc.upd hal);have ga6:upd H5' al (.lst (iL (ms.map (DN ls)))) al=some (.lst (iL (ms.map (DN ls)))):=AD;generalize upd H5' al (.lst (iL (ms.map (DN ls))))=H6 at *;have hp6:=s6 _ _ hp4;have na:al≠p:=BK ga6 hp6 (by intro z;cases z);refine⟨dx,_,hp6,(show 2 < 1000 by decide),?_⟩;have f7:zp p H6 (upd H6 p (.ins T.zC dx (AW "alike" (.ref al) [("labels",.ref tl),("yeses",.ref yl)]))):=zp.updT;have hp7:upd H6 p (.ins T.zC dx (AW "alike" (.ref al) [("labels",.ref tl),("yeses",.ref yl)])) p=some (.ins T.zC dx [("labels",.ref tl),("yeses",.ref yl),("alike",.ref al)]):=by rw[pf3];exact AD
 have g7:=(g4.same s6).frm f7 hp6 De;have gy7:=f7 _ _ ny (s6 _ _ (s4 _ _ gy3));have ga7:=f7 _ _ na ga6;have F7:zp p H (upd H6 p (.ins T.zC dx (AW "alike" (.ref al) [("labels",.ref tl),("yeses",.ref yl)]))):=F3.trans ((A5 s4).trans ((A5 s6).trans f7));generalize upd H6 p (.ins T.zC dx (AW "alike" (.ref al) [("labels",.ref tl),("yeses",.ref yl)]))=H7 at *
 -- nothing known yet
 intro d hd;have s8:zc H7 (upd H7 d (.dK [])):=zc.upd hd;have nd8:d≠p:=fun e=>by rw[e,hp7]at hd;cases hd
 have gd8:upd H7 d (.dK []) d=some (.dK []):=AD
 have hd0:H d=none:=by
  cases e:H d with
  | none=>rfl
  | some o=>rw[F7 d o nd8 e]at hd;cases hd
 generalize upd H7 d (.dK [])=H8 at *;have hp8:=s8 _ _ hp7;refine⟨dx,_,hp8,(show 3 < 1000 by decide),?_⟩;have f9:zp p H8 (upd H8 p (.ins T.zC dx (AW "known" (.ref d) [("labels",.ref tl),("yeses",.ref yl),("alike",.ref al)]))):=zp.updT;have hp9:upd H8 p (.ins T.zC dx (AW "known" (.ref d) [("labels",.ref tl),("yeses",.ref yl),("alike",.ref al)])) p=some (.ins T.zC dx (Bf (.ref tl) (.ref yl) (.ref al) (.ref d))):=by rw[pf4];exact AD
 refine q d _ hd0 ⟨⟨dx,tl,yl,al,_,[],hp9,((g7.same s8).frm f9 hp8 De).lab,f9 _ _ ny (s8 _ _ gy7),f9 _ _ na (s8 _ _ ga7),f9 _ _ nd8 gd8,by rw[Ze];lia,WE l1 (fun z=>by rw[hmm z,hmem z]),⟨by simp,fun e he=>by simp at he⟩⟩,l16,by rw[Ze];exact r16⟩ (F7.trans ((A5 s8).trans f9))
theorem Eu(N:Nat)(S:Nat->Bool):AS N S<=N:=by
 unfold AS
 have:=ZCQ S (List.range N)
 rw[ZBk]at this;exact this
noncomputable abbrev DY:=List (List Nat × Int)
noncomputable def A4(e:List Nat × Int):Dw:=.tup [.tup (e.1.map fun(t:Nat)=>Dw.int (t:Int)),.int e.2]
structure EntOk(n:Nat)(e:List Nat × Int):Prop where
 up:e.1.Pairwise (· < ·)
 lt:∀t∈e.1,t < n
 one:1<=e.2
structure NumsOf(n:Nat)(es:DY)(zd:List (Key × V)):Prop extends NumsOk n zd where
 fro:∀(S:Nat) (k:Int),(kN S,V.int k)∈zd->∃e∈es,S=msk e.1/\k=e.2
 to_:∀e∈es,∃k:Int,(kN (msk e.1),V.int k)∈zd/\e.2<=k
theorem NumsOf.put(h:NumsOf n es zd){e:List Nat × Int}(he:EntOk n e){k0:Int}(hk:(valV zd (kN (msk e.1))=none/\k0=0)\/valV zd (kN (msk e.1))=some (.int k0)) :
 NumsOf n (es++[e]) (Ai zd (kN (msk e.1)) (.int (max k0 e.2))):=by
 obtain⟨hS,_⟩:=DJ he.up he.lt;have one:=he.one;refine⟨⟨LS h.nd,fun x hx=>?_⟩,fun S k hx=>?_,fun x hx=>?_⟩
 ·rcases put_mem hx with rfl | ⟨q,_⟩
  ·exact⟨_,_,rfl,hS,by lia⟩
  ·exact h.ok x q
 ·rcases put_mem hx with q | ⟨q,_⟩
  ·have e1:kN S=kN (msk e.1):=congrArg Prod.fst q;have e2:V.int k=V.int (max k0 e.2):=congrArg Prod.snd q;have e3:S=msk e.1:=by injection e1 with z;lia
   cases e2
   by_cases z:k0<=e.2
   ·exact⟨e,by simp,e3,by lia⟩
   ·rcases hk with ⟨_,y⟩ | y
    ·lia
    ·obtain⟨x,hx1,hx2,hx3⟩:=h.fro _ _ (ES y);exact⟨x,ZBO _ hx1,by lia,by lia⟩
  ·obtain⟨x,hx1,hx2⟩:=h.fro S k q;exact⟨x,ZBO _ hx1,hx2⟩
 ·rcases ZBE.mp hx with q | q
  ·obtain⟨k,a,b⟩:=h.to_ x q
   by_cases z:kN (msk x.1)=kN (msk e.1)
   ·rw[z]at a ⊢;refine⟨_,Om,?_⟩
    have:=WP h.nd a
    rcases hk with ⟨y,_⟩ | y
    ·rw[y]at this;cases this
    ·rw[y]at this;cases this;lia
   ·exact⟨k,Qx a z,b⟩
  ·have:x=e:=by simpa using q
   subst this;exact⟨_,Om,by lia⟩
noncomputable def O6(K:W.Frag)(H:Hp)(e:List Nat × Int)(x:V):Prop:=∃b c,x=.ref b/\zt K H b [.ref c,.int e.2]/\zt K H c (iL e.1)
structure EntsAt(K:W.Frag)(H:Hp)(es:DY)(ua:Addr)(xs:List V):Prop where
 sq:zt K H ua xs
 len:xs.length=es.length
 at_:∀(i:Nat) (e:List Nat × Int),es[i]? = some e->∃x,xs[i]? = some x/\O6 K H e x
theorem Ol:∀{ts:List Nat} {xs:List V},zo K H (ts.map fun(t:Nat)=>Dw.int (t:Int)) xs->xs=iL ts
 | [],xs,h=>by unfold zo at h;exact h
 | t::ts,xs,h=>by
  rw[Z5]at h;unfold zo at h;obtain⟨x,r,rfl,h1,h2⟩:=h;unfold zr at h1;rw[h1,Ol h2];rfl
theorem N5{e:List Nat × Int}{x:V}(h:zr K H (A4 e) x):O6 K H e x:=by
 obtain⟨b,xs,rfl,hb,hx⟩:=Dc h;unfold zo at hx;obtain⟨x0,l0,rfl,r0,hx⟩:=hx;unfold zo at hx;obtain⟨x1,l1,rfl,r1,hx⟩:=hx;unfold zo at hx;subst hx;obtain⟨c,zs,rfl,hc,hz⟩:=Dc r0;unfold zr at r1;subst r1;rw[Ol hz]at hc;exact⟨b,c,rfl,hb,hc⟩
theorem Lg{u:V}(h:zr K H (.tup (es.map A4)) u):∃ua xs,u=.ref ua/\EntsAt K H es ua xs:=by
 obtain⟨ua,xs,rfl,hs,hx⟩:=Dc h;refine⟨ua,xs,rfl,hs,by rw[<- hx.length,Ze],fun i e he=>?_⟩;obtain⟨x,h1,h2⟩:=hx.get (i:=i) (d:=A4 e) (by rw[Zm,he];rfl);exact⟨x,h1,N5 h2⟩
theorem EntsAt.same{ua:Addr}(h:EntsAt K H es ua xs)(s:zc H H'):EntsAt K H' es ua xs:=⟨s.sqT h.sq,h.len,fun i e he=>by
 obtain⟨x,h1,b,c,h2,h3,h4⟩:=h.at_ i e he;exact⟨x,h1,b,c,h2,s.sqT h3,s.sqT h4⟩⟩
theorem EntsAt.frm{ua:Addr}(h:EntsAt K H es ua xs)(f:zp d H H')(hd:H d=some o)(no:CC o):EntsAt K H' es ua xs:=⟨Cq f hd no h.sq,h.len,fun i e he=>by
 obtain⟨x,h1,b,c,h2,h3,h4⟩:=h.at_ i e he;exact⟨x,h1,b,c,h2,Cq f hd no h3,Cq f hd no h4⟩⟩
noncomputable def EQ(K:W.Frag)(C:Addr):Sp:=fun vs H Q _=>match vs with
 | [.ref p,v,u]=>∃ls rs dx es,H p=some (.ins C dx [])/\zh K H (gmD ls rs) v/\Gm ls rs/\zr K H (.tup (es.map A4)) u/\(∀e∈es,EntOk ls.length e)/\es.length<=100000/\∀zd nd fd H',H nd=none->H fd=none->nd≠p->fd≠p->NumsOf ls.length es zd->BrAt K C ls.length (rs.map AO) zd H' p nd fd->zp p H H'->Q .non H'
 | _=>False
theorem Qw:AK (EQ K C):=fun vs H Q Q' E h q=>by
 unfold EQ at *;walk_at "q"
theorem Qk:Om_ P w mg base T.z33 4 (EQ K T.zD):=by
 have G_z40:=@Ms P w K mg base T;refine T.z33.F.ok sc_z33 (fun vs H Q E h=>by unfold EQ at h;walk_at "e") ?_;walk_at "f";have hr_z40:=hr.mono (show 3<=_ by decide);have mo1:AK (Ez K):=Sy;unfold EQ at h;walk_at "g"
 rename_i p v u;obtain⟨ls,rs,dx,es,hp,hv,G,hes,hok,hel,q⟩:=h;obtain⟨a,tl,rl,ps,rfl,g⟩:=DR hv;have l16:=G.l16;have r16:=G.r16;have hpl:=g.len;refine⟨_,(@AF _ _ _ _ _ (Dt T.zF T.zV (vv 0) (Az (N':=["row"]) (own:=1) (ix:=[]) rfl (BH (K:=K) (zw (K:=K) (vv 1) AC)) (by kernel_rfl) rfl rfl (by kernel_rfl) (fun c=>AN (i:=0) (show(["row"]:List Str).Nodup by decide +kernel) rfl (by right)) (AX (by decide)) (fun c=>Av) (fun c=>(AM G_z40 hr_z40 rfl T.z40.m T.z40.F.kp T.z40.b .nil AG (AA (Az (N':=["each","answer"]) (own:=2) (ix:=[]) rfl (K0 (K:=K) rfl T.zN (AA (vv 0) AB)) (by kernel_rfl) rfl rfl (by kernel_rfl) (fun c=>Cg (K:=K) (n:=2) rfl (Ax (AN (i:=0) (show(["each","answer"]:List Str).Nodup by decide +kernel) rfl (by right)) (Ax (AN (i:=1) (show(["each","answer"]:List Str).Nodup by decide +kernel) rfl (by right)) Bv))) (Ce (BQ Ar (Cc Ar BM) (AX (by decide)) (BQ Ar BM (AX (by decide)) Co))) (fun c=>DD (A9 (vv 1))) (fun c=>(vv 0))) AB))))) (@AF _ _ _ _ _ (Dt T.zF T.zG (vv 0) Gs) (@AF _ _ _ _ _ (Dt T.zF T.zO (vv 0) Gs) (@AH _ _ _ (@Bk _ _ _ _ _ _ _ _ PassesOwn.never rfl (BH (K:=K) (vv 2)) (AN (i:=3) sc_z33.nd rfl (by right)) (@AF _ _ _ _ _ (@AR _ _ 4 _ _ _ _ sc_z33.nd rfl (by right) (AM G_z40 hr_z40 rfl T.z40.m T.z40.F.kp T.z40.b .nil AG (AA (zw (K:=K) (vv 3) AC) AB)) (by rfl) (by walk_at "i")) (@AH _ _ _ (@Fb _ _ _ _ _ _ _ _ _ (Cb hu) (BN T.zF T.zG (vv 0)) (vv 4) (Aa (Gc rfl) rfl T.ya (by rfl) (AA (NP (Cb hu) (BN T.zF T.zG (vv 0)) (vv 4) AC ⟨by rfl,by rfl,by rfl,by rfl⟩) (AA (zw (K:=K) (vv 3) AC) AB))) (by rfl)))) (by intro _;rfl)))))),?_⟩;obtain⟨ua,xs,rfl,E0'⟩:=Lg hes
 -- the rows
 refine⟨_,.ref rl,.inr g.two,rfl,.inr ⟨⟨_,g.rows⟩,?_⟩⟩
 refine Bz (xs:=ps.map V.ref) (fun k zs H'=>zc H H'/\zs=iL ((rs.take k).map AO)) ⟨zc.refl _,rfl⟩ (fun k zs H' _ ⟨s,_⟩=>s.sqT g.rows) (fun k zs H' hk ⟨_,e⟩=>by
  rw[Ze]at hk;rw[e,Ag,Ze,Z7];exact Aj (by lia)) ?_ ?_
 ·rintro k x zs H' hx ⟨s1,rfl⟩;rw[Zm]at hx;cases e0:ps[k]? with
  | none=>rw[e0]at hx;cases hx
  | some b =>
   rw[e0]at hx;cases hx;have hk:k < rs.length:=by rw[<- hpl];exact(Z4.mp e0).1
   have er:rs[k]? = some rs[k]:=Zg hk;have hrow:=G.row _ (ZBK hk);have hp0:=s1.sqT (g.row k b _ e0 er);generalize hrb:rs[k]=rb at *;refine⟨⟨_,hp0⟩,?_⟩
   refine Ix (xs:=rb.map V.bl) (fun i zs H''=>zc H' H''/\zs=iL (whr (rb.map (· == true)) i)) ⟨zc.refl _,rfl⟩ (fun i zs H'' _ ⟨s,_⟩=>s.sqT hp0) (fun i zs H'' hi ⟨_,e⟩=>by
    rw[Ze]at hi
    have:=EK (rb.map (· == true)) i
    rw[e,Ag];exact Aj (by lia)) ?_ ?_
   ·rintro i x zs H2 pp hx ⟨s2,rfl⟩ hpp;rw[Zm]at hx;cases e0:rb[i]? with
    | none=>rw[e0]at hx;cases hx
    | some r =>
     rw[e0]at hx;cases hx;have eg:gB (rb.map (· == true)) i=(r == true):=FH e0;refine⟨pp,_,rfl,.of AD,rfl,_,_,rfl,_,_,rfl,rfl,?_⟩;rw[JB,Bj,eg];cases r with
     | true=>exact⟨s2.trans (zc.upd hpp),rfl⟩
     | false=>exact⟨s2.trans (zc.upd hpp),by show _=_++[];rw[ZBI]⟩
   ·rintro zs H2 ⟨s2,rfl⟩ l hl;rw[Ze];refine⟨_,.inl (.of AD),by have:=EK (rb.map (· == true)) rb.length;lia,fun t ht=>by have:=Eh ht;lia,fun H3 s3=>?_⟩;refine⟨s1.trans (s2.trans ((zc.upd hl).trans s3)),?_⟩;rw[ZBB,er,Zt,Bj];rfl
 rintro zs H2' ⟨s1,rfl⟩ yl hyl;rw[Ze,hpl,ZBT];have s2:zc H (upd H2' yl (.lst (iL (rs.map AO)))):=s1.trans (zc.upd hyl);have gy2:upd H2' yl (.lst (iL (rs.map AO))) yl=some (.lst (iL (rs.map AO))):=AD;generalize upd H2' yl (.lst (iL (rs.map AO)))=H2 at *;have hp2:=s2 _ _ hp;have ny:yl≠p:=BK gy2 hp2 (by intro z;cases z);refine⟨dx,_,hp2,(show 0 < 1000 by decide),?_⟩;have f3:zp p H2 (upd H2 p (.ins T.zD dx (AW "yeses" (.ref yl) []))):=zp.updT;have hp3:upd H2 p (.ins T.zD dx (AW "yeses" (.ref yl) [])) p=some (.ins T.zD dx [("yeses",.ref yl)]):=by rw[pb1];exact AD
 have E3:=(E0'.same s2).frm f3 hp2 De;have gy3:=f3 _ _ ny gy2;have F3:zp p H (upd H2 p (.ins T.zD dx (AW "yeses" (.ref yl) []))):=(A5 s2).trans f3;generalize upd H2 p (.ins T.zD dx (AW "yeses" (.ref yl) []))=H3 at *
 -- the dicts
 intro nd hnd;have s4:zc H3 (upd H3 nd (.dK [])):=zc.upd hnd;have nnp:nd≠p:=fun e=>by rw[e,hp3]at hnd;cases hnd
 have gn4:upd H3 nd (.dK []) nd=some (.dK []):=AD
 have hn0:H nd=none:=by
  cases e:H nd with
  | none=>rfl
  | some o=>rw[F3 nd o nnp e]at hnd;cases hnd
 generalize upd H3 nd (.dK [])=H4 at *;have hp4:=s4 _ _ hp3;refine⟨dx,_,hp4,(show 1 < 1000 by decide),?_⟩;have f5:zp p H4 (upd H4 p (.ins T.zD dx (AW "numbers" (.ref nd) [("yeses",.ref yl)]))):=zp.updT;have hp5:upd H4 p (.ins T.zD dx (AW "numbers" (.ref nd) [("yeses",.ref yl)])) p=some (.ins T.zD dx [("yeses",.ref yl),("numbers",.ref nd)]):=by rw[pb2];exact AD
 have E5:=(E3.same s4).frm f5 hp4 De;have gy5:=f5 _ _ ny (s4 _ _ gy3);have gn5:=f5 _ _ nnp gn4;have F5:zp p H (upd H4 p (.ins T.zD dx (AW "numbers" (.ref nd) [("yeses",.ref yl)]))):=F3.trans ((A5 s4).trans f5);generalize upd H4 p (.ins T.zD dx (AW "numbers" (.ref nd) [("yeses",.ref yl)]))=H5 at *;intro fd hfd;have s6:zc H5 (upd H5 fd (.dK [])):=zc.upd hfd;have nfp:fd≠p:=fun e=>by rw[e,hp5]at hfd;cases hfd
 have nnf:nd≠fd:=fun e=>by rw[<- e,gn5]at hfd;cases hfd
 have gf6:upd H5 fd (.dK []) fd=some (.dK []):=AD
 have hf0:H fd=none:=by
  cases e:H fd with
  | none=>rfl
  | some o=>rw[F5 fd o nfp e]at hfd;cases hfd
 generalize upd H5 fd (.dK [])=H6 at *;have hp6:=s6 _ _ hp5;refine⟨dx,_,hp6,(show 2 < 1000 by decide),?_⟩;have f7:zp p H6 (upd H6 p (.ins T.zD dx (AW "found" (.ref fd) [("yeses",.ref yl),("numbers",.ref nd)]))):=zp.updT;have hp7:upd H6 p (.ins T.zD dx (AW "found" (.ref fd) [("yeses",.ref yl),("numbers",.ref nd)])) p=some (.ins T.zD dx (CB (.ref yl) (.ref nd) (.ref fd))):=by rw[pb3];exact AD
 have E7:=(E5.same s6).frm f7 hp6 De;have gy7:=f7 _ _ ny (s6 _ _ gy5);have gn7:=f7 _ _ nnp (s6 _ _ gn5);have gf7:=f7 _ _ nfp gf6;have F7:zp p H (upd H6 p (.ins T.zD dx (AW "found" (.ref fd) [("yeses",.ref yl),("numbers",.ref nd)]))):=F5.trans ((A5 s6).trans f7);generalize upd H6 p (.ins T.zD dx (AW "found" (.ref fd) [("yeses",.ref yl),("numbers",.ref nd)]))=H7 at *;clear f3 f5 f7 s4 s6 hp2 hp3 hp4 hp5 hp6 gy2 gy3 gy5 gn4 gn5 gf6 F3 F5 E3 E5
 -- the entries
 refine .inr ⟨⟨_,E7.sq⟩,?_⟩;refine IZ (xs:=xs) (fun j Z H'=>∃(z3 z4:Option V) (zd:List (Key × V)),Z=[some (.ref p),some (.ref a),some (.ref ua),z3,z4]/\EntsAt K H' es ua xs/\H' p=some (.ins T.zD dx (CB (.ref yl) (.ref nd) (.ref fd)))/\H' yl=some (.lst (iL (rs.map AO)))/\H' nd=some (.dK zd)/\H' fd=some (.dK [])/\NumsOf ls.length (es.take j) zd/\zp p H H') ⟨none,none,[],rfl,E7,hp7,gy7,gn7,gf7,⟨⟨by simp,(fun e he=>by cases he)⟩,(fun S k he=>by cases he),(fun e he=>by rw[List.take_zero]at he;cases he)⟩,F7⟩ (fun j Z H' _ ⟨_,_,_,_,e,_⟩=>e.sq) ?_ ?_
 ·rintro j x Z H8 hx ⟨z3,z4,zd,rfl,E8,hp8,gy8,gn8,gf8,N8,F8⟩;have hj:j < es.length:=by rw[<- E7.len];exact(Z4.mp hx).1
  have ee:es[j]? = some es[j]:=Zg hj;obtain⟨x',ex,b,c,rfl,hb,hc⟩:=E8.at_ j _ ee;rw[hx]at ex;cases ex;have he:=hok _ (ZBK hj);generalize es[j]=e at *;have zk:e.1.length<=ls.length:=DX ls.length e.1 (he.up.imp fun h=>Zs h) he.lt;refine⟨_,.ref c,.inr hb,rfl,e.1,.inr hc,by lia,fun t ht=>by have:=he.lt t ht;lia,fun H9 s9=>?_⟩;have hp9:=s9 _ _ hp8;have gn9:=s9 _ _ gn8;dsimp only[Ak];refine⟨dx,_,_,hp9,lb2 _ _ _,nd,rfl,Nx (.inl gn9),valV zd (kN (msk e.1)),ON (k:=kN (msk e.1)) (.inl gn9),?_⟩;have hb9:=s9.sqT hb;have hkl:=Ks N8.nd (fun e he=>by obtain⟨S,k,h1,h2,_⟩:=N8.ok e he;exact⟨S,_,h1,h2⟩) l16
  have fin:∀(k0:Int),((valV zd (kN (msk e.1))=none/\k0=0)\/valV zd (kN (msk e.1))=some (.int k0))->∃(z3 z4:Option V) (kvs':List (Key × V)),[some (V.ref p),some (V.ref a),some (V.ref ua),some (V.ref b),some (V.int (msk e.1:Nat))]=[some (V.ref p),some (V.ref a),some (V.ref ua),z3,z4]/\EntsAt K (upd H9 nd (.dK (Ai zd (kN (msk e.1)) (.int (max k0 e.2))))) es ua xs/\upd H9 nd (.dK (Ai zd (kN (msk e.1)) (.int (max k0 e.2)))) p=some (.ins T.zD dx (CB (.ref yl) (.ref nd) (.ref fd)))/\upd H9 nd (.dK (Ai zd (kN (msk e.1)) (.int (max k0 e.2)))) yl=some (.lst (iL (rs.map AO)))/\upd H9 nd (.dK (Ai zd (kN (msk e.1)) (.int (max k0 e.2)))) nd=some (.dK kvs')/\upd H9 nd (.dK (Ai zd (kN (msk e.1)) (.int (max k0 e.2)))) fd=some (.dK [])/\NumsOf ls.length (es.take (j+1)) kvs'/\zp p H (upd H9 nd (.dK (Ai zd (kN (msk e.1)) (.int (max k0 e.2))))):=by
   intro k0 hk0;have fu:zp nd H9 (upd H9 nd (.dK (Ai zd (kN (msk e.1)) (.int (max k0 e.2))))):=zp.updT;refine⟨_,_,_,rfl,(E8.same s9).frm fu gn9 Gk,fu _ _ (Ne.symm nnp) hp9,fu _ _ (BK (s9 _ _ gy8) gn9 (by intro z;cases z)) (s9 _ _ gy8),AD,fu _ _ (Ne.symm nnf) (s9 _ _ gf8),?_,fun b' o hb' e'=>?_⟩
   ·rw[ZBB,ee];exact N8.put he hk0
   ·have h8:=F8 b' o hb' e';rw[AI (fun z=>by rw[z,hn0]at e';cases e')];exact s9 _ _ h8
  cases ev:valV zd (kN (msk e.1)) with
  | none =>
   refine⟨_,_,.inr hb9,Ae (n:=1) rfl rfl,?_⟩;refine⟨dx,_,_,hp9,lb2 _ _ _,nd,_,rfl,DPut.k (k:=kN (msk e.1)) gn9 hkl,?_⟩;exact fin 0 (.inl ⟨ev,rfl⟩)
  | some v =>
   obtain⟨S,k,e1,_,hk⟩:=N8.ok _ (ES ev);have e2:v=V.int k:=congrArg Prod.snd e1;subst e2;refine⟨_,_,.inr hb9,Ae (n:=1) rfl rfl,?_⟩;refine⟨dx,_,_,hp9,lb2 _ _ _,nd,_,rfl,DPut.k (k:=kN (msk e.1)) gn9 hkl,?_⟩;exact fin k (.inr ev)
 ·rintro Z H8 ⟨z3,z4,zd,rfl,E8,hp8,gy8,gn8,gf8,N8,F8⟩;rw[E7.len,ZBT]at N8;refine q zd nd fd H8 hn0 hf0 nnp nfp N8 ⟨⟨dx,yl,[],hp8,gy8,.inl gn8,gf8,⟨by simp,fun e he=>by cases he⟩⟩,N8.toNumsOk,l16,by rw[Ze];exact r16,nnf,fun y hy=>?_⟩ F8;obtain⟨r,hr',rfl⟩:=Zk.mp hy;have hrow:=G.row r hr';unfold AO
  have:=(DJ (N:=ls.length) (JW (r.map (· == true)) r.length) (fun t ht=>by rw[<- hrow];exact Eh ht)).1
  exact this
noncomputable def Er(rs:List (List Bool))(k:Nat):List Bool:=rs.map fun r=>gB r k
noncomputable def DF(rs:List (List Bool))(n:Nat):List Dv:=(List.range n).map fun k=>.lst ((Er rs k).map Dv.bl)
noncomputable def DK(ls:List Int)(rs:List (List Bool))(i j:Nat):Prop:=i < j/\j < ls.length/\AE ls i≠AE ls j/\Er rs i=Er rs j
noncomputable def Xc(ls:List Int)(rs:List (List Bool))(i j:Nat):Prop:=DK ls rs i j/\∀i' j',DK ls rs i' j'->i < i'\/i=i'/\j<=j'
noncomputable def Ck(ls:List Int)(rs:List (List Bool)):Prop:=∀i j,¬DK ls rs i j
theorem MG:∀as bs:List Bool,BR (as.map Dv.bl) (bs.map Dv.bl)=true->as=bs
 | [],[],_=>rfl
 | [],u::us,h=>by simp[BR]at h
 | t::ts,[],h=>by simp[BR]at h
 | t::ts,u::us,h=>by
  rw[Z5,Z5,BR,eqD,Zp,beq_iff_eq]at h;rw[h.1,MG ts us h.2]
theorem Pr(a b:List Bool):eqD (.lst (a.map Dv.bl)) (.lst (b.map Dv.bl))=decide (a=b):=by
 rw[JE,ZBi,decide_eq_true_eq];exact⟨MG a b,fun e=>by rw[e];exact GP _⟩
theorem XD(rs:List (List Bool))(n:Nat):DF rs (n+1)=DF rs n++[.lst ((Er rs n).map Dv.bl)]:=by unfold DF;rw[ZBq,Zt];rfl
theorem Tn(rs:List (List Bool))(n:Nat):(DF rs n).length=n:=by unfold DF;rw[Ze,ZBk]
theorem OT(rs:List (List Bool))(h:k < n):(DF rs n)[k]? = some (.lst ((Er rs k).map Dv.bl)):=by unfold DF;rw[Zm,ZBp h];rfl
theorem Fs(h:i < ls.length):atI (ls.map V.int) ((i:Nat):Int)=some (.int (AE ls i)):=by
 refine Ae rfl ?_;rw[Zm,Zg h];unfold AE;rw[Zw,Zg h];rfl
noncomputable def Jp(K:W.Frag):Sp:=fun vs H Q _=>match vs with
 | [v]=>∃ls rs,zh K H (gmD ls rs) v/\Gm ls rs/\(∀H',zc H H'->Ck ls rs->Q .non H')/\∀(i j:Nat) t H',Xc ls rs i j->H t=none->zc H H'->H' t=some (.tup [.int (i:Nat),.int (j:Nat)])->Q (.ref t) H'
 | _=>False
theorem T8{tl rl:Addr}{ps:List Addr}(g:GmAt K H ls rs a tl rl ps)(G:Gm ls rs)(hk:k < ls.length){q:Addr}(hj:ps[j]? = some q) :
 ∃r,rs[j]? = some r/\zt K H q (r.map V.bl)/\atI (r.map V.bl) ((k:Nat):Int)=some (.bl (gB r k)):=by
 have hj':j < rs.length:=by rw[<- g.len];exact(Z4.mp hj).1
 have er:rs[j]? = some rs[j]:=Zg hj';exact⟨rs[j],er,g.row j q _ hj er,Ed (by rw[G.row _ (ZBK hj')];exact hk)⟩
theorem ZY{ps:List Addr}{x:V}(h:(ps.map V.ref)[k]? = some x):∃q,ps[k]? = some q/\x=.ref q:=by
 rw[Zm]at h;cases e:ps[k]? with
 | none=>rw[e]at h;cases h
 | some q=>rw[e]at h;cases h;exact⟨q,rfl,rfl⟩
theorem WW:Ok_ P w base T.z34 1 (Jp K):=by
 refine T.z34.F.ok sc_z34 (fun vs H Q E h=>by unfold Jp at h;walk_at "e") ?_;walk_at "f";unfold Jp at h;walk_at "g"
 rename_i v;obtain⟨ls,rs,hv,G,q1,q2⟩:=h;obtain⟨a,tl,rl,ps,rfl,g⟩:=DR hv;have l16:=G.l16;have r16:=G.r16;refine⟨_,(@AF _ _ _ _ _ (@AR _ _ 1 _ _ _ _ sc_z34.nd rfl (by right) (zw (K:=K) (vv 0) AC) (by rfl) (by walk_at "i")) (@AF _ _ _ _ _ (@Cv _ _ _ _ _ _ _ (["thing","game"]) 1 [0] _ _ _ _ 2 _ _ _ rfl sc_z34.nd rfl rfl (BP rfl T.zH (AA (Aa (BG (K:=K)) rfl T.zR (by rfl) (AA (vv 1) AB)) AB)) (by kernel_rfl) rfl rfl (by kernel_rfl) (fun c=>AN (i:=0) (show(["thing","game"]:List Str).Nodup by decide +kernel) rfl (by right)) (AX (by decide)) (fun c=>Av) (fun c=>(@Az _ _ _ _ _ _ _ (["row","thing"]) 1 [0] _ _ _ _ rfl (BH (K:=K) (zw (K:=K) (vv 1) AC)) (by kernel_rfl) rfl rfl (by kernel_rfl) (fun c=>AN (i:=0) (show(["row","thing"]:List Str).Nodup by decide +kernel) rfl (by right)) (AX (by decide)) (fun c=>Av) (fun c=>(zw (K:=K) (vv 0) (vv 1))) (by intro _;rfl))) (by rfl) (by intro _;rfl)) (@AF _ _ _ _ _ (@Bk _ _ _ _ _ _ _ _ PassesOwn.never rfl (BP rfl T.zH (AA (Aa (BG (K:=K)) rfl T.zR (by rfl) (AA (vv 1) AB)) AB)) (AN (i:=3) sc_z34.nd rfl (by right)) (@AH _ _ _ (@Bk _ _ _ _ _ _ _ _ PassesOwn.never rfl (UP rfl T.zH (AA (AU (Bi (K:=K)) (vv 3) AC) (AA (Aa (BG (K:=K)) rfl T.zR (by rfl) (AA (vv 1) AB)) AB))) (AN (i:=4) sc_z34.nd rfl (by right)) (@AH _ _ _ (@Ao _ _ _ _ _ _ _ _ (PW.pt (EW (Af (kNe (K:=K) hu) (zw (K:=K) (vv 1) (vv 3)) (zw (K:=K) (vv 1) (vv 4))) (Ef (Af (kEq (K:=K) hu) (zw (K:=K) (vv 2) (vv 3)) (zw (K:=K) (vv 2) (vv 4)))))) (@AH _ _ _ (@AL _ _ _ _ (CG (AA (vv 3) (AA (vv 4) AB))))) Aq)) (by intro _;rfl))) (by intro _;rfl)) (@AH _ _ _ (@AL _ _ _ _ Mr))))),?_⟩;refine⟨_,.ref tl,.inr g.two,rfl,?_⟩;dsimp only[Ak];refine Ad (fun Z H'=>∃(l:Addr) (xs:List V),Z=[some (.ref a),some (.ref tl),some (.ref l),none,none]/\zc H H'/\H' l=some (.lst xs)/\zf K H' (DF rs ls.length) xs) ?_ ?_ (by walk_at "sm")
 ·refine⟨ls.length,.inr ⟨_,g.lab,by rw[Ze]⟩,(ls.length:Int),rfl,by lia,by lia,?_⟩;rw[Z6];refine CM (fun k ys H'=>zc H H'/\zf K H' (DF rs k) ys) ⟨zc.refl _,BF⟩ (fun k ys H' hk ⟨_,R⟩=>by rw[<- R.length,Tn];exact Aj (by lia)) ?_ ?_
  ·rintro k ys H1 hk ⟨s1,R1⟩;have g1:=g.same s1;have e0:(0:Int)+(k:Int)=((k:Nat):Int):=by lia
   rw[e0];refine⟨_,.ref rl,.inr g1.two,rfl,.inr ⟨⟨_,g1.rows⟩,?_⟩⟩
   refine Bz (xs:=ps.map V.ref) (fun j zs H'=>H'=H1/\zs=((rs.take j).map fun r=>gB r k).map V.bl) ⟨rfl,rfl⟩ (fun j zs H' _ ⟨e,_⟩=>by rw[e];exact g1.rows) (fun j zs H' hj ⟨_,e⟩=>by
    rw[Ze,g1.len]at hj;rw[e,Ze,Ze,Z7];exact Aj (by lia)) ?_ ?_
   ·rintro j x zs H' hx ⟨rfl,rfl⟩;obtain⟨b,hb,rfl⟩:=ZY hx;obtain⟨r,er,hs,ha⟩:=T8 g1 G hk hb;refine⟨_,.bl (gB r k),.inr hs,ha,rfl,?_⟩;rw[ZBB,er,Zt,Zt];rfl
   ·rintro zs H' ⟨rfl,rfl⟩ l hl;rw[Ze,g1.len,ZBT];have s2:zc H' (upd H' l (.lst ((rs.map fun r=>gB r k).map V.bl))):=zc.upd hl;refine⟨s1.trans s2,?_⟩;rw[XD];exact zf.append (zf.same s2 _ _ R1) (Aw (by unfold zh;exact⟨l,_,rfl,.of AD,KJ _⟩) BF)
  ·rintro ys H1 ⟨s1,R1⟩ l hl;have s2:zc H1 (upd H1 l (.lst ys)):=zc.upd hl;exact⟨l,ys,rfl,s1.trans s2,AD,zf.same s2 _ _ R1⟩
 rintro Z H1 ⟨l,xs,rfl,s1,gl,R⟩;have g1:=g.same s1;refine Ad (fun Z H'=>H'=H1/\(∃x y,Z=[some (.ref a),some (.ref tl),some (.ref l),x,y])/\Ck ls rs) ?_ ?_ (by walk_at "sm");rotate_left
 ·rintro Z H' ⟨rfl,⟨x,y,rfl⟩,he⟩;exact q1 _ s1 he
 refine⟨ls.length,.inr ⟨_,g1.lab,by rw[Ze]⟩,(ls.length:Int),rfl,by lia,by lia,?_⟩;rw[Z6];refine C7 (fun k Z H'=>H'=H1/\(∃x y,Z=[some (.ref a),some (.ref tl),some (.ref l),x,y])/\∀i' j',i' < k->¬DK ls rs i' j') ⟨rfl,⟨none,none,rfl⟩,fun i' j' h=>absurd h (ZBt _)⟩ ?_ ?_;rotate_left
 ·rintro Z H' ⟨rfl,hσ,h⟩;exact⟨rfl,hσ,fun i j hb=>h i j (by have:=hb.1;have:=hb.2.1;lia) hb⟩
 rintro i Z H' hi ⟨rfl,⟨x,y,rfl⟩,hno⟩;have e0:(0:Int)+(i:Int)=((i:Nat):Int):=by lia
 rw[e0];refine⟨ls.length,.inr ⟨_,g1.lab,by rw[Ze]⟩,((i:Int)+1),(ls.length:Int),rfl,⟨by lia,by lia,by lia,by lia⟩,?_⟩;obtain⟨W,hW⟩:∃W:Nat,((ls.length:Int) - ((i:Int)+1)).toNat=W:=⟨_,rfl⟩;rw[hW];refine C7 (fun k Z H2=>H2=H'/\(∃y,Z=[some (.ref a),some (.ref tl),some (.ref l),some (.int (i:Nat)),y])/\∀j',j' < i+1+k->¬DK ls rs i j') ⟨rfl,⟨y,rfl⟩,fun j' h hb=>by have:=hb.1;lia⟩ ?_ ?_;rotate_left
 ·rintro Z H2 ⟨rfl,⟨y,rfl⟩,h⟩;refine⟨rfl,⟨_,y,rfl⟩,fun i' j' hi' hb=>?_⟩
  rcases ZBL i' i with z | z
  ·exact hno i' j' z hb
  ·have:i'=i:=by lia
   subst this;exact h j' (by have:=hb.2.1;lia) hb
 rintro k Z H2 hk ⟨rfl,⟨y,rfl⟩,hno2⟩;have e1:(i:Int)+1+(k:Int)=((i+1+k:Nat):Int):=by lia
 rw[e1];have hj:i+1+k < ls.length:=by lia
 have next:¬DK ls rs i (i+1+k)->∀j',j' < i+1+(k+1)->¬DK ls rs i j':=fun h j' hj'=>by
  rcases ZBL j' (i+1+k) with z | z
  ·exact hno2 j' z
  ·have:j'=i+1+k:=by lia
   rw[this];exact h
 refine⟨_,.int (AE ls i),.inr g1.lab,Fs hi,_,.int (AE ls (i+1+k)),.inr g1.lab,Fs hj,?_⟩;refine Ab (fun e=>?_) (fun e=>?_)
 ·have ne:AE ls i≠AE ls (i+1+k):=by simpa using e
  obtain⟨x1,hx1,r1⟩:=R.get (OT rs hi);obtain⟨x2,hx2,r2⟩:=R.get (OT rs hj);refine⟨_,x1,.inl (.of gl),Ae rfl hx1,_,x2,.inl (.of gl),Ae rfl hx2,?_⟩;have r1':=r1;have r2':=r2;unfold zh at r1' r2';obtain⟨b1,_,rfl,_⟩:=r1';obtain⟨b2,_,rfl,_⟩:=r2';refine⟨_,_,r1,r2,by unfold BL;rw[NI];lia,?_⟩;rw[Pr,ZBn];refine Ab (fun e2=>?_) (fun e2=>?_)
  ·have hb:DK ls rs i (i+1+k):=⟨by lia,hj,ne,Zn e2⟩;refine⟨smq rfl,fun t ht=>?_⟩;refine q2 i (i+1+k) t _ ⟨hb,fun i' j' hb'=>?_⟩ (s1.free ht) (s1.trans (zc.upd ht)) AD
   rcases ZCE i' i with z | z | z
   ·exact absurd hb' (hno i' j' z)
   ·subst z;exact .inr ⟨rfl,Nat.le_of_not_lt fun w=>hno2 j' w hb'⟩
   ·exact .inl z
  ·exact⟨rfl,⟨_,rfl⟩,next fun hb=>e2 (Zl hb.2.2.2)⟩
 ·have eq:AE ls i=AE ls (i+1+k):=by simpa using e
  exact⟨rfl,⟨_,rfl⟩,next fun hb=>hb.2.2.1 eq⟩
noncomputable def FrX(X:List Addr)(H H':Hp):Prop:=∀b o,b∉X->H b=some o->H' b=some o
theorem FrX.trans{H1 H2:Hp}(a:FrX X H H1)(b:FrX X H1 H2):FrX X H H2:=fun c o n e=>b c o n (a c o n e)
theorem FrX.same(s:zc H H'):FrX X H H':=fun b o _ e=>s b o e
theorem FrX.frm(f:zp d H H')(h:d∈X):FrX X H H':=fun b o n e=>f b o (fun z=>n (z ▸ h)) e
theorem FrX.grow(f:zx d H H')(h:d∈X):FrX X H H':=fun b o n e=>f b o (fun z=>n (z ▸ h)) e
noncomputable def Oth(X:List Addr)(H:Hp):Prop:=∀x∈X,∃o,H x=some o/\CC o/\∀xs,o≠.lst xs
theorem FrX.sqT(f:FrX X H H')(O:Oth X H)(e:zt K H b xs):zt K H' b xs:=by
 rcases e with (e | ⟨ob,e⟩) | e
 ·exact .inl (.inl (f _ _ (fun z=>by obtain⟨o,h1,h2,_⟩:=O b z;rw[e]at h1;exact h2.1 xs (Zv h1).symm) e))
 ·exact .inl (.inr ⟨ob,f _ _ (fun z=>by obtain⟨o,h1,h2,_⟩:=O b z;rw[e]at h1;exact h2.2 _ _ (Zv h1).symm) e⟩)
 ·exact .inr e
mutual
theorem zh.mv(s:∀a xs,zt K H a xs->zt K H' a xs):∀(d:Dv) (v:V),BS d=true->zh K H d v->zh K H' d v
 | .non,v,_,h=>by unfold zh at *;exact h
 | .bl b,v,_,h=>by unfold zh at *;exact h
 | .int i,v,_,h=>by unfold zh at *;exact h
 | .str x,v,_,h=>by unfold zh at *;exact h
 | .tup ds,v,hd,h=>by
  unfold BS at hd;unfold zh at *;obtain⟨a,xs,e,h1,h2⟩:=h;exact⟨a,xs,e,s _ _ h1,zf.mv s ds xs hd h2⟩
 | .lst ds,v,hd,h=>by unfold BS at hd;cases hd
theorem zf.mv(s:∀a xs,zt K H a xs->zt K H' a xs):∀(ds:List Dv) (xs:List V),A8 ds=true->zf K H ds xs->zf K H' ds xs
 | [],xs,_,h=>by unfold zf at *;exact h
 | d::ds,xs,hd,h=>by
  unfold A8 at hd;rw[Zp]at hd;unfold zf at *;obtain⟨x,r,e,h1,h2⟩:=h;exact⟨x,r,e,zh.mv s d x hd.1 h1,zf.mv s ds r hd.2 h2⟩
end
theorem FrX.rep(f:FrX X H H')(O:Oth X H){d:Dv}(hd:BS d=true)(h:zh K H d v):zh K H' d v:=zh.mv (fun _ _ e=>f.sqT O e) d v hd h
theorem U7(r:RkAt K C ls ys H p d):∃o,H d=some o/\CC o/\∀xs,o≠.lst xs:=by
 obtain⟨dx,tl,yl,al,as,zd,h1,h2,h3,h4,h5,h6,h7,h8⟩:=r.at_;exact⟨_,h5,Gk,fun _ z=>nomatch z⟩
theorem U9{pos:Pos}(l:zA Pt pos q H):∃o,H Pt=some o/\CC o/\∀xs,o≠.lst xs:=by
 obtain⟨ps,a,_⟩:=l;exact⟨_,a,⟨(fun _ z=>nomatch z),(fun _ _ z=>nomatch z)⟩,fun _ z=>nomatch z⟩
theorem Rg(h1:∃o,H a=some o/\CC o/\∀xs,o≠.lst xs)(h2:∃o,H b=some o/\CC o/\∀xs,o≠.lst xs):Oth [a,b] H:=fun x hx=>by
 rcases Zh.mp hx with rfl | hx
 ·exact h1
 ·rw[Zq.mp hx];exact h2
theorem Wk{pos:Pos}(l:zA Pt pos q H)(f:∀b o,(∀ps,o≠.tbl ps)\/b=Pt->(∀xs,o≠.lst xs)->(∀xs,o≠.dK xs)->(∀c x fs,o≠.ins c x fs)->H b=some o->H' b=some o):zA Pt pos q H':=by
 obtain⟨ps,a,b,c⟩:=l;refine⟨ps,f _ _ (.inr rfl) (fun _ z=>nomatch z) (fun _ z=>nomatch z) (fun _ _ _ z=>nomatch z) a,b,?_⟩
 rcases c with c | ⟨c',c,d⟩
 ·exact .inl c
 ·exact .inr ⟨c',c,f _ _ (.inl fun _ z=>nomatch z) (fun _ z=>nomatch z) (fun _ z=>nomatch z) (fun _ _ _ z=>nomatch z) d⟩
theorem Kr{pos:Pos}(l:zA Pt pos q H)(f:zp t H H')(ht:H t=some o)(h1:(∃xs,o=.lst xs)\/(∃xs,o=.dK xs)\/∃c x fs,o=.ins c x fs):zA Pt pos q H':=by
 refine Wk l fun b o' _ n1 n2 n3 e=>f b o' (fun z=>?_) e
 rw[z,ht]at e;cases e
 rcases h1 with ⟨xs,rfl⟩ | ⟨xs,rfl⟩ | ⟨c,x,fs,rfl⟩
 ·exact n1 _ rfl
 ·exact n2 _ rfl
 ·exact n3 _ _ _ rfl
theorem XC{ps:Array Value}(r:RkAt K C ls ys H p d)(g:zx Pt H H')(hz:H Pt=some (.tbl ps)):RkAt K C ls ys H' p d:=by
 obtain⟨dx,tl,yl,al,as,zd,h1,h2,h3,h4,h5,h6,h7,h8⟩:=r.at_;have st:∀{b o},H b=some o->(∀ps,o≠.tbl ps)->H' b=some o:=fun {b o} e n=>g b o (fun z=>by rw[z,hz]at e;cases e;exact n _ rfl) e
 exact⟨⟨dx,tl,yl,al,as,zd,st h1 (fun _ z=>nomatch z),GC g hz h2,st h3 (fun _ z=>nomatch z),st h4 (fun _ z=>nomatch z),st h5 (fun _ z=>nomatch z),h6,h7,h8⟩,r.l16,r.y16⟩
noncomputable def En:Sp:=fun vs H Q _=>match vs with
 | [.int x,.int y]=>∃p i:Nat,x=p/\y=i/\i<=64/\Q (.bl (p / 2 ^ i % 2 == 1)) H
 | _=>False
theorem QD:AK En:=fun vs H Q Q' E h q=>by
 unfold En at *;walk_at "q"
theorem OL:Ok_ P w base T.z71 3 En:=by
 refine T.z71.F.ok Se (fun vs H Q E h=>by unfold En at h;walk_at "e") ?_;walk_at "f";unfold En at h;walk_at "g"
 rename_i x y;obtain⟨p,i,e1,e2,hi,q⟩:=h;subst e1 e2;refine⟨_,(@AH _ _ _ (@AL _ _ _ _ (BD (kEq (K:=K) hu) (AU CW (AU Fv (vv 0) (AM (@Hz P w K mg base T) (hr.mono (show 2<=_ by decide)) rfl T.z68.m T.z68.F.kp T.z68.b .nil AG (AA (vv 1) AB))) AC) AC))),?_⟩;refine⟨i,rfl,hi,?_⟩;have hp:0 < 2 ^ i:=ZBd i;have hle:(2:Nat) ^ i<=2 ^ 64:=Z3 (by decide) (by lia);refine⟨Cd (by lia) (Int.le_trans (ZCO.mpr hle) (by decide)),by decide,?_⟩;show Q (.bl (false ^^ (((p:Int) / ((2 ^ i:Nat):Int) % 2) == 1))) H
 have e:(false ^^ (((p:Int) / ((2 ^ i:Nat):Int) % 2) == 1))=(p / 2 ^ i % 2 == 1):=by
  rw[ZBn,<- Int.natCast_ediv,ZBi];simp only[beq_iff_eq];lia
 rw[e];exact q
noncomputable def BI(S:Nat):List Nat:=(List.range S).filter S.testBit
theorem mem_memS:k∈BI S ↔ S.testBit k=true:=by
 unfold BI;rw[ZBM,Z1];refine⟨fun h=>h.2,fun h=>⟨?_,h⟩⟩;have h1:=Nat.ge_two_pow_of_testBit h;exact Z0 Nat.lt_two_pow_self h1
theorem Hx(S:Nat):∀(j n:Nat),S < 2 ^ n->(List.range (n+j)).filter S.testBit=(List.range n).filter S.testBit
 | 0,n,_=>rfl
 | j+1,n,h=>by
  rw[<- Nat.add_assoc,ZBq,ZCP,Hx S j n h]
  have:S.testBit (n+j)=false:=ZCb (Z0 h (Z3 (by decide) (by lia)))
  simp[this]
theorem RL(h:S < 2 ^ n):(List.range n).filter S.testBit=BI S:=by
 unfold BI
 rcases Nat.le_total n S with z | z
 ·have:=Hx S (S - n) n h
  rw[show n+(S - n)=S by lia]at this;exact this.symm
 ·have:=Hx S (n - S) S Nat.lt_two_pow_self
  rw[show S+(n - S)=n by lia]at this;exact this
theorem X2(S:Nat):(BI S).Pairwise (· < ·):=List.Pairwise.filter _ ZCN
theorem ZO(S:Nat):S < 2 ^ Builtin.Int.intBits (S:Int):=by
 unfold Builtin.Int.intBits
 by_cases e:S=0
 ·subst e;decide
 ·rw[if_neg (by simpa using e),ZCm];exact Nat.lt_log2_self
theorem UA(h:S < 2 ^ n):Builtin.Int.intBits (S:Int)<=n:=by
 unfold Builtin.Int.intBits
 by_cases e:S=0
 ·subst e;simp
 ·rw[if_neg (by simpa using e),ZCm];exact(Nat.log2_lt e).mpr h
noncomputable def EJ(K:W.Frag):Sp:=fun vs H Q _=>match vs with
 | [.int z]=>∃S:Nat,z=S/\S < 2 ^ 60/\∀p H',H p=none->zc H H'->H' p=some (.tup (iL (BI S)))->Q (.ref p) H'
 | _=>False
theorem Rt:AK (EJ K):=fun vs H Q Q' E h q=>by
 unfold EJ at *;walk_at "q"
theorem M7:Ok_ P w base T.z44 4 (EJ K):=by
 refine T.z44.F.ok XV (fun vs H Q E h=>by unfold EJ at h;walk_at "e") ?_;walk_at "f";unfold EJ at h;walk_at "g"
 rename_i z;obtain⟨S,e1,hS,q⟩:=h;subst e1;have hb:=UA hS;have hb2:=ZO S;refine⟨_,(@AH _ _ _ (@AL _ _ _ _ (BU (CY (K:=K)) rfl T.zM (by rfl) (AA (Az (N':=["member","subset"]) (own:=1) (ix:=[0]) rfl (BP rfl T.zH (AA (Pe (K:=K) (vv 0)) AB)) (by kernel_rfl) rfl rfl (by kernel_rfl) (fun c=>AN (i:=0) (show(["member","subset"]:List Str).Nodup by decide +kernel) rfl (by right)) (AX (by decide)) (fun c=>DD (A9 (AM (@OL P w K mg base T) (hr.mono (show 3<=_ by decide)) rfl T.z71.m T.z71.F.kp T.z71.b .nil AG (AA (vv 1) (AA (vv 0) AB))))) (fun c=>(vv 0))) AB)))),?_⟩;refine⟨rfl,((Builtin.Int.intBits (S:Int):Nat):Int),rfl,by lia,by lia,?_⟩;rw[Z6];generalize Builtin.Int.intBits (S:Int)=n at *
 refine CM (fun k zs H'=>H'=H/\zs=iL ((List.range k).filter S.testBit)) ⟨rfl,rfl⟩ (fun k zs H' hk ⟨_,e⟩=>by
  have:=ZCQ S.testBit (List.range k)
  rw[ZBk]at this;rw[e,Ag];exact Aj (by lia)) ?_ ?_
 ·rintro k zs H' hk ⟨rfl,rfl⟩;have e0:(0:Int)+(k:Int)=((k:Nat):Int):=by lia
  rw[e0];refine⟨S,k,rfl,rfl,by lia,?_⟩;have eb:(S / 2 ^ k % 2 == 1)=S.testBit k:=by rw[ZCn];rfl
  rw[eb,ZBq,ZCP];cases e:S.testBit k with
  | true=>exact⟨rfl,by simp[e,Bj];rfl⟩
  | false=>exact⟨rfl,by simp[e]⟩
 ·rintro zs H' ⟨rfl,rfl⟩ l hl;rw[RL hb2];have s1:zc H' (upd H' l (.lst (iL (BI S)))):=zc.upd hl;refine⟨_,.inl ⟨.of AD,fun t ht=>?_⟩⟩;exact q t _ (s1.free ht) (s1.trans (zc.upd ht)) AD
noncomputable def IA(K:W.Frag)(C:Addr):Sp:=fun vs H Q _=>match vs with
 | [.ref p]=>∃ls ys d,RkAt K C ls ys H p d/\Q (.int ((2 ^ ls.length - 1:Nat):Int)) H
 | _=>False
theorem WS:Om_ P w mg base T.z23 3 (IA K T.zC):=by
 refine T.z23.F.ok UU (fun vs H Q E h=>by unfold IA at h;walk_at "e") ?_;walk_at "f";unfold IA at h;walk_at "g"
 rename_i p;obtain⟨ls,ys,d,R,q⟩:=h;have l16:=R.l16;obtain⟨dx,tl,yl,al,as,zd,h1,h2,h3,h4,h5,h6,h7,h8⟩:=id R.at_;refine⟨_,(@AH _ _ _ (@AL _ _ _ _ (AU C4 (AM (@Hz P w K mg base T) (hr.mono (show 2<=_ by decide)) rfl T.z68.m T.z68.F.kp T.z68.b .nil AG (AA (Aa (BG (K:=K)) rfl T.zR (by rfl) (AA (BN T.zE T.zI (vv 0)) AB)) AB)) AC))),?_⟩;refine⟨dx,_,_,h1,lk1 _ _ _ _,ls.length,.inr ⟨_,h2,by rw[Ze]⟩,ls.length,rfl,by lia,?_⟩
 have e:(((2 ^ ls.length:Nat):Int) - 1)=((2 ^ ls.length - 1:Nat):Int):=by
  have:=ZBd ls.length
  lia
 show Q (.int (((2 ^ ls.length:Nat):Int) - 1)) H;rw[e];exact q
noncomputable def JS(K:W.Frag)(C:Addr):Sp:=fun vs H Q _=>match vs with
 | [.ref p,.int z]=>∃ls ys d S,RkAt K C ls ys H p d/\z=(S:Nat)/\S < 2 ^ ls.length/\S≠0/\∀k H',S.testBit k=true->zc H H'->Q (.int (AE ls k)) H'
 | _=>False
theorem Yg(h:S≠0):∃k,S.testBit k=true/\atI (iL (BI S)) 0=some (.int (k:Nat)):=by
 obtain⟨i,hi⟩:=Nat.exists_testBit_of_ne_zero h;have hm:=mem_memS.mpr hi;cases e:BI S with
 | nil=>rw[e]at hm;cases hm
 | cons k r=>exact⟨k,mem_memS.mp (by rw[e];exact ZBD ..),Ae (n:=0) rfl rfl⟩
theorem Xr:Om_ P w mg base T.z26 5 (JS K T.zC):=by
 refine T.z26.F.ok Vv (fun vs H Q E h=>by unfold JS at h;walk_at "e") ?_;walk_at "f";unfold JS at h;walk_at "g"
 rename_i p z;obtain⟨ls,ys,d,S,R,e1,hS,h0,q⟩:=h;subst e1;have l16:=R.l16;obtain⟨dx,tl,yl,al,as,zd,h1,h2,h3,h4,h5,h6,h7,h8⟩:=id R.at_;have hle:2 ^ ls.length<=2 ^ 60:=Z3 (by decide) (by lia);obtain⟨k,hk,ha⟩:=Yg h0;refine⟨_,(@AH _ _ _ (@AL _ _ _ _ (zw (K:=K) (BN T.zE T.zI (vv 0)) (zw (K:=K) (AM (@M7 P w K mg base T) (hr.mono (show 4<=_ by decide)) rfl T.z44.m T.z44.F.kp T.z44.b .nil AG (AA (vv 1) AB)) AC)))),?_⟩;exact⟨dx,_,_,h1,lk1 _ _ _ _,S,rfl,by lia,fun t H1 ht s1 g1=>⟨_,_,.inr (.of g1),ha,_,_,.inr (s1.sqT h2),Fs (C9 hS hk),q k H1 hk s1⟩⟩
theorem RM:Ok_ P w base T.z66 4 (EZ K):=by
 refine T.z66.F.ok sc_z66 (fun vs H Q E h=>by unfold EZ at h;walk_at "e") ?_;walk_at "f";have mo1:AK En:=QD;have mo2:AK (EA K):=X6;unfold EZ at h;walk_at "g"
 rename_i p;obtain⟨bs,m,hp,hb,m1,m4,q⟩:=h;have h16:2 ^ m<=16:=Z3 (n:=2) (by decide) m4;have hbl:(bs.map V.bl).length=2 ^ m:=by rw[Ze];exact hb
 refine⟨_,(@AF _ _ _ _ _ (@Cv _ _ _ _ _ _ _ ["answer"] 1 [] _ _ _ _ 1 _ _ _ rfl sc_z66.nd rfl rfl (BH (K:=K) (vv 0)) (by kernel_rfl) rfl rfl (by kernel_rfl) (fun c=>AN (i:=0) (show(["answer"]:List Str).Nodup by decide +kernel) rfl (by right)) (AX (by decide)) (fun c=>Av) (fun c=>(C3 (A9 (vv 0)) AC AC)) (by rfl) (by intro _;rfl)) (@AF _ _ _ _ _ (@Cv _ _ _ _ _ _ _ (["switch","table"]) 1 [0] _ _ _ _ 2 _ _ _ rfl sc_z66.nd rfl rfl (BP rfl T.zH (AA (AM (@Oq P w K mg base T) (hr.mono (show 1<=_ by decide)) rfl T.z41.m T.z41.F.kp T.z41.b .nil AG (AA (vv 0) AB)) AB)) (by kernel_rfl) rfl rfl (by kernel_rfl) (fun c=>AN (i:=0) (show(["switch","table"]:List Str).Nodup by decide +kernel) rfl (by right)) (AX (by decide)) (fun c=>Av) (fun c=>(BU (CY (K:=K)) rfl T.zM (by rfl) (AA (Az (N':=["place","switch"]) (own:=1) (ix:=[0]) rfl (BP rfl T.zH (AA (Aa (BG (K:=K)) rfl T.zR (by rfl) (AA (vv 1) AB)) AB)) (by kernel_rfl) rfl rfl (by kernel_rfl) (fun c=>AN (i:=0) (show(["place","switch"]:List Str).Nodup by decide +kernel) rfl (by right)) (AX (by decide)) (fun c=>Av) (fun c=>(AM (@OL P w K mg base T) (hr.mono (show 3<=_ by decide)) rfl T.z71.m T.z71.F.kp T.z71.b .nil AG (AA (vv 0) (AA (vv 1) AB))))) AB))) (by rfl) (by intro _;rfl)) (@AH _ _ _ (@AL _ _ _ _ (CG (AA (BU (CY (K:=K)) rfl T.zM (by rfl) (AA (vv 1) AB)) (AA (BU (CY (K:=K)) rfl T.zM (by rfl) (AA (vv 2) AB)) AB))))))),?_⟩;refine Ad (fun Z H'=>∃l:Addr,Z=[some (.ref p),some (.ref l),none]/\zc H H'/\H' l=some (.lst (C8 bs))) ?_ ?_ (by walk_at "sm")
 ·refine .inr ⟨⟨_,hp⟩,?_⟩
  refine Bz (xs:=bs.map V.bl) (fun i ys H'=>H'=H/\ys=C8 (bs.take i)) ⟨rfl,rfl⟩ (fun i ys H' _ ⟨e,_⟩=>by rw[e];exact hp) (fun i ys H' hi ⟨_,e⟩=>by
   rw[e,RB,Z7];exact Aj (by lia)) ?_ ?_
  ·rintro i x ys H' hx ⟨rfl,rfl⟩
   have hi:i < bs.length:=by
    have:=(Z4.mp hx).1
    rwa [Ze]at this
   rw[Zm,Zg hi]at hx;cases hx;rw[ZBB,Zg hi,Yv];generalize bs[i]=b;cases b with
   | true=>exact⟨rfl,rfl⟩
   | false=>exact⟨rfl,rfl⟩
  ·rintro ys H' ⟨rfl,rfl⟩ k hk;rw[ZBo (by rw[Ze];exact Zf _)];exact⟨k,rfl,zc.upd hk,AD⟩
 rintro Z H1 ⟨l,rfl,S1,g1⟩;refine Ad (fun Z H'=>∃(l2:Addr) (rs:List V),Z=[some (.ref p),some (.ref l),some (.ref l2)]/\zc H1 H'/\H' l2=some (.lst rs)/\zf K H' (DG m m) rs) ?_ ?_ (by walk_at "sm")
 ·refine⟨m,_,S1.sqT hp,hbl,by lia,(m:Int),rfl,by lia,by lia,?_⟩
  refine CM (fun i ys H'=>zc H1 H'/\zf K H' (DG m i) ys) ⟨zc.refl _,BF⟩ (fun i ys H' hi ⟨_,r⟩=>by
   have:=r.length
   rw[Qp]at this;exact Aj (by lia)) ?_ ?_
  ·rintro i ys H' hi ⟨s2,R2⟩;have hi':i < m:=by lia
   refine⟨2 ^ m,.inr ⟨_,(S1.trans s2).sqT hp,hbl.symm⟩,((2 ^ m:Nat):Int),rfl,by lia,by lia,?_⟩
   refine CM (fun k zs H3=>H3=H'/\zs=((List.range k).map (fun q=>q / 2 ^ i % 2 == 1)).map V.bl) ⟨rfl,rfl⟩ (fun k zs H3 hk ⟨_,e⟩=>by
    rw[e,Ze,Ze,ZBk];exact Aj (by lia)) ?_ ?_
   ·rintro k zs H3 hk ⟨rfl,rfl⟩;rw[show(0:Int)+(k:Int)=(k:Int) from ZBw _,show(0:Int)+(i:Int)=(i:Int) from ZBw _];refine⟨k,i,rfl,rfl,by lia,rfl,?_⟩;rw[VG]
   ·rintro zs H3 ⟨rfl,rfl⟩ k hk;rw[Z6];refine⟨_,.inl ⟨.of AD,fun p3 hp3=>?_⟩⟩;have erow:((List.range (2 ^ m)).map (fun q=>q / 2 ^ i % 2 == 1)).map V.bl=(BY m i).map V.bl:=rfl;rw[erow];have s3:=(zc.upd (o:=.lst ((BY m i).map V.bl)) hk).trans (zc.upd (o:=.tup ((BY m i).map V.bl)) hp3);refine⟨s2.trans s3,?_⟩;rw[XH];exact zf.append (zf.same s3 _ _ R2) (Aw (Dp AD (KJ _)) BF)
  ·rintro ys H' ⟨s2,R2⟩ k hk;have e:(m:Int).toNat=m:=by lia
   rw[e]at R2;exact⟨k,_,rfl,s2.trans (zc.upd hk),AD,zf.same (zc.upd hk) _ _ R2⟩
 rintro Z H2 ⟨l2,rs,rfl,S2,g2,R2⟩;refine⟨_,.inl ⟨.of (S2 _ _ g1),fun p3 hp3=>?_⟩⟩;refine⟨_,.inl ⟨.of (zc.upd hp3 _ _ g2),fun p4 hp4=>?_⟩⟩;refine⟨smq rfl,fun p5 hp5=>?_⟩;have s5:=(zc.upd (o:=.tup rs) hp4).trans (zc.upd (o:=.tup [.ref p3,.ref p4]) hp5);refine q _ _ (S1.trans (S2.trans ((zc.upd hp3).trans s5))) ?_;refine Dp AD (Aw (Dp (s5 _ _ AD) (MX bs)) (Aw (Dp (zc.upd hp5 _ _ AD) ?_) BF));exact zf.same ((zc.upd hp3).trans s5) _ _ R2
noncomputable def AZ(ls:List Int)(ys:List Nat)(S:Nat):Nat:=by classical exact if h:∃m,Al (AE ls) (AV ys) S.testBit m then h.choose else 0
theorem DV(h:Al (AE ls) (AV ys) S.testBit m):AZ ls ys S=m:=by
 have z:∃m,Al (AE ls) (AV ys) S.testBit m:=⟨m,h⟩;unfold AZ;rw[dif_pos z];exact GI z.choose_spec h
theorem CK(h:Can (AE ls) (AV ys) n S.testBit):Al (AE ls) (AV ys) S.testBit (AZ ls ys S):=by
 obtain⟨m,hm⟩:=LJ h;rw[DV hm];exact hm
noncomputable def wst(ls:List Int)(ys:List Nat)(S j:Nat):Nat:=max (AZ ls ys (S &&& ys.getD j 0)) (AZ ls ys (S - (S &&& ys.getD j 0)))
structure FirstQ(ls:List Int)(ys:List Nat)(S j:Nat):Prop where
 mem:j∈BA S ys ys.length
 le:∀i∈BA S ys ys.length,wst ls ys S j<=wst ls ys S i
 lt:∀i∈BA S ys ys.length,i < j->wst ls ys S j < wst ls ys S i
theorem Fp(y:Nat)(h:Can (AE ls) (AV ys) n S.testBit):Can (AE ls) (AV ys) n (S &&& y).testBit/\Can (AE ls) (AV ys) n (S - (S &&& y)).testBit:=by
 rw[DT,Ch];exact⟨Bl (fun k z=>by simp only[Zp]at z;exact z.1) h,Bl (fun k z=>by simp only[Zp]at z;exact z.1) h⟩
theorem VJ(ho:¬One (AE ls) S.testBit)(hc:Can (AE ls) (AV ys) n S.testBit)(h:FirstQ ls ys S j):Al (AE ls) (AV ys) S.testBit (1+wst ls ys S j):=by
 refine N9 ho ?_ ?_
 ·obtain⟨y1,y2⟩:=Ej h.mem;obtain⟨c1,c2⟩:=Fp (ys.getD j 0) hc;have c1:=CK c1;have c2:=CK c2;unfold wst;generalize AZ ls ys (S &&& ys.getD j 0)=b at *;generalize AZ ls ys (S - (S &&& ys.getD j 0))=e at *;rw[DT]at c1;rw[Ch]at c2;exact⟨_,Zk.mpr ⟨_,ZBQ y1,rfl⟩,y2,_,_,c1,c2,rfl⟩
 ·intro f hf hp;obtain⟨y,hy,rfl⟩:=Zk.mp hf;obtain⟨i,hi,ei⟩:=ZBG hy;have eg:ys.getD i 0=y:=by rw[Zw,Zg hi,ei];rfl
  have him:i∈BA S ys ys.length:=ZBM.mpr ⟨Z1.mpr hi,(HU _ _).mpr (by rw[eg];exact hp)⟩;have hle:=h.le i him;obtain⟨c1,c2⟩:=Fp (ys.getD i 0) hc;have c1:=CK c1;have c2:=CK c2;have hw:wst ls ys S i=max (AZ ls ys (S &&& ys.getD i 0)) (AZ ls ys (S - (S &&& ys.getD i 0))):=rfl;generalize AZ ls ys (S &&& ys.getD i 0)=b at *;generalize AZ ls ys (S - (S &&& ys.getD i 0))=e at *;rw[DT,eg]at c1;rw[Ch,eg]at c2;exact⟨b,e,c1,c2,by lia⟩
theorem Re(ho:¬One (AE ls) S.testBit)(hc:Can (AE ls) (AV ys) n S.testBit)(h:FirstQ ls ys S j):AZ ls ys S=1+wst ls ys S j:=DV (VJ ho hc h)
theorem Rw:Om_ P w mg base T.z21 74 (EG K T.zC 17):=M1 T 17 (HY T 17)
noncomputable def VQ(b:List Stmt):Expr:=match b with
 | [.Return (some (.Call _ _ (k::_) _)) _]=>k.value
 | _=>.Name "" ⟨0,0,0,0⟩
noncomputable def Gi(e:Expr):Arguments:=match e with
 | .Lambda p _ _ _=>p
 | _=>{ posonlyargs:=[],args:=[],vararg:=none,kwonlyargs:=[],kw_defaults:=[],kwarg:=none,defaults:=[] }
noncomputable def GG(e:Expr):Expr:=match e with
 | .Lambda _ b _ _=>b
 | e=>e
noncomputable def Ee(e:Expr):Scope:=match e with
 | .Lambda _ _ s _=>s
 | _=>{ kind:=.function,names:=[],isGenerator:=false,isCoroutine:=false }
noncomputable def Bp:Expr:=VQ (Bc Cf)
noncomputable def Il(K:W.Frag)(C:Addr)(vA vB v:V)(H:Hp)(Q:VK):Prop:=EG K C 17 [vB,vA,v] H Q E0
theorem Qg (T:Txt K mg) {zu ca cb c':Addr} {pm ctv uA uB:Value} {vA vB:V} (hl:base.get? zu=some (W.kla_obj "<lambda>" B8 (Gi Bp) (GG Bp) (Ee Bp) [("things",ca),("self",cb)] pm c' ctv)) (hcab:ca≠cb)
 (hca:base.IsCell ca (some uA)) (rA:zi vA uA) (hcb:base.IsCell cb (some uB)) (rB:zi vB uB) :
 FnOk P w K mg base CX0 75 zu (W.kla_fn "<lambda>" B8 (Gi Bp) (GG Bp) (Ee Bp) [("things",ca),("self",cb)] pm (.ref c') ctv) ["question"] (B9 c' B8 (Il K T.zC vA vB)):=by
 refine U3 (k:=74) hl hca rA hcb rB (by decide) hcab rfl rfl rfl ?_ rfl rfl rfl ?_ fun A outer s H v Q hr h=>?_
 ·intro y hy;have h:=ZBW.mp (show(Ee Bp).names.all (fun p=>p.2 != .free || p.1 == "things" || p.1 == "self")=true by decide +kernel) _ (PySem.mem_of_lookup hy);simpa [or_assoc] using h
 ·decide +kernel
 have hr_z21:=hr;unfold Il EG at h;walk_at "g"
 rename_i p z i ee;cases ee;obtain⟨ls,ys,d,S,j,y,R,e1,hS,hc,e2,hj,hp,hk,q⟩:=h;subst e1 e2;obtain⟨dx,tl,yl,al,as,zd,h1,_⟩:=id R.at_;refine⟨_,(Ay (vv 2) T.zE T.z21.m (@Rw P w K mg base T) hr_z21 T.z21.b .nil AG (AA (vv 1) (AA (vv 0) AB))),?_⟩;exact⟨p,dx,_,rfl,h1,ln4 _ _ _ _,ls,ys,d,S,j,y,R,rfl,hS,hc,rfl,hj,hp,hk,q⟩
noncomputable def KS(K:W.Frag)(C Pt:Addr):Sp:=fun vs H Q _=>match vs with
 | [.ref p,.int z]=>∃ls ys d S,RkAt K C ls ys H p d/\z=(S:Nat)/\S < 2 ^ ls.length/\(∃n,Can (AE ls) (AV ys) n S.testBit)/\¬One (AE ls) S.testBit/\zA Pt F9 B8 H /\
  ∀(j:Nat) H',FirstQ ls ys S j->RkAt K C ls ys H' p d->FrX [d,Pt] H H'->zA Pt F9 B8 H'->Q (.int (j:Nat)) H'
 | _=>False
theorem Tk(B:BMn mg base):Om_ P w mg base T.z17 77 (KS K T.zC T.zY):=by
 refine T.z17.F.okC T.Z0c Rl (fun vs H Q E h=>by unfold KS at h;walk_at "e") (fun A outer s H vs Q E hr h=>?_);have hu:=AT hr;have hrL:=hr;unfold KS at h;walk_at "g"
 rename_i p z;obtain⟨ls,ys,d,S,R,e1,hS,⟨n,hc⟩,ho,hL,q⟩:=h;subst e1;obtain⟨dx,tl,yl,al,as,zd,h1,_⟩:=id R.at_;have l16:=R.l16;let spB:V->V->V->Hp->VK->Prop:=Il K T.zC
 have hFL:∀(base':Heap) (zu ca cb c':Addr) (pm ctv uA uB:Value) (vA vB:V),(∀b o,base.get? b=some o->base'.get? b=some o)->base'.get? zu=some (W.kla_obj "<lambda>" B8 (Gi Bp) (GG Bp) (Ee Bp) [("things",ca),("self",cb)] pm c' ctv)->ca≠cb->base'.IsCell ca (some uA)->zi vA uA->base'.IsCell cb (some uB)->zi vB uB ->
  FnOk P w K mg base' CX0 75 zu (W.kla_fn "<lambda>" B8 (Gi Bp) (GG Bp) (Ee Bp) [("things",ca),("self",cb)] pm (.ref c') ctv) ["question"] (B9 c' B8 (spB vA vB)) :=
  fun base' zu ca cb c' pm ctv uA uB vA vB _ hl hab hca rA hcb rB=>Qg (base:=base') T hl hab hca rA hcb rB
 have hclL:∀ca cb,(PyProof.Rows.envOfC "Reckoner.first_question" (AJ Cf) s.heap.objs.size T.z17.f (.ref T.yk)).cells.lookup (PySem.Str.ofString "things")=some ca->(PyProof.Rows.envOfC "Reckoner.first_question" (AJ Cf) s.heap.objs.size T.z17.f (.ref T.yk)).cells.lookup (PySem.Str.ofString "self")=some cb ->
  closureFor (Ee Bp) (PyProof.Rows.envOfC "Reckoner.first_question" (AJ Cf) s.heap.objs.size T.z17.f (.ref T.yk))=pure [((PySem.Str.ofString "things" : Str),ca),((PySem.Str.ofString "self" : Str),cb)]:=fun ca cb h1 h2=>by
  have e1:some (s.heap.objs.size+2)=some ca:=h1;have e2:some (s.heap.objs.size+1)=some cb:=h2;cases e1;cases e2;rfl
 refine⟨_,(@AH _ _ _ (@AL _ _ _ _ (ZU (c:=T.yk) (Pt:=T.zY) (qual:=B8) (i:=1) (j:=0) (a:="things") (b:="self") (spB:=spB) (Ay (vv 0) T.zE T.z28.m (@NH P w K mg base T) (hr.mono (show 1<=_ by decide)) T.z28.b .nil AG (AA (vv 1) AB)) T.yh hrL rfl rfl T.Z0e B rfl rfl rfl rfl hclL rfl rfl rfl rfl (by decide) (fun _ _ _ _ _ _=>rfl) hFL))),?_⟩;refine⟨p,dx,_,rfl,h1,ln5 _ _ _ _,ls,ys,d,S,R,rfl,fun l H1 nl s1 g1=>?_⟩;have L1:=hL.same s1;have R1:=R.same s1;refine⟨l,_,_,_,rfl,by rw[Ag];exact MK ho hc,rfl,rfl,L1,fun c' H2 gr2 L2' hc2=>?_⟩;obtain⟨pz,hP,_⟩:=id L1;have R2:=XC R1 gr2 hP;have g2:H2 l=_:=gr2 _ _ (fun z=>by rw[z,hP]at g1;cases g1) g1;obtain⟨dx2,tl2,yl2,al2,as2,kvs2,k1,_,_,_,k5,_⟩:=id R2.at_;have hld:l≠d:=BK g2 k5 (by intro z;cases z);have hcd:c'≠d:=BK hc2 k5 (by intro z;cases z);refine⟨fun _ H3=>RkAt K T.zC ls ys H3 p d/\zp d H2 H3,fun n=>(wst ls ys S ((BA S ys ys.length).getD n 0):Nat),⟨R2,zp.refl⟩,fun n H3 ⟨_,f3⟩=>⟨.of (f3 _ _ hld g2),f3 _ _ hcd hc2⟩,?_,?_⟩
 ·rintro m v H3 hv ⟨R3,f3⟩;obtain⟨i,hi,him,rfl⟩:=CD hv;obtain⟨y1,y2⟩:=Ej him;have eg:(BA S ys ys.length).getD m 0=i:=by rw[Zw,hi];rfl
  refine⟨ls,ys,d,S,i,_,R3,rfl,hS,⟨n,hc⟩,rfl,y1,y2,by have:=Eu ls.length S.testBit;lia,fun b e H4 f1 f2 R4 f4=>?_⟩;refine⟨?_,R4,f3.trans f4⟩;dsimp only;rw[eg];unfold wst;rw[DV f1,DV f2]
 ·rintro m v H3 hv hmin ⟨R3,f3⟩;obtain⟨i,hi,him,rfl⟩:=CD hv;have eg:(BA S ys ys.length).getD m 0=i:=by rw[Zw,hi];rfl
  have fr:FrX [d,T.zY] H H3:=(FrX.same s1).trans ((FrX.grow gr2 (by simp)).trans (FrX.frm f3 (by simp)));refine q i H3 ⟨him,fun i' hi'=>?_,fun i' hi' zm=>?_⟩ R3 fr (Kr L2' f3 k5 (.inr (.inl ⟨_,rfl⟩)))
  ·obtain⟨m',hm',em'⟩:=ZBG hi';have h3:=(hmin m' (by rw[Ag];exact hm')).1;have eg':(BA S ys ys.length).getD m' 0=i':=by rw[Zw,Zg hm',em'];rfl
   dsimp only at h3;rw[eg,eg']at h3;lia
  ·obtain⟨m',hm',em'⟩:=ZBG hi';have hmm:=(Z4.mp hi);obtain⟨hm,em⟩:=hmm;have hrise:(BA S ys ys.length).Pairwise (· < ·):=List.Pairwise.filter _ ZCN
   have hlt':m' < m:=by
    rcases ZCE m' m with z | z | z
    ·exact z
    ·subst z;lia
    ·have:=List.pairwise_iff_getElem.mp hrise m m' hm hm' z
     lia
   have h3:=(hmin m' (by rw[Ag];exact hm')).2 hlt';have eg':(BA S ys ys.length).getD m' 0=i':=by rw[Zw,Zg hm',em'];rfl
   dsimp only at h3;rw[eg,eg']at h3;lia
theorem mem_lefts{rb:List Bool}{ans:Bool}:k∈Am rb ans ts ↔ k∈ts/\gB rb k=ans:=by unfold Am;rw[ZBM,beq_iff_eq]
theorem Oc(rb:List Bool)(ts:List Nat):(fun k=>decide (k∈Am rb true ts))=fun k=>decide (k∈ts) && gB rb k:=by
 funext k
 rw[ZBi,decide_eq_true_eq,mem_lefts,Zp,decide_eq_true_eq]
theorem OD(rb:List Bool)(ts:List Nat):(fun k=>decide (k∈Am rb false ts))=fun k=>decide (k∈ts) && !gB rb k:=by
 funext k
 rw[ZBi,decide_eq_true_eq,mem_lefts,Zp,decide_eq_true_eq,ZBy]
theorem Ly{rb:List Bool}{ans:Bool}(h:ts.Pairwise (· < ·)):(Am rb ans ts).Pairwise (· < ·):=h.filter _
theorem VX:AS N (fun k=>decide (k∈ts))<=ts.length:=by
 unfold AS;refine JO (List.nodup_range.filter _) fun z hz=>?_
 exact Zn (ZBM.mp hz).2
theorem FA(he:Ck ls rs):∀i j,i < ls.length->j < ls.length->(∀y∈rs.map gB,y i=y j)->AE ls i=AE ls j:=by
 have key:∀i j,i < j->j < ls.length->(∀y∈rs.map gB,y i=y j)->AE ls i=AE ls j:=fun i j hij hj h =>
  Classical.byContradiction fun ne=>he i j ⟨hij,hj,ne,by
   unfold Er;apply ZCc;intro r hr;exact h _ (Zk.mpr ⟨r,hr,rfl⟩)⟩
 intro i j hi hj h
 rcases ZCE i j with z | z | z
 ·exact key i j z hj h
 ·rw[z]
 ·exact(key j i z hi fun y hy=>(h y hy).symm).symm
theorem Xv(he:Ck ls rs)(zm:∀t∈ts,t < ls.length):Can (AE ls) (rs.map gB) (ts.length - 1) (fun k=>decide (k∈ts)):=by
 refine Gq (FA he) _ _ (fun k hk=>zm k (Zn hk)) ?_
 have:=VX (N:=ls.length) (ts:=ts)
 lia
theorem ZN{ds:List Int}(nd:ds.Nodup)(hm:∀k,k∈ds ↔ k∈ts.map (AE ls)):ds.length < 2 ↔ One (AE ls) (fun k=>decide (k∈ts)):=by
 constructor
 ·intro h i j hi hj;have a1:=(hm _).mpr (Zk.mpr ⟨i,Zn hi,rfl⟩);have a2:=(hm _).mpr (Zk.mpr ⟨j,Zn hj,rfl⟩)
  match ds,h with
  | [],_=>simp at a1
  | [x],_=>rw[Zq.mp a1,Zq.mp a2]
  | x::y::r,h=>simp at h;lia
 ·intro o
  have:=Xz (Y:=[]) (n:=0) ds o nd fun d hd=>by
   obtain⟨k,hk,e⟩:=Zk.mp ((hm d).mp hd);exact⟨k,Zl hk,e⟩
  simp at this;lia
noncomputable def E4:Dw->Bool
 | .int _=>true
 | _=>false
noncomputable def Cy(K:W.Frag)(f:Dw->Bool):Sp:=fun vs H Q _=>match vs with
 | [v]=>∃d,zr K H d v/\Q (.bl (f d)) H
 | _=>False
theorem M0{f:Dw->Bool}:AK (Cy K f):=fun vs H Q Q' E h q=>by
 unfold Cy at *;walk_at "q"
theorem Is:Ok_ P w base T.z58 1 (Cy K E4):=by
 refine T.z58.F.ok W9 (fun vs H Q E h=>by unfold Cy at h;walk_at "e") ?_;walk_at "f";unfold Cy at h;walk_at "g"
 rename_i v;obtain⟨d,hd,q⟩:=h;refine⟨_,(@AH _ _ _ (@AL _ _ _ _ (CP (Aa (E6 (K:=K)) rfl T.zJ (by rfl) (AA (vv 0) (AA (ER (v:=.ty "int") rfl T.yc (by rfl) rfl) AB))) (Bx (NV (Aa (E6 (K:=K)) rfl T.zJ (by rfl) (AA (vv 0) (AA (ER (v:=.ty "bool") rfl T.yd (by rfl) rfl) AB)))))))),?_⟩;refine⟨by decide,d,hd,?_⟩;refine Ab (fun e=>⟨by decide,d,hd,?_⟩) (fun e=>?_)
 ·have:E4 d = !Bt (tyW d) "bool":=by
   revert e;cases d <;> intro e <;> first | rfl | (simp[Bt,tyW]at e;done)
  rw[this]at q;exact q
 ·have:E4 d=false:=by
   revert e;cases d <;> intro e <;> first | rfl | exact absurd (show Bt _ _=true by simp[Bt,tyW]) e
  rw[this]at q;exact q
noncomputable def Gb(m:Nat):Dw->Bool
 | .int i=>decide (0<=i) && decide (i < (m:Int))
 | _=>false
noncomputable def Fd(K:W.Frag):Sp:=fun vs H Q _=>match vs with
 | [.int z,v]=>∃(m:Nat) (d:Dw),z=m/\zr K H d v/\Q (.bl (Gb m d)) H
 | _=>False
theorem X0:AK (Fd K):=fun vs H Q Q' E h q=>by
 unfold Fd at *;walk_at "q"
theorem Pd:Ok_ P w base T.z56 2 (Fd K):=by
 refine T.z56.F.ok Ul (fun vs H Q E h=>by unfold Fd at h;walk_at "e") ?_;walk_at "f";have hr_z58:=hr.mono (show 1<=_ by decide)
 match vs,h with
 | [.int n,v],⟨m,d,e1,hd,q⟩ =>
 subst e1;refine⟨_,(@AH _ _ _ (@AL _ _ _ _ (CP (AM (@Is P w K mg base T) hr_z58 rfl T.z58.m T.z58.F.kp T.z58.b .nil AG (AA (vv 1) AB)) (Bx (V5 FU DL AC (vv 1) (vv 0)))))),?_⟩;refine⟨d,hd,?_⟩;cases d with
 | int i =>
  unfold zr at hd;subst hd;have q:Q (.bl (decide (0<=i) && decide (i < (m:Int)))) H:=q;refine Ab (fun e=>?_) (fun e=>?_)
  ·have e':0<=i:=Zn e;rw[Zl e',ZCG]at q;exact q
  ·rw[ZBC (fun z=>e (Zl z)),ZCH]at q;exact q
 | _=>exact q
theorem QJ{d:Dw}(h:Gb m d=true):∃q:Nat,d=.int (q:Int)/\q < m:=by
 cases d with
 | int i =>
  have h':(decide (0<=i) && decide (i < (m:Int)))=true:=h;rw[Zp,decide_eq_true_iff,decide_eq_true_iff]at h';exact⟨i.toNat,by rw[Int.toNat_of_nonneg h'.1],by lia⟩
 | _=>cases h
noncomputable def FF:Dw->Bool
 | .tup [_,_]=>true
 | _=>false
theorem Ro{d:Dw}(h:FF d=true):∃d0 d1,d=.tup [d0,d1]:=by
 match d,h with
 | .tup [d0,d1],_=>exact⟨d0,d1,rfl⟩
 | .tup [],h=>cases h
 | .tup [_],h=>cases h
 | .tup (_::_::_::_),h=>cases h
 | .non,h=>cases h
 | .bl _,h=>cases h
 | .int _,h=>cases h
 | .str _,h=>cases h
 | .lst _,h=>cases h
 | .emp,h=>cases h
theorem Rx{d:Dw}(h:E4 d=true):∃i,d=.int i:=by
 cases d with
 | int i=>exact⟨i,rfl⟩
 | _=>cases h
theorem Vh:Ok_ P w base T.z64 1 (Cy K FF):=by
 refine T.z64.F.ok QC (fun vs H Q E h=>by unfold Cy at h;walk_at "e") ?_;walk_at "f"
 match vs,h with
 | [v],⟨d,hd,q⟩ =>
 refine⟨_,(@AH _ _ _ (@AL _ _ _ _ (CP (Aa (E6 (K:=K)) rfl T.zJ (by rfl) (AA (vv 0) (AA (ER (v:=.ty "tuple") rfl T.zM (by rfl) rfl) AB))) (Bx (BD (kEq (K:=K) hu) (Aa (BG (K:=K)) rfl T.zR (by rfl) (AA (vv 0) AB)) AC))))),?_⟩;refine⟨by decide,d,hd,?_⟩;cases d with
 | tup ds =>
  obtain⟨p,xs,rfl,hp,hx⟩:=Dc hd;refine⟨_,.inr ⟨_,hp,rfl⟩,?_⟩
  have e:FF (.tup ds)=(false ^^ ((xs.length:Int) == 2)):=by
   rw[<- hx.length]
   match ds with
   | []=>rfl
   | [_]=>rfl
   | [_,_]=>rfl
   | _::_::_::r =>
    show false=_;rw[ZBn];symm;rw[beq_eq_false_iff_ne]
    show((r.length+1+1+1:Nat):Int)≠2
    lia
  rw[e]at q;exact q
 | _=>exact q
noncomputable def ThW(n:Nat)(d:Dw):Prop:=∃ts:List Nat,d=.tup (ts.map fun(t:Nat)=>Dw.int (t:Int))/\ts.Pairwise (· < ·)/\∀t∈ts,t < n
noncomputable def EI(K:W.Frag):Sp:=fun vs H Q _=>match vs with
 | [.int z,v]=>∃(n:Nat) (d:Dw),z=n/\zr K H d v/\∀b:Bool,(b=true ↔ ThW n d)->Q (.bl b) H
 | _=>False
theorem QX:AK (EI K):=fun vs H Q Q' E h q=>by
 unfold EI at *;walk_at "q"
theorem T5(h:ts.Pairwise (· < ·))(hl:∀t∈ts,t < k):(ts++[k]).Pairwise (· < ·):=by
 rw[List.pairwise_append];exact⟨h,by simp,fun a ha b hb=>by rw[Zq]at hb;rw[hb];exact hl a ha⟩
theorem Ws:Ok_ P w base T.z46 3 (EI K):=by
 refine T.z46.F.ok sc_z46 (fun vs H Q E h=>by unfold EI at h;walk_at "e") ?_;walk_at "f";have mo1:AK (Fd K):=X0;unfold EI at h;walk_at "g"
 rename_i z v;obtain⟨n,d,e1,hd,q⟩:=h;subst e1;refine⟨_,(@AF _ _ _ _ _ (@Ao _ _ _ _ _ _ _ _ (Bw (A9 (Aa (E6 (K:=K)) rfl T.zJ (by rfl) (AA (vv 1) (AA (ER (v:=.ty "tuple") rfl T.zM (by rfl) rfl) AB))))) (@AH _ _ _ (@AL _ _ _ _ Au)) Aq) (@AF _ _ _ _ _ (@AR _ _ 2 _ _ _ _ sc_z46.nd rfl (by right) (Gg Gu AC) (by rfl) (by walk_at "i")) (@AF _ _ _ _ _ (@Bk _ _ _ _ _ _ _ _ PassesOwn.never rfl (BH (K:=K) (vv 1)) (AN (i:=3) sc_z46.nd rfl (by right)) (@AF _ _ _ _ _ (@Ao _ _ _ _ _ _ _ _ (PW.pt (DU (Bw (A9 (AM (@Pd P w K mg base T) (hr.mono (show 2<=_ by decide)) rfl T.z56.m T.z56.F.kp T.z56.b .nil AG (AA (vv 0) (AA (vv 3) AB))))) (Dy (Af FU (vv 3) (vv 2))))) (@AH _ _ _ (@AL _ _ _ _ Au)) Aq) (@AH _ _ _ (@AR _ _ 2 _ _ _ _ sc_z46.nd rfl (by right) (vv 3) (by rfl) (by walk_at "i")))) (by intro _;rfl)) (@AH _ _ _ (@AL _ _ _ _ Au))))),?_⟩;refine Ad (fun Z H'=>(∃z2 z3:Option V,Z=[some (.int (n:Nat)),some v,z2,z3])/\H=H'/\∃ds,d=.tup ds) ?_ ?_ (by walk_at "sm")
 ·refine⟨by decide,d,hd,?_⟩;cases d with
  | tup ds=>exact⟨⟨_,_,rfl⟩,rfl,ds,rfl⟩
  | _=>exact q false ⟨(fun z=>nomatch z),fun⟨ts,e,_⟩=>nomatch e⟩
 rintro Z _ ⟨⟨z2,z3,rfl⟩,rfl,ds,rfl⟩;obtain⟨p,xs,rfl,hp,hx⟩:=Dc hd;have zk:=hx.length;refine Ad (fun Z H'=>Z=[some (.int (n:Nat)),some (.ref p),some (.int (-1)),z3]/\H=H') ⟨rfl,rfl⟩ ?_ (by walk_at "sm");rintro Z _ ⟨rfl,rfl⟩;refine Ad (fun Z H'=>H=H'/\ThW n (.tup ds)) ?_ (fun Z H' ⟨e,h⟩=>by subst e;exact q true ⟨fun _=>h,fun _=>rfl⟩) (by walk_at "sm");refine .inr ⟨⟨_,hp⟩,?_⟩;refine IZ (xs:=xs) (fun j Z H'=>∃(ts:List Nat) (lst:Int) (z3:Option V),Z=[some (.int (n:Nat)),some (.ref p),some (.int lst),z3]/\H=H'/\ds.take j=(ts.map fun(t:Nat)=>Dw.int (t:Int))/\ts.length=j/\ts.Pairwise (· < ·)/\(∀t∈ts,t < n)/\(∀t∈ts,(t:Int)<=lst)/\(lst = -1\/∃t∈ts,lst=(t:Int))) ⟨[],-1,_,rfl,rfl,rfl,rfl,by simp,(fun t ht=>by cases ht),(fun t ht=>by cases ht),.inl rfl⟩ (fun j Z H' _ ⟨_,_,_,_,e,_⟩=>by subst e;exact hp) ?_ ?_
 ·rintro j x Z H1 hxj ⟨ts,lst,z3,rfl,rfl,htk,htl,hup,zm,hle,hla⟩;have hj:j < ds.length:=by rw[zk];exact(Z4.mp hxj).1
  have ed:ds[j]? = some ds[j]:=Zg hj;obtain⟨x',ex,rx⟩:=hx.get ed;rw[hxj]at ex;cases ex;have htk1:ds.take (j+1)=(ts.map fun(t:Nat)=>Dw.int (t:Int))++[ds[j]]:=by rw[ZBB,ed,htk];rfl
  generalize ds[j]=dj at *;refine⟨n,dj,rfl,rx,?_⟩;cases hb:Gb n dj with
  | false =>
   refine q false ⟨(fun z=>nomatch z),fun⟨ts',e,h1,h2⟩=>?_⟩;cases e;rw[Zm]at ed;cases ek:ts'[j]? with
   | none=>rw[ek]at ed;cases ed
   | some k =>
    rw[ek]at ed;cases ed
    have:=h2 k (ZBQ ek)
    have hb':(decide (0<=(k:Int)) && decide ((k:Int) < (n:Int)))=false:=hb;rw[Zl (by lia),Zl (by lia)]at hb';cases hb'
  | true =>
   obtain⟨k,rfl,hk⟩:=QJ hb;unfold zr at rx;subst rx;refine Ab (fun z=>?_) (fun z=>?_)
   ·have z:(k:Int)<=lst:=Zn z;refine q false ⟨(fun z=>nomatch z),fun⟨ts',e,h1,h2⟩=>?_⟩;cases e;rw[Zm]at ed;cases ek:ts'[j]? with
    | none=>rw[ek]at ed;cases ed
    | some k' =>
     rw[ek]at ed
     have:k'=k:=by
      have e:Dw.int (k':Int)=Dw.int (k:Int):=Zv ed;injection e with e
      lia
     subst this
     rcases hla with y | ⟨t,ht,y⟩
     ·lia
     ·obtain⟨i,hi,ei⟩:=ZBG ht
      have e1:((ts'.map fun(t:Nat)=>Dw.int (t:Int)).take j)[i]? = some (Dw.int (t:Int)):=by
       rw[htk,Zm,Zg hi,ei];rfl
      rw[List.getElem?_take_of_lt (by lia),Zm]at e1;cases et:ts'[i]? with
      | none=>rw[et]at e1;cases e1
      | some t' =>
       rw[et]at e1
       have e2:t'=t:=by
        have e:Dw.int (t':Int)=Dw.int (t:Int):=Zv e1;injection e with e
        lia
       subst e2;obtain⟨i1,i2⟩:=Z4.mp et;obtain⟨j1,j2⟩:=Z4.mp ek
       have:=List.pairwise_iff_getElem.mp h1 i j i1 j1 (by lia)
       rw[i2,j2]at this;lia
   ·have z:¬(k:Int)<=lst:=fun y=>z (Zl y)
    refine⟨ts++[k],k,_,rfl,rfl,?_,by rw[Zy,htl];rfl,T5 hup fun t ht=>by have:=hle t ht;lia,fun t ht=>?_,fun t ht=>?_,.inr ⟨k,by simp,rfl⟩⟩
    ·rw[htk1,Zt];rfl
    ·rcases ZBE.mp ht with y | y
     ·exact zm t y
     ·rw[Zq]at y;lia
    ·rcases ZBE.mp ht with y | y
     ·have:=hle t y;lia
     ·rw[Zq]at y;lia
 ·rintro Z H1 ⟨ts,lst,z3,rfl,rfl,htk,htl,hup,zm,hle,hla⟩;rw[<- zk,ZBT]at htk;exact⟨rfl,ts,by rw[htk],hup,zm⟩
noncomputable def Dm(ls:List Int)(e:List Nat × Int):Prop:=EntOk ls.length e/\¬One (AE ls) (fun k=>decide (k∈e.1))
noncomputable def EC(K:W.Frag):Sp:=fun vs H Q _=>match vs with
 | [u,v]=>∃ls rs d,zh K H (gmD ls rs) u/\Gm ls rs/\zr K H d v/\∀(b:Bool) H',(b=true ↔ ∃e,d=A4 e/\Dm ls e)->zc H H'->Q (.bl b) H'
 | _=>False
theorem Qs:AK (EC K):=fun vs H Q Q' E h q=>by
 unfold EC at *;walk_at "q"
theorem Xh:Ok_ P w base T.z59 4 (EC K):=by
 refine T.z59.F.ok SN (fun vs H Q E h=>by unfold EC at h;walk_at "e") ?_;walk_at "f";have mo1:AK (Cy K FF):=M0;have mo2:AK (EI K):=QX;have mo3:AK (Cy K E4):=M0;unfold EC at h;walk_at "g"
 rename_i u v;obtain⟨ls,rs,d,hg,G,hd,q⟩:=h;obtain⟨a,tl,rl,ps,rfl,g⟩:=DR hg;have l16:=G.l16;refine⟨_,(@AF _ _ _ _ _ (@Ao _ _ _ _ _ _ _ _ (PW.pt (DU (Bw (A9 (AM (@Vh P w K mg base T) (hr.mono (show 1<=_ by decide)) rfl T.z64.m T.z64.F.kp T.z64.b .nil AG (AA (vv 1) AB)))) (DU (Bw (A9 (AM (@Ws P w K mg base T) (hr.mono (show 3<=_ by decide)) rfl T.z46.m T.z46.F.kp T.z46.b .nil AG (AA (Aa (BG (K:=K)) rfl T.zR (by rfl) (AA (zw (K:=K) (vv 0) AC) AB)) (AA (zw (K:=K) (vv 1) AC) AB))))) (Dy (Bw (A9 (AM (@Is P w K mg base T) (hr.mono (show 1<=_ by decide)) rfl T.z58.m T.z58.F.kp T.z58.b .nil AG (AA (zw (K:=K) (vv 1) AC) AB)))))))) (@AH _ _ _ (@AL _ _ _ _ Au)) Aq) (@AH _ _ _ (@AL _ _ _ _ (CP (BD G6 (zw (K:=K) (vv 1) AC) AC) (Bx (BD Bm (Aa Ys rfl T.zR (by rfl) (AA (BU (ZX (K:=K) rfl) rfl T.yg (by rfl) (AA (Az (N':=["each","game"]) (own:=1) (ix:=[0]) rfl (BH (K:=K) (zw (K:=K) (vv 1) AC)) (by kernel_rfl) rfl rfl (by kernel_rfl) (fun c=>AN (i:=0) (show(["each","game"]:List Str).Nodup by decide +kernel) rfl (by right)) (AX (by decide)) (fun c=>Av) (fun c=>(zw (K:=K) (zw (K:=K) (vv 1) AC) (vv 0)))) AB)) AB)) AC)))))),?_⟩;refine Ad (fun Z H'=>Z=[some (.ref a),some v]/\H=H'/\∃(ts:List Nat) (k:Int),d=.tup [.tup (ts.map fun(t:Nat)=>Dw.int (t:Int)),.int k]/\ts.Pairwise (· < ·)/\∀t∈ts,t < ls.length) ?_ ?_ (by walk_at "sm")
 ·refine⟨d,hd,?_⟩;cases hb:FF d with
  | false=>exact q false H ⟨(fun z=>nomatch z),fun⟨e,he,_⟩=>by rw[he]at hb;cases hb⟩ (zc.refl _)
  | true =>
   obtain⟨d0,d1,rfl⟩:=Ro hb;obtain⟨p,xs,rfl,hp,hx⟩:=Dc hd;unfold zo at hx;obtain⟨x0,l0,rfl,r0,hx⟩:=hx;unfold zo at hx;obtain⟨x1,l1,rfl,r1,hx⟩:=hx;unfold zo at hx;subst hx;refine⟨_,.ref tl,.inr g.two,rfl,ls.length,.inr ⟨_,g.lab,by rw[Ze]⟩,_,x0,.inr hp,Ae (n:=0) rfl rfl,ls.length,d0,rfl,r0,fun b hb1=>?_⟩;cases b with
   | false=>exact q false H ⟨(fun z=>nomatch z),fun⟨e,he,h⟩=>by
    unfold A4 at he;injection he with he
    injection he with h0 _
    exact nomatch hb1.mpr ⟨e.1,h0,h.1.up,h.1.lt⟩⟩ (zc.refl _)
   | true =>
    refine⟨_,x1,.inr hp,Ae (n:=1) rfl rfl,d1,r1,?_⟩;cases hw:E4 d1 with
    | false=>exact q false H ⟨(fun z=>nomatch z),fun⟨e,he,h⟩=>by
     unfold A4 at he;injection he with he
     injection he with _ h1
     injection h1 with h1 _
     rw[h1]at hw;cases hw⟩ (zc.refl _)
    | true =>
     obtain⟨k,rfl⟩:=Rx hw;obtain⟨ts,rfl,h1,h2⟩:=hb1.mp rfl;exact⟨rfl,rfl,ts,k,rfl,h1,h2⟩
 rintro Z _ ⟨rfl,rfl,ts,k,rfl,hup,zm⟩;obtain⟨b,c,rfl,hb,hc⟩:=N5 (e:=(ts,k)) hd;have hb:zt K H b [.ref c,.int k]:=hb;have hc:zt K H c (iL ts):=hc;have zk:ts.length<=ls.length:=DX ls.length ts (hup.imp fun h=>Zs h) zm
 have inj:∀e:List Nat × Int,Dw.tup [.tup (ts.map fun(t:Nat)=>Dw.int (t:Int)),.int k]=A4 e->e=(ts,k):=fun e he=>by
  unfold A4 at he;injection he with he
  injection he with h0 h1
  injection h1 with h1 _
  injection h0 with h0
  injection h1 with h1
  have:e.1=ts:=by
   have inj':∀a b:Nat,Dw.int (a:Int)=Dw.int (b:Int)->a=b:=fun a b h=>by injection h with h;lia
   exact((List.map_inj_right fun a b h=>inj' a b h).mp h0).symm
  exact Prod.ext this h1.symm
 refine⟨_,_,.inr hb,Ae (n:=1) rfl rfl,?_⟩;refine Ab (fun z=>?_) (fun z=>?_)
 ·have z:1<=k:=Zn z;refine⟨_,_,.inr hb,Ae (n:=0) rfl rfl,.inr ⟨⟨_,hc⟩,?_⟩⟩
  refine Bz (xs:=iL ts) (fun k zs H'=>H'=H/\zs=((ts.take k).map (AE ls)).map V.int) ⟨rfl,rfl⟩ (fun k zs H' _ ⟨e,_⟩=>by rw[e];exact hc) (fun k zs H' hk ⟨_,e⟩=>by
   rw[Ag]at hk;rw[e,Ze,Ze,Z7];exact Aj (by lia)) ?_ ?_
  ·rintro k x zs H' hx ⟨rfl,rfl⟩;obtain⟨t,ht,hmem,rfl⟩:=CD hx;refine⟨_,.ref tl,.inr g.two,rfl,_,.int (AE ls t),.inr g.lab,Fs (zm t hmem),rfl,?_⟩;rw[ZBB,ht,Zt,Zt];rfl
  ·rintro zs H' ⟨rfl,rfl⟩ l hl';rw[Ag,ZBT];refine⟨_,.of AD,by rw[Ze];lia,fun ds qs nd hmem hqs=>?_⟩;have S:=(zc.upd (o:=.lst ((ts.map (AE ls)).map V.int)) hl').trans (zc.upd (o:=FZ ds) hqs);have o1:=ZN (ls:=ls) nd hmem;refine⟨ds,AD,?_⟩;refine q _ _ ?_ S;rw[decide_eq_true_iff];constructor
   ·intro h;exact⟨(ts,k),rfl,⟨hup,zm,z⟩,fun o=>by have:=o1.mpr o;lia⟩
   ·rintro⟨e,he,h1,h2⟩
    have:=inj e he
    subst this
    have:¬ds.length < 2:=fun y=>h2 (o1.mp y)
    lia
 ·refine q false H ⟨(fun z=>nomatch z),fun⟨e,he,h1,h2⟩=>?_⟩ (zc.refl _)
  have:=inj e he
  subst this;exact absurd (Zl h1.one) z
noncomputable def G3(rs:List (List Bool))(es:DY):Prop:=∀e∈es,1 < e.2->∀r∈rs,∃(ans:Bool),∃e'∈es,e.2 - 1<=e'.2/\∀t∈e'.1,t∈e.1/\gB r t=ans
noncomputable def GX(ls:List Int)(rs:List (List Bool))(z:Int)(d:Dw):Prop:=∃es:DY,d=.tup (es.map A4)/\(∀e∈es,Dm ls e)/\(z<=0\/∃e∈es,z<=e.2)/\G3 rs es
theorem sub_tb:S &&& U=S ↔ ∀k,S.testBit k=true->U.testBit k=true:=by
 constructor
 ·intro h k hk;rw[<- h,ZBS,Zp]at hk;exact hk.2
 ·intro h;apply ZCl;intro k;rw[ZBS];cases e:S.testBit k with
  | false=>rfl
  | true=>rw[h k e];rfl
theorem Sx(hok:∀e∈es,EntOk ls.length e)(N:NumsOf ls.length es zd)(G:Gm ls rs) :
 (∀(U:Nat) (m:Int),(kN U,V.int m)∈zd->1 < m->∀y∈rs.map AO,BE zd (U &&& y) (m - 1)\/BE zd (U - (U &&& y)) (m - 1)) ↔ G3 rs es:=by
 have bit:∀e∈es,∀k,(msk e.1).testBit k=decide (k∈e.1):=fun e he=>(DJ (hok e he).up (hok e he).lt).2
 have key:∀(e:List Nat × Int) (he:e∈es) (r:List Bool) (m:Int),(BE zd (msk e.1 &&& AO r) m\/BE zd (msk e.1 - (msk e.1 &&& AO r)) m) ↔ ∃(ans:Bool) (S:Nat) (k:Int),(kN S,V.int k)∈zd/\m<=k/\∀t,S.testBit t=true->t∈e.1/\gB r t=ans:=by
  intro e he r m;constructor
  ·rintro(⟨S,k,h1,h2,h3⟩ | ⟨S,k,h1,h2,h3⟩)
   ·refine⟨true,S,k,h1,h3,fun t ht=>?_⟩
    have:=sub_tb.mp h2 t ht
    rw[ZBS,Zp,bit e he,decide_eq_true_iff,mskR_bit]at this;exact this
   ·refine⟨false,S,k,h1,h3,fun t ht=>?_⟩
    have:=sub_tb.mp h2 t ht
    rw[Ch]at this;rw[Zp,bit e he,decide_eq_true_iff,mskR_bit,ZBy]at this;exact this
  ·rintro⟨ans,S,k,h1,h3,h⟩;cases ans with
   | true =>
    refine .inl ⟨S,k,h1,sub_tb.mpr fun t ht=>?_,h3⟩;rw[ZBS,Zp,bit e he,decide_eq_true_iff,mskR_bit];exact h t ht
   | false =>
    refine .inr ⟨S,k,h1,sub_tb.mpr fun t ht=>?_,h3⟩;rw[Ch];rw[Zp,bit e he,decide_eq_true_iff,mskR_bit,ZBy];exact h t ht
 constructor
 ·intro h e he h1 r hr;obtain⟨k,hk,hle⟩:=N.to_ e he;obtain⟨ans,S,k',h2,h3,h4⟩:=(key e he r (k - 1)).mp (h _ k hk (by lia) _ (Zk.mpr ⟨r,hr,rfl⟩));obtain⟨e',he',rfl,rfl⟩:=N.fro S k' h2;exact⟨ans,e',he',by lia,fun t ht=>h4 t (by rw[bit e' he'];exact Zl ht)⟩
 ·intro h U m hm h1 y hy;obtain⟨r,hr,rfl⟩:=Zk.mp hy;obtain⟨e,he,rfl,rfl⟩:=N.fro U m hm;obtain⟨ans,e',he',h2,h3⟩:=h e he h1 r hr;obtain⟨k',hk',hle⟩:=N.to_ e' he';refine(key e he r _).mpr ⟨ans,_,k',hk',by lia,fun t ht=>h3 t ?_⟩;rw[bit e' he']at ht;exact Zn ht
theorem Lq{P':List Nat × Int->Prop}:∀{ds:List Dw},(∀d∈ds,∃e,d=A4 e/\P' e)->∃es:DY,ds=es.map A4/\∀e∈es,P' e
 | [],_=>⟨[],rfl,fun e he=>by cases he⟩
 | d::ds,h=>by
  obtain⟨e,rfl,h1⟩:=h d (ZBD ..);obtain⟨es,rfl,h2⟩:=Lq (ds:=ds) fun x hx=>h x (Zz _ hx)
  exact⟨e::es,rfl,fun x hx=>by
   rcases Zh.mp hx with rfl | hx
   ·exact h1
   ·exact h2 x hx⟩
theorem LI{e e':List Nat × Int}(he:A4 e=A4 e'):e=e':=by
 unfold A4 at he;injection he with he
 injection he with h0 h1
 injection h1 with h1 _
 injection h0 with h0
 injection h1 with h1
 have inj':∀a b:Nat,Dw.int (a:Int)=Dw.int (b:Int)->a=b:=fun a b h=>by injection h with h;lia
 exact Prod.ext ((List.map_inj_right fun a b h=>inj' a b h).mp h0) h1
noncomputable def Ex(K:W.Frag):Sp:=fun vs H Q _=>match vs with
 | [u,.int z,v]=>∃ls rs d,zh K H (gmD ls rs) u/\Gm ls rs/\zr K H d v/\(∀ds,d=.tup ds->ds.length<=100000)/\∀(b:Bool) H',(b=true ↔ GX ls rs z d)->zc H H'->Q (.bl b) H'
 | _=>False
theorem Qe:AK (Ex K):=fun vs H Q Q' E h q=>by
 unfold Ex at *;walk_at "q"
theorem Pq:Ok_ P w base T.z47 6 (Ex K):=by
 refine T.z47.F.ok Vq (fun vs H Q E h=>by unfold Ex at h;walk_at "e") ?_;walk_at "f";have hr_z33:=hr.mono (show 4<=_ by decide);have hr1_z33:=hr.mono (show 4+1<=_ by decide);have mo1:AK (EC K):=Qs;have mo2:AK (EQ K T.zD):=Qw;have mo3:AK (Ek K T.zD):=So;unfold Ex at h;walk_at "g"
 rename_i u z v;obtain⟨ls,rs,d,hg,G,hd,hbk,q⟩:=h;refine⟨_,(@AF _ _ _ _ _ (@Ao _ _ _ _ _ _ _ _ (PW.pt (DU (Bw (A9 (Aa (E6 (K:=K)) rfl T.zJ (by rfl) (AA (vv 2) (AA (ER (v:=.ty "tuple") rfl T.zM (by rfl) rfl) AB))))) (Dy (Bw (A9 (Aa (Iq (K:=K) rfl) rfl T.yf (by rfl) (AA (Az (N':=["entry","game"]) (own:=1) (ix:=[0]) rfl (BH (K:=K) (vv 2)) (by kernel_rfl) rfl rfl (by kernel_rfl) (fun c=>AN (i:=0) (show(["entry","game"]:List Str).Nodup by decide +kernel) rfl (by right)) (AX (by decide)) (fun c=>Av) (fun c=>(AM (@Xh P w K mg base T) (hr.mono (show 4<=_ by decide)) rfl T.z59.m T.z59.F.kp T.z59.b .nil AG (AA (vv 1) (AA (vv 0) AB))))) AB))))))) (@AH _ _ _ (@AL _ _ _ _ Au)) Aq) (@AH _ _ _ (@AL _ _ _ _ (CP (BD G6 (N1 (K:=K) (@Az _ _ _ _ _ _ _ ["entry"] 1 [] _ _ _ _ rfl (BH (K:=K) (vv 2)) (by kernel_rfl) rfl rfl (by kernel_rfl) (fun c=>AN (i:=0) (show(["entry"]:List Str).Nodup by decide +kernel) rfl (by right)) (AX (by decide)) (fun c=>Av) (fun c=>(zw (K:=K) (vv 0) AC)) (by intro _;rfl)) T.ya rfl) (vv 1)) (Bx (MQ (Oj T.zX (@Qk P w K mg base T) hr1_z33 rfl T.Z0b T.z33.b .nil AG (AA (vv 0) (AA (vv 2) AB))) T.zF T.z25.m (@Vl P w K mg base T) (hr.mono (show 5<=_ by decide)) T.z25.b .nil AG)))))),?_⟩;refine Ad (fun Z H'=>Z=[some u,some (.int z),some v]/\zc H H'/\∃es:DY,d=.tup (es.map A4)/\∀e∈es,Dm ls e) ?_ ?_ (by walk_at "sm")
 ·refine⟨by decide,d,hd,?_⟩;cases d with
  | tup ds =>
   obtain⟨p,xs,rfl,hp,hx⟩:=Dc hd;have zk:=hx.length;have hdl:=hbk ds rfl;have hsl:sizeLine=16777216:=by decide
   refine .inr ⟨⟨_,hp⟩,?_⟩;refine Bz (xs:=xs) (fun j zs H'=>∃bs:List Bool,zs=bs.map V.bl/\bs.length=j/\zc H H'/\∀(t:Nat) (dj:Dw),t < j->ds[t]? = some dj->(bs[t]? = some true ↔ ∃e,dj=A4 e/\Dm ls e)) ⟨[],rfl,rfl,zc.refl _,fun t dj h=>absurd h (ZBt _)⟩ (fun j zs H' _ ⟨_,_,_,s1,_⟩=>s1.sqT hp) (fun j zs H' hj ⟨bs,e,e2,_⟩=>by rw[e,Ze,e2];lia) ?_ ?_
   ·rintro j x zs H1 hxj ⟨bs,rfl,hbl,s1,hh⟩;have hj:j < ds.length:=by rw[zk];exact(Z4.mp hxj).1
    have ed:ds[j]? = some ds[j]:=Zg hj;obtain⟨x',ex,rx⟩:=hx.get ed;rw[hxj]at ex;cases ex;refine⟨ls,rs,ds[j],hg.same s1,G,zr.same s1 _ _ rx,fun b H2 hb s2=>?_⟩;refine⟨bs++[b],by rw[Zt];rfl,by rw[Zy,hbl];rfl,s1.trans s2,fun t dj ht hdj=>?_⟩
    rcases ZBL t j with a | a
    ·rw[ZB1 (by lia)];exact hh t dj a hdj
    ·have:t=j:=by lia
     subst this;rw[ed]at hdj;cases hdj;rw[ZB0 (by lia),hbl,Nat.sub_self];rw[<- hb];simp
   ·rintro zs H1 ⟨bs,rfl,hbl,s1,hh⟩ l nl;have s2:=s1.trans (zc.upd (o:=.lst (bs.map V.bl)) nl);refine⟨bs,.of AD,?_⟩;cases hb:bs.all id with
    | true =>
     have hall:=ZBW.mp hb
     obtain⟨es,h1,h2⟩:=Lq (P':=Dm ls) (ds:=ds) fun dj hdj=>by
      obtain⟨t,ht,rfl⟩:=ZBG hdj;refine(hh t _ (by lia) (Zg ht)).mp ?_;rw[Zg (show t < bs.length by lia)];exact congrArg some (hall _ (ZBK _))
     exact⟨rfl,s2,es,by rw[h1],h2⟩
    | false =>
     refine q false _ ⟨(fun z=>nomatch z),fun⟨es,e,h1,_⟩=>?_⟩ s2
     have:bs.all id=true:=by
      rw[ZBW];intro b hb';obtain⟨t,ht,rfl⟩:=ZBG hb';have htd:t < ds.length:=by lia
      have hds:ds=es.map A4:=by injection e
      have hte:t < es.length:=by rw[hds,Ze]at htd;exact htd
      have:=(hh t ds[t] (by lia) (Zg htd)).mpr ⟨es[t],by simp only[hds,List.getElem_map],h1 _ (ZBK _)⟩
      rw[Zg ht]at this;exact Zv this
     rw[hb]at this;cases this
  | _=>exact q false H ⟨(fun z=>nomatch z),fun⟨es,e,_⟩=>nomatch e⟩ (zc.refl _)
 rintro Z H1 ⟨rfl,s1,es,rfl,hes⟩;obtain⟨ua,xs,rfl,E1⟩:=Lg (zr.same s1 _ _ hd)
 have hel:es.length<=100000:=by
  have h1:=hbk _ rfl;rw[Ze]at h1;lia
 have hsl:sizeLine=16777216:=by decide
 have hxl:=E1.len
 have hz:∀M:Int,(es.map (·.2)=[]->M=0)->(es.map (·.2)≠[]->M∈es.map (·.2)/\∀a∈es.map (·.2),a<=M)->(z<=M ↔ z<=0\/∃e∈es,z<=e.2):=by
  intro M m0 m1
  by_cases e:es.map (·.2)=[]
  ·rw[m0 e]
   have:es=[]:=List.map_eq_nil_iff.mp e
   subst this;simp
  ·obtain⟨a1,a2⟩:=m1 e;obtain⟨x,hx,rfl⟩:=Zk.mp a1;constructor
   ·intro h;exact .inr ⟨x,hx,h⟩
   ·rintro(h | ⟨y,hy,h⟩)
    ·have:=(hes x hx).1.one;lia
    ·have:=a2 _ (Zk.mpr ⟨y,hy,rfl⟩);lia
 refine .inr ⟨⟨_,E1.sq⟩,?_⟩;refine Bz (xs:=xs) (fun j zs H'=>H'=H1/\zs=((es.take j).map (·.2)).map V.int) ⟨rfl,rfl⟩ (fun j zs H' _ ⟨e,_⟩=>by rw[e];exact E1.sq) (fun j zs H' hj ⟨_,e⟩=>by rw[e,Ze,Ze,Z7];lia) ?_ ?_
 ·rintro j x zs H2 hxj ⟨rfl,rfl⟩;have hj:j < es.length:=by rw[<- hxl];exact(Z4.mp hxj).1
  have ee:es[j]? = some es[j]:=Zg hj;obtain⟨x',ex,b,c,rfl,hb,hc⟩:=E1.at_ j _ ee;rw[hxj]at ex;cases ex;refine⟨_,_,.inr hb,Ae (n:=1) rfl rfl,rfl,?_⟩;rw[ZBB,ee,Zt,Zt];rfl
 rintro zs H2 ⟨rfl,rfl⟩ l nl;rw[hxl,ZBT];have s2:=zc.upd (o:=.lst ((es.map (·.2)).map V.int)) nl;have g2:=AD (H:=H2) (a:=l) (o:=.lst ((es.map (·.2)).map V.int));generalize upd H2 l (.lst ((es.map (·.2)).map V.int))=H3 at *;refine⟨l,_,rfl,.of g2,fun M m0 m1=>?_⟩;have hzM:=hz M m0 m1;have S3:=s1.trans s2;refine Ab (fun y=>?_) (fun y=>?_)
 ·have y:z<=M:=Zn y;intro x dx hx hdx zz
  have s4:zc H3 (upd (upd H3 dx (.own x)) x (.ins T.zD dx [])):=(zc.upd (o:=.own x) hdx).trans (fun b o e=>by
   have:b≠x:=fun z=>by
    rw[z,AI (Ne.symm zz),hx]at e;cases e
   rw[AI this];exact e)
  have hx4:upd (upd H3 dx (.own x)) x (.ins T.zD dx []) x=some (.ins T.zD dx []):=AD;generalize upd (upd H3 dx (.own x)) x (.ins T.zD dx [])=H4 at *;have S4:=S3.trans s4;refine⟨ls,rs,dx,es,hx4,hg.same S4,G,zr.same S4 _ _ hd,fun e he=>(hes e he).1,hel,fun zd nd fd H5 hn hf nnp nfp N R f5=>⟨rfl,?_⟩⟩;obtain⟨dx5,yl5,fvs5,k1,_⟩:=id R.at_;have hb:=Sx (fun e he=>(hes e he).1) N G;refine⟨x,dx5,_,rfl,k1,nb4 _ _ _,ls.length,rs.map AO,zd,nd,fd,R,fun b H6 hb6 kp6=>q b H6 ?_ ?_⟩
  ·rw[hb6,hb];constructor
   ·intro h;exact⟨es,rfl,hes,hzM.mp y,h⟩
   ·rintro⟨es',e,_,_,h⟩;have e:es.map A4=es'.map A4:=by injection e
    have:es=es':=(List.map_inj_right fun a b h=>LI h).mp e
    rw[this];exact h
  ·intro b o e;have e4:=S4 b o e;have e5:=f5 b o (fun z=>by rw[z]at e;have:=S3 _ _ e;rw[hx]at this;cases this) e4;refine kp6.1 b o (fun z=>?_) (fun z=>?_) e5
   ·rw[z,hn]at e4;cases e4
   ·rw[z,hf]at e4;cases e4
 ·refine q false _ ⟨(fun z=>nomatch z),fun⟨es',e,_,h,_⟩=>?_⟩ S3;have e:es.map A4=es'.map A4:=by injection e
  have:es=es':=(List.map_inj_right fun a b h=>LI h).mp e
  subst this;exact absurd (Zl (hzM.mpr h)) y
theorem D0{d:Dv}{ds:List Dv}(h:zf K H (d::ds) xs):∃x l,xs=x::l/\zh K H d x/\zf K H ds l:=by unfold zf at h;exact h
theorem O5:∀{ds:List Dv} {xs:List V} {i:Nat} {x:V},zf K H ds xs->xs[i]? = some x->∃d,ds[i]? = some d/\zh K H d x
 | [],xs,i,x,h,e=>by unfold zf at h;subst h;cases e
 | d::ds,xs,i,x,h,e=>by
  obtain⟨y,l,rfl,r,h⟩:=D0 h;cases i with
  | zero=>cases e;exact⟨d,rfl,r⟩
  | succ i=>exact O5 (ds:=ds) (i:=i) h (by simpa using e)
inductive Tr where
 | say (i:Int)
 | ask (q:Nat) (n y:Tr)
noncomputable def Tr.dv:Tr->Dv
 | .say i=>.tup [.str (Str.ofString "say"),.int i]
 | .ask q n y=>.tup [.str (Str.ofString "ask"),.int (q:Int),n.dv,y.dv]
noncomputable def Tr.ok(m:Nat):Tr->Prop
 | .say _=>True
 | .ask q n y=>q < m/\n.ok m/\y.ok m
noncomputable def Tr.size:Tr->Nat
 | .say _=>1
 | .ask _ n y=>1+n.size+y.size
noncomputable def Tr.deep:Tr->Nat
 | .say _=>1
 | .ask _ n y=>1+max n.deep y.deep
noncomputable def Tr.kids:Tr->List Tr
 | .say _=>[]
 | .ask _ n y=>[n,y]
theorem Tr.deep_pos(t:Tr):1<=t.deep:=by cases t <;> (unfold Tr.deep;lia)
theorem Tr.size_pos(t:Tr):1<=t.size:=by cases t <;> (unfold Tr.size;lia)
theorem Tr.tups:∀t:Tr,BS t.dv=true
 | .say i=>rfl
 | .ask q n y=>by
  unfold Tr.dv BS A8 A8 A8 A8 A8;rw[Tr.tups n,Tr.tups y];rfl
theorem K4{i:Int}(h:zh K H (Tr.say i).dv v):∃p,v=.ref p/\zt K H p [.str (Str.ofString "say"),.int i]:=by
 obtain⟨a,xs,rfl,hs,hx⟩:=Dr h;obtain⟨x0,l0,rfl,r0,hx⟩:=D0 hx;obtain⟨x1,l1,rfl,r1,hx⟩:=D0 hx;unfold zf at hx;subst hx;unfold zh at r0 r1;subst r0 r1;exact⟨a,rfl,hs⟩
theorem KO{q:Nat}{n y:Tr}(h:zh K H (Tr.ask q n y).dv v):∃p x2 x3,v=.ref p/\zt K H p [.str (Str.ofString "ask"),.int (q:Int),x2,x3]/\zh K H n.dv x2/\zh K H y.dv x3:=by
 obtain⟨a,xs,rfl,hs,hx⟩:=Dr h;obtain⟨x0,l0,rfl,r0,hx⟩:=D0 hx;obtain⟨x1,l1,rfl,r1,hx⟩:=D0 hx;obtain⟨x2,l2,rfl,r2,hx⟩:=D0 hx;obtain⟨x3,l3,rfl,r3,hx⟩:=D0 hx;unfold zf at hx;subst hx;unfold zh at r0 r1;subst r0 r1;exact⟨a,x2,x3,rfl,hs,r2,r3⟩
noncomputable def PY(K:W.Frag):Sp:=fun vs H Q _=>match vs with
 | [.int z,v]=>∃(m:Nat) (t:Tr),z=m/\zh K H t.dv v/\t.ok m/\Q (.bl true) H
 | _=>False
theorem Uo:Ok_ P w base T.z36 3 (PY K):=by
 refine T.z36.F.ok UO (fun vs H Q E h=>by unfold PY at h;walk_at "e") ?_;walk_at "f";have hr_z58:=hr.mono (show 1<=_ by decide)
 match vs,h with
 | [.int z,v],⟨m,t,e1,hv,hok,q⟩ =>
 subst e1;refine⟨_,(@AF _ _ _ _ _ (@Ao _ _ _ _ _ _ _ _ (PW.pt (DU (Bw (A9 (Aa (Ue (K:=K)) rfl T.zJ (by rfl) (AA (vv 1) (AA (ER (v:=.ty "tuple") rfl T.zM (by rfl) rfl) AB))))) (Dy (Af DL (Aa (BG (K:=K)) rfl T.zR (by rfl) (AA (vv 1) AB)) AC)))) (@AH _ _ _ (@AL _ _ _ _ Au)) Aq) (@AF _ _ _ _ _ (@Ao _ _ _ _ _ _ _ _ (Af (kEq (K:=K) hu) (zw (K:=K) (vv 1) AC) EN) (@AH _ _ _ (@AL _ _ _ _ (CP (BD (kEq (K:=K) hu) (Aa (BG (K:=K)) rfl T.zR (by rfl) (AA (vv 1) AB)) AC) (Bx (AM (@Is P w K mg base T) hr_z58 rfl T.z58.m T.z58.F.kp T.z58.b .nil AG (AA (zw (K:=K) (vv 1) AC) AB)))))) Aq) (@AH _ _ _ (@AL _ _ _ _ (CP (BD (kEq (K:=K) hu) (zw (K:=K) (vv 1) AC) EN) (CP (BD (kEq (K:=K) hu) (Aa (BG (K:=K)) rfl T.zR (by rfl) (AA (vv 1) AB)) AC) (Bx (AM (@Pd P w K mg base T) (hr.mono (show 2<=_ by decide)) rfl T.z56.m T.z56.F.kp T.z56.b .nil AG (AA (vv 0) (AA (zw (K:=K) (vv 1) AC) AB)))))))))),?_⟩;cases t with
 | say i =>
  obtain⟨p,rfl,hp⟩:=K4 hv;refine⟨by decide,_,hv,?_⟩;refine⟨2,.inr ⟨_,hp,rfl⟩,?_⟩;refine⟨_,_,.inr hp,Ae (n:=0) rfl rfl,?_⟩;refine⟨2,.inr ⟨_,hp,rfl⟩,_,_,.inr hp,Ae (n:=1) rfl rfl,.int i,by unfold zr;rfl,q⟩
 | ask k n y =>
  obtain⟨p,x2,x3,rfl,hp,r2,r3⟩:=KO hv;refine⟨by decide,_,hv,?_⟩;refine⟨4,.inr ⟨_,hp,rfl⟩,?_⟩;refine⟨_,_,.inr hp,Ae (n:=0) rfl rfl,?_⟩;refine⟨_,_,.inr hp,Ae (n:=0) rfl rfl,?_⟩;refine⟨4,.inr ⟨_,hp,rfl⟩,_,_,.inr hp,Ae (n:=1) rfl rfl,m,.int (k:Int),rfl,by unfold zr;rfl,?_⟩
  have e:Gb m (.int (k:Int))=true:=by
   have hk:k < m:=hok.1
   show(decide (0<=(k:Int)) && decide ((k:Int) < (m:Int)))=true
   rw[Zl (by lia),Zl (by lia)];rfl
  rw[e];exact q
noncomputable def FO(K:W.Frag):Sp:=fun vs H Q _=>match vs with
 | [v]=>∃(t:Tr),zh K H t.dv v/\∀p xs H',zc H H'->zt K H' p xs->zf K H (t.kids.map Tr.dv) xs->Q (.ref p) H'
 | _=>False
theorem Ur:AK (FO K):=fun vs H Q Q' E h q=>by
 unfold FO at *;walk_at "q"
theorem W5:Ok_ P w base T.z37 1 (FO K):=by
 refine T.z37.F.ok Ta (fun vs H Q E h=>by unfold FO at h;walk_at "e") ?_;walk_at "f"
 match vs,h with
 | [v],⟨t,hv,q⟩ =>
 refine⟨_,(@AH _ _ _ (@AL _ _ _ _ (C3 (Af (kEq (K:=K) hu) (zw (K:=K) (vv 0) AC) EN) (CG AB) (Rs (K:=K) (vv 0) (R0 AC) VU)))),?_⟩;cases t with
 | say i =>
  obtain⟨p,rfl,hp⟩:=K4 hv;refine⟨_,_,.inr hp,Ae (n:=0) rfl rfl,?_⟩;exact⟨Zu _,fun p1 n1=>q p1 [] _ (zc.upd n1) (.of AD) BF⟩
 | ask k n y =>
  obtain⟨p,x2,x3,rfl,hp,r2,r3⟩:=KO hv;refine⟨_,_,.inr hp,Ae (n:=0) rfl rfl,?_⟩;exact⟨2,rfl,_,hp,fun p1 H' s' h'=>q p1 [x2,x3] H' s' h' (Aw r2 (Aw r3 BF))⟩
noncomputable def ET:Sp:=fun vs H Q _=>match vs with
 | [.int m,.int d]=>Q (.bl (decide (2000 < m) || decide (16 < d))) H
 | _=>False
theorem ZS:AK ET:=fun vs H Q Q' E h q=>by
 unfold ET at *;split at q
 ·exact h _ _ q
 ·exact q.elim
theorem W6:Ok_ P w base T.z30 1 ET:=by
 refine T.z30.F.ok UR (fun vs H Q E h=>by unfold ET at h;walk_at "e") ?_;walk_at "f";unfold ET at h;walk_at "g"
 rename_i m d;have q:=h;have q:Q (.bl (decide (2000 < m) || decide (16 < d))) H:=q;refine⟨_,(@AH _ _ _ (@AL _ _ _ _ (Jj (BD Bm (vv 0) (HB (v:=.int 2000) rfl T.zT ⟨_,rfl⟩)) (Bx (BD Bm (vv 1) (HB (v:=.int 16) rfl T.zP ⟨_,rfl⟩)))))),?_⟩;refine Ab (fun e=>?_) (fun e=>?_)
 ·have e':(2000:Int) < m:=Zn e;rw[Zl e',Bool.true_or]at q
  first | exact q | (rw[<- Zl e']at q;exact q)
 ·have e':¬(2000:Int) < m:=fun z=>e (Zl z)
  rw[ZBC e',Bool.false_or]at q;exact q
noncomputable def E9(K:W.Frag)(vA:V):V->Hp->VK->Prop:=fun v H Q=>∃ls rs t,zh K H (gmD ls rs) vA/\Gm ls rs/\zh K H (Tr.dv t) v/\t.ok rs.length/\Q (.bl true) H
theorem SL{vA:V}:∀v H Q Q',(∀y H',Q y H'->Q' y H')->E9 K vA v H Q->E9 K vA v H Q':=fun v H Q Q' k q=>by
 obtain⟨ls,rs,t,h1,h2,h3,h4,q⟩:=q;exact⟨ls,rs,t,h1,h2,h3,h4,k _ _ q⟩
noncomputable def II(K:W.Frag)(ftw fil zu c':Addr)(qual:Str)(vA:V):Sp:=fun vs H Q _=>match vs with
 | [.ref a,.ref b,.ref c,v]=>a=zu/\b=ftw/\c=fil/\H c'=some (CdO c' qual)/\∃ls rs t,zh K H (gmD ls rs) vA/\Gm ls rs/\zh K H (Tr.dv t) v/\t.ok rs.length/\t.deep<=16/\t.size<=2000/\∀H',zc H H'->Q (.bl true) H'
 | _=>False
noncomputable def D6(L:List Tr):Nat:=(L.map Tr.size).sum
theorem Jx:∀L:List Tr,L.length<=D6 L
 | []=>Zf _
 | t::L=>by
  have:=Jx L
  have h:=t.size_pos;unfold D6 at *;rw[Z5,List.sum_cons,ZBN];lia
theorem Ov:∀L:List Tr,D6 (L.flatMap Tr.kids)+L.length=D6 L
 | []=>rfl
 | t::L=>by
  have ih:=Ov L;unfold D6 at *;rw[List.flatMap_cons,Zt,List.sum_append,Z5,List.sum_cons,ZBN]
  have:(t.kids.map Tr.size).sum+1=t.size:=by
   cases t with
   | say i=>rfl
   | ask q n y=>show(n.size+(y.size+0))+1=1+n.size+y.size;lia
  lia
theorem Xo(L:List Tr):(L.flatMap Tr.kids).length<=2 * L.length:=by
 induction L with
 | nil=>exact Zu _
 | cons t L ih =>
  rw[List.flatMap_cons,Zy,ZBN]
  have:t.kids.length<=2:=by cases t <;> simp[Tr.kids]
  lia
theorem Y9{t k:Tr}(h:t.ok m)(hk:k∈t.kids):k.ok m/\k.deep+1<=t.deep:=by
 cases t with
 | say i=>cases hk
 | ask q n y =>
  have hk:k∈[n,y]:=hk;simp only[Zh,ZCY,or_false]at hk
  rcases hk with rfl | rfl
  ·exact⟨h.2.1,by show k.deep+1<=1+max k.deep y.deep;lia⟩
  ·exact⟨h.2.2,by show k.deep+1<=1+max n.deep k.deep;lia⟩
theorem LW:∀M:List Tr,A8 (M.map Tr.dv)=true
 | []=>by unfold A8;rfl
 | t::M=>by
  rw[Z5];unfold A8;rw[t.tups,LW M];rfl
theorem YS{zu c':Addr}{vA:V}{qual x:Str}{fdl:FuncData}(FV_has_form:FnOk P w K mg base CX0 6 zu fdl [x] (B9 c' qual (E9 K vA)))(KV_has_form:GQ K base zu)(BV_has_form:Binds K fdl [x] []) :
 Ok_ P w base T.z55 8 (II K T.z37.f T.z30.f zu c' qual vA):=by
 have FV_parts_within:=@W5 P w K mg base T;have FV_is_beyond:=@W6 P w K mg base T;have KV_parts_within:GQ K base T.z37.f:=.inl T.z37.F.kp;have KV_is_beyond:GQ K base T.z30.f:=.inl T.z30.F.kp;have BV_parts_within:=T.z37.b;have BV_is_beyond:=T.z30.b;refine T.z55.F.ok sc_z55 (fun vs H Q E h=>by unfold II at h;walk_at "e") ?_;walk_at "f";have mo1:AK (B9 c' qual (E9 K vA)):=Wm SL;have mo2:AK (FO K):=Ur;have mo3:AK ET:=ZS;have RV_has_form:=hr.mono (show 6<=_ by decide);have RV_parts_within:=hr.mono (show 1<=_ by decide);have RV_is_beyond:=hr.mono (show 1<=_ by decide)
 match vs,h with
 | [.ref a,.ref b,.ref c,v],h =>
 obtain⟨e1,e2,e3,hcd,ls,rs,t,hg,G,hv,hok,hdp,hsz,q⟩:=h;subst e1 e2 e3;refine⟨_,(@AF _ _ _ _ _ (@AR _ _ 4 _ _ _ _ sc_z55.nd rfl (by right) (@Ca _ _ _ _ (AA (vv 3) AB)) (by rfl) (by walk_at "i")) (@AF _ _ _ _ _ (@AR _ _ 5 _ _ _ _ sc_z55.nd rfl (by right) AC (by rfl) (by walk_at "i")) (@AF _ _ _ _ _ (@AR _ _ 6 _ _ _ _ sc_z55.nd rfl (by right) AC (by rfl) (by walk_at "i")) (@AF _ _ _ _ _ (@HJ _ _ _ _ _ _ PassesOwn.never (Af Bm (Aa (BG (K:=K)) rfl T.zR (by rfl) (AA (vv 4) AB)) AC) (@AF _ _ _ _ _ (@Ao _ _ _ _ _ _ _ _ (A9 (K7 (vv 2) FV_is_beyond RV_is_beyond KV_is_beyond BV_is_beyond (AA (vv 6) (AA (vv 5) AB)))) (@AH _ _ _ (@AL _ _ _ _ Au)) Aq) (@AF _ _ _ _ _ (@AR _ _ 7 _ _ _ _ sc_z55.nd rfl (by right) (@Ca _ _ _ _ AB) (by rfl) (by walk_at "i")) (@AF _ _ _ _ _ (@Bk _ _ _ _ _ _ _ _ PassesOwn.never rfl (BH (K:=K) (vv 4)) (AN (i:=8) sc_z55.nd rfl (by right)) (@AF _ _ _ _ _ (@Ao _ _ _ _ _ _ _ _ (Bw (A9 (K7 (vv 0) FV_has_form RV_has_form KV_has_form BV_has_form (AA (vv 8) AB)))) (@AH _ _ _ (@AL _ _ _ _ Au)) Aq) (@AH _ _ _ (@Ge _ _ _ _ (Qu (K:=K) (vv 7) (AA (K7 (vv 1) FV_parts_within RV_parts_within KV_parts_within BV_parts_within (AA (vv 8) AB)) AB)) (by rfl)))) (by intro _;rfl)) (@AF _ _ _ _ _ (@AR _ _ 4 _ _ _ _ sc_z55.nd rfl (by right) (vv 7) (by rfl) (by walk_at "i")) (@AF _ _ _ _ _ (@AR _ _ 5 _ _ _ _ sc_z55.nd rfl (by right) (AU (Bi (K:=K)) (vv 5) AC) (by rfl) (by walk_at "i")) (@AH _ _ _ (@AR _ _ 6 _ _ _ _ sc_z55.nd rfl (by right) (AU (Bi (K:=K)) (vv 6) (Aa (BG (K:=K)) rfl T.zR (by rfl) (AA (vv 4) AB))) (by rfl) (by walk_at "i"))))))))) (@AH _ _ _ (@AL _ _ _ _ Au)))))),?_⟩;refine⟨smq rfl,fun l nl=>?_⟩;dsimp only[Ak]
 refine⟨fun mm Z H'=>∃(l:Addr) (L:List Tr) (xs:List V) (d mn:Nat) (z7 z8:Option V),mm=17 - d/\Z=[some (.ref a),some (.ref T.z37.f),some (.ref T.z30.f),some v,some (.ref l),some (.int d),some (.int mn),z7,z8]/\zc H H'/\H l=none/\H' l=some (.lst xs)/\zf K H' (L.map Tr.dv) xs /\
  (∀u∈L,u.ok rs.length/\d+u.deep<=17)/\mn+D6 L<=2000+L.length/\L.length<=mn/\1<=d,⟨17 - 1,l,[t],[v],1,1,none,none,rfl,rfl,zc.upd nl,nl,AD,Aw (zh.same (zc.upd nl) _ _ hv) BF,?_,?_,Zf _,Zf _⟩,?_⟩
 ·intro u hu';rw[Zq]at hu';subst hu';exact⟨hok,by lia⟩
 ·show 1+(t.size+0)<=2000+1;lia
 rintro mm Z H1 ⟨l1,L,xs,d,mn,z7,z8,rfl,rfl,s1,nl1,g1,hx,hL,hmn,hLm,hd1⟩;have hxl:=hx.length;rw[Ze]at hxl;have hsg:=Jx L;refine⟨xs.length,.inl ⟨xs,.of g1,rfl⟩,?_⟩;refine Ab (fun e=>?_) (fun e=>?_)
 ·have hpos:0 < L.length:=by
   have:(0:Int) < (xs.length:Int):=Zn e
   lia
  obtain⟨u0,hu0⟩:∃u,u∈L:=⟨L[0],ZBK hpos⟩
  have hd16:d<=16:=by
   have:=(hL u0 hu0).2
   have:=u0.deep_pos
   lia
  refine⟨rfl,?_⟩
  have e0:(decide ((2000:Int) < (mn:Int)) || decide ((16:Int) < (d:Int)))=false:=by
   rw[ZBC (by lia),ZBC (by lia)];rfl
  show(if (decide ((2000:Int) < (mn:Int)) || decide ((16:Int) < (d:Int)))=true then _ else _)
  rw[e0];refine Wr ?_;dsimp only[Fj];have hL2:L.length<=2000:=by lia
  refine⟨Zu _,fun b nb=>?_⟩;dsimp only[Ak];have nb0:H b=none:=s1.free nb;have hbl:b≠l1:=fun z=>by rw[z,g1]at nb;cases nb
  refine Ad (fun Z H'=>∃(ys:List V) (z8:Option V),Z=[some (.ref a),some (.ref T.z37.f),some (.ref T.z30.f),some v,some (.ref l1),some (.int d),some (.int mn),some (.ref b),z8]/\zc H H'/\H' b=some (.lst ys)/\zf K H' ((L.flatMap Tr.kids).map Tr.dv) ys) ?_ ?_ (by walk_at "sm")
  ·refine .inl ⟨⟨_,.inl (.of (by rw[AI (Ne.symm hbl)];exact g1))⟩,?_⟩;refine NC (xs:=xs) (fun j Z H'=>∃(ys:List V) (z8:Option V),Z=[some (.ref a),some (.ref T.z37.f),some (.ref T.z30.f),some v,some (.ref l1),some (.int d),some (.int mn),some (.ref b),z8]/\zc H H'/\H' l1=some (.lst xs)/\H' b=some (.lst ys)/\zf K H' (((L.take j).flatMap Tr.kids).map Tr.dv) ys/\zf K H' (L.map Tr.dv) xs) ⟨[],z8,rfl,LK s1 nb0,by rw[AI (Ne.symm hbl)];exact g1,AD,BF,zf.same (zc.upd nb) _ _ hx⟩ (fun j Z H' _ ⟨_,_,_,_,g,_⟩=>.inl (.of g)) ?_ ?_
   ·rintro j xv Z H2 hxj ⟨ys,z8',rfl,s2,g2,gb2,hy,hx2⟩;obtain⟨dd,hdd,rdd⟩:=O5 hx2 hxj;rw[Zm]at hdd;obtain⟨u,hu',rfl⟩:=ZCi.mp hdd;have hum:=ZBQ hu';refine⟨rfl,s2 _ _ hcd,ls,rs,u,zh.same s2 _ _ hg,G,rdd,(hL u hum).1,?_⟩;refine⟨.inl ⟨rfl,_,.of gb2⟩,rfl,u,rdd,fun p zs H3 s3 hp3 hz3=>?_⟩;have hyl:=hy.length;rw[Ze]at hyl;have hkl:=Xo (L.take j);rw[Z7]at hkl;have hzl:=hz3.length;rw[Ze]at hzl;have hul:u.kids.length<=2:=by cases u <;> simp[Tr.kids]
    have f3:zp b H3 (upd H3 b (.lst (ys++zs))):=fun b' o n e=>by rw[AI n];exact e
    have lb:∃ws,H3 b=some (.lst ws):=⟨_,s3 _ _ gb2⟩;have fz:=fun(M:List Tr) (ws:List V) (r:zf K H2 (M.map Tr.dv) ws)=>zf.frm f3 lb _ _ (LW M) (zf.same s3 _ _ r)
    refine⟨ys,zs,s3 _ _ gb2,hp3,by lia,ys++zs,_,rfl,LK (s2.trans s3) nb0,by rw[AI (Ne.symm hbl)];exact s3 _ _ g2,AD,?_,fz L xs hx2⟩;rw[ZBB,hu',List.flatMap_append,Zt];refine(fz _ _ hy).append ?_;have e0:((some u).toList.flatMap Tr.kids)=u.kids:=by simp
    rw[e0];exact fz _ _ hz3
   ·rintro Z H2 ⟨ys,z8',rfl,s2,g2,gb2,hy,_⟩;rw[<- hxl,ZBT]at hy;exact⟨ys,_,rfl,s2,gb2,hy⟩
  rintro Z H2 ⟨ys,z8',rfl,s2,gb2,hy⟩;have hyl:=hy.length;rw[Ze]at hyl;refine⟨ys.length,.inl ⟨ys,.of gb2,rfl⟩,?_⟩;have hsk:=Ov L;have hkg:=Jx (L.flatMap Tr.kids);refine⟨17 - (d+1),by lia,b,L.flatMap Tr.kids,ys,d+1,mn+ys.length,_,_,rfl,rfl,s2,nb0,gb2,hy,fun k hk=>?_,by lia,by lia,by lia⟩;obtain⟨u,hu',hku⟩:=List.mem_flatMap.mp hk;have h1:=Y9 (hL u hu').1 hku;have h2:=(hL u hu').2;exact⟨h1.1,by lia⟩
 ·have hz:L.length=0:=by
   have:¬(0:Int) < (xs.length:Int):=fun z=>e (Zl z)
   lia
  exact q H1 s1
noncomputable def QQ(b:List Stmt):Expr:=match b with
 | [.Return (some (.Call _ (l::_) _ _)) _]=>l
 | _=>.Name "" ⟨0,0,0,0⟩
noncomputable def KN(e:Expr):Arguments:=match e with
 | .Lambda p _ _ _=>p
 | _=>{ posonlyargs:=[],args:=[],vararg:=none,kwonlyargs:=[],kw_defaults:=[],kwarg:=none,defaults:=[] }
noncomputable def JJ(e:Expr):Expr:=match e with
 | .Lambda _ b _ _=>b
 | e=>e
noncomputable def FP(e:Expr):Scope:=match e with
 | .Lambda _ _ s _=>s
 | _=>{ kind:=.function,names:=[],isGenerator:=false,isCoroutine:=false }
noncomputable def CO:Expr:=QQ (Bc Ct)
theorem SA(T:Txt K mg){zu cell c':Addr}{pm ctv uA:Value}{vA:V}(hl:base.get? zu=some (W.kla_obj "<lambda>" CS (KN CO) (JJ CO) (FP CO) [("game",cell)] pm c' ctv))(hc:base.IsCell cell (some uA))(rA:zi vA uA) :
 FnOk P w K mg base CX0 6 zu (W.kla_fn "<lambda>" CS (KN CO) (JJ CO) (FP CO) [("game",cell)] pm (.ref c') ctv) ["part"] (B9 c' CS (E9 K vA)):=by
 refine SK (k:=5) hl hc rA rfl rfl ?_ rfl rfl rfl ?_ fun A outer s H v Q hr h=>?_
 ·intro y hy;have h:=ZBW.mp (show(FP CO).names.all (fun p=>p.2 != .free || p.1 == "game")=true by decide +kernel) _ (PySem.mem_of_lookup hy);simpa using h
 ·decide +kernel
 obtain⟨ls,rs,t,hg,G,hv,hok,q⟩:=h;obtain⟨a,tl,rl,ps,rfl,g⟩:=DR hg;refine⟨_,(AM (@Uo P w K mg base T) (hr.mono (show 3<=_ by decide)) rfl T.z36.m T.z36.F.kp T.z36.b .nil AG (AA (Aa (BG (K:=K)) rfl T.zR (by rfl) (AA (zw (K:=K) (vv 1) AC) AB)) (AA (vv 0) AB))),?_⟩;exact⟨_,_,.inr g.two,Ae (n:=1) rfl rfl,rs.length,.inr ⟨_,g.rows,by rw[Ze,g.len]⟩,rs.length,t,rfl,hv,hok,q⟩
noncomputable def ED(K:W.Frag)(Pt:Addr):Sp:=fun vs H Q _=>match vs with
 | [u,v]=>∃ls rs t,zh K H (gmD ls rs) u/\Gm ls rs/\zh K H (Tr.dv t) v/\t.ok rs.length/\t.deep<=16/\t.size<=2000/\zA Pt Ft CS H/\∀H',zx Pt H H'->zA Pt Ft CS H'->Q (.bl true) H'
 | _=>False
theorem WY:AK (ED K Pt):=fun vs H Q Q' E h q=>by
 unfold ED at *;walk_at "q"
theorem RV(B:BMn mg base):Ok_ P w base T.z65 9 (ED K T.yb):=by
 refine T.z65.F.okC T.Z0f Qh (fun vs H Q E h=>by unfold ED at h;walk_at "e") (fun A outer s H vs Q E hr h=>?_);have hu:=AT hr;unfold ED at h;walk_at "g"
 rename_i u v;obtain⟨ls,rs,t,hg,G,hv,hok,hdp,hsz,hL,q⟩:=h;let spK:Addr->Addr->V->Sp:=fun zu c' vA=>II K T.z37.f T.z30.f zu c' CS vA
 have hFL:∀(base':Heap) (zu cell c':Addr) (pm ctv uA:Value) (vA:V),(∀b o,base.get? b=some o->base'.get? b=some o)->base'.get? zu=some (W.kla_obj "<lambda>" CS (KN CO) (JJ CO) (FP CO) [("game",cell)] pm c' ctv)->base'.IsCell cell (some uA)->zi vA uA->FnOk P w K mg base' CX0 8 T.z55.f T.z55.d ["has_form","parts_within","is_beyond","thing"] (spK zu c' vA) :=
  fun base' zu cell c' pm ctv uA vA _ hl hc rA=>YS (base:=base') T (SA (base:=base') T hl hc rA) (.inr ⟨_,_,hl,rfl⟩) (.all fun us hl=>match us,hl with | [_],_=>rfl)
 have hclL:∀cell,(PyProof.Rows.envOfC "is_tree" (AJ Ct) s.heap.objs.size T.z65.f (.ref T.ym)).cells.lookup (PySem.Str.ofString "game")=some cell->closureFor (FP CO) (PyProof.Rows.envOfC "is_tree" (AJ Ct) s.heap.objs.size T.z65.f (.ref T.ym))=pure [((PySem.Str.ofString "game" : Str),cell)]:=fun cell h=>by
  have e:some (s.heap.objs.size+1)=some cell:=h;cases e;rfl
 refine⟨_,(@AH _ _ _ (@AL _ _ _ _ (RD (c:=T.ym) (Pt:=T.yb) (qual:=CS) (i:=0) (a:="game") (spK:=spK) rfl T.z55.m T.z55.F.kp (hr.mono (show 8<=_ by decide)) T.z55.b rfl T.Z0d B rfl rfl rfl hclL rfl rfl hFL (AA (HB (v:=.ref T.z37.f) rfl T.z37.m rfl) (AA (HB (v:=.ref T.z30.f) rfl T.z30.m rfl) (AA (vv 1) AB)))))),?_⟩;refine⟨u,rfl,hL,fun zu c' H1 g1 l1 hc1 hn1=>?_⟩;obtain⟨pz,hP,_⟩:=id hL;exact⟨rfl,rfl,rfl,hc1,ls,rs,t,zh.tab g1 hP _ _ hg,G,zh.tab g1 hP _ _ hv,hok,hdp,hsz,fun H' s'=>q H' (g1.trans (zx.same s')) (l1.same s')⟩
theorem O1{ps:Array Value}(T:Tape K H t a ns)(hP:H Pt=some (.tbl ps))(G:zx Pt H H'):Tape K H' t a ns:=by
 obtain⟨i,r,c,h1,h2,h3⟩:=T.at_;refine⟨⟨i,r,c,h1,h2,G _ _ (fun e=>by rw[e,hP]at h3;cases h3) h3⟩,?_⟩
 rcases T.scr with ⟨h | ⟨o,h⟩,n⟩ | h
 ·exact .inl ⟨.inl (G _ _ (fun e=>by rw[e,hP]at h;cases h) h),n⟩
 ·exact .inl ⟨.inr ⟨o,G _ _ (fun e=>by rw[e,hP]at h;cases h) h⟩,n⟩
 ·exact .inr h
theorem VM{pos:Pos}(l:zA Pt pos q H)(F:∃zs,H t=some (.lst zs))(f:zp t H H'):zA Pt pos q H':=by
 obtain⟨ps,h1,h2,h3⟩:=l;obtain⟨zs,hz⟩:=F;refine⟨ps,f _ _ (fun e=>by rw[e,hz]at h1;cases h1) h1,h2,?_⟩
 rcases h3 with h3 | ⟨c',h4,h5⟩
 ·exact .inl h3
 ·exact .inr ⟨c',h4,f _ _ (fun e=>by rw[e,hz]at h5;cases h5) h5⟩
theorem HF{pos:Pos}(l:zA Pt pos q H)(F:Tape K H t a ns)(f:zp t H H'):zA Pt pos q H':=VM l F.lst f
noncomputable def B5(rs:List (List Bool))(q k:Nat):Bool:=gB (rs.getD q []) k
noncomputable def Tr.end_(rs:List (List Bool))(k:Nat):Tr->Int
 | .say i=>i
 | .ask q n y=>if B5 rs q k=true then y.end_ rs k else n.end_ rs k
noncomputable def Tr.many(rs:List (List Bool))(k:Nat):Tr->Nat
 | .say _=>0
 | .ask q n y=>1+(if B5 rs q k=true then y.many rs k else n.many rs k)
noncomputable def D9(K:W.Frag):Sp:=fun vs H Q _=>match vs with
 | [u,v,.int z]=>∃ls rs t k,zh K H (gmD ls rs) u/\Gm ls rs/\zh K H (Tr.dv t) v/\t.ok rs.length/\z=(k:Nat)/\k < ls.length/\∀p H',zc H H'->H' p=some (.tup [.int (t.end_ rs k),.int (t.many rs k:Nat)])->Q (.ref p) H'
 | _=>False
theorem OP:AK (D9 K):=fun vs H Q Q' E h q=>by
 unfold D9 at *;walk_at "q"
theorem MO:Ok_ P w base T.z72 1 (D9 K):=by
 refine T.z72.F.ok sc_z72 (fun vs H Q E h=>by unfold D9 at h;walk_at "e") ?_;walk_at "f"
 match vs,h with
 | [u,v,.int z],⟨ls,rs,t,k,hg,G,hv,hok,e1,hk,q⟩ =>
 subst e1;obtain⟨a,tl,rl,ps,rfl,g⟩:=DR hg;refine⟨_,(@AF _ _ _ _ _ (@AR _ _ 3 _ _ _ _ sc_z72.nd rfl (by right) (vv 1) (by rfl) (by walk_at "i")) (@AF _ _ _ _ _ (@AR _ _ 4 _ _ _ _ sc_z72.nd rfl (by right) AC (by rfl) (by walk_at "i")) (@AF _ _ _ _ _ (@HJ _ _ _ _ _ _ PassesOwn.never (Af (kEq (K:=K) hu) (zw (K:=K) (vv 3) AC) EN) (@AF _ _ _ _ _ (@AR _ _ 3 _ _ _ _ sc_z72.nd rfl (by right) (C3 (A9 (zw (K:=K) (zw (K:=K) (zw (K:=K) (vv 0) AC) (zw (K:=K) (vv 3) AC)) (vv 2))) (zw (K:=K) (vv 3) AC) (zw (K:=K) (vv 3) AC)) (by rfl) (by walk_at "i")) (@AH _ _ _ (@AR _ _ 4 _ _ _ _ sc_z72.nd rfl (by right) (AU (Bi (K:=K)) (vv 4) AC) (by rfl) (by walk_at "i"))))) (@AH _ _ _ (@AL _ _ _ _ (CG (AA (zw (K:=K) (vv 3) AC) (AA (vv 4) AB)))))))),?_⟩;refine⟨fun mm Z H'=>∃(t':Tr) (x:V) (c:Nat),mm=t'.size/\Z=[some (.ref a),some v,some (.int k),some x,some (.int c)]/\H'=H/\zh K H t'.dv x/\t'.ok rs.length/\c+t'.many rs k=t.many rs k/\t'.end_ rs k=t.end_ rs k,⟨_,t,v,0,rfl,rfl,rfl,hv,hok,Nat.zero_add _,rfl⟩,?_⟩;rintro mm Z H1 ⟨t',x,c,rfl,rfl,rfl,hx,hok',hc,he⟩;cases t' with
 | say i =>
  obtain⟨p,rfl,hp⟩:=K4 hx;refine⟨_,_,.inr hp,Ae (n:=0) rfl rfl,?_⟩;refine⟨_,_,.inr hp,Ae (n:=1) rfl rfl,smq rfl,fun p1 n1=>q p1 _ (zc.upd n1) ?_⟩;have e1:i=t.end_ rs k:=he;have e2:c+0=t.many rs k:=hc;rw[<- e1,<- e2];exact AD
 | ask q0 n y =>
  obtain⟨p,x2,x3,rfl,hp,r2,r3⟩:=KO hx;have hq:q0 < rs.length:=hok'.1;have hb:ps[q0]? = some (ps.getD q0 0):=by simp[Zw,show q0 < ps.length by rw[g.len];exact hq]
  have hr0:rs[q0]? = some (rs.getD q0 []):=by simp[Zw,hq]
  have hrow:=g.row q0 _ _ hb hr0;have hrl:(rs.getD q0 []).length=ls.length:=G.row _ (ZBQ hr0);refine⟨_,_,.inr hp,Ae (n:=0) rfl rfl,?_⟩;refine⟨_,.ref rl,.inr g.two,rfl,_,_,.inr hp,Ae (n:=1) rfl rfl,_,.ref (ps.getD q0 0),.inr g.rows,Ae rfl (by rw[Zm,hb];rfl),_,.bl (gB (rs.getD q0 []) k),.inr hrow,Ed (by rw[hrl];exact hk),?_⟩;have hm:(Tr.ask q0 n y).many rs k=1+(if B5 rs q0 k=true then y.many rs k else n.many rs k):=rfl;have hE:(Tr.ask q0 n y).end_ rs k=(if B5 rs q0 k=true then y.end_ rs k else n.end_ rs k):=rfl;rw[hm]at hc;rw[hE]at he;refine Ab (fun e=>?_) (fun e=>?_)
  ·have e':B5 rs q0 k=true:=e;rw[if_pos e']at hc he;exact⟨_,_,.inr hp,Ae (n:=3) rfl rfl,y.size,by show y.size < 1+n.size+y.size;lia,y,x3,c+1,rfl,rfl,rfl,r3,hok'.2.2,by lia,he⟩
  ·have e':¬B5 rs q0 k=true:=e;rw[if_neg e']at hc he;exact⟨_,_,.inr hp,Ae (n:=2) rfl rfl,n.size,by show n.size < 1+n.size+y.size;lia,n,x2,c+1,rfl,rfl,rfl,r2,hok'.2.1,by lia,he⟩
noncomputable def CL(ls:List Int)(rs:List (List Bool))(z:Int)(t:Tr)(k:Nat):Bool:=decide (t.end_ rs k=AE ls k) && decide ((t.many rs k:Int)<=z)
noncomputable def Ea(K:W.Frag):Sp:=fun vs H Q _=>match vs with
 | [u,.int z,v,.int h]=>∃ls rs t k,zh K H (gmD ls rs) u/\Gm ls rs/\zh K H (Tr.dv t) v/\t.ok rs.length/\h=(k:Nat)/\k < ls.length/\∀H',zc H H'->Q (.bl (CL ls rs z t k)) H'
 | _=>False
theorem XO:AK (Ea K):=fun vs H Q Q' E h q=>by
 unfold Ea at *;walk_at "q"
theorem Tj:Ok_ P w base T.z43 2 (Ea K):=by
 refine T.z43.F.ok sc_z43 (fun vs H Q E h=>by unfold Ea at h;walk_at "e") ?_;walk_at "f";unfold Ea at h;walk_at "g"
 rename_i u z v h0;obtain⟨ls,rs,t,k,hg,G,hv,hok,e1,hk,q⟩:=h;subst e1;have mo:AK (D9 K):=OP;refine⟨_,(@AF _ _ _ _ _ (@AR _ _ 4 _ _ _ _ sc_z43.nd rfl (by right) (AM (@MO P w K mg base T) (hr.mono (show 1<=_ by decide)) rfl T.z72.m T.z72.F.kp T.z72.b .nil AG (AA (vv 0) (AA (vv 2) (AA (vv 3) AB)))) (by rfl) (by walk_at "i")) (@AH _ _ _ (@AL _ _ _ _ (CP (BD (kEq (K:=K) hu) (zw (K:=K) (vv 4) AC) (zw (K:=K) (zw (K:=K) (vv 0) AC) (vv 3))) (Bx (BD FU (zw (K:=K) (vv 4) AC) (vv 1))))))),?_⟩;refine⟨ls,rs,t,k,hg,G,hv,hok,rfl,hk,fun p H1 s1 g1=>?_⟩;dsimp only[Ak];obtain⟨a,tl,rl,ps,rfl,g⟩:=DR (zh.same s1 _ _ hg);refine⟨_,_,.inr (.of g1),Ae (n:=0) rfl rfl,_,.ref tl,.inr g.two,rfl,_,_,.inr g.lab,Fs hk,?_⟩;have e:CL ls rs z t k=(decide (t.end_ rs k=AE ls k) && decide ((t.many rs k:Int)<=z)):=rfl;have q':=q H1 s1;rw[e]at q';generalize t.end_ rs k=x at *;generalize AE ls k=y at *;generalize ((t.many rs k:Nat):Int)=m at *;have e2:(false ^^ (x == y))=decide (x=y):=by rw[ZBn];rfl
 show if (false ^^ (x == y))=true then _ else _
 rw[e2];refine Ab (fun h=>?_) (fun h=>?_)
 ·refine⟨_,_,.inr (.of g1),Ae (n:=1) rfl rfl,?_⟩;rw[h,ZCG]at q';exact q'
 ·have:decide (x=y)=false:=by simpa using h
  rw[this,ZCH]at q';exact q'
noncomputable def Ev(K:W.Frag)(Pt:Addr):Sp:=fun vs H Q _=>match vs with
 | [u,.int z,v]=>∃ls rs t,zh K H (gmD ls rs) u/\Gm ls rs/\zh K H (Tr.dv t) v/\t.ok rs.length/\(t.deep<=16/\t.size<=2000)/\zA Pt Ft CS H/\∀H',zx Pt H H'->zA Pt Ft CS H'->Q (.bl ((List.range ls.length).all (CL ls rs z t))) H'
 | _=>False
theorem Sn:AK (Ev K Pt):=fun vs H Q Q' E h q=>by
 unfold Ev at *;walk_at "q"
theorem QT(B:BMn mg base):Ok_ P w base T.z48 10 (Ev K T.yb):=by
 refine T.z48.F.ok Rc (fun vs H Q E h=>by unfold Ev at h;walk_at "e") ?_;walk_at "f";have mo1:AK (ED K T.yb):=WY;have mo2:AK (Ea K):=XO;unfold Ev at h;walk_at "g"
 rename_i u z v;obtain⟨ls,rs,t,hg,G,hv,hok,hs,hL,q⟩:=h;refine⟨_,(@AF _ _ _ _ _ (@Ao _ _ _ _ _ _ _ _ (Bw (A9 (AM (@RV P w K mg base T B) (hr.mono (show 9<=_ by decide)) rfl T.z65.m T.z65.F.kp T.z65.b .nil AG (AA (vv 0) (AA (vv 2) AB))))) (@AH _ _ _ (@AL _ _ _ _ Au)) Aq) (@AH _ _ _ (@AL _ _ _ _ (Aa (Iq (K:=K) rfl) rfl T.yf (by rfl) (AA (Az (N':=["hidden","game","d","thing"]) (own:=1) (ix:=[0,1,2]) rfl (BP rfl T.zH (AA (Aa (BG (K:=K)) rfl T.zR (by rfl) (AA (zw (K:=K) (vv 0) AC) AB)) AB)) (by kernel_rfl) rfl rfl (by kernel_rfl) (fun c=>AN (i:=0) (show(["hidden","game","d","thing"]:List Str).Nodup by decide +kernel) rfl (by right)) (AX (by decide)) (fun c=>Av) (fun c=>(AM (@Tj P w K mg base T) (hr.mono (show 2<=_ by decide)) rfl T.z43.m T.z43.F.kp T.z43.b .nil AG (AA (vv 1) (AA (vv 2) (AA (vv 3) (AA (vv 0) AB))))))) AB))))),?_⟩;obtain⟨pz,hP,_⟩:=id hL;refine⟨ls,rs,t,hg,G,hv,hok,hs.1,hs.2,hL,fun H1 g1 L1=>?_⟩;have l16:=G.l16;have hg1:=zh.tab g1 hP _ _ hg;have hv:=zh.tab g1 hP _ _ hv;obtain⟨a,tl,rl,ps,rfl,g⟩:=DR hg1;refine⟨_,.ref tl,.inr g.two,rfl,ls.length,.inr ⟨_,g.lab,by rw[Ze]⟩,ls.length,rfl,by lia,by lia,?_⟩;refine CM (fun j ys H'=>zc H1 H'/\ys=((List.range j).map (CL ls rs z t)).map V.bl) ⟨zc.refl _,rfl⟩ (fun j ys H' hj ⟨_,e⟩=>by rw[e,Ze,Ze,ZBk];exact Aj (by lia)) ?_ ?_
 ·rintro j ys H2 hj ⟨s2,rfl⟩;rw[Z6]at hj;refine⟨ls,rs,t,j,zh.same s2 _ _ hg1,G,zh.same s2 _ _ hv,hok,by rw[ZBw],hj,fun H3 s3=>⟨s2.trans s3,?_⟩⟩;rw[ZBq,Zt,Zt];rfl
 ·rintro ys H2 ⟨s2,rfl⟩ l nl;rw[Z6];refine⟨(List.range ls.length).map (CL ls rs z t),.of AD,?_⟩;have s3:=s2.trans (zc.upd (o:=.lst (((List.range ls.length).map (CL ls rs z t)).map V.bl)) nl);rw[show((List.range ls.length).map (CL ls rs z t)).all id=(List.range ls.length).all (CL ls rs z t) by rw[List.all_map];rfl];exact q _ (g1.trans (zx.same s3)) (L1.same s3)
theorem ln8(a b c d:V):(Bf a b c d).lookup ("label_of" : Str)=none:=by rfl
theorem ln9(a b c d:V):(Bf a b c d).lookup ("first_question" : Str)=none:=by rfl
theorem lnA(a b c d:V):(Bf a b c d).lookup ("harder_lefts" : Str)=none:=by rfl
theorem lnB(a b c d:V):(Bf a b c d).lookup ("everything" : Str)=none:=by rfl
noncomputable def Dx(ls:List Int)(ys:List Nat):Tr->Nat->Prop
 | .say i,S=>One (AE ls) S.testBit/\∃k,S.testBit k=true/\i=AE ls k
 | .ask q n y,S=>¬One (AE ls) S.testBit/\FirstQ ls ys S q/\Dx ls ys n (S - (S &&& ys.getD q 0))/\Dx ls ys y (S &&& ys.getD q 0)
noncomputable def DH(K:W.Frag)(C Pt:Addr)(c:Nat):Sp:=fun vs H Q _=>match vs with
 | [.ref p,.int z]=>∃ls ys d S,RkAt K C ls ys H p d/\z=(S:Nat)/\S < 2 ^ ls.length/\S≠0/\(∃n,Can (AE ls) (AV ys) n S.testBit)/\AS ls.length S.testBit < c/\zA Pt F9 B8 H /\
  ∀(t:Tr) v H',Dx ls ys t S->zh K H' t.dv v->RkAt K C ls ys H' p d->FrX [d,Pt] H H'->zA Pt F9 B8 H'->Q v H'
 | _=>False
theorem Vd(h:BC S.testBit y.testBit):S &&& y≠0/\S - (S &&& y)≠0:=by
 obtain⟨⟨i,h1,h2⟩,j,h3,h4⟩:=h;constructor
 ·intro z
  have:(S &&& y).testBit i=true:=by rw[ZBS,h1,h2];rfl
  rw[z]at this;simp at this
 ·intro z
  have:(S - (S &&& y)).testBit j=true:=by rw[Ff,h3,h4];rfl
  rw[z]at this;simp at this
theorem WZ(B:BMn mg base)(c:Nat)(G_z54:Ok_ P w base T.z54 (78+c) (DH K T.zC T.zY c)) :
 FnOk P w K mg base CX0 (78+(c+1)) T.z54.f T.z54.d ["reckoner","things"] (DH K T.zC T.zY (c+1)):=by
 have G_z27:=@KR P w K mg base T;refine T.z54.F.ok sc_z54 (fun vs H Q E h=>by unfold DH at h;walk_at "e") ?_;walk_at "f";have hr_z18:=hr.mono (show 2<=78+c by lia);have hr_z26:=hr.mono (show 5<=78+c by lia);have hr_z27:=hr.mono (show 1<=78+c by lia);have hr_z17:=hr.mono (show 77<=78+c by lia);have hr_z54:=hr;unfold DH at h;walk_at "g"
 rename_i p z;obtain⟨ls,ys,d,S,R,e1,hS,h0,⟨n,hc⟩,hk,hL,q⟩:=h;subst e1;obtain⟨dx,tl,yl,al,as,zd,h1,_⟩:=id R.at_;refine⟨_,(@AF _ _ _ _ _ (@Ao _ _ _ _ _ _ _ _ (A9 (Ay (vv 0) T.zE T.z18.m (@Mm P w K mg base T) hr_z18 T.z18.b .nil AG (AA (vv 1) AB))) (@AH _ _ _ (@AL _ _ _ _ (CG (AA EN (AA (Ay (vv 0) T.zE T.z26.m (@Xr P w K mg base T) hr_z26 T.z26.b .nil AG (AA (vv 1) AB)) AB))))) Aq) (@AF _ _ _ _ _ (@AR _ _ 2 _ _ _ _ sc_z54.nd rfl (by right) (Ay (vv 0) T.zE T.z17.m (@Tk P w K mg base T B) hr_z17 T.z17.b .nil AG (AA (vv 1) AB)) (by rfl) (by walk_at "i")) (@AF _ _ _ _ _ (@AR _ _ 3 _ _ _ _ sc_z54.nd rfl (by right) (AM G_z54 hr_z54 rfl T.z54.m T.z54.F.kp T.z54.b .nil AG (AA (vv 0) (AA (Ay (vv 0) T.zE T.z27.m G_z27 hr_z27 T.z27.b .nil AG (AA (vv 1) (AA (vv 2) (AA Au AB)))) AB))) (by rfl) (by walk_at "i")) (@AF _ _ _ _ _ (@AR _ _ 4 _ _ _ _ sc_z54.nd rfl (by right) (AM G_z54 hr_z54 rfl T.z54.m T.z54.F.kp T.z54.b .nil AG (AA (vv 0) (AA (Ay (vv 0) T.zE T.z27.m G_z27 hr_z27 T.z27.b .nil AG (AA (vv 1) (AA (vv 2) (AA Au AB)))) AB))) (by rfl) (by walk_at "i")) (@AH _ _ _ (@AL _ _ _ _ (CG (AA EN (AA (vv 2) (AA (vv 3) (AA (vv 4) AB))))))))))),?_⟩;refine⟨p,dx,_,rfl,h1,ln3 _ _ _ _,ls,ys,d,S,R,rfl,hS,fun b H1 hb s1=>?_⟩;have R1:=R.same s1;have h11:=s1 _ _ h1;have L1:=hL.same s1;cases b with
 | true =>
  refine⟨p,dx,_,rfl,h11,ln8 _ _ _ _,ls,ys,d,S,R1,rfl,hS,h0,fun k H2 hk2 s2=>⟨smq rfl,fun t ht=>?_⟩⟩;have s3:zc H2 (upd H2 t (.tup [.str (Str.ofString "say"),.int (AE ls k)])):=zc.upd ht;exact q (.say (AE ls k)) _ _ ⟨hb.mp rfl,k,hk2,rfl⟩ (EX (.of AD) (Aw (by unfold zh;rfl) (Aw (by unfold zh;rfl) BF))) ((R1.same s2).same s3) (.same (s1.trans (s2.trans s3))) ((L1.same s2).same s3)
 | false =>
  have ho:¬One (AE ls) S.testBit:=fun o=>nomatch hb.mpr o
  dsimp only[Fj];refine⟨p,dx,_,rfl,h11,ln9 _ _ _ _,ls,ys,d,S,R1,rfl,hS,⟨n,hc⟩,ho,L1,fun j H2 hj R2 f2 L2'=>?_⟩;dsimp only[Ak];obtain⟨y1,y2⟩:=Ej hj.mem;obtain⟨⟨a1,a2,a3⟩,b1,b2,b3⟩:=G4 hS hc y2 hk;obtain⟨n1,n2⟩:=Vd y2;obtain⟨dx2,tl2,yl2,al2,as2,kvs2,k2,_⟩:=id R2.at_;refine⟨p,dx2,_,rfl,k2,ln7 _ _ _ _,ls,ys,d,S,j,_,R2,rfl,rfl,y1,?_⟩;refine⟨ls,ys,d,_,R2,rfl,b1,n2,⟨n,b2⟩,b3,L2',fun tn vn H3 bt3 rp3 R3 f3 L3=>?_⟩;dsimp only[Ak];obtain⟨dx3,tl3,yl3,al3,as3,kvs3,k3,_⟩:=id R3.at_;refine⟨p,dx3,_,rfl,k3,ln7 _ _ _ _,ls,ys,d,S,j,_,R3,rfl,rfl,y1,?_⟩;refine⟨ls,ys,d,_,R3,rfl,a1,n1,⟨n,a2⟩,a3,L3,fun ty vy H4 bt4 rp4 R4 f4 L4=>⟨smq rfl,fun t ht=>?_⟩⟩;have O3:=Rg (U7 R3) (U9 L3);have s5:zc H4 (upd H4 t (.tup [.str (Str.ofString "ask"),.int (j:Nat),vn,vy])):=zc.upd ht;refine q (.ask j tn ty) _ _ ⟨ho,hj,bt3,bt4⟩ ?_ (R4.same s5) ((FrX.same s1).trans (f2.trans (f3.trans (f4.trans (.same s5))))) (L4.same s5);exact EX (.of AD) (Aw (by unfold zh;rfl) (Aw (by unfold zh;rfl) (Aw (zh.same s5 _ _ (f4.rep O3 tn.tups rp3)) (Aw (zh.same s5 _ _ rp4) BF))))
theorem Mj(B:BMn mg base):∀c:Nat,Ok_ P w base T.z54 (78+c) (DH K T.zC T.zY c)
 | 0=>by
  have no:∀vs H Q E,¬DH K T.zC T.zY 0 vs H Q E:=fun vs H Q E h=>by
   unfold DH at h;split at h
   ·obtain⟨ls,ys,d,S,_,_,_,_,_,z,_⟩:=h;exact absurd z (ZBt _)
   ·exact h
  exact⟨fun vs H Q E h=>(no _ _ _ _ h).elim,fun A outer s H args us vs Q E _ _ _ _ h=>(no _ _ _ _ h).elim⟩
 | c+1=>WZ T B c (Mj B c)
theorem Ry(B:BMn mg base):Ok_ P w base T.z54 95 (DH K T.zC T.zY 17):=Mj T B 17
noncomputable def CJ(ls:List Int)(ys:List Nat)(S j X:Nat):Prop :=
 (X=S &&& ys.getD j 0/\AZ ls ys (S - (S &&& ys.getD j 0)) < AZ ls ys (S &&& ys.getD j 0))\/(X=S - (S &&& ys.getD j 0)/\AZ ls ys (S &&& ys.getD j 0)<=AZ ls ys (S - (S &&& ys.getD j 0)))
section
variable {ls:List Int}{ys:List Nat}{S X Y j n:Nat}
theorem Rr(a:CJ ls ys S j X)(b:CJ ls ys S j Y):X=Y:=by
 rcases a with ⟨e,a⟩ | ⟨e,a⟩ <;> rcases b with ⟨f,b⟩ | ⟨f,b⟩ <;> lia
theorem MS(h:CJ ls ys S j X):AZ ls ys X=wst ls ys S j:=by
 unfold wst
 rcases h with ⟨rfl,h⟩ | ⟨rfl,h⟩ <;> lia
theorem VE(h:CJ ls ys S j X)(hS:S < 2 ^ n):X < 2 ^ n:=by
 have:=ZCR (n:=S) (m:=ys.getD j 0)
 rcases h with ⟨e,_⟩ | ⟨e,_⟩ <;> lia
theorem Vy(h:CJ ls ys S j X)(hc:Can (AE ls) (AV ys) n S.testBit):Can (AE ls) (AV ys) n X.testBit:=by
 obtain⟨c1,c2⟩:=Fp (ys.getD j 0) hc
 rcases h with ⟨rfl,_⟩ | ⟨rfl,_⟩
 ·exact c1
 ·exact c2
theorem PK(hj:j < ys.length)(hc:Can (AE ls) (AV ys) n S.testBit):AZ ls ys S<=1+wst ls ys S j:=by
 obtain⟨c1,c2⟩:=Fp (ys.getD j 0) hc;have c0:=CK hc;have c1:=CK c1;have c2:=CK c2;unfold wst;generalize AZ ls ys (S &&& ys.getD j 0)=b at *;generalize AZ ls ys (S - (S &&& ys.getD j 0))=e at *;rw[DT]at c1;rw[Ch]at c2;refine Sg (y:=(ys.getD j 0).testBit) (Zk.mpr ⟨_,?_,rfl⟩) c0 c1 c2;rw[Zw,Zg hj];exact ZBK hj
end
noncomputable def Ht(K:W.Frag)(C:Addr):Sp:=fun vs H Q _=>match vs with
 | [.ref p,.int z,.int i]=>∃ls ys d S j,RkAt K C ls ys H p d/\z=(S:Nat)/\S < 2 ^ ls.length/\(∃n,Can (AE ls) (AV ys) n S.testBit)/\i=(j:Nat)/\j < ys.length /\
  ∀(X:Nat) H',CJ ls ys S j X->RkAt K C ls ys H' p d->zp d H H'->Q (.int (X:Nat)) H'
 | _=>False
theorem Yh:Om_ P w mg base T.z22 73 (Ht K T.zC):=by
 have G_z27:=@KR P w K mg base T;have G_z19:=@IV P w K mg base T;refine T.z22.F.ok sc_z22 (fun vs H Q E h=>by unfold Ht at h;walk_at "e") ?_;walk_at "f";have hr_z27:=hr.mono (show 1<=_ by decide);have hr_z19:=hr.mono (show 72<=_ by decide);unfold Ht at h;walk_at "g"
 rename_i p z i;obtain⟨ls,ys,d,S,j,R,e1,hS,⟨n,hc⟩,e2,hj,q⟩:=h;subst e1 e2;have l16:=R.l16;have hy:ys[j]? = some (ys.getD j 0):=by rw[Zw,Zg hj];rfl
 obtain⟨c1,c2⟩:=Fp (ys.getD j 0) hc;have hle:=ZCR (n:=S) (m:=ys.getD j 0);have cd:∀U:Nat,AS ls.length U.testBit < 17:=fun U=>by have:=Eu ls.length U.testBit;lia
 obtain⟨dx,tl,yl,al,as,zd,h1,_⟩:=id R.at_;refine⟨_,(@AF _ _ _ _ _ (@AR _ _ 3 _ _ _ _ sc_z22.nd rfl (by right) (Ay (vv 0) T.zE T.z27.m G_z27 hr_z27 T.z27.b .nil AG (AA (vv 1) (AA (vv 2) (AA Au AB)))) (by rfl) (by walk_at "i")) (@AF _ _ _ _ _ (@AR _ _ 4 _ _ _ _ sc_z22.nd rfl (by right) (Ay (vv 0) T.zE T.z27.m G_z27 hr_z27 T.z27.b .nil AG (AA (vv 1) (AA (vv 2) (AA Au AB)))) (by rfl) (by walk_at "i")) (@AH _ _ _ (@AL _ _ _ _ (C3 (Af Bm (Ay (vv 0) T.zE T.z19.m G_z19 hr_z19 T.z19.b .nil AG (AA (vv 4) AB)) (Ay (vv 0) T.zE T.z19.m G_z19 hr_z19 T.z19.b .nil AG (AA (vv 3) AB))) (vv 4) (vv 3)))))),?_⟩;refine⟨p,dx,_,rfl,h1,ln7 _ _ _ _,ls,ys,d,S,j,_,R,rfl,rfl,hy,?_⟩;dsimp only[Ak];refine⟨p,dx,_,rfl,h1,ln7 _ _ _ _,ls,ys,d,S,j,_,R,rfl,rfl,hy,?_⟩;dsimp only[Ak];refine⟨p,dx,_,rfl,h1,ln1 _ _ _ _,ls,ys,d,S &&& ys.getD j 0,R,rfl,by lia,⟨n,c1⟩,cd _,fun b H1 f1 R1 fr1=>?_⟩;obtain⟨dx1,tl1,yl1,al1,as1,kvs1,k1,_⟩:=id R1.at_;refine⟨p,dx1,_,rfl,k1,ln1 _ _ _ _,ls,ys,d,S - (S &&& ys.getD j 0),R1,rfl,by lia,⟨n,c2⟩,cd _,fun e H2 f2 R2 fr2=>?_⟩;have e1:=DV f1;have e2:=DV f2;refine Ab (fun x=>?_) (fun x=>?_)
 ·have x':e < b:=by have:=Zn x;lia
  exact q _ H2 (.inl ⟨rfl,by lia⟩) R2 (fr1.trans fr2)
 ·have x':¬e < b:=fun w=>x (Zl (by lia))
  exact q _ H2 (.inr ⟨rfl,by lia⟩) R2 (fr1.trans fr2)
noncomputable def EO(K:W.Frag)(C:Addr):Sp:=fun vs H Q _=>match vs with
 | [.ref p,.int z]=>∃ls ys d S,RkAt K C ls ys H p d/\z=(S:Nat)/\S < 2 ^ ls.length/\(∃n,Can (AE ls) (AV ys) n S.testBit) /\
  ∀(Xs:List Nat) l H',Xs.length=ys.length->(∀j X,Xs[j]? = some X->CJ ls ys S j X)->RkAt K C ls ys H' p d->zp d H H'->H l=none->H' l=some (.lst (iL Xs))->Q (.ref l) H'
 | _=>False
theorem VY:AK (EO K C):=fun vs H Q Q' E h q=>by
 unfold EO at *;walk_at "q"
theorem Lf(f:zp d H H')(hd:H' d=some o)(h:H' l=none):H l=none:=by
 cases e:H l with
 | none=>rfl
 | some u =>
  have hl:l≠d:=fun z=>by rw[z,hd]at h;cases h
  rw[f l u hl e]at h;cases h
theorem Vp:Om_ P w mg base T.z20 74 (EO K T.zC):=by
 refine T.z20.F.ok XY (fun vs H Q E h=>by unfold EO at h;walk_at "e") ?_;walk_at "f";unfold EO at h;walk_at "g"
 rename_i p z;obtain⟨ls,ys,d,S,R,e1,hS,hc,q⟩:=h;subst e1;have y16:=R.y16;obtain⟨dx,tl,yl,al,as,zd,h1,h2,h3,_⟩:=id R.at_;refine⟨_,(@AH _ _ _ (@AL _ _ _ _ (@Az _ _ _ _ _ _ _ (["question","self","things"]) 1 ([0,1]) _ _ _ _ rfl (BP rfl T.zH (AA (Aa (BG (K:=K)) rfl T.zR (by rfl) (AA (BN T.zE T.zK (vv 0)) AB)) AB)) (by kernel_rfl) rfl rfl (by kernel_rfl) (fun c=>AN (i:=0) (show(["question","self","things"]:List Str).Nodup by decide +kernel) rfl (by right)) (AX (by decide)) (fun c=>Av) (fun c=>(Ay (vv 1) T.zE T.z22.m (@Yh P w K mg base T) (hr.mono (show 73<=_ by decide)) T.z22.b .nil AG (AA (vv 2) (AA (vv 0) AB)))) (by intro _;rfl)))),?_⟩;refine⟨dx,_,_,h1,lk2 _ _ _ _,ys.length,.inl ⟨_,.of h3,by rw[Ag]⟩,ys.length,rfl,by lia,by lia,?_⟩;rw[Z6];refine CM (fun k zs H'=>RkAt K T.zC ls ys H' p d/\zp d H H'/\∃Xs:List Nat,zs=iL Xs/\Xs.length=k/\∀j X,Xs[j]? = some X->CJ ls ys S j X) ⟨R,zp.refl,[],rfl,rfl,fun j X z=>by simp at z⟩ (fun k zs H' hk ⟨_,_,Xs,e,hl,_⟩=>by rw[e,Ag,hl];exact Aj (by lia)) ?_ ?_
 ·rintro k zs H1 hk ⟨R1,f1,Xs,rfl,hl,hX⟩;have e0:(0:Int)+(k:Int)=((k:Nat):Int):=by lia
  rw[e0];obtain⟨dx1,tl1,yl1,al1,as1,kvs1,k1,_⟩:=id R1.at_;refine⟨p,dx1,_,rfl,k1,ln6 _ _ _ _,ls,ys,d,S,k,R1,rfl,hS,hc,rfl,hk,fun X H2 hx R2 f2=>?_⟩;refine⟨R2,f1.trans f2,Xs++[X],by rw[Bj];rfl,by rw[Zy,hl];rfl,fun j Y hj=>?_⟩
  rcases ZCE j Xs.length with z | z | z
  ·rw[ZB1 z]at hj;exact hX j Y hj
  ·subst z;rw[ZB0 (Zf _),Nat.sub_self]at hj;cases hj;rw[hl];exact hx
  ·rw[List.getElem?_eq_none (by rw[Zy];show Xs.length+1<=j;lia)]at hj;cases hj
 ·rintro zs H1 ⟨R1,f1,Xs,rfl,hl,hX⟩ l nl;obtain⟨dx1,tl1,yl1,al1,as1,kvs1,_,_,_,_,k5,_⟩:=id R1.at_;have s2:zc H1 (upd H1 l (.lst (iL Xs))):=zc.upd nl;exact q Xs l _ hl hX (R1.same s2) (f1.trans (A5 s2)) (Lf f1 k5 nl) AD
noncomputable def kvE(es:List (Nat × Nat)):List (Key × V):=es.map fun e=>((Sum.inl (e.1:Int):Key),V.int (e.2:Int))
theorem NK:∀(es:List (Nat × Nat)) (S:Nat),(valV (kvE es) (Sum.inl (S:Int):Key)).isSome=decide (S∈es.map (·.1))
 | [],S=>rfl
 | e::es,S=>by
  by_cases z:e.1=S
  ·have:valV (kvE (e::es)) (Sum.inl (S:Int):Key)=some (V.int (e.2:Int)):=B4 (by rw[<- z])
   rw[this];simp[z]
  ·have:valV (kvE (e::es)) (Sum.inl (S:Int):Key)=valV (kvE es) (Sum.inl (S:Int):Key):=By (fun q=>z (by injection q with q;lia))
   rw[this,NK es S];simp[Ne.symm z]
theorem VH{es:List (Nat × Nat)}(h:S∉es.map (·.1)):Ai (kvE es) (Sum.inl (S:Int):Key) (V.int (m:Int))=kvE (es++[(S,m)]):=by
 unfold Ai;rw[if_neg]
 ·unfold kvE;rw[Zt];rfl
 ·intro z;obtain⟨x,hx,e⟩:=ZBe.mp z;obtain⟨a,ha,rfl⟩:=Zk.mp hx;have e:(Sum.inl (a.1:Int):Key)=Sum.inl (S:Int):=Zn e;injection e with e
  exact h (Zk.mpr ⟨a,ha,by lia⟩)
structure PInv(ls:List Int)(ys:List Nat)(n S0:Nat)(es:List (Nat × Nat))(pd:List Nat):Prop where
 nd:(es.map (·.1)).Nodup
 ok:∀e∈es,e.1 < 2 ^ ls.length/\Can (AE ls) (AV ys) n e.1.testBit/\0 < e.2/\e.2=AZ ls ys e.1
 cl:∀e∈es,1 < e.2->∀j X,j < ys.length->CJ ls ys e.1 j X->X∈es.map (·.1)\/X∈pd
 pe:∀X∈pd,X < 2 ^ ls.length/\Can (AE ls) (AV ys) n X.testBit
 top:S0∈es.map (·.1)\/S0∈pd\/AZ ls ys S0=0
section
variable {ls:List Int}{ys:List Nat}{n S0 X:Nat}{es:List (Nat × Nat)}{pd more:List Nat}
theorem PInv.skip(h:PInv ls ys n S0 es (X::pd))(hx:X∈es.map (·.1)\/AZ ls ys X=0):PInv ls ys n S0 es pd:=by
 refine⟨h.nd,h.ok,fun e he h1 j Y hj hY=>?_,fun Y hY=>h.pe Y (Zz _ hY),?_⟩
 ·rcases h.cl e he h1 j Y hj hY with z | z
  ·exact .inl z
  ·rcases Zh.mp z with z | z
   ·subst z
    rcases hx with hx | hx
    ·exact .inl hx
    ·obtain⟨_,c2,_,c4⟩:=h.ok e he;have a1:=PK hj c2;have a2:=MS hY;lia
   ·exact .inr z
 ·rcases h.top with z | z | z
  ·exact .inl z
  ·rcases Zh.mp z with z | z
   ·subst z
    rcases hx with hx | hx
    ·exact .inl hx
    ·exact .inr (.inr hx)
   ·exact .inr (.inl z)
  ·exact .inr (.inr z)
theorem PInv.enter(h:PInv ls ys n S0 es (X::pd))(hx:X∉es.map (·.1))(h0:0 < AZ ls ys X)(h1:1 < AZ ls ys X->∀j Y,j < ys.length->CJ ls ys X j Y->Y∈more)(h2:∀Y∈more,Y < 2 ^ ls.length/\Can (AE ls) (AV ys) n Y.testBit):PInv ls ys n S0 (es++[(X,AZ ls ys X)]) (pd++more):=by
 have hX:=h.pe X (ZBD ..);have em:(es++[(X,AZ ls ys X)]).map (·.1)=es.map (·.1)++[X]:=by rw[Zt];rfl
 have old:∀{Y},Y∈es.map (·.1)\/Y∈X::pd->Y∈es.map (·.1)++[X]\/Y∈pd++more:=fun {Y} z=>by
  rcases z with z | z
  ·exact .inl (ZBO _ z)
  ·rcases Zh.mp z with z | z
   ·exact .inl (Zx _ (by rw[z];exact Zq.mpr rfl))
   ·exact .inr (ZBO _ z)
 refine⟨?_,fun e he=>?_,fun e he e1 j Y hj hY=>?_,fun Y hY=>?_,?_⟩
 ·rw[em,ZCX];refine⟨h.nd,by simp,fun a ha b hb q=>?_⟩;rw[Zq.mp hb]at q;exact hx (q ▸ ha)
 ·rcases ZBE.mp he with z | z
  ·exact h.ok e z
  ·rw[Zq.mp z];exact⟨hX.1,hX.2,h0,rfl⟩
 ·rw[em]
  rcases ZBE.mp he with z | z
  ·exact old (h.cl e z e1 j Y hj hY)
  ·rw[Zq.mp z]at e1 hY;exact .inr (Zx _ (h1 e1 j Y hj hY))
 ·rcases ZBE.mp hY with z | z
  ·exact h.pe Y (Zz _ z)
  ·exact h2 Y z
 ·rw[em]
  rcases h.top with z | z | z
  ·exact .inl (ZBO _ z)
  ·rcases old (.inr z) with z | z
   ·exact .inl z
   ·exact .inr (.inl z)
  ·exact .inr (.inr z)
theorem PInv.len(h:PInv ls ys n S0 es pd)(h16:ls.length<=16):es.length<=65536:=by
 have:=DX (2 ^ ls.length) (es.map (·.1)) h.nd (fun x hx=>by
  obtain⟨e,he,rfl⟩:=Zk.mp hx;exact(h.ok e he).1)
 rw[Ze]at this;have h2:2 ^ ls.length<=2 ^ 16:=Z3 (by decide) h16;have h3:(2:Nat) ^ 16=65536:=by decide
 lia
end
theorem OW{H2:Hp}(R:RkAt K C ls ys H p d)(R':RkAt K C ls ys H' p d)(f:zp d H H')(nb:H b=none)(a:∀c,c≠b->H2 c=H' c):RkAt K C ls ys H2 p d:=by
 obtain⟨dx,tl,yl,al,as,zd,h1,h2,h3,h4,h5,_⟩:=R.at_;obtain⟨dx',tl',yl',al',as',kvs',k1,k2,k3,k4,k5,k6,k7,k8⟩:=R'.at_;have e:=f _ _ (BK h1 h5 (by intro z;cases z)) h1;rw[k1]at e;have e:=Zv e;injection e with _ e1 e2
 have g1:some (V.ref tl')=some (V.ref tl):=by rw[<- lk1 (.ref tl') (.ref yl') (.ref al') (.ref d),e2,lk1]
 have g2:some (V.ref yl')=some (V.ref yl):=by rw[<- lk2 (.ref tl') (.ref yl') (.ref al') (.ref d),e2,lk2]
 have g3:some (V.ref al')=some (V.ref al):=by rw[<- lk3 (.ref tl') (.ref yl') (.ref al') (.ref d),e2,lk3]
 cases g1;cases g2;cases g3
 have st:∀{c:Addr} {u v:HO},H c=some u->H' c=some v->H2 c=some v:=fun {c u v} e1 e2=>by
  rw[a c (Bo e1 nb)];exact e2
 refine⟨⟨dx',tl,yl,al,as',kvs',st h1 k1,?_,st h3 k3,st h4 k4,st h5 k5,k6,k7,k8⟩,R.l16,R.y16⟩
 have go:H tl≠none->zt K H2 tl (ls.map V.int):=fun hn=>by
  have zz:tl≠b:=fun z=>hn (by rw[z];exact nb)
  exact HE k2 fun u e=>by rw[a _ zz];exact e
 rcases h2 with (h2 | ⟨_,h2⟩) | h2
 ·exact go (by rw[h2];simp)
 ·exact go (by rw[h2];simp)
 ·exact .inr h2
theorem MT(R:RkAt K C ls ys H p d)(R':RkAt K C ls ys H' p d)(f:zp d H H')(nb:H b=none):RkAt K C ls ys (upd H' b o) p d:=OW R R' f nb fun c h=>AI h
theorem Ll(f:zp d H H')(nb:H b=none):zp d H (upd H' b o):=fun c u n e=>by
 rw[AI (Bo e nb)];exact f c u n e
noncomputable def Cp(e:Nat × Nat):Dv:=.tup [.tup (iD (BI e.1)),.int (e.2:Nat)]
noncomputable def DQ(es:List (Nat × Nat)):Dv:=.tup (es.map Cp)
noncomputable def IC(K:W.Frag)(C:Addr):Sp:=fun vs H Q _=>match vs with
 | [.ref p,.int z]=>∃ls ys d S n,RkAt K C ls ys H p d/\z=(S:Nat)/\S < 2 ^ ls.length/\Can (AE ls) (AV ys) n S.testBit /\
  ∀es v H',PInv ls ys n S es []->zh K H' (DQ es) v->RkAt K C ls ys H' p d->zp d H H'->Q v H'
 | _=>False
theorem Tu:Ok_ P w base T.z42 75 (IC K T.zC):=by
 refine T.z42.F.ok sc_z42 (fun vs H Q E h=>by unfold IC at h;walk_at "e") ?_;walk_at "f";have mo1:AK (Bb K T.zC 17):=OZ;have mo2:AK (EO K T.zC):=VY;have mo3:AK (EJ K):=Rt;unfold IC at h;walk_at "g"
 rename_i p z;obtain⟨ls,ys,d,S,n,R,e1,hS,hc,q⟩:=h;subst e1;have l16:=R.l16;have y16:=R.y16;obtain⟨dx,tl,yl,al,as,zd,h1,_,_,_,hd0,_⟩:=id R.at_;have h60:2 ^ ls.length<=2 ^ 60:=Z3 (by decide) (by lia);have cd:∀U:Nat,AS ls.length U.testBit < 17:=fun U=>by have:=Eu ls.length U.testBit;lia
 refine⟨_,(@AF _ _ _ _ _ (@AR _ _ 2 _ _ _ _ sc_z42.nd rfl (by right) Gs (by rfl) (by walk_at "i")) (@AF _ _ _ _ _ (@AR _ _ 3 _ _ _ _ sc_z42.nd rfl (by right) (@Ca _ _ _ _ (AA (vv 1) AB)) (by rfl) (by walk_at "i")) (@AF _ _ _ _ _ (@HJ _ _ _ _ _ _ PassesOwn.never (Af Bm (Aa (BG (K:=K)) rfl T.zR (by rfl) (AA (vv 3) AB)) AC) (@AF _ _ _ _ _ (@AR _ _ 4 _ _ _ _ sc_z42.nd rfl (by right) (@Ca _ _ _ _ AB) (by rfl) (by walk_at "i")) (@AF _ _ _ _ _ (@Bk _ _ _ _ _ _ _ _ PassesOwn.never rfl (BH (K:=K) (vv 3)) (AN (i:=5) sc_z42.nd rfl (by right)) (@AF _ _ _ _ _ (@AR _ _ 6 _ _ _ _ sc_z42.nd rfl (by right) (Ay (vv 0) T.zE T.z19.m (@IV P w K mg base T) (hr.mono (show 72<=_ by decide)) T.z19.b .nil AG (AA (vv 5) AB)) (by rfl) (by walk_at "i")) (@AH _ _ _ (@Ao _ _ _ _ _ _ _ _ (PW.pt (EW (Af Bm (vv 6) AC) (Ef (Af (GV hu) (vv 5) (vv 2))))) (@AF _ _ _ _ _ (@Fb _ _ _ _ _ _ _ _ _ (Cb hu) (vv 2) (vv 5) (vv 6) (by rfl)) (@AH _ _ _ (@Ge _ _ _ _ (TV (K:=K) (vv 4) (AA (C3 (Af Bm (vv 6) AC) (Ay (vv 0) T.zE T.z20.m (@Vp P w K mg base T) (hr.mono (show 74<=_ by decide)) T.z20.b .nil AG (AA (vv 5) AB)) (@Ca _ _ _ _ AB)) AB)) (by rfl)))) Aq))) (by intro _;rfl)) (@AH _ _ _ (@AR _ _ 3 _ _ _ _ sc_z42.nd rfl (by right) (vv 4) (by rfl) (by walk_at "i")))))) (@AH _ _ _ (@AL _ _ _ _ (BU (CY (K:=K)) rfl T.zM (by rfl) (AA (Az (N':=["each","number"]) (own:=2) (ix:=[]) rfl (Hg (vv 2)) (by kernel_rfl) rfl rfl (by kernel_rfl) (fun c=>Cg (K:=K) (n:=2) rfl (Ax (AN (i:=0) (show(["each","number"]:List Str).Nodup by decide +kernel) rfl (by right)) (Ax (AN (i:=1) (show(["each","number"]:List Str).Nodup by decide +kernel) rfl (by right)) Bv))) (Ce (BQ Ar (Cc Ar BM) (AX (by decide)) (BQ Ar BM (AX (by decide)) Co))) (fun c=>Av) (fun c=>(CG (AA (AM (@M7 P w K mg base T) (hr.mono (show 4<=_ by decide)) rfl T.z44.m T.z44.F.kp T.z44.b .nil AG (AA (vv 0) AB)) (AA (vv 1) AB))))) AB))))))),?_⟩;intro E' nE;dsimp only[Ak];have s1:zc H (upd H E' (.dK [])):=zc.upd nE;have gE1:upd H E' (.dK []) E'=some (.dK (kvE [])):=AD;generalize upd H E' (.dK [])=H1 at *;refine⟨smq rfl,fun l nl=>?_⟩;dsimp only[Ak];have nl0:H l=none:=s1.free nl;have s2:zc H1 (upd H1 l (.lst [.int (S:Int)])):=zc.upd nl;have gl2:upd H1 l (.lst [.int (S:Int)]) l=some (.lst (iL [S])):=AD;have gE2:=s2 _ _ gE1;have S2:=s1.trans s2;generalize upd H1 l (.lst [.int (S:Int)])=H2 at *;have P2:PInv ls ys n S [] [S]:=⟨ZCW,(fun e he=>by cases he),(fun e he=>by cases he),fun X hX=>by rw[Zq.mp hX];exact⟨hS,hc⟩,.inr (.inl (Zq.mpr rfl))⟩;have R2:=R.same S2;have neD:∀{b:Addr},H b=none->b≠d:=fun {b} nb z=>by rw[z,hd0]at nb;cases nb
 refine Ad (fun Z H'=>∃(es:List (Nat × Nat)) (z3 z4 z5 z6:Option V),Z=[some (.ref p),some (.int (S:Nat)),some (.ref E'),z3,z4,z5,z6]/\RkAt K T.zC ls ys H' p d/\zp d H H'/\H' E'=some (.dK (kvE es))/\PInv ls ys n S es []) ?_ ?_ (by walk_at "sm")
 ·refine⟨fun mm Z H'=>∃(es:List (Nat × Nat)) (Ls:List Nat) (l:Addr) (z4 z5 z6:Option V),mm=(65536 - es.length) * 2+(if Ls=[] then 0 else 1)/\Z=[some (.ref p),some (.int (S:Nat)),some (.ref E'),some (.ref l),z4,z5,z6]/\RkAt K T.zC ls ys H' p d/\zp d H H'/\H' E'=some (.dK (kvE es))/\H l=none/\H' l=some (.lst (iL Ls))/\PInv ls ys n S es Ls,
   ⟨_,[],[S],l,none,none,none,rfl,rfl,R2,A5 S2,gE2,nl0,gl2,P2⟩,?_⟩
  rintro mm Z H3 ⟨es,Ls,l,z4,z5,z6,rfl,rfl,R3,f3,gE3,nl,gl3,P3⟩;have hE3:=P3.len l16;refine⟨Ls.length,.inl ⟨_,.of gl3,by rw[Ag]⟩,?_⟩;refine Ab (fun e=>?_) (fun e=>?_);rotate_left
  ·have hz:Ls=[]:=by
    have:¬(0:Int) < (Ls.length:Int):=fun z=>e (Zl z)
    exact List.eq_nil_of_length_eq_zero (by lia)
   subst hz;exact⟨es,_,_,_,_,rfl,R3,f3,gE3,P3⟩
  have hpos:Ls≠[]:=fun z=>by
   have:(0:Int) < (Ls.length:Int):=Zn e
   rw[z]at this;simp at this
  refine⟨Zu _,fun b nb=>?_⟩;dsimp only[Ak];obtain⟨_,_,_,_,_,_,_,_,_,_,hd3,_⟩:=id R3.at_;have nb0:H b=none:=Lf f3 hd3 nb;have s4:zc H3 (upd H3 b (.lst [])):=zc.upd nb;have gb4:upd H3 b (.lst []) b=some (.lst (iL [])):=AD;have hbl:b≠l:=fun z=>by rw[z,gl3]at nb;cases nb
  have hbE:b≠E':=fun z=>by rw[z,gE3]at nb;cases nb
  have hlE:l≠E':=BK gl3 gE3 (by intro z;cases z);have R4:=R3.same s4;have f4:zp d H (upd H3 b (.lst [])):=f3.trans (A5 s4);have gE4:=s4 _ _ gE3;have gl4:=s4 _ _ gl3;generalize upd H3 b (.lst [])=H4 at *;refine Ad (fun Z H'=>∃(es':List (Nat × Nat)) (Bs:List Nat) (z5 z6:Option V),Z=[some (.ref p),some (.int (S:Nat)),some (.ref E'),some (.ref l),some (.ref b),z5,z6]/\RkAt K T.zC ls ys H' p d/\zp d H H'/\H' E'=some (.dK (kvE es'))/\H' b=some (.lst (iL Bs))/\PInv ls ys n S es' Bs/\es.length<=es'.length/\(Bs≠[]->es.length < es'.length)) ?_ ?_ (by walk_at "sm");rotate_left
  ·rintro Z H5 ⟨es',Bs,z5',z6',rfl,R5,f5,gE5,gb5,P5,h5,h6⟩;have hE5:=P5.len l16;refine⟨_,?_,es',Bs,b,_,_,_,rfl,rfl,R5,f5,gE5,nb0,gb5,P5⟩;rw[if_neg hpos]
   by_cases zb:Bs=[]
   ·rw[if_pos zb];lia
   ·rw[if_neg zb];have:=h6 zb;lia
  refine .inl ⟨⟨_,.inl (.of gl4)⟩,?_⟩
  refine NC (xs:=iL Ls) (fun k Z H'=>∃(es':List (Nat × Nat)) (Bs:List Nat) (z5 z6:Option V),Z=[some (.ref p),some (.int (S:Nat)),some (.ref E'),some (.ref l),some (.ref b),z5,z6]/\RkAt K T.zC ls ys H' p d/\zp d H H'/\H' E'=some (.dK (kvE es'))/\H' l=some (.lst (iL Ls))/\H' b=some (.lst (iL Bs))/\PInv ls ys n S es' (Ls.drop k++Bs)/\es.length<=es'.length/\(Bs≠[]->es.length < es'.length)/\Bs.length<=16 * es'.length)
   ⟨es,[],_,_,rfl,R4,f4,gE4,gl4,gb4,by rw[List.drop_zero,ZBI];exact P3,Zf _,fun z=>absurd rfl z,Zu _⟩ (fun k Z H' _ ⟨_,_,_,_,_,_,_,_,g,_⟩=>.inl (.of g)) ?_ ?_
  rotate_left
  ·rintro Z H5 ⟨es',Bs,z5',z6',rfl,R5,f5,gE5,_,gb5,P5,h5,h6,_⟩;rw[Ag,List.drop_length,List.nil_append]at P5;exact⟨es',Bs,_,_,rfl,R5,f5,gE5,gb5,P5,h5,h6⟩
  rintro k xv Z H5 hxk ⟨es',Bs,z5',z6',rfl,R5,f5,gE5,gl5,gb5,P5,h5,h6,h7⟩;obtain⟨X,hX,_,rfl⟩:=CD hxk;have hk:=(Z4.mp hX).1
  have ed:Ls.drop k++Bs=X::(Ls.drop (k+1)++Bs):=by
   rw[List.drop_eq_getElem_cons hk,(Z4.mp hX).2];rfl
  rw[ed]at P5;obtain⟨hX1,hX2⟩:=P5.pe X (ZBD ..);obtain⟨dx5,tl5,yl5,al5,as5,kvs5,k1,_,_,_,k5,_⟩:=id R5.at_;dsimp only[Ak];refine⟨p,dx5,_,rfl,k1,ln1 _ _ _ _,ls,ys,d,X,R5,rfl,hX1,⟨n,hX2⟩,cd X,fun m H6 hm R6 fr6=>?_⟩;dsimp only[Ak];have em:=DV hm;have f6:zp d H H6:=f5.trans fr6;have gE6:=fr6 _ _ (neD nE) gE5;have gl6:=fr6 _ _ (neD nl) gl5;have gb6:=fr6 _ _ (neD nb0) gb5;clear k1 k5 fr6;refine Ab (fun e1=>?_) (fun e1=>?_);rotate_left
  ·have m0:m=0:=by
    have:¬(0:Int) < (m:Int):=fun z=>e1 (Zl z)
    lia
   exact⟨es',Bs,_,_,rfl,R6,f6,gE6,gl6,gb6,P5.skip (.inr (by lia)),h5,h6,h7⟩
  have m0:0 < m:=by
   have:(0:Int) < (m:Int):=Zn e1
   lia
  have hsome:=NK es' X;refine⟨valV (kvE es') (Sum.inl (X:Int):Key),DGet.k (k:=Sum.inl (X:Int)) gE6,?_⟩;cases e2:valV (kvE es') (Sum.inl (X:Int):Key) with
  | some v =>
   rw[e2]at hsome;have hin:X∈es'.map (·.1):=Zn hsome.symm;exact⟨es',Bs,_,_,rfl,R6,f6,gE6,gl6,gb6,P5.skip (.inl hin),h5,h6,h7⟩
  | none =>
   rw[e2]at hsome;have hnin:X∉es'.map (·.1):=of_decide_eq_false hsome.symm;have hE6:=P5.len l16;refine⟨E',_,rfl,DPut.k (k:=Sum.inl (X:Int)) gE6 (by unfold kvE;rw[Ze,sizeLine_eq];lia),?_⟩;rw[VH hnin];have R7:=MT R R6 f6 nE (o:=.dK (kvE (es'++[(X,m)])));have f7:=Ll f6 nE (o:=.dK (kvE (es'++[(X,m)])));have gE7:upd H6 E' (.dK (kvE (es'++[(X,m)]))) E'=some (.dK (kvE (es'++[(X,m)]))):=AD;have gl7:upd H6 E' (.dK (kvE (es'++[(X,m)]))) l=_:=(AI hlE).trans gl6;have gb7:upd H6 E' (.dK (kvE (es'++[(X,m)]))) b=_:=(AI hbE).trans gb6;generalize upd H6 E' (.dK (kvE (es'++[(X,m)])))=H7 at *;have len1:(es'++[(X,m)]).length=es'.length+1:=by rw[Zy];rfl
   refine⟨.inl ⟨rfl,_,.of gb7⟩,?_⟩
   have fin:∀(Xs:List Nat) (l2:Addr) (H8:Hp),Xs.length<=16->(1 < m->∀j Y,j < ys.length->CJ ls ys X j Y->Y∈Xs)->(∀Y∈Xs,Y < 2 ^ ls.length/\Can (AE ls) (AV ys) n Y.testBit)->RkAt K T.zC ls ys H8 p d->zp d H7 H8->H7 l2=none->H8 l2=some (.lst (iL Xs)) ->
    Fn K (.ref b) [.ref l2] H8 fun _ H9=>∃(es':List (Nat × Nat)) (Bs:List Nat) (z5 z6:Option V),[some (V.ref p),some (.int (S:Nat)),some (.ref E'),some (.ref l),some (.ref b),some (.int (X:Nat)),some (.int (m:Nat))]=[some (.ref p),some (.int (S:Nat)),some (.ref E'),some (.ref l),some (.ref b),z5,z6]/\RkAt K T.zC ls ys H9 p d/\zp d H H9/\H9 E'=some (.dK (kvE es'))/\H9 l=some (.lst (iL Ls))/\H9 b=some (.lst (iL Bs))/\PInv ls ys n S es' (Ls.drop (k+1)++Bs)/\es.length<=es'.length/\(Bs≠[]->es.length < es'.length)/\Bs.length<=16 * es'.length:=by
    intro Xs l2 H8 hl2 hx1 hx2 R8 fr8 n2 g2;have f8:zp d H H8:=f7.trans fr8;have gE8:=fr8 _ _ (neD nE) gE7;have gl8:=fr8 _ _ (neD nl) gl7;have gb8:=fr8 _ _ (neD nb0) gb7;refine⟨iL Bs,iL Xs,gb8,.of g2,(fun z=>by rw[z,gb7]at n2;cases n2),by rw[Ag,Ag];lia,es'++[(X,m)],Bs++Xs,_,_,rfl,MT R R8 f8 nb0,Ll f8 nb0,?_,?_,?_,?_,by lia,fun _=>by lia,by rw[Zy];lia⟩
    ·rw[AI (Ne.symm hbE)];exact gE8
    ·rw[AI (Ne.symm hbl)];exact gl8
    ·rw[AD,Bj]
    ·rw[<- List.append_assoc,<- em];exact P5.enter hnin (by lia) (by rw[em];exact hx1) hx2
   refine Ab (fun e3=>?_) (fun e3=>?_)
   ·have m1:1 < m:=by
     have:(1:Int) < (m:Int):=Zn e3
     lia
    obtain⟨dx7,tl7,yl7,al7,as7,kvs7,k1,_⟩:=id R7.at_;refine⟨p,dx7,_,rfl,k1,lnA _ _ _ _,ls,ys,d,X,R7,rfl,hX1,⟨n,hX2⟩,fun Xs l2 H8 hl2 hXs R8 fr8 n2 g2=>?_⟩;refine fin Xs l2 H8 (by lia) (fun _ j Y hj hY=>?_) (fun Y hY=>?_) R8 fr8 n2 g2
    ·have hj':j < Xs.length:=by lia
     rw[Rr hY (hXs j _ (Zg hj'))];exact ZBK hj'
    ·obtain⟨j,hj,ej⟩:=ZBG hY;have hh:=hXs j Y (by rw[Zg hj,ej]);exact⟨VE hh hX1,Vy hh hX2⟩
   ·have m1:¬1 < m:=fun z=>e3 (Zl (by lia))
    refine⟨Zu _,fun l2 n2=>?_⟩;have s8:zc H7 (upd H7 l2 (.lst [])):=zc.upd n2;exact fin [] l2 _ (Zu _) (fun z=>absurd z m1) (fun Y hY=>by cases hY) (R7.same s8) (A5 s8) n2 AD
 rintro Z H3 ⟨es,z3,z4,z5,z6,rfl,R3,f3,gE3,P3⟩;have hE3:=P3.len l16;refine .inl ⟨kvE es,gE3,fun o=>?_⟩;have a1:upd H3 E' (.frz o (.dK (kvE es))) E'=some (.frz o (.dK (kvE es))):=AD;have a2:∀b,b≠E'->upd H3 E' (.frz o (.dK (kvE es))) b=H3 b:=fun b hb=>AI hb
 generalize upd H3 E' (.frz o (.dK (kvE es)))=H4 at *;have f4:zp d H H4:=fun c u n e=>by rw[a2 c (Bo e nE)];exact f3 c u n e
 have R4:=OW R R3 f3 nE a2
 refine N6 (zd:=kvE es) (fun j zs H'=>zc H4 H'/\zf K H' ((es.take j).map Cp) zs) ⟨zc.refl _,BF⟩ (fun j zs H' _ ⟨s5,_⟩=>s5 _ _ a1) (fun j zs H' hj ⟨_,r⟩=>by
  unfold kvE at hj;rw[Ze]at hj;rw[<- r.length,Ze,Z7,sizeLine_eq];lia) ?_ ?_
 ·rintro j r pp zs H5 hr5 ⟨s5,r5⟩ npp;unfold kvE at hr5;rw[Zm]at hr5;obtain⟨e,he,rfl⟩:=ZCi.mp hr5;have hb:=(P3.ok e (ZBQ he)).1;refine⟨pp,_,rfl,.of AD,rfl,_,_,rfl,_,_,rfl,rfl,?_⟩;refine⟨e.1,rfl,by lia,fun t H6 nt s6 g6=>⟨smq rfl,fun t2 n2=>?_⟩⟩;have s7:zc H6 (upd H6 t2 (.tup [.ref t,.int (e.2:Nat)])):=zc.upd n2;have s0:=zc.upd (o:=.tup [kV (Sum.inl (e.1:Int):Key),V.int (e.2:Int)]) npp;have S7:=s0.trans (s6.trans s7);refine⟨s5.trans S7,?_⟩;rw[ZBB,he,Zt];exact zf.append (zf.same S7 _ _ r5) (Aw (EX (.of AD) (Aw (EX (.of (s7 _ _ g6)) (LA _)) (Aw (by unfold zh;rfl) BF))) BF)
 ·rintro zs H5 ⟨s5,r5⟩ l2 nl2;have s6:zc H5 (upd H5 l2 (.lst zs)):=zc.upd nl2;refine⟨_,.inl ⟨.of AD,fun t nt=>?_⟩⟩;have S7:=s6.trans (zc.upd (o:=.tup zs) nt);rw[show(kvE es).length=es.length by unfold kvE;rw[Ze],ZBT]at r5;exact q es _ _ P3 (EX (.of AD) (zf.same S7 _ _ r5)) (R4.same (s5.trans S7)) (f4.trans (A5 (s5.trans S7)))
noncomputable def IJ(K:W.Frag):Sp:=fun vs H Q _=>match vs with
 | [v]=>∃ls rs,zh K H (gmD ls rs) v/\Gm ls rs/\Ck ls rs/\∀H',zc H H'->Q .non H'
 | _=>False
theorem XA:Ok_ P w base T.z29 2 (IJ K):=by
 refine T.z29.F.ok sc_z29 (fun vs H Q E h=>by unfold IJ at h;walk_at "e") ?_;walk_at "f";unfold IJ at h;walk_at "g"
 rename_i v;obtain⟨ls,rs,hv,G,he,q⟩:=h;refine⟨_,(@AF _ _ _ _ _ (@AR _ _ 1 _ _ _ _ sc_z29.nd rfl (by right) (AM (@WW P w K mg base T) (hr.mono (show 1<=_ by decide)) rfl T.z34.m T.z34.F.kp T.z34.b .nil AG (AA (vv 0) AB)) (by rfl) (by walk_at "i")) (@AH _ _ _ (@Ao _ _ _ _ _ _ _ _ (Af KA (vv 1) Mr) (@AH _ _ _ Wh) Aq))),?_⟩;exact⟨ls,rs,hv,G,fun H1 s1 _=>q H1 s1,fun i j t H1 hf _ _ _=>absurd hf.1 (he i j)⟩
theorem Kd(he:Ck ls rs):∀X,X < 2 ^ ls.length->Can (AE ls) (AV (rs.map AO)) ls.length X.testBit:=fun X hX=>by
 rw[FW];exact Gq (FA he) _ _ (fun k hk=>C9 hX hk) (by have:=Eu ls.length X.testBit;lia)
noncomputable abbrev Dj(Pt:Addr)(H:Hp):Prop:=zA Pt F9 B8 H
noncomputable def Em(K:W.Frag)(Pt:Addr):Sp:=fun vs H Q _=>match vs with
 | [v]=>∃ls rs,zh K H (gmD ls rs) v/\Gm ls rs/\Ck ls rs/\Dj Pt H /\
  ∀t es u H',Dx ls (rs.map AO) t (2 ^ ls.length - 1)->PInv ls (rs.map AO) ls.length (2 ^ ls.length - 1) es []->zh K H' (.tup [.int (AZ ls (rs.map AO) (2 ^ ls.length - 1):Nat),t.dv,DQ es]) u->zx Pt H H'->Dj Pt H'->Q u H'
 | _=>False
theorem Yy:AK (Em K Pt):=fun vs H Q Q' E h q=>by
 unfold Em at *;walk_at "q"
theorem LG:∀xs:List Nat,A8 (iD xs)=true
 | []=>by unfold iD;simp[A8]
 | x::xs=>by
  show A8 (Dv.int (x:Nat)::iD xs)=true;unfold A8;rw[LG xs];rfl
theorem Nh:∀es:List (Nat × Nat),A8 (es.map Cp)=true
 | []=>by simp[A8]
 | e::es=>by
  rw[Z5];unfold A8;rw[Nh es]
  have h:BS (Cp e)=true:=by
   unfold Cp BS A8 A8 A8
   have:BS (.tup (iD (BI e.1)))=true:=by unfold BS;exact LG _
   rw[this];rfl
  rw[h];rfl
theorem Wq(B:BMn mg base):Ok_ P w base T.z69 96 (Em K T.zY):=by
 refine T.z69.F.ok sc_z69 (fun vs H Q E h=>by unfold Em at h;walk_at "e") ?_;walk_at "f";have hr_z31:=hr.mono (show 4<=_ by decide);have hr1_z31:=hr.mono (show 4+1<=_ by decide);unfold Em at h;walk_at "g"
 rename_i v;obtain⟨ls,rs,hv,G,he,hL,q⟩:=h;have l1:=G.l1;have l16:=G.l16;have cd:∀U:Nat,AS ls.length U.testBit < 17:=fun U=>by have:=Eu ls.length U.testBit;lia
 have hp2:=ZBd ls.length;have hp3:2 ^ 1<=2 ^ ls.length:=Z3 (by decide) l1;have hS:2 ^ ls.length - 1 < 2 ^ ls.length:=by lia
 have hc:=Kd he _ hS;refine⟨_,(@AF _ _ _ _ _ (@Ge _ _ _ _ (AM (@XA P w K mg base T) (hr.mono (show 2<=_ by decide)) rfl T.z29.m T.z29.F.kp T.z29.b .nil AG (AA (vv 0) AB)) (by rfl)) (@AF _ _ _ _ _ (@AR _ _ 1 _ _ _ _ sc_z69.nd rfl (by right) (Oj T.zW (@U0 P w K mg base T) hr1_z31 rfl T.Z0a T.z31.b .nil AG (AA (vv 0) AB)) (by rfl) (by walk_at "i")) (@AF _ _ _ _ _ (@AR _ _ 2 _ _ _ _ sc_z69.nd rfl (by right) (MQ (vv 1) T.zE T.z23.m (@WS P w K mg base T) (hr.mono (show 3<=_ by decide)) T.z23.b .nil AG) (by rfl) (by walk_at "i")) (@AH _ _ _ (@AL _ _ _ _ (CG (AA (Ay (vv 1) T.zE T.z19.m (@IV P w K mg base T) (hr.mono (show 72<=_ by decide)) T.z19.b .nil AG (AA (vv 2) AB)) (AA (AM (@Ry P w K mg base T B) (hr.mono (show 95<=_ by decide)) rfl T.z54.m T.z54.F.kp T.z54.b .nil AG (AA (vv 1) (AA (vv 2) AB))) (AA (AM (@Tu P w K mg base T) (hr.mono (show 75<=_ by decide)) rfl T.z42.m T.z42.F.kp T.z42.b .nil AG (AA (vv 1) (AA (vv 2) AB))) AB))))))))),?_⟩;refine⟨ls,rs,hv,G,he,fun H0 s0=>?_⟩;intro x dx hx hdx zz
 have s1:zc H0 (upd (upd H0 dx (.own x)) x (.ins T.zC dx [])):=(zc.upd (o:=.own x) hdx).trans (fun b o e=>by
  have:b≠x:=fun z=>by
   rw[z,AI (Ne.symm zz),hx]at e;cases e
  rw[AI this];exact e)
 have hx1:upd (upd H0 dx (.own x)) x (.ins T.zC dx []) x=some (.ins T.zC dx []):=AD;generalize upd (upd H0 dx (.own x)) x (.ins T.zC dx [])=H1 at *;have S1:=s0.trans s1;refine⟨ls,rs,dx,hx1,hv.same S1,G,fun d H2 hd R f2=>⟨rfl,?_⟩⟩;dsimp only[Ak];have hd0:H d=none:=S1.free hd;have nx0:H x=none:=s0.free hx;have s2:zc H H2:=fun b o e=>f2 b o (Bo e nx0) (S1 _ _ e)
 have L2':=hL.same s2;generalize hys:rs.map AO=ys at *;obtain⟨dx2,tl2,yl2,al2,as2,kvs2,k1,_,_,_,k5,_⟩:=id R.at_;refine⟨x,dx2,_,rfl,k1,lnB _ _ _ _,ls,ys,d,R,?_⟩;dsimp only[Ak];generalize hSS:2 ^ ls.length - 1=S at *;have h0:S≠0:=by lia
 refine⟨x,dx2,_,rfl,k1,ln1 _ _ _ _,ls,ys,d,S,R,rfl,hS,⟨_,hc⟩,cd S,fun m H3 hm R3 f3=>?_⟩;have L3:=Kr L2' f3 k5 (.inr (.inl ⟨_,rfl⟩));refine⟨ls,ys,d,S,R3,rfl,hS,h0,⟨_,hc⟩,cd S,L3,fun t vt H4 bt rp R4 f4 L4=>?_⟩;obtain⟨_,_,_,_,_,_,_,_,_,_,d4,_⟩:=id R4.at_;refine⟨ls,ys,d,S,_,R4,rfl,hS,hc,fun es ve H5 P5 r5 R5 f5=>⟨smq rfl,fun u nu=>?_⟩⟩;have L5:=Kr L4 f5 d4 (.inr (.inl ⟨_,rfl⟩));have s6:zc H5 (upd H5 u (.tup [.int (m:Nat),vt,ve])):=zc.upd nu;have rp5:zh K H5 t.dv vt:=zh.mv (fun a xs h=>Cq f5 d4 Gk h) _ _ t.tups rp;rw[DV hm]at q;refine q t es _ _ bt P5 (EX (.of AD) (Aw (by unfold zh;rfl) (Aw (zh.same s6 _ _ rp5) (Aw (zh.same s6 _ _ r5) BF)))) (fun b o hb e=>?_) (L5.same s6);have hbd:b≠d:=Bo e hd0;exact s6 _ _ (f5 _ _ hbd (f4 _ _ (by simp[hbd,hb]) (f3 _ _ hbd (s2 _ _ e))))
noncomputable def Ci(es:List (Nat × Nat)):DY:=es.map fun e=>(BI e.1,((e.2:Nat):Int))
theorem Mc(hok:∀e∈es,Dm ls e)(hB:G3 rs es):∀(n:Nat),∀e∈es,Can (AE ls) (rs.map gB) n (fun k=>decide (k∈e.1))->e.2<=(n:Int)
 | 0,e,he,hc=>absurd hc (hok e he).2
 | n+1,e,he,hc=>by
  rcases hc with o | ⟨y,hy,h1,h2⟩
  ·exact absurd o (hok e he).2
  ·by_cases z:e.2<=1
   ·lia
   ·obtain⟨r,hr,rfl⟩:=Zk.mp hy;obtain⟨ans,e',he',h3,h4⟩:=hB e he (by lia) r hr;have ih:=Mc hok hB n e' he'
    have:e'.2<=(n:Int):=by
     cases ans with
     | true=>exact ih (Bl (fun k hk=>by rw[Zp,decide_eq_true_iff];exact h4 k (Zn hk)) h1)
     | false=>exact ih (Bl (fun k hk=>by rw[Zp,decide_eq_true_iff,ZBy];exact h4 k (Zn hk)) h2)
    lia
theorem Yr{z:Int}{d:Dw}(hm:Can (AE ls) (rs.map gB) m (fun k=>decide (k∈List.range ls.length)))(h:GX ls rs z d)(hz:(m:Int) < z):False:=by
 obtain⟨es,_,hok,h1,hB⟩:=h
 rcases h1 with h1 | ⟨e,he,h1⟩
 ·lia
 ·have hc:Can (AE ls) (rs.map gB) m (fun k=>decide (k∈e.1)):=Bl (fun k hk=>by
   have:=(hok e he).1
   rw[decide_eq_true_iff,Z1];have hk:=Zn hk;exact(hok e he).1.lt k hk) hm
  have:=Mc hok hB m e he hc
  lia
theorem Wy{es:List (Nat × Nat)}{S0:Nat}(I:PInv ls (rs.map AO) n S0 es []){e:Nat × Nat}(he:e∈es)(h1:1 < e.2){r:List Bool}(hj:rs[j]? = some r) :
 ∃ans:Bool,∃e'∈Ci es,((e.2:Nat):Int) - 1<=e'.2/\∀t∈e'.1,t∈BI e.1/\gB r t=ans:=by
 have hjl:j < (rs.map AO).length:=by rw[Ze];exact(Z4.mp hj).1
 have eyj:(rs.map AO).getD j 0=AO r:=by rw[Zw,Zm,hj];rfl
 obtain⟨c1,c2,c3,c4⟩:=I.ok e he;have hle:=PK hjl c2
 have fin:∀(X:Nat) (ans:Bool),CJ ls (rs.map AO) e.1 j X->(∀t,X.testBit t=true->e.1.testBit t=true/\gB r t=ans)->∃ans:Bool,∃e'∈Ci es,((e.2:Nat):Int) - 1<=e'.2/\∀t∈e'.1,t∈BI e.1/\gB r t=ans:=by
  intro X ans hX hb;have hn:=MS hX
  rcases I.cl e he h1 j X hjl hX with z | z
  ·obtain⟨e',he',ee⟩:=Zk.mp z;have d4:=(I.ok e' he').2.2.2;rw[ee,hn]at d4;refine⟨ans,(BI e'.1,((e'.2:Nat):Int)),Zk.mpr ⟨e',he',rfl⟩,by show((e.2:Nat):Int) - 1<=((e'.2:Nat):Int);lia,fun t ht=>?_⟩;have ht:t∈BI e'.1:=ht;rw[ee]at ht;obtain⟨b1,b2⟩:=hb t (mem_memS.mp ht);exact⟨mem_memS.mpr b1,b2⟩
  ·cases z
 rcases ZBL (AZ ls (rs.map AO) (e.1 - (e.1 &&& AO r))) (AZ ls (rs.map AO) (e.1 &&& AO r)) with z | z
 ·refine fin _ true (.inl ⟨rfl,by rw[eyj];exact z⟩) fun t ht=>?_
  rw[eyj,ZBS,mskR_bit,Zp]at ht;exact ht
 ·refine fin _ false (.inr ⟨rfl,by rw[eyj];exact z⟩) fun t ht=>?_
  rw[eyj,Ff,mskR_bit,Zp,ZBy]at ht;exact ht
section
variable {ls:List Int}{rs:List (List Bool)}{es:List (Nat × Nat)}{n S:Nat}
theorem TL{q:Nat}(h:q < rs.length):(rs.map AO).getD q 0=AO rs[q]/\rs.getD q []=rs[q]:=by
 constructor
 ·rw[Zw,Zm,Zg h];rfl
 ·rw[Zw,Zg h];rfl
theorem Ky:∀(t:Tr) (S:Nat),Dx ls (rs.map AO) t S->S < 2 ^ ls.length->Can (AE ls) (AV (rs.map AO)) n S.testBit ->
 t.ok rs.length/\(∀k,S.testBit k=true->t.end_ rs k=AE ls k/\t.many rs k<=AZ ls (rs.map AO) S)/\t.deep<=AZ ls (rs.map AO) S+1/\(∃k,S.testBit k=true/\t.many rs k=AZ ls (rs.map AO) S)/\t.size+1<=2 * AS ls.length S.testBit
 | .say i,S,⟨o,k,hk,e⟩,hS,hc=>by
  have z:AZ ls (rs.map AO) S=0:=(PX (CK hc)).mpr o;refine⟨trivial,fun a ha=>⟨?_,Zu _⟩,by rw[z];exact Zf _,⟨k,hk,by rw[z];rfl⟩,?_⟩
  ·show i=_;rw[e];exact o k a hk ha
  ·have:=Fm (N:=ls.length) (S:=S.testBit) (C9 hS hk) hk
   show 1+1<=_;lia
 | .ask q tn ty,S,⟨o,hq,b1,b2⟩,hS,hc=>by
  obtain⟨y1,y2⟩:=Ej hq.mem
  have hq':q < rs.length:=by
   have:=(Z4.mp y1).1
   rwa [Ze]at this
  obtain⟨e1,e2⟩:=TL hq';have hN:=Re o hc hq;have hw:wst ls (rs.map AO) S q=max (AZ ls (rs.map AO) (S &&& (rs.map AO).getD q 0)) (AZ ls (rs.map AO) (S - (S &&& (rs.map AO).getD q 0))):=rfl;have hsp:=FI ls.length S.testBit ((rs.map AO).getD q 0).testBit;rw[<- DT,<- Ch]at hsp;obtain⟨⟨a1,a2,_⟩,c1,c2,_⟩:=G4 hS hc y2 (ZBb _);obtain⟨p1,p2,p3,⟨k1,p4,p5⟩,p6⟩:=Ky tn _ b1 c1 c2;obtain⟨r1,r2,r3,⟨k2,r4,r5⟩,r6⟩:=Ky ty _ b2 a1 a2;have ans:∀k,B5 rs q k=gB rs[q] k:=fun k=>by unfold B5;rw[e2]
  have yes:∀k,(S &&& (rs.map AO).getD q 0).testBit k=true ↔ S.testBit k=true/\B5 rs q k=true:=fun k=>by
   rw[ZBS,Zp,e1,mskR_bit,ans]
  have no:∀k,(S - (S &&& (rs.map AO).getD q 0)).testBit k=true ↔ S.testBit k=true/\¬B5 rs q k=true:=fun k=>by
   rw[Ff,Zp,e1,mskR_bit,ans,ZBy,Bool.not_eq_true]
  have em:∀k,(Tr.ask q tn ty).many rs k=1+(if B5 rs q k=true then ty.many rs k else tn.many rs k):=fun _=>rfl
  have ee:∀k,(Tr.ask q tn ty).end_ rs k=(if B5 rs q k=true then ty.end_ rs k else tn.end_ rs k):=fun _=>rfl
  have ed:(Tr.ask q tn ty).deep=1+max tn.deep ty.deep:=rfl;have es:(Tr.ask q tn ty).size=1+tn.size+ty.size:=rfl;generalize AZ ls (rs.map AO) (S &&& (rs.map AO).getD q 0)=X at *;generalize AZ ls (rs.map AO) (S - (S &&& (rs.map AO).getD q 0))=Y at *;generalize AZ ls (rs.map AO) S=N at *;generalize wst ls (rs.map AO) S q=W at *;refine⟨⟨hq',p1,r1⟩,fun k hk=>?_,by lia,?_,by lia⟩
  ·rw[em,ee]
   by_cases z:B5 rs q k=true
   ·rw[if_pos z,if_pos z]
    have:=r2 k ((yes k).mpr ⟨hk,z⟩)
    exact⟨this.1,by lia⟩
   ·rw[if_neg z,if_neg z]
    have:=p2 k ((no k).mpr ⟨hk,z⟩)
    exact⟨this.1,by lia⟩
  ·rcases ZBL Y X with z | z
   ·obtain⟨u1,u2⟩:=(yes k2).mp r4;exact⟨k2,u1,by rw[em,if_pos u2];lia⟩
   ·obtain⟨u1,u2⟩:=(no k1).mp p4;exact⟨k1,u1,by rw[em,if_neg u2];lia⟩
theorem NZ:∀xs:List Nat,CT (iD xs)=xs.map fun(t:Nat)=>Dw.int (t:Int)
 | []=>rfl
 | x::xs=>congrArg (Dw.int (x:Int) :: ·) (NZ xs)
theorem QI(e:Nat × Nat):upW (Cp e)=A4 (BI e.1,((e.2:Nat):Int)):=by
 show Dw.tup [.tup (CT (iD (BI e.1))),.int ((e.2:Nat):Int)]=_;rw[NZ];rfl
theorem Ny:∀es:List (Nat × Nat),CT (es.map Cp)=(Ci es).map A4
 | []=>rfl
 | e::es=>by
  show upW (Cp e)::CT (es.map Cp)=A4 (BI e.1,((e.2:Nat):Int))::(Ci es).map A4;rw[QI,Ny es]
theorem NN(es:List (Nat × Nat)):upW (DQ es)=.tup ((Ci es).map A4):=by
 show Dw.tup (CT (es.map Cp))=_;rw[Ny]
theorem WV{S0:Nat}(I:PInv ls (rs.map AO) n S0 es []):(∀e∈Ci es,Dm ls e)/\(((AZ ls (rs.map AO) S0:Nat):Int)<=0\/∃e∈Ci es,((AZ ls (rs.map AO) S0:Nat):Int)<=e.2)/\G3 rs (Ci es):=by
 refine⟨fun e he=>?_,?_,fun e he h1 r hr=>?_⟩
 ·obtain⟨e',he',rfl⟩:=Zk.mp he;obtain⟨c1,c2,c3,c4⟩:=I.ok e' he';refine⟨⟨X2 _,fun t ht=>C9 c1 (mem_memS.mp ht),by show(1:Int)<=((e'.2:Nat):Int);lia⟩,fun o=>?_⟩;have e3:(fun k=>decide (k∈BI e'.1))=e'.1.testBit:=by funext k;rw[ZBi,decide_eq_true_eq];exact mem_memS
  have o:One (AE ls) (fun k=>decide (k∈BI e'.1)):=o;rw[e3]at o
  have:=(PX (CK c2)).mpr o
  lia
 ·rcases I.top with z | z | z
  ·obtain⟨e',he',ee⟩:=Zk.mp z;refine .inr ⟨(BI e'.1,((e'.2:Nat):Int)),Zk.mpr ⟨e',he',rfl⟩,?_⟩
   have:=(I.ok e' he').2.2.2
   rw[ee]at this;show _<=((e'.2:Nat):Int);lia
  ·cases z
  ·exact .inl (by lia)
 ·obtain⟨e',he',rfl⟩:=Zk.mp he;obtain⟨j,hj,rfl⟩:=ZBG hr;exact Wy I he' (by have h1:(1:Int) < ((e'.2:Nat):Int):=h1;lia) (Zg hj)
theorem DW(N k:Nat):(2 ^ N - 1).testBit k=decide (k < N):=Nat.testBit_two_pow_sub_one ..
theorem FK(N:Nat):2 ^ N - 1 < 2 ^ N:=by have:=ZBd N;lia
theorem FG{L:Nat->Int}:∀(Y:List (Nat->Bool)) (S:Nat->Bool),(∀i j,S i=true->S j=true->(∀y∈Y,y i=y j)->L i=L j)->Can L Y Y.length S
 | [],S,h=>fun i j a b=>h i j a b (fun y hy=>by cases hy)
 | y::Y,S,h=>.inr ⟨y,ZBD ..,FS (fun x hx=>Zz _ hx) (FG Y _ fun i j a b c=>by
  simp only[Zp]at a b;refine h i j a.1 b.1 fun x hx=>?_
  rcases Zh.mp hx with e | e
  ·rw[e,a.2,b.2]
  ·exact c x e),FS (fun x hx=>Zz _ hx) (FG Y _ fun i j a b c=>by
  simp only[Zp,ZBy]at a b;refine h i j a.1 b.1 fun x hx=>?_
  rcases Zh.mp hx with e | e
  ·rw[e,a.2,b.2]
  ·exact c x e)⟩
theorem Tf(he:Ck ls rs):AZ ls (rs.map AO) (2 ^ ls.length - 1)<=rs.length:=by
 have c:Can (AE ls) (rs.map gB) (rs.map gB).length (2 ^ ls.length - 1).testBit:=FG _ _ fun i j a b c=>by
  rw[DW,decide_eq_true_iff]at a b;exact FA he i j a b c
 rw[Ze,<- FW]at c;exact(CK c).2 _ c
structure Told(ls:List Int)(rs:List (List Bool))(t:Tr)(D:Nat):Prop where
 ok:t.ok rs.length
 home:∀k,k < ls.length->t.end_ rs k=AE ls k/\t.many rs k<=D
 one:∃k,k < ls.length/\t.many rs k=D
 small:t.deep<=16/\t.size<=2000
theorem Told.all{t:Tr}{D:Nat}(h:Told ls rs t D):(List.range ls.length).all (CL ls rs (D:Nat) t)=true:=by
 rw[ZBW];intro k hk;obtain⟨h1,h2⟩:=h.home k (Z1.mp hk);unfold CL;rw[Zp,decide_eq_true_iff,decide_eq_true_iff];exact⟨h1,by lia⟩
theorem Told.less{t:Tr}{D:Nat}{z:Int}(h:Told ls rs t D)(hz:z < (D:Nat)):(List.range ls.length).all (CL ls rs z t)=false:=by
 obtain⟨k,hk,e⟩:=h.one;rw[<- Bool.not_eq_true];intro x;rw[ZBW]at x
 have:=x k (Z1.mpr hk)
 unfold CL at this;rw[Zp,decide_eq_true_iff,decide_eq_true_iff]at this;lia
end
noncomputable def BZ(L:Nat->Int)(Y:List (Nat->Bool))(S:Nat->Bool)(m:Nat):Prop:=Al L Y S m\/((∀n,¬Can L Y n S)/\m=99)
section
variable {L:Nat->Int}{Y:List (Nat->Bool)}{S:Nat->Bool}{a b m n:Nat}
theorem HK(h:BZ L Y S m)(c:Can L Y n S):Al L Y S m:=by
 rcases h with h | h
 ·exact h
 ·exact absurd c (h.1 n)
theorem Y5(x:BZ L Y S a)(y:BZ L Y S b):a=b:=by
 rcases x with x | x
 ·exact GI x (HK y x.1)
 ·rcases y with y | y
  ·exact absurd y.1 (x.1 _)
  ·rw[x.2,y.2]
theorem IU(e:∀y∈Y,y i=y j):∀{n:Nat} {S:Nat->Bool},Can L Y n S->S i=true->S j=true->L i=L j
 | 0,_,o,a,b=>o i j a b
 | n+1,_,.inl o,a,b=>o i j a b
 | n+1,S,.inr ⟨y,hy,p,q⟩,a,b=>by
  have ey:=e y hy;cases z:y i with
  | true=>exact IU e p (by show(S i && y i)=true;rw[a,z];rfl) (by show(S j && y j)=true;rw[b,<- ey,z];rfl)
  | false=>exact IU e q (by show(S i && !y i)=true;rw[a,z];rfl) (by show(S j && !y j)=true;rw[b,<- ey,z];rfl)
theorem Tx(h:Al L Y S m):m<=Y.length:=h.2 _ (FG Y S fun i j a b c=>IU c h.1 a b)
theorem UL(h:BZ L Y S m)(hy:Y.length<=16):m<=99:=by
 rcases h with h | h
 ·have:=Tx h
  lia
 ·lia
theorem Uh{y:Nat->Bool}{c:Nat}(hl:Y.length<=16)(hy:y∈Y)(x:BZ L Y S a)(p:BZ L Y (fun k=>S k && y k) b)(q:BZ L Y (fun k=>S k && !y k) c):a<=1+max b c:=by
 have ha:=UL x hl
 rcases p with p | p
 ·rcases q with q | q
  ·have cs:Can L Y (max b c+1) S:=.inr ⟨y,hy,Db (Nat.le_max_left ..) p.1,Db (Nat.le_max_right ..) q.1⟩
   have:=(HK x cs).2 _ cs
   lia
  ·lia
 ·lia
end
theorem MM:∀(l m:List Nat),l.Pairwise (· < ·)->m.Pairwise (· < ·)->(∀k,k∈l ↔ k∈m)->l=m
 | [],[],_,_,_=>rfl
 | [],b::m,_,_,h=>absurd ((h b).mpr (by simp)) (by simp)
 | a::l,[],_,_,h=>absurd ((h a).mp (by simp)) (by simp)
 | a::l,b::m,h1,h2,h=>by
  obtain⟨p1,p2⟩:=ZCj.mp h1;obtain⟨q1,q2⟩:=ZCj.mp h2
  have e:a=b:=by
   rcases Zh.mp ((h a).mp (by simp)) with x | x
   ·exact x
   ·rcases Zh.mp ((h b).mpr (by simp)) with y | y
    ·exact y.symm
    ·have:=q1 a x
     have:=p1 b y
     lia
  subst e;rw[MM l m p2 q2 fun k=>?_];constructor
  ·intro hk
   rcases Zh.mp ((h k).mp (Zz _ hk)) with x | x
   ·have:=p1 k hk;lia
   ·exact x
  ·intro hk
   rcases Zh.mp ((h k).mpr (Zz _ hk)) with x | x
   ·have:=q1 k hk;lia
   ·exact x
noncomputable def Be(ts:List Nat):List Key:=ts.map fun t=>Sum.inl ((t:Nat):Int)
theorem IY(ts:List Nat):(Be ts).map kV=iL ts:=by unfold Be iL;rw[ZBZ];rfl
structure NMemo(ls:List Int)(rs:List (List Bool))(zd:List (List Key × V)):Prop where
 nd:(zd.map (·.1)).Nodup
 ok:∀e∈zd,∃(ts:List Nat) (m:Nat),e=(Be ts,V.int (m:Int))/\ts.Pairwise (· < ·)/\(∀t∈ts,t < ls.length)/\BZ (AE ls) (rs.map gB) (fun k=>decide (k∈ts)) m
theorem V2{zd:List (List Key × V)}{k:List Key}(h:valV zd k=some v):(k,v)∈zd:=by
 unfold valV at h;cases e:zd.find? fun kv=>decide (kv.1=k) with
 | none=>rw[e]at h;cases h
 | some x =>
  rw[e]at h;have h1:=List.find?_some e;have h2:=List.mem_of_find?_eq_some e;cases h
  have:x.1=k:=Zn h1
  rw[<- this];exact h2
theorem Tl{us:List Nat}(h:Be ts=Be us):ts=us:=by
 have:=congrArg (List.map fun k:Key=>match k with | Sum.inl z=>z.toNat | Sum.inr _=>0) h
 unfold Be at this;rw[ZBZ,ZBZ]at this;have e:((fun k:Key=>match k with | Sum.inl z=>z.toNat | Sum.inr _=>0) ∘ fun t:Nat=>(Sum.inl ((t:Nat):Int):Key))=id:=by funext t;exact Z6 t
 rw[e,List.map_id,List.map_id]at this;exact this
theorem NMemo.get{zd:List (List Key × V)}(h:NMemo ls rs zd)(e:valV zd (Be ts)=some v):∃m:Nat,v=.int m/\BZ (AE ls) (rs.map gB) (fun k=>decide (k∈ts)) m:=by
 obtain⟨us,m,ee,_,_,hf⟩:=h.ok _ (V2 e);have e1:Be ts=Be us:=congrArg Prod.fst ee;have e2:v=V.int m:=congrArg Prod.snd ee
 have:=Tl e1
 subst this;exact⟨m,e2,hf⟩
theorem NMemo.put{zd:List (List Key × V)}(h:NMemo ls rs zd)(h1:ts.Pairwise (· < ·))(h2:∀t∈ts,t < ls.length)(hf:BZ (AE ls) (rs.map gB) (fun k=>decide (k∈ts)) m):NMemo ls rs (Ai zd (Be ts) (V.int m)):=by
 unfold Ai;split
 ·refine⟨?_,?_⟩
  ·have e:(zd.map (fun kv=>if kv.1=Be ts then (kv.1,V.int m) else kv)).map (·.1)=zd.map (·.1):=by
    rw[ZBZ];apply ZCc;intro a _;simp only[Function.comp];split <;> rfl
   rw[e];exact h.nd
  ·intro e he;obtain⟨a,ha,rfl⟩:=Zk.mp he;split
   ·rename_i q;exact⟨ts,m,by rw[q],h1,h2,hf⟩
   ·exact h.ok a ha
 ·rename_i z;refine⟨?_,?_⟩
  ·rw[Zt,ZCX];refine⟨h.nd,by simp,?_⟩;intro a ha b hb q;have hb':b=Be ts:=by simpa using hb
   obtain⟨x,hx,rfl⟩:=Zk.mp ha;exact z (ZBe.mpr ⟨x,hx,Zl (q.trans hb')⟩)
  ·intro e he
   rcases ZBE.mp he with q | q
   ·exact h.ok e q
   ·rw[Zq]at q;exact⟨ts,m,q,h1,h2,hf⟩
noncomputable def J1(k:List Key):Nat:=msk (k.map fun x=>match x with | Sum.inl z=>z.toNat | Sum.inr _=>0)
theorem Jh(ts:List Nat):J1 (Be ts)=msk ts:=by
 unfold J1 Be;rw[ZBZ];have e:((fun k:Key=>match k with | Sum.inl z=>z.toNat | Sum.inr _=>0) ∘ fun t:Nat=>(Sum.inl ((t:Nat):Int):Key))=id:=by funext t;exact Z6 t
 rw[e,List.map_id]
theorem NMemo.len{zd:List (List Key × V)}(h:NMemo ls rs zd)(h16:ls.length<=16):zd.length < 2 ^ 24:=by
 have hl:zd.length<=2 ^ ls.length:=by
  have e:(zd.map fun e=>J1 e.1).length=zd.length:=Ze ..;rw[<- e];apply DX
  ·refine ZCF.mpr ?_;have nd:=ZCF.mp h.nd;refine List.Pairwise.imp_of_mem ?_ nd;intro a b ha hb ne q;obtain⟨ts,m,ea,r1,b1,_⟩:=h.ok a ha;obtain⟨us,m',eb,r2,b2,_⟩:=h.ok b hb;subst ea eb;apply ne;rw[Jh,Jh]at q;have x1:=(DJ r1 b1).2;have x2:=(DJ r2 b2).2
   have:ts=us:=MM ts us r1 r2 fun k=>by
    have:=x1 k
    rw[q,x2 k]at this;exact⟨fun z=>Zn (this.trans (Zl z)),fun z=>Zn (this.symm.trans (Zl z))⟩
   rw[this]
  ·intro x hx;obtain⟨a,ha,rfl⟩:=Zk.mp hx;obtain⟨ts,m,ea,r1,b1,_⟩:=h.ok a ha;subst ea;rw[Jh];exact(DJ r1 b1).1
 have:2 ^ ls.length<=2 ^ 16:=Z3 (by decide) h16
 lia
theorem parts_lefts{r:List Bool}:BC (fun k=>decide (k∈ts)) (gB r) ↔ Am r true ts≠[]/\Am r false ts≠[]:=by
 have key:∀ans,Am r ans ts≠[] ↔ ∃k,k∈ts/\gB r k=ans:=fun ans=>by
  constructor
  ·intro h;obtain⟨x,hx⟩:=List.exists_mem_of_ne_nil _ h;exact⟨x,mem_lefts.mp hx⟩
  ·rintro⟨k,hk⟩ e
   have:=mem_lefts.mpr hk
   rw[e]at this;simp at this
 unfold BC;rw[key true,key false];simp only[decide_eq_true_eq]
theorem Mf{r:List Bool}(h:BC (fun k=>decide (k∈ts)) (gB r))(ans:Bool):(Am r ans ts).length < ts.length:=by
 obtain⟨⟨i,hi,yi⟩,j,hj,yj⟩:=h;have hi:=Zn hi;have hj:=Zn hj
 have key:∀(k:Nat) (b:Bool),k∈ts->gB r k=b->(Am r (!b) ts).length < ts.length:=fun k b hk hb=>by
  unfold Am;refine Nat.lt_of_le_of_ne (ZCQ _ _) fun e=>?_
  have:=List.length_filter_eq_length_iff.mp e k hk
  rw[hb]at this;cases b <;> simp at this
 cases ans with
 | true=>exact key j false hj yj
 | false=>exact key i true hi yi
theorem SX{zd:List (List Key × V)}:CC (.dT zd):=⟨(fun _ z=>nomatch z),(fun _ _ z=>nomatch z)⟩
theorem QH(bs:List Bool)(m:Nat):Ke bs m=gmD (bs.map fun b=>if b then 1 else 0) ((List.range m).map (BY m)):=by
 unfold Ke gmD Ih DG FL;rw[ZBZ,ZBZ];rfl
noncomputable def Ac(bs:List Bool):List Int:=bs.map fun b=>if b then 1 else 0
noncomputable def Ah(m:Nat):List (List Bool):=(List.range m).map (BY m)
theorem Es(bs:List Bool):(Ac bs).length=bs.length:=Ze ..
theorem GD(m:Nat):(Ah m).length=m:=by unfold Ah;rw[Ze,ZBk]
theorem KI{p:Nat}(h:p < bs.length):AE (Ac bs) p=if gB bs p=true then 1 else 0:=by
 show(List.map _ bs).getD p 0=if bs.getD p false=true then 1 else 0
 rw[Zw,Zw,Zm,Zg h];rfl
theorem FQ{p q:Nat}(hp:p < bs.length)(hq:q < bs.length):AE (Ac bs) p=AE (Ac bs) q ↔ gB bs p=gB bs q:=by
 rw[KI hp,KI hq];cases gB bs p <;> cases gB bs q <;> simp
theorem Dg{p:Nat}(hp:p < 2 ^ m):gB (BY m i) p=p.testBit i:=by
 show(List.map _ (List.range (2 ^ m))).getD p false=_
 rw[Zw,Zm,ZBp hp,ZCn]
 show(p / 2 ^ i % 2 == 1)=decide (p / 2 ^ i % 2=1)
 rfl
theorem W0(h:bs.length=2 ^ m)(m1:1<=m)(m4:m<=4):Gm (Ac bs) (Ah m):=by
 have h16:2 ^ m<=16:=Z3 (n:=2) (j:=4) (by decide) m4;have h2:2<=2 ^ m:=Z3 (n:=2) (i:=1) (by decide) m1;refine⟨by rw[Es];lia,by rw[Es];lia,by rw[GD];lia,by rw[GD];lia,fun r hr=>?_,fun x hx=>?_⟩
 ·obtain⟨i,_,rfl⟩:=Zk.mp hr;rw[WB,Es,h]
 ·obtain⟨b,_,rfl⟩:=Zk.mp hx;cases b <;> decide
theorem NM{y:Nat->Bool}(h:y∈(Ah m).map gB):∃i,i < m/\∀p,p < 2 ^ m->y p=p.testBit i:=by
 obtain⟨r,hr,rfl⟩:=Zk.mp h;obtain⟨i,hi,rfl⟩:=Zk.mp hr;exact⟨i,Z1.mp hi,fun p hp=>Dg hp⟩
theorem O4(h:i < m):gB (BY m i)∈(Ah m).map gB:=Zk.mpr ⟨_,Zk.mpr ⟨i,Z1.mpr h,rfl⟩,rfl⟩
theorem TW{p q:Nat}(hp:p < 2 ^ m)(hq:q < 2 ^ m)(h:∀i,i < m->p.testBit i=q.testBit i):p=q:=by
 apply ZCl;intro i
 by_cases z:i < m
 ·exact h i z
 ·have hi:2 ^ m<=2 ^ i:=Z3 (by decide) (by lia);rw[ZCb (by lia),ZCb (by lia)]
theorem NL(h:bs.length=2 ^ m):Ck (Ac bs) (Ah m):=fun i j ⟨h1,h2,h3,h4⟩=>h3 (by
 rw[Es,h]at h2
 rw[TW (m:=m) (p:=i) (q:=j) (by lia) h2 fun k hk=>by
  have:=List.map_inj_left.mp h4 (BY m k) (Zk.mpr ⟨k,Z1.mpr hk,rfl⟩)
  rw[Dg (by lia),Dg h2]at this;exact this])
theorem DZ{x:Nat}(hx:x < 2 ^ m)(hk:k < m):x ^^^ 2 ^ k < 2 ^ m:=Nat.xor_lt_two_pow hx (Nat.pow_lt_pow_right (by decide) hk)
theorem IB(x k i:Nat):(x ^^^ 2 ^ k).testBit i=(x.testBit i ^^ decide (k=i)):=by rw[Nat.testBit_xor,Nat.testBit_two_pow]
theorem PZ:∀(n Tw k:Nat),k < n->chi n Tw (2 ^ k)=if Tw.testBit k=true then -1 else 1
 | 0,Tw,k,h=>absurd h (ZBt _)
 | n+1,Tw,0,h=>by
  show(if Tw % 2=1/\2 ^ 0 % 2=1 then -1 else 1) * chi n (Tw / 2) (2 ^ 0 / 2)=_
  rw[show 2 ^ 0 / 2=0 from rfl,OR,Nat.testBit_zero]
  by_cases z:Tw % 2=1 <;> simp[z]
 | n+1,Tw,k+1,h=>by
  show(if Tw % 2=1/\2 ^ (k+1) % 2=1 then -1 else 1) * chi n (Tw / 2) (2 ^ (k+1) / 2)=_
  rw[ZBX,Nat.mul_mod_left,Nat.mul_div_cancel _ (by decide),PZ n (Tw / 2) k (by lia),if_neg (fun z=>by cases z.2),Int.one_mul,Nat.testBit_succ]
noncomputable def C6(m Tw:Nat)(v:Nat->Int)(S:Nat->Bool):Int:=AQ (fun x=>if S x=true then chi m Tw x * v x else 0) (2 ^ m)
noncomputable def Cs(m Tw:Nat)(U:Nat->Bool):Nat:=AS m fun k=>Tw.testBit k && U k
theorem VV{v:Nat->Int}{S:Nat->Bool}(hk:k < m)(hT:Tw.testBit k=true)(hS:∀x,x < 2 ^ m->S x=S (x ^^^ 2 ^ k))(hv:∀x y,x < 2 ^ m->y < 2 ^ m->S x=true->S y=true->v x=v y):C6 m Tw v S=0:=by
 have e:=ND m (fun x=>if S x=true then chi m Tw x * v x else 0) (2 ^ k) (Nat.pow_lt_pow_right (by decide) hk)
 have e2:AQ (fun x=>if S (x ^^^ 2 ^ k)=true then chi m Tw (x ^^^ 2 ^ k) * v (x ^^^ 2 ^ k) else 0) (2 ^ m)=AQ (fun x=>(-1) * (if S x=true then chi m Tw x * v x else 0)) (2 ^ m):=BB fun x hx=>by
  rw[<- hS x hx]
  by_cases z:S x=true
  ·rw[if_pos z,if_pos z,GT,PZ m Tw k hk,if_pos hT,hv (x ^^^ 2 ^ k) x (DZ hx hk) hx (by rw[<- hS x hx];exact z) z];rw[Int.mul_neg,ZCI,Int.neg_mul,Int.neg_mul,Int.one_mul]
  ·rw[if_neg z,if_neg z];rfl
 rw[e2,<- Df]at e;unfold C6;lia
theorem Ss{U:Nat->Bool}(h:0 < Cs m Tw U):∃k,k < m/\Tw.testBit k=true/\U k=true:=by
 obtain⟨k,hk⟩:=List.exists_mem_of_length_pos h;obtain⟨h1,h2⟩:=ZBM.mp hk;rw[Zp]at h2;exact⟨k,Z1.mp h1,h2⟩
theorem Op(N i:Nat)(S:Nat->Bool):AS N (fun k=>S k && decide (k=i))<=1:=by
 induction N with
 | zero=>exact Zu _
 | succ N ih =>
  rw[D1]
  by_cases z:N=i
  ·have h0:AS N (fun k=>S k && decide (k=i))=0:=by
    unfold AS;rw[ZCZ,List.filter_eq_nil_iff];intro k hk
    have:=Z1.mp hk
    rw[ZBC (show ¬k=i by lia),ZCV];exact ZBF
   rw[h0];split <;> lia
  ·rw[ZBC z,ZCV,if_neg ZBF];exact ih
theorem Rb{U:Nat->Bool}:Cs m Tw U<=Cs m Tw (fun k=>U k && !decide (k=i))+1:=by
 have h:=FI m (fun k=>Tw.testBit k && U k) (fun k=>decide (k=i));have h1:=Op m i fun k=>Tw.testBit k && U k
 have h2:AS m (fun k=>Tw.testBit k && U k && !decide (k=i))=Cs m Tw (fun k=>U k && !decide (k=i)):=by
  unfold Cs
  congr 1
  funext k
  exact Bool.and_assoc ..
 have h0:Cs m Tw U=AS m (fun k=>Tw.testBit k && U k):=rfl;lia
theorem UD{v:Nat->Int}(hb:bs.length=2 ^ m)(hv:∀x y,x < 2 ^ m->y < 2 ^ m->gB bs x=gB bs y->v x=v y):∀(n:Nat) (S U:Nat->Bool),(∀k,k < m->U k=true->∀x,x < 2 ^ m->S x=S (x ^^^ 2 ^ k))->Can (AE (Ac bs)) ((Ah m).map gB) n S->n < Cs m Tw U->C6 m Tw v S=0:=by
 have base:∀(S U:Nat->Bool),(∀k,k < m->U k=true->∀x,x < 2 ^ m->S x=S (x ^^^ 2 ^ k))->One (AE (Ac bs)) S->0 < Cs m Tw U->C6 m Tw v S=0:=fun S U hS o h=>by
  obtain⟨k,hk,hT,hU⟩:=Ss h;exact VV hk hT (hS k hk hU) fun x y hx hy sx sy=>hv x y hx hy ((FQ (by lia) (by lia)).mp (o x y sx sy))
 intro n
 induction n with
 | zero=>exact fun S U hS o h=>base S U hS o h
 | succ n ih =>
  intro S U hS c h
  rcases c with o | ⟨y,hy,p,q⟩
  ·exact base S U hS o (by lia)
  ·obtain⟨i,hi,ey⟩:=NM hy
   have hU:∀k,k < m->(U k && !decide (k=i))=true->∀x,x < 2 ^ m->S x=S (x ^^^ 2 ^ k)/\y (x ^^^ 2 ^ k)=y x:=fun k km hk x hx=>by
    rw[Zp,ZBy,decide_eq_false_iff_not]at hk;exact⟨hS k km hk.1 x hx,by rw[ey _ (DZ hx km),ey _ hx,IB,ZBC hk.2,Bool.xor_false]⟩
   have zm:n < Cs m Tw (fun k=>U k && !decide (k=i)):=by
    have:=Rb (m:=m) (Tw:=Tw) (i:=i) (U:=U)
    lia
   have e1:=ih _ _ (fun k km hk x hx=>by rw[(hU k km hk x hx).2,<- (hU k km hk x hx).1]) p zm;have e2:=ih _ _ (fun k km hk x hx=>by rw[(hU k km hk x hx).2,<- (hU k km hk x hx).1]) q zm
   have e3:C6 m Tw v S=C6 m Tw v (fun k=>S k && y k)+C6 m Tw v (fun k=>S k && !y k):=by
    unfold C6;rw[Hv];refine BB fun x hx=>?_
    show(if S x=true then chi m Tw x * v x else 0)=(if (S x && y x)=true then chi m Tw x * v x else 0)+(if (S x && !y x)=true then chi m Tw x * v x else 0)
    cases S x <;> cases y x <;> simp
   rw[e3,e1,e2];rfl
theorem Qc{x:Nat}(h:gB bs x=gB bs y):An bs x=An bs y:=by
 show Dk (bs.getD x false)=Dk (bs.getD y false);have h:bs.getD x false=bs.getD y false:=h;rw[h]
theorem Vg{x:Nat}(h:An bs x=An bs y):gB bs x=gB bs y:=by
 have h:Dk (gB bs x)=Dk (gB bs y):=h;cases e1:gB bs x <;> cases e2:gB bs y <;> rw[e1,e2]at h <;> first | rfl | (cases h)
theorem YQ(hb:bs.length=2 ^ m)(hc:Can (AE (Ac bs)) ((Ah m).map gB) n (2 ^ 2 ^ m - 1).testBit)(hw:wt m (An bs) Tw≠0):AS m Tw.testBit<=n:=by
 refine Nat.le_of_not_lt fun h=>hw ?_
 have hS:∀x,x < 2 ^ m->(2 ^ 2 ^ m - 1).testBit x=true:=fun x hx=>by rw[DW];exact Zl hx
 have z:=UD (Tw:=Tw) (v:=An bs) hb (fun x y _ _ e=>Qc e) n _ (fun _=>true) (fun k hk _ x hx=>by rw[hS x hx,hS _ (DZ hx hk)]) hc (by
  unfold Cs;rw[show(fun k=>Tw.testBit k && true)=Tw.testBit from funext fun k=>Bool.and_true _];exact h)
 rw[<- z];unfold wt C6;exact BB fun x hx=>by rw[if_pos (hS x hx)]
theorem K2{S S':Nat->Bool}(h:∀k,k < N->S' k=true->S k=true):AS N S'<=AS N S:=by
 induction N with
 | zero=>exact Zf _
 | succ N ih =>
  rw[D1,D1]
  have:=ih fun k hk=>h k (by lia)
  cases e:S' N with
  | false=>rw[if_neg ZBF];split <;> lia
  | true=>rw[h N (ZBb _) e,if_pos rfl];lia
noncomputable def CZ(bs:List Bool)(x:Nat)(S:Nat->Bool)(k:Nat):Bool:=S (x ^^^ 2 ^ k) && (gB bs (x ^^^ 2 ^ k) != gB bs x)
theorem RZ{x:Nat}(hb:bs.length=2 ^ m)(hx:x < 2 ^ m):∀(n:Nat) (S:Nat->Bool),S x=true->Can (AE (Ac bs)) ((Ah m).map gB) n S->AS m (CZ bs x S)<=n:=by
 have base:∀S:Nat->Bool,S x=true->One (AE (Ac bs)) S->AS m (CZ bs x S)<=0:=fun S sx o=>by
  have:AS m (CZ bs x S)<=AS m (fun _=>false):=K2 fun k hk h=>by
   unfold CZ at h;rw[Zp]at h;have e:=(FQ (bs:=bs) (by rw[hb];exact DZ hx hk) (by lia)).mp (o _ _ h.1 sx);rw[e]at h;simp at h
  have z:AS m (fun _=>false)=0:=by
   unfold AS;rw[ZCZ,List.filter_eq_nil_iff];exact fun _ _=>ZBF
  lia
 intro n
 induction n with
 | zero=>exact fun S sx o=>base S sx o
 | succ n ih =>
  intro S sx c
  rcases c with o | ⟨y,hy,p,q⟩
  ·have:=base S sx o
   lia
  ·obtain⟨i,hi,ey⟩:=NM hy
   have key:∀S':Nat->Bool,S' x=true->(∀z,z < 2 ^ m->S z=true->y z=y x->S' z=true)->Can (AE (Ac bs)) ((Ah m).map gB) n S'->AS m (CZ bs x S)<=n+1:=fun S' sx' hs c'=>by
    have h1:=ih S' sx' c';have h2:=FI m (CZ bs x S) fun k=>decide (k=i)
    have h3:=Op m i (CZ bs x S)
    have h4:AS m (fun k=>CZ bs x S k && !decide (k=i))<=AS m (CZ bs x S'):=K2 fun k hk h=>by
     rw[Zp,ZBy,decide_eq_false_iff_not]at h;obtain⟨h5,h6⟩:=h;unfold CZ at h5 ⊢;rw[Zp]at h5 ⊢;exact⟨hs _ (DZ hx hk) h5.1 (by rw[ey _ (DZ hx hk),ey _ hx,IB,ZBC h6,Bool.xor_false]),h5.2⟩
    lia
   cases e:y x with
   | true=>exact key _ (by show(S x && y x)=true;rw[sx,e];rfl) (fun z hz h1 h2=>by show(S z && y z)=true;rw[h1,h2,e];rfl) p
   | false=>exact key _ (by show(S x && !y x)=true;rw[sx,e];rfl) (fun z hz h1 h2=>by show(S z && !y z)=true;rw[h1,h2,e];rfl) q
theorem Mw:∀(n Tw z:Nat),(∀k,k < n->Tw.testBit k=true->z.testBit k=false)->chi n Tw z=1
 | 0,_,_,_=>rfl
 | n+1,Tw,z,h=>by
  show(if Tw % 2=1/\z % 2=1 then -1 else 1) * chi n (Tw / 2) (z / 2)=1
  rw[Mw n (Tw / 2) (z / 2) fun k hk e=>by
   have:=h (k+1) (by lia) (by rw[Nat.testBit_succ];exact e)
   rw[Nat.testBit_succ]at this;exact this,if_neg fun w=>?_]
  ·rfl
  ·have:=h 0 (by lia) (by rw[Nat.testBit_zero];exact Zl w.1)
   rw[Nat.testBit_zero]at this;exact absurd w.2 (of_decide_eq_false this)
theorem Qa{J:Nat}(hb:bs.length=2 ^ m)(hJ:∀Tw,Tw < 2 ^ m->wt m (An bs) Tw≠0->∀k,Tw.testBit k=true->J.testBit k=true):Can (AE (Ac bs)) ((Ah m).map gB) (AS m J.testBit) (2 ^ 2 ^ m - 1).testBit:=by
 have hl:(((List.range m).filter J.testBit).map fun i=>gB (BY m i)).length=AS m J.testBit:=by rw[Ze];rfl
 rw[<- hl];refine FS (fun y hy=>?_) (FG (((List.range m).filter J.testBit).map fun i=>gB (BY m i)) _ fun x y hx hy h=>?_)
 ·obtain⟨i,hi,rfl⟩:=Zk.mp hy;exact O4 (Z1.mp (ZBM.mp hi).1)
 ·rw[DW]at hx hy;have hx:=Zn hx;have hy:=Zn hy;refine(FQ (by lia) (by lia)).mpr (Vg ?_)
  have ag:∀k,k < m->J.testBit k=true->x.testBit k=y.testBit k:=fun k hk hj=>by
   have:=h _ (Zk.mpr ⟨k,ZBM.mpr ⟨Z1.mpr hk,hj⟩,rfl⟩)
   rw[Dg hx,Dg hy]at this;exact this
  have e:=JT m (An bs) x hx;rw[BB (g:=fun s=>chi m s y * wt m (An bs) s) fun s hs=>?_,JT m (An bs) y hy]at e
  ·have hp:(0:Int) < ((2 ^ m:Nat):Int):=by have:=ZBd m;lia
   exact(Int.eq_of_mul_eq_mul_left (by lia) e).symm
  ·by_cases w:wt m (An bs) s=0
   ·rw[w,Int.mul_zero,Int.mul_zero]
   ·have e1:chi m s x * chi m s y=1:=by
     rw[<- GT];refine Mw m s _ fun k hk hs'=>?_
     rw[Nat.testBit_xor,ag k hk (hJ s hs w k hs'),Bool.xor_self]
    rcases chi_one m s x with a | a <;> rcases chi_one m s y with b | b <;> rw[a,b]at e1 ⊢ <;> simp at e1
theorem Sc(f:zp d H H')(hd:H d=some o)(no:CC o)(h:zt K H p xs):zt K H' p xs:=Cq f hd no h
structure Fn2(ls:List Int)(rs:List (List Bool))(ts:List Nat)(k:Nat)(xs:List Nat):Prop where
 lo:∀F,BZ (AE ls) (rs.map gB) (fun k=>decide (k∈ts)) F->∀x∈xs,F<=x
 hi:∀(i:Nat) (r:List Bool),i < k->rs[i]? = some r->BC (fun k=>decide (k∈ts)) (gB r)->∃b c,BZ (AE ls) (rs.map gB) (fun k=>decide (k∈Am r true ts)) b/\BZ (AE ls) (rs.map gB) (fun k=>decide (k∈Am r false ts)) c/\1+max b c∈xs
theorem Fn2.part{xs:List Nat}(h:Fn2 ls rs ts rs.length xs){y:Nat->Bool}(hy:y∈rs.map gB)(hp:BC (fun k=>decide (k∈ts)) y):∃b c,BZ (AE ls) (rs.map gB) (fun k=>decide (k∈ts) && y k) b/\BZ (AE ls) (rs.map gB) (fun k=>decide (k∈ts) && !y k) c/\1+max b c∈xs:=by
 obtain⟨r,hr,rfl⟩:=Zk.mp hy;obtain⟨i,hi,ei⟩:=ZBG hr;obtain⟨b,c,f1,f2,hx⟩:=h.hi i r hi (by rw[Zg hi,ei]) hp;rw[Oc]at f1;rw[OD]at f2;exact⟨b,c,f1,f2,hx⟩
theorem Fn2.min{xs:List Nat}(h:Fn2 ls rs ts rs.length xs)(ho:¬One (AE ls) (fun k=>decide (k∈ts)))(hc:Can (AE ls) (rs.map gB) n (fun k=>decide (k∈ts)))(hM:M∈xs)(hle:∀x∈xs,M<=x):BZ (AE ls) (rs.map gB) (fun k=>decide (k∈ts)) M:=by
 obtain⟨F,hF⟩:=LJ hc;have h1:=h.lo F (.inl hF) M hM
 have h2:M<=F:=by
  obtain⟨hc,hmin⟩:=id hF;cases F with
  | zero=>exact absurd hc ho
  | succ n =>
   rcases hc with o | ⟨y,hy,p,q⟩
   ·exact absurd o ho
   ·by_cases hp:BC (fun k=>decide (k∈ts)) y
    ·obtain⟨b,c,f1,f2,hx⟩:=h.part hy hp;have b1:=(HK f1 p).2 _ p;have b2:=(HK f2 q).2 _ q
     have:=hle _ hx
     lia
    ·rcases not_parts hp with z | z
     ·have:=hmin n (Bl z p);lia
     ·have:=hmin n (Bl z q);lia
 rw[Nat.le_antisymm h2 h1];exact .inl hF
theorem Fn2.pos{xs:List Nat}(h:Fn2 ls rs ts rs.length xs)(ho:¬One (AE ls) (fun k=>decide (k∈ts)))(hc:Can (AE ls) (rs.map gB) n (fun k=>decide (k∈ts))):0 < xs.length:=by
 obtain⟨y,hy,hp⟩:=GZ ho hc;obtain⟨b,c,_,_,hx⟩:=h.part hy hp;exact ZCa hx
theorem VW(h:i < m):(Ah m)[i]? = some (BY m i):=by
 unfold Ah;rw[Zm,ZBp h];rfl
theorem Lp{t:Nat}(h:i < m)(ht:t < 2 ^ m):atI ((A7 m t).map V.bl) ((i:Nat):Int)=some (.bl (gB (BY m i) t)):=by
 refine Ae rfl ?_;unfold A7;rw[Zm,Zm,ZBp h,Dg ht,ZCn];rfl
theorem V9(zm:∀t∈ts,t < bs.length):One (AE (Ac bs)) (fun k=>decide (k∈ts)) ↔ (((ts.map (gB bs)).any (· == true)).toNat+((ts.map (gB bs)).any (· == false)).toNat) < 2:=by
 have any:∀b:Bool,((ts.map (gB bs)).any (· == b))=true ↔ ∃t∈ts,gB bs t=b:=fun b=>by
  rw[ZBe];constructor
  ·rintro⟨x,hx,h⟩;obtain⟨t,ht,rfl⟩:=Zk.mp hx;exact⟨t,ht,beq_iff_eq.mp h⟩
  ·rintro⟨t,ht,h⟩;exact⟨_,Zk.mpr ⟨t,ht,rfl⟩,beq_iff_eq.mpr h⟩
 constructor
 ·intro o;cases e1:(ts.map (gB bs)).any (· == true) with
  | false=>cases (ts.map (gB bs)).any (· == false) <;> decide
  | true =>
   cases e2:(ts.map (gB bs)).any (· == false) with
   | false=>decide
   | true =>
    obtain⟨t,ht,h1⟩:=(any true).mp e1;obtain⟨u,hu,h2⟩:=(any false).mp e2
    have:=(FQ (zm t ht) (zm u hu)).mp (o t u (Zl ht) (Zl hu))
    rw[h1,h2]at this;cases this
 ·intro h t u ht hu;have ht:=Zn ht;have hu:=Zn hu;refine(FQ (zm t ht) (zm u hu)).mpr ?_;cases e1:gB bs t <;> cases e2:gB bs u <;> first | rfl | (exfalso;rw[(any true).mpr (by first | exact⟨t,ht,e1⟩ | exact⟨u,hu,e2⟩),(any false).mpr (by first | exact⟨t,ht,e1⟩ | exact⟨u,hu,e2⟩)]at h;exact absurd h (by decide))
noncomputable def CH(K:W.Frag)(c:Nat):Sp:=fun vs H Q _=>match vs with
 | [.int z,.ref tb,.ref p,.ref d]=>∃(m:Nat) (bs:List Bool) (ts:List Nat) (zd:List (List Key × V)),z=(m:Nat)/\1<=m/\m<=4/\bs.length=2 ^ m/\zt K H tb (bs.map V.bl)/\H p=some (.tup (iL ts))/\ts.Pairwise (· < ·)/\(∀t∈ts,t < 2 ^ m)/\ts.length < c/\H d=some (.dT zd)/\NMemo (Ac bs) (Ah m) zd/\∀(M:Nat) (kvs':List (List Key × V)) H',BZ (AE (Ac bs)) ((Ah m).map gB) (fun k=>decide (k∈ts)) M->zp d H H'->H' d=some (.dT kvs')->NMemo (Ac bs) (Ah m) kvs'->Q (.int (M:Nat)) H'
 | _=>False
theorem Nv{c:Nat}:AK (CH K c):=fun vs H Q Q' E h q=>by
 unfold CH at *;walk_at "q"
theorem Vj(c:Nat)(G_z52:Ok_ P w base T.z52 (c+3) (CH K c)) :
 Ok_ P w base T.z52 (c+4) (CH K (c+1)):=by
 have G_z51:=@Fk P w K mg base T;refine T.z52.F.ok sc_z52 (fun vs H Q E h=>by unfold CH at h;walk_at "e") ?_;walk_at "f";have hr_z52:=hr;have hr_z51:=hr.mono (show 2<=c+3 by lia);unfold CH at h;walk_at "g"
 rename_i z0 tb p d;obtain⟨m,bs,ts,zd,e1,mg1,m4,hb,htb,hp,hrise,zm,hc,hd,M,q⟩:=h;subst e1;have h16:2 ^ m<=16:=Z3 (n:=2) (j:=4) (by decide) m4;have hlL:(Ac bs).length=2 ^ m:=by rw[Es,hb]
 have hrL:=GD m;have tl16:=TF hrise zm;have npd:p≠d:=BK hp hd (by intro z;cases z);have mo1:AK (CH K c):=Nv;have mo2:AK DE:=HR;have hcan:=Xv (ls:=Ac bs) (rs:=Ah m) (NL hb) (ts:=ts) (fun t ht=>by rw[hlL];exact zm t ht);have htB:∀{H'},zp d H H'->zt K H' tb (bs.map V.bl):=fun f=>Sc f hd SX htb
 refine⟨_,(@AF _ _ _ _ _ (@Ao _ _ _ _ _ _ _ _ (Af DL (Aa Qi rfl T.zR (by rfl) (AA (BU (TR (K:=K) rfl) rfl T.yg (by rfl) (AA (Az (N':=["_law_place","_law_table_here"]) (own:=1) (ix:=[1]) rfl (BH (K:=K) (vv 2)) (by kernel_rfl) rfl rfl (by kernel_rfl) (fun c=>AN (i:=0) (show(["_law_place","_law_table_here"]:List Str).Nodup by decide +kernel) rfl (by right)) (AX (by decide)) (fun c=>Av) (fun c=>(zw (K:=K) (vv 1) (vv 0)))) AB)) AB)) AC) (@AH _ _ _ (@AL _ _ _ _ AC)) Aq) (@AF _ _ _ _ _ (@Ao _ _ _ _ _ _ _ _ (Af (GV hu) (vv 2) (vv 3)) (@AF _ _ _ _ _ (@AR _ _ 4 _ _ _ _ sc_z52.nd rfl (by right) (@Ca _ _ _ _ AB) (by rfl) (by walk_at "i")) (@AF _ _ _ _ _ (@Bk _ _ _ _ _ _ _ _ PassesOwn.never rfl (BP rfl T.zH (AA (vv 0) AB)) (AN (i:=5) sc_z52.nd rfl (by right)) (@AF _ _ _ _ _ (@AR _ _ 6 _ _ _ _ sc_z52.nd rfl (by right) (BU (CY (K:=K)) rfl T.zM (by rfl) (AA (Az (N':=["_law_place","_law_n","_law_k"]) (own:=1) (ix:=[0,5]) rfl (BH (K:=K) (vv 2)) (by kernel_rfl) rfl rfl (by kernel_rfl) (fun c=>AN (i:=0) (show(["_law_place","_law_n","_law_k"]:List Str).Nodup by decide +kernel) rfl (by right)) (AX (by decide)) (fun c=>DD (Bw (A9 (zw (K:=K) (AM G_z51 hr_z51 rfl T.z51.m T.z51.F.kp T.z51.b .nil AG (AA (vv 1) (AA (vv 0) AB))) (vv 2))))) (fun c=>(vv 0))) AB)) (by rfl) (by walk_at "i")) (@AF _ _ _ _ _ (@AR _ _ 7 _ _ _ _ sc_z52.nd rfl (by right) (BU (CY (K:=K)) rfl T.zM (by rfl) (AA (Az (N':=["_law_place","_law_n","_law_k"]) (own:=1) (ix:=[0,5]) rfl (BH (K:=K) (vv 2)) (by kernel_rfl) rfl rfl (by kernel_rfl) (fun c=>AN (i:=0) (show(["_law_place","_law_n","_law_k"]:List Str).Nodup by decide +kernel) rfl (by right)) (AX (by decide)) (fun c=>DD (A9 (zw (K:=K) (AM G_z51 hr_z51 rfl T.z51.m T.z51.F.kp T.z51.b .nil AG (AA (vv 1) (AA (vv 0) AB))) (vv 2)))) (fun c=>(vv 0))) AB)) (by rfl) (by walk_at "i")) (@AH _ _ _ (@Ao _ _ _ _ _ _ _ _ (PW.pt (EW (Af (Mv (K:=K) hu) (vv 6) (CG AB)) (Ef (Af (Mv (K:=K) hu) (vv 7) (CG AB))))) (@AH _ _ _ (@Ge _ _ _ _ (V3 (K:=K) (vv 4) (AA (AU (Bi (K:=K)) AC (Aa (Gc rfl) rfl T.ya (by rfl) (AA (AM G_z52 hr_z52 rfl T.z52.m T.z52.F.kp T.z52.b .nil AG (AA (vv 0) (AA (vv 1) (AA (vv 6) (AA (vv 3) AB))))) (AA (AM G_z52 hr_z52 rfl T.z52.m T.z52.F.kp T.z52.b .nil AG (AA (vv 0) (AA (vv 1) (AA (vv 7) (AA (vv 3) AB))))) AB)))) AB)) (by rfl))) Aq)))) (by intro _;rfl)) (@AH _ _ _ (@Fb _ _ _ _ _ _ _ _ _ (Cb hu) (vv 3) (vv 2) (Aa (PQ (K:=K) rfl) rfl T.yh (by rfl) (AA (vv 4) AB)) (by rfl))))) Aq) (@AH _ _ _ (@AL _ _ _ _ (Ii (Cb hu) (vv 3) (vv 2) (by intro _ _;rfl)))))),?_⟩;refine Ad (fun Z H'=>Z=[some (.int (m:Nat)),some (.ref tb),some (.ref p),some (.ref d),none,none,none,none]/\zc H H'/\¬One (AE (Ac bs)) (fun k=>decide (k∈ts))) ?_ ?_ (by walk_at "sm")
 ·refine .inr ⟨⟨_,.of hp⟩,?_⟩
  refine Bz (xs:=iL ts) (fun k zs H'=>H'=H/\zs=((ts.take k).map (gB bs)).map V.bl) ⟨rfl,rfl⟩ (fun k zs H' _ ⟨e,_⟩=>by rw[e];exact .of hp) (fun k zs H' hk ⟨_,e⟩=>by
   rw[Ag]at hk;rw[e,Ze,Ze,Z7];exact Aj (by lia)) ?_ ?_
  ·rintro k x zs H' hx ⟨rfl,rfl⟩;obtain⟨t,ht,hmem,rfl⟩:=CD hx;refine⟨_,.bl (gB bs t),.inr htb,Ed (by rw[hb];exact zm t hmem),rfl,?_⟩;rw[ZBB,ht,Zt,Zt];rfl
  ·rintro zs H' ⟨rfl,rfl⟩ l hl';rw[Ag,ZBT];refine⟨_,.of AD,fun qs hqs=>⟨_,AD,?_⟩⟩;have S:=(zc.upd (o:=.lst ((ts.map (gB bs)).map V.bl)) hl').trans (zc.upd (o:=Fc qs (((ts.map (gB bs)).any (· == true)).toNat+((ts.map (gB bs)).any (· == false)).toNat)) hqs);have o1:=V9 (bs:=bs) (ts:=ts) (fun t ht=>by rw[hb];exact zm t ht);refine Ab (fun e=>?_) (fun e=>⟨rfl,S,fun o=>e (Zl (by have:=o1.mp o;lia))⟩);have e:(((((ts.map (gB bs)).any (· == true)).toNat+((ts.map (gB bs)).any (· == false)).toNat:Nat)):Int) < 2:=Zn e;exact q 0 zd _ (.inl ⟨o1.mpr (by lia),fun _ _=>Zu _⟩) (A5 S) (S _ _ hd) M
 rintro Z H1 ⟨rfl,s1,ho⟩;have hd1:=s1 _ _ hd;have hp1:=s1 _ _ hp;refine Ad (fun Z H'=>(∃x y z u,Z=[some (.int (m:Nat)),some (.ref tb),some (.ref p),some (.ref d),x,y,z,u])/\zp d H1 H'/\∃(kvs':List (List Key × V)) (M:Nat),H' d=some (.dT kvs')/\NMemo (Ac bs) (Ah m) kvs'/\valV kvs' (Be ts)=some (.int (M:Nat))/\BZ (AE (Ac bs)) ((Ah m).map gB) (fun k=>decide (k∈ts)) M) ?_ ?_ (by walk_at "sm");rotate_left
 ·rintro Z H2 ⟨⟨x,y,z,u,rfl⟩,f2,kvs',M',hd2,M2,hv2,hm⟩;refine⟨d,.int (M':Nat),rfl,?_,q M' kvs' H2 hm ((A5 s1).trans f2) hd2 M2⟩;rw[<- hv2];exact DGet.t hd2 (by rw[IY];exact f2 _ _ npd hp1)
 refine⟨valV zd (Be ts),DGet.t hd1 (by rw[IY];exact hp1),?_⟩;cases e:valV zd (Be ts) with
 | some v0 =>
  obtain⟨M',rfl,hm⟩:=M.get e;exact⟨⟨_,_,_,_,rfl⟩,zp.refl,zd,M',hd1,M,e,hm⟩
 | none =>
  refine⟨Zu _,fun l hl=>?_⟩;dsimp only[Ak];have s2:=zc.upd (o:=.lst (iL [])) hl;have nld:l≠d:=fun z=>by rw[z,hd1]at hl;cases hl
  have gl2:upd H1 l (.lst (iL [])) l=some (.lst (iL [])):=AD;have eil:(upd H1 l (.lst []))=upd H1 l (.lst (iL [])):=rfl;rw[eil];generalize upd H1 l (.lst (iL []))=H2 at *;refine Ad (fun Z H'=>∃(x y z:Option V) (xs:List Nat),Z=[some (.int (m:Nat)),some (.ref tb),some (.ref p),some (.ref d),some (.ref l),x,y,z]/\zp d H1 H'/\(∃kvs',H' d=some (.dT kvs')/\NMemo (Ac bs) (Ah m) kvs')/\H' l=some (.lst (iL xs))/\Fn2 (Ac bs) (Ah m) ts m xs/\xs.length<=20) ?_ ?_ (by walk_at "sm");rotate_left
  ·rintro Z H3 ⟨x,y,z,xs,rfl,f3,⟨kvs',hd3,M3⟩,gl3,hF,hxl⟩;have hF':Fn2 (Ac bs) (Ah m) ts (Ah m).length xs:=by rw[hrL];exact hF
   have hpos:=hF'.pos ho hcan;refine⟨xs.map fun(x:Nat)=>(x:Int),?_,by rw[Ze];exact hpos,fun Mx hM hle=>?_⟩
   ·rw[ZBZ];exact .of gl3
   obtain⟨M',hm,rfl⟩:=Zk.mp hM
   have hle':∀x∈xs,M'<=x:=fun x hx=>by
    have:=hle _ (Zk.mpr ⟨x,hx,rfl⟩)
    lia
   have fm:=hF'.min ho hcan hm hle';refine⟨d,_,rfl,DPut.t hd3 (show H3 p=some (.tup ((Be ts).map kV)) by rw[IY];exact f3 _ _ npd hp1) (M3.len (by lia)),?_⟩;exact⟨⟨_,_,_,_,rfl⟩,f3.trans zp.updT,_,M',AD,M3.put hrise (fun t ht=>by rw[hlL];exact zm t ht) fm,by rw[Jl,if_pos rfl],fm⟩
  refine⟨(m:Int),rfl,by lia,by lia,?_⟩;rw[Z6];refine C7 (fun k Z H'=>∃(x y z:Option V) (xs:List Nat),Z=[some (.int (m:Nat)),some (.ref tb),some (.ref p),some (.ref d),some (.ref l),x,y,z]/\zp d H1 H'/\(∃kvs',H' d=some (.dT kvs')/\NMemo (Ac bs) (Ah m) kvs')/\H' l=some (.lst (iL xs))/\Fn2 (Ac bs) (Ah m) ts k xs/\xs.length<=k) ⟨none,none,none,[],rfl,A5 s2,⟨zd,s2 _ _ hd1,M⟩,gl2,⟨fun F hF x hx=>(by cases hx),fun i r hi=>absurd hi (ZBt _)⟩,Zf _⟩ ?_ (fun Z H' ⟨x,y,z,xs,e1,e2,e3,e4,e5,e6⟩=>⟨x,y,z,xs,e1,e2,e3,e4,e5,by lia⟩);rintro i Z H3 hi ⟨x,y,z,xs,rfl,f3,⟨kvs3,hd3,M3⟩,gl3,hF,hxl⟩;rw[show(0:Int)+(i:Int)=((i:Nat):Int) from ZBw _];have er:=VW hi;have hrm:gB (BY m i)∈(Ah m).map gB:=O4 hi;have hp3:H3 p=some (.tup (iL ts)):=f3 _ _ npd hp1;dsimp only[Ak];have bat:∀{t:Nat},t∈ts->atI ((A7 m t).map V.bl) ((i:Nat):Int)=some (.bl (gB (BY m i) t)):=fun ht=>Lp hi (zm _ ht)
  generalize BY m i=r at *
  have stay:(¬BC (fun k=>decide (k∈ts)) (gB r))->Fn2 (Ac bs) (Ah m) ts (i+1) xs:=fun hn=>⟨hF.lo,fun i' r' hi' er' hpt=>by
   rcases ZBL i' i with w | w
   ·exact hF.hi i' r' w er' hpt
   ·have:i'=i:=by lia
    subst this;rw[er]at er';cases er';exact absurd hpt hn⟩
  refine Ad (fun Z H'=>∃(pn:Addr),Z=[some (.int (m:Nat)),some (.ref tb),some (.ref p),some (.ref d),some (.ref l),some (.int (i:Nat)),some (.ref pn),z]/\zc H3 H'/\H' pn=some (.tup (iL (Am r false ts)))) ?_ ?_ (by walk_at "sm")
  ·refine .inr ⟨⟨_,.of hp3⟩,?_⟩
   refine Bz (xs:=iL ts) (fun k ys H'=>zc H3 H'/\ys=iL (Am r false (ts.take k))) ⟨zc.refl _,rfl⟩ (fun k ys H' _ ⟨e,_⟩=>.of (e _ _ hp3)) (fun k ys H' hk ⟨_,e⟩=>by
    have:=OX r false (ts.take k)
    rw[Z7]at this;rw[e,Ag];exact Aj (by lia)) ?_ ?_
   ·rintro k' x ys H' hx ⟨s',rfl⟩;obtain⟨t,ht,hmem,rfl⟩:=CD hx;refine⟨m,t,rfl,rfl,by lia,fun pb H'' _ s'' gb=>⟨_,.bl (gB r t),.inl (.of gb),bat hmem,?_⟩⟩;rw[OV ht,Bj];cases eg:gB r t with
    | true=>exact⟨s'.trans s'',by show _=_++[];rw[ZBI]⟩
    | false=>exact⟨s'.trans s'',rfl⟩
   ·rintro ys H' ⟨s',rfl⟩ l2 hl2;rw[ZBo (by rw[Ag];exact Zf _)];refine⟨_,.inl ⟨.of AD,fun c hc=>?_⟩⟩;exact⟨c,rfl,s'.trans ((zc.upd (o:=.lst (iL (Am r false ts))) hl2).trans (zc.upd (o:=.tup (iL (Am r false ts))) hc)),AD⟩
  rintro Z H4 ⟨pn,rfl,s4,gn4⟩;have hp4:=s4 _ _ hp3;refine Ad (fun Z H'=>∃(py:Addr),Z=[some (.int (m:Nat)),some (.ref tb),some (.ref p),some (.ref d),some (.ref l),some (.int (i:Nat)),some (.ref pn),some (.ref py)]/\zc H4 H'/\H' py=some (.tup (iL (Am r true ts)))) ?_ ?_ (by walk_at "sm")
  ·refine .inr ⟨⟨_,.of hp4⟩,?_⟩
   refine Bz (xs:=iL ts) (fun k ys H'=>zc H4 H'/\ys=iL (Am r true (ts.take k))) ⟨zc.refl _,rfl⟩ (fun k ys H' _ ⟨e,_⟩=>.of (e _ _ hp4)) (fun k ys H' hk ⟨_,e⟩=>by
    have:=OX r true (ts.take k)
    rw[Z7]at this;rw[e,Ag];exact Aj (by lia)) ?_ ?_
   ·rintro k' x ys H' hx ⟨s',rfl⟩;obtain⟨t,ht,hmem,rfl⟩:=CD hx;refine⟨m,t,rfl,rfl,by lia,fun pb H'' _ s'' gb=>⟨_,.bl (gB r t),.inl (.of gb),bat hmem,?_⟩⟩;rw[OV ht,Bj];cases eg:gB r t with
    | true=>exact⟨s'.trans s'',rfl⟩
    | false=>exact⟨s'.trans s'',by show _=_++[];rw[ZBI]⟩
   ·rintro ys H' ⟨s',rfl⟩ l2 hl2;rw[ZBo (by rw[Ag];exact Zf _)];refine⟨_,.inl ⟨.of AD,fun c hc=>?_⟩⟩;exact⟨c,rfl,s'.trans ((zc.upd (o:=.lst (iL (Am r true ts))) hl2).trans (zc.upd (o:=.tup (iL (Am r true ts))) hc)),AD⟩
  rintro Z H5 ⟨py,rfl,s5,gy5⟩;have gn5:=s5 _ _ gn4;have S5:=s4.trans s5;have hd5:=S5 _ _ hd3;have gl5:=S5 _ _ gl3;have f5:=f3.trans (A5 S5)
  have nl0:Am r false ts=[]\/Am r true ts=[]->¬BC (fun k=>decide (k∈ts)) (gB r):=fun h w=>by
   obtain⟨w1,w2⟩:=parts_lefts.mp w;exact h.elim w2 w1
  have hltL:∀ans,∀t∈Am r ans ts,t < 2 ^ m:=fun ans t ht=>zm t (mem_lefts.mp ht).1
  refine⟨Zu _,fun r0 m0=>⟨iL (Am r false ts),.inl ⟨(zc.upd m0).sqT (.of gn5),.of AD⟩,?_⟩⟩;have s6:=zc.upd (o:=.tup []) m0;generalize upd H5 r0 (.tup [])=H6 at *
  have e0:∀{zs:List Nat},zs≠[]->∃t l,zs=t::l:=fun {zs} h=>by
   cases zs with
   | nil=>exact absurd rfl h
   | cons t l=>exact⟨t,l,rfl⟩
  refine Ab (fun e=>?_) (fun e=>⟨_,_,_,xs,rfl,f5.trans (A5 s6),⟨kvs3,s6 _ _ hd5,M3⟩,s6 _ _ gl5,stay (nl0 (.inl ?_)),by lia⟩);rotate_left
  ·cases hz:Am r false ts with
   | nil=>rfl
   | cons t l=>rw[hz]at e;exact absurd rfl e
  have hn1:Am r false ts≠[]:=fun hz=>by rw[hz]at e;cases e
  refine⟨Zu _,fun r1 m1=>⟨iL (Am r true ts),.inl ⟨(zc.upd m1).sqT (.of (s6 _ _ gy5)),.of AD⟩,?_⟩⟩;have s7:=s6.trans (zc.upd (o:=.tup []) m1);generalize upd H6 r1 (.tup [])=H7 at *;refine Ab (fun e=>?_) (fun e=>⟨_,_,_,xs,rfl,f5.trans (A5 s7),⟨kvs3,s7 _ _ hd5,M3⟩,s7 _ _ gl5,stay (nl0 (.inr ?_)),by lia⟩);rotate_left
  ·cases hz:Am r true ts with
   | nil=>rfl
   | cons t l=>rw[hz]at e;exact absurd rfl e
  have hn2:Am r true ts≠[]:=fun hz=>by rw[hz]at e;cases e
  have hpt:=parts_lefts.mpr ⟨hn2,hn1⟩;have hd7:=s7 _ _ hd5;have gn7:=s7 _ _ gn5;have gy7:=s7 _ _ gy5;have gl7:=s7 _ _ gl5;have nnd:pn≠d:=BK gn7 hd7 (by intro z;cases z);have nyd:py≠d:=BK gy7 hd7 (by intro z;cases z);refine⟨.inl ⟨rfl,_,.of gl7⟩,m,bs,_,kvs3,rfl,mg1,m4,hb,htB ((A5 s1).trans (f5.trans (A5 s7))),gn7,Ly hrise,hltL false,by have:=Mf hpt false;lia,hd7,M3,fun a0 kvs8 H8 fa f8 hd8 M8=>?_⟩;refine⟨m,bs,_,kvs8,rfl,mg1,m4,hb,htB ((A5 s1).trans (f5.trans ((A5 s7).trans f8))),f8 _ _ nyd gy7,Ly hrise,hltL true,by have:=Mf hpt true;lia,hd8,M8,fun a1 kvs9 H9 fb f9 hd9 M9=>?_⟩;have gl9:=f9 _ _ nld (f8 _ _ nld gl7);refine⟨_,gl9,by rw[Ag];exact Aj (by lia),?_⟩;have fz:=f5.trans ((A5 s7).trans (f8.trans f9));refine⟨_,_,_,xs++[1+max a0 a1],rfl,?_,⟨kvs9,by rw[AI (Ne.symm nld)];exact hd9,M9⟩,?_,⟨fun F hFx x hx=>?_,fun i' r' hi' er' hpt'=>?_⟩,by rw[Zy];show xs.length+1<=_;lia⟩
  ·exact Iz fz hl
  ·rw[AD,Bj,show(1:Int)+max ((a0:Nat):Int) ((a1:Nat):Int)=((1+max a0 a1:Nat):Int) by lia];rfl
  ·rcases ZBE.mp hx with w | w
   ·exact hF.lo F hFx x w
   ·rw[Zq.mp w,Nat.max_comm];rw[Oc]at fb;rw[OD]at fa;exact Uh (by rw[Ze,hrL];lia) hrm hFx fb fa
  ·rcases ZBL i' i with w | w
   ·obtain⟨b',c',h1',h2',h3'⟩:=hF.hi i' r' w er' hpt';exact⟨b',c',h1',h2',ZBO _ h3'⟩
   ·have:i'=i:=by lia
    subst this;rw[er]at er';cases er';exact⟨a1,a0,fb,fa,Zx _ (by rw[Nat.max_comm];exact Zq.mpr rfl)⟩
theorem Og:∀c:Nat,Ok_ P w base T.z52 (c+3) (CH K c)
 | 0=>by
  have no:∀vs H Q E,¬CH K 0 vs H Q E:=fun vs H Q E h=>by
   unfold CH at h;split at h
   ·obtain⟨_,_,_,_,_,_,_,_,_,_,_,_,z,_⟩:=h;exact absurd z (ZBt _)
   ·exact h
  exact⟨fun vs H Q E h=>(no _ _ _ _ h).elim,fun A outer s H args us vs Q E _ _ _ _ h=>(no _ _ _ _ h).elim⟩
 | c+1=>Vj T c (Og c)
theorem QE:Ok_ P w base T.z52 20 (CH K 17):=Og T 17
theorem M4{p:Nat}(h:p.testBit k=false):p ^^^ 2 ^ k=p+2 ^ k:=by
 have e:p &&& 2 ^ k=0:=by
  refine ZCl fun i=>?_
  rw[ZBS,Nat.testBit_two_pow,Nat.zero_testBit]
  by_cases e:k=i
  ·subst e;rw[h];rfl
  ·simp[e]
 have:=RI p (2 ^ k)
 rw[e]at this;lia
theorem ZR{p:Nat}(h:p.testBit k=true):(p ^^^ 2 ^ k)+2 ^ k=p:=by
 have e:=M4 (p:=p ^^^ 2 ^ k) (k:=k) (by rw[IB,h,Zl rfl];rfl);rw[Nat.xor_assoc,Nat.xor_self,Nat.xor_zero]at e;exact e.symm
noncomputable def D8(K:W.Frag):Sp:=fun vs H Q _=>match vs with
 | [.int z,.ref tb,.int y]=>∃(m:Nat) (bs:List Bool) (x:Nat),z=(m:Nat)/\y=(x:Nat)/\m<=4/\x < 2 ^ m/\bs.length=2 ^ m/\zt K H tb (bs.map V.bl)/\∀H',zc H H'->Q (.int (AS m (fun k=>gB bs (x ^^^ 2 ^ k) != gB bs x):Nat)) H'
 | _=>False
theorem UY:AK (D8 K):=fun vs H Q Q' E h q=>by
 unfold D8 at *;walk_at "q"
theorem Uz:Ok_ P w base T.z38 3 (D8 K):=by
 refine T.z38.F.ok sc_z38 (fun vs H Q E h=>by unfold D8 at h;walk_at "e") ?_;walk_at "f";have mo1:AK DE:=HR;have mo2:AK Dh:=Nl;unfold D8 at h;walk_at "g"
 rename_i z tb y;obtain⟨m,bs,x,e1,e2,m4,hx,hb,htb,q⟩:=h;subst e1 e2;have h16:2 ^ m<=16:=Z3 (n:=2) (j:=4) (by decide) m4;refine⟨_,(@AF _ _ _ _ _ (@AR _ _ 3 _ _ _ _ sc_z38.nd rfl (by right) AC (by rfl) (by walk_at "i")) (@AF _ _ _ _ _ (@Bk _ _ _ _ _ _ _ _ PassesOwn.never rfl (BP rfl T.zH (AA (vv 0) AB)) (AN (i:=4) sc_z38.nd rfl (by right)) (@AF _ _ _ _ _ (@AR _ _ 5 _ _ _ _ sc_z38.nd rfl (by right) (AU DO (AM (@Gh P w K mg base T) (hr.mono (show 1<=_ by decide)) rfl T.z60.m T.z60.F.kp T.z60.b .nil AG (AA (vv 4) AB)) (zw (K:=K) (@Ca _ _ _ _ (AA AC (AA (Gg Gu AC) AB))) (BU Gf rfl T.yc (by rfl) (AA (zw (K:=K) (AM (@Fk P w K mg base T) (hr.mono (show 2<=_ by decide)) rfl T.z51.m T.z51.F.kp T.z51.b .nil AG (AA (vv 0) (AA (vv 2) AB))) (vv 4)) AB)))) (by rfl) (by walk_at "i")) (@AH _ _ _ (@AR _ _ 3 _ _ _ _ sc_z38.nd rfl (by right) (AU (Bi (K:=K)) (vv 3) (BU Gf rfl T.yc (by rfl) (AA (BD (kNe (K:=K) hu) (zw (K:=K) (vv 1) (AU (Bi (K:=K)) (vv 2) (vv 5))) (zw (K:=K) (vv 1) (vv 2))) AB))) (by rfl) (by walk_at "i")))) (by intro _;rfl)) (@AH _ _ _ (@AL _ _ _ _ (vv 3))))),?_⟩;refine Ad (fun Z H'=>Z=[some (.int (m:Nat)),some (.ref tb),some (.int (x:Nat)),some (.int 0),none,none]/\H=H') ⟨rfl,rfl⟩ ?_ (by walk_at "sm");rintro Z H0 ⟨rfl,rfl⟩;refine Ad (fun Z H'=>(∃z4 z5:Option V,Z=[some (.int (m:Nat)),some (.ref tb),some (.int (x:Nat)),some (.int (AS m (fun k=>gB bs (x ^^^ 2 ^ k) != gB bs x):Nat)),z4,z5])/\zc H H') ?_ ?_ (by walk_at "sm")
 ·refine⟨(m:Int),rfl,by lia,by lia,?_⟩;rw[Z6];refine C7 (fun i Z H'=>(∃z4 z5:Option V,Z=[some (.int (m:Nat)),some (.ref tb),some (.int (x:Nat)),some (.int (AS i (fun k=>gB bs (x ^^^ 2 ^ k) != gB bs x):Nat)),z4,z5])/\zc H H') ⟨⟨none,none,rfl⟩,zc.refl _⟩ ?_ (fun Z H' h=>h);rintro i Z H1 hi ⟨⟨z4,z5,rfl⟩,s1⟩;rw[show(0:Int)+(i:Int)=((i:Nat):Int) from ZBw _];dsimp only[Ak];have bt:=Lp (m:=m) (i:=i) (t:=x) hi hx;rw[Dg hx]at bt;have p16:2 ^ i<=16:=Z3 (n:=2) (j:=4) (by decide) (by lia);refine Ad (fun Z H'=>∃st:Int,Z=[some (.int (m:Nat)),some (.ref tb),some (.int (x:Nat)),some (.int (AS i (fun k=>gB bs (x ^^^ 2 ^ k) != gB bs x):Nat)),some (.int (i:Nat)),some (.int st)]/\zc H H'/\(x:Int)+st=((x ^^^ 2 ^ i:Nat):Int)) ?_ ?_ (by walk_at "sm")
  ·refine⟨by lia,by lia,fun H2 s2=>⟨smq rfl,fun l hl=>⟨m,x,rfl,rfl,by lia,fun pb H3 _ s3 gb=>⟨_,.bl (x.testBit i),.inl (.of gb),bt,?_⟩⟩⟩⟩;have s4:=zc.upd (o:=.lst [.int 1,.int (-1)]) hl;have gl:=s3 _ _ (AD (H:=H2) (a:=l) (o:=.lst [.int 1,.int (-1)]));have S:=s1.trans (s2.trans (s4.trans s3));rw[Z6];have e2:((2:Int) ^ i)=((2 ^ i:Nat):Int):=by rw[ZCK];rfl
   cases e:x.testBit i with
   | true =>
    have:=ZR e
    refine⟨_,.int (-1),.inl (.of gl),Ae (n:=1) rfl rfl,.inl ⟨?_,by decide⟩,_,rfl,S,?_⟩
    ·rw[e2,ZCm];exact ZCU p16 (by decide)
    ·rw[e2];lia
   | false =>
    have:=M4 e
    refine⟨_,.int 1,.inl (.of gl),Ae (n:=0) rfl rfl,.inl ⟨?_,by decide⟩,_,rfl,S,?_⟩
    ·rw[e2,ZCm];exact ZCU p16 (by decide)
    ·rw[e2];lia
  rintro Z H2 ⟨st,rfl,s2,est⟩;refine⟨_,.bl (gB bs (x ^^^ 2 ^ i)),.inr (s2.sqT htb),by rw[est];exact Ed (by rw[hb];exact DZ hx hi),_,.bl (gB bs x),.inr (s2.sqT htb),Ed (by lia),?_⟩;have ec:=D1 i fun k=>gB bs (x ^^^ 2 ^ k) != gB bs x
  generalize AS (i+1) (fun k=>gB bs (x ^^^ 2 ^ k) != gB bs x)=C1 at *;generalize AS i (fun k=>gB bs (x ^^^ 2 ^ k) != gB bs x)=C0 at *;generalize gB bs (x ^^^ 2 ^ i)=b1 at *;generalize gB bs x=b0 at *;subst ec;cases b1 <;> cases b0 <;> exact⟨⟨_,_,rfl⟩,s2⟩
 rintro Z H1 ⟨⟨z4,z5,rfl⟩,s1⟩;exact q H1 s1
theorem Ym(h:∀b,b≠t->H' b=H b):zp t H H':=fun b o n e=>by rw[h b n];exact e
noncomputable abbrev EM(Pt:Addr)(H:Hp):Prop:=zA Pt Ft CS H
theorem Nj{Pu:Addr}{pos:Pos}{pz:Array Value}(l:zA Pt pos q H)(g:zx Pu H H')(ne:Pt≠Pu)(hu:H Pu=some (.tbl pz)):zA Pt pos q H':=by
 obtain⟨ps,a,b,c⟩:=l;refine⟨ps,g _ _ ne a,b,?_⟩
 rcases c with c | ⟨c',c,d⟩
 ·exact .inl c
 ·exact .inr ⟨c',c,g _ _ (fun z=>by rw[z,hu]at d;cases d) d⟩
structure G9(K:W.Frag)(PA PB:Addr)(H:Hp)(t a:Addr)(ns:List Int)(u:V)(ls:List Int)(rs:List (List Bool)):Prop where
 F:Tape K H t a ns
 A:Dj PA H
 B:EM PB H
 r:zh K H (gmD ls rs) u
section
variable {PA PB:Addr}{H H':Hp}{t a:Addr}{ns:List Int}{u:V}{ls:List Int}{rs:List (List Bool)}
theorem G9.same(n:G9 K PA PB H t a ns u ls rs)(s:zc H H'):G9 K PA PB H' t a ns u ls rs:=⟨n.F.same s,n.A.same s,n.B.same s,zh.same s _ _ n.r⟩
theorem G9.growB(n:G9 K PA PB H t a ns u ls rs)(ne:PA≠PB)(g:zx PB H H')(l:EM PB H'):G9 K PA PB H' t a ns u ls rs:=by
 obtain⟨pz,hP,_⟩:=id n.B;exact⟨O1 n.F hP g,Nj n.A g ne hP,l,zh.tab g hP _ _ n.r⟩
theorem G9.growA(n:G9 K PA PB H t a ns u ls rs)(ne:PA≠PB)(g:zx PA H H')(l:Dj PA H'):G9 K PA PB H' t a ns u ls rs:=by
 obtain⟨pz,hP,_⟩:=id n.A;exact⟨O1 n.F hP g,l,Nj n.B g (Ne.symm ne) hP,zh.tab g hP _ _ n.r⟩
end
theorem Xw(n:Nat):(fun k=>decide (k∈List.range n))=(2 ^ n - 1).testBit:=by funext k;rw[DW];simp only[Z1]
theorem RS{t:Tr}(G:Gm ls rs)(he:Ck ls rs)(h:Dx ls (rs.map AO) t (2 ^ ls.length - 1)):Told ls rs t (AZ ls (rs.map AO) (2 ^ ls.length - 1)):=by
 have hc:=Kd he _ (FK _);obtain⟨a1,a2,a3,⟨k,a4,a5⟩,a6⟩:=Ky t _ h (FK _) hc
 have:=Eu ls.length (2 ^ ls.length - 1).testBit
 have:=G.l16
 have n1:=Tf he;have n2:=(CK (by rw[FW];exact Gq (FA he) (ls.length - 1) (2 ^ ls.length - 1).testBit (fun k hk=>C9 (FK _) hk) (by lia))).2 (ls.length - 1) (by rw[FW];exact Gq (FA he) (ls.length - 1) _ (fun k hk=>C9 (FK _) hk) (by lia));rw[DW]at a4;have a4:=Zn a4;have a2:∀k,k < ls.length->_:=fun k hk=>a2 k (by rw[DW];exact Zl hk)
 generalize AZ ls (rs.map AO) (2 ^ ls.length - 1)=D at *;exact⟨a1,a2,⟨k,a4,a5⟩,by lia,by lia⟩
theorem TN:∃T,T < 2 ^ m/\wt m (An bs) T≠0:=by
 refine Classical.byContradiction fun h=>?_
 have e:=JT m (An bs) 0 (ZBd m)
 rw[BB (g:=fun _=>0) fun s hs=>by
  rw[Classical.byContradiction fun z=>h ⟨s,hs,z⟩,Int.mul_zero],IH]at e
 have hp:=ZBd m
 have hv:An bs 0 = -1\/An bs 0=1:=by
  show Dk _ = -1\/Dk _=1;cases bs.getD 0 false
  ·exact .inr rfl
  ·exact .inl rfl
 rcases hv with hv | hv <;> rw[hv]at e <;> lia
theorem NQ(m Tw:Nat):(A7 m Tw).countP id=AS m Tw.testBit:=by
 unfold A7 AS;rw[List.countP_map,List.countP_eq_length_filter]
 congr 2
 funext k
 show(Tw / 2 ^ k % 2 == 1)=Tw.testBit k
 rw[ZCn];rfl
theorem Nd{ps:Array Value}{ts:List (Nat × Int)}(S:SumAt K H v m ts)(g:zx Pt H H')(hP:H Pt=some (.tbl ps)):SumAt K H' v m ts:=.of (zh.tab g hP _ _ S.rep)
structure G1(K:W.Frag)(PA PB:Addr)(H:Hp)(t a:Addr)(ns:List Int)(u:V)(m:Nat)(bs:List Bool)(tb:Addr)(sv:V)(tr:Tr)(v:V)(es:List (Nat × Nat))(y:V):Prop where
 g:G9 K PA PB H t a ns u (Ac bs) (Ah m)
 b:zt K H tb (bs.map V.bl)
 s:SumAt K H sv m (A3 (wt m (An bs)) (2 ^ m))
 w:zh K H tr.dv v
 x:zh K H (DQ es) y
section
variable {PA PB:Addr}{H H':Hp}{t a tb:Addr}{ns:List Int}{u sv v y:V}{m:Nat}{bs:List Bool}{tr:Tr}{es:List (Nat × Nat)}
theorem G1.same(n:G1 K PA PB H t a ns u m bs tb sv tr v es y)(s:zc H H'):G1 K PA PB H' t a ns u m bs tb sv tr v es y:=⟨n.g.same s,s.sqT n.b,.of (zh.same s _ _ n.s.rep),zh.same s _ _ n.w,zh.same s _ _ n.x⟩
theorem G1.growB(n:G1 K PA PB H t a ns u m bs tb sv tr v es y)(ne:PA≠PB)(g:zx PB H H')(l:EM PB H'):G1 K PA PB H' t a ns u m bs tb sv tr v es y:=by
 obtain⟨pz,hP,_⟩:=id n.g.B;exact⟨n.g.growB ne g l,GC g hP n.b,Nd n.s g hP,zh.tab g hP _ _ n.w,zh.tab g hP _ _ n.x⟩
end
theorem Di(m:Nat):(2:Int) ^ ((m:Int).toNat)=((2 ^ m:Nat):Int):=by rw[Z6,ZCK];rfl
theorem Qt(B:BMn mg base):FnOk P w K mg base CX0 97 T.yq T.yr ["_law_script"] (HC K [T.zY,T.yb]):=by
 have G_z47:=@Pq P w K mg base T;have G_z60:=@Gh P w K mg base T;have G_z48:=@QT P w K mg base T B;have G_z51:=@Fk P w K mg base T;refine T.Z0g.ok sc_law (fun vs H Q E h=>by obtain⟨a,ns,rfl,_⟩:=h;rfl) ?_;walk_at "f";have hr_z47:=hr.mono (show 6<=_ by decide);have hr_z60:=hr.mono (show 1<=_ by decide);have hr_z48:=hr.mono (show 10<=_ by decide);have hr_z51:=hr.mono (show 2<=_ by decide);obtain⟨a,ns,rfl,hS,zk,hPt,q⟩:=h;refine⟨_,(@AF _ _ _ _ _ (@AR _ _ 1 _ _ _ _ sc_law.nd rfl (by right) (AM (@YD P w K mg base T) (hr.mono (show 1<=_ by decide)) rfl T.z53.m T.z53.F.kp T.z53.b .nil AG (AA (vv 0) AB)) (by rfl) (by walk_at "i")) (@AF _ _ _ _ _ (@Bk _ _ _ _ _ _ _ _ PassesOwn.never rfl (BP rfl T.zH (AA AC AB)) (AN (i:=2) sc_law.nd rfl (by right)) (@AF _ _ _ _ _ (@AR _ _ 3 _ _ _ _ sc_law.nd rfl (by right) (zw (K:=K) (@Ca _ _ _ _ (AA AC (AA AC (AA AC (AA AC (AA AC (AA AC AB))))))) (AM (@Oo P w K mg base T) (hr.mono (show 1<=_ by decide)) rfl T.z49.m T.z49.F.kp T.z49.b .nil AG (AA (vv 1) (AA AC AB)))) (by rfl) (by walk_at "i")) (@AF _ _ _ _ _ (@AR _ _ 4 _ _ _ _ sc_law.nd rfl (by right) (AM (@U5 P w K mg base T) (hr.mono (show 4<=_ by decide)) rfl T.z45.m T.z45.F.kp T.z45.b .nil AG (AA (vv 1) (AA (vv 3) AB))) (by rfl) (by walk_at "i")) (@AF _ _ _ _ _ (@AR _ _ 5 _ _ _ _ sc_law.nd rfl (by right) (AM (@RM P w K mg base T) (hr.mono (show 4<=_ by decide)) rfl T.z66.m T.z66.F.kp T.z66.b .nil AG (AA (vv 4) AB)) (by rfl) (by walk_at "i")) (@AF _ _ _ _ _ (@AR _ _ 6 _ _ _ _ sc_law.nd rfl (by right) (AM (@Uu P w K mg base T) (hr.mono (show 3<=_ by decide)) rfl T.z70.m T.z70.F.kp T.z70.b .nil AG (AA (vv 4) AB)) (by rfl) (by walk_at "i")) (@AF _ _ _ _ _ (@DC _ _ _ _ _ _ (AM (@Wq P w K mg base T B) (hr.mono (show 96<=_ by decide)) rfl T.z69.m T.z69.F.kp T.z69.b .nil AG (AA (vv 5) AB)) (GO (K:=K) (n:=3) rfl (Ax (AN (i:=7) sc_law.nd rfl (by right)) (Ax (AN (i:=8) sc_law.nd rfl (by right)) (Ax (AN (i:=9) sc_law.nd rfl (by right)) Bv)))) (by rfl) (by rfl) (by rfl)) (@AF _ _ _ _ _ (@Ao _ _ _ _ _ _ _ _ (Af (kNe (K:=K) hu) (vv 7) (AM (@QE P w K mg base T) (hr.mono (show 20<=_ by decide)) rfl T.z52.m T.z52.F.kp T.z52.b .nil AG (AA (vv 3) (AA (vv 4) (AA (VS rfl rfl T.zM rfl T.zH (AA (AM G_z60 hr_z60 rfl T.z60.m T.z60.F.kp T.z60.b .nil AG (AA (vv 3) AB)) AB)) (AA Vk AB)))))) (@AH _ _ _ (@AL _ _ _ _ Au)) Aq) (@AF _ _ _ _ _ (@AR _ _ 10 _ _ _ _ sc_law.nd rfl (by right) (Aa (La (K:=K) rfl) rfl T.ya (by rfl) (AA (Az (N':=["_law_one","_law_weight","_law_n"]) (own:=2) (ix:=[3]) rfl (BH (K:=K) (zw (K:=K) (vv 6) AC)) (by kernel_rfl) rfl rfl (by kernel_rfl) (fun c=>Cg (K:=K) (n:=2) rfl (Ax (AN (i:=0) (show(["_law_one","_law_weight","_law_n"]:List Str).Nodup by decide +kernel) rfl (by right)) (Ax (AN (i:=1) (show(["_law_one","_law_weight","_law_n"]:List Str).Nodup by decide +kernel) rfl (by right)) Bv))) (Ce (BQ Ar (Cc Ar BM) (AX (by decide)) (BQ Ar BM (AX (by decide)) Co))) (fun c=>Av) (fun c=>(JL (K:=K) (AM G_z51 hr_z51 rfl T.z51.m T.z51.F.kp T.z51.b .nil AG (AA (vv 2) (AA (vv 0) AB))) (AA Au AB)))) AB)) (by rfl) (by walk_at "i")) (@AF _ _ _ _ _ (@AR _ _ 11 _ _ _ _ sc_law.nd rfl (by right) (Aa (La (K:=K) rfl) rfl T.ya (by rfl) (AA (Az (N':=["_law_place","_law_n","_law_table_here"]) (own:=1) (ix:=[3,4]) rfl (BP rfl T.zH (AA (AM G_z60 hr_z60 rfl T.z60.m T.z60.F.kp T.z60.b .nil AG (AA (vv 3) AB)) AB)) (by kernel_rfl) rfl rfl (by kernel_rfl) (fun c=>AN (i:=0) (show(["_law_place","_law_n","_law_table_here"]:List Str).Nodup by decide +kernel) rfl (by right)) (AX (by decide)) (fun c=>Av) (fun c=>(AM (@Uz P w K mg base T) (hr.mono (show 3<=_ by decide)) rfl T.z38.m T.z38.F.kp T.z38.b .nil AG (AA (vv 1) (AA (vv 2) (AA (vv 0) AB)))))) AB)) (by rfl) (by walk_at "i")) (@AF _ _ _ _ _ (@Ao _ _ _ _ _ _ _ _ (Bw (PC FU FU (Aa (Gc rfl) rfl T.ya (by rfl) (AA (vv 10) (AA (vv 11) AB))) (vv 7) (JL (K:=K) (AM G_z51 hr_z51 rfl T.z51.m T.z51.F.kp T.z51.b .nil AG (AA (vv 3) (AA (AM (@QP P w K mg base T) (hr.mono (show 1<=_ by decide)) rfl T.z61.m T.z61.F.kp T.z61.b .nil AG (AA (vv 6) AB)) AB))) (AA Au AB)))) (@AH _ _ _ (@AL _ _ _ _ Au)) Aq) (@AF _ _ _ _ _ (@Ao _ _ _ _ _ _ _ _ (PW.pt (DU (Af KA (AM G_z48 hr_z48 rfl T.z48.m T.z48.F.kp T.z48.b .nil AG (AA (vv 5) (AA (vv 7) (AA (vv 8) AB)))) Au) (Dy (Af KA (AM G_z47 hr_z47 rfl T.z47.m T.z47.F.kp T.z47.b .nil AG (AA (vv 5) (AA (vv 7) (AA (vv 9) AB)))) Au)))) (@AH _ _ _ (@AL _ _ _ _ Au)) Aq) (@AF _ _ _ _ _ (@Ao _ _ _ _ _ _ _ _ (PW.pt (DU (A9 (AM G_z47 hr_z47 rfl T.z47.m T.z47.F.kp T.z47.b .nil AG (AA (vv 5) (AA (AU (Bi (K:=K)) (vv 7) AC) (AA (vv 9) AB))))) (Dy (PW.pt (EW (Af Bm (vv 7) AC) (Ef (A9 (AM G_z48 hr_z48 rfl T.z48.m T.z48.F.kp T.z48.b .nil AG (AA (vv 5) (AA (AU C4 (vv 7) AC) (AA (vv 8) AB))))))))))) (@AH _ _ _ (@AL _ _ _ _ Au)) Aq) (@AH _ _ _ (@Bk _ _ _ _ _ _ _ _ PassesOwn.never rfl (BP rfl T.zH (AA (AM G_z60 hr_z60 rfl T.z60.m T.z60.F.kp T.z60.b .nil AG (AA (vv 3) AB)) AB)) (AN (i:=12) sc_law.nd rfl (by right)) (@AF _ _ _ _ _ (@DC _ _ _ _ _ _ (AM (@MO P w K mg base T) (hr.mono (show 1<=_ by decide)) rfl T.z72.m T.z72.F.kp T.z72.b .nil AG (AA (vv 5) (AA (vv 8) (AA (vv 12) AB)))) (GO (K:=K) (n:=2) rfl (Ax (AN (i:=13) sc_law.nd rfl (by right)) (Ax (AN (i:=14) sc_law.nd rfl (by right)) Bv))) (by rfl) (by rfl) (by rfl)) (@AH _ _ _ (@Ao _ _ _ _ _ _ _ _ (PW.pt (DU (Af (kNe (K:=K) hu) (vv 13) (BU Gf rfl T.yc (by rfl) (AA (zw (K:=K) (vv 4) (vv 12)) AB))) (Dy (Af Bm (vv 14) (vv 7))))) (@AH _ _ _ (@AL _ _ _ _ Au)) Aq))) (by intro _;rfl)))))))))))))) (by intro _;rfl)) (@AH _ _ _ (@AL _ _ _ _ Au)))),?_⟩;have mo1:AK (EE K):=Wg;have mo2:AK (CH K 17):=Nv;have mo3:AK (Em K T.zY):=Yy;have mo4:AK (EU K):=Xb;have mo5:AK (EZ K):=UQ;have mo6:AK (D8 K):=UY;have mo7:AK (Ex K):=Qe;have mo8:AK (Ev K T.yb):=Sn;have mo9:AK (D9 K):=OP;have mo10:AK Dh:=Nl;have mo11:AK DE:=HR;have mo12:AK (Ey K):=SF;have np:=T.np_0;generalize hPA:T.zY=PA at *;generalize hPB:T.yb=PB at *;have A0:Dj PA H:=O7 (hPt _ (ZBD ..));have B0:EM PB H:=O7 (hPt _ (Zz _ (Zq.mpr rfl)));refine fun t ht=>?_
 dsimp only[Ak];have F1:=YJ ht hS;have s1:=zc.upd (o:=.lst [.ref a,.int 0,.int 0,.int 0]) ht;have A1:=A0.same s1;have B1:=B0.same s1;generalize upd H t (.lst [.ref a,.int 0,.int 0,.int 0])=H1 at *;refine Ad (fun Z H'=>∃z:List (Option V),Z=some (.ref a)::some (.ref t)::z) ?_ (fun Z H' _=>q H') (by walk_at "sm");refine⟨3,rfl,by decide,by decide,?_⟩;refine C7 (fun i Z H'=>(∃z2 z3 z4 z5 z6 z7 z8 z9 z10 z11 z12 z13 z14:Option V,Z=[some (.ref a),some (.ref t),z2,z3,z4,z5,z6,z7,z8,z9,z10,z11,z12,z13,z14])/\Tape K H' t a ns/\Dj PA H'/\EM PB H') ⟨⟨none,none,none,none,none,none,none,none,none,none,none,none,none,rfl⟩,F1,A1,B1⟩ ?_ (fun Z H' ⟨⟨z2,z3,z4,z5,z6,z7,z8,z9,z10,z11,z12,z13,z14,e⟩,_⟩=>⟨_,e⟩);clear F1 A1 B1 A0 B0 s1 ht H1;rintro i Z H2 hi ⟨⟨z2,z3,z4,z5,z6,z7,z8,z9,z10,z11,z12,z13,z14,rfl⟩,F2,A2,B2⟩;dsimp only[Ak];refine Ad (fun Z H'=>∃m:Nat,1<=m/\m<=4/\Z=[some (.ref a),some (.ref t),some (.int (0+(i:Int))),some (.int (m:Nat)),z4,z5,z6,z7,z8,z9,z10,z11,z12,z13,z14]/\Tape K H' t a ns/\Dj PA H'/\EM PB H') ?_ ?_ (by walk_at "sm")
 ·refine⟨smq rfl,fun p1 n1=>?_⟩;have q1:=zc.upd (o:=.lst [.int 1,.int 2,.int 3,.int 3,.int 4,.int 4]) n1;have g1:upd H2 p1 (.lst [.int 1,.int 2,.int 3,.int 3,.int 4,.int 4]) p1=some (.lst [.int 1,.int 2,.int 3,.int 3,.int 4,.int 4]):=AD;have u1:=F2.neT n1;generalize upd H2 p1 (.lst [.int 1,.int 2,.int 3,.int 3,.int 4,.int 4])=H3 at *;have F3:=F2.same q1;refine⟨a,ns,F3,Cd (by decide) (by decide),fun d H4 d0 d1 F4 f4=>?_⟩
  have hx:∃x:Nat,atI [V.int 1,.int 2,.int 3,.int 3,.int 4,.int 4] d=some (.int (x:Int))/\1<=x/\x<=4:=by
   have:d=0\/d=1\/d=2\/d=3\/d=4\/d=5:=by lia
   rcases this with e | e | e | e | e | e <;> subst e
   ·exact⟨1,rfl,by decide,by decide⟩
   ·exact⟨2,Ae (n:=1) rfl rfl,by decide,by decide⟩
   ·exact⟨3,Ae (n:=2) rfl rfl,by decide,by decide⟩
   ·exact⟨3,Ae (n:=3) rfl rfl,by decide,by decide⟩
   ·exact⟨4,Ae (n:=4) rfl rfl,by decide,by decide⟩
   ·exact⟨4,Ae (n:=5) rfl rfl,by decide,by decide⟩
  obtain⟨m,hm,m1,m4⟩:=hx;have fu:=Ym f4;exact⟨_,_,.inl (.of (fu _ _ u1 g1)),hm,m,m1,m4,rfl,F4,HF (A2.same q1) F3 fu,HF (B2.same q1) F3 fu⟩
 clear F2 A2 B2 H2;rintro Z H2 ⟨m,m1,m4,rfl,F2,A2,B2⟩;have h16:2 ^ m<=16:=Z3 (n:=2) (j:=4) (by decide) m4;refine⟨a,ns,m,F2,rfl,m1,by lia,fun bs tb H3 hb htb gtb F3 f3=>?_⟩;dsimp only[Ak];have G:=W0 hb m1 m4;have he:=NL (bs:=bs) hb;have hlL:(Ac bs).length=2 ^ m:=by rw[Es,hb]
 have hrL:=GD m;refine⟨bs,m,.of gtb,hb,m1,m4,fun u H4 s4 r4=>?_⟩;dsimp only[Ak];rw[QH]at r4;have n4:G9 K PA PB H4 t a ns u (Ac bs) (Ah m):=⟨F3.same s4,(HF A2 F2 f3).same s4,(HF B2 F2 f3).same s4,r4⟩;have gtb4:=s4 _ _ gtb;clear F2 A2 B2 f3 F3 r4 H2 htb s4 gtb H3;refine⟨m,bs,by lia,hb,.of gtb4,fun sv H5 s5 S5=>?_⟩;dsimp only[Ak];have n5:=n4.same s5;have gtb5:=s5 _ _ gtb4;clear n4 gtb4 s5 H4;refine Ad (fun Z H'=>∃(t0:Tr) (es:List (Nat × Nat)) (v y:V),Z=[some (.ref a),some (.ref t),some (.int (0+(i:Int))),some (.int (m:Nat)),some (.ref tb),some u,some sv,some (.int (AZ (Ac bs) ((Ah m).map AO) (2 ^ (Ac bs).length - 1):Nat)),some v,some y,z10,z11,z12,z13,z14]/\G1 K PA PB H' t a ns u m bs tb sv t0 v es y/\Dx (Ac bs) ((Ah m).map AO) t0 (2 ^ (Ac bs).length - 1)/\PInv (Ac bs) ((Ah m).map AO) (Ac bs).length (2 ^ (Ac bs).length - 1) es []) ?_ ?_ (by walk_at "sm")
 ·refine⟨_,_,n5.r,G,he,n5.A,fun t0 es u' H6 bt I rp g6 A6=>?_⟩;obtain⟨pp,xs,rfl,hp,hx⟩:=Dr rp;unfold zf at hx;obtain⟨x0,l0,rfl,e0,hx⟩:=hx;unfold zf at hx;obtain⟨x1,l1',rfl,e1,hx⟩:=hx;unfold zf at hx;obtain⟨x2,l2,rfl,e2,hx⟩:=hx;unfold zf at hx;subst hx;unfold zh at e0;subst e0;obtain⟨pz,hP,_⟩:=id n5.A;exact⟨_,.inr hp,rfl,_,_,rfl,_,_,rfl,_,_,rfl,rfl,t0,es,x1,x2,rfl,⟨n5.growA np g6 A6,GC g6 hP (.of gtb5),Nd S5 g6 hP,e1,e2⟩,bt,I⟩
 clear n5 gtb5 S5 H5;rintro Z H5 ⟨t0,es,v,y,rfl,n5,bt,I⟩;have TO:=RS G he bt;obtain⟨hok,htop,hB⟩:=WV I;have ilen:=I.len G.l16;have few:=CK (Kd he _ (FK (Ac bs).length));rw[FW]at few;generalize AZ (Ac bs) ((Ah m).map AO) (2 ^ (Ac bs).length - 1)=D at *;clear bt I;rw[hlL]at few;have few':Al (AE (Ac bs)) ((Ah m).map gB) (fun k=>decide (k∈List.range (2 ^ m))) D:=by rw[Xw];exact few
 refine Ad (fun Z H'=>Z=[some (.ref a),some (.ref t),some (.int (0+(i:Int))),some (.int (m:Nat)),some (.ref tb),some u,some sv,some (.int (D:Nat)),some v,some y,z10,z11,z12,z13,z14]/\G1 K PA PB H' t a ns u m bs tb sv t0 v es y) ?_ ?_ (by walk_at "sm")
 ·refine⟨by lia,by lia,fun H6 s6=>⟨2 ^ m,Di m,by lia,fun tp htp dd hdd=>?_⟩⟩;have s7:=zc.upd (o:=.tup (iL (List.range (2 ^ m)))) htp;have gt7:upd H6 tp (.tup (iL (List.range (2 ^ m)))) tp=some (.tup (iL (List.range (2 ^ m)))):=AD;have hdE:upd H6 tp (.tup (iL (List.range (2 ^ m)))) dd=none:=hdd;clear hdd;have eiL:((List.range (2 ^ m)).map fun(k:Nat)=>V.int (k:Int))=iL (List.range (2 ^ m)):=rfl;rw[eiL];generalize upd H6 tp (.tup (iL (List.range (2 ^ m))))=H7 at *;have s8:=zc.upd (o:=.dT []) hdE;have S8:=s6.trans (s7.trans s8);refine⟨m,bs,List.range (2 ^ m),[],rfl,m1,m4,hb,S8.sqT n5.b,s8 _ _ gt7,ZCN,fun t ht=>Z1.mp ht,by rw[ZBk];lia,AD,⟨ZCW,nofun⟩,fun D' kvs' H9 fx f9 hd9 M9=>?_⟩;have S9:zc H5 H9:=fun b o e=>f9 b o (Bo (s7 _ _ (s6 _ _ e)) hdE) (S8 _ _ e)
  have eD:D'=D:=Y5 fx (.inl few');subst eD;have n9:=n5.same S9;generalize ((D':Nat):Int)=yy at *;have e0:(true ^^ (yy == yy))=false:=by simp
  show if (true ^^ (yy == yy))=true then _ else _
  rw[e0];exact⟨rfl,n9⟩
 clear n5 H5;rintro Z H5 ⟨rfl,n5⟩;refine Ad (fun Z H'=>∃Wd:Nat,Wd<=D/\Z=[some (.ref a),some (.ref t),some (.int (0+(i:Int))),some (.int (m:Nat)),some (.ref tb),some u,some sv,some (.int (D:Nat)),some v,some y,some (.int (Wd:Nat)),z11,z12,z13,z14]/\G1 K PA PB H' t a ns u m bs tb sv t0 v es y) ?_ ?_ (by walk_at "sm")
 ·obtain⟨sa,sb,vs,rfl,ha,hb',hr'⟩:=id n5.s.at_;have hvl:vs.length=(A3 (wt m (An bs)) (2 ^ m)).length:=by have:=hr'.length;rw[Ze]at this;lia
  have vl16:vs.length<=16:=by have:=LO (wt m (An bs)) (2 ^ m);lia
  refine⟨_,.ref sb,.inr ha,rfl,.inr ⟨⟨_,hb'⟩,?_⟩⟩;refine Bz (xs:=vs) (fun k zs H'=>zc H5 H'/\∃cs:List Nat,zs=iL cs/\cs.length=k/\∀c∈cs,c<=D) ⟨zc.refl _,[],rfl,rfl,nofun⟩ (fun k zs H' _ ⟨s,_⟩=>s.sqT hb') (fun k zs H' hk ⟨_,cs,e,el,_⟩=>by rw[e,Ag,el];exact Aj (by lia)) ?_ ?_
  ·rintro k x zs H6 hx ⟨s6,cs,rfl,el,hcs⟩;obtain⟨⟨T,wgt⟩,c,hq,rfl,hc⟩:=PN hr' hx;obtain⟨q1,q2,q3⟩:=Ln (ZBQ hq);have hdeg:AS m T.testBit<=D:=YQ hb few.1 (by rw[<- q2];exact q3);refine⟨c,_,rfl,s6.sqT hc,rfl,_,_,rfl,_,_,rfl,rfl,?_⟩;refine⟨m,T,rfl,rfl,by lia,fun pb H7 _ s7 gb=>⟨.inl ⟨rfl,_,.of gb⟩,_,.of gb,rfl,?_,?_⟩⟩
   ·rw[List.all_map];exact ZBW.mpr fun _ _=>rfl
   ·rw[K6,NQ];refine⟨s6.trans s7,cs++[AS m T.testBit],by rw[Bj];rfl,by rw[Zy,el];rfl,fun c hc=>?_⟩
    rcases ZBE.mp hc with w | w
    ·exact hcs c w
    ·rw[Zq.mp w];exact hdeg
  ·rintro zs H6 ⟨s6,cs,rfl,el,hcs⟩ l hl
   have hpos:0 < cs.length:=by
    obtain⟨T,h1,h2⟩:=TN (bs:=bs) (m:=m)
    have:=ZCa (KB (g:=wt m (An bs)) h1 h2)
    lia
   refine⟨cs.map fun(x:Nat)=>(x:Int),?_,by rw[Ze];exact hpos,fun Mx hM hle=>?_⟩
   ·rw[ZBZ];exact .of AD
   obtain⟨Wd,hW,rfl⟩:=Zk.mp hM;exact⟨Wd,hcs Wd hW,rfl,n5.same (s6.trans (zc.upd hl))⟩
 clear n5 H5;rintro Z H5 ⟨Wd,hWd,rfl,n5⟩;refine Ad (fun Z H'=>∃Sh:Nat,Sh<=D/\Z=[some (.ref a),some (.ref t),some (.int (0+(i:Int))),some (.int (m:Nat)),some (.ref tb),some u,some sv,some (.int (D:Nat)),some v,some y,some (.int (Wd:Nat)),some (.int (Sh:Nat)),z12,z13,z14]/\G1 K PA PB H' t a ns u m bs tb sv t0 v es y) ?_ ?_ (by walk_at "sm")
 ·refine⟨by lia,by lia,fun H6 s6=>⟨_,rfl,by rw[Di];lia,by rw[Di];lia,?_⟩⟩;rw[Di,Z6];refine CM (fun k zs H'=>zc H5 H'/\∃cs:List Nat,zs=iL cs/\cs.length=k/\∀c∈cs,c<=D) ⟨s6,[],rfl,rfl,nofun⟩ (fun k zs H' hk ⟨_,cs,e,el,_⟩=>by rw[e,Ag,el];exact Aj (by lia)) ?_ ?_
  ·rintro k zs H7 hk ⟨s7,cs,rfl,el,hcs⟩;refine⟨m,bs,k,rfl,by rw[ZBw],m4,hk,hb,s7.sqT n5.b,fun H8 s8=>?_⟩;have hsen:=RZ (bs:=bs) (m:=m) hb hk D _ (by rw[DW];exact Zl hk) few.1;refine⟨s7.trans s8,cs++[AS m (fun j=>gB bs (k ^^^ 2 ^ j) != gB bs k)],by rw[Bj];rfl,by rw[Zy,el];rfl,fun c hc=>?_⟩
   rcases ZBE.mp hc with w | w
   ·exact hcs c w
   ·rw[Zq.mp w];refine ZBU (K2 fun j hj h=>?_) hsen;unfold CZ;rw[DW,Zl (DZ hk hj),ZCG];exact h
  ·rintro zs H7 ⟨s7,cs,rfl,el,hcs⟩ l hl;have hpos:0 < cs.length:=by have:=ZBd m;lia
   refine⟨cs.map fun(x:Nat)=>(x:Int),?_,by rw[Ze];exact hpos,fun Mx hM hle=>?_⟩
   ·rw[ZBZ];exact .of AD
   obtain⟨Sh,hS',rfl⟩:=Zk.mp hM;exact⟨Sh,hcs Sh hS',rfl,n5.same (s7.trans (zc.upd hl))⟩
 clear n5 H5;rintro Z H5 ⟨Sh,hSh,rfl,n5⟩;refine Ad (fun Z H'=>Z=[some (.ref a),some (.ref t),some (.int (0+(i:Int))),some (.int (m:Nat)),some (.ref tb),some u,some sv,some (.int (D:Nat)),some v,some y,some (.int (Wd:Nat)),some (.int (Sh:Nat)),z12,z13,z14]/\G1 K PA PB H' t a ns u m bs tb sv t0 v es y) ?_ ?_ (by walk_at "sm")
 ·have hJ:∀T,T < 2 ^ m->wt m (An bs) T≠0->∀k,T.testBit k=true->(orL 0 (A3 (wt m (An bs)) (2 ^ m))).testBit k=true:=fun T hT hw k hk=>by
   rw[Lw,Bool.or_eq_true];exact .inr (ZBe.mpr ⟨_,KB (g:=wt m (An bs)) hT hw,hk⟩)
  have hDJ:=few.2 _ (Qa hb hJ);refine Ab (fun _=>?_) (fun e=>absurd (Zl (show max ((Wd:Nat):Int) ((Sh:Nat):Int)<=((D:Nat):Int) by lia)) e);refine⟨m,_,n5.s,?_⟩;refine⟨m,orL 0 (A3 (wt m (An bs)) (2 ^ m)),rfl,rfl,by lia,fun pb H6 _ s6 gb=>⟨.inl ⟨rfl,_,.of gb⟩,_,.of gb,rfl,?_,?_⟩⟩
  ·rw[List.all_map];exact ZBW.mpr fun _ _=>rfl
  ·rw[K6,NQ];have e1:decide (((D:Nat):Int)<=((AS m (orL 0 (A3 (wt m (An bs)) (2 ^ m))).testBit:Nat):Int))=true:=Zl (by lia);generalize ((AS m (orL 0 (A3 (wt m (An bs)) (2 ^ m))).testBit:Nat):Int)=cc at *;show if (!decide (((D:Nat):Int)<=cc))=true then _ else _
   rw[e1];exact⟨rfl,n5.same s6⟩
 clear n5 H5;rintro Z H5 ⟨rfl,n5⟩
 have hel:∀ds,upW (DQ es)=.tup ds->ds.length<=100000:=fun ds e=>by
  rw[NN]at e;injection e with e
  rw[<- e,Ze];unfold Ci;rw[Ze];lia
 have hard:GX (Ac bs) (Ah m) (D:Nat) (upW (DQ es)):=⟨Ci es,NN es,hok,htop,hB⟩;have hno:=fun d (h:GX (Ac bs) (Ah m) ((D:Nat)+1) d)=>Yr (by rw[hlL];exact few'.1) h (by lia)
 have tP:BS (DQ es)=true:=by unfold DQ BS;exact Nh es
 refine Ad (fun Z H'=>Z=[some (.ref a),some (.ref t),some (.int (0+(i:Int))),some (.int (m:Nat)),some (.ref tb),some u,some sv,some (.int (D:Nat)),some v,some y,some (.int (Wd:Nat)),some (.int (Sh:Nat)),z12,z13,z14]/\G1 K PA PB H' t a ns u m bs tb sv t0 v es y) ?_ ?_ (by walk_at "sm")
 ·refine⟨_,_,_,n5.g.r,G,n5.w,TO.ok,TO.small,n5.g.B,fun H6 g6 B6=>?_⟩;have n6:=n5.growB np g6 B6;rw[TO.all];refine⟨_,_,_,n6.g.r,G,JD _ _ tP n6.x,hel,fun b H7 hb' s7=>?_⟩;have e:=hb'.mpr hard;subst e;exact⟨rfl,n6.same s7⟩
 clear n5 H5;rintro Z H5 ⟨rfl,n5⟩;refine Ad (fun Z H'=>Z=[some (.ref a),some (.ref t),some (.int (0+(i:Int))),some (.int (m:Nat)),some (.ref tb),some u,some sv,some (.int (D:Nat)),some v,some y,some (.int (Wd:Nat)),some (.int (Sh:Nat)),z12,z13,z14]/\G1 K PA PB H' t a ns u m bs tb sv t0 v es y) ?_ ?_ (by walk_at "sm")
 ·refine⟨_,_,_,n5.g.r,G,JD _ _ tP n5.x,hel,fun b H6 hb' s6=>?_⟩;have n6:=n5.same s6;cases b with
  | true=>exact(hno _ (hb'.mp rfl)).elim
  | false =>
   refine Ab (fun z=>?_) (fun z=>⟨rfl,n6⟩);have z:(0:Int) < (D:Nat):=Zn z;refine⟨_,_,_,n6.g.r,G,n6.w,TO.ok,TO.small,n6.g.B,fun H7 g7 B7=>?_⟩;rw[TO.less (by lia)];exact⟨rfl,n6.growB np g7 B7⟩
 clear n5 H5;rintro Z H5 ⟨rfl,n5⟩;refine⟨by lia,by lia,fun H6 s6=>⟨_,rfl,by rw[Di];lia,by rw[Di];lia,?_⟩⟩;rw[Di,Z6];refine C7 (fun k Z H'=>(∃y12 y13 y14:Option V,Z=[some (.ref a),some (.ref t),some (.int (0+(i:Int))),some (.int (m:Nat)),some (.ref tb),some u,some sv,some (.int (D:Nat)),some v,some y,some (.int (Wd:Nat)),some (.int (Sh:Nat)),y12,y13,y14])/\G1 K PA PB H' t a ns u m bs tb sv t0 v es y) ⟨⟨_,_,_,rfl⟩,n5.same s6⟩ ?_ (fun Z H' ⟨⟨y12,y13,y14,e⟩,n⟩=>⟨⟨_,_,_,_,_,_,_,_,_,_,_,_,_,e⟩,n.g.F,n.g.A,n.g.B⟩);clear n5 s6 H5 H6;rintro k Z H5 hk ⟨⟨y12,y13,y14,rfl⟩,n5⟩;rw[show(0:Int)+(k:Int)=((k:Nat):Int) from ZBw _];obtain⟨hm1,hm2⟩:=TO.home k (by rw[hlL];exact hk);refine⟨_,_,t0,k,n5.g.r,G,n5.w,TO.ok,rfl,by rw[hlL];exact hk,fun p H6 s6 g6=>?_⟩;refine⟨_,.inr (.of g6),rfl,_,_,rfl,_,_,rfl,rfl,?_⟩;refine⟨_,.bl (gB bs k),.inr (s6.sqT n5.b),Ed (by rw[hb];exact hk),?_⟩;rw[hm1,KI (by rw[hb];exact hk)];have n6:=n5.same s6;have e2:decide (((D:Nat):Int) < ((t0.many (Ah m) k:Nat):Int))=false:=ZBC (by lia);cases gB bs k with
 | true =>
  refine Ab (fun e=>?_) (fun e=>⟨⟨_,_,_,rfl⟩,n6⟩);have e:decide (((D:Nat):Int) < ((t0.many (Ah m) k:Nat):Int))=true:=e;rw[e2]at e;cases e
 | false =>
  refine Ab (fun e=>?_) (fun e=>⟨⟨_,_,_,rfl⟩,n6⟩);have e:decide (((D:Nat):Int) < ((t0.many (Ah m) k:Nat):Int))=true:=e;rw[e2]at e;cases e
end
noncomputable abbrev DI(K:W.Frag)(n:Str)(st:Stmt)(f:Addr):Prop:=∃(oc kV dc pm cd ct:Value) (od an:Option Addr) (sl:Array (Option Value)),W.nsIn K mainGlobals n=some (some (.ref f))/\K.lookup f=some ⟨oc,od,.func (W.fnOf n n (Br st) (Bc st) (AJ st) .none kV dc pm an cd ct),sl⟩/\W.codeIn K cd n=true/\W.keepIn K (.ref f)=true
structure FD(K:W.Frag)(mg:Str->Option Value)(n:Str)(st:Stmt)(ps:List Str)(f:Addr) where
 d:FuncData
 F:Fun K n n st f d
 b:Binds K d ps []
 m:mg n=some (.ref f)
theorem DI.fd{h:Heap}{mg:Str->Option Value}{n:Str}{st:Stmt}{f:Addr}{ps:List Str}(i:DI K n st f)(X:K.In h)(G:h.Ns mainGlobals mg)(hb:∀(kV doc pm:Value) (an:Option Addr) (zB ct:Value) (us:List Value),us.length=ps.length->bindArgs (W.fnOf n n (Br st) (Bc st) (AJ st) .none kV doc pm an zB ct) ⟨us,[]⟩=pure (ps.zip us)):Nonempty (FD K mg n st ps f):=by
 obtain⟨oc,kV,dc,pm,cd,ct,od,an,sl,a,l,c,k⟩:=i;exact⟨⟨_,D2 l c k,(D2 l c k).binds hb,W.mg_of X G a⟩⟩
noncomputable abbrev DM(K:W.Frag)(C:Addr)(n q:Str)(st:Stmt)(f:Addr):Prop:=∃(oc kV dc pm cd ct:Value) (od an:Option Addr) (sl:Array (Option Value)),W.findIn K (.ref C) n=some (some (.ref f))/\W.isFn K (.ref f)=true/\K.lookup f=some ⟨oc,od,.func (W.fnOf n q (Br st) (Bc st) (AJ st) .none kV dc pm an cd ct),sl⟩/\W.codeIn K cd q=true/\W.keepIn K (.ref f)=true
structure FM(K:W.Frag)(C:Addr)(n q:Str)(st:Stmt)(ps:List Str)(f:Addr) where
 d:FuncData
 F:Fun K n q st f d
 b:Binds K d ps []
 m:Meth K C n f
theorem DM.fm{n:Str}{st:Stmt}{f:Addr}{ps:List Str}(i:DM K C n q st f)(hb:∀(kV doc pm:Value) (an:Option Addr) (zB ct:Value) (us:List Value),us.length=ps.length->bindArgs (W.fnOf n q (Br st) (Bc st) (AJ st) .none kV doc pm an zB ct) ⟨us,[]⟩=pure (ps.zip us)):Nonempty (FM K C n q st ps f):=by
 obtain⟨oc,kV,dc,pm,cd,ct,od,an,sl,a,i,l,c,k⟩:=i;exact⟨⟨_,D2 l c k,(D2 l c k).binds hb,⟨a,i,k⟩⟩⟩
theorem all_di{n:Str}{st:Stmt}{f:Addr}{oc kV dc pm cd ct:Value}{od an:Option Addr}{sl:Array (Option Value)}(a:W.nsIn K mainGlobals n=some (some (.ref f)))(l:K.lookup f=some ⟨oc,od,.func (W.fnOf n n (Br st) (Bc st) (AJ st) .none kV dc pm an cd ct),sl⟩)(c:W.codeIn K cd n=true)(k:W.keepIn K (.ref f)=true):DI K n st f:=⟨_,_,_,_,_,_,_,_,_,a,l,c,k⟩
theorem all_dm{n:Str}{st:Stmt}{f:Addr}{oc kV dc pm cd ct:Value}{od an:Option Addr}{sl:Array (Option Value)}(a:W.findIn K (.ref C) n=some (some (.ref f)))(i:W.isFn K (.ref f)=true)(l:K.lookup f=some ⟨oc,od,.func (W.fnOf n q (Br st) (Bc st) (AJ st) .none kV dc pm an cd ct),sl⟩)(c:W.codeIn K cd q=true)(k:W.keepIn K (.ref f)=true):DM K C n q st f:=⟨_,_,_,_,_,_,_,_,_,a,i,l,c,k⟩
theorem all_mk {l:W.OpenLaw} {w:World} {h:Heap} {mg:Str->Option Value} {fa:Addr} (X:K.In h) (G:h.Ns mainGlobals mg) (hfa:mg "law" = some (.ref fa))
 {zD:Addr}
 {zC:Addr}
 {f20:Addr} {oc20 kV20 dc20 pm20 ct20:Value} {od20 an20:Option Addr} {sl20:Array (Option Value)} {g20 p20:Addr} {cvs20:Array Value} {cod20:Option Addr} {csl20:Array (Option Value)}
 {f43:Addr} {oc43 kV43 dc43 pm43 ct43:Value} {od43 an43:Option Addr} {sl43:Array (Option Value)} {g43 p43:Addr} {cvs43:Array Value} {cod43:Option Addr} {csl43:Array (Option Value)}
 {f58:Addr} {oc58 kV58 dc58 pm58 cd58 ct58:Value} {od58 an58:Option Addr} {sl58:Array (Option Value)}
 {zU:Tok}
 {zQ:Tok}
 {f0 f1 f2 f3 f4 f5 f6 f7 f8 f9 f10 f11 f12 f13 f14 f15 f16 f17 f18 f19 f21 f22 f23 f24 f25 f26 f27 f28 f29 f30 f31 f32 f33 f34 f35 f36 f37 f38 f39 f40 f41 f42 f44 f45 f46 f47 f48 f49 f50 f51 f52 f53 f54 f55 f56 f57:Addr}
 (aC_Bearing:W.nsIn K mainGlobals "Bearing" = some (some (.ref zD)))
 (pg_Bearing:W.plainGet K zD Str.empty=true)
 (hd_Bearing:W.hasDictIn K zD=true)
 (po_Bearing:W.plainOver K zD=true)
 (sa_Bearing:W.findIn K (.ref zD) "__setattr__" = some (some (.builtin "object.__setattr__")))
 (zX:W.makesIn K zD=true)
 (kc_Bearing:W.keepIn K (.ref zD)=true)
 (na_yeses_Bearing:W.findIn K (.ref zD) "yeses" = some none)
 (na_numbers_Bearing:W.findIn K (.ref zD) "numbers" = some none)
 (na_found_Bearing:W.findIn K (.ref zD) "found" = some none)
 (aC_Reckoner:W.nsIn K mainGlobals "Reckoner" = some (some (.ref zC)))
 (pg_Reckoner:W.plainGet K zC Str.empty=true)
 (hd_Reckoner:W.hasDictIn K zC=true)
 (po_Reckoner:W.plainOver K zC=true)
 (sa_Reckoner:W.findIn K (.ref zC) "__setattr__" = some (some (.builtin "object.__setattr__")))
 (zW:W.makesIn K zC=true)
 (kc_Reckoner:W.keepIn K (.ref zC)=true)
 (na_labels_Reckoner:W.findIn K (.ref zC) "labels" = some none)
 (na_yeses_Reckoner:W.findIn K (.ref zC) "yeses" = some none)
 (na_alike_Reckoner:W.findIn K (.ref zC) "alike" = some none)
 (na_known_Reckoner:W.findIn K (.ref zC) "known" = some none)
 (i0:DI K "is_whole" Kh f0)
 (i1:DI K "is_below" IF f1)
 (i2:DI K "two_to" J2 f2)
 (i3:DI K "power_of" KC f3)
 (i4:DI K "switches_of" K3 f4)
 (i5:DI K "is_on" KM f5)
 (i6:DI K "within" Kp f6)
 (i7:DI K "set_holding" Jf f7)
 (i8:DI K "members_of" IN f8)
 (i9:DM K zC "__init__" "Reckoner.__init__" Jk f9)
 (i10:DM K zC "everything" "Reckoner.everything" IP f10)
 (i11:DM K zC "has_one_label" "Reckoner.has_one_label" Jd f11)
 (i12:DM K zC "label_of" "Reckoner.label_of" Jq f12)
 (i13:DM K zC "left_of" "Reckoner.left_of" Hs f13)
 (i14:DM K zC "fewest_among" "Reckoner.fewest_among" Io f14)
 (i15:DM K zC "fewest_reckoned" "Reckoner.fewest_reckoned" JV f15)
 (i16:DM K zC "parting" "Reckoner.parting" HX f16)
 (i17:DM K zC "worst_behind" "Reckoner.worst_behind" Ja f17)
 (i18:DM K zC "harder_left" "Reckoner.harder_left" JN f18)
 (i19:DM K zC "harder_lefts" "Reckoner.harder_lefts" Kv f19)
 (a20:W.findIn K (.ref zC) "first_question" = some (some (.ref f20)))
 (i20:W.isFn K (.ref f20)=true)
 (l20:K.lookup f20=some ⟨oc20,od20,.func (W.fnOf "first_question" "Reckoner.first_question" (Br Cf) (Bc Cf) (AJ Cf) .none kV20 dc20 pm20 an20 (.ref g20) ct20),sl20⟩)
 (c20:W.codeIn K (.ref g20) "Reckoner.first_question" = true)
 (k20:W.keepIn K (.ref f20)=true)
 (lc20:K.lookup g20=some ⟨.type "code",cod20,.fields cvs20,csl20⟩)
 (pv20:cvs20[11]? = some (.ref p20))
 (gh20:W.codeHdIn K g20 p20=true)
 (gt20:h.get? p20=some (W.tabObj #[]))
 (i21:DI K "members_where" Ku f21)
 (i22:DI K "is_pair" Ho f22)
 (i23:DI K "sum_of" IT f23)
 (i24:DI K "sum_from" JF f24)
 (i25:DI K "times_signs" Ij f25)
 (i26:DI K "crossed" JX f26)
 (i27:DI K "game_of" Kf f27)
 (i28:DI K "refuse_without_end" JA f28)
 (i29:DI K "first_unparted" KP f29)
 (i30:DI K "fewest" J7 f30)
 (i31:DI K "best_tree" Jo f31)
 (i32:DI K "hard_paper" Ka f32)
 (i33:DI K "lets_hard" Ib f33)
 (i34:DI K "is_entry" Ip f34)
 (i35:DI K "are_things" HW f35)
 (i36:DM K zD "__init__" "Bearing.__init__" Iw f36)
 (i37:DM K zD "bears_all" "Bearing.bears_all" JQ f37)
 (i38:DM K zD "bears" "Bearing.bears" Hk f38)
 (i39:DM K zD "has_within" "Bearing.has_within" Ki f39)
 (i40:DM K zD "greatest_within" "Bearing.greatest_within" Kj f40)
 (i41:DI K "hangs_on" JG f41)
 (i42:DI K "keeps_to" Iu f42)
 (a43:W.nsIn K mainGlobals "is_tree" = some (some (.ref f43)))
 (l43:K.lookup f43=some ⟨oc43,od43,.func (W.fnOf "is_tree" "is_tree" (Br Ct) (Bc Ct) (AJ Ct) .none kV43 dc43 pm43 an43 (.ref g43) ct43),sl43⟩)
 (c43:W.codeIn K (.ref g43) "is_tree" = true)
 (k43:W.keepIn K (.ref f43)=true)
 (lc43:K.lookup g43=some ⟨.type "code",cod43,.fields cvs43,csl43⟩)
 (pv43:cvs43[11]? = some (.ref p43))
 (gh43:W.codeHdIn K g43 p43=true)
 (gt43:h.get? p43=some (W.tabObj #[]))
 (i44:DI K "has_tree_form" K1 f44)
 (i45:DI K "trees_within" KZ f45)
 (i46:DI K "is_too_large_tree" Iy f46)
 (i47:DI K "asked" Jb f47)
 (i48:DI K "lets_tree" JM f48)
 (i49:DI K "comes_home" Kt f49)
 (i50:DI K "_law_tape" Kg f50)
 (i51:DI K "_law_next" Kb f51)
 (i52:DI K "_law_two" Je f52)
 (i53:DI K "_law_bits" Jt f53)
 (i54:DI K "_law_sign" JR f54)
 (i55:DI K "_law_table" JI f55)
 (i56:DI K "_law_asks" KF f56)
 (i57:DI K "_law_turning" Hf f57)
 (a58:W.nsIn K mainGlobals "law" = some (some (.ref f58)))
 (l58:K.lookup f58=some ⟨oc58,od58,.func (W.fnOf "law" "law" (Br C2) (Bc C2) (AJ C2) .none kV58 dc58 pm58 an58 cd58 ct58),sl58⟩)
 (c58:W.codeIn K cd58 "law" = true)
 (k58:W.keepIn K (.ref f58)=true)
 (yf:W.nsIn K mainGlobals "all" = some none)
 (yp:W.nsIn K mainGlobals "any" = some none)
 (yd:W.nsIn K mainGlobals "bool" = some none)
 (zN:W.nsIn K mainGlobals "enumerate" = some none)
 (yc:W.nsIn K mainGlobals "int" = some none)
 (zJ:W.nsIn K mainGlobals "isinstance" = some none)
 (zR:W.nsIn K mainGlobals "len" = some none)
 (ye:W.nsIn K mainGlobals "list" = some none)
 (ya:W.nsIn K mainGlobals "max" = some none)
 (yh:W.nsIn K mainGlobals "min" = some none)
 (zH:W.nsIn K mainGlobals "range" = some none)
 (yg:W.nsIn K mainGlobals "set" = some none)
 (zZ:W.nsIn K mainGlobals "sorted" = some none)
 (yo:W.nsIn K mainGlobals "sum" = some none)
 (zM:W.nsIn K mainGlobals "tuple" = some none)
 (yn:W.nsIn K mainGlobals "zip" = some none)
 (zT:W.nsIn K mainGlobals "MOST_TREES" = some (some (.int 2000 zU)))
 (zP:W.nsIn K mainGlobals "MOST_WITHIN" = some (some (.int 16 zQ)))
 (hnt:W.noTabs K=true)
 (np_0:p20≠p43) :
 ∃(fd:FuncData) (ts:List (Addr × Addr)),W.TabsAt ts h/\W.noTabs K=true/\(∀(s:Shared) (v:Value),BindsTo s fd ⟨[v],[]⟩ [("_law_script",v)])/\∀base:Heap,K.In base->base.Ns mainGlobals mg->BMn mg base->FnOk l.prog w K mg base CX0 97 fa fd ["_law_script"] (HC K (ts.map (·.2))):=by
 have e:=hfa.symm.trans (W.mg_of X G a58);cases e;obtain⟨Q0⟩:=i0.fd X G (ps:=["thing"]) fun _ _ _ _ _ _=>L2.on1 (fun _=>rfl)
 obtain⟨Q1⟩:=i1.fd X G (ps:=["bound","thing"]) fun _ _ _ _ _ _=>L2.on2 (fun _ _=>rfl)
 obtain⟨Q2⟩:=i2.fd X G (ps:=["n"]) fun _ _ _ _ _ _=>L2.on1 (fun _=>rfl)
 obtain⟨Q3⟩:=i3.fd X G (ps:=["base","times"]) fun _ _ _ _ _ _=>L2.on2 (fun _ _=>rfl)
 obtain⟨Q4⟩:=i4.fd X G (ps:=["table"]) fun _ _ _ _ _ _=>L2.on1 (fun _=>rfl)
 obtain⟨Q5⟩:=i5.fd X G (ps:=["place","switch"]) fun _ _ _ _ _ _=>L2.on2 (fun _ _=>rfl)
 obtain⟨Q6⟩:=i6.fd X G (ps:=["subset","other"]) fun _ _ _ _ _ _=>L2.on2 (fun _ _=>rfl)
 obtain⟨Q7⟩:=i7.fd X G (ps:=["members"]) fun _ _ _ _ _ _=>L2.on1 (fun _=>rfl)
 obtain⟨Q8⟩:=i8.fd X G (ps:=["subset"]) fun _ _ _ _ _ _=>L2.on1 (fun _=>rfl)
 obtain⟨Q9⟩:=i9.fm (ps:=["self","game"]) fun _ _ _ _ _ _=>L2.on2 (fun _ _=>rfl)
 obtain⟨Q10⟩:=i10.fm (ps:=["self"]) fun _ _ _ _ _ _=>L2.on1 (fun _=>rfl)
 obtain⟨Q11⟩:=i11.fm (ps:=["self","things"]) fun _ _ _ _ _ _=>L2.on2 (fun _ _=>rfl)
 obtain⟨Q12⟩:=i12.fm (ps:=["self","things"]) fun _ _ _ _ _ _=>L2.on2 (fun _ _=>rfl)
 obtain⟨Q13⟩:=i13.fm (ps:=["self","things","question","answer"]) fun _ _ _ _ _ _=>L2.on4 (fun _ _ _ _=>rfl)
 obtain⟨Q14⟩:=i14.fm (ps:=["self","things"]) fun _ _ _ _ _ _=>L2.on2 (fun _ _=>rfl)
 obtain⟨Q15⟩:=i15.fm (ps:=["self","things"]) fun _ _ _ _ _ _=>L2.on2 (fun _ _=>rfl)
 obtain⟨Q16⟩:=i16.fm (ps:=["self","things"]) fun _ _ _ _ _ _=>L2.on2 (fun _ _=>rfl)
 obtain⟨Q17⟩:=i17.fm (ps:=["self","things","question"]) fun _ _ _ _ _ _=>L2.on3 (fun _ _ _=>rfl)
 obtain⟨Q18⟩:=i18.fm (ps:=["self","things","question"]) fun _ _ _ _ _ _=>L2.on3 (fun _ _ _=>rfl)
 obtain⟨Q19⟩:=i19.fm (ps:=["self","things"]) fun _ _ _ _ _ _=>L2.on2 (fun _ _=>rfl)
 have F20:=D2 (st:=Cf) l20 c20 k20;have b20:=F20.binds (ps:=["self","things"]) fun _ _ _ _ _ _=>L2.on2 (fun _ _=>rfl)
 obtain⟨Q21⟩:=i21.fd X G (ps:=["wanted","values"]) fun _ _ _ _ _ _=>L2.on2 (fun _ _=>rfl)
 obtain⟨Q22⟩:=i22.fd X G (ps:=["thing"]) fun _ _ _ _ _ _=>L2.on1 (fun _=>rfl)
 obtain⟨Q23⟩:=i23.fd X G (ps:=["table"]) fun _ _ _ _ _ _=>L2.on1 (fun _=>rfl)
 obtain⟨Q24⟩:=i24.fd X G (ps:=["n","weights"]) fun _ _ _ _ _ _=>L2.on2 (fun _ _=>rfl)
 obtain⟨Q25⟩:=i25.fd X G (ps:=["numbers"]) fun _ _ _ _ _ _=>L2.on1 (fun _=>rfl)
 obtain⟨Q26⟩:=i26.fd X G (ps:=["numbers","step","place"]) fun _ _ _ _ _ _=>L2.on3 (fun _ _ _=>rfl)
 obtain⟨Q27⟩:=i27.fd X G (ps:=["table"]) fun _ _ _ _ _ _=>L2.on1 (fun _=>rfl)
 obtain⟨Q28⟩:=i28.fd X G (ps:=["game"]) fun _ _ _ _ _ _=>L2.on1 (fun _=>rfl)
 obtain⟨Q29⟩:=i29.fd X G (ps:=["game"]) fun _ _ _ _ _ _=>L2.on1 (fun _=>rfl)
 obtain⟨Q30⟩:=i30.fd X G (ps:=["game"]) fun _ _ _ _ _ _=>L2.on1 (fun _=>rfl)
 obtain⟨Q31⟩:=i31.fd X G (ps:=["reckoner","things"]) fun _ _ _ _ _ _=>L2.on2 (fun _ _=>rfl)
 obtain⟨Q32⟩:=i32.fd X G (ps:=["reckoner","things"]) fun _ _ _ _ _ _=>L2.on2 (fun _ _=>rfl)
 obtain⟨Q33⟩:=i33.fd X G (ps:=["game","d","thing"]) fun _ _ _ _ _ _=>L2.on3 (fun _ _ _=>rfl)
 obtain⟨Q34⟩:=i34.fd X G (ps:=["game","thing"]) fun _ _ _ _ _ _=>L2.on2 (fun _ _=>rfl)
 obtain⟨Q35⟩:=i35.fd X G (ps:=["many","thing"]) fun _ _ _ _ _ _=>L2.on2 (fun _ _=>rfl)
 obtain⟨Q36⟩:=i36.fm (ps:=["self","game","entries"]) fun _ _ _ _ _ _=>L2.on3 (fun _ _ _=>rfl)
 obtain⟨Q37⟩:=i37.fm (ps:=["self"]) fun _ _ _ _ _ _=>L2.on1 (fun _=>rfl)
 obtain⟨Q38⟩:=i38.fm (ps:=["self","things","number","yes"]) fun _ _ _ _ _ _=>L2.on4 (fun _ _ _ _=>rfl)
 obtain⟨Q39⟩:=i39.fm (ps:=["self","things","number"]) fun _ _ _ _ _ _=>L2.on3 (fun _ _ _=>rfl)
 obtain⟨Q40⟩:=i40.fm (ps:=["self","things"]) fun _ _ _ _ _ _=>L2.on2 (fun _ _=>rfl)
 obtain⟨Q41⟩:=i41.fd X G (ps:=["one"]) fun _ _ _ _ _ _=>L2.on1 (fun _=>rfl)
 obtain⟨Q42⟩:=i42.fd X G (ps:=["has_form","parts_within","is_beyond","thing"]) fun _ _ _ _ _ _=>L2.on4 (fun _ _ _ _=>rfl)
 have F43:=D2 (st:=Ct) l43 c43 k43;have b43:=F43.binds (ps:=["game","thing"]) fun _ _ _ _ _ _=>L2.on2 (fun _ _=>rfl)
 obtain⟨Q44⟩:=i44.fd X G (ps:=["questions","thing"]) fun _ _ _ _ _ _=>L2.on2 (fun _ _=>rfl)
 obtain⟨Q45⟩:=i45.fd X G (ps:=["tree"]) fun _ _ _ _ _ _=>L2.on1 (fun _=>rfl)
 obtain⟨Q46⟩:=i46.fd X G (ps:=["many","depth"]) fun _ _ _ _ _ _=>L2.on2 (fun _ _=>rfl)
 obtain⟨Q47⟩:=i47.fd X G (ps:=["game","tree","thing"]) fun _ _ _ _ _ _=>L2.on3 (fun _ _ _=>rfl)
 obtain⟨Q48⟩:=i48.fd X G (ps:=["game","d","thing"]) fun _ _ _ _ _ _=>L2.on3 (fun _ _ _=>rfl)
 obtain⟨Q49⟩:=i49.fd X G (ps:=["game","d","tree","hidden"]) fun _ _ _ _ _ _=>L2.on4 (fun _ _ _ _=>rfl)
 obtain⟨Q50⟩:=i50.fd X G (ps:=["_law_script"]) fun _ _ _ _ _ _=>L2.on1 (fun _=>rfl)
 obtain⟨Q51⟩:=i51.fd X G (ps:=["_law_tape_here","_law_many"]) fun _ _ _ _ _ _=>L2.on2 (fun _ _=>rfl)
 obtain⟨Q52⟩:=i52.fd X G (ps:=["_law_k"]) fun _ _ _ _ _ _=>L2.on1 (fun _=>rfl)
 obtain⟨Q53⟩:=i53.fd X G (ps:=["_law_n","_law_number"]) fun _ _ _ _ _ _=>L2.on2 (fun _ _=>rfl)
 obtain⟨Q54⟩:=i54.fd X G (ps:=["_law_n","_law_one","_law_place"]) fun _ _ _ _ _ _=>L2.on3 (fun _ _ _=>rfl)
 obtain⟨Q55⟩:=i55.fd X G (ps:=["_law_tape_here","_law_n"]) fun _ _ _ _ _ _=>L2.on2 (fun _ _=>rfl)
 obtain⟨Q56⟩:=i56.fd X G (ps:=["_law_n","_law_table_here","_law_places","_law_known"]) fun _ _ _ _ _ _=>L2.on4 (fun _ _ _ _=>rfl)
 obtain⟨Q57⟩:=i57.fd X G (ps:=["_law_n","_law_table_here","_law_place"]) fun _ _ _ _ _ _=>L2.on3 (fun _ _ _=>rfl)
 have F58:=D2 (st:=C2) l58 c58 k58;have b58:=F58.binds (ps:=["_law_script"]) fun _ _ _ _ _ _=>L2.on1 (fun _=>rfl)
 let T:Txt K mg:={ zD:=zD,Z0b:=W.mg_of X G aC_Bearing,zF:=⟨pg_Bearing,hd_Bearing,po_Bearing,sa_Bearing⟩,zV:=na_yeses_Bearing,zG:=na_numbers_Bearing,zO:=na_found_Bearing,zC:=zC,Z0a:=W.mg_of X G aC_Reckoner,zE:=⟨pg_Reckoner,hd_Reckoner,po_Reckoner,sa_Reckoner⟩,zI:=na_labels_Reckoner,zK:=na_yeses_Reckoner,zS:=na_alike_Reckoner,zL:=na_known_Reckoner,z58:=⟨f0,Q0.d,Q0.F,Q0.b,Q0.m⟩,z56:=⟨f1,Q1.d,Q1.F,Q1.b,Q1.m⟩,z68:=⟨f2,Q2.d,Q2.F,Q2.b,Q2.m⟩,z57:=⟨f3,Q3.d,Q3.F,Q3.b,Q3.m⟩,z41:=⟨f4,Q4.d,Q4.F,Q4.b,Q4.m⟩,z71:=⟨f5,Q5.d,Q5.F,Q5.b,Q5.m⟩,z67:=⟨f6,Q6.d,Q6.F,Q6.b,Q6.m⟩,z40:=⟨f7,Q7.d,Q7.F,Q7.b,Q7.m⟩,z44:=⟨f8,Q8.d,Q8.F,Q8.b,Q8.m⟩,z31:=⟨f9,Q9.d,Q9.F,Q9.b,Q9.m⟩,zW:=⟨zW,Q9.m.at_,Q9.m.fn,kc_Reckoner⟩,z23:=⟨f10,Q10.d,Q10.F,Q10.b,Q10.m⟩,z18:=⟨f11,Q11.d,Q11.F,Q11.b,Q11.m⟩,z26:=⟨f12,Q12.d,Q12.F,Q12.b,Q12.m⟩,z27:=⟨f13,Q13.d,Q13.F,Q13.b,Q13.m⟩,z19:=⟨f14,Q14.d,Q14.F,Q14.b,Q14.m⟩,z15:=⟨f15,Q15.d,Q15.F,Q15.b,Q15.m⟩,z28:=⟨f16,Q16.d,Q16.F,Q16.b,Q16.m⟩,z21:=⟨f17,Q17.d,Q17.F,Q17.b,Q17.m⟩,z22:=⟨f18,Q18.d,Q18.F,Q18.b,Q18.m⟩,z20:=⟨f19,Q19.d,Q19.F,Q19.b,Q19.m⟩,yk:=g20,zY:=p20,Z0c:=rfl,Z0e:=gh20,z17:=⟨f20,_,F20,b20,⟨a20,i20,k20⟩⟩,z35:=⟨f21,Q21.d,Q21.F,Q21.b,Q21.m⟩,z64:=⟨f22,Q22.d,Q22.F,Q22.b,Q22.m⟩,z70:=⟨f23,Q23.d,Q23.F,Q23.b,Q23.m⟩,z62:=⟨f24,Q24.d,Q24.F,Q24.b,Q24.m⟩,z39:=⟨f25,Q25.d,Q25.F,Q25.b,Q25.m⟩,z63:=⟨f26,Q26.d,Q26.F,Q26.b,Q26.m⟩,z66:=⟨f27,Q27.d,Q27.F,Q27.b,Q27.m⟩,z29:=⟨f28,Q28.d,Q28.F,Q28.b,Q28.m⟩,z34:=⟨f29,Q29.d,Q29.F,Q29.b,Q29.m⟩,z69:=⟨f30,Q30.d,Q30.F,Q30.b,Q30.m⟩,z54:=⟨f31,Q31.d,Q31.F,Q31.b,Q31.m⟩,z42:=⟨f32,Q32.d,Q32.F,Q32.b,Q32.m⟩,z47:=⟨f33,Q33.d,Q33.F,Q33.b,Q33.m⟩,z59:=⟨f34,Q34.d,Q34.F,Q34.b,Q34.m⟩,z46:=⟨f35,Q35.d,Q35.F,Q35.b,Q35.m⟩,z33:=⟨f36,Q36.d,Q36.F,Q36.b,Q36.m⟩,zX:=⟨zX,Q36.m.at_,Q36.m.fn,kc_Bearing⟩,z25:=⟨f37,Q37.d,Q37.F,Q37.b,Q37.m⟩,z32:=⟨f38,Q38.d,Q38.F,Q38.b,Q38.m⟩,z24:=⟨f39,Q39.d,Q39.F,Q39.b,Q39.m⟩,z16:=⟨f40,Q40.d,Q40.F,Q40.b,Q40.m⟩,z61:=⟨f41,Q41.d,Q41.F,Q41.b,Q41.m⟩,z55:=⟨f42,Q42.d,Q42.F,Q42.b,Q42.m⟩,ym:=g43,yb:=p43,Z0f:=rfl,Z0d:=gh43,z65:=⟨f43,_,F43,b43,W.mg_of X G a43⟩,z36:=⟨f44,Q44.d,Q44.F,Q44.b,Q44.m⟩,z37:=⟨f45,Q45.d,Q45.F,Q45.b,Q45.m⟩,z30:=⟨f46,Q46.d,Q46.F,Q46.b,Q46.m⟩,z72:=⟨f47,Q47.d,Q47.F,Q47.b,Q47.m⟩,z48:=⟨f48,Q48.d,Q48.F,Q48.b,Q48.m⟩,z43:=⟨f49,Q49.d,Q49.F,Q49.b,Q49.m⟩,z53:=⟨f50,Q50.d,Q50.F,Q50.b,Q50.m⟩,z49:=⟨f51,Q51.d,Q51.F,Q51.b,Q51.m⟩,z60:=⟨f52,Q52.d,Q52.F,Q52.b,Q52.m⟩,z51:=⟨f53,Q53.d,Q53.F,Q53.b,Q53.m⟩,z50:=⟨f54,Q54.d,Q54.F,Q54.b,Q54.m⟩,z45:=⟨f55,Q55.d,Q55.F,Q55.b,Q55.m⟩,z52:=⟨f56,Q56.d,Q56.F,Q56.b,Q56.m⟩,z38:=⟨f57,Q57.d,Q57.F,Q57.b,Q57.m⟩,yq:=fa,yr:=_,Z0g:=F58,Z0i:=b58,Z0h:=W.mg_of X G a58,yf:=W.mg_none_of X G yf,yp:=W.mg_none_of X G yp,yd:=W.mg_none_of X G yd,zN:=W.mg_none_of X G zN,yc:=W.mg_none_of X G yc,zJ:=W.mg_none_of X G zJ,zR:=W.mg_none_of X G zR,ye:=W.mg_none_of X G ye,ya:=W.mg_none_of X G ya,yh:=W.mg_none_of X G yh,zH:=W.mg_none_of X G zH,yg:=W.mg_none_of X G yg,zZ:=W.mg_none_of X G zZ,yo:=W.mg_none_of X G yo,zM:=W.mg_none_of X G zM,yn:=W.mg_none_of X G yn,zU:=zU,zT:=W.mg_of X G zT,zQ:=zQ,zP:=W.mg_of X G zP,np_0:=np_0 };exact⟨W.fnOf "law" "law" (Br C2) (Bc C2) (AJ C2) .none kV58 dc58 pm58 an58 cd58 ct58,[(g20,p20),(g43,p43)],List.forall_mem_cons.mpr ⟨⟨W.codeHd_of_K X gh20,gt20⟩,List.forall_mem_cons.mpr ⟨⟨W.codeHd_of_K X gh43,gt43⟩,fun _ z=>nomatch z⟩⟩,hnt,fun s v=>.of_eq rfl,fun base _ _ B=>Qt T B⟩
theorem walk {l:W.OpenLaw} {q:Program} {loose:List Str} {XP:(Str->Option Value)->Heap->Prop} {YP:World->Heap->Prop} {d:DefRec} {K:Params->W.Frag} (hn:l.most=some 63) (hdf:d.params.defaults=[])
 (hY:∀(w:World) (h:Heap),YP w h->(K w.params).In h)
 (F:∀(w:World) (mg:Str->Option Value) (fa:Addr) (h:Heap),YP w h->(K w.params).In h->h.Ns mainGlobals mg->mg d.name=some (.ref fa) ->
   ∃(fd:FuncData) (ts:List (Addr × Addr)),W.TabsAt ts h/\W.noTabs (K w.params)=true/\(∀(s:Shared) (u:Value),BindsTo s fd ⟨[u],[]⟩ [("_law_script",u)])/\∀base:Heap,(K w.params).In base->base.Ns mainGlobals mg->BMn mg base->FnOk l.prog w (K w.params) mg base CX0 97 fa fd ["_law_script"] (HC (K w.params) (ts.map (·.2)))) :
 W.WalkO q loose XP YP l.row.toRowW d [] (fun f vs=>PySem.call f vs) :=
 L2.walk_ofT (n:=63) (k:=97) (x:="_law_script") (sp:=fun w ts=>HC (K w.params) ts) hn (by decide) hdf ⟨rfl,by decide,by decide,rfl⟩ hY F (fun _ _ a ns ts hl hO hS=>⟨a,ns,rfl,hS,hl,hO,fun _=>rfl⟩)
end Mine
structure PySem.W.Fast:Prop where(tw14074520720794517499 tw7511947390077050019 tw12153431753595755783 tw593217981691995209 tw9150421533160364382 tw17927553940785098835 tw12818379107575704755 tw9454399090808772619 tw3163000584118295013 tw10501169253435111149 tw7873023995938763789 tw726102748806305379 tw13315775361313860501 tw17266653891520678799 tw3480451009533317722 tw5533549214446128908 tw16287409805349893889 tw10507411034935988455 tw13876727483059961665 tw15307335882685933618 tw12317435397700402267 tw11997461670365684595 tw4870369818826046628 tw12034489199379131142 tw9234902336956083822 tw12058714910891919830 tw14289661750875148004 tw14875369799923918186 tw2486902146076894070 tw4912381530193824071 tw15494401311735433851 tw10861543106049416224 tw7872941286095213347 tw7131069872717900339 tw14305385197688485741 tw16253123978247718248 tw1078465687494654059 tw506470215743425126 tw14902093207025636693 tw10702059592699050287 tw198753111998789204 tw7412124630253797038 tw3596375210865875805 tw13589934900125644567 tw16092317631349645544 tw16665228670014640923 tw3690150640829565059 tw13080627110349659071 tw8243991228881732538 tw458884031842307216 tw7411810258670942623 tw3026809340516747130 tw14437888740350707530 tw453253981903326059 tw8553189166036067136 tw14520319865260299950 tw16180622377076750324 tw17179579515713585263 tw7416805090027854941 tw16799742577660406129 tw6392042369170769605 tw8977767530370147108 tw17685542291105657843 tw16800973779121933055 tw3404770729673349248 tw10206225558907616606 tw13872609474801010062 tw6567384125956127621 tw8100289776596419905 tw9681358652122728857 tw5502252570961796451 tw11479159567708432592 tw2931246544088397360 tw685896551957649558 tw6713973656572451758 tw4494786849248998664 tw2026038818140142376 tw6991874577767967812 tw9944812094761632741 tw15501826668728329272 tw17698862561581483260 tw511892675956972142 tw4487743807797018603 tw12468689511956357201 tw12515151572490526990 tw572620297294476026 tw12810742255682108006 tw11451288762613651569 tw18111205763040368659 tw17296843946795489791 tw11347390369840062108 tw14251435657215524557 tw8234474703669702665 tw10428577564857366207 tw6619918169364790196 tw5999074709358690820 tw14466806367940867284 tw5567882634623183614 tw12617196788340851212 tw13819322537991432064 tw14437132327370419264 tw2397649967983147621 tw3368251341114555973 tw17742384270815135318 tw16744462496324434361 tw18353244162503843527 tw5852299015903992366 tw15734069435111626721 tw11843319383231855502 tw13857198821667556991 tw325798888419464506 tw14486843454229000470 tw14752831128531371300 tw11296701646529479572 tw11729319050988307192 tw7852431971271451902 tw17093642367504916984 tw17375901801531252504 tw8868006370052034639 tw3607163188353131393 tw12198596844363930853:True)
open PySem PySem.W PyProof.Rows
local macro_rules | `(tactic| walk_at "k")=>`(tactic| (refine' Mine.all_di ?a ?b ?c ?d;(case a=>k_is);(case b=>k_is);(case c=>k_is);(case d=>k_is)))
local macro_rules | `(tactic| walk_at "l")=>`(tactic| (refine' Mine.all_dm ?a ?e ?b ?c ?d;(case a=>k_is);(case e=>k_is);(case b=>k_is);(case c=>k_is);(case d=>k_is)))
set_option maxRecDepth 100000 in
set_option maxHeartbeats 0 in
theorem PySem.Challenge.cw_flips_k91_whole_asks_against_sums_holds : PySem.Challenge.rw_flips_k91_whole_asks_against_sums.Holds := by
 w_on;o_law;k_head;(case hw=>w_witness2)
 k_fill
 refine Mine.walk (l:=PySem.Challenge.rw_flips_k91_whole_asks_against_sums) rfl rfl (fun w h Y=>PySem.W.km_in_of Y) ?F
 case F =>
  intro w mg fa h Y KX G hmg
  refine' Mine.all_mk KX G hmg ?aC_Bearing ?pg_Bearing ?hd_Bearing ?po_Bearing ?sa_Bearing ?zX ?kc_Bearing ?na_yeses_Bearing ?na_numbers_Bearing ?na_found_Bearing ?aC_Reckoner ?pg_Reckoner ?hd_Reckoner ?po_Reckoner ?sa_Reckoner ?zW ?kc_Reckoner ?na_labels_Reckoner ?na_yeses_Reckoner ?na_alike_Reckoner ?na_known_Reckoner ?i0 ?i1 ?i2 ?i3 ?i4 ?i5 ?i6 ?i7 ?i8 ?i9 ?i10 ?i11 ?i12 ?i13 ?i14 ?i15 ?i16 ?i17 ?i18 ?i19 ?a20 ?i20 ?l20 ?c20 ?k20 ?lc20 ?pv20 ?gh20 ?gt20 ?i21 ?i22 ?i23 ?i24 ?i25 ?i26 ?i27 ?i28 ?i29 ?i30 ?i31 ?i32 ?i33 ?i34 ?i35 ?i36 ?i37 ?i38 ?i39 ?i40 ?i41 ?i42 ?a43 ?l43 ?c43 ?k43 ?lc43 ?pv43 ?gh43 ?gt43 ?i44 ?i45 ?i46 ?i47 ?i48 ?i49 ?i50 ?i51 ?i52 ?i53 ?i54 ?i55 ?i56 ?i57 ?a58 ?l58 ?c58 ?k58 ?yf ?yp ?yd ?zN ?yc ?zJ ?zR ?ye ?ya ?yh ?zH ?yg ?zZ ?yo ?zM ?yn ?zT ?zP ?hnt ?np_0
  (case aC_Bearing | pg_Bearing | hd_Bearing | po_Bearing | sa_Bearing | zX | kc_Bearing | na_yeses_Bearing | na_numbers_Bearing | na_found_Bearing | aC_Reckoner | pg_Reckoner | hd_Reckoner | po_Reckoner | sa_Reckoner | zW | kc_Reckoner | na_labels_Reckoner | na_yeses_Reckoner | na_alike_Reckoner | na_known_Reckoner | a20 | i20 | l20 | c20 | k20 | lc20 | a43 | l43 | c43 | k43 | lc43 | a58 | l58 | c58 | k58 | yf | yp | yd | zN | yc | zJ | zR | ye | ya | yh | zH | yg | zZ | yo | zM | yn | zT | zP=>k_is)
  (case i0=>walk_at "k")
  (case i1=>walk_at "k")
  (case i2=>walk_at "k")
  (case i3=>walk_at "k")
  (case i4=>walk_at "k")
  (case i5=>walk_at "k")
  (case i6=>walk_at "k")
  (case i7=>walk_at "k")
  (case i8=>walk_at "k")
  (case i9=>walk_at "l")
  (case i10=>walk_at "l")
  (case i11=>walk_at "l")
  (case i12=>walk_at "l")
  (case i13=>walk_at "l")
  (case i14=>walk_at "l")
  (case i15=>walk_at "l")
  (case i16=>walk_at "l")
  (case i17=>walk_at "l")
  (case i18=>walk_at "l")
  (case i19=>walk_at "l")
  (case pv20=>rfl)
  (case gh20=>kernel_rfl)
  (case gt20=>exact PySem.W.km_tabs_of Y _ (by k_mem))
  (case i21=>walk_at "k")
  (case i22=>walk_at "k")
  (case i23=>walk_at "k")
  (case i24=>walk_at "k")
  (case i25=>walk_at "k")
  (case i26=>walk_at "k")
  (case i27=>walk_at "k")
  (case i28=>walk_at "k")
  (case i29=>walk_at "k")
  (case i30=>walk_at "k")
  (case i31=>walk_at "k")
  (case i32=>walk_at "k")
  (case i33=>walk_at "k")
  (case i34=>walk_at "k")
  (case i35=>walk_at "k")
  (case i36=>walk_at "l")
  (case i37=>walk_at "l")
  (case i38=>walk_at "l")
  (case i39=>walk_at "l")
  (case i40=>walk_at "l")
  (case i41=>walk_at "k")
  (case i42=>walk_at "k")
  (case pv43=>rfl)
  (case gh43=>kernel_rfl)
  (case gt43=>exact PySem.W.km_tabs_of Y _ (by k_mem))
  (case i44=>walk_at "k")
  (case i45=>walk_at "k")
  (case i46=>walk_at "k")
  (case i47=>walk_at "k")
  (case i48=>walk_at "k")
  (case i49=>walk_at "k")
  (case i50=>walk_at "k")
  (case i51=>walk_at "k")
  (case i52=>walk_at "k")
  (case i53=>walk_at "k")
  (case i54=>walk_at "k")
  (case i55=>walk_at "k")
  (case i56=>walk_at "k")
  (case i57=>walk_at "k")
  (case hnt=>kernel_rfl)
  (case np_0=>first | decide | exact fun z=>nomatch z)
