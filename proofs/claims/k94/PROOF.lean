import PyProof.Rows.All
import Wide.All
import OpenK.AllK
import Wide.FinOn
import Lean
import PyProof.EqAt
import PyProof.EqKinds
import PyProof.TupleCall
import PyProof.NeKinds
import PyProof.ReprRoads
import PyProof.ReprBulk
import PyProof.Draws
import PyProof.EnumMake
import KE.BitLaws
import PyProof.ListIndex
import PyProof.AttrMissHeap
import PyProof.DictUpdate
import KE.KDictOf
import PyProof.FactsAll.enumerate_1
import PyProof.FactsAll.tuple_2
import PyProof.ListMulRoad
import PyProof.ListRange
import PyProof.FactsAll.list_3
import PyProof.Rows.SortWalk
import PyProof.Rows.MinMaxN
import KE.KEqDict
import KE.KDictSum
import PyProof.WalksMore
import PyProof.Rows.SetFrom
import PyProof.SetRoads
import PyProof.FactsAll.set_1
import KE.KItemsList
import KE.KSortTup
import KE.KLam
import PyProof.FactsAll.dict_1
import PyProof.StrBlockH
import PyProof.StrLawsTight
import PyProof.StrLawsOccR
import PyProof.StrLawsJoin
import PyProof.StationsW
import PyProof.NsDelKeeps
import PyProof.RulesAs
import PyProof.ExcInit
import KE.KTryMore
import PyProof.ExcClass3
import PyProof.ExcBaseAll.ValueError
import OpenK.KOwn
import PyProof.ExcArgsOwn
import PyProof.InstStoreFacts
import PyProof.FactsAll.tuple_2
import PyProof.FactsAll.tuple_3
import PyProof.TupleOfStr
import KE.KMinKey
import PyProof.FactsAll.list_4
import PyProof.StrCalls
import PyProof.Rows.StrSplitMax
import PySem.Challenge.RW_flips_k94_whole_called_otherwise
set_option Elab.async false
set_option linter.all false
set_option compiler.extract_closed false
set_option bootstrap.genMatcherCode false
set_option maxRecDepth 100000
set_option maxHeartbeats 0
section
open PySem PySem.Spec PyProof.Rows PySem.W
theorem ZBA:type_of% @PySem.wpAny_bind:=@PySem.wpAny_bind
theorem ZBB:type_of% @List.length_map:=@List.length_map
theorem ZBC:type_of% @PySem.wpAny_pure:=@PySem.wpAny_pure
theorem ZBD:type_of% @Nat.le_refl:=@Nat.le_refl
theorem ZBE:type_of% @List.getElem?_eq_getElem:=@List.getElem?_eq_getElem
theorem ZBF:type_of% @PySem.Heap.lt_size:=@PySem.Heap.lt_size
theorem ZBG:type_of% @PySem.Heap.get?_push_of_some:=@PySem.Heap.get?_push_of_some
theorem ZBH:type_of% @List.map_append:=@List.map_append
theorem ZBI:type_of% @List.mem_cons:=@List.mem_cons
theorem ZBJ:type_of% @List.getElem?_map:=@List.getElem?_map
theorem ZBK:type_of% @decide_eq_true:=@decide_eq_true
theorem ZBL:type_of% @Nat.pow_le_pow_right:=@Nat.pow_le_pow_right
theorem ZBM:type_of% @List.size_toArray:=@List.size_toArray
theorem ZBN:type_of% @List.mem_map:=@List.mem_map
theorem ZBO:type_of% @List.getD_eq_getElem?_getD:=@List.getD_eq_getElem?_getD
theorem ZBP:type_of% @PySem.Heap.get?_push_size:=@PySem.Heap.get?_push_size
theorem ZBQ:type_of% @Option.some.inj:=@Option.some.inj
theorem ZBR:type_of% @Nat.ne_of_lt:=@Nat.ne_of_lt
theorem ZBS:type_of% @List.length_append:=@List.length_append
theorem ZBT:type_of% @Nat.zero_le:=@Nat.zero_le
theorem ZBU:type_of% @List.map_cons:=@List.map_cons
theorem ZBV:type_of% @List.mem_range:=@List.mem_range
theorem ZBW:type_of% @List.getElem?_eq_some_iff:=@List.getElem?_eq_some_iff
theorem ZBX:type_of% @List.mem_singleton:=@List.mem_singleton
theorem ZBY:type_of% @of_decide_eq_true:=@of_decide_eq_true
theorem ZBZ:type_of% @Nat.lt_of_lt_of_le:=@Nat.lt_of_lt_of_le
theorem ZBa:type_of% @Nat.lt_irrefl:=@Nat.lt_irrefl
theorem ZBb:type_of% @Bool.and_eq_true:=@Bool.and_eq_true
theorem ZBc:type_of% @List.length_range:=@List.length_range
theorem ZBd:type_of% @List.mem_cons_of_mem:=@List.mem_cons_of_mem
theorem ZBe:type_of% @List.mem_append_right:=@List.mem_append_right
theorem ZBf:type_of% @Nat.pow_succ:=@Nat.pow_succ
theorem ZBg:type_of% @List.map_map:=@List.map_map
theorem ZBh:type_of% @List.mem_cons_self:=@List.mem_cons_self
theorem ZBi:type_of% @List.length_take:=@List.length_take
theorem ZBj:type_of% @Int.toNat_natCast:=@Int.toNat_natCast
theorem ZBk:type_of% @List.mem_nil_iff:=@List.mem_nil_iff
theorem ZBl:type_of% @List.take_add_one:=@List.take_add_one
theorem ZBm:type_of% @Array.length_toList:=@Array.length_toList
theorem ZBn:type_of% @Nat.two_pow_pos:=@Nat.two_pow_pos
theorem ZBo:type_of% @decide_eq_false:=@decide_eq_false
theorem ZBp:type_of% @List.mem_filter:=@List.mem_filter
theorem ZBq:type_of% @Nat.le_trans:=@Nat.le_trans
theorem ZBr:type_of% @PySem.wpAny_holding:=@PySem.wpAny_holding
theorem ZBs:type_of% @List.append_nil:=@List.append_nil
theorem ZBt:type_of% @PySem.wpAny_mono:=@PySem.wpAny_mono
theorem ZBu:type_of% @Nat.lt_succ_self:=@Nat.lt_succ_self
theorem ZBv:type_of% @Bool.eq_iff_iff:=@Bool.eq_iff_iff
theorem ZBw:type_of% @List.range_succ:=@List.range_succ
theorem ZBx:type_of% @List.getElem?_range:=@List.getElem?_range
theorem ZBy:type_of% @Nat.le_of_lt:=@Nat.le_of_lt
theorem ZBz:type_of% @Bool.false_ne_true:=@Bool.false_ne_true
theorem ZB0:type_of% @List.take_of_length_le:=@List.take_of_length_le
theorem ZB1:type_of% @PySem.wpAny_call_entry:=@PySem.wpAny_call_entry
theorem ZB2:type_of% @PySem.Heap.SameBut.update:=@PySem.Heap.SameBut.update
theorem ZB3:type_of% @List.mem_of_getElem?:=@List.mem_of_getElem?
theorem ZB4:type_of% @Nat.mul_comm:=@Nat.mul_comm
theorem ZB5:type_of% @Bool.false_xor:=@Bool.false_xor
theorem ZB6:type_of% @Nat.lt_succ_of_lt:=@Nat.lt_succ_of_lt
theorem ZB7:type_of% @PySem.wpAny_ite_split:=@PySem.wpAny_ite_split
theorem ZB8:type_of% @PySem.Heap.size_push:=@PySem.Heap.size_push
theorem ZB9:type_of% @PySem.wpAny_newObj_type:=@PySem.wpAny_newObj_type
theorem ZCA:type_of% @Nat.testBit_and:=@Nat.testBit_and
theorem ZCB:type_of% @List.mem_append:=@List.mem_append
theorem ZCC:type_of% @List.map_congr_left:=@List.map_congr_left
theorem ZCD:type_of% @List.getElem_of_mem:=@List.getElem_of_mem
theorem ZCE:type_of% @List.sum_cons:=@List.sum_cons
theorem ZCF:type_of% @List.length_cons:=@List.length_cons
theorem ZCG:type_of% @List.lookup_cons:=@List.lookup_cons
theorem ZCH:type_of% @Nat.lt_trans:=@Nat.lt_trans
theorem ZCI:type_of% @List.pairwise_map:=@List.pairwise_map
theorem ZCJ:type_of% @List.take_length:=@List.take_length
theorem ZCK:type_of% @List.mem_append_left:=@List.mem_append_left
theorem ZCL:type_of% @List.getElem_mem:=@List.getElem_mem
theorem ZCM:type_of% @PySem.wpAny_setField:=@PySem.wpAny_setField
theorem ZCN:type_of% @Nat.lt_or_ge:=@Nat.lt_or_ge
theorem ZCO:type_of% @PySem.wpAny_truthy_bool:=@PySem.wpAny_truthy_bool
theorem ZCP:type_of% @PySem.wpAny_field:=@PySem.wpAny_field
theorem ZCQ:type_of% @Int.zero_add:=@Int.zero_add
theorem ZCR:type_of% @List.filter_append:=@List.filter_append
theorem ZCS:type_of% @Nat.le_succ:=@Nat.le_succ
theorem ZCT:type_of% @List.all_eq_true:=@List.all_eq_true
theorem ZCU:type_of% @Nat.le_add_right:=@Nat.le_add_right
theorem ZCV:type_of% @Bool.false_eq_true:=@Bool.false_eq_true
theorem ZCW:type_of% @List.getElem?_eq_none:=@List.getElem?_eq_none
theorem ZCX:type_of% @Nat.pow_lt_pow_right:=@Nat.pow_lt_pow_right
theorem ZCY:type_of% @List.any_eq_true:=@List.any_eq_true
theorem ZCZ:type_of% @PySem.codeAny_builtin:=@PySem.codeAny_builtin
theorem ZCa:type_of% @PySem.plainId_quiet:=@PySem.plainId_quiet
theorem ZCb:type_of% @Int.ofNat_le:=@Int.ofNat_le
theorem ZCc:type_of% @Bool.true_and:=@Bool.true_and
theorem ZCd:type_of% @Option.map_some:=@Option.map_some
theorem ZCe:type_of% @PySem.wpAny_standAt:=@PySem.wpAny_standAt
theorem ZCf:type_of% @Nat.le_of_eq:=@Nat.le_of_eq
theorem ZCg:type_of% @PySem.codeAny_mono:=@PySem.codeAny_mono
theorem ZCh:type_of% @List.nodup_cons:=@List.nodup_cons
theorem ZCi:type_of% @List.length_replicate:=@List.length_replicate
theorem ZCj:type_of% @List.append_assoc:=@List.append_assoc
theorem ZCk:type_of% @Nat.and_le_left:=@Nat.and_le_left
theorem ZCl:type_of% @Nat.testBit_lt_two_pow:=@Nat.testBit_lt_two_pow
theorem ZCm:type_of% @Nat.eq_of_testBit_eq:=@Nat.eq_of_testBit_eq
theorem ZCn:type_of% @Nat.lt_trichotomy:=@Nat.lt_trichotomy
theorem ZCo:type_of% @PySem.Around.under_plainId:=@PySem.Around.under_plainId
theorem ZCp:type_of% @Array.getElem?_eq_getElem:=@Array.getElem?_eq_getElem
theorem ZCq:type_of% @List.length_filter_le:=@List.length_filter_le
theorem ZCr:type_of% @Nat.testBit_xor:=@Nat.testBit_xor
theorem ZCs:type_of% @Int.mul_one:=@Int.mul_one
theorem ZCt:type_of% @List.getElem?_append_right:=@List.getElem?_append_right
theorem ZCu:type_of% @List.getElem?_append_left:=@List.getElem?_append_left
theorem ZCv:type_of% @PySem.Heap.get?_update_self:=@PySem.Heap.get?_update_self
theorem ZCw:type_of% @PySem.Heap.get?_update_other:=@PySem.Heap.get?_update_other
theorem ZCx:type_of% @List.any_cons:=@List.any_cons
theorem ZCy:type_of% @Array.getElem?_toList:=@Array.getElem?_toList
theorem ZCz:type_of% @Nat.add_comm:=@Nat.add_comm
theorem ZC0:type_of% @Nat.lt_of_le_of_lt:=@Nat.lt_of_le_of_lt
theorem ZC1:type_of% @Int.natCast_pow:=@Int.natCast_pow
theorem ZC2:type_of% @Int.eq_ofNat_of_zero_le:=@Int.eq_ofNat_of_zero_le
theorem ZC3:type_of% @List.find?_cons:=@List.find?_cons
theorem ZC4:type_of% @Int.le_trans:=@Int.le_trans
theorem ZC5:type_of% @List.filterMap_cons:=@List.filterMap_cons
theorem ZC6:type_of% @Nat.ne_of_gt:=@Nat.ne_of_gt
theorem ZC7:type_of% @List.map_nil:=@List.map_nil
theorem ZC8:type_of% @Nat.not_lt_zero:=@Nat.not_lt_zero
theorem ZC9:type_of% @Nat.le_of_succ_le:=@Nat.le_of_succ_le
theorem ZDA:type_of% @Int.natCast_nonneg:=@Int.natCast_nonneg
theorem ZDB:type_of% @List.pairwise_cons:=@List.pairwise_cons
theorem ZDC:type_of% @PySem.wpAny_tryCatch:=@PySem.wpAny_tryCatch
theorem ZDD:type_of% @Bool.false_and:=@Bool.false_and
theorem ZDE:type_of% @List.reverse_cons:=@List.reverse_cons
theorem ZDF:type_of% @List.replicate_succ:=@List.replicate_succ
theorem ZDG:type_of% @Bool.and_false:=@Bool.and_false
theorem ZDH:type_of% @Nat.le_succ_of_le:=@Nat.le_succ_of_le
theorem ZDI:type_of% @Int.natAbs_natCast:=@Int.natAbs_natCast
theorem ZDJ:type_of% @List.mem_filterMap:=@List.mem_filterMap
theorem ZDK:type_of% @Option.isSome_iff_exists:=@Option.isSome_iff_exists
theorem ZDL:type_of% @List.getElem?_replicate:=@List.getElem?_replicate
theorem ZDM:type_of% @List.length_singleton:=@List.length_singleton
theorem ZDN:type_of% @List.getElem_toArray:=@List.getElem_toArray
theorem ZDO:type_of% @Int.lt_of_le_of_lt:=@Int.lt_of_le_of_lt
theorem ZDP:type_of% @Array.getElem?_eq_some_iff:=@Array.getElem?_eq_some_iff
theorem ZDQ:type_of% @List.drop_eq_getElem_cons:=@List.drop_eq_getElem_cons
theorem ZDR:type_of% @Option.map_eq_some_iff:=@Option.map_eq_some_iff
theorem ZDS:type_of% @Nat.eq_zero_or_pos:=@Nat.eq_zero_or_pos
theorem ZDT:type_of% @Array.toList_append:=@Array.toList_append
theorem ZDU:type_of% @List.pairwise_lt_range:=@List.pairwise_lt_range
theorem ZDV:type_of% @List.eraseIdx_eq_take_drop_succ:=@List.eraseIdx_eq_take_drop_succ
theorem ZDW:type_of% @List.length_eq_zero_iff:=@List.length_eq_zero_iff
theorem ZDX:type_of% @Int.emod_lt_of_pos:=@Int.emod_lt_of_pos
theorem ZDY:type_of% @List.length_pos_of_mem:=@List.length_pos_of_mem
theorem ZDZ:type_of% @Nat.testBit_eq_decide_div_mod_eq:=@Nat.testBit_eq_decide_div_mod_eq
end
namespace L2
open PySem PySem.Spec PyProof.Rows
variable {us:List Value}{x:Str}{u:Value}{H:Hp}{C a b:Addr}{o:HO}{P:Program}{w:World}{h:Heap}{i k t':Nat}{A:Around}{E Q:Value->Shared->Prop}{v:V}{s:Shared}{pos:Pos}{El:List (Addr×Obj)}{Z:St}{K:W.Frag}
noncomputable abbrev Key:=Sum Int Str
noncomputable def D2:Key->Value->Bool
 | .inl k,v=>Value.isInt k v
 | .inr x,v=>Value.isStrOf x v
noncomputable def Vw(w:World):Key->Int
 | .inl k=>hashInt k
 | .inr x=>hashStr w x
theorem keyIs_shape:∀{k:Key} {v:Value},D2 k v=true->(∃i t,k=Sum.inl i/\v=Value.int i t)\/(∃x t,k=Sum.inr x/\v=Value.str x t)
 | .inl i,v,h=>by
  obtain⟨t,e⟩:=Value.isInt_shape (k:=i) (v:=v) h;exact .inl ⟨i,t,rfl,e⟩
 | .inr x,v,h=>by
  obtain⟨t,e⟩:=Value.isStrOf_shape (x:=x) (v:=v) h;exact .inr ⟨x,t,rfl,e⟩
theorem Y6(i:Int)(t:Tok):D2 (.inl i) (.int i t)=true:=by simp[D2,Value.isInt]
theorem Yf(x:Str)(t:Tok):D2 (.inr x) (.str x t)=true:=by simp[D2,Value.isStrOf]
theorem Wk(a b:Int):decide ((Sum.inl a:Key)=Sum.inl b)=(a==b):=by
 by_cases e:a=b
 ·subst e;simp
 ·have h:¬(Sum.inl a:Key)=Sum.inl b:=λq=>e (Sum.inl.inj q)
  rw[ZBo h];exact(beq_eq_false_iff_ne.mpr e).symm
theorem Tc(a b:Str):decide ((Sum.inr a:Key)=Sum.inr b)=decide (a=b):=by
 by_cases e:a=b
 ·subst e;simp
 ·have h:¬(Sum.inr a:Key)=Sum.inr b:=λq=>e (Sum.inr.inj q)
  rw[ZBo h,ZBo e]
theorem WN(a:Int)(b:Str):decide ((Sum.inl a:Key)=Sum.inr b)=false:=ZBo (λq=>nomatch q)
theorem Wv(a:Str)(b:Int):decide ((Sum.inr a:Key)=Sum.inl b)=false:=ZBo (λq=>nomatch q)
noncomputable def Bp(prog:Program)(w:World):PySem.KeyKind prog w Key where
 is:=D2
 hash:=Vw w
 inj:=λv a b ha l=>by
  rcases keyIs_shape ha with ⟨i,t,rfl,rfl⟩ | ⟨x,t,rfl,rfl⟩
  ·rcases keyIs_shape l with ⟨j,u,rfl,e⟩ | ⟨y,u,rfl,e⟩
   ·injection e with f _;rw[f]
   ·exact nomatch e
  ·rcases keyIs_shape l with ⟨j,u,rfl,e⟩ | ⟨y,u,rfl,e⟩
   ·exact nomatch e
   ·injection e with f _;rw[f]
 byValue:=λk v h=>by
  rcases keyIs_shape h with ⟨i,t,rfl,rfl⟩ | ⟨x,t,rfl,rfl⟩ <;> rfl
 pyHash:=λg h=>by
  rcases keyIs_shape g with ⟨i,t,rfl,rfl⟩ | ⟨x,t,rfl,rfl⟩
  ·exact wpAny_pyHash_int h
  ·exact wpAny_pyHash_str h
 eqBool:=λhu g h=>by
  rcases keyIs_shape hu with ⟨i,t,rfl,rfl⟩ | ⟨x,t,rfl,rfl⟩
  ·rcases keyIs_shape g with ⟨j,u,rfl,rfl⟩ | ⟨y,u,rfl,rfl⟩
   ·rw[Wk]at h;exact wpAny_eqBool_int h
   ·rw[WN]at h;exact SeqAt.EqAt.int_str i t y u _ _ _ _ h
  ·rcases keyIs_shape g with ⟨j,u,rfl,rfl⟩ | ⟨y,u,rfl,rfl⟩
   ·rw[Wv]at h;exact SeqAt.EqAt.str_int x t j u _ _ _ _ h
   ·rw[Tc]at h;exact wpAny_eqBool_str h
 «strs»:=λk x t v h=>by
  rcases keyIs_shape h with ⟨i,u,rfl,e⟩ | ⟨y,u,rfl,e⟩
  ·exact nomatch e
  ·injection e with f _
   subst f;cases v <;> rfl
theorem Uz(prog:Program)(w:World)(i:Int)(t:Tok):(Bp prog w).is (.inl i) (.int i t)=true:=Y6 i t
theorem WA(prog:Program)(w:World)(x:Str)(t:Tok):(Bp prog w).is (.inr x) (.str x t)=true:=Yf x t
inductive V where
 | non | bl (b:Bool) | int (i:Int) | str (x:Str) | byt (b:Array UInt8) | flt (b:UInt64) | ref (a:Addr) | ty (n:String)
 deriving DecidableEq
noncomputable def zi:V->Value->Prop
 | .non,u=>u=Value.none
 | .bl b,u=>u=Value.bool b
 | .int i,u=>∃t,u=Value.int i t
 | .str x,u=>∃t,u=Value.str x t
 | .byt b,u=>∃t,u=Value.bytes b t
 | .flt b,u=>∃t,u=Value.float b t
 | .ref a,u=>u=Value.ref a
 | .ty n,u=>u=Value.type n
noncomputable abbrev zh:List V->List Value->Prop:=Paired zi
theorem zh.length{xs:List V}(r:zh xs us):xs.length=us.length:=Paired.length r
theorem zh.get:∀{xs:List V} {us:List Value} {i:Nat} {x:V},zh xs us->xs[i]?=some x->∃u,us[i]?=some u/\zi x u
 | _,_,_,_,.nil,e=>by simp at e
 | _,_,0,_,.cons r _,e=>by simp at e;subst e;exact⟨_,rfl,r⟩
 | _,_,i+1,x,.cons _ t,e=>by
  obtain⟨u,h1,h2⟩:=zh.get (i:=i) (x:=x) t (by simpa using e);exact⟨u,by simpa using h1,h2⟩
theorem zh.set{x:V}(r:zi x u):∀{xs:List V} {us:List Value} (i:Nat),zh xs us->zh (xs.set i x) (us.set i u)
 | _,_,_,.nil=>.nil
 | _,_,0,.cons _ t=>.cons r t
 | _,_,i+1,.cons q t=>.cons q (zh.set r i t)
theorem zh.append:∀{xs ys:List V} {us ws:List Value},zh xs us->zh ys ws->zh (xs++ys) (us++ws)
 | _,_,_,_,.nil,s=>s
 | _,_,_,_,.cons r t,s=>.cons r (zh.append t s)
theorem zh.take:∀{xs:List V} {us:List Value} (n:Nat),zh xs us->zh (xs.take n) (us.take n)
 | _,_,0,_=>.nil
 | _,_,_+1,.nil=>.nil
 | _,_,n+1,.cons r t=>.cons r (zh.take n t)
noncomputable def RelO:Option V->Option Value->Prop
 | some v,some u=>zi v u
 | none,none=>True
 | _,_=>False
noncomputable def KV{κ:Type}:List (κ×V)->List (κ×Value)->Prop:=Paired λ(p:κ×V) (q:κ×Value)=>p.1=q.1/\zi p.2 q.2
noncomputable def kV:Key->V
 | .inl i=>.int i
 | .inr x=>.str x
inductive HO where
 | lst (xs:List V)
 | tup (xs:List V)
 | dK (ze:List (Key×V)) | dT (ze:List (List Key×V))
 | set (S:Int->Bool) (n:Nat)
 | ins (C dx:Addr) (fs:List (Str×V))
 | own (x:Addr)
 | xd (fs:List (Str×V))
 | met (f x:Addr)
 | rng (lo hi:Int)
 | frz (o:Obj) (u:HO)
 | tbl (ps:Array Value)
 | ext (φ:Heap->Prop)
noncomputable abbrev Hp:=Addr->Option HO
noncomputable def upd(H:Hp)(a:Addr)(o:HO):Hp:=λb=>if b=a then some o else H b
theorem AF:upd H a o a=some o:=by unfold upd;rw[if_pos rfl]
theorem AR(h:b≠a):upd H a o b=H b:=by unfold upd;rw[if_neg h]
theorem B7{u:HO}(h:H a=some o)(h':H b=some u)(d:o≠u):a≠b:=by
 intro e;subst e;rw[h]at h';exact d (ZBQ h')
theorem By(h:H a=some o)(h':H b=none):a≠b:=by
 intro e;subst e;rw[h]at h';cases h'
def IsTupN(h:Heap)(a:Addr)(items:Array Value):Prop:=∃o,h.get? a=some o/\o.cls=.type "tuple" /\ (∃n,o.data=.seq items n)/\o.dict=none
theorem IsTupN.tup{h:Heap}{a:Addr}{items:Array Value}(x:IsTupN h a items):PyProof.Rows.IsTup h a items:=by
 obtain⟨o,e,c,d,_⟩:=x;exact⟨o,e,c,d⟩
theorem IsTupN.new(h:Heap)(items:Array Value):IsTupN (h.push { cls:=.type "tuple",data:=.seq items }) h.objs.size items:=⟨_,ZBP _ rfl,rfl,⟨_,rfl⟩,rfl⟩
section
variable (P:Program)(w:World)
noncomputable def ObjOk(H:Hp)(h:Heap)(a:Addr):HO->Prop
 | .lst xs=>xs.length<=sizeLine/\∃(zc:List Value) (n:Nat),zh xs zc/\h.get? a=some { cls:=.type "list",data:=.seq zc.toArray n }
 | .tup xs=>xs.length<=sizeLine/\∃zc:List Value,zh xs zc/\IsTupN h a zc.toArray
 | .dK ze=>ze.length<=sizeLine/\(a==sysModules)=false/\∃vs,KV ze vs/\h.DictOf (Bp P w) a vs
 | .dT ze=>ze.length<=sizeLine/\(a==sysModules)=false/\∃xs:List (List Key×Addr×Value),
  Paired (λ(p:List Key×V) (q:List Key×Addr×Value)=>p.1=q.1/\H q.2.1=some (.tup (p.1.map kV))/\zi p.2 q.2.2) ze xs /\
  ∃o es g,h.get? a=some o/\o.ExactDict/\o.data=.dict es g/\es.toList=xs.map (entryOfKey (tupleKind (Bp P w)))/\(xs.map (·.1)).Nodup
 | .set S n=>h.SetOf (intKind P w) a S n
 | .ins C dx fs=>H dx=some (.own a)/\fs.length<=1000/\dx≠a/\h.get? a=some (PySem.W.instObj C dx) /\
  ∃mA,h.Ns1 dx mA/\(∀f,RelO (fs.lookup f) (mA f))/\PySem.Within mA (fs.map (·.1))
 | .own _=>∃o,h.get? a=some o
 | .xd fs=>∃mA,h.Ns1 a mA/\∀f,RelO (fs.lookup f) (mA f)
 | .rng lo hi=>∃t u v,h.get? a=some { cls:=.type "range",data:=.fields #[.int lo t,.int hi u,.int 1 v] }
 | .frz o u=>h.get? a=some o/\ObjOk H h a u
 | .tbl ps=>h.get? a=some { cls:=.none,data:=.fields ps }
 | .met f x=>h.get? a=some (PySem.W.methodObj (.ref f) (.ref x))
 | .ext φ=>φ h/\(∃o,h.get? a=some o)/\∀h1 h2:Heap,φ h1->(∀o,h1.get? a=some o->h2.get? a=some o)->φ h2
def HOk(H:Hp)(h:Heap):Prop:=∀a o,H a=some o->ObjOk P w H h a o
end
section
variable {P:Program}{w:World}{H H':Hp}{h h':Heap}{a:Addr}{o:HO}
theorem ObjOk.lt(x:ObjOk P w H h a o):a<h.objs.size:=by
 cases o with
 | lst xs=>obtain⟨_,_,_,_,e⟩:=x;exact ZBF e
 | tup xs=>obtain⟨_,_,_,p⟩:=x;exact p.tup.lt
 | dK ze=>obtain⟨_,_,_,_,o,_,_,e,_⟩:=x;exact ZBF e
 | dT ze=>obtain⟨_,_,_,_,o,_,_,e,_⟩:=x;exact ZBF e
 | set S n=>obtain⟨o,_,_,_,e,_⟩:=x;exact ZBF e
 | ins C dx fs=>obtain⟨_,_,_,e,_⟩:=x;exact ZBF e
 | own y=>obtain⟨_,e⟩:=x;exact ZBF e
 | xd fs=>obtain⟨_,⟨_,_,_,e,_⟩,_⟩:=x;exact ZBF e
 | rng lo hi=>obtain⟨_,_,_,e⟩:=x;exact ZBF e
 | frz g u=>obtain⟨e,_⟩:=x;exact ZBF e
 | tbl ps=>exact ZBF (show h.get? a=some _ from x)
 | met f y=>exact ZBF (show h.get? a=some _ from x)
 | ext φ=>obtain⟨_,⟨_,e⟩,_⟩:=x;exact ZBF e
theorem Paired.mapP{α β:Type}{F G:α->β->Prop}:∀{z:List α} {O:List β},Paired F z O->(∀a b,F a b->G a b)->Paired G z O
 | _,_,.nil,_=>.nil
 | _,_,.cons r t,f=>.cons (f _ _ r) (Paired.mapP t f)
theorem ObjOk.stay (x:ObjOk P w H h a o) (k:∀b u,(b=a\/H b=some (.own a))->h.get? b=some u->h'.get? b=some u)
 (G:∀b,H b=some (.own a)->H' b=some (.own a)) (O:∀b xs,H b=some (.tup xs)->H' b=some (.tup xs)):ObjOk P w H' h' a o:=by
 induction o with
 | lst xs=>obtain⟨z,zc,n,r,e⟩:=x;exact⟨z,zc,n,r,k _ _ (.inl rfl) e⟩
 | tup xs=>obtain⟨z,zc,r,g,e,c⟩:=x;exact⟨z,zc,r,g,k _ _ (.inl rfl) e,c⟩
 | dK ze=>obtain⟨z,y,vs,r,g,es,i,e,c⟩:=x;exact⟨z,y,vs,r,g,es,i,k _ _ (.inl rfl) e,c⟩
 | dT ze =>
  obtain⟨z,y,xs,r,g,es,i,e,c⟩:=x;exact⟨z,y,xs,Paired.mapP r λp q z=>⟨z.1,O _ _ z.2.1,z.2.2⟩,g,es,i,k _ _ (.inl rfl) e,c⟩
 | set S n=>obtain⟨g,es,i,t,e,c⟩:=x;exact⟨g,es,i,t,k _ _ (.inl rfl) e,c⟩
 | ins C dx fs =>
  obtain⟨d,z,ne,e,mA,⟨od,es,i,e2,c⟩,r⟩:=x;exact⟨G _ d,z,ne,k _ _ (.inl rfl) e,mA,⟨od,es,i,k _ _ (.inr d) e2,c⟩,r⟩
 | own y=>obtain⟨g,e⟩:=x;exact⟨g,k _ _ (.inl rfl) e⟩
 | xd fs=>obtain⟨mA,⟨od,es,i,e,c⟩,r⟩:=x;exact⟨mA,⟨od,es,i,k _ _ (.inl rfl) e,c⟩,r⟩
 | rng lo hi=>obtain⟨t,u,v,e⟩:=x;exact⟨t,u,v,k _ _ (.inl rfl) e⟩
 | frz g u j=>obtain⟨e,q⟩:=x;exact⟨k _ _ (.inl rfl) e,j q⟩
 | tbl ps =>
  have e:h.get? a=some { cls:=.none,data:=.fields ps }:=x;show h'.get? a=some { cls:=.none,data:=.fields ps };exact k a _ (.inl rfl) e
 | met f y =>
  have e:h.get? a=some (PySem.W.methodObj (.ref f) (.ref y)):=x;show h'.get? a=some (PySem.W.methodObj (.ref f) (.ref y));exact k a _ (.inl rfl) e
 | ext φ=>obtain⟨p,⟨o,e⟩,st⟩:=x;exact⟨st _ _ p λo q=>k _ _ (.inl rfl) q,⟨o,k _ _ (.inl rfl) e⟩,st⟩
theorem HOk.lt(x:HOk P w H h)(e:H a=some o):a<h.objs.size:=(x a o e).lt
theorem HOk.fresh(x:HOk P w H h)(e:h.objs.size<=a):H a=none:=by
 cases q:H a with
 | none=>rfl
 | some u=>exact absurd (ZBZ (x.lt q) e) (ZBa _)
theorem HOk.kept(x:HOk P w H h)(k:∀b u,h.get? b=some u->h'.get? b=some u):HOk P w H h':=λa o e =>
 (x a o e).stay (λb u _ q=>k b u q) (λ_ q=>q) λ_ _ q=>q
theorem HOk.laid(x:HOk P w H h)(k:∀b u,h.get? b=some u->h'.get? b=some u)(z:h.objs.size<=a)(new:ObjOk P w (upd H a o) h' a o):HOk P w (upd H a o) h':=λb u e=>by
 have hn:=x.fresh z
 by_cases f:b=a
 ·subst f;rw[AF]at e;cases e;exact new
 ·rw[AR f]at e;exact(x b u e).stay (λc v _ q=>k c v q) (λc q=>by rw[AR (By q hn)];exact q) λc xs q=>by rw[AR (By q hn)];exact q
end
def Rd(H:Hp)(a:Addr)(u:HO):Prop:=H a=some u\/∃o,H a=some (.frz o u)
theorem Rd.of{u:HO}(h:H a=some u):Rd H a u:=.inl h
theorem Rd.ok{u:HO}(r:Rd H a u)(x:HOk P w H h):ObjOk P w H h a u:=by
 rcases r with r | ⟨o,r⟩
 ·exact x a u r
 ·obtain⟨_,q⟩:=x a _ r;exact q
noncomputable def Mut:Option HO->Prop
 | some (.lst _)=>True
 | some (.dK _)=>True
 | some (.dT _)=>True
 | some (.set _ _)=>True
 | some (.ins _ _ _)=>True
 | some (.ext _)=>True
 | _=>False
section
variable {P:Program}{w:World}{H:Hp}{h h':Heap}{x e:Addr}{o':HO}
theorem HOk.write (ok:HOk P w H h) (G:Mut (H x)) (he:e=x\/H e=some (.own x)) (k:∀b u,b≠e->h.get? b=some u->h'.get? b=some u) (O:∃u,h'.get? e=some u)
 (new:ObjOk P w (upd H x o') h' x o'):HOk P w (upd H x o') h':=λb u q=>by
 have g:∀c y,H c=some (.own y)->c≠x:=λc y r z=>by subst z;rw[r]at G;exact G
 have i:∀c xs,H c=some (.tup xs)->c≠x:=λc xs r z=>by subst z;rw[r]at G;exact G
 by_cases j:b=x
 ·subst j;rw[AF]at q;cases q;exact new
 ·rw[AR j]at q
  by_cases f:b=e
  ·have m:H b=some (.own x):=by
    rcases he with z | z
    ·exact absurd (f.trans z) j
    ·rw[f];exact z
   rw[q]at m;cases m;obtain⟨v,n⟩:=O;exact⟨v,by rw[f];exact n⟩
  ·refine(ok b u q).stay (λc v l r=>k c v ?_ r) (λc r=>by rw[AR (g c b r)];exact r) λc xs r=>by rw[AR (i c xs r)];exact r
   rcases l with rfl | l
   ·exact f
   ·rintro rfl
    rcases he with z | z
    ·exact g c b l z
    ·rw[l]at z;cases z;exact j rfl
end
structure Un(fs ex:List Addr)(H H':Hp)(h h':Heap):Prop where
 keep:∀b o,h.get? b=some o->H b=none->b∉fs->b∉ex->h'.get? b=some o
 slot:∀b o,h.get? b=some o->H b=none->b∈fs->b∉ex->∃sl,h'.get? b=some { o with slots:=sl }
 free:∀b o,h.get? b=some o->H b=none->b∉ex->H' b=none
 there:∀b o,h.get? b=some o->b∉ex->∃o',h'.get? b=some o'
 tups:∀b xs,H b=some (.tup xs)->H' b=some (.tup xs)
 frzs:∀b o u,H b=some (.frz o u)->H' b=some (.frz o u)
 tbls:∀b ps,H b=some (.tbl ps)->∃more,H' b=some (.tbl (ps++more))
section
variable {fs fs' ex ex':List Addr}{H H1 H2:Hp}{h h1 h2 h':Heap}{a x e:Addr}{o:HO}
theorem Un.any(u:Un fs ex H H1 h h1){z:Obj}(q:h.get? b=some z)(n:H b=none)(G:b∉ex):∃sl,h1.get? b=some { z with slots:=sl }:=by
 by_cases f:b∈fs
 ·exact u.slot b z q n f G
 ·exact⟨z.slots,u.keep b z q n f G⟩
theorem Un.kept(k:∀b u,h.get? b=some u->h'.get? b=some u):Un fs ex H H h h' :=
 ⟨λb f q _ _ _=>k b f q,λb f q _ _ _=>⟨f.slots,k b f q⟩,λ_ _ _ n _=>n,λb f q _=>⟨f,k b f q⟩,λ_ _ q=>q,λ_ _ _ q=>q,λ_ ps q=>⟨#[],by rw[q];simp⟩⟩
theorem Un.refl:Un fs ex H H h h:=Un.kept λ_ _ q=>q
theorem Un.laid(k:∀b u,h.get? b=some u->h'.get? b=some u)(z:h.objs.size<=a)(hn:H a=none):Un fs ex H (upd H a o) h h' where
 keep:=λb u q _ _ _=>k b u q
 slot:=λb u q _ _ _=>⟨u.slots,k b u q⟩
 free:=λb u q n _=>by rw[AR (ZBR (ZBZ (ZBF q) z))];exact n
 there:=λb u q _=>⟨u,k b u q⟩
 tups:=λb xs q=>by rw[AR (By q hn)];exact q
 frzs:=λb u xs q=>by rw[AR (By q hn)];exact q
 tbls:=λb ps q=>⟨#[],by rw[AR (By q hn),q];simp⟩
theorem Un.write(G:Mut (H x))(he:e=x\/H e=some (.own x))(k:∀b u,b≠e->h.get? b=some u->h'.get? b=some u)(O:∃u,h'.get? e=some u):Un fs ex H (upd H x o) h h':=by
 have i:∀b,H b=none->b≠x:=λb n z=>by subst z;rw[n]at G;exact G
 have g:∀b,H b=none->b≠e:=λb n z=>by
  subst z
  rcases he with r | r
  ·exact i b n r
  ·rw[n]at r;cases r
 have hm:∀b u,H b=some u->¬Mut (some u)->b≠x:=λb u q nm z=>by subst z;rw[q]at G;exact nm G
 refine⟨λb u q n _ _=>k b u (g b n) q,λb u q n _ _=>⟨u.slots,k b u (g b n) q⟩,λb u q n _=>by rw[AR (i b n)];exact n,λb u q _=>?_,
  λb xs q=>by rw[AR (hm b _ q λz=>z)];exact q,λb u xs q=>by rw[AR (hm b _ q λz=>z)];exact q,λb ps q=>⟨#[],by rw[AR (hm b _ q λz=>z),q];simp⟩⟩
 by_cases f:b=e
 ·subst f;exact O
 ·exact⟨u,k b u f q⟩
end
noncomputable def trk(h:Heap)(H:Hp):List Addr:=(List.range h.objs.size).filter λa=>(H a).isSome
noncomputable def Co(h:Heap)(H:Hp):Heap:=PySem.W.hideAll h (trk h H)
theorem Np(h:Heap)(H:Hp):(Co h H).objs.size=h.objs.size:=PySem.W.hideAll_size _ _
theorem NH{o:Obj}(e:h.get? b=some o)(n:H b=none):(Co h H).get? b=some o :=
 PySem.W.hideAll_get _ e λhm=>by
  have q:(H b).isSome=true:=(ZBp.mp hm).2;rw[n]at q;simp at q
theorem Nk{o:Obj}(e:(Co h H).get? b=some o):h.get? b=some o/\H b=none:=by
 have f:h.get? b=some o:=PySem.W.of_hideAll (trk h H) e;refine⟨f,?_⟩;cases q:H b with
 | none=>rfl
 | some x =>
  have hm:b∈trk h H:=ZBp.mpr ⟨ZBV.mpr (ZBF f),by simp[q]⟩;have z:(Co h H).get? b=none:=PySem.W.hideAll_none (trk h H) hm;rw[z]at e;cases e
noncomputable def GC(g h:Heap)(L:Addr):List (Addr×Obj):=(List.range h.objs.size).filterMap λa=>if a=L\/(g.get? a).isSome=true then none else (h.get? a).map λo=>(a,o)
theorem Ur{g:Heap}{L:Addr}{o:Obj}(h1:a≠L)(h2:g.get? a=none)(z:h.get? a=some o):(a,o)∈GC g h L :=
 ZDJ.mpr ⟨a,ZBV.mpr (ZBF z),by simp[h1,h2,z]⟩
theorem XQ{g:Heap}{L:Addr}{p:Addr×Obj}(G:p∈GC g h L):p.1≠L/\g.get? p.1=none/\h.get? p.1=some p.2:=by
 obtain⟨b,_,e⟩:=ZDJ.mp G;split at e
 ·cases e
 ·rename_i hn;cases q:h.get? b with
  | none=>rw[q]at e;simp at e
  | some u =>
   rw[q]at e;simp only[ZCd,Option.some.injEq]at e;subst e;refine⟨λz=>hn (.inl z),?_,q⟩;show g.get? b=none;cases r:g.get? b with
   | none=>rfl
   | some v=>exact(hn (.inr (by simp[r]))).elim
theorem Ux{g:Heap}{L:Addr}:News g L h (GC g h L):=λp f=>let ⟨a,b,c⟩:=XQ f;⟨c,a,b⟩
structure Mod(K:W.Frag)(mg:Str->Option Value)(base:Heap):Prop where
 kin:K.In base
 glob:base.Ns mainGlobals mg
 blt:∃mb,base.Ns builtinsNs mb/\∀x:Str,x ≠ "__name__" -> mb x=bootBuiltins x
 nolimit:base.NoLimit
structure Cx where
 prog:Program
 w:World
 K:W.Frag
 mg:Str->Option Value
 base:Heap
 A:Around
 N:List Str
 s₀:Shared
 H₀:Hp
 env:Env
 outer:List Env
 stack:List Env
 ex:List Addr
 fn:Str->Bool
 calm:Bool
 pn:List (Addr×Obj)
 xe:Value->Shared->Prop
noncomputable def frs(l:List Env):List Addr:=l.filterMap (·.frame)
noncomputable abbrev Cx.fs(X:Cx):List Addr:=frs X.outer
def Vis(sc:Scope)(x:Str):Prop:=sc.names.lookup x=some .local\/sc.names.lookup x=some .cell\/sc.names.lookup x=some .free
def Loc(sc:Scope)(x:Str):Prop:=sc.names.lookup x=some .local\/sc.names.lookup x=some .cell
noncomputable def Z6(env:Env)(h:Heap)(m:Str->Option Value)(x:Str)(u:Value):Prop :=
 (env.kindOf x=some .local/\m x=some u)\/((env.kindOf x=some .cell\/env.kindOf x=some .free)/\∃c,env.cells.lookup x=some c/\h.IsCell c (some u))
structure Cx.Ok(X:Cx):Prop where
 mod:Mod X.K X.mg X.base
 kind:X.env.scope.kind=.function
 glob:X.env.globals=mainGlobals
 blt:X.env.builtins=builtinsNs
 above:X.s₀.heap.objs.size<=X.env.locals
 inj:∀x y c,X.env.cells.lookup x=some c->X.env.cells.lookup y=some c->x=y
 has:∀x,(X.env.kindOf x=some .cell\/X.env.kindOf x=some .free)->∃c,X.env.cells.lookup x=some c
 cab:∀x c,X.fn x=true->X.env.cells.lookup x=some c->X.s₀.heap.objs.size<=c
 hd:X.calm=true->X.A.handled=none
 frames:X.A.frames=some X.stack
 stk:X.stack=X.outer\/(X.stack=X.env::X.outer/\X.env.frame=some X.env.locals)
 exf:∀b∈X.ex,b≠X.env.locals/\∀x c,X.env.cells.lookup x=some c->c≠b
 bs:∀b o,X.base.get? b=some o->X.s₀.heap.get? b=some o/\X.H₀ b=none
 bsz:X.base.objs.size<=X.s₀.heap.objs.size
 noex:∀b o,X.base.get? b=some o->b∉X.ex
 exfs:∀b∈X.ex,b∉X.fs
 funs:X.s₀.heap.FunFrames X.base X.outer
 frf:∀b∈X.fs,X.H₀ b=none
structure zd(X:Cx)(El:List (Addr×Obj))(Z:List (Option V))(H:Hp)(s:Shared):Prop where
 ok:X.Ok
 os:s.os=X.s₀.os
 bare:AllBare s.gens
 base:Un X.fs X.ex X.H₀ H X.s₀.heap s.heap
 loc:∃m,s.heap.Ns X.env.locals m/\∀(i:Nat) (x:Str) (v:V),X.N[i]?=some x->Z[i]?=some (some v)->Vis X.env.scope x->∃u,zi v u/\Z6 X.env s.heap m x u
 cell:∀x c,X.env.cells.lookup x=some c->∃v,s.heap.IsCell c v
 free:H X.env.locals=none
 freeC:∀x c,X.env.cells.lookup x=some c->H c=none
 pin:∀p∈X.pn++El,s.heap.get? p.1=some p.2/\H p.1=none/\p.1≠X.env.locals/\p.1∉X.fs/\∀v,p.2.data≠.cell v
 hok:HOk X.prog X.w H s.heap
 len:Z.length=X.N.length
section
variable {X:Cx}{El:List (Addr×Obj)}{Z:List (Option V)}{H H':Hp}{s:Shared}{h':Heap}
theorem Cx.Ok.nofr(ok:X.Ok){o:Obj}(e:X.base.get? b=some o):b∉X.fs:=λf=>by
 have:=(ok.funs.mem f).1
 rw[e]at this;cases this
theorem zd.bs(I:zd X El Z H s):∀b o,X.base.get? b=some o->s.heap.get? b=some o/\H b=none:=λb o e =>
 ⟨I.base.keep b o (I.ok.bs b o e).1 (I.ok.bs b o e).2 (I.ok.nofr e) (I.ok.noex b o e),I.base.free b o (I.ok.bs b o e).1 (I.ok.bs b o e).2 (I.ok.noex b o e)⟩
theorem zd.bk(I:zd X El Z H s):∀b o,X.base.get? b=some o->s.heap.get? b=some o:=λb o e=>(I.bs b o e).1
theorem zd.mod(I:zd X El Z H s):Mod X.K X.mg X.base:=I.ok.mod
theorem zd.kIn(I:zd X El Z H s):X.K.In s.heap:=I.ok.mod.kin.keeps I.bk
theorem zd.fr(I:zd X El Z H s):∃m,Fr X.base X.env.locals s.heap m :=
 let ⟨m,hn,_⟩:=I.loc
 ⟨m,hn,I.bk,ZBq I.ok.bsz I.ok.above⟩
theorem zd.lt(I:zd X El Z H s):X.env.locals<s.heap.objs.size:=let ⟨_,hn,_⟩:=I.loc;hn.lt
theorem zd.sz(I:zd X El Z H s):X.s₀.heap.objs.size<=s.heap.objs.size:=ZBq I.ok.above (ZBy I.lt)
theorem zd.nofs(I:zd X El Z H s)(h:s.heap.objs.size<=a):a∉X.fs:=λf=>by
 obtain⟨_,o,g,_⟩:=I.ok.funs.mem f;exact absurd (ZBZ (ZBF g) (ZBq I.sz h)) (ZBa _)
theorem zd.cne(I:zd X El Z H s):∀x c,X.env.cells.lookup x=some c->c≠X.env.locals:=λx c e z=>by
 obtain⟨v,o,i,hd⟩:=I.cell x c e;obtain⟨m,⟨o',es,j,g,f,_⟩,_⟩:=I.loc;rw[z,g]at i;cases i;rw[f]at hd;cases hd
theorem zd.funs(I:zd X El Z H s):s.heap.FunFrames X.base X.outer:=by
 have all:∀(l:List Env),(∀b∈frs l,b∈X.fs)->X.s₀.heap.FunFrames X.base l->s.heap.FunFrames X.base l:=by
  intro l
  induction l with
  | nil=>intro _ _;trivial
  | cons env r m =>
   intro hs j;obtain⟨i,⟨L,o,hf,hn,k,hd⟩,hr⟩:=j;have f:L∈X.fs:=hs L (by unfold frs;rw[ZC5,hf];exact ZBh);obtain⟨sl,e⟩:=I.base.slot L o k (I.ok.frf L f) f λz=>I.ok.exfs L z f
   exact⟨i,⟨L,_,hf,hn,e,hd⟩,m (λb g=>hs b (by unfold frs;rw[ZC5,hf];exact ZBd _ g)) hr⟩
 exact all X.outer (λ_ g=>g) I.ok.funs
theorem zd.stack(I:zd X El Z H s):s.heap.FunFrames X.base X.stack:=by
 rcases I.ok.stk with e | ⟨e,hf⟩
 ·rw[e];exact I.funs
 ·rw[e];obtain⟨m,hn,_⟩:=I.loc;refine .cons (by rw[I.ok.kind];decide) hf hn ?_ I.funs;exact Heap.get?_none_of_le (ZBq I.ok.bsz I.ok.above)
theorem zd.stkSub(I:zd X El Z H s):∀b∈frs X.stack,b∈X.env.locals::X.fs:=λb f=>by
 rcases I.ok.stk with e | ⟨e,hf⟩
 ·rw[e]at f;exact ZBd _ f
 ·rw[e]at f;unfold frs at f;rw[ZC5,hf]at f;exact f
theorem zd.stkFree(I:zd X El Z H s):∀b∈frs X.stack,H b=none:=λb f=>by
 rcases ZBI.mp (I.stkSub b f) with e | f
 ·rw[e];exact I.free
 ·obtain⟨_,o,g,_⟩:=I.ok.funs.mem f;exact I.base.free b o g (I.ok.frf b f) λz=>I.ok.exfs b z f
theorem zd.step {g':Array GenState} {d':Drawn} {ch:List Addr} (I:zd X El Z H s)
 (G:∀b∈ch,(b∈X.ex\/X.s₀.heap.objs.size<=b)/\b≠X.env.locals/\(∀x c,X.env.cells.lookup x=some c->c≠b)/\∀p∈X.pn++El,p.1≠b)
 (keep:∀b o,b≠X.env.locals->b∉X.fs->b∉ch->s.heap.get? b=some o->H b=none->h'.get? b=some o)
 (slot:∀b o,b≠X.env.locals->b∈X.fs->b∉ch->s.heap.get? b=some o->H b=none->∃sl,h'.get? b=some { o with slots:=sl }) (free:∀b o,b∉ch->s.heap.get? b=some o->H b=none->H' b=none)
 (there:∀b o,b∉ch->s.heap.get? b=some o->∃o',h'.get? b=some o')
 (tups:∀b xs,H b=some (.tup xs)->H' b=some (.tup xs)) (frzs:∀b o u,H b=some (.frz o u)->H' b=some (.frz o u)) (tbls:∀b ps,H b=some (.tbl ps)->∃more,H' b=some (.tbl (ps++more)))
 (ns:∀m,s.heap.Ns X.env.locals m->h'.Ns X.env.locals m) (hok:HOk X.prog X.w H' h') (O:AllBare g') :
 zd X El Z H' { s with heap:=h',gens:=g',drawn:=d',toks:=t' }:=by
 have C:∀b o,X.s₀.heap.get? b=some o->b≠X.env.locals:=λb o e=>ZBR (ZBZ (ZBF e) I.ok.above)
 have t:∀b o,X.s₀.heap.get? b=some o->b∉X.ex->b∉ch:=λb o e f y=>by
  rcases(G b y).1 with z | z
  ·exact f z
  ·exact absurd (ZBZ (ZBF e) z) (ZBa _)
 have cellK:∀x c,X.env.cells.lookup x=some c->∀v,s.heap.IsCell c v->h'.IsCell c v:=λx c e v ⟨o,B,hd⟩=>by
  have g:c∉ch:=λz=>(G c z).2.2.1 x c e rfl
  by_cases J:c∈X.fs
  ·obtain⟨sl,q⟩:=slot c o (I.cne x c e) J g B (I.freeC x c e);exact⟨_,q,hd⟩
  ·exact⟨o,keep c o (I.cne x c e) J g B (I.freeC x c e),hd⟩
 refine⟨I.ok,I.os,O,⟨λb o e n y f=>?_,λb o e n y f=>?_,λb o e n f=>?_,λb o e f=>?_,λb xs e=>tups b xs (I.base.tups b xs e),λb o xs e=>frzs b o xs (I.base.frzs b o xs e),λb ps e=>?_⟩,?_,λx c e=>?_,?_,λx c e=>?_,λp K=>?_,hok,I.len⟩
 ·exact keep b o (C b o e) y (t b o e f) (I.base.keep b o e n y f) (I.base.free b o e n f)
 ·obtain⟨sl,j⟩:=I.base.slot b o e n y f;obtain⟨D,e2⟩:=slot b _ (C b o e) y (t b o e f) j (I.base.free b o e n f);exact⟨D,e2⟩
 ·obtain⟨o',j⟩:=I.base.there b o e f;exact free b o' (t b o e f) j (I.base.free b o e n f)
 ·obtain⟨o',j⟩:=I.base.there b o e f;exact there b o' (t b o e f) j
 ·obtain⟨P,j⟩:=I.base.tbls b ps e;obtain⟨R,e2⟩:=tbls b _ j;exact⟨P++R,by rw[e2,Array.append_assoc]⟩
 ·obtain⟨m,hn,N⟩:=I.loc;refine⟨m,ns m hn,λi x v j e2 M=>?_⟩;obtain⟨u,r,l⟩:=N i x v j e2 M;refine⟨u,r,?_⟩
  rcases l with l | ⟨k,c,e,z⟩
  ·exact .inl l
  ·exact .inr ⟨k,c,e,cellK x c e _ z⟩
 ·obtain⟨v,z⟩:=I.cell x c e;exact⟨v,cellK x c e v z⟩
 ·obtain⟨m,⟨o,_,_,B,_⟩,_⟩:=I.loc;exact free _ o (λz=>(G _ z).2.1 rfl) B I.free
 ·obtain⟨v,o,B,hd⟩:=I.cell x c e;exact free c o (λz=>(G c z).2.2.1 x c e rfl) B (I.freeC x c e)
 ·obtain⟨e,n,ne,L,d⟩:=I.pin p K;have g:p.1∉ch:=λz=>(G p.1 z).2.2.2 p K rfl
  exact⟨keep p.1 p.2 ne L g e n,free p.1 p.2 g e n,ne,L,d⟩
theorem zd.un(I:zd X El Z H s)(u:Un X.fs [] H H' s.heap h')(hok:HOk X.prog X.w H' h'):zd X El Z H' { s with heap:=h',toks:=t' }:=by
 obtain⟨m,⟨o,es,t,k,r⟩,_⟩:=id I.loc;obtain⟨sl,l⟩:=u.any k I.free (by simp)
 exact I.step (g':=s.gens) (d':=s.drawn) (ch:=[]) (λ_ z=>nomatch z) (λb o _ j _ e n=>u.keep b o e n j (by simp)) (λb o _ j _ e n=>u.slot b o e n j (by simp)) (λb o _ e n=>u.free b o e n (by simp)) (λb o _ e=>u.there b o e (by simp)) u.tups u.frzs u.tbls (λv hm=>by
  obtain⟨o',i,g,f,p⟩:=hm;rw[k]at f;cases f;exact⟨_,i,g,l,p⟩) hok I.bare
theorem zd.call {g':Array GenState} {d':Drawn} {ch:List Addr} (I:zd X El Z H s) (u:Un (frs X.stack) ch H H' s.heap h') (hok:HOk X.prog X.w H' h') (O:AllBare g')
 (G:∀b∈ch,(b∈X.ex\/X.s₀.heap.objs.size<=b)/\b≠X.env.locals/\(∀x c,X.env.cells.lookup x=some c->c≠b)/\∀p∈X.pn++El,p.1≠b) :
 zd X El Z H' { s with heap:=h',gens:=g',drawn:=d',toks:=t' }:=by
 obtain⟨m,⟨o,es,y,l,r⟩,_⟩:=id I.loc;obtain⟨sl,k⟩:=u.any l I.free λz=>(G _ z).2.1 rfl
 exact I.step (ch:=ch) G (λb o k t f e n=>u.keep b o e n (λz=>(ZBI.mp (I.stkSub b z)).elim k t) f) (λb o _ _ f e n=>u.any e n f) (λb o f e n=>u.free b o e n f) (λb o f e=>u.there b o e f) u.tups u.frzs u.tbls (λB hm=>by
  obtain⟨o',j,i,g,v⟩:=hm;rw[l]at g;cases g;exact⟨_,j,i,k,v⟩) hok O
theorem zd.turned {it:Addr} (I:zd X El Z H s) (k:∀b o,b≠it->s.heap.get? b=some o->h'.get? b=some o) (hn:H it=none) (G:it≠X.env.locals)
 (h1:it∈X.ex\/X.s₀.heap.objs.size<=it) (h2:∀x c,X.env.cells.lookup x=some c->c≠it) (O:∀p∈X.pn++El,p.1≠it):zd X El Z H { s with heap:=h',toks:=t' }:=by
 have g:∀b u,H b=some u->b≠it:=λb u e z=>by rw[z,hn]at e;cases e
 refine I.step (g':=s.gens) (d':=s.drawn) (ch:=[it]) (λb j=>?_) (λb o _ _ f e _=>k b o (λz=>f (by simp[z])) e) (λb o _ _ f e _=>⟨o.slots,k b o (λz=>f (by simp[z])) e⟩) (λ_ _ _ _ n=>n)
  (λb o f e=>⟨o,k b o (λz=>f (by simp[z])) e⟩) (λ_ _ e=>e) (λ_ _ _ e=>e) (λb ps e=>⟨#[],by rw[e];simp⟩) (λm hm=>?_) (λb u e=>?_) I.bare
 ·have e:b=it:=by simpa using j
  subst e;exact⟨h1,G,h2,O⟩
 ·obtain⟨o,es,i,l,r⟩:=hm;exact⟨o,es,i,k _ o (Ne.symm G) l,r⟩
 ·refine(I.hok b u e).stay (λc v f q=>k c v ?_ q) (λ_ q=>q) λ_ _ q=>q
  rcases f with z | z
  ·rw[z];exact g b u e
  ·exact g c _ z
theorem zd.tok(I:zd X El Z H s)(t:Nat):zd X El Z H { s with toks:=t }:=I.un (h':=s.heap) (t':=t) Un.refl I.hok
theorem zd.kept(I:zd X El Z H s)(k:∀b u,s.heap.get? b=some u->h'.get? b=some u):zd X El Z H { s with heap:=h',toks:=t' }:=I.un (Un.kept k) (I.hok.kept k)
theorem zd.laid(I:zd X El Z H s)(k:∀b u,s.heap.get? b=some u->h'.get? b=some u)(z:s.heap.objs.size<=a)(new:ObjOk X.prog X.w (upd H a o) h' a o) :
 zd X El Z (upd H a o) { s with heap:=h',toks:=t' }:=I.un (Un.laid k z (I.hok.fresh z)) (I.hok.laid k z new)
theorem zd.write {x e:Addr} (I:zd X El Z H s) (G:Mut (H x)) (he:e=x\/H e=some (.own x)) (k:∀b u,b≠e->s.heap.get? b=some u->h'.get? b=some u) (z:∃u,h'.get? e=some u)
 (new:ObjOk X.prog X.w (upd H x o) h' x o):zd X El Z (upd H x o) { s with heap:=h',toks:=t' }:=I.un (Un.write G he k z) (I.hok.write G he k z new)
theorem zd.weak{z:List (Option V)}(I:zd X El Z H s)(G:z.length=Z.length)(w:∀(i:Nat) v,z[i]?=some (some v)->Z[i]?=some (some v)):zd X El z H s :=
 ⟨I.ok,I.os,I.bare,I.base,let ⟨m,hn,f⟩:=I.loc;⟨m,hn,λi x v g e2 j=>f i x v g (w i v e2) j⟩,I.cell,I.free,I.freeC,I.pin,I.hok,G.trans I.len⟩
theorem zd.pins_of{G:List (Addr×Obj)}(I:zd X El Z H s)(h:∀p∈G,s.heap.get? p.1=some p.2/\H p.1=none/\p.1≠X.env.locals/\p.1∉X.fs/\∀v,p.2.data≠.cell v):zd X G Z H s :=
 ⟨I.ok,I.os,I.bare,I.base,I.loc,I.cell,I.free,I.freeC,λp f=>(ZCB.mp f).elim (λz=>I.pin p (ZCK _ z)) (h p),I.hok,I.len⟩
theorem Nq{N:List Str}(z:N.Nodup){j:Nat}(a:N[i]?=some x)(b:N[j]?=some x):i=j:=by
 obtain⟨h1,f⟩:=ZBW.mp a;obtain⟨h2,e2⟩:=ZBW.mp b;exact(List.getElem_inj z).mp (f.trans e2.symm)
theorem Pz {M:Model} {Q:Unit->Shared->Prop} (I:zd X El Z H s) (hN:X.N.Nodup) (hi:X.N[i]?=some x) (G:Loc X.env.scope x) (r:zi v u)
 (h:∀s',zd X El (Z.set i (some v)) H s'->(∃a,Heap.SameBut a s.heap s'.heap/\(a=X.env.locals\/X.env.cells.lookup x=some a))->Q () s') (hf:X.fn x=true\/X.env.scope.names.lookup x=some .local:=by first | exact .inl rfl | exact .inr rfl | assumption):wpAny M A (storeName X.env x u) Q E s:=by
 obtain⟨m,hn,hl⟩:=id I.loc;have O:(X.env.scope.kind==.class||(X.env.scope.kind==.module&&X.env.locals != X.env.globals))=false:=by rw[I.ok.kind];rfl
 have t:i<Z.length:=by rw[I.len];exact(ZBW.mp hi).1
 have cne:=I.cne
 have tracked:∀{a:Addr} {h':Heap},(∃o,s.heap.get? a=some o/\H a=none)->Heap.SameBut a s.heap h'->HOk X.prog X.w H h':=λ{a h'} ha hs b ob e=>by
  obtain⟨_,_,l⟩:=ha;refine(I.hok b ob e).stay (λc T g q=>(hs.2 c ?_).trans q) (λ_ q=>q) λ_ _ q=>q
  rintro rfl
  rcases g with rfl | g
  ·rw[l]at e;cases e
  ·rw[l]at g;cases g
 rcases G with B | B
 ·refine wpAny_storeName_local B hn (λh' V hs=>?_) O;obtain⟨oL,_,_,W,_⟩:=id hn;refine h _ ⟨I.ok,I.os,I.bare,⟨λb o e n C G=>?_,λb o e n C G=>?_,I.base.free,λb o e G=>?_,I.base.tups,I.base.frzs,I.base.tbls⟩,⟨_,V,λj y v' f e2 U=>?_⟩,λy c e=>?_,I.free,I.freeC,λp Y=>?_,tracked ⟨oL,W,I.free⟩ hs,by simpa using I.len⟩ ⟨_,hs,.inl rfl⟩
  ·exact(hs.2 b (ZBR (ZBZ (ZBF e) I.ok.above))).trans (I.base.keep b o e n C G)
  ·obtain⟨sl,f⟩:=I.base.slot b o e n C G;exact⟨sl,(hs.2 b (ZBR (ZBZ (ZBF e) I.ok.above))).trans f⟩
  ·obtain⟨o',f⟩:=I.base.there b o e G;exact⟨o',(hs.2 b (ZBR (ZBZ (ZBF e) I.ok.above))).trans f⟩
  ·by_cases J:j=i
   ·subst J;rw[hi]at f;cases f;rw[List.getElem?_set_self t]at e2;cases e2;exact⟨u,r,.inl ⟨B,by simp⟩⟩
   ·rw[List.getElem?_set_ne (Ne.symm J)]at e2;obtain⟨u',r',q⟩:=hl j y v' f e2 U;refine⟨u',r',?_⟩
    rcases q with ⟨k,e⟩ | ⟨k,c,e,z⟩
    ·refine .inl ⟨k,?_⟩
     have:y≠x:=λe=>J (Nq hN f (e▸hi))
     simp[this,e]
    ·exact .inr ⟨k,c,e,z.sameBut hs (cne y c e)⟩
  ·obtain⟨T,z⟩:=I.cell y c e;exact⟨T,z.sameBut hs (cne y c e)⟩
  ·obtain⟨e,n,ne,nf,d⟩:=I.pin p Y;exact⟨(hs.2 p.1 ne).trans e,n,ne,nf,d⟩
 ·have D:X.fn x=true:=by
   rcases hf with z | z
   ·exact z
   ·rw[z]at B;cases B
  obtain⟨c,g⟩:=I.ok.has x (.inl B);obtain⟨T,z⟩:=I.cell x c g;refine wpAny_storeName_cell I.ok.kind B g z (λh' K hs=>?_);obtain⟨oc,P,R⟩:=id z;refine h { s with heap:=h' } ⟨I.ok,I.os,I.bare,⟨λb o e n C G=>?_,λb o e n C G=>?_,I.base.free,λb o e G=>?_,I.base.tups,I.base.frzs,I.base.tbls⟩,⟨m,hn.sameBut hs (Ne.symm (cne x c g)),λj y v' f e2 U=>?_⟩,λy S e=>?_,I.free,I.freeC,λp Y=>?_,tracked ⟨oc,P,I.freeC x c g⟩ hs,by simpa using I.len⟩ ⟨c,hs,.inr g⟩
  ·exact(hs.2 b (ZBR (ZBZ (ZBF e) (I.ok.cab x c D g)))).trans (I.base.keep b o e n C G)
  ·obtain⟨sl,f⟩:=I.base.slot b o e n C G;exact⟨sl,(hs.2 b (ZBR (ZBZ (ZBF e) (I.ok.cab x c D g)))).trans f⟩
  ·obtain⟨o',f⟩:=I.base.there b o e G;exact⟨o',(hs.2 b (ZBR (ZBZ (ZBF e) (I.ok.cab x c D g)))).trans f⟩
  ·by_cases J:j=i
   ·subst J;rw[hi]at f;cases f;rw[List.getElem?_set_self t]at e2;cases e2;exact⟨u,r,.inr ⟨.inl B,c,g,K⟩⟩
   ·rw[List.getElem?_set_ne (Ne.symm J)]at e2;obtain⟨u',r',q⟩:=hl j y v' f e2 U;refine⟨u',r',?_⟩
    rcases q with q | ⟨k,S,e,z'⟩
    ·exact .inl q
    ·refine .inr ⟨k,S,e,z'.sameBut hs ?_⟩;rintro rfl;exact J (Nq hN f (I.ok.inj _ _ _ e g▸hi))
  ·by_cases L:S=c
   ·subst L;exact⟨_,K⟩
   ·obtain⟨w2,z2⟩:=I.cell y S e;exact⟨w2,z2.sameBut hs L⟩
  ·obtain⟨e,n,ne,nf,d⟩:=I.pin p Y;refine⟨(hs.2 p.1 ?_).trans e,n,ne,nf,d⟩;intro q;rw[q,P]at e;have q':oc=p.2:=ZBQ e;exact d T (by rw[<- q'];exact R)
theorem NI {M:Model} {Q:Unit->Shared->Prop} (I:zd X El Z H s) (z:X.N.Nodup) (hi:X.N[i]?=some x) (G:Loc X.env.scope x) (r:zi v u)
 (h:∀s',zd X El (Z.set i (some v)) H s'->Q () s') (hf:X.fn x=true\/X.env.scope.names.lookup x=some .local:=by first | exact .inl rfl | exact .inr rfl | assumption):wpAny M A (storeName X.env x u) Q E s :=
 Pz I z hi G r (λs' f _=>h s' f) hf
theorem zd.call' {s':Shared} {ch:List Addr} (I:zd X El Z H s) (O:s'.os=s.os) (u:Un (frs X.stack) ch H H' s.heap s'.heap) (hok:HOk X.prog X.w H' s'.heap) (G:AllBare s'.gens)
 (z:∀b∈ch,(b∈X.ex\/X.s₀.heap.objs.size<=b)/\b≠X.env.locals/\(∀x c,X.env.cells.lookup x=some c->c≠b)/\∀p∈X.pn++El,p.1≠b):zd X El Z H' s':=by
 obtain⟨h',g',d',t',o'⟩:=s';have e:o'=s.os:=O;subst e;exact I.call (g':=g') (t':=t') (d':=d') u hok G z
end
noncomputable abbrev XK:=Value->Option Addr->Hp->Prop
noncomputable abbrev St:=List (Option V)
noncomputable abbrev VK:=V->Hp->Prop
noncomputable abbrev TE:=St->Hp->VK->Prop
noncomputable abbrev TT:=St->Hp->(Bool->Hp->Prop)->Prop
noncomputable abbrev TA:=St->Hp->(List V->Hp->Prop)->Prop
structure Ends where
 nx:St->Hp->Prop
 rt:VK
 bk:St->Hp->Prop:=λ_ _=>False
 ct:St->Hp->Prop:=λ_ _=>False
noncomputable abbrev TS:=Ends->St->Hp->Prop
def EP(X:Cx)(El:List (Addr×Obj))(Z:St)(Q:VK)(u:Value)(s':Shared):Prop:=∃v H',zd X El Z H' s'/\zi v u/\Q v H'
def TP(X:Cx)(El:List (Addr×Obj))(Z:St)(Q:Bool->Hp->Prop)(b:Bool)(s':Shared):Prop:=∃H',zd X El Z H' s'/\Q b H'
def AP(X:Cx)(El:List (Addr×Obj))(Z:St)(Q:List V->Hp->Prop)(us:List Value)(s':Shared):Prop:=∃vs H',zd X El Z H' s'/\zh vs us/\Q vs H'
noncomputable def SP(X:Cx)(El:List (Addr×Obj))(D:Ends)(f:Flow)(s':Shared):Prop :=
 match f with
 | .next=>∃g H',zd X El g H' s'/\D.nx g H'
 | .brk=>∃g H',zd X El g H' s'/\D.bk g H'
 | .cont=>∃g H',zd X El g H' s'/\D.ct g H'
 | .ret u=>∃v g H',zd X El g H' s'/\zi v u/\D.rt v H'
noncomputable def PE(X:Cx)(e:Expr)(t:TE):Prop :=
 ∀(El:List (Addr×Obj)) (s:Shared) (Z:St) (H:Hp) (Q:VK),zd X El Z H s->t Z H Q->wpAny (model X.prog X.w) X.A (eval e X.env) (EP X El Z Q) X.xe s
noncomputable def PT(X:Cx)(e:Expr)(t:TT):Prop :=
 ∀(El:List (Addr×Obj)) (s:Shared) (Z:St) (H:Hp) (Q:Bool->Hp->Prop),zd X El Z H s->t Z H Q->wpAny (model X.prog X.w) X.A (isTrue e X.env (eval e X.env)) (TP X El Z Q) X.xe s
noncomputable def PW(X:Cx)(e:Expr)(t:TT):Prop :=
 ∀(whole:Sem Value) (El:List (Addr×Obj)) (s:Shared) (Z:St) (H:Hp) (Q:Bool->Hp->Prop),zd X El Z H s->t Z H Q->wpAny (model X.prog X.w) X.A (isTrue e X.env whole) (TP X El Z Q) X.xe s
theorem PW.pt{X:Cx}{e:Expr}{t:TT}(h:PW X e t):PT X e t:=h _
noncomputable def PA(X:Cx)(es:List Expr)(t:TA):Prop :=
 ∀(pos:Pos) (El:List (Addr×Obj)) (s:Shared) (Z:St) (H:Hp) (Q:List V->Hp->Prop),zd X El Z H s->t Z H Q->wpAny (model X.prog X.w) X.A (spliced (backTo pos (starEach es X.env))) (AP X El Z Q) X.xe s
noncomputable def PS(X:Cx)(st:Stmt)(t:TS):Prop :=
 ∀(El:List (Addr×Obj)) (s:Shared) (Z:St) (H:Hp) (D:Ends),zd X El Z H s->t D Z H->wpAny (model X.prog X.w) X.A (exec st X.env) (SP X El D) X.xe s
noncomputable def PSs(X:Cx)(st:List Stmt)(t:TS):Prop :=
 ∀(El:List (Addr×Obj)) (s:Shared) (Z:St) (H:Hp) (D:Ends),zd X El Z H s->t D Z H->wpAny (model X.prog X.w) X.A (execs st X.env) (SP X El D) X.xe s
theorem zm{α:Type}{t:Sem α}{Q z:α->Shared->Prop}{M:Model}(h:wpAny M A t Q E s)(G:∀a s,Q a s->z a s):wpAny M A t z E s:=ZBt h G λ_ _ x=>x
section
variable {X:Cx}
noncomputable def YL(i:Nat):TE:=λZ H Q=>∃v,Z[i]?=some (some v)/\Q v H
noncomputable def tC(v:V):TE:=λ_ H Q=>Q v H
theorem Zt(G:X.N[i]?=some x)(O:Vis X.env.scope x)(hd:(x==("__debug__" : Str))=false:=by decide)(z:(x==("__classdict__" : Str))=false:=by decide):PE X (.Name x pos) (YL i):=by
 intro El s Z H Q I h;obtain⟨v,e,h⟩:=h;obtain⟨m,hn,k⟩:=I.loc;obtain⟨u,r,l⟩:=k i x v G e O;have fin:EP X El Z Q u s:=⟨v,H,I,r,h⟩
 rcases l with ⟨g,hm⟩ | ⟨g,c,j,f⟩
 ·exact wpAny_Name (wpAny_loadName_local I.ok.kind g hn hm fin) hd
 ·rcases g with g | g
  ·exact wpAny_Name (wpAny_loadName_cell I.ok.kind g j f fin) hd
  ·exact wpAny_Name (wpAny_loadName_free I.ok.kind g j f fin z) hd
theorem AE{i j pos}:PE X (.Constant (.int i) j pos) (tC (.int i)):=λ_ _ _ H _ I h=>wpAny_Constant_int ⟨.int i,H,I.tok _,⟨_,rfl⟩,h⟩
theorem BE{b j pos}:PE X (.Constant (.bool b) j pos) (tC (.bl b)):=λ_ _ _ H _ I h=>Constant_bool ⟨.bl b,H,I,rfl,h⟩
theorem Jt{j pos}:PE X (.Constant .none j pos) (tC .non):=λ_ _ _ H _ I h=>Constant_none ⟨.non,H,I,rfl,h⟩
theorem Fa{x j pos}:PE X (.Constant (.str x) j pos) (tC (.str x)):=λ_ _ _ H _ I h=>Calls.Constant_str ⟨.str x,H,I.tok _,⟨_,rfl⟩,h⟩
def Gl(X:Cx)(x:Str):Prop:=X.env.kindOf x=some .globalImplicit
theorem JF (I:zd X El Z H s) (z:Gl X x) (hm:X.mg x=some u) (h:Q u s)
 (hd:(x==("__debug__" : Str))=false:=by decide):wpAny (model X.prog X.w) X.A (eval (.Name x pos) X.env) Q E s :=
 Calls.Name_function_global I.ok.kind z (Calls.loadGlobal_global (by rw[I.ok.glob];exact I.mod.glob.keeps I.bk) hm h) hd
theorem CO (I:zd X El Z H s) (z:Gl X x) (hm:X.mg x=none) (G:bootBuiltins x=some u) (h:Q u s)
 (hn:x ≠ "__name__":=by decide) (hd:(x==("__debug__" : Str))=false:=by decide):wpAny (model X.prog X.w) X.A (eval (.Name x pos) X.env) Q E s:=by
 obtain⟨mb,h1,h2⟩:=I.mod.blt;exact Calls.Name_function_global I.ok.kind z (Calls.loadGlobal_builtin (by rw[I.ok.glob];exact I.mod.glob.keeps I.bk) hm (by rw[I.ok.blt];exact h1.keeps I.bk) ((h2 x hn).trans G) h) hd
theorem Qc(z:Gl X x)(hm:X.mg x=some u)(r:zi v u)(hd:(x==("__debug__" : Str))=false:=by decide):PE X (.Name x pos) (tC v) :=
 λ_ _ _ H _ I h=>JF I z hm ⟨v,H,I,r,h⟩ hd
theorem EY(z:Gl X x)(hm:X.mg x=none)(G:bootBuiltins x=some u)(r:zi v u)(hn:x ≠ "__name__":=by decide)(hd:(x==("__debug__" : Str))=false:=by decide):PE X (.Name x pos) (tC v) :=
 λ_ _ _ H _ I h=>CO I z hm G ⟨v,H,I,r,h⟩ hn hd
variable {a b:Expr}{ta tb:TE}{pos:Pos}
theorem Kn(b:Expr){op:CmpOp}(h:op≠.In)(h2:op≠.NotIn):behindInMarks op b=false:=by
 have f:(op==CmpOp.In)=false:=by cases op <;> first | rfl | exact absurd rfl h
 have e2:(op==CmpOp.NotIn)=false:=by cases op <;> first | rfl | exact absurd rfl h2
 cases b <;> simp[behindInMarks,f,e2]
variable {tA tB':TT}{rest:List Expr}
noncomputable def Ng(t u:TT):TT:=λZ H Q=>t Z H λc H1=>if c=true then u Z H1 Q else Q false H1
noncomputable def tOr(t u:TT):TT:=λZ H Q=>t Z H λc H1=>if c=true then Q true H1 else u Z H1 Q
noncomputable def QA(t:TT):TT:=λZ H Q=>t Z H λc H1=>Q (!c) H1
theorem IE(ha:PT X a tA):PW X (.BoolOp .And [a] pos) tA:=by
 intro f El s Z H Q I h;refine isTrue_and (zm (ha El s Z H Q I h) λc s1 e=>?_);cases c with
 | true=>exact isTrue_and_nil e
 | false=>exact e
theorem GQ(ha:PT X a tA):PW X (.BoolOp .Or [a] pos) tA:=by
 intro f El s Z H Q I h;refine isTrue_or (zm (ha El s Z H Q I h) λc s1 e=>?_);cases c with
 | false=>exact isTrue_or_nil e
 | true=>exact e
theorem Hz(ha:PT X a tA)(z:PW X (.BoolOp .And (b::rest) pos) tB'):PW X (.BoolOp .And (a::b::rest) pos) (Ng tA tB'):=by
 intro i El s Z H Q I h;refine isTrue_and (zm (ha El s Z H _ I h) λc s1 ⟨H1,f,g⟩=>?_);cases c with
 | true=>exact z i El s1 Z H1 Q f g
 | false=>exact⟨H1,f,g⟩
theorem Ft(ha:PT X a tA)(z:PW X (.BoolOp .Or (b::rest) pos) tB'):PW X (.BoolOp .Or (a::b::rest) pos) (tOr tA tB'):=by
 intro i El s Z H Q I h;refine isTrue_or (zm (ha El s Z H _ I h) λc s1 ⟨H1,f,g⟩=>?_);cases c with
 | true=>exact⟨H1,f,g⟩
 | false=>exact z i El s1 Z H1 Q f g
theorem Do(ha:PT X a tA):PT X (.UnaryOp .Not a pos) (QA tA):=by
 intro El s Z H Q I h;exact isTrue_not (ha El s Z H (λc H1=>Q (!c) H1) I h)
noncomputable def Yj(ta tb:TE):TE:=λZ H Q=>ta Z H λx H1=>∃c,x=.bl c/\if c=true then tb Z H1 Q else Q (.bl false) H1
noncomputable def YK(ta:TE):TE:=λZ H Q=>ta Z H λx H1=>∃c,x=.bl c/\Q (.bl (!c)) H1
theorem D5{op}{t:TE}(h:PE X a t):PE X (.BoolOp op [a] pos) t:=λEl s Z H Q I hw=>BoolOp_one (h El s Z H Q I hw)
theorem U0(ha:PE X a ta)(z:PE X (.BoolOp .And (b::rest) pos) tb):PE X (.BoolOp .And (a::b::rest) pos) (Yj ta tb):=by
 intro El s Z H Q I h;refine BoolOp_and (zm (ha El s Z H _ I h) λv s1 ⟨x,H1,g,r1,f⟩=>?_);obtain⟨c,rfl,f⟩:=f;cases r1;refine ZCO ?_;cases c with
 | true=>exact z El s1 Z H1 Q g f
 | false=>exact⟨.bl false,H1,g,rfl,f⟩
theorem bQ(ha:PE X a ta):PE X (.UnaryOp .Not a pos) (YK ta):=by
 intro El s Z H Q I h;refine UnaryOp_ (zm (ha El s Z H _ I h) λv s1 ⟨x,H1,g,r1,f⟩=>?_);obtain⟨c,rfl,f⟩:=f;cases r1;exact not_of (ZCO ⟨.bl (!c),H1,g,rfl,f⟩)
noncomputable def tIf(t:TT)(ta tb:TE):TE:=λZ H Q=>t Z H λc H1=>if c=true then ta Z H1 Q else tb Z H1 Q
theorem DV{c:Expr}(G:PT X c tA)(ha:PE X a ta)(z:PE X b tb):PE X (.IfExp c a b pos) (tIf tA ta tb):=by
 intro El s Z H Q I h;refine wpAny_IfExp (zm (G El s Z H _ I h) λd s1 ⟨H1,f,g⟩=>?_);cases d with
 | true=>exact ha El s1 Z H1 Q f g
 | false=>exact z El s1 Z H1 Q f g
end
noncomputable def zr(K:W.Frag)(H:Hp)(a:Addr)(xs:List V):Prop :=
 Rd H a (.lst xs) \/
  ∃(o:Obj) (zc:Array Value) (n:Nat),K.lookup a=some o/\o.cls=.type "list" /\ o.dict=none/\o.data=.seq zc n/\zc.size<=sizeLine/\zh xs zc.toList
noncomputable def zj(K:W.Frag)(H:Hp)(a:Addr)(xs:List V):Prop :=
 Rd H a (.tup xs) \/
  ∃(o:Obj) (zc:Array Value) (n:Nat),K.lookup a=some o/\o.cls=.type "tuple" /\ o.dict=none/\o.data=.seq zc n/\zc.size<=sizeLine/\zh xs zc.toList
noncomputable def Tq:Value->Option V
 | .none=>some .non
 | .bool b=>some (.bl b)
 | .int i _=>some (.int i)
 | .str x _=>some (.str x)
 | .bytes b _=>some (.byt b)
 | .float b _=>some (.flt b)
 | .ref a=>some (.ref a)
 | .type n=>some (.ty n)
 | _=>none
theorem zi.abs{x:V}(r:zi x u):Tq u=some x:=by
 cases x with
 | non=>cases r;rfl
 | bl _=>cases r;rfl
 | int _=>obtain⟨t,rfl⟩:=r;rfl
 | str _=>obtain⟨t,rfl⟩:=r;rfl
 | byt _=>obtain⟨t,rfl⟩:=r;rfl
 | flt _=>obtain⟨t,rfl⟩:=r;rfl
 | ref _=>cases r;rfl
 | ty _=>cases r;rfl
theorem zi.inj{x y:V}(r:zi x u)(q:zi y u):x=y:=ZBQ (r.abs.symm.trans q.abs)
theorem zh.inj:∀{xs ys:List V} {us:List Value},zh xs us->zh ys us->xs=ys
 | _,_,_,.nil,.nil=>rfl
 | _,_,_,.cons r t,.cons f t'=>by rw[r.inj f,zh.inj t t']
section
variable {X:Cx}{El:List (Addr×Obj)}{Z:St}{H:Hp}{s:Shared}{a:Addr}{xs ys:List V}
theorem zr.of(h:H a=some (.lst xs)):zr K H a xs:=.inl (.inl h)
theorem zj.of(h:H a=some (.tup xs)):zj K H a xs:=.inl (.inl h)
theorem zd.list(I:zd X El Z H s)(h:zr X.K H a xs):∃zc:List Value,zh xs zc/\PlainL s.heap a zc.toArray/\xs.length<=sizeLine:=by
 rcases h with h | ⟨o,zc,n,g,f,hd,hs,hz,r⟩
 ·obtain⟨z,zc,n,r,e⟩:=h.ok I.hok;exact⟨zc,r,⟨_,n,e,rfl,rfl,rfl⟩,z⟩
 ·refine⟨zc.toList,r,⟨o,n,I.kIn a o g,f,hd,by simpa using hs⟩,?_⟩;have e:=r.length;simp only[ZBm]at e;lia
theorem zd.tuple(I:zd X El Z H s)(h:zj X.K H a xs):∃zc:List Value,zh xs zc/\IsTup s.heap a zc.toArray/\xs.length<=sizeLine:=by
 rcases h with h | ⟨o,zc,n,i,f,g,hs,hz,r⟩
 ·obtain⟨z,zc,r,p⟩:=h.ok I.hok;exact⟨zc,r,p.tup,z⟩
 ·refine⟨zc.toList,r,⟨o,I.kIn a o i,f,n,by simpa using hs⟩,?_⟩;have e:=r.length;simp only[ZBm]at e;lia
theorem zd.tupleN(I:zd X El Z H s)(h:zj X.K H a xs):∃zc:List Value,zh xs zc/\IsTupN s.heap a zc.toArray/\xs.length<=sizeLine:=by
 rcases h with h | ⟨o,zc,n,i,g,f,hs,hz,r⟩
 ·obtain⟨z,zc,r,p⟩:=h.ok I.hok;exact⟨zc,r,p,z⟩
 ·refine⟨zc.toList,r,⟨o,I.kIn a o i,g,⟨n,by simpa using hs⟩,f⟩,?_⟩;have e:=r.length;simp only[ZBm]at e;lia
theorem zd.list_inj(I:zd X El Z H s)(h:zr X.K H a xs)(h':zr X.K H a ys):xs=ys:=by
 obtain⟨zc,r,⟨o,n,e,_,_,d⟩,_⟩:=I.list h;obtain⟨its',i,⟨o',j,f,_,_,d'⟩,_⟩:=I.list h';rw[e]at f;cases f;rw[d]at d';injection d' with g _
 have:zc=its':=by simpa using congrArg Array.toList g
 subst this;exact r.inj i
theorem zd.tuple_inj(I:zd X El Z H s)(h:zj X.K H a xs)(h':zj X.K H a ys):xs=ys:=by
 obtain⟨zc,r,⟨o,e,_,n,d⟩,_⟩:=I.tuple h;obtain⟨its',i,⟨o',f,_,j,d'⟩,_⟩:=I.tuple h';rw[e]at f;cases f;rw[d]at d';injection d' with g _
 have:zc=its':=by simpa using congrArg Array.toList g
 subst this;exact r.inj i
end
noncomputable abbrev Cx.wish(X:Cx)(E:Value->Shared->Prop):Cx:={ X with xe:=E }
noncomputable abbrev Cx.nox(X:Cx):Cx:=X.wish λ_ _=>False
theorem Cx.Ok.wish{X:Cx}(ok:X.Ok)(E:Value->Shared->Prop):(X.wish E).Ok :=
 ⟨ok.mod,ok.kind,ok.glob,ok.blt,ok.above,ok.inj,ok.has,ok.cab,ok.hd,ok.frames,ok.stk,ok.exf,ok.bs,ok.bsz,ok.noex,ok.exfs,ok.funs,ok.frf⟩
theorem Cx.Ok.unwish{X:Cx}(ok:(X.wish E).Ok):X.Ok :=
 ⟨ok.mod,ok.kind,ok.glob,ok.blt,ok.above,ok.inj,ok.has,ok.cab,ok.hd,ok.frames,ok.stk,ok.exf,ok.bs,ok.bsz,ok.noex,ok.exfs,ok.funs,ok.frf⟩
section
variable {X:Cx}{El:List (Addr×Obj)}{Z:St}{H:Hp}{s:Shared}{E:Value->Shared->Prop}
theorem zd.wish(I:zd X El Z H s)(E:Value->Shared->Prop):zd (X.wish E) El Z H s:=⟨I.ok.wish E,I.os,I.bare,I.base,I.loc,I.cell,I.free,I.freeC,I.pin,I.hok,I.len⟩
theorem zd.unwish(I:zd (X.wish E) El Z H s):zd X El Z H s:=⟨I.ok.unwish,I.os,I.bare,I.base,I.loc,I.cell,I.free,I.freeC,I.pin,I.hok,I.len⟩
theorem SP.unwish{D:Ends}{f:Flow}{s':Shared}(h:SP (X.wish E) El D f s'):SP X El D f s':=by
 cases f with
 | next=>obtain⟨g,H',I,q⟩:=h;exact⟨g,H',I.unwish,q⟩
 | brk=>obtain⟨g,H',I,q⟩:=h;exact⟨g,H',I.unwish,q⟩
 | cont=>obtain⟨g,H',I,q⟩:=h;exact⟨g,H',I.unwish,q⟩
 | ret u=>obtain⟨v,g,H',I,r,q⟩:=h;exact⟨v,g,H',I.unwish,r,q⟩
theorem PSs.nox{st:List Stmt}{t:TS}(h:PSs X.nox st t):PSs X st t:=λEl s Z H D I hw =>
 ZBt (h El s Z H D (I.wish _) hw) (λ_ _ q=>q.unwish) λ_ _ z=>False.elim z
end
section
variable {X:Cx}{st:Stmt}{rest:List Stmt}{t u:TS}{e:Expr}{te:TE}{pos:Pos}
noncomputable def EH:TS:=λD Z H=>D.nx Z H
noncomputable def Mj(t u:TS):TS:=λD Z H=>t { D with nx:=u D } Z H
theorem Aw:PSs X [] EH:=λ_ _ Z H _ I h=>wpAny_execs_nil ⟨Z,H,I,h⟩
theorem AH(h1:PS X st t)(h2:PSs X rest u):PSs X (st::rest) (Mj t u):=by
 intro El s Z H D I h;refine wpAny_execs_cons (zm (h1 El s Z H { D with nx:=u D } I h) λf s1 q=>?_);cases f with
 | next =>
  obtain⟨g,H',i,q⟩:=q;exact h2 El s1 g H' D i q
 | ret v=>exact q
 | brk=>exact q
 | cont=>exact q
theorem AI(h1:PS X st t):PSs X [st] t:=by
 intro El s Z H D I h;refine wpAny_execs_cons (zm (h1 El s Z H D I h) λf s1 q=>?_);cases f with
 | next=>exact wpAny_execs_nil q
 | ret v=>exact q
 | brk=>exact q
 | cont=>exact q
theorem zd.quiet(I:zd X El Z H s):interactive X.env=false:=by simp[interactive,I.ok.kind]
noncomputable def OR(te:TE):TS:=λD Z H=>te Z H λ_ H1=>D.nx Z H1
theorem Iv(he:PE X e te)(hs:swapsWith e none pos.line X.env=pure false:=by rfl):PS X (.Expr e pos) (OR te):=by
 intro El s Z H D I h;exact wpAny_Expr_any (zm (he El s Z H _ I h) λv s1 ⟨x,H1,f,r1,g⟩=>⟨Z,H1,f,g⟩) I.quiet hs
noncomputable def NC(te:TE):TS:=λD Z H=>te Z H D.rt
theorem AK(he:PE X e te):PS X (.Return (some e) pos) (NC te):=by
 intro El s Z H D I h;exact wpAny_Return_some (zm (he El s Z H _ I h) λv s1 ⟨x,H1,f,r1,g⟩=>⟨x,Z,H1,f,r1,g⟩)
noncomputable def HC(c:TT)(t u:TS):TS:=λD Z H=>c Z H λb H1=>if b=true then t D Z H1 else u D Z H1
theorem Av{c:Expr}{a b:List Stmt}{tc:TT}(G:PT X c tc)(ha:PSs X a t)(z:PSs X b u):PS X (.If c a b pos) (HC tc t u):=by
 intro El s Z H D I h;refine wpAny_If (zm (G El s Z H _ I h) λd s1 ⟨H1,f,g⟩=>?_);cases d with
 | true=>exact ha El s1 Z H1 D f g
 | false=>exact z El s1 Z H1 D f g
noncomputable def OW:TS:=λ_ _ _=>False
theorem Oj:PS X st OW:=λ_ _ _ _ _ _ h=>h.elim
end
noncomputable abbrev TG:=V->St->Hp->(St->Hp->Prop)->Prop
noncomputable abbrev TGs:=List V->St->Hp->(St->Hp->Prop)->Prop
noncomputable def PG(X:Cx)(target:Expr)(t:TG):Prop :=
 ∀(El:List (Addr×Obj)) (s:Shared) (Z:St) (H:Hp) (v:V) (u:Value) (Q:St->Hp->Prop),zd X El Z H s->zi v u->t v Z H Q ->
  wpAny (model X.prog X.w) X.A (assign target X.env u) (λ_ s'=>∃f H',zd X El f H' s'/\Q f H') X.xe s
noncomputable def PGs(X:Cx)(ts:List Expr)(t:TGs):Prop :=
 ∀(El:List (Addr×Obj)) (s:Shared) (Z:St) (H:Hp) (vs:List V) (us:List Value) (Q:St->Hp->Prop),zd X El Z H s->zh vs us->t vs Z H Q ->
  wpAny (model X.prog X.w) X.A (assignInOrder ((assignEach ts X.env).map (·.2)) us) (λ_ s'=>∃f H',zd X El f H' s'/\Q f H') X.xe s
noncomputable abbrev D7:=V->V->V->Hp->(Hp->Prop)->Prop
noncomputable def Fg(X:Cx)(t:D7):Prop :=
 ∀(El:List (Addr×Obj)) (s:Shared) (Z:St) (H:Hp) (o i v:V) (g f u:Value) (Q:Hp->Prop),zd X El Z H s->zi o g->zi i f->zi v u->t o i v H Q ->
  wpAny (model X.prog X.w) X.A (setItem g f u) (λ_ s'=>∃H',zd X El Z H' s'/\Q H') X.xe s
section
variable {X:Cx}{pos:Pos}
noncomputable def AW(i:Nat):TG:=λv Z H Q=>Q (Z.set i (some v)) H
theorem AM(z:X.N.Nodup)(hi:X.N[i]?=some x)(G:Loc X.env.scope x)(hf:X.fn x=true\/X.env.scope.names.lookup x=some .local:=by first | exact .inl rfl | exact .inr rfl | assumption):PG X (.Name x pos) (AW i):=by
 intro El s Z H v u Q I r h;exact wpAny_assign_Name (NI I z hi G r (λs' f=>⟨_,H,f,h⟩) hf)
noncomputable def LC:TGs:=λvs Z H Q=>vs=[]/\Q Z H
noncomputable def KA(t:TG)(u:TGs):TGs:=λvs Z H Q=>∃v r,vs=v::r/\t v Z H λf H'=>u r f H' Q
theorem BJ:PGs X [] LC:=by
 intro El s Z H vs us Q I r h;obtain⟨e,h⟩:=h;subst e;cases r;exact assignInOrder_nil ⟨Z,H,I,h⟩
theorem Ad {e:Expr} {es:List Expr} {t:TG} {u:TGs} (h1:PG X e t) (h2:PGs X es u)
 (hs:(assignEach (e::es) X.env).map (·.2)=assign e X.env::(assignEach es X.env).map (·.2):=by rfl):PGs X (e::es) (KA t u):=by
 intro El s Z H vs us Q I r h;obtain⟨v,l,i,h⟩:=h;subst i;cases r with
 | cons r k =>
  rw[hs];refine assignInOrder_cons (zm (h1 El s Z H _ _ _ I r h) λ_ s1 ⟨f,H1,g,j⟩=>?_);exact h2 El s1 f H1 _ _ Q g k j
noncomputable def Kk(K:W.Frag)(n:Nat)(t:TGs):TG:=λv Z H Q=>∃a xs,v=.ref a/\zj K H a xs/\xs.length=n/\t xs Z H Q
theorem Rk {es:List Expr} {t:TGs} {n:Nat} (G:X.calm=true) (h:PGs X es t)
 (hn:(assignEach es X.env).length=n:=by rfl) (z:(assignEach es X.env).findIdx? (·.1)=none:=by rfl):PG X (.Tuple es k pos) (Kk X.K n t):=by
 intro El s Z H v u Q I r hw;obtain⟨a,xs,i,l,j,hw⟩:=hw;subst i;cases r;obtain⟨zc,f,m,hz⟩:=I.tuple l;refine assign_Tuple_tuple (I.ok.hd G) m (by simp[hn,<- j,f.length]) z λh' p=>?_
 have g:zd X El Z H { s with heap:=h' }:=I.kept (t':=s.toks) λb o e=>p b o (ZBR (ZBF e)) e
 exact h El _ Z H xs _ Q g (by simpa using f) hw
noncomputable def NE(to z:TE)(t:D7):TG:=λv Z H Q=>to Z H λo H1=>z Z H1 λi H2=>t o i v H2 λf=>Q Z f
theorem C7 {o i:Expr} {to O:TE} {t:D7} (U:PE X o to) (hi:PE X i O) (hs:Fg X t)
 (ha:∀v,assign (.Subscript o i pos) X.env v=(do
   let z <- holding [v] (eval o X.env);let G <- holding [v,z] (eval i X.env)
   standAt pos
   holding [v,z,G] (setItem z G v)
   release [v,z,G] []):=by intro _;rfl):PG X (.Subscript o i pos) (NE to O t):=by
 intro El s Z H v u Q I r h;rw[ha];refine ZBA (ZBr (zm (U El s Z H _ I h) λz s1 ⟨x,H1,g,r1,l⟩=>?_));refine ZBA (ZBr (zm (hi El s1 Z H1 _ g l) λG s2 ⟨y,H2,j,p,m⟩=>?_));refine ZBA (ZCe (ZBA (ZBr (zm (hs El s2 Z H2 x y v z G u _ j r1 p r m) λ_ s3 ⟨f,k,n⟩=>?_))));exact wpAny_release ⟨Z,f,k,n⟩
noncomputable def Fn(te:TE)(g:TG):TS:=λD Z H=>te Z H λx H1=>g x Z H1 D.nx
theorem Cu {tg e:Expr} {te:TE} {g:TG} (he:PE X e te) (z:PG X tg g) (hs:swapsWithSole [tg] e pos.line X.env=pure false:=by rfl) (hw:swappedStores [tg] e X.env=pure none:=by rfl)
 (h1:(assignEach [tg] X.env).map (·.2)=[assign tg X.env]:=by rfl):PS X (.Assign [tg] e pos) (Fn te g):=by
 intro El s Z H D I h;refine wpAny_Assign_stores (zm (he El s Z H _ I h) λv s1 ⟨x,H1,f,r1,i⟩=>?_) hs hw;rw[h1];exact zm (z El s1 Z H1 x v _ f r1 i) λ_ s2 q=>q
theorem AO{i:Nat}{x:Str}{e:Expr}{te:TE}{pos':Pos}(z:X.N.Nodup)(hi:X.N[i]?=some x)(G:Loc X.env.scope x)(he:PE X e te)(hs:swapsWith e (some (.Name x pos')) pos.line X.env=pure false:=by rfl)(hf:X.fn x=true\/X.env.scope.names.lookup x=some .local:=by first | exact .inl rfl | exact .inr rfl | assumption) :
 PS X (.Assign [.Name x pos'] e pos) (Fn te (AW i)):=by
 intro El s Z H D I h;refine wpAny_Assign_Name (zm (he El s Z H _ I h) λv s1 ⟨y,H1,f,r1,j⟩=>?_) hs;exact NI f z hi G r1 (λs2 g=>⟨_,H1,g,j⟩) hf
end
structure It where
 go:Nat->Hp->Prop
 yld:Nat->Hp->V->Hp->Prop
 stop:Nat->Hp->Prop
noncomputable def BD(X:Cx)(El:List (Addr×Obj))(H:Hp)(b:Addr):Prop :=
 H b=none/\b≠X.env.locals/\b∉X.fs/\(b∈X.ex\/X.s₀.heap.objs.size<=b)/\(∀x c,X.env.cells.lookup x=some c->c≠b)/\∀p∈X.pn++El,p.1≠b
theorem zd.fpOk{X:Cx}{H':Hp}(I:zd X El Z H s)(G:s.heap.objs.size<=b)(hn:H' b=none):BD X El H' b:=by
 refine⟨hn,ZC6 (ZBZ I.lt G),I.nofs G,.inr (ZBq I.sz G),λx c e z=>?_,λp f z=>?_⟩
 ·obtain⟨v,q⟩:=I.cell x c e;exact absurd (ZBZ q.lt (by rw[z];exact G)) (ZBa _)
 ·exact absurd (ZBZ (ZBF (I.pin p f).1) (by rw[z];exact G)) (ZBa _)
structure Turn(P:Program)(w:World)(K:W.Frag)(tg:Expr)(J:It)(fp:List Addr)(it:Addr)(tn:Nat->Heap->Prop):Prop where
 mem:it∈fp
 obj:∀i h,tn i h->∀b∈fp,∃o,h.get? b=some o/\∀v,o.data≠.cell v
 keep:∀i h h',tn i h->(∀b∈fp,∀o,h.get? b=some o->h'.get? b=some o)->tn i h'
 item:∀(X:Cx),X.prog=P->X.w=w->X.K=K->X.calm=true->∀(i:Nat) (El:List (Addr×Obj)) (s:Shared) (Z:St) (H:Hp) (E:Value->Shared->Prop),zd X El Z H s->(∀b∈fp,BD X El H b)->tn i s.heap->J.go i H ->
  wpAny (model P w) X.A (pyNext (.ref it)) (λr s1=>∃u,r=some u /\
   wpAny (model P w) X.A (letOwnedTupleGo tg (.ref it) u) (λ_ s2=>∃x H',zd X El Z H' s2/\zi x u/\J.yld i H x H'/\tn (i+1) s2.heap/\∀b∈fp,H' b=none) E s1) E s
 done:∀(X:Cx),X.prog=P->X.w=w->X.K=K->X.calm=true->∀(i:Nat) (El:List (Addr×Obj)) (s:Shared) (Z:St) (H:Hp) (E:Value->Shared->Prop),zd X El Z H s->(∀b∈fp,BD X El H b)->tn i s.heap->J.stop i H ->
  wpAny (model P w) X.A (pyNext (.ref it)) (λr s1=>r=none/\zd X El Z H s1) E s
 self:∀(A:Around) (i:Nat) (s:Shared) (Q:Value->Shared->Prop) (E:Value->Shared->Prop),tn i s.heap->Q (.ref it) s->wpAny (model P w) A (pyIter (.ref it)) Q E s
noncomputable abbrev TI:=St->Hp->(It->Hp->Prop)->Prop
noncomputable def PIE(X:Cx)(El:List (Addr×Obj))(Z:St)(tg:Expr)(R:It->Hp->Prop)(z:Value)(s2:Shared):Prop :=
 ∃(it:Addr) (fp:List Addr) (tn:Nat->Heap->Prop) (J:It) (H':Hp),z=.ref it/\zd X El Z H' s2/\Turn X.prog X.w X.K tg J fp it tn/\tn 0 s2.heap/\(∀b∈fp,BD X El H' b)/\R J H'
noncomputable def PI(X:Cx)(tg iter:Expr)(wi:TI):Prop :=
 ∀(El:List (Addr×Obj)) (s:Shared) (Z:St) (H:Hp) (R:It->Hp->Prop),zd X El Z H s->wi Z H R ->
  wpAny (model X.prog X.w) X.A (eval iter X.env) (λv s1=>wpAny (model X.prog X.w) X.A (pyIter v) (PIE X El Z tg R) X.xe s1) X.xe s
theorem HU {M:Model} {tg:Expr} {it:Addr} {o:Obj} {n:String} {vs:Array Value} {Q:Unit->Shared->Prop} (O:s.heap.get? it=some o) (G:o.cls=.type n) (hd:o.data=.fields vs)
 (hn:["enumerate","zip","dict_itemiterator","dict_reverseitemiterator","odict_iterator","itertools.zip_longest","itertools.pairwise"].contains n=false) (z:Q () s):wpAny M A (letOwnedTupleGo tg (.ref it) u) Q E s:=by
 unfold letOwnedTupleGo
 cases tg <;> first
  | exact ZBC z
  | (cases u <;> first
      | exact ZBC z
      | (refine ZBA (wpAny_load O ?_)
         rw[G,hd];show wpAny M A (if (["enumerate","zip","dict_itemiterator","dict_reverseitemiterator","odict_iterator","itertools.zip_longest","itertools.pairwise"].contains n&&vs[0]?==some (rawInt _))=true then _ else _) Q E s;rw[if_neg (by intro h;rw[hn,ZDD]at h;cases h)];exact ZBC z))
noncomputable def Itl(K:W.Frag)(a:Addr):It :=
 ⟨λi H=>∃xs x,zr K H a xs/\xs[i]?=some x,λi H x H'=>H'=H/\∀xs,zr K H a xs->xs[i]?=some x,λi H=>∃xs,zr K H a xs/\xs.length<=i⟩
noncomputable def Itt(K:W.Frag)(a:Addr):It :=
 ⟨λi H=>∃xs x,zj K H a xs/\xs[i]?=some x,λi H x H'=>H'=H/\∀xs,zj K H a xs->xs[i]?=some x,λi H=>∃xs,zj K H a xs/\xs.length<=i⟩
noncomputable def Itr(lo:Int)(n:Nat):It:=⟨λi _=>i<n,λi H x H'=>H'=H/\x=.int (lo+i),λi _=>n<=i⟩
theorem XV{tg:Expr}(a it:Addr):Turn P w K tg (Itl K a) [it] it (λi h=>h.IsListIter it a i) where
 mem:=by simp
 obj:=λi h st b f=>by
  have e:b=it:=by simpa using f
  subst e;obtain⟨o,e,c,d⟩:=st;exact⟨o,e,λv z=>by rw[d]at z;cases z⟩
 keep:=λi h h' st k=>st.at λo e=>k it (by simp) o e
 item:=by
  intro X r hw n C i El s Z H E I hf st t;subst r hw n;obtain⟨xs,x,j,y⟩:=t;obtain⟨zc,B,p,hz⟩:=I.list j;obtain⟨u,hu,L⟩:=B.get y;obtain⟨f0,f1,f2,l,f4,m⟩:=hf it (by simp);refine wpAny_pyNext_list_item st p.isList (x:=u) (by simpa using hu) λh' g M=>?_
  have D:zd X El Z H { s with heap:=h' }:=I.turned (t':=s.toks) (λb o f e=>(M.2 b f).trans e) f0 f1 l f4 m;obtain⟨o,e,c,d⟩:=id g;exact⟨u,rfl,HU (s:={ s with heap:=h' }) e c d (by decide) ⟨x,H,D,L,⟨rfl,λys J=>by rw[I.list_inj J j];exact y⟩,g,λb f=>(hf b f).1⟩⟩
 done:=by
  intro X r hw n C i El s Z H E I hf st t;subst r hw n;obtain⟨xs,j,y⟩:=t;obtain⟨zc,B,p,hz⟩:=I.list j;obtain⟨f0,f1,f2,l,f4,m⟩:=hf it (by simp);have N:=B.length;exact wpAny_pyNext_list_end (I.ok.hd C) st p.isList (by simp;lia) λh' G=>⟨rfl,I.turned (t':=s.toks) (λb o f e=>G b o f e) f0 f1 l f4 m⟩
 self:=λ_ _ _ _ _ st h=>wpAny_pyIter_listiter st h
theorem aa{tg:Expr}(a it:Addr):Turn P w K tg (Itt K a) [it] it (λi h=>h.IsTupleIter it a i) where
 mem:=by simp
 obj:=λi h st b f=>by
  have e:b=it:=by simpa using f
  subst e;obtain⟨o,e,c,d⟩:=st;exact⟨o,e,λv z=>by rw[d]at z;cases z⟩
 keep:=λi h h' st k=>st.at λo e=>k it (by simp) o e
 item:=by
  intro X r hw n C i El s Z H E I hf st t;subst r hw n;obtain⟨xs,x,j,y⟩:=t;obtain⟨zc,B,p,hz⟩:=I.tuple j;obtain⟨u,hu,L⟩:=B.get y;obtain⟨f0,f1,f2,l,f4,m⟩:=hf it (by simp);refine wpAny_pyNext_tuple_item st (show s.heap.IsTuple a zc.toArray from p) (x:=u) (by simpa using hu) λh' g M=>?_
  have D:zd X El Z H { s with heap:=h' }:=I.turned (t':=s.toks) (λb o f e=>(M.2 b f).trans e) f0 f1 l f4 m;obtain⟨o,e,c,d⟩:=id g;exact⟨u,rfl,HU (s:={ s with heap:=h' }) e c d (by decide) ⟨x,H,D,L,⟨rfl,λys J=>by rw[I.tuple_inj J j];exact y⟩,g,λb f=>(hf b f).1⟩⟩
 done:=by
  intro X r hw n C i El s Z H E I hf st t;subst r hw n;obtain⟨xs,j,y⟩:=t;obtain⟨zc,B,p,hz⟩:=I.tuple j;obtain⟨f0,f1,f2,l,f4,m⟩:=hf it (by simp);have N:=B.length;exact wpAny_pyNext_tuple_end (I.ok.hd C) st (show s.heap.IsTuple a zc.toArray from p) (by simp;lia) λh' G=>⟨rfl,I.turned (t':=s.toks) (λb o f e=>G b o f e) f0 f1 l f4 m⟩
 self:=λ_ _ _ _ _ st h=>wpAny_pyIter_tupleiter st h
theorem W9{tg:Expr}(it:Addr)(lo:Int)(n:Nat):Turn P w K tg (Itr lo n) [it] it (λi h=>IsRangeIter h it (lo+(i:Nat)*1) ((n:Int)-(i:Nat)) 1) where
 mem:=by simp
 obj:=λi h st b f=>by
  have e:b=it:=by simpa using f
  subst e
  exact⟨_,st,λv z=>by
   have G:Data.fields _=Data.cell v:=z;cases G⟩
 keep:=λi h h' st k=>k it (by simp) _ st
 item:=by
  intro X p hw m r i El s Z H E I hf st u;subst p hw m;obtain⟨f0,f1,f2,j,f4,l⟩:=hf it (by simp);have W:=Walks.range (prog:=X.prog) (w:=X.w) (I.ok.hd r) it lo 1 n;refine W.item i s _ _ u st λv h' x C g D=>?_
  obtain⟨t,rfl⟩:=C;have y:zd X El Z H { s with heap:=h',toks:=x }:=I.turned (λb o f e=>D b o (by simpa using f) e) f0 f1 j f4 l;refine⟨_,rfl,HU (s:={ s with heap:=h',toks:=x }) (n:="range_iterator") g rfl rfl (by decide) ⟨.int (lo+i),H,y,⟨t,?_⟩,⟨rfl,rfl⟩,g,λb f=>(hf b f).1⟩⟩;rw[ZCs]
 done:=by
  intro X p hw m r i El s Z H E I hf st u;subst p hw m;obtain⟨f0,f1,f2,j,f4,l⟩:=hf it (by simp);exact wpAny_pyNext_range_end (I.ok.hd r) st (by have:n<=i:=u;lia) λh' B=>⟨rfl,I.turned (t':=s.toks) (λb o f e=>B b o f e) f0 f1 j f4 l⟩
 self:=λ_ _ _ _ _ st h=>wpAny_pyIter_rangeiter st h
section
variable {X:Cx}{tg:Expr}
theorem P4 {R:It->Hp->Prop} {lo hi:Int} {t u v:Tok} {z:Nat} (I:zd X El Z H s) (h1 : -(2^62)<=lo) (h2:lo<2^62) (G : -(2^62)<=hi) (O:hi<2^62)
 (q:R (Itr lo (hi-lo).toNat) H):wpAny (model X.prog X.w) X.A (pyIter (.ref s.heap.objs.size)) (PIE X El Z tg R) E { s with heap:=s.heap.push { cls:=.type "range",data:=.fields #[.int lo t,.int hi u,.int 1 v] },toks:=z }:=by
 refine wpAny_pyIter_range (IsRange.new ..) (small_one h1 h2 G O) ?_;have f:zd X El Z H { s with heap:=s.heap.push { cls:=.type "range",data:=.fields #[.int lo t,.int hi u,.int 1 v] },toks:=z }:=I.kept λb o e=>ZBG _ e
 refine⟨(s.heap.push { cls:=.type "range",data:=.fields #[.int lo t,.int hi u,.int 1 v] }).objs.size,[(s.heap.push { cls:=.type "range",data:=.fields #[.int lo t,.int hi u,.int 1 v] }).objs.size],_,_,H,rfl,
  f.kept (t':=z) λb o e=>ZBG _ e,W9 _ lo (hi-lo).toNat,?_,λb i=>?_,q⟩
 ·have g:lo+((0:Nat):Int)*1=lo:=by simp
  have e2:(((hi-lo).toNat:Nat):Int)-((0:Nat):Int)=Builtin.Range.rangeSize lo hi 1:=by rw[rangeSize_one];split <;> lia
  show IsRangeIter _ _ (lo+((0:Nat):Int)*1) ((((hi-lo).toNat:Nat):Int)-((0:Nat):Int)) 1;rw[g,e2];exact ZBP _ rfl
 ·have e:b=(s.heap.push { cls:=.type "range",data:=.fields #[.int lo t,.int hi u,.int 1 v] }).objs.size:=by simpa using i
  subst e;exact f.fpOk (ZBD _) (f.hok.fresh (ZBD _))
noncomputable def NW(ta:TA):TI:=λZ H R=>ta Z H λvs H1=>∃j:Int,vs=[.int j] /\ -(2^62)<=j/\j<2^62/\R (Itr 0 j.toNat) H1
noncomputable def QW(ta:TA):TI:=λZ H R=>ta Z H λvs H1=>∃i j:Int,vs=[.int i,.int j]/\(-(2^62)<=i/\i<2^62 /\ -(2^62)<=j/\j<2^62)/\R (Itr i (j-i).toNat) H1
theorem BG{a:Expr}{ta:TA}{p:Pos}(z:Gl X "range")(hm:X.mg "range" = none)(ha:PA X [a] ta)(hs:starEach [a] X.env=[(false,eval a X.env)]:=by rfl):PI X tg (.Call (.Name "range" p) [a] [] pos) (NW ta):=by
 intro El s Z H R I h;refine Call_ (CO I z hm boot_range (PyProof.Rows.callWith_type1 (zm (ha pos El s Z H _ I h) λus s1 ⟨vs,H1,g,r1,f⟩=>?_) hs rfl));obtain⟨j,e,f,i,q⟩:=f;subst e;cases r1 with
 | cons r k =>
  cases k;obtain⟨t,rfl⟩:=r;exact call_range_1 (P4 g (by lia) (by lia) f i (by simpa using q))
theorem X8{a b:Expr}{ta:TA}{p:Pos}(G:Gl X "range")(hm:X.mg "range" = none)(ha:PA X [a,b] ta)(hs:starEach [a,b] X.env=[(false,eval a X.env),(false,eval b X.env)]:=by rfl)(z:starEach [b] X.env=[(false,eval b X.env)]:=by rfl) :
 PI X tg (.Call (.Name "range" p) [a,b] [] pos) (QW ta):=by
 intro El s Z H R I h;refine Call_ (CO I G hm boot_range (PyProof.Rows.callWith_type1 (zm (ha pos El s Z H _ I h) λus s1 ⟨vs,H1,k,r1,f⟩=>?_) (by rw[hs,z]) (by rw[z];rfl)));obtain⟨i,j,e,⟨f,l,m,n⟩,q⟩:=f;subst e;cases r1 with
 | cons r g =>
  cases g with
  | cons o g =>
   cases g;obtain⟨t,rfl⟩:=r;obtain⟨t',rfl⟩:=o;exact call_range_2 (P4 k f l m n q)
noncomputable def RV(wi:TI)(g:TG)(tb:TS):TS:=λD Z H=>wi Z H λJ H1=>∃W:Nat->Nat->St->Hp->Prop,(∃m,W 0 m Z H1)/\∀i m Z H,W i m Z H ->
 (J.stop i H/\D.nx Z H)\/(J.go i H/\∃N:St->Hp->Prop,(∀f H',N f H'->∃k,k<m/\W (i+1) k f H')/\∀x H',J.yld i H x H'->g x Z H' λj H2=>tb { D with nx:=N,ct:=N,bk:=D.nx } j H2)
noncomputable def Cf(fp:List Addr)(h:Heap):List (Addr×Obj):=fp.filterMap λb=>(h.get? b).map λo=>(b,o)
theorem C4{fp:List Addr}{o:Obj}(z:b∈fp)(e:h.get? b=some o):(b,o)∈Cf fp h:=ZDJ.mpr ⟨b,z,by rw[e];rfl⟩
theorem IY{fp:List Addr}{p:Addr×Obj}(z:p∈Cf fp h):p.1∈fp/\h.get? p.1=some p.2:=by
 obtain⟨b,g,e⟩:=ZDJ.mp z;cases q:h.get? b with
 | none=>rw[q]at e;cases e
 | some o =>
  rw[q]at e;have f:(b,o)=p:=ZBQ e;subst f;exact⟨g,q⟩
theorem zd.pinned{fp:List Addr}(I:zd X El Z H s)(hf:∀b∈fp,BD X El H b)(G:∀b∈fp,∃o,s.heap.get? b=some o/\∀v,o.data≠.cell v):zd X (El++Cf fp s.heap) Z H s :=
 I.pins_of λp i=>(ZCB.mp i).elim (λz=>I.pin p (ZBe _ z)) λz=>by
  obtain⟨g,e⟩:=IY z;obtain⟨f0,f1,f2,_⟩:=hf p.1 g;obtain⟨o,f,d⟩:=G p.1 g;rw[e]at f;cases f;exact⟨e,f0,f1,f2,d⟩
theorem zd.unpinned{pl:List (Addr×Obj)}(I:zd X (El++pl) Z H s):zd X El Z H s:=I.pins_of λp f=>I.pin p (ZBe _ (ZCK _ f))
theorem CU {iter:Expr} {body:List Stmt} {wi:TI} {g:TG} {tb:TS} {pos:Pos} (O:PassesOwn (model X.prog X.w) X.A X.env X.xe) (hc:X.calm=true) (hi:PI X tg iter wi) (hg:PG X tg g) (z:PSs X body tb)
 (hs:∀x,foldedSetIterable iter X.env x=pure x:=by intro _;rfl):PS X (.For tg iter body [] pos) (RV wi g tb):=by
 intro El s Z H D I h;refine wpAny_For (zm (hi El s Z H _ I h) λv s1 h1=>zm h1 λa0 s2 h2=>?_) hs;obtain⟨it,fp,tn,J,H2,e,I2,T,U,f2,W,⟨m0,w0⟩,turn⟩:=h2;subst e
 have p:∀{H':Hp},(∀b∈fp,H' b=none)->∀b∈fp,BD X El H' b:=λhn b z=>⟨hn b z,(f2 b z).2⟩
 refine codeAny_forLoop_any (λn s'=>∃i t H',zd X El t H' s'/\tn i s'.heap/\(∀b∈fp,H' b=none)/\W i n t H') ?_ m0 ⟨0,Z,H2,I2,U,λb z=>(f2 b z).1,w0⟩;rintro n s3 ⟨i,y,M,I3,L,G,w3⟩
 rcases turn i n y M w3 with ⟨stop,qn⟩ | ⟨go,N,hN,step⟩
 ·refine wpAny_passesOwn O (zm (T.done X rfl rfl rfl hc i El s3 y M X.xe I3 (p G) L stop) λr s4 ⟨hr,I4⟩=>?_);subst hr;exact wpAny_execs_nil ⟨y,M,I4,qn⟩
 ·refine wpAny_passesOwn O (zm (T.item X rfl rfl rfl hc i El s3 y M X.xe I3 (p G) L go) λr s4 ⟨u,hr,h4⟩=>?_);subst hr;refine wpAny_passesOwn O (zm h4 λ_ s5 ⟨x,Y,I5,r5,y5,C,R⟩=>?_);have P:=I5.pinned (p R) (T.obj _ _ C);refine wpAny_passesOwn O (zm (hg _ s5 y Y x u _ P r5 (step x Y y5)) λ_ s6 ⟨V,H6,I6,q6⟩=>?_);refine wpAny_passesOwn O (zm (z _ s6 V H6 _ I6 q6) λf S B=>?_)
  have again:∀{j:St} {k:Hp},zd X (El++Cf fp s5.heap) j k S->N j k->∃m,m<n/\∃i t H',zd X El t H' S/\tn i S.heap/\(∀b∈fp,H' b=none)/\W i m t H':=λ{j k} l K=>by
   obtain⟨m',hm,w7⟩:=hN j k K;refine⟨m',hm,i+1,j,k,l.unpinned,T.keep _ _ _ C λb z o e=>(l.pin (b,o) (ZBe _ (ZBe _ (C4 z e)))).1,λb z=>?_,w7⟩;obtain⟨o,e,d⟩:=T.obj _ _ C b z;exact(l.pin (b,o) (ZBe _ (ZBe _ (C4 z e)))).2.1
  cases f with
  | next=>obtain⟨j,k,l,K⟩:=B;exact again l K
  | cont=>obtain⟨j,k,l,K⟩:=B;exact again l K
  | brk=>obtain⟨j,k,l,B⟩:=B;exact⟨j,k,l.unpinned,B⟩
  | ret v=>obtain⟨x7,j,k,l,r7,B⟩:=B;exact⟨x7,j,k,l.unpinned,r7,B⟩
end
theorem YX {xs:List V} {g:TG} {tb:TS} {D:Ends} (Pv:Nat->St->Hp->Prop) (h0:Pv 0 Z H) (U:∀i Z H,i<=xs.length->Pv i Z H->zr K H a xs)
 (hs:∀i x Z H,xs[i]?=some x->Pv i Z H->g x Z H λG H2=>tb { D with nx:=Pv (i+1),ct:=Pv (i+1),bk:=D.nx } G H2) (hd:∀Z H,Pv xs.length Z H->D.nx Z H) :
 ∃W:Nat->Nat->St->Hp->Prop,(∃m,W 0 m Z H)/\∀i m Z H,W i m Z H ->
  ((Itl K a).stop i H/\D.nx Z H)\/((Itl K a).go i H/\∃N:St->Hp->Prop,(∀z H',N z H'->∃O,O<m/\W (i+1) O z H')/\∀x H',(Itl K a).yld i H x H'->g x Z H' λG H2=>tb { D with nx:=N,ct:=N,bk:=D.nx } G H2):=by
 refine⟨λi m Z H=>m=xs.length-i/\i<=xs.length/\Pv i Z H,⟨xs.length,by simp,ZBT _,h0⟩,?_⟩;rintro i m Z H ⟨rfl,hi,p⟩;have q:=U i Z H hi p
 by_cases zn:i<xs.length
 ·refine .inr ⟨⟨xs,xs[i],q,by simp[zn]⟩,Pv (i+1),λz H' f=>⟨xs.length-(i+1),by lia,rfl,zn,f⟩,λx H' y=>?_⟩;obtain⟨e,y⟩:=y;subst e;exact hs i x Z _ (y xs q) p
 ·have e:i=xs.length:=by lia
  subst e;exact .inl ⟨⟨xs,q,ZBD _⟩,hd Z H p⟩
theorem Ko {xs:List V} {g:TG} {tb:TS} {D:Ends} (Pv:Nat->St->Hp->Prop) (h0:Pv 0 Z H) (U:∀i Z H,i<=xs.length->Pv i Z H->zj K H a xs)
 (hs:∀i x Z H,xs[i]?=some x->Pv i Z H->g x Z H λG H2=>tb { D with nx:=Pv (i+1),ct:=Pv (i+1),bk:=D.nx } G H2) (hd:∀Z H,Pv xs.length Z H->D.nx Z H) :
 ∃W:Nat->Nat->St->Hp->Prop,(∃m,W 0 m Z H)/\∀i m Z H,W i m Z H ->
  ((Itt K a).stop i H/\D.nx Z H)\/((Itt K a).go i H/\∃N:St->Hp->Prop,(∀z H',N z H'->∃O,O<m/\W (i+1) O z H')/\∀x H',(Itt K a).yld i H x H'->g x Z H' λG H2=>tb { D with nx:=N,ct:=N,bk:=D.nx } G H2):=by
 refine⟨λi m Z H=>m=xs.length-i/\i<=xs.length/\Pv i Z H,⟨xs.length,by simp,ZBT _,h0⟩,?_⟩;rintro i m Z H ⟨rfl,hi,p⟩;have q:=U i Z H hi p
 by_cases zn:i<xs.length
 ·refine .inr ⟨⟨xs,xs[i],q,by simp[zn]⟩,Pv (i+1),λz H' f=>⟨xs.length-(i+1),by lia,rfl,zn,f⟩,λx H' y=>?_⟩;obtain⟨e,y⟩:=y;subst e;exact hs i x Z _ (y xs q) p
 ·have e:i=xs.length:=by lia
  subst e;exact .inl ⟨⟨xs,q,ZBD _⟩,hd Z H p⟩
theorem DH {lo:Int} {n:Nat} {g:TG} {tb:TS} {D:Ends} (Pv:Nat->St->Hp->Prop) (h0:Pv 0 Z H)
 (hs:∀i Z H,i<n->Pv i Z H->g (.int (lo+i)) Z H λG H2=>tb { D with nx:=Pv (i+1),ct:=Pv (i+1),bk:=D.nx } G H2) (hd:∀Z H,Pv n Z H->D.nx Z H) :
 ∃W:Nat->Nat->St->Hp->Prop,(∃m,W 0 m Z H)/\∀i m Z H,W i m Z H ->
  ((Itr lo n).stop i H/\D.nx Z H)\/((Itr lo n).go i H/\∃N:St->Hp->Prop,(∀z H',N z H'->∃O,O<m/\W (i+1) O z H')/\∀x H',(Itr lo n).yld i H x H'->g x Z H' λG H2=>tb { D with nx:=N,ct:=N,bk:=D.nx } G H2):=by
 refine⟨λi m Z H=>m=n-i/\i<=n/\Pv i Z H,⟨n,by simp,ZBT _,h0⟩,?_⟩;rintro i m Z H ⟨rfl,hi,p⟩
 by_cases zn:i<n
 ·refine .inr ⟨zn,Pv (i+1),λz H' f=>⟨n-(i+1),by lia,rfl,zn,f⟩,λx H' y=>?_⟩;obtain⟨e,y⟩:=y;subst e y;exact hs i Z _ zn p
 ·have e:i=n:=by lia
  subst e;exact .inl ⟨ZBD _,hd Z H p⟩
noncomputable abbrev R2:=V->V->Hp->VK->Prop
noncomputable def zv(X:Cx)(f:Value->Value->Sem Value)(r:R2):Prop :=
 ∀(El:List (Addr×Obj)) (s:Shared) (Z:St) (H:Hp) (x y:V) (v u:Value) (Q:VK),zd X El Z H s->zi x v->zi y u->r x y H Q ->
  wpAny (model X.prog X.w) X.A (f v u) (EP X El Z Q) X.xe s
noncomputable def UnR(X:Cx)(f:Value->Sem Value)(r:V->Hp->VK->Prop):Prop :=
 ∀(El:List (Addr×Obj)) (s:Shared) (Z:St) (H:Hp) (x:V) (v:Value) (Q:VK),zd X El Z H s->zi x v->r x H Q ->
  wpAny (model X.prog X.w) X.A (f v) (EP X El Z Q) X.xe s
noncomputable def CallR(X:Cx)(f:Value)(r:List V->Hp->VK->Prop):Prop :=
 ∀(El:List (Addr×Obj)) (s:Shared) (Z:St) (H:Hp) (xs:List V) (us:List Value) (Q:VK),zd X El Z H s->zh xs us->r xs H Q ->
  wpAny (model X.prog X.w) X.A (call f us) (EP X El Z Q) X.xe s
noncomputable def tOp(r:R2)(ta tb:TE):TE:=λZ H Q=>ta Z H λx H1=>tb Z H1 λy H2=>r x y H2 Q
noncomputable def tUn(r:V->Hp->VK->Prop)(ta:TE):TE:=λZ H Q=>ta Z H λx H1=>r x H1 Q
noncomputable def rI(C:Int->Int->Prop)(g:Int->Int->V):R2:=λx y H Q=>∃i j,x=.int i/\y=.int j/\C i j/\Q (g i j) H
noncomputable def rI0(g:Int->Int->V):R2:=λx y H Q=>∃i j,x=.int i/\y=.int j/\Q (g i j) H
noncomputable def rU(g:Int->V):V->Hp->VK->Prop:=λx H Q=>∃i,x=.int i/\Q (g i) H
section
variable {X:Cx}{a b c:Expr}{ta tb tc:TE}{pos:Pos}
theorem Mv (ha:PE X a ta) (O:PE X b tb) {R:V->V->Hp->Prop} (I:zd X El Z H s)
 (h:ta Z H λx H1=>tb Z H1 λy H2=>R x y H2) {f:Value->Value->Sem Value}
 (hf:∀v u s2 x y H2,zd X El Z H2 s2->zi x v->zi y u->R x y H2->wpAny (model X.prog X.w) X.A (f v u) Q X.xe s2) :
 wpAny (model X.prog X.w) X.A (eval a X.env) (λv z=>wpAny (model X.prog X.w) X.A (eval b X.env) (λu G=>wpAny (model X.prog X.w) X.A (f v u) Q X.xe G) X.xe z) X.xe s:=by
 refine zm (ha El s Z H _ I h) λv s1 ⟨x,H1,g,r1,j⟩=>?_
 refine zm (O El s1 Z H1 _ g j) λu s2 ⟨y,H2,i,l,k⟩=>?_
 exact hf v u s2 x y H2 i r1 l k
theorem AQ{op:Operator}{r:R2}(G:zv X (binaryOp op) r)(ha:PE X a ta)(z:PE X b tb):PE X (.BinOp a op b pos) (tOp r ta tb):=by
 intro El s Z H Q I h;exact wpAny_BinOp (Mv ha z I h λv u s2 x y H2 f g i q=>G El s2 Z H2 x y v u Q f g i q)
theorem FL{op:UnaryOp}{r:V->Hp->VK->Prop}(z:UnR X (unaryOp op) r)(ha:PE X a ta):PE X (.UnaryOp op a pos) (tUn r ta):=by
 intro El s Z H Q I h;exact UnaryOp_ (zm (ha El s Z H _ I h) λv s1 ⟨x,H1,f,r1,g⟩=>z El s1 Z H1 x v Q f r1 g)
theorem opI {f:Value->Value->Sem Value} {C:Int->Int->Prop} {g:Int->Int->Int}
 (rule:∀(i j:Int) (t u:Tok) (s:Shared) (Q:Value->Shared->Prop) (E:Value->Shared->Prop),C i j->Q (.int (g i j) s.toks) { s with toks:=s.toks+1 } -> wpAny (model X.prog X.w) X.A (f (.int i t) (.int j u)) Q E s) :
 zv X f (rI C λi j=>.int (g i j)):=by
 intro El s Z H x y v u Q I l m h;obtain⟨i,j,rfl,rfl,k,q⟩:=h;obtain⟨t,rfl⟩:=l;obtain⟨t',rfl⟩:=m;exact rule i j t t' s _ _ k ⟨.int (g i j),H,I.tok _,⟨_,rfl⟩,q⟩
theorem Fo {f:Value->Value->Sem Value} {g:Int->Int->Int}
 (rule:∀(i j:Int) (t u:Tok) (s:Shared) (Q:Value->Shared->Prop) (E:Value->Shared->Prop),Q (.int (g i j) s.toks) { s with toks:=s.toks+1 } -> wpAny (model X.prog X.w) X.A (f (.int i t) (.int j u)) Q E s) :
 zv X f (rI0 λi j=>.int (g i j)):=by
 intro El s Z H x y v u Q I k l h;obtain⟨i,j,rfl,rfl,q⟩:=h;obtain⟨t,rfl⟩:=k;obtain⟨t',rfl⟩:=l;exact rule i j t t' s _ _ ⟨.int (g i j),H,I.tok _,⟨_,rfl⟩,q⟩
theorem J9 {f:Value->Value->Sem Value} {g:Int->Int->Bool}
 (rule:∀(i j:Int) (t u:Tok) (s:Shared) (Q:Value->Shared->Prop) (E:Value->Shared->Prop),Q (.bool (g i j)) s->wpAny (model X.prog X.w) X.A (f (.int i t) (.int j u)) Q E s) :
 zv X f (rI0 λi j=>.bl (g i j)):=by
 intro El s Z H x y v u Q I k l h;obtain⟨i,j,rfl,rfl,q⟩:=h;obtain⟨t,rfl⟩:=k;obtain⟨t',rfl⟩:=l;exact rule i j t t' s _ _ ⟨.bl (g i j),H,I,rfl,q⟩
def N9(i j:Int):Prop:=0<=j/\j<=1000000/\i.natAbs<2^64
def CMul(i j:Int):Prop:=(-(2^64)<i/\i<2^64)\/(-(2^64)<j/\j<2^64)
theorem CMul.ok{i j:Int}(h:CMul i j):IntMulOk i j:=by
 rcases h with ⟨h1,h2⟩ | ⟨h1,h2⟩
 ·exact .of_left (intBits_le_64 h1 h2)
 ·exact .of_right (intBits_le_64 h1 h2)
theorem bj:zv X (binaryOp .Add) (rI0 λi j=>.int (i+j)):=Fo λ_ _ _ _ _ _ _ q=>add_int q
theorem YD:zv X (binaryOp .Sub) (rI0 λi j=>.int (i-j)):=Fo λ_ _ _ _ _ _ _ q=>sub_int q
theorem WY:zv X (binaryOp .Mod) (rI (λ_ j=>0<j) λi j=>.int (i%j)):=opI λi j _ _ _ _ _ f q=>by
 have h1:(0:Int)<j:=f;exact mod_int' (by lia) (by rw[Int.fmod_eq_emod_of_nonneg i (by lia)];exact q)
theorem Wa:zv X (binaryOp .Pow) (rI N9 λi j=>.int (i^j.toNat)):=opI λ_ _ _ _ _ _ _ f q=>pow_int_small f.1 f.2.1 f.2.2 q
theorem Sj:zv X (binaryOp .BitAnd) (rI0 λi j=>.int (Builtin.bitAnd i j)):=Fo λ_ _ _ _ _ _ _ q=>and_int q
theorem SV:zv X (binaryOp .BitOr) (rI0 λi j=>.int (Builtin.bitOr i j)):=Fo λ_ _ _ _ _ _ _ q=>or_int q
theorem Sc:zv X (binaryOp .BitXor) (rI0 λi j=>.int (Builtin.bitXor i j)):=Fo λ_ _ _ _ _ _ _ q=>xor_int q
theorem unI {f:Value->Sem Value} {g:Int->Int}
 (rule:∀(i:Int) (t:Tok) (s:Shared) (Q:Value->Shared->Prop) (E:Value->Shared->Prop),Q (.int (g i) s.toks) { s with toks:=s.toks+1 } -> wpAny (model X.prog X.w) X.A (f (.int i t)) Q E s) :
 UnR X f (rU λi=>.int (g i)):=by
 intro El s Z H x v Q I j h;obtain⟨i,rfl,q⟩:=h;obtain⟨t,rfl⟩:=j;exact rule i t s _ _ ⟨.int (g i),H,I.tok _,⟨_,rfl⟩,q⟩
theorem Vg:UnR X (unaryOp .USub) (rU λi=>.int (-i)):=unI λ_ _ _ _ _ q=>neg_int q
end
section
variable {X:Cx}{a b c:Expr}{ta tb tc:TE}{pos:Pos}
theorem PX{Q:VK}{k z:Bool}(I:zd X El Z H s)(q:Q (.bl k) H)(e:k=z):EP X El Z Q (.bool z) s:=by
 subst e;exact⟨.bl k,H,I,rfl,q⟩
theorem YT:zv X (compareOp .Lt) (rI0 λi j=>.bl (decide (i<j))):=J9 λ_ _ _ _ _ _ _ q=>lt_int q
theorem YN:zv X (compareOp .LtE) (rI0 λi j=>.bl (decide (i<=j))):=J9 λ_ _ _ _ _ _ _ q=>le_int q
theorem W1:zv X (compareOp .Gt) (rI0 λi j=>.bl (decide (j<i))):=J9 λ_ _ _ _ _ _ _ q=>gt_int q
theorem XH:zv X (compareOp .Is) (λx y H Q=>y=.non/\Q (.bl (decide (x=.non))) H):=by
 intro El s Z H x y v u Q I f g h;obtain⟨rfl,q⟩:=h;cases g;refine is_none_gen (PX I q ?_)
 cases x <;> first
  | (cases f;rfl)
  | (obtain⟨t,rfl⟩:=f;rfl)
theorem Sq:zv X (compareOp .IsNot) (λx y H Q=>y=.non/\Q (.bl (!decide (x=.non))) H):=by
 intro El s Z H x y v u Q I f g h;obtain⟨rfl,q⟩:=h;cases g;refine isnot_none_gen (PX I q ?_)
 cases x <;> first
  | (cases f;rfl)
  | (obtain⟨t,rfl⟩:=f;rfl)
theorem bp{op:CmpOp}{r:R2}(G:zv X (compareOp op) r)(ha:PE X a ta)(z:PE X b tb)(hm:behindInMarks op b=false):PE X (.Compare a [op] [b] pos) (tOp r ta tb):=by
 intro El s Z H Q I h;exact wpAny_Compare1 (Mv ha z I h λv u s2 x y H2 f g i q=>G El s2 Z H2 x y v u Q f g i q) hm
theorem Ex:(sizeLine:Nat)<2^63:=by rw[sizeLine_eq];decide
theorem VW:zv X (binaryOp .Add) (λx y H Q=>∃i j,x=.str i/\y=.str j/\i.length+j.length<=sizeLine/\Q (.str (i++j)) H):=by
 intro El s Z H x y v u Q I f g h;obtain⟨i,j,rfl,rfl,hz,q⟩:=h;obtain⟨t,rfl⟩:=f;obtain⟨t',rfl⟩:=g;exact add_str (λt' k=>⟨.str (i++j),H,I.tok _,⟨_,rfl⟩,q⟩) hz
theorem Bx{x:V}(r:zh [x] us):∃u,us=[u]/\zi x u:=by
 cases r with
 | cons r1 f=>cases f;exact⟨_,rfl,r1⟩
theorem Hm{x y:V}(r:zh [x,y] us):∃u z,us=[u,z]/\zi x u/\zi y z:=by
 cases r with
 | cons r1 f =>
  cases f with
  | cons g i=>cases i;exact⟨_,_,rfl,r1,g⟩
theorem call_abs:CallR X (.builtin "abs") (λxs H Q=>∃i,xs=[.int i]/\Q (.int (if i<0 then -i else i)) H):=by
 intro El s Z H xs us Q I r h;obtain⟨i,rfl,q⟩:=h;obtain⟨u,rfl,t,rfl⟩:=Bx r;exact call_abs_int λu f=>⟨.int (if i<0 then -i else i),H,I.tok _,⟨_,rfl⟩,q⟩
theorem ba(z:X.calm=true):CallR X (.builtin "max") (λxs H Q=>∃i j,xs=[.int i,.int j]/\Q (.int (if j>i then j else i)) H):=by
 intro El s Z H xs us Q I r h;obtain⟨i,j,rfl,q⟩:=h;obtain⟨u,l,rfl,⟨t,rfl⟩,⟨t',rfl⟩⟩:=Hm r;refine max_two_ints (I.ok.hd z) λh' g k=>⟨_,H,I.kept k,?_,q⟩
 by_cases f:j>i
 ·rw[if_pos f,if_pos f];exact⟨_,rfl⟩
 ·rw[if_neg f,if_neg f];exact⟨_,rfl⟩
theorem Yp(z:X.calm=true):CallR X (.builtin "min") (λxs H Q=>∃i j,xs=[.int i,.int j]/\Q (.int (if j<i then j else i)) H):=by
 intro El s Z H xs us Q I r h;obtain⟨i,j,rfl,q⟩:=h;obtain⟨u,l,rfl,⟨t,rfl⟩,⟨t',rfl⟩⟩:=Hm r;refine min_two_ints (I.ok.hd z) λh' g k=>⟨_,H,I.kept k,?_,q⟩
 by_cases f:j<i
 ·rw[if_pos f,if_pos f];exact⟨_,rfl⟩
 ·rw[if_neg f,if_neg f];exact⟨_,rfl⟩
theorem call_int1:CallR X (.type "int") (λxs H Q=>(∃i,xs=[.int i]/\Q (.int i) H)\/∃k,xs=[.bl k]/\Q (.int (if k then 1 else 0)) H):=by
 intro El s Z H xs us Q I r h
 rcases h with ⟨i,rfl,q⟩ | ⟨k,rfl,q⟩
 ·obtain⟨u,rfl,t,rfl⟩:=Bx r;exact call_int_int ⟨.int i,H,I,⟨_,rfl⟩,q⟩
 ·obtain⟨u,rfl,r1⟩:=Bx r;cases r1;exact call_int_bool ⟨.int (if k then 1 else 0),H,I.tok _,⟨_,rfl⟩,q⟩
noncomputable def M1(K:W.Frag)(x:V)(H:Hp)(n:Nat):Prop :=
 match x with
 | .str y=>y.length<=sizeLine/\n=y.length
 | .byt y=>y.size<=sizeLine/\n=y.size
 | .ref p=>(∃xs,zr K H p xs/\n=xs.length)\/∃xs,zj K H p xs/\n=xs.length
 | _=>False
theorem call_len:CallR X (.builtin "len") (λxs H Q=>∃x n,xs=[x]/\M1 X.K x H n/\Q (.int n) H):=by
 intro El s Z H xs us Q I r h;obtain⟨x,n,rfl,e,q⟩:=h;obtain⟨u,rfl,j⟩:=Bx r;have m:=Ex;have hs:sizeLine=16777216:=sizeLine_eq;cases x with
 | str y =>
  obtain⟨t,rfl⟩:=j;obtain⟨l,f⟩:y.length<=sizeLine/\n=y.length:=e;subst f;exact len_str (by lia) ⟨.int _,H,I.tok _,⟨_,rfl⟩,q⟩
 | byt y =>
  obtain⟨t,rfl⟩:=j;obtain⟨l,f⟩:y.size<=sizeLine/\n=y.size:=e;subst f;exact PySem.W.len_bytes (by lia) ⟨.int _,H,I.tok _,⟨_,rfl⟩,q⟩
 | ref p =>
  cases j;have f:(∃xs,zr X.K H p xs/\n=xs.length)\/∃xs,zj X.K H p xs/\n=xs.length:=e
  rcases f with ⟨xs,g,f⟩ | ⟨xs,g,f⟩
  ·subst f;obtain⟨zc,i,pl,hz⟩:=I.list g;have k:=i.length;exact Calls.call_len_list pl.isList (by simp only[ZBM];lia) ⟨.int xs.length,H,I.tok _,⟨_,by simp only[ZBM];rw[k]⟩,q⟩
  ·subst f;obtain⟨zc,i,pl,hz⟩:=I.tuple g;have k:=i.length;exact len_tuple pl (by simp only[ZBM];lia) ⟨.int xs.length,H,I.tok _,⟨_,by simp only[ZBM];rw[k]⟩,q⟩
 | _=>exact(show False from e).elim
end
structure ObjM(h:Heap)(x dx C:Addr)(mA:Str->Option Value):Prop where
 obj:h.get? x=some (PySem.W.instObj C dx)
 ns:h.Ns1 dx mA
 ne:dx≠x
theorem WQ{dx:Addr}{mA:Str->Option Value}(n:h.Ns1 dx mA):∃od,h.get? dx=some od/\∀name,PySem.W.lookIn name od=some (mA name):=by
 obtain⟨o,es,l,j,hd,i,_,hm⟩:=n;refine⟨o,j,λname=>?_⟩;have e:=hm name;unfold nsFind findBy at e;rw[<- Array.find?_toList]at e;unfold PySem.W.lookIn;rw[hd];dsimp only;split
 ·rename_i y q;rw[q]at e;exact congrArg some e
 ·rename_i q;rw[q]at e
  have a:es.toList.any (·.refKey)=false:=by
   rw[List.any_eq_false];intro y k;obtain⟨z,t,f⟩:=i y (Array.mem_toList_iff.mp k);simp[DictEntry.refKey,f]
  have g:¬es.toList.any (·.refKey)=true:=by rw[a];exact ZBz
  rw[if_neg g];exact congrArg some e
theorem ObjM.look{x dx:Addr}{mA:Str->Option Value}(I:ObjM h x dx C mA):∃od,PySem.W.InstAt h x (PySem.W.instObj C dx) C (some od)/\∀name,PySem.W.lookIn name od=some (mA name) :=
 let ⟨od,g,f⟩:=WQ I.ns
 ⟨od,⟨I.obj,rfl,rfl,g⟩,f⟩
section
variable {prog:Program}{w:World}{A:Around}{E:Value->Shared->Prop}{s:Shared}{K:W.Frag}{x dx C f:Addr}{mA:Str->Option Value}{name:Str}{v:Value}
theorem U9 {expr:Bool} (X:K.In s.heap) (I:ObjM s.heap x dx C mA) (G:PySem.W.plainGet K C name=true) (O:PySem.W.hasDictIn K C=true)
 (ha:PySem.W.findIn K (.ref C) name=some none) (U:mA name=some v) (z:PySem.W.handedIn v=true) (h:Q v { s with toks:=s.toks+1 }) :
 wpAny (model prog w) A (getAttr (.ref x) name expr) Q E s:=by
 obtain⟨od,J,f⟩:=I.look;exact PySem.W.get_value X J (PySem.W.plainGet_of G).1 (PySem.W.findObj_own O ha rfl (by rw[f,U])) z h
theorem Xc {pl:Sem Bool} {Q:Value×List Value->Shared->Prop} (X:K.In s.heap) (I:ObjM s.heap x dx C mA) (z:PySem.W.plainGet K C name=true)
 (hf:PySem.W.findIn K (.ref C) name=some (some (.ref f))) (G:PySem.W.isFn K (.ref f)=true) (O:mA name=none) (h:Q (.ref f,[.ref x]) s) :
 wpAny (model prog w) A (getMethod (.ref x) name pl) Q E s:=by
 obtain⟨od,J,g⟩:=I.look;exact PySem.W.method_fn X J (PySem.W.plainGet_of z).1 (PySem.W.plainGet_of z).2 hf (beq_iff_eq.mp G) (by show(PySem.W.lookIn name od).map (·.isSome)=some false;rw[g,O];rfl) h
theorem U1 {ns:List Str} {Q:Unit->Shared->Prop} (X:K.In s.heap) (I:ObjM s.heap x dx C mA)
 (hs:PySem.W.findIn K (.ref C) "__setattr__" = some (some (.builtin "object.__setattr__"))) (G:PySem.W.plainOver K C=true) (O:PySem.W.takerIn K C name=some none) (z:PySem.W.hasDictIn K C=true)
 (hw:PySem.Within mA ns) (hsz:ns.length<=sizeLine)
 (h:∀h',ObjM h' x dx C (λy=>if y=name then some v else mA y)->Heap.SameBut dx s.heap h'->Q () { s with heap:=h',toks:=s.toks+2 }) :
 wpAny (model prog w) A (setAttr (.ref x) name v) Q E s:=by
 obtain⟨od,J,t⟩:=I.look;refine PySem.W.set_plain X J hs (PySem.W.osa_open (s:={ s with toks:=s.toks+1 }) (r:=none) X J G O λb=>?_);obtain⟨cd,o,j⟩:=PySem.W.any_some z;have p:s.heap.get? x=some ⟨.ref C,some dx,.plain,#[]⟩:=I.obj;refine ZBA (ZBC (ZBA (ZBA (wpAny_loadPart p (ZBA (PySem.W.Looks.here (s:={ s with toks:=s.toks+1 }) (PySem.W.looks_clsIn X o) ?_))))));rw[j];refine ZBC (a:=some dx) (ZBA (ZBC (ZBA ?_)));refine wpAny_nsSet1 (s:={ s with toks:=s.toks+1 }) I.ns λh' f g=>?_
 obtain⟨u,n,m,l,k,i⟩:=f.count (PySem.Within.cons name v hw);refine ZBA (wpAny_lookBehind l (by rw[k];exact pastItsLine_dict (ZBq i (by rw[ZCF];lia))) ?_);exact ZBC (h _ ⟨(g.2 _ (Ne.symm I.ne)).trans I.obj,f,I.ne⟩ g)
theorem WI {R:Result->Shared->Prop} {vs:List Value} {kw:List (Str×Value)} (X:K.In s.heap) (hm:PySem.W.makesIn K C=true)
 (hi:PySem.W.findIn K (.ref C) "__init__" = some (some (.ref f))) (hf:PySem.W.typeIn K (.ref f)=some (.type "function"))
 (h:codeAny (model prog w) (A.under (.builtin "type.__call__" ⟨.ref C::vs,kw⟩)) (.call (.ref f) ⟨.ref (s.heap.objs.size+1)::vs,kw⟩) (PySem.W.InitBack (s.heap.objs.size+1) R)
   { s with heap:=(s.heap.push PySem.W.emptyDict).push (PySem.W.instObj C s.heap.objs.size) }) :
 codeAny (model prog w) A (.call (.ref C) ⟨vs,kw⟩) R s:=by
 obtain⟨i,g,d,t,os⟩:=s;exact PySem.W.make_core (PySem.W.makes_of X hm) (PySem.W.looks_findIn X hi) (λself=>PySem.W.bind_fn X self hf) (.inl rfl) h
end
noncomputable def Aq(f:Str)(v:V):List (Str×V)->List (Str×V)
 | []=>[(f,v)]
 | (g,x)::r=>if g=f then (g,v)::r else (g,x)::Aq f v r
theorem Qg(f g:Str)(v:V):∀fs:List (Str×V),(Aq f v fs).lookup g=if g=f then some v else fs.lookup g
 | []=>by
  show List.lookup g [(f,v)]=_
  by_cases h:g=f
  ·have i:(g==f)=true:=beq_iff_eq.mpr h;simp only[List.lookup,i,if_pos h]
  ·have i:(g==f)=false:=beq_eq_false_iff_ne.mpr h;simp only[List.lookup,i,if_neg h]
 | (k,x)::r=>by
  have l:=Qg f g v r;rw[show Aq f v ((k,x)::r)=(if k=f then (k,v)::r else (k,x)::Aq f v r) from rfl]
  by_cases j:k=f
  ·rw[if_pos j]
   by_cases h:g=k
   ·have i:(g==k)=true:=beq_iff_eq.mpr h;simp only[List.lookup,i,if_pos (h.trans j)]
   ·have i:(g==k)=false:=beq_eq_false_iff_ne.mpr h;simp only[List.lookup,i,if_neg (λe:g=f=>h (e.trans j.symm))]
  ·rw[if_neg j]
   by_cases h:g=k
   ·have i:(g==k)=true:=beq_iff_eq.mpr h;simp only[List.lookup,i,if_neg (λe:g=f=>j (h.symm.trans e))]
   ·have i:(g==k)=false:=beq_eq_false_iff_ne.mpr h;simp only[List.lookup,i];exact l
theorem JM(f:Str)(v:V):∀fs:List (Str×V),f∈(Aq f v fs).map (·.1)/\∀g,g∈fs.map (·.1)->g∈(Aq f v fs).map (·.1)
 | []=>⟨by simp[Aq],λg h=>by simp at h⟩
 | (k,x)::r=>by
  obtain⟨i1,i2⟩:=JM f v r;rw[show Aq f v ((k,x)::r)=(if k=f then (k,v)::r else (k,x)::Aq f v r) from rfl]
  by_cases i:k=f
  ·rw[if_pos i];subst i;exact⟨by simp,λg h=>by simpa using h⟩
  ·rw[if_neg i];refine⟨?_,λg h=>?_⟩
   ·rw[ZBU];exact ZBd _ i1
   ·rw[ZBU]at h ⊢
    rcases ZBI.mp h with e | e
    ·exact ZBI.mpr (.inl e)
    ·exact ZBd _ (i2 g e)
theorem QL(f:Str)(v:V):∀fs:List (Str×V),(Aq f v fs).length<=fs.length+1
 | []=>by simp[Aq]
 | (k,x)::r=>by
  have i:=QL f v r;rw[show Aq f v ((k,x)::r)=(if k=f then (k,v)::r else (k,x)::Aq f v r) from rfl]
  by_cases g:k=f
  ·rw[if_pos g,ZCF,ZCF];lia
  ·rw[if_neg g,ZCF,ZCF];lia
theorem RelO.some_of{o:Option Value}(r:RelO (some v) o):∃u,o=some u/\zi v u:=by
 cases o with
 | none=>exact(show False from r).elim
 | some u=>exact⟨u,rfl,r⟩
theorem RelO.none_of{o:Option Value}(r:RelO none o):o=none:=by
 cases o with
 | none=>rfl
 | some u=>exact(show False from r).elim
theorem WS(r:zi v u):PySem.W.handedIn u=true:=by
 cases v with
 | non=>cases (show u=Value.none from r);rfl
 | bl b=>cases (show u=Value.bool b from r);rfl
 | int i=>obtain⟨t,e⟩:=(show ∃t,u=Value.int i t from r);cases e;rfl
 | str x=>obtain⟨t,e⟩:=(show ∃t,u=Value.str x t from r);cases e;rfl
 | byt b=>obtain⟨t,e⟩:=(show ∃t,u=Value.bytes b t from r);cases e;rfl
 | flt b=>obtain⟨t,e⟩:=(show ∃t,u=Value.float b t from r);cases e;rfl
 | ref a=>cases (show u=Value.ref a from r);rfl
 | ty n=>cases (show u=Value.type n from r);rfl
section
variable {P:Program}{w:World}{H H':Hp}{h h':Heap}{a C dx:Addr}{fs fs':List (Str×V)}
theorem HH(hok:HOk P w H h)(e:H a=some (.ins C dx fs)):∃mA,ObjM h a dx C mA/\(∀f,RelO (fs.lookup f) (mA f))/\PySem.Within mA (fs.map (·.1))/\fs.length<=1000/\H dx=some (.own a):=by
 obtain⟨d,z,ne,g,mA,n,r,q⟩:=(show ObjOk P w H h a (.ins C dx fs) from hok a _ e);exact⟨mA,⟨g,n,ne⟩,r,q,z,d⟩
end
structure Cls(K:W.Frag)(C:Addr):Prop where
 pg:PySem.W.plainGet K C Str.empty=true
 hd:PySem.W.hasDictIn K C=true
 po:PySem.W.plainOver K C=true
 sa:PySem.W.findIn K (.ref C) "__setattr__" = some (some (.builtin "object.__setattr__"))
theorem Cls.get(c:Cls K C)(f:Str):PySem.W.plainGet K C f=true:=c.pg
def NoAttr(K:W.Frag)(C:Addr)(f:Str):Prop:=PySem.W.findIn K (.ref C) f=some none
theorem NoAttr.taker{f:Str}(n:NoAttr K C f):PySem.W.takerIn K C f=some none:=by
 unfold PySem.W.takerIn;rw[show PySem.W.findIn K (.ref C) f=some none from n];rfl
structure Meth(K:W.Frag)(C:Addr)(m:Str)(f:Addr):Prop where
 at_:PySem.W.findIn K (.ref C) m=some (some (.ref f))
 fn:PySem.W.isFn K (.ref f)=true
 kp:PySem.W.keepIn K (.ref f)=true
section
variable {X:Cx}{El:List (Addr×Obj)}{Z:St}{H:Hp}{s:Shared}{a C dx:Addr}{fs:List (Str×V)}{f:Str}{v:V}{A:Around}{E:Value->Shared->Prop}
theorem aj {b:Bool} (I:zd X El Z H s) (e:H a=some (.ins C dx fs)) (c:Cls X.K C) (n:NoAttr X.K C f) (l:fs.lookup f=some v)
 (h:∀u s',zd X El Z H s'->zi v u->Q u s'):wpAny (model X.prog X.w) A (getAttr (.ref a) f b) Q E s:=by
 obtain⟨mA,O,r,_,_,_⟩:=HH I.hok e;obtain⟨u,hu,g⟩:=RelO.some_of (v:=v) (o:=mA f) (by rw[<- l];exact r f);exact U9 I.kIn O (c.get f) c.hd n hu (WS g) (h u _ (I.tok _) g)
theorem ND {m:Str} {g:Addr} {pl:Sem Bool} {Q:Value×List Value->Shared->Prop} (I:zd X El Z H s) (e:H a=some (.ins C dx fs)) (c:Cls X.K C) (k:Meth X.K C m g) (l:fs.lookup m=none)
 (h:Q (.ref g,[.ref a]) s):wpAny (model X.prog X.w) A (getMethod (.ref a) m pl) Q E s:=by
 obtain⟨mA,O,r,_,_,_⟩:=HH I.hok e;have hn:mA m=none:=RelO.none_of (by rw[<- l];exact r m);exact Xc I.kIn O (c.get m) k.at_ k.fn hn h
theorem SN {y:V} {Q:Unit->Shared->Prop} (I:zd X El Z H s) (e:H a=some (.ins C dx fs)) (c:Cls X.K C) (n:NoAttr X.K C f) (U:fs.length<1000) (G:zi y u)
 (h:∀s',zd X El Z (upd H a (.ins C dx (Aq f y fs))) s'->Q () s'):wpAny (model X.prog X.w) A (setAttr (.ref a) f u) Q E s:=by
 obtain⟨mA,O,r,wi,_,j⟩:=HH I.hok e;have hz:(fs.map (·.1)).length<=sizeLine:=by rw[ZBB,sizeLine_eq];lia
 refine U1 I.kIn O c.sa c.po n.taker c.hd wi hz λh' i p=>h _ ?_
 have hd:∃o,h'.get? dx=some o:=let ⟨o,_,_,k,_⟩:=i.ns;⟨o,k⟩;refine I.write (x:=a) (e:=dx) (by rw[e];exact True.intro) (.inr j) (λb q l z=>(p.2 b l).trans z) hd ?_;refine⟨by rw[AR O.ne];exact j,?_,O.ne,i.obj,_,i.ns,λg=>?_,λg m=>?_⟩
 ·have:=QL f y fs;lia
 ·show RelO ((Aq f y fs).lookup g) (if g=f then some u else mA g);rw[Qg]
  by_cases q:g=f
  ·rw[if_pos q,if_pos q];exact G
  ·rw[if_neg q,if_neg q];exact r g
 ·by_cases q:g=f
  ·rw[q];exact(JM f y fs).1
  ·refine(JM f y fs).2 g (wi g λz=>m ?_)
   show(if g=f then some u else mA g)=none
   rw[if_neg q];exact z
theorem zd.made(I:zd X El Z H s):zd X El Z (upd (upd H s.heap.objs.size (.own (s.heap.objs.size+1))) (s.heap.objs.size+1) (.ins C s.heap.objs.size []))
 { s with heap:=(s.heap.push PySem.W.emptyDict).push (PySem.W.instObj C s.heap.objs.size) }:=by
 have f:(s.heap.push PySem.W.emptyDict).get? s.heap.objs.size=some PySem.W.emptyDict:=ZBP s.heap rfl
 have e2:((s.heap.push PySem.W.emptyDict).push (PySem.W.instObj C s.heap.objs.size)).get? (s.heap.objs.size+1)=some (PySem.W.instObj C s.heap.objs.size):=by
  have:=ZBP (s.heap.push PySem.W.emptyDict) (o:=PySem.W.instObj C s.heap.objs.size) rfl
  rwa [ZB8]at this
 have i:(s.heap.push PySem.W.emptyDict).Ns s.heap.objs.size (λ_=>none):=⟨PySem.W.emptyDict,#[],_,f,rfl,(λe he=>absurd he (by simp)),λ_=>rfl⟩;have g:=I.laid (a:=s.heap.objs.size) (o:=.own (s.heap.objs.size+1)) (h':=s.heap.push PySem.W.emptyDict) (t':=s.toks) (λb u q=>ZBG _ q) (ZBD _) ⟨_,f⟩;refine g.laid (a:=s.heap.objs.size+1) (o:=.ins C s.heap.objs.size []) (t':=s.toks) (λb u q=>ZBG _ q) (ZCf (ZB8 _ _)) ?_;have ne:s.heap.objs.size≠s.heap.objs.size+1:=ZBR (ZBu _);refine⟨by rw[AR ne,AF],ZBT _,ne,e2,λ_=>none,(Heap.Ns1.of_empty i).at λo q=>ZBG _ q,λ_=>True.intro,λy j=>absurd rfl j⟩
theorem Xl {prog:Program} {env:Env} {e:Expr} {f:Str} (G:attributeBase e f env (eval e env)=eval e env)
 (h:wpAny (model prog w) A (eval e env) (λo z=>wpAny (model prog w) A (getAttr o f true) Q E z) E s):wpAny (model prog w) A (eval (.Attribute e f pos) env) Q E s :=
 Attribute_any_ h (by rw[arm_eval_Attribute,G])
end
section
variable {X:Cx}{El:List (Addr×Obj)}{Z:St}{H:Hp}{s:Shared}{A:Around}{E:Value->Shared->Prop}{Q:Value->Shared->Prop}{c:Value}{b:Bool}
inductive TyOf (K:W.Frag) (H:Hp):V->Value->Prop where
 | non:TyOf K H .non (.type "NoneType")
 | bl (x:Bool):TyOf K H (.bl x) (.type "bool")
 | int (i:Int):TyOf K H (.int i) (.type "int")
 | str (x:Str):TyOf K H (.str x) (.type "str")
 | flt (x:UInt64):TyOf K H (.flt x) (.type "float")
 | lst {a:Addr} {xs:List V} (e:H a=some (.lst xs)):TyOf K H (.ref a) (.type "list")
 | frz {a:Addr} {o:Obj} {xs:List V} (e:H a=some (.frz o (.lst xs))):TyOf K H (.ref a) (.type "list")
 | tup {a:Addr} {xs:List V} (e:H a=some (.tup xs)):TyOf K H (.ref a) (.type "tuple")
 | dK {a:Addr} {ze:List (Key×V)} (e:H a=some (.dK ze)):TyOf K H (.ref a) (.type "dict")
 | dT {a:Addr} {ze:List (List Key×V)} (e:H a=some (.dT ze)):TyOf K H (.ref a) (.type "dict")
 | ins {a C dx:Addr} {fs:List (Str×V)} (e:H a=some (.ins C dx fs)) (cl:Cls K C) (ha:PySem.W.findIn K (.ref C) "__class__" = some (some (.builtin "object.__class__")))
  (hn:PySem.W.specialIn K (.builtin "object.__class__") "__get__" = some (some (.builtin "getset_descriptor.__get__"))) (htk:PySem.W.takesIn K (.builtin "object.__class__")=some true)
  (hm:PySem.W.mroIn K C (.type "object")=some true):TyOf K H (.ref a) (.ref C)
theorem ZY{x:V}{t:Value}(I:zd X El Z H s)(G:zi x u)(ty:TyOf X.K H x t)(e:PySem.W.kitOne X.K t c=some b)(h:∀U,Q (.bool b) { s with toks:=U }) :
 wpAny (model X.prog X.w) A (call (.builtin "isinstance") [u,c]) Q E s:=by
 cases ty with
 | non=>cases (show u=Value.none from G);exact PySem.W.kia_one PySem.W.kitx_none I.kIn True.intro e (λz=>nomatch z) h
 | bl y=>cases (show u=Value.bool y from G);exact PySem.W.kia_one PySem.W.kitx_bool I.kIn True.intro e (λz=>nomatch z) h
 | int i=>obtain⟨t,q⟩:=(show ∃t,u=Value.int i t from G);cases q;exact PySem.W.kia_one PySem.W.kitx_int I.kIn True.intro e (λz=>nomatch z) h
 | str y=>obtain⟨t,q⟩:=(show ∃t,u=Value.str y t from G);cases q;exact PySem.W.kia_one PySem.W.kitx_str I.kIn True.intro e (λz=>nomatch z) h
 | flt y=>obtain⟨t,q⟩:=(show ∃t,u=Value.float y t from G);cases q;exact PySem.W.kia_one PySem.W.kitx_float I.kIn True.intro e (λz=>nomatch z) h
 | @lst a xs f =>
  cases (show u=Value.ref a from G);obtain⟨_,_,n,_,h1⟩:=(show ObjOk X.prog X.w H s.heap a (.lst xs) from I.hok a _ f);exact PySem.W.kia_one PySem.W.kitx_list I.kIn ⟨_,h1,rfl⟩ e (λz=>nomatch z) h
 | @frz a j xs f =>
  cases (show u=Value.ref a from G);obtain⟨_,_,_,n,_,h1⟩:=(show ObjOk X.prog X.w H s.heap a (.frz j (.lst xs)) from I.hok a _ f);exact PySem.W.kia_one PySem.W.kitx_list I.kIn ⟨_,h1,rfl⟩ e (λz=>nomatch z) h
 | @tup a xs f =>
  cases (show u=Value.ref a from G);obtain⟨_,_,_,p⟩:=(show ObjOk X.prog X.w H s.heap a (.tup xs) from I.hok a _ f);obtain⟨o,h1,h2,_⟩:=p;exact PySem.W.kia_one PySem.W.kitx_tuple I.kIn ⟨o,h1,h2⟩ e (λz=>nomatch z) h
 | @dK a ze f =>
  cases (show u=Value.ref a from G);obtain⟨_,_,vs,_,p⟩:=(show ObjOk X.prog X.w H s.heap a (.dK ze) from I.hok a _ f);obtain⟨o,es,g,h1,h2,_⟩:=p;exact PySem.W.kia_one PySem.W.kitx_dict I.kIn ⟨o,h1,h2.1⟩ e (λz=>nomatch z) h
 | @dT a ze f =>
  cases (show u=Value.ref a from G);obtain⟨_,_,xs,_,o,es,g,h1,h2,_⟩:=(show ObjOk X.prog X.w H s.heap a (.dT ze) from I.hok a _ f);exact PySem.W.kia_one PySem.W.kitx_dict I.kIn ⟨o,h1,h2.1⟩ e (λz=>nomatch z) h
 | @ins a C dx fs f cl ha hn htk hm =>
  cases (show u=Value.ref a from G);obtain⟨mA,O,_⟩:=HH I.hok f;obtain⟨od,J,_⟩:=O.look;exact PySem.W.kia_one (PySem.W.kitx_own (cl.get _) cl.hd ha hn htk hm) I.kIn J e (λz=>nomatch z) h
end
structure Room(k:Nat)(A:Around):Prop where
 hd:A.handled=none
 dp:A.depth+3*k+5<recursionLimit
 un:A.units+16*k+200<cLine
 gd:A.guards=some []
theorem Room.mono{j:Nat}(r:Room k A)(h:j<=k):Room j A:=⟨r.hd,by have:=r.dp;lia,by have:=r.un;lia,r.gd⟩
theorem Room.deeper(r:Room (k+1) A)(env:Env):Room k (A.deeper env) :=
 ⟨r.hd,by have:=r.dp;show A.depth+1+3*k+5<_;lia,by have:=r.un;show A.units+3+16*k+200<_;lia,r.gd⟩
theorem Room.in1(r:Room (k+1) A):Room k A.in1 :=
 ⟨r.hd,by have:=r.dp;show A.depth+3*k+5<_;lia,by have:=r.un;show A.units+1+16*k+200<_;lia,r.gd⟩
theorem Yn{kw:List (Str×Value)}:(A.under (.builtin "type.__call__" ⟨.ref C::us,kw⟩)).depth=A.depth+1:=by
 first | rfl | simp[Around.under,Code.weight,Code.isCreation,Code.isGuard,Code.isCaller,Code.frames,Code.isFrame,guardIds]
theorem VB{kw:List (Str×Value)}:(A.under (.builtin "type.__call__" ⟨.ref C::us,kw⟩)).units=A.units+1:=by
 first | rfl | simp[Around.under,Code.cUnits,Code.frames,Code.isFrame]
theorem Room.make(r:Room (k+1) A)(C:Addr)(us:List Value)(kw:List (Str×Value)):Room k (A.under (.builtin "type.__call__" ⟨.ref C::us,kw⟩)) :=
 ⟨r.hd,by have:=r.dp;rw[Yn];lia,by have:=r.un;rw[VB];lia,by first | exact r.gd | (simpa [Around.under,Code.guards,Code.isGuard,guardIds,pushGuards] using r.gd)⟩
theorem Room.depth(r:Room k A):A.depth<recursionLimit:=by have:=r.dp;lia
noncomputable def La:TA:=λ_ H Q=>Q [] H
noncomputable def Oi(ta:TE)(z:TA):TA:=λZ H Q=>ta Z H λx H1=>z Z H1 λxs H2=>Q (x::xs) H2
section
variable {X:Cx}{e:Expr}{es:List Expr}{te:TE}{t:TA}{pos:Pos}
theorem AB:PA X [] La:=λ_ _ _ _ H Q I h=>Calls.spliced_nil ⟨[],H,I,.nil,h⟩
theorem AA(ha:PE X e te)(hr:PA X es t)(hs:starEach (e::es) X.env=(false,eval e X.env)::starEach es X.env:=by rfl):PA X (e::es) (Oi te t):=by
 intro pos El s Z H Q I h;rw[hs];show wpAny _ _ (spliced ((false,eval e X.env)::backTo pos (starEach es X.env))) _ _ s;refine Calls.spliced_cons (zm (ha El s Z H _ I h) λu s1 ⟨x,H1,f,r1,i⟩=>?_);exact zm (hr pos El s1 Z H1 _ f i) λus s2 ⟨xs,H2,g,k,j⟩=>⟨x::xs,H2,g,.cons r1 k,j⟩
noncomputable def NN(t:TA):TE:=λZ H Q=>t Z H λxs H1=>xs.length<=sizeLine/\∀p,H1 p=none->Q (.ref p) (upd H1 p (.tup xs))
noncomputable def Ox(t:TA):TE:=λZ H Q=>t Z H λxs H1=>xs.length<=sizeLine/\∀p,H1 p=none->Q (.ref p) (upd H1 p (.lst xs))
theorem BS{G}(h:PA X es t):PE X (.Tuple es G pos) (NN t):=by
 intro El s Z H Q I g;refine wpAny_Tuple_spliced (zm (h pos El s Z H _ I g) λus s1 ⟨xs,H1,f,r,z,q⟩=>⟨by rw[<- r.length];exact z,?_⟩);have hf:H1 s1.heap.objs.size=none:=f.hok.fresh (ZBD _);refine⟨.ref s1.heap.objs.size,upd H1 s1.heap.objs.size (.tup xs),f.laid (t':=s1.toks) (λb u e=>ZBG _ e) (ZBD _) ?_,rfl,q _ hf⟩;exact⟨z,us,r,⟨_,ZBP _ rfl,rfl,⟨_,rfl⟩,rfl⟩⟩
theorem Cs(h:PA X es t):PE X (.List es pos) (Ox t):=by
 intro El s Z H Q I g;refine wpAny_List_spliced (zm (h pos El s Z H _ I g) λus s1 ⟨xs,H1,f,r,z,q⟩=>⟨by rw[<- r.length];exact z,?_⟩);have hf:H1 s1.heap.objs.size=none:=f.hok.fresh (ZBD _);refine⟨.ref s1.heap.objs.size,upd H1 s1.heap.objs.size (.lst xs),f.laid (t':=s1.toks) (λb u e=>ZBG _ e) (ZBD _) ?_,rfl,q _ hf⟩;exact⟨z,us,0,r,ZBP _ rfl⟩
end
noncomputable abbrev Sp:=List V->Hp->VK->XK->Prop
noncomputable abbrev CXT:=List Env->Hp->Shared->XK->Value->Shared->Prop
structure Env0(P:Program)(w:World)(K:W.Frag)(mg:Str->Option Value)(base:Heap)(A:Around)(outer:List Env)(s:Shared)(H:Hp):Prop where
 frames:A.frames=some outer
 mod:Mod K mg base
 bs:∀b o,base.get? b=some o->s.heap.get? b=some o/\H b=none
 bsz:base.objs.size<=s.heap.objs.size
 funs:s.heap.FunFrames base outer
 frf:∀b∈frs outer,H b=none
 hok:HOk P w H s.heap
 bare:AllBare s.gens
noncomputable def CE(outer:List Env)(P:Program)(w:World)(H:Hp)(s:Shared)(Q:VK)(u:Value)(s':Shared):Prop :=
 ∃v H',s'.os=s.os/\AllBare s'.gens/\Un (frs outer) [] H H' s.heap s'.heap/\HOk P w H' s'.heap/\zi v u/\Q v H'
noncomputable def CR(CX:CXT)(outer:List Env)(P:Program)(w:World)(H:Hp)(s:Shared)(Q:VK)(E:XK)(r:Result)(s':Shared):Prop :=
 match r with
 | .ok (.ret u)=>CE outer P w H s Q u s'
 | .ok _=>False
 | .error e=>CX outer H s E e s'
structure FnOk(P:Program)(w:World)(K:W.Frag)(mg:Str->Option Value)(base:Heap)(CX:CXT)(k:Nat)(f:Addr)(fd:FuncData)(ps:List Str)(sp:Sp):Prop where
 len:∀vs H Q E,sp vs H Q E->vs.length=ps.length
 run:∀(A:Around) (outer:List Env) (s:Shared) (H:Hp) (args:Args) (us:List Value) (vs:List V) (Q:VK) (E:XK),Room k A->Env0 P w K mg base A outer s H->BindsTo s fd args (ps.zip us)->zh vs us->sp vs H Q E ->
  codeAny (model P w) A (.call (.ref f) args) (CR CX outer P w H s Q E) s
theorem Env0.make{mg:Str->Option Value}{base:Heap}{outer:List Env}(e:Env0 P w K mg base A outer s H)(C:Addr)(us:List Value)(kw:List (Str×Value)) :
 Env0 P w K mg base (A.under (.builtin "type.__call__" ⟨.ref C::us,kw⟩)) outer s H:=⟨by first | exact e.frames | (simpa [Around.under,Code.envs,Code.isFrame,pushEnvs] using e.frames),e.mod,e.bs,e.bsz,e.funs,e.frf,e.hok,e.bare⟩
theorem Env0.in1{mg:Str->Option Value}{base:Heap}{outer:List Env}(e:Env0 P w K mg base A outer s H) :
 Env0 P w K mg base A.in1 outer s H:=⟨e.frames,e.mod,e.bs,e.bsz,e.funs,e.frf,e.hok,e.bare⟩
section
variable {X:Cx}{El:List (Addr×Obj)}{Z:St}{H:Hp}{s s':Shared}
theorem zd.env0(I:zd X El Z H s):Env0 X.prog X.w X.K X.mg X.base X.A X.stack s H :=
 ⟨I.ok.frames,I.ok.mod,I.bs,ZBq I.ok.bsz I.sz,I.stack,I.stkFree,I.hok,I.bare⟩
theorem zd.after{Q:VK}(I:zd X El Z H s)(h:CE X.stack X.prog X.w H s Q u s'):EP X El Z Q u s':=by
 obtain⟨v,H',os,bare,un,hok,r,q⟩:=h;obtain⟨i,g,d,t,f⟩:=s';obtain rfl:f=s.os:=os;exact⟨v,H',I.call (h':=i) (g':=g) (d':=d) (t':=t) (ch:=[]) un hok bare (λb z=>absurd z (by simp)),r,q⟩
end
noncomputable def QP(sp:Sp)(dvs:List V)(E:XK)(t:TA):TE:=λZ H Q=>t Z H λvs H1=>sp (vs++dvs) H1 Q E
noncomputable def Kx(C:Addr)(m:Str)(sp:Sp)(dvs:List V)(E:XK)(ta:TE)(t:TA):TE:=λZ H Q=>ta Z H λx H1=>∃a dx fs,x=.ref a/\H1 a=some (.ins C dx fs)/\fs.lookup m=none /\
 t Z H1 λvs H2=>sp (x::(vs++dvs)) H2 Q E
noncomputable def Ww(C:Addr)(sp:Sp)(dvs:List V)(E:XK)(t:TA):TE:=λZ H Q=>t Z H λvs H1=>∀x dx,H1 x=none->H1 dx=none->dx≠x ->
 sp (.ref x::(vs++dvs)) (upd (upd H1 dx (.own x)) x (.ins C dx [])) (λv H2=>v=.non/\Q (.ref x) H2) E
noncomputable def Binds(K:W.Frag)(fd:FuncData)(ps:List Str)(ds:List Value):Prop :=
 ∀(s:Shared) (us:List Value),K.In s.heap->(us++ds).length=ps.length->BindsTo s fd ⟨us,[]⟩ (ps.zip (us++ds))
theorem Binds.all{fd:FuncData}{ps:List Str}(h:∀us:List Value,us.length=ps.length->bindArgs fd ⟨us,[]⟩=pure (ps.zip us)):Binds K fd ps []:=λs us _ f=>by
 rw[ZBs]at f ⊢;exact .of_eq (h us f)
def Dx(CX:CXT)(X:Cx)(E:XK):Prop:=∀(El:List (Addr×Obj)) (Z:St) (H:Hp) (s:Shared) (e:Value) (s':Shared),zd X El Z H s->CX X.stack H s E e s'->X.xe e s'
section
variable {X:Cx}{CX:CXT}{k:Nat}{f C:Addr}{fd:FuncData}{ps:List Str}{sp:Sp}{dvs:List V}{ds:List Value}{E:XK}{x m:Str}{p pos apos:Pos}{e o:Expr}{es:List Expr}{ta:TE}{t:TA}
theorem JH {Q:VK} {vs:List V} (F:FnOk X.prog X.w X.K X.mg X.base CX k f fd ps sp) (hr:Room k X.A) (z:Binds X.K fd ps ds) (hd:zh dvs ds) (G:Dx CX X E)
 (I:zd X El Z H s) (r:zh vs us) (h:sp (vs++dvs) H Q E):wpAny (model X.prog X.w) X.A (call (.ref f) us) (EP X El Z Q) X.xe s:=by
 have i:zh (vs++dvs) (us++ds):=r.append hd;have l:(us++ds).length=ps.length:=by rw[<- i.length];exact F.len _ _ _ _ h
 refine wpAny_call (ZCg (F.run X.A X.stack s H ⟨us,[]⟩ (us++ds) (vs++dvs) Q E hr I.env0 (z s us I.kIn l) i h) λr s' g=>?_);cases r with
 | error e=>exact G El Z H s e s' I g
 | ok j =>
  cases j with
  | ret u=>exact I.after g
  | next=>exact False.elim g
  | brk=>exact False.elim g
  | cont=>exact False.elim g
theorem AG (F:FnOk X.prog X.w X.K X.mg X.base CX k f fd ps sp) (hr:Room k X.A) (U:Gl X x) (hm:X.mg x=some (.ref f)) (hk:PySem.W.keepIn X.K (.ref f)=true) (O:Binds X.K fd ps ds) (hd:zh dvs ds) (hx:Dx CX X E)
 (ha:PA X (e::es) t) (z:(x==("__debug__" : Str))=false:=by decide) (he:starEach (e::es) X.env=(false,eval e X.env)::starEach es X.env:=by rfl) (G:(backTo pos (starEach es X.env)).any (·.1)=false:=by rfl) :
 PE X (.Call (.Name x p) (e::es) [] pos) (QP sp dvs E t):=by
 intro El s Z H Q I h;refine wpAny_Call_Name_kw (JF I U hm ?_ z);refine PySem.W.callWith_K (h₀:=X.base) I.ok.mod.kin hk (zm (ha pos El s Z H _ I h) λus s1 ⟨vs,H1,g,r,q⟩=>⟨g.kIn,?_⟩) he G;exact JH F hr O hd hx g r q
theorem A9 {pl:Sem Bool} (he:PE X o ta) (c:Cls X.K C) (hm:Meth X.K C m f) (F:FnOk X.prog X.w X.K X.mg X.base CX k f fd ps sp) (hr:Room k X.A) (U:Binds X.K fd ps ds) (hd:zh dvs ds) (hx:Dx CX X E) (ha:PA X (e::es) t)
 (G:starEach (e::es) X.env=(false,eval e X.env)::starEach es X.env:=by rfl) (z:(backTo pos (starEach es X.env)).any (·.1)=false:=by rfl)
 (ht:eval (.Call (.Attribute o m apos) (e::es) [] pos) X.env=(do
   let O <- eval o X.env
   standAt apos.atName
   let (f,first) <- holding [O] (getMethod O m pl)
   callWith pos f first (backTo pos (starEach (e::es) X.env)) (backToKw pos (keywordEach [] X.env))):=by rfl) :
 PE X (.Call (.Attribute o m apos) (e::es) [] pos) (Kx C m sp dvs E ta t):=by
 intro El s Z H Q I h;refine PySem.W.methodCall_KW (pl:=pl) (zm (he El s Z H _ I h) λu s1 ⟨x,H1,g,p,a,dx,fs,ex,j,l,q⟩=>?_) ht;subst ex;obtain rfl:u=Value.ref a:=p;refine ND g j c hm l ?_;refine PySem.W.callWith_K (first:=[.ref a]) (h₀:=X.base) I.ok.mod.kin hm.kp (zm (ha pos El s1 Z H1 _ g q) λus s2 ⟨vs,H2,i,r,n⟩=>⟨i.kIn,?_⟩) G z;exact JH (us:=.ref a::us) (vs:=.ref a::vs) F hr U hd hx i (.cons rfl r) n
theorem bf {pl:Sem Bool} (he:PE X o ta) (c:Cls X.K C) (hm:Meth X.K C m f) (F:FnOk X.prog X.w X.K X.mg X.base CX k f fd ps sp) (hr:Room k X.A) (G:Binds X.K fd ps ds) (hd:zh dvs ds) (U:Dx CX X E)
 (O:eval (.Call (.Attribute o m apos) [] [] pos) X.env=(do
   let z <- eval o X.env
   standAt apos.atName
   let (f,first) <- holding [z] (getMethod z m pl)
   callWith pos f first (backTo pos (starEach [] X.env)) (backToKw pos (keywordEach [] X.env))):=by rfl) :
 PE X (.Call (.Attribute o m apos) [] [] pos) (Kx C m sp dvs E ta La):=by
 intro El s Z H Q I h;refine PySem.W.methodCall_KW (pl:=pl) (zm (he El s Z H _ I h) λu s1 ⟨x,H1,g,j,a,dx,fs,ex,i,l,q⟩=>?_) O;subst ex;obtain rfl:u=Value.ref a:=j;refine ND g i c hm l ?_;exact PySem.W.callWith_K0 (first:=[.ref a]) g.kIn hm.kp (JH (us:=[.ref a]) (vs:=[.ref a]) F hr G hd U g (.cons rfl .nil) q)
structure Mk(K:W.Frag)(C f:Addr):Prop where
 makes:PySem.W.makesIn K C=true
 init:PySem.W.findIn K (.ref C) "__init__" = some (some (.ref f))
 fn:PySem.W.isFn K (.ref f)=true
 kp:PySem.W.keepIn K (.ref C)=true
theorem bw {Q:VK} {vs:List V} (M:Mk X.K C f) (F:FnOk X.prog X.w X.K X.mg X.base CX k f fd ps sp) (hr:Room (k+1) X.A) (z:Binds X.K fd ps ds) (hd:zh dvs ds)
 (G:Dx CX X E) (I:zd X El Z H s) (r:zh vs us)
 (h:∀x dx,H x=none->H dx=none->dx≠x->sp (.ref x::(vs++dvs)) (upd (upd H dx (.own x)) x (.ins C dx [])) (λv H2=>v=.non/\Q (.ref x) H2) E) :
 wpAny (model X.prog X.w) X.A (call (.ref C) us) (EP X El Z Q) X.xe s:=by
 have j:=h (s.heap.objs.size+1) s.heap.objs.size (I.hok.fresh (ZCS _)) (I.hok.fresh (ZBD _)) (ZBR (ZBu _));have i:=zd.made (C:=C) I;have l:zh (V.ref (s.heap.objs.size+1)::(vs++dvs)) (Value.ref (s.heap.objs.size+1)::(us++ds)):=.cons rfl (r.append hd)
 have o:(Value.ref (s.heap.objs.size+1)::us++ds).length=ps.length:=by
  have e:=l.length;rw[F.len _ _ _ _ j]at e;exact e.symm
 refine wpAny_call (WI (f:=f) I.kIn M.makes M.init (beq_iff_eq.mp M.fn) (ZCg (F.run _ X.stack _ _ ⟨Value.ref (s.heap.objs.size+1)::us,[]⟩ (Value.ref (s.heap.objs.size+1)::(us++ds)) _ _ E (hr.make C us [])
  (i.env0.make C us []) (z _ (Value.ref (s.heap.objs.size+1)::us) i.kIn o) l j) λr s' g=>?_))
 cases r with
 | error e=>exact G El Z _ _ e s' i g
 | ok n =>
  cases n with
  | ret u =>
   obtain⟨v,H',m,t,ev,p⟩:=i.after g;subst ev;exact⟨t,⟨V.ref (s.heap.objs.size+1),H',m,rfl,p⟩⟩
  | next=>exact False.elim g
  | brk=>exact False.elim g
  | cont=>exact False.elim g
theorem a7 (M:Mk X.K C f) (F:FnOk X.prog X.w X.K X.mg X.base CX k f fd ps sp) (hr:Room (k+1) X.A) (U:Gl X x) (hm:X.mg x=some (.ref C)) (O:Binds X.K fd ps ds) (hd:zh dvs ds) (hx:Dx CX X E)
 (ha:PA X (e::es) t) (z:(x==("__debug__" : Str))=false:=by decide) (he:starEach (e::es) X.env=(false,eval e X.env)::starEach es X.env:=by rfl) (G:(backTo pos (starEach es X.env)).any (·.1)=false:=by rfl) :
 PE X (.Call (.Name x p) (e::es) [] pos) (Ww C sp dvs E t):=by
 intro El s Z H Q I h;refine wpAny_Call_Name_kw (JF I U hm ?_ z);refine PySem.W.callWith_K (h₀:=X.base) I.ok.mod.kin M.kp (zm (ha pos El s Z H _ I h) λus s1 ⟨vs,H1,g,r,q⟩=>⟨g.kIn,?_⟩) he G;exact bw M F hr O hd hx g r q
end
structure FnScope(N P:List Str)(sc:Scope):Prop where
 kind:sc.kind=.function
 co:sc.isCoroutine=false
 gen:sc.isGenerator=false
 nd:N.Nodup
 pre:N.take P.length=P
 par:∀x∈P,sc.names.lookup x=some .local\/sc.names.lookup x=some .cell
 nofree:∀y∈sc.names,y.2≠.free
theorem RX{kindOf:Str->Option NameKind}:∀{binds:List (Str×Value)} {m:Str->Option Value},(∀v,(x,v)∉binds)->bindL kindOf binds m x=m x
 | [],_,_=>rfl
 | (n,v)::r,m,h=>by
  unfold bindL;rw[RX λw hw=>h w (ZBd _ hw)];split
  ·have:x≠n:=by rintro rfl;exact h v ZBh
   simp[this]
  ·rfl
theorem On{kindOf:Str->Option NameKind}:∀{binds:List (Str×Value)} {m:Str->Option Value},(∀v,(x,v)∉binds)->bindC kindOf binds m x=m x
 | [],_,_=>rfl
 | (n,v)::r,m,h=>by
  unfold bindC;rw[On λw hw=>h w (ZBd _ hw)];split
  ·rfl
  ·have:x≠n:=by rintro rfl;exact h v ZBh
   simp[this]
theorem OO{kindOf:Str->Option NameKind}{v:Value}:∀{P:List Str} {vs:List Value} {i:Nat} {m:Str->Option Value},P.Nodup->P[i]?=some x->vs[i]?=some v->kindOf x=some .local ->
 bindL kindOf (P.zip vs) m x=some v
 | [],_,_,_,_,h,_,_=>by simp at h
 | _::_,[],_,_,_,_,h,_=>by simp at h
 | p::P,w::vs,0,m,nd,h1,h2,f=>by
  simp at h1 h2;subst h1;subst h2;show bindL kindOf ((p,w)::P.zip vs) m p=_;unfold bindL;rw[RX λv g=>(ZCh.mp nd).1 (List.of_mem_zip g).1,if_pos f];simp
 | p::P,w::vs,i+1,m,nd,h1,h2,f=>by
  show bindL kindOf ((p,w)::P.zip vs) m x=_;unfold bindL;exact OO (i:=i) (ZCh.mp nd).2 (by simpa using h1) (by simpa using h2) f
theorem Po{kindOf:Str->Option NameKind}{v:Value}:∀{P:List Str} {vs:List Value} {i:Nat} {m:Str->Option Value},P.Nodup->P[i]?=some x->vs[i]?=some v->kindOf x≠some .local ->
 bindC kindOf (P.zip vs) m x=some v
 | [],_,_,_,_,h,_,_=>by simp at h
 | _::_,[],_,_,_,_,h,_=>by simp at h
 | p::P,w::vs,0,m,nd,h1,h2,f=>by
  simp at h1 h2;subst h1;subst h2;show bindC kindOf ((p,w)::P.zip vs) m p=_;unfold bindC;rw[On λv g=>(ZCh.mp nd).1 (List.of_mem_zip g).1,if_neg f];simp
 | p::P,w::vs,i+1,m,nd,h1,h2,f=>by
  show bindC kindOf ((p,w)::P.zip vs) m x=_;unfold bindC;exact Po (i:=i) (ZCh.mp nd).2 (by simpa using h1) (by simpa using h2) f
noncomputable def DO(N:List Str)(vs:List V):St:=vs.map some++List.replicate (N.length-vs.length) none
noncomputable def D6(CX:CXT)(P:Program)(w:World)(K:W.Frag)(mg:Str->Option Value)(base:Heap)(N:List Str)(qual:Str)(scope:Scope)(f:Addr)(cd:Value)(A:Around)(outer:List Env)(s:Shared)(H:Hp)(E:XK):Cx where
 prog:=P
 w:=w
 K:=K
 mg:=mg
 base:=base
 A:=A.deeper (envOfC qual scope s.heap.objs.size f cd)
 N:=N
 s₀:=s
 H₀:=H
 env:=envOfC qual scope s.heap.objs.size f cd
 outer:=outer
 stack:=envOfC qual scope s.heap.objs.size f cd::outer
 ex:=[]
 calm:=true
 fn:=λ_=>true
 pn:=[]
 xe:=λe s'=>wpAny (model P w) (A.deeper (envOfC qual scope s.heap.objs.size f cd)) (leaving (envOfC qual scope s.heap.objs.size f cd) e) (λ_ g=>CX outer H s E e g) (λi g=>CX outer H s E i g) s'
theorem Nu{sc:Scope}{n:Nat}(h:sc.names.lookup x=some .cell):∃c,(cellsFrom n sc.names []).lookup x=some c:=by
 have q:=PySem.W.cellsFrom_some sc.names n [] (.inl h);exact ZDK.mp q
theorem YY {CX:CXT} {mg:Str->Option Value} {base:Heap} {N ps:List Str} {qual:Str} {scope:Scope} {f:Addr} {cd:Value} {outer:List Env} {s1:Shared} {E:XK} {vs:List V}
 (S:FnScope N ps scope) (hd:A.handled=none) (G:Env0 P w K mg base A outer s H) (O:vs.length=ps.length) (r:zh vs us)
 (x:InCallC s s.heap.objs.size (bindL (envOfC qual scope s.heap.objs.size f cd).kindOf (ps.zip us) λ_=>none) (cellsFrom (s.heap.objs.size+1) scope.names []) (bindC (envOfC qual scope s.heap.objs.size f cd).kindOf (ps.zip us) λ_=>none) s1) :
 zd (D6 CX P w K mg base N qual scope f cd A outer s H E) [] (DO N vs) H s1:=by
 have t:ps.length<=N.length:=by have:=congrArg List.length S.pre;rw[ZBi]at this;lia
 obtain⟨h1,D,rfl,o⟩:=x.done;have j:∀b:Addr,b∉(D6 CX P w K mg base N qual scope f cd A outer s H E).ex:=λb z=>absurd (show b∈([]:List Addr) from z) (by simp)
 refine⟨⟨G.mod,S.kind,rfl,rfl,ZBD _,λy z c h1 h2=>?_,λy g=>?_,λy c _ h=>?_,λ_=>hd,Around.frames_deeper G.frames,.inr ⟨rfl,rfl⟩,λb z=>absurd z (j b),G.bs,G.bsz,λb _ _=>j b,λb z=>absurd z (j b),G.funs,G.frf⟩,
  rfl,G.bare,Un.kept o,⟨_,x.toInCall.ns,λi y v h1 h2 C=>?_⟩,λy c h=>⟨_,x.cell y c h⟩,G.hok.fresh (ZBD _),λy c h=>?_,λp l=>absurd (show p∈([]:List (Addr×Obj)) from l) (by simp),G.hok.kept o,?_⟩
 ·exact name_of_addr x.apart (PySem.mem_of_lookup h1) (PySem.mem_of_lookup h2)
 ·have g:scope.names.lookup y=some .cell\/scope.names.lookup y=some .free:=g
  rcases g with g | g
  ·exact Nu g
  ·exact absurd rfl (S.nofree _ (PySem.mem_of_lookup g))
 ·exact ZBy (x.above y c (PySem.mem_of_lookup h))
 ·have hi:i<vs.length:=by
   unfold DO at h2
   by_cases hi:i<vs.length
   ·exact hi
   ·rw[ZCt (by simpa using hi)]at h2;rw[ZDL]at h2;split at h2 <;> cases h2
  have ha:vs[i]?=some v:=by
   unfold DO at h2;rw[ZCu (by simpa using hi),ZBJ]at h2;cases e:vs[i]? with
   | none=>rw[e]at h2;cases h2
   | some a=>rw[e]at h2;cases h2;rfl
  obtain⟨u,hu,B⟩:=r.get ha
  have l:ps[i]?=some y:=by
   rw[<- S.pre,List.getElem?_take_of_lt (by lia)];exact h1
  have m:ps.Nodup:=by rw[<- S.pre];exact S.nd.sublist (List.take_sublist _ _)
  refine⟨u,B,?_⟩
  rcases S.par y (ZB3 l) with k | k
  ·exact .inl ⟨k,OO m l hu k⟩
  ·obtain⟨c,e⟩:=Nu (n:=s.heap.objs.size+1) k;refine .inr ⟨.inl k,c,e,?_⟩;have q:=x.cell y c e;rw[Po m l hu (by show scope.names.lookup y≠_;rw[k];decide)]at q;exact q
 ·exact G.hok.fresh (ZBy (x.above y c (PySem.mem_of_lookup h)))
 ·unfold DO;show _=N.length;rw[ZBS,ZBB,ZCi];lia
theorem My {CX:CXT} {mg:Str->Option Value} {base:Heap} {f:Addr} {name qual:Str} {params:Arguments} {body:List Stmt} {scope:Scope} {O kV doc pm zy ct oc:Value} {an od:Option Addr}
 {osl:Array (Option Value)} {N ps:List Str} {sp:Sp} (lk:K.lookup f=some ⟨oc,od,.func (PySem.W.fnOf name qual params body scope O kV doc pm an zy ct),osl⟩) (G:PySem.W.codeIn K zy qual=true) (S:FnScope N ps scope)
 (len:∀vs H Q E,sp vs H Q E->vs.length=ps.length)
 (z:∀(A:Around) (outer:List Env) (s:Shared) (H:Hp) (vs:List V) (Q:VK) (E:XK),Room k (A.deeper (envOfC qual scope s.heap.objs.size f zy))->sp vs H Q E ->
   ∃t,PSs (D6 CX P w K mg base N qual scope f zy A outer s H E) body t/\t { nx:=λ_ H'=>Q .non H',rt:=Q } (DO N vs) H) :
 FnOk P w K mg base CX (k+1) f (PySem.W.fnOf name qual params body scope O kV doc pm an zy ct) ps sp:=by
 refine⟨len,λA outer s H args us vs Q E hr j C r l=>?_⟩;have D:=len _ _ _ _ l;have p:K.In s.heap:=j.mod.kin.keeps λb o e=>(j.bs b o e).1
 have lim:s.heap.NoLimit:=j.mod.nolimit.keeps λb o e=>(j.bs b o e).1
 have i:∀y∈ps.zip us,scope.names.lookup y.1=some .local\/(scope.names.lookup y.1=some .cell/\((cellsFrom (s.heap.objs.size+1) scope.names []).lookup y.1).isSome=true):=λ⟨n,v⟩ R=>by
  rcases S.par n (List.of_mem_zip R).1 with q | q
  ·exact .inl q
  ·exact .inr ⟨q,PySem.W.cellsFrom_some _ _ _ (.inl q)⟩
 refine codeAny_call_function hr.depth (p _ _ lk) rfl S.co S.gen rfl (PySem.W.codeRec_of p G) (C _ _ _ _ ?_);refine wpAny_newFunctionEnv_cells S.kind i λenv he s1 x=>?_
 subst he;refine⟨lim.keeps x.toInCall.keep,codeAny_func ?_⟩;obtain⟨t,M,L⟩:=z A outer s H vs Q E (hr.deeper _) l;have I:zd (D6 CX P w K mg base N qual scope f zy A outer s H E) [] (DO N vs) H s1:=YY S hr.hd j D r x;refine ZBt (M [] s1 (DO N vs) H _ I L) (λB s' hs=>?_) λe s' hs=>hs
 have fin:∀{g:St} {H':Hp} {v:V} {u:Value},zd (D6 CX P w K mg base N qual scope f zy A outer s H E) [] g H' s'->zi v u->Q v H'->CE outer P w H s Q u s' :=
  λ{g H' v u} J m q=>⟨v,H',J.os,J.bare,J.base,J.hok,m,q⟩
 cases B with
 | ret u =>
  obtain⟨v,g,H',J,m,q⟩:=hs;exact fin J m q
 | next =>
  obtain⟨g,H',J,q⟩:=hs;exact fin (v:=V.non) (u:=Value.none) J rfl q
 | brk =>
  obtain⟨_,_,_,q⟩:=hs;exact False.elim q
 | cont =>
  obtain⟨_,_,_,q⟩:=hs;exact False.elim q
section
variable {X:Cx}{x:Str}{p pos:Pos}{e:Expr}{es:List Expr}{t:TA}{id T:String}{r:List V->Hp->VK->Prop}
noncomputable def tCB(r:List V->Hp->VK->Prop)(t:TA):TE:=λZ H Q=>t Z H λvs H1=>r vs H1 Q
theorem AZ (O:CallR X (.builtin id) r) (U:Gl X x) (hm:X.mg x=none) (hv:bootBuiltins x=some (.builtin id)) (ha:PA X (e::es) t) (hn:x ≠ "__name__":=by decide) (z:(x==("__debug__" : Str))=false:=by decide)
 (he:starEach (e::es) X.env=(false,eval e X.env)::starEach es X.env:=by rfl) (G:(backTo pos (starEach es X.env)).any (·.1)=false:=by rfl):PE X (.Call (.Name x p) (e::es) [] pos) (tCB r t):=by
 intro El s Z H Q I h;refine wpAny_Call_Name_kw (CO I U hm hv ?_ hn z);exact PyProof.Rows.callWith_builtin1 (zm (ha pos El s Z H _ I h) λus s1 ⟨vs,H1,f,r1,g⟩=>O El s1 Z H1 vs us Q f r1 g) he G
theorem Bi (O:CallR X (.type T) r) (U:Gl X x) (hm:X.mg x=none) (hv:bootBuiltins x=some (.type T)) (ha:PA X (e::es) t) (hn:x ≠ "__name__":=by decide) (z:(x==("__debug__" : Str))=false:=by decide)
 (he:starEach (e::es) X.env=(false,eval e X.env)::starEach es X.env:=by rfl) (G:(backTo pos (starEach es X.env)).any (·.1)=false:=by rfl):PE X (.Call (.Name x p) (e::es) [] pos) (tCB r t):=by
 intro El s Z H Q I h;refine wpAny_Call_Name_kw (CO I U hm hv ?_ hn z);exact PyProof.Rows.callWith_type1 (zm (ha pos El s Z H _ I h) λus s1 ⟨vs,H1,f,r1,g⟩=>O El s1 Z H1 vs us Q f r1 g) he G
end
end L2
namespace HT
open PySem PyProof.Rows
section
open PySem.SeqAt
open PySem.AutoSeq1 (wpAny_loadPart')
open PySem.MeetsSeq PySem.MeetsSeq2 PySem.MeetsSeq3
end
section
variable {prog:Program}{w:World}{A:Around}{E:Value->Shared->Prop}{s:Shared}
theorem cat_tup {t b:Addr} {vs ws:List Value} {Q:Value->Shared->Prop} (O:IsTup s.heap t vs.toArray) (G:IsTup s.heap b ws.toArray) (z:vs≠[])
 (h1:ws=[]->Q (.ref t) s) (h2:ws≠[]->Q (.ref s.heap.objs.size) { s with heap:=s.heap.push { cls:=.type "tuple",data:=.seq (vs++ws).toArray } })
 (hsz:vs.length+ws.length<=sizeLine):wpAny (model prog w) A (binaryOp .Add (.ref t) (.ref b)) Q E s:=by
 obtain⟨⟨cls,m,data,sl⟩,k,o,n,hd⟩:=id O;obtain⟨⟨l,g,data2,j⟩,f,i,p,hd2⟩:=id G;simp only at o hd i hd2;subst o hd i hd2;have e:vs.toArray++ws.toArray=(vs++ws).toArray:=by simp
 by_cases hw:ws=[]
 ·exact concat_meets ⟨_,k,rfl⟩ ⟨_,f,rfl⟩ noFill_tuple_add seq_tuple_add PySem.F.slot_tuple_add PySem.F.entry_tuple_add (PySem.F.args_tuple_add_2 _ _)
   (tuple_addW1 t b vs.toArray ws.toArray n p m g sl j (by simpa using z) (by simp[hw])) ⟨k,f,h1 hw⟩
 ·refine concat_meets ⟨_,k,rfl⟩ ⟨_,f,rfl⟩ noFill_tuple_add seq_tuple_add PySem.F.slot_tuple_add PySem.F.entry_tuple_add (PySem.F.args_tuple_add_2 _ _)
   (tuple_addW2 t b vs.toArray ws.toArray n p m g sl j (by simpa using z) (by simpa using hw) (by rw[ZBM,ZBM];exact hsz)) ⟨k,f,?_⟩
  rw[e];exact h2 hw
end
end HT
namespace L2
open PySem PySem.Spec PyProof.Rows
variable {x:V}
noncomputable abbrev TO:=St->Hp->(Option Int->Hp->Prop)->Prop
theorem Kr{ns:List Int}:∀{us:List Value},zh (ns.map V.int) us->IntsAre us ns:=by
 induction ns with
 | nil=>intro us r;rw[ZC7]at r;cases r;exact .nil
 | cons n ns f =>
  intro us r;rw[ZBU]at r;cases r with
  | cons r1 g =>
   obtain⟨t,e⟩:=r1;subst e;exact .cons n t (f g)
section
variable {X:Cx}{e:Expr}{te:TE}{lo hi:Option Expr}{tl th:TO}{pos p2:Pos}
noncomputable def NZ(K:W.Frag):R2:=λx y H Q=>∃a b xs ys,x=.ref a/\y=.ref b/\zj K H a xs/\zj K H b ys/\xs≠[]/\xs.length+ys.length<=sizeLine /\
 (ys=[]->Q (.ref a) H)/\(ys≠[]->∀p,H p=none->Q (.ref p) (upd H p (.tup (xs++ys))))
theorem zh.nil_iff{xs:List V}{us:List Value}(r:zh xs us):us=[] ↔ xs=[]:=by
 cases r with
 | nil=>simp
 | cons _ _=>simp
theorem Tv:zv X (binaryOp .Add) (NZ X.K):=by
 intro El s Z H x y v u Q I n p h;obtain⟨a,b,xs,ys,rfl,rfl,ha,i,j,hz,l,m⟩:=h;cases n;cases p;obtain⟨zc,r1,k,_⟩:=I.tuple ha;obtain⟨g,f,p2,_⟩:=I.tuple i;refine HT.cat_tup k p2 (λz=>j (r1.nil_iff.mp z)) (λz=>⟨.ref a,H,I,rfl,l (f.nil_iff.mp z)⟩) (λz=>?_) (by rw[<- r1.length,<- f.length];exact hz);refine⟨.ref s.heap.objs.size,_,I.laid (t':=s.toks) (o:=.tup (xs++ys)) (λb r q=>ZBG _ q) (ZBD _) ?_,rfl,m (λw=>z (f.nil_iff.mpr w)) _ (I.hok.fresh (ZBD _))⟩;exact⟨by rw[ZBS];exact hz,_,r1.append f,IsTupN.new _ _⟩
end
noncomputable def ixN(n:Nat)(i:Int):Option Nat:=if 0<=i then (if i<n then some i.toNat else none) else if -(n:Int)<=i then some (i+n).toNat else none
noncomputable def atI{α:Type}(xs:List α)(i:Int):Option α:=(ixN xs.length i).bind λj=>xs[j]?
theorem Qf{n:Nat}{i:Int}{j:Nat}(h:ixN n i=some j):seqIndex? i n=some j/\j<n /\ -(n:Int)<=i/\i<n:=by
 unfold ixN at h
 by_cases h0:0<=i
 ·rw[if_pos h0]at h
  by_cases h1:i<n
  ·rw[if_pos h1]at h;have e:i.toNat=j:=ZBQ h;exact⟨by rw[seqIndex_of h0 h1,e],by lia,by lia,h1⟩
  ·rw[if_neg h1]at h;cases h
 ·rw[if_neg h0]at h
  by_cases h1 : -(n:Int)<=i
  ·rw[if_pos h1]at h;have e:(i+n).toNat=j:=ZBQ h;exact⟨by rw[seqIndex_neg (by lia) h1,e],by lia,h1,by lia⟩
  ·rw[if_neg h1]at h;cases h
theorem Lr{α:Type}{xs:List α}{i:Int}{v:α}(h:atI xs i=some v):∃j,seqIndex? i xs.length=some j/\xs[j]?=some v/\j<xs.length /\ -(xs.length:Int)<=i/\i<xs.length:=by
 unfold atI at h;cases e:ixN xs.length i with
 | none=>rw[e]at h;cases h
 | some j =>
  rw[e]at h;obtain⟨h1,h2,f,g⟩:=Qf e;exact⟨j,h1,h,h2,f,g⟩
def Kd(b:Expr):Prop:=∀o i,subscripted b false o i=operate [o,i] (getItem o i)
noncomputable def IxR(X:Cx)(r:R2):Prop :=
 ∀(value slice:Expr) (El:List (Addr×Obj)) (s:Shared) (Z:St) (H:Hp) (x y:V) (v u:Value) (Q:VK),zd X El Z H s->zi x v->zi y u->r x y H Q ->
  subscripted slice false v u=operate [v,u] (getItem v u)->wpAny (model X.prog X.w) X.A (subscriptTail value slice v u) (EP X El Z Q) X.xe s
noncomputable def MtR(X:Cx)(id:String)(r:V->List V->Hp->VK->Prop):Prop :=
 ∀(El:List (Addr×Obj)) (s:Shared) (Z:St) (H:Hp) (x:V) (xs:List V) (v:Value) (us:List Value) (Q:VK),zd X El Z H s->zi x v->zh xs us->r x xs H Q ->
  wpAny (model X.prog X.w) X.A (call (.builtin id) (v::us)) (EP X El Z Q) X.xe s
section
variable {X:Cx}{a b:Expr}{ta tb:TE}{pos:Pos}
theorem IxR.or{r z:R2}(h:IxR X r)(h':IxR X z):IxR X (λx y H Q=>r x y H Q\/z x y H Q):=by
 intro value slice El s Z H x y v u Q I f g q hs
 rcases q with q | q
 ·exact h value slice El s Z H x y v u Q I f g q hs
 ·exact h' value slice El s Z H x y v u Q I f g q hs
theorem TJ{r:R2}(hr:IxR X r)(ha:PE X a ta)(z:PE X b tb)(hs:Kd b):PE X (.Subscript a b pos) (tOp r ta tb):=by
 intro El s Z H Q I h;exact Subscript_ (Mv ha z I h λv u s2 x y H2 f g i q=>hr a b El s2 Z H2 x y v u Q f g i q (hs _ _))
noncomputable def N0(K:W.Frag):R2:=λx y H Q=>∃p xs i v,x=.ref p/\y=.int i/\zr K H p xs/\atI xs i=some v/\Q v H
noncomputable def M3(K:W.Frag):R2:=λx y H Q=>∃p xs i v,x=.ref p/\y=.int i/\zj K H p xs/\atI xs i=some v/\Q v H
noncomputable def M6:R2:=λx y H Q=>∃z i c,x=.str z/\y=.int i/\z.length<=sizeLine/\atI z.cps.toList i=some c/\Q (.str ⟨#[c]⟩) H
theorem ix_list:IxR X (N0 X.K):=by
 intro value slice El s Z H x y v u Q I B C h hs;obtain⟨p,xs,i,z,rfl,rfl,o,he,q⟩:=h;cases B;obtain⟨t,rfl⟩:=C;obtain⟨zc,r,pl,hz⟩:=I.list o;obtain⟨j,h1,h2,D,l,m⟩:=Lr he;obtain⟨w,k,g⟩:=r.get h2;have n:=r.length;have hn:=Ex;have fin:EP X El Z Q w s:=⟨z,H,I,g,q⟩
 by_cases h0:0<=i
 ·have f:i.toNat=j:=by
   rw[seqIndex_of h0 m]at h1;exact ZBQ h1
  exact item_listR pl.isList h0 (by lia) (by rw[f];simpa using k) fin hs
 ·have f:(i+(zc.toArray.size:Int)).toNat=j:=by
   rw[seqIndex_neg (by lia) l]at h1;rw[ZBM,<- n];exact ZBQ h1
  exact subscriptTail_builtinR (x:=w) pl.isList.typeIs slot_list_getitem.lookup
   (wpAny_getItem_list_neg (Q:=λr s'=>r=w/\EP X El Z Q r s') pl.isList (by lia) (by rw[ZBM] <;> lia) (by lia) (by rw[f];simpa using k) ⟨rfl,fin⟩) hs
theorem ix_tup:IxR X (M3 X.K):=by
 intro value slice El s Z H x y v u Q I m n h hs;obtain⟨p,xs,i,z,rfl,rfl,l,he,q⟩:=h;cases m;obtain⟨t,rfl⟩:=n;obtain⟨zc,r,pl,hz⟩:=I.tuple l;obtain⟨j,h1,h2,o,B,C⟩:=Lr he;obtain⟨w,g,f⟩:=r.get h2;have k:=r.length;have hn:=Ex;have fin:EP X El Z Q w s:=⟨z,H,I,f,q⟩
 exact subscriptTail_builtinR (x:=w) pl.typeIs slot_tuple_getitem.lookup
  (getItem_tuple (j:=j) (Q:=λr s'=>r=w/\EP X El Z Q r s') pl (by lia) (by lia) (by rw[ZBM,<- k];exact h1) (by simpa using g) ⟨rfl,fin⟩) hs
theorem Yq:IxR X M6:=by
 intro value slice El s Z H x y v u Q I m n h hs;obtain⟨z,i,c,rfl,rfl,hz,he,q⟩:=h;obtain⟨t,rfl⟩:=m;obtain⟨t',rfl⟩:=n;obtain⟨j,h1,h2,o,g,k⟩:=Lr he;have l:z.cps.toList.length=z.length:=by simp[Str.length]
 rw[l]at h1 g k;have hn:=Ex
 exact tail_any (typeIs_str s z t) slot_str_getitem.lookup (getItem_str (c:=c) (by
  have f:decide (i < -(2^63:Int))=false:=ZBo (by lia);have e2:decide (i ≥ 2^63)=false:=ZBo (by lia);rw[f,e2,Bool.or_false]) (by rw[h1];simpa using h2) ⟨.str ⟨#[c]⟩,H,I.tok _,⟨_,rfl⟩,q⟩) hs
noncomputable def rIx(K:W.Frag):R2:=λx y H Q=>N0 K x y H Q\/M3 K x y H Q\/M6 x y H Q
theorem ix_seq:IxR X (rIx X.K):=ix_list.or (ix_tup.or Yq)
theorem Ue(zc:List Value)(n j:Nat)(u:Value):Obj.mapSeq (·.setIfInBounds j u) { cls:=.type "list",data:=.seq zc.toArray n } = { cls:=.type "list",data:=.seq (zc.set j u).toArray n }:=by
 simp[Obj.mapSeq]
theorem zd.lst{El:List (Addr×Obj)}{Z:St}{H:Hp}{s:Shared}{p:Addr}{xs:List V}(I:zd X El Z H s)(h:H p=some (.lst xs)) :
 ∃(zc:List Value) (n:Nat),zh xs zc/\s.heap.get? p=some { cls:=.type "list",data:=.seq zc.toArray n } /\ xs.length<=sizeLine:=by
 obtain⟨z,zc,n,r,e⟩:=I.hok p _ h;exact⟨zc,n,r,e,z⟩
theorem zd.lstUpd {El:List (Addr×Obj)} {Z:St} {H:Hp} {s:Shared} {p:Addr} {xs ys:List V} {zc its':List Value} {n z:Nat} {f:Obj->Obj} (I:zd X El Z H s) (h:H p=some (.lst xs))
 (G:s.heap.get? p=some { cls:=.type "list",data:=.seq zc.toArray n }) (hf:f { cls:=.type "list",data:=.seq zc.toArray n } = { cls:=.type "list",data:=.seq its'.toArray z }) (r:zh ys its') (hz:ys.length<=sizeLine) (t:Nat) :
 zd X El Z (upd H p (.lst ys)) { s with heap:=s.heap.update p f,toks:=t }:=by
 have e:(s.heap.update p f).get? p=some { cls:=.type "list",data:=.seq its'.toArray z }:=by
  rw[ZCv f G (by rw[hf] <;> rfl),hf]
 refine I.write (x:=p) (e:=p) (by rw[h];trivial) (.inl rfl) (λb u g q=>(ZCw _ _ (Ne.symm g)).trans q) ⟨_,e⟩ ?_;exact⟨hz,its',z,r,e⟩
noncomputable def Sf:V->V->V->Hp->(Hp->Prop)->Prop:=λo i v H Q=>∃p xs k j,o=.ref p/\i=.int k/\H p=some (.lst xs)/\ixN xs.length k=some j/\Q (upd H p (.lst (xs.set j v)))
theorem X0:Fg X Sf:=by
 intro El s Z H o i v J G u Q I C B D h;obtain⟨p,xs,k,j,rfl,rfl,y,z,q⟩:=h;cases C;obtain⟨t,rfl⟩:=B;obtain⟨zc,n,r,l,hz⟩:=I.lst y;obtain⟨h1,h2,w,x⟩:=Qf z;have g:=r.length;have hn:=Ex
 have m:zd X El Z (upd H p (.lst (xs.set j v))) { s with heap:=s.heap.update p (Obj.mapSeq (·.setIfInBounds j u)) } :=
  I.lstUpd y l (Ue zc n j u) (r.set D j) (by rw[List.length_set];exact hz) s.toks
 by_cases h0:0<=k
 ·have f:k.toNat=j:=by
   rw[seqIndex_of h0 x]at h1;exact ZBQ h1
  exact PySem.W.ki_setAt l h0 (by lia) (by rw[ZBM,<- g];exact x) (by rw[f];exact⟨_,m,q⟩)
 ·have f:(k+(zc.toArray.size:Int)).toNat=j:=by
   rw[seqIndex_neg (by lia) w]at h1;rw[ZBM,<- g];exact ZBQ h1
  exact PySem.W.ki_setBack l (by lia) (by rw[ZBM,<- g];exact w) (by lia) (by rw[f];exact⟨_,m,q⟩)
noncomputable def CC:V->Bool
 | .non=>true
 | .bl _=>true
 | .int _=>true
 | .str _=>true
 | _=>false
noncomputable def eqV:V->V->Bool
 | .non,.non=>true
 | .bl a,.bl b=>a==b
 | .bl a,.int b=>(if a then 1 else 0)==b
 | .int a,.bl b=>a==(if b then 1 else 0)
 | .int a,.int b=>a==b
 | .str a,.str b=>a==b
 | _,_=>false
theorem Xx{A:Around}{s:Shared}{y:V}{u v:Value}(O:zi y u)(z:zi x v)(U:CC y=true)(G:CC x=true):SeqAt.EqAt A s u v (eqV y x):=by
 cases y with
 | non =>
  cases O;cases x with
  | non=>cases z;exact SeqAt.EqAt.same _
  | bl b=>cases z;exact SeqAt.EqAt.none_bool b
  | int b=>obtain⟨t,rfl⟩:=z;exact SeqAt.EqAt.none_int b t
  | str b=>obtain⟨t,rfl⟩:=z;exact SeqAt.EqAt.none_str b t
  | _=>exact absurd (show false=true from G) ZBz
 | bl a =>
  cases O;cases x with
  | non=>cases z;exact SeqAt.EqAt.bool_none a
  | bl b=>cases z;exact SeqAt.EqAt.bool_bool a b
  | int b=>obtain⟨t,rfl⟩:=z;exact SeqAt.EqAt.bool_int a b t
  | str b=>obtain⟨t,rfl⟩:=z;exact SeqAt.EqAt.bool_str a b t
  | _=>exact absurd (show false=true from G) ZBz
 | int a =>
  obtain⟨t',rfl⟩:=O;cases x with
  | non=>cases z;exact SeqAt.EqAt.int_none a t'
  | bl b=>cases z;exact SeqAt.EqAt.int_bool a t' b
  | int b=>obtain⟨t,rfl⟩:=z;exact SeqAt.EqAt.int_int a t' b t
  | str b=>obtain⟨t,rfl⟩:=z;exact SeqAt.EqAt.int_str a t' b t
  | _=>exact absurd (show false=true from G) ZBz
 | str a =>
  obtain⟨t',rfl⟩:=O;cases x with
  | non=>cases z;exact SeqAt.EqAt.str_none a t'
  | bl b=>cases z;exact SeqAt.EqAt.str_bool a t' b
  | int b=>obtain⟨t,rfl⟩:=z;exact SeqAt.EqAt.str_int a t' b t
  | str b=>obtain⟨t,rfl⟩:=z;exact SeqAt.EqAt.str_str a t' b t
  | _=>exact absurd (show false=true from G) ZBz
 | _=>exact absurd (show false=true from U) ZBz
noncomputable def eqU(x:V)(u:Value):Bool:=match u with
 | .none=>eqV .non x
 | .bool b=>eqV (.bl b) x
 | .int i _=>eqV (.int i) x
 | .str z _=>eqV (.str z) x
 | _=>false
theorem Ja{y:V}{u:Value}(r:zi y u)(f:CC y=true):eqU x u=eqV y x:=by
 cases y with
 | non=>cases r;rfl
 | bl b=>cases r;rfl
 | int i=>obtain⟨t,rfl⟩:=r;rfl
 | str z=>obtain⟨t,rfl⟩:=r;rfl
 | _=>exact absurd (show false=true from f) ZBz
theorem LA:∀{xs:List V} {us:List Value},zh xs us->xs.all CC=true->us.any (eqU x)=xs.any λy=>eqV y x
 | _,_,.nil,_=>rfl
 | y::xs,u::us,.cons r t,f=>by
  rw[List.all_cons,ZBb]at f;rw[ZCx,ZCx,Ja r f.1,LA t f.2]
theorem GO{A:Around}{s:Shared}{v:Value}(G:zi x v)(z:CC x=true):∀{xs:List V} {us:List Value},zh xs us->xs.all CC=true->∀u∈us,SeqAt.EqAt A s u v (eqU x u)
 | _,_,.nil,_=>λu hu=>by cases hu
 | y::xs,u::us,.cons r t,f=>λg hu=>by
  rw[List.all_cons,ZBb]at f
  rcases ZBI.mp hu with rfl | hu
  ·rw[Ja r f.1];exact Xx r G f.1 z
  ·exact GO G z t f.2 g hu
noncomputable def inV(x:V)(xs:List V):Bool:=xs.any λy=>eqV y x
noncomputable def rIn(K:W.Frag)(neg:Bool):R2:=λx y H Q=>∃p xs,y=.ref p/\(zr K H p xs\/zj K H p xs)/\CC x=true/\xs.all CC=true/\Q (.bl (if neg then !inV x xs else inV x xs)) H
theorem Yr:zv X (compareOp .NotIn) (rIn X.K true):=by
 intro El s Z H x y v u Q I i j h;obtain⟨p,xs,rfl,f,g,fs,q⟩:=h;cases j
 rcases f with f | f
 ·obtain⟨zc,r,pl,hz⟩:=I.list f;refine SeqAt.notIn_listAt (eqU x) pl.isList (λw hw=>GO i g r fs w (by simpa using hw)) ⟨.bl _,H,I,rfl,?_⟩;rw[show zc.toArray.any (eqU x)=zc.any (eqU x) by simp,LA r fs];exact q
 ·obtain⟨zc,r,pl,hz⟩:=I.tuple f;refine SeqAt.notIn_tupleAt (eqU x) pl (λw hw=>GO i g r fs w (by simpa using hw)) ⟨.bl _,H,I,rfl,?_⟩;rw[show zc.toArray.any (eqU x)=zc.any (eqU x) by simp,LA r fs];exact q
theorem call_list_of:CallR X (.type "list") (λxs H Q=>∃p ys,xs=[.ref p]/\(zr X.K H p ys\/zj X.K H p ys)/\∀l,H l=none->Q (.ref l) (upd H l (.lst ys))):=by
 intro El s Z H xs us Q I r h;obtain⟨p,ys,rfl,i,q⟩:=h;obtain⟨u,rfl,m⟩:=Bx r;cases m
 have fin:∀(zc:List Value),zh ys zc->ys.length<=sizeLine->∀(h':Heap) (f:Nat),(∀b o',s.heap.get? b=some o'->h'.get? b=some o') ->
  h'.get? s.heap.objs.size=some { cls:=.type "list",dict:=none,data:=.seq zc.toArray f,slots:=#[] } -> EP X El Z Q (.ref s.heap.objs.size) { s with heap:=h' }:=λzc g hz h' f kp e =>
  ⟨.ref s.heap.objs.size,_,I.laid (t':=s.toks) kp (ZBD _) (show ObjOk X.prog X.w _ h' _ (.lst ys) from⟨hz,zc,f,g,e⟩),rfl,q _ (I.hok.fresh (ZBD _))⟩
 rcases i with i | i
 ·obtain⟨zc,g,pl,hz⟩:=I.list i;have t:=g.length;obtain⟨o,k,j,n,hd⟩:=pl.isList;exact call_list_seq p (.inl rfl) k j hd (λh' f kp e=>fin zc g hz h' f kp e) (by simp only[ZBM] <;> lia)
 ·obtain⟨zc,g,pl,hz⟩:=I.tuple i;have t:=g.length;obtain⟨o,k,j,n,hd⟩:=pl;exact call_list_seq p (.inr rfl) k j hd (λh' f kp e=>fin zc g hz h' f kp e) (by simp only[ZBM] <;> lia)
theorem call_tuple_of:CallR X (.type "tuple") (λxs H Q=>∃p ys,xs=[.ref p]/\((zr X.K H p ys/\∀l,H l=none->Q (.ref l) (upd H l (.tup ys)))\/(zj X.K H p ys/\Q (.ref p) H))):=by
 intro El s Z H xs us Q I r h;obtain⟨p,ys,rfl,h⟩:=h;obtain⟨u,rfl,k⟩:=Bx r;cases k
 rcases h with ⟨f,q⟩ | ⟨f,q⟩
 ·obtain⟨zc,g,pl,hz⟩:=I.list f;have m:=g.length;refine call_tuple_list pl.isList (λh' kp=>?_) (by simp only[ZBM] <;> lia);have i:zd X El Z H { s with heap:=h' }:=I.kept (t':=s.toks) kp
  have j:zd X El Z (upd H h'.objs.size (.tup ys)) { s with heap:=h'.push { cls:=.type "tuple",data:=.seq zc.toArray } } :=
   i.laid (t':=s.toks) (λb o e=>ZBG _ e) (ZBD _) (show ObjOk X.prog X.w _ _ _ (.tup ys) from⟨hz,zc,g,IsTupN.new _ _⟩)
  exact⟨.ref h'.objs.size,_,j,rfl,q _ (i.hok.fresh (ZBD _))⟩
 ·obtain⟨zc,g,pl,hz⟩:=I.tuple f;exact call_tuple_same pl ⟨.ref p,H,I,rfl,q⟩
def tyV(K:W.Frag)(T:String)(x:V)(H:Hp):Prop:=match x with
 | .str _=>T = "str"
 | .int _=>T = "int"
 | .ref p=>(T = "list" /\ ∃xs,zr K H p xs)\/(T = "tuple" /\ ∃o,K.lookup p=some o/\o.cls=.type "tuple" /\ o.dict=none) \/
  (T = "dict" /\ ((∃ze,H p=some (.dK ze))\/∃ze,H p=some (.dT ze)))\/(T = "set" /\ ∃S n,H p=some (.set S n))
 | _=>False
theorem O2{El:List (Addr×Obj)}{Z:St}{H:Hp}{s:Shared}{T:String}{v:Value}(I:zd X El Z H s)(r:zi x v)(ty:tyV X.K T x H) :
 s.TypeIs v T/\∀a,v=.ref a->∃G,s.heap.get? a=some G/\G.dict=none:=by
 cases x with
 | str z =>
  obtain⟨t,rfl⟩:=r;cases (show T = "str" from ty);exact⟨typeIs_str s z t,λ_ e=>nomatch e⟩
 | int i =>
  obtain⟨t,rfl⟩:=r;cases (show T = "int" from ty);exact⟨typeIs_int s i t,λ_ e=>nomatch e⟩
 | ref p =>
  cases r
  rcases ty with ⟨rfl,xs,j⟩ | ⟨rfl,o,f,g,hd⟩ | ⟨rfl,f⟩ | ⟨rfl,S,n,f⟩
  ·obtain⟨zc,_,pl,_⟩:=I.list j;refine⟨pl.isList.typeIs,λa e=>?_⟩;cases e;obtain⟨o,n,e,c,hd,_⟩:=pl;exact⟨o,e,hd⟩
  ·refine⟨⟨o,I.kIn p o f,g⟩,λa e=>?_⟩;cases e;exact⟨o,I.kIn _ o f,hd⟩
  ·have z:∃o,s.heap.get? p=some o/\o.ExactDict:=by
    rcases f with ⟨ze,f⟩ | ⟨ze,f⟩
    ·obtain⟨_,_,_,_,o,_,_,e,ex,_⟩:=I.hok p _ f;exact⟨o,e,ex⟩
    ·obtain⟨_,_,_,_,o,_,_,e,ex,_⟩:=I.hok p _ f;exact⟨o,e,ex⟩
   obtain⟨o,e,ex⟩:=z;refine⟨⟨o,e,ex.1⟩,λa e2=>?_⟩;cases e2;exact⟨o,e,ex.2.1⟩
  ·obtain⟨o,_,_,_,e,ex,_⟩:=I.hok p _ f;refine⟨⟨o,e,ex.1⟩,λa e2=>?_⟩;cases e2;exact⟨o,e,ex.2.1⟩
 | _=>exact False.elim ty
noncomputable def NV(K:W.Frag)(T:String)(r:V->List V->Hp->VK->Prop)(to:TE):TE:=λZ H Q=>to Z H λx H1=>tyV K T x H1/\r x [] H1 Q
noncomputable def tBM(K:W.Frag)(T:String)(r:V->List V->Hp->VK->Prop)(to:TE)(t:TA):TE:=λZ H Q=>to Z H λx H1=>tyV K T x H1/\t Z H1 λxs H2=>r x xs H2 Q
variable {o e:Expr}{es:List Expr}{to:TE}{t:TA}{name:Str}{apos cpos:Pos}{T id:String}{r:V->List V->Hp->VK->Prop}
theorem XA (pa:PlainAttrs T) (slot:Slot T name id) (O:typeOf (.builtin id)=pure (.type "method_descriptor")) (hm:MtR X id r) (U:PE X o to)
 (z:attributeBase o name X.env (eval o X.env)=eval o X.env:=by rfl) (G:(apos.endLine==cpos.line)=true:=by rfl):PE X (.Call (.Attribute o name apos) [] [] cpos) (NV X.K T r to):=by
 intro El s Z H Q I h;refine wpAny_Call_method0_late z G (zm (U El s Z H _ I h) λv s1 ⟨x,H1,f,r1,ty,g⟩=>?_);obtain⟨h1,h2⟩:=O2 f r1 ty;exact⟨T,id,pa,slot,O,h1,h2,Calls.callWith_builtin rfl (PySem.evalArgs_none (hm El s1 Z H1 x [] v [] Q f r1 .nil g))⟩
theorem G0 (pa:PlainAttrs T) (slot:Slot T name id) (a0:typeOf (.builtin id)=pure (.type "method_descriptor")) (hm:MtR X id r) (ho:PE X o to) (ha:PA X (e::es) t)
 (G:attributeBase o name X.env (eval o X.env)=eval o X.env:=by rfl)
 (U:((backTo cpos (starEach (e::es) X.env)).all (λx=>!x.1)&&(backToKw cpos (keywordEach [] X.env)).all (λx=>x.1.isSome)
   && decide ((e::es).length+([]:List Keyword).length+(if ([]:List Keyword).isEmpty then 0 else 1)<30))=true:=by rfl)
 (O:(apos.endLine==cpos.line)=true:=by rfl) (hs:starEach (e::es) X.env=(false,eval e X.env)::starEach es X.env:=by rfl) (z:(backTo cpos (starEach es X.env)).any (·.1)=false:=by rfl) :
 PE X (.Call (.Attribute o name apos) (e::es) [] cpos) (tBM X.K T r to t):=by
 intro El s Z H Q I h;refine wpAny_Call_method_late G U O rfl (zm (ho El s Z H _ I h) λv s1 ⟨x,H1,f,r1,ty,j⟩=>?_);obtain⟨h1,h2⟩:=O2 f r1 ty;refine⟨T,id,pa,slot,a0,h1,h2,?_⟩;have g:=ha cpos El s1 Z H1 _ f j;rw[hs]at g ⊢;refine Calls.callWith_builtin (by show(false||(backTo cpos (starEach es X.env)).any (·.1))=false;rw[z] <;> rfl) (Calls.evalArgs_plain ?_);exact zm g λus s2 ⟨vs,H2,i,l,k⟩=>hm El s2 Z H2 x vs v us Q i r1 l k
end
noncomputable def MtM(X:Cx)(id:String)(r:V->List V->Hp->VK->Prop):Prop :=
 ∀(El:List (Addr×Obj)) (s:Shared) (Z:St) (H:Hp) (x:V) (xs:List V) (v:Value) (us:List Value) (Q:VK),zd X El Z H s->zi x v->zh xs us->r x xs H Q ->
  wpAny (model X.prog X.w) X.A (call (.builtin id) (v::us)) (EP X El Z Q) X.xe s
theorem zh.one:∀{x:V} {us:List Value},zh [x] us->∃u,us=[u]/\zi x u
 | _,_,.cons r .nil=>⟨_,rfl,r⟩
theorem zh.eraseIdx:∀{xs:List V} {us:List Value} (i:Nat),zh xs us->zh (xs.eraseIdx i) (us.eraseIdx i)
 | _,_,_,.nil=>.nil
 | _,_,0,.cons _ t=>t
 | _,_,i+1,.cons r t=>.cons r (zh.eraseIdx i t)
theorem zh.reverse{xs:List V}{us:List Value}(h:zh xs us):zh xs.reverse us.reverse:=by
 induction h with
 | nil=>exact .nil
 | cons r t f=>rw[ZDE,ZDE];exact zh.append f (.cons r .nil)
theorem zh.rep{xs:List V}{us:List Value}(h:zh xs us):∀k:Nat,zh (List.replicate k xs).flatten (List.replicate k us).flatten
 | 0=>.nil
 | k+1=>by
  rw[ZDF,ZDF,List.flatten_cons,List.flatten_cons];exact zh.append h (zh.rep h k)
theorem Qb{α:Type}:∀(l:List α) (i:Nat),(l.eraseIdx i).length<=l.length
 | [],_=>ZBD _
 | _::_,0=>ZCS _
 | _::r,i+1=>Nat.succ_le_succ (Qb r i)
theorem Pg(zc:List Value):∀(k:Nat) (z:List Value),
 List.foldl (λG O=>G++O) z.toArray (List.replicate k zc.toArray)=(z++(List.replicate k zc).flatten).toArray
 | 0,z=>by simp
 | k+1,z=>by
  have e:z.toArray++zc.toArray=(z++zc).toArray:=by simp
  have e2:(z++zc)++(List.replicate k zc).flatten=z++(List.replicate (k+1) zc).flatten:=by
   rw[ZDF,List.flatten_cons,ZCj]
  rw[<- e2,<- Pg zc k (z++zc),<- e,ZDF,List.foldl_cons]
section
variable {X:Cx}{El:List (Addr×Obj)}{Z:St}{H:Hp}{s:Shared}{l b:Addr}{xs ys zs:List V}
theorem zd.lset {zc its':List Value} {n:Nat} {f:Array Value->Array Value} {t':Nat} (I:zd X El Z H s) (z:H l=some (.lst xs))
 (e:s.heap.get? l=some { cls:=.type "list",data:=.seq zc.toArray n }) (hf:f zc.toArray=its'.toArray) (G:zh ys its') (hz:ys.length<=sizeLine) :
 zd X El Z (upd H l (.lst ys)) { s with heap:=s.heap.update l (Obj.mapSeq f),toks:=t' }:=by
 have q:=PySem.IsL.update e f;rw[hf]at q;refine I.write (x:=l) (e:=l) (by rw[z];exact trivial) (.inl rfl) (λi u g hu=>(ZCw s.heap (Obj.mapSeq f) (Ne.symm g)).trans hu) ⟨_,q⟩ ?_;exact⟨hz,its',_,G,q⟩
theorem zd.lnew{zc:List Value}{t':Nat}(I:zd X El Z H s)(z:zh ys zc)(hz:ys.length<=sizeLine) :
 zd X El Z (upd H s.heap.objs.size (.lst ys)) { s with heap:=s.heap.push { cls:=.type "list",data:=.seq zc.toArray },toks:=t' } :=
 I.laid (λ_ _ q=>ZBG _ q) (ZBD _) ⟨hz,zc,0,z,ZBP _ rfl⟩
theorem zd.fresh(I:zd X El Z H s):H s.heap.objs.size=none:=I.hok.fresh (ZBD _)
theorem zd.lstM(I:zd X El Z H s)(G:H l=some (.lst xs)):xs.length<=sizeLine/\∃(zc:List Value) (n:Nat),zh xs zc/\xs.length=zc.length/\s.heap.get? l=some { cls:=.type "list",data:=.seq zc.toArray n }:=by
 obtain⟨z,zc,n,r,e⟩:=I.hok l _ G;exact⟨z,zc,n,r,r.length,e⟩
theorem YV{n:Nat}(h:n<=sizeLine):Builtin.List.listTooLong n=false:=by
 unfold Builtin.List.listTooLong;exact ZBo (by lia)
end
section
variable {X:Cx}
noncomputable def UA:V->List V->Hp->VK->Prop:=λx vs H Q=>∃l xs y,x=.ref l/\vs=[y]/\H l=some (.lst xs)/\xs.length<sizeLine/\Q .non (upd H l (.lst (xs++[y])))
theorem V0:MtM X "list.append" UA:=by
 intro El s Z H x vs v us Q I j i h;obtain⟨l,xs,y,rfl,rfl,f,hz,q⟩:=h;cases j;obtain⟨u,rfl,g⟩:=i.one;obtain⟨z,zc,n,r,k,e⟩:=I.lstM f;refine call_meets F.slot_list_append ⟨_,e,rfl⟩ F.entry_list_append (F.args_list_append_2 _ _) (PySem.list_append l zc.toArray n u (by rw[ZBM];lia)) ⟨e,?_⟩;refine⟨.non,_,I.lset (its':=zc++[u]) f e (by simp) (r.append (.cons g .nil)) ?_,rfl,q⟩;rw[ZBS,ZDM];lia
noncomputable def Xj:V->List V->Hp->VK->Prop:=λx vs H Q=>∃l xs i k y,x=.ref l/\vs=[.int i]/\H l=some (.lst xs) /\ -(2^63)<=i/\i<2^63/\seqIndex? i xs.length=some k/\xs[k]?=some y/\Q y (upd H l (.lst (xs.eraseIdx k)))
theorem UO:MtM X "list.pop" Xj:=by
 intro El s Z H x vs v us Q I C B h;obtain⟨l,xs,i,k,y,rfl,rfl,g,h1,h2,j,o,q⟩:=h;cases C;obtain⟨u,rfl,p⟩:=B.one;obtain⟨t,rfl⟩:=p;obtain⟨z,zc,n,r,m,e⟩:=I.lstM g;obtain⟨w,hw,f⟩:=r.get o
 refine call_meets F.slot_list_pop ⟨_,e,rfl⟩ F.entry_list_pop (F.args_list_pop_2 _ _)
  (MeetsSeq.list_pop_at l zc.toArray n i t k w (fitsIndex_both h1 h2) (by rw[ZBM,<- m];exact j) (by rw[<- ZCy];exact hw) (by rw[ZBM];lia)) ⟨e,?_⟩
 refine⟨y,_,I.lset (its':=zc.eraseIdx k) g e ?_ (r.eraseIdx k) ?_,f,q⟩
 ·show zc.toArray.eraseIdxIfInBounds k=(zc.eraseIdx k).toArray;rw[List.eraseIdxIfInBounds_toArray]
 ·have:=Qb xs k
  lia
noncomputable def Py:R2:=λx y H Q=>∃l b xs zs,x=.ref l/\y=.ref b/\H l=some (.lst xs)/\H b=some (.lst zs)/\xs.length+zs.length<=sizeLine/\∀p,H p=none->Q (.ref p) (upd H p (.lst (xs++zs)))
theorem XE:zv X (binaryOp .Add) Py:=by
 intro El s Z H x y v u Q I o p h;obtain⟨l,b,xs,zs,rfl,rfl,j,i,hz,q⟩:=h;cases o;cases p;obtain⟨z,zc,n,r,t,e⟩:=I.lstM j;obtain⟨B,f,w,m,k,e2⟩:=I.lstM i;refine PySem.P.add_list e e2 ?_ (by rw[ZBM,ZBM];lia);have g:zc.toArray++f.toArray=(zc++f).toArray:=by simp
 rw[g];exact⟨.ref _,_,I.lnew (t':=s.toks) (r.append m) (by rw[ZBS];lia),rfl,q _ I.fresh⟩
noncomputable def OQ:R2:=λx y H Q=>∃l k xs,x=.ref l/\y=.int k/\H l=some (.lst xs) /\ -(2^63)<=k/\k<2^63/\xs.length*k.toNat<=sizeLine /\
 ∀p,H p=none->Q (.ref p) (upd H p (.lst (List.replicate k.toNat xs).flatten))
theorem VC{α:Type}(xs:List α)(k:Nat):(List.replicate k xs).flatten.length=k*xs.length:=by
 induction k with
 | zero=>simp
 | succ k f=>rw[ZDF,List.flatten_cons,ZBS,f,Nat.succ_mul,ZCz]
theorem Vz:zv X (binaryOp .Mult) OQ:=by
 intro El s Z H x y v u Q I C D h;obtain⟨l,k,xs,rfl,rfl,w,h1,h2,hz,q⟩:=h;cases C;obtain⟨t,rfl⟩:=D;obtain⟨z,zc,n,r,B,e⟩:=I.lstM w;have G:zc.toArray.size*k.toNat<=sizeLine:=by rw[ZBM,<- B];exact hz
 have g:¬zc.toArray.size*k.toNat>(2^63-1) / 8:=by
  have:(sizeLine:Nat)<=(2^63-1) / 8:=by decide
  lia
 have i:¬(!Builtin.List.listFitsIndex k)=true:=by
  rw[fitsIndex_both h1 h2];exact ZBz
 have f:¬Builtin.List.listTooLong (zc.toArray.size*k.toNat)=true:=by
  rw[YV G];exact ZBz
 have j:List.foldl (λo p=>o++p) #[] (List.replicate (if zc.toArray.isEmpty=true then 0 else k.toNat) zc.toArray)=(List.replicate k.toNat zc).flatten.toArray:=by
  have f0:∀m:Nat,List.foldl (λo p=>o++p) #[] (List.replicate m zc.toArray)=(List.replicate m zc).flatten.toArray:=λm=>by
   have:=Pg zc m []
   rw[List.nil_append]at this;exact this
  rw[f0];cases zc with
  | nil=>simp
  | cons a J=>rw[if_neg (by simp)]
 refine wpAny_binaryOp_repeat_ref (T:="list") (U:="int") (by decide) ⟨_,e,rfl⟩ (λs'=>typeIs_int s' k t) noFill_list_mul F.fills_int_mul F.slot_int_rmul repeat_list F.slot_int_index.lookup
  (call_meets F.slot_int_rmul (typeIs_int s k t) F.entry_int_rmul (F.args_int_rmul_2 _ _) (int___rmul___int_list k t l zc.toArray n)
    ⟨e,rfl,⟨_,e,rfl⟩,call_meets F.slot_list_mul ⟨_,e,rfl⟩ F.entry_list_mul (F.args_list_mul_2 _ _) (AutoListH.list___mul___list_int_3 l zc.toArray n k t i g f) ⟨e,?_⟩⟩)
 rw[j];exact⟨.ref _,_,I.lnew (t':=s.toks) (r.rep k.toNat) (by rw[VC,ZB4];exact hz),rfl,q _ I.fresh⟩
end
end L2
namespace Att
open PySem PySem.W PySem.Calls PyProof.Rows
theorem bZ{P:Params}{h:Heap}:∀(ns:List Int) (vs:List Value),WellAll P h vs (ns.map WData.int)->IntsAre vs ns:=by
 intro ns
 induction ns with
 | nil =>
  intro vs w;rw[ZC7]at w;cases w;exact .nil
 | cons n ns f =>
  intro vs w;rw[ZBU]at w;cases w with
  | cons a b =>
   cases a;exact .cons _ _ (f _ b)
theorem Xq {l:OpenLaw} {n:Nat} (hn:l.most=some n) {P:Params} {h:Heap} {args:List WData} {vals:List Value}
 (z:l.row.toRowW.claim.pre args=true) (G:WellAll P h vals args) :
 ∃a vs ns,vals=[Value.ref a]/\args=[WData.list (ns.map WData.int)]/\h.get? a=some { cls:=.type "list",data:=.seq vs.toArray } /\ IntsAre vs ns/\ns.length<=n:=by
 have j:WShape.hasAll [] args [.list .int]=true:=(pre_splitW z).1;have k:l.pre.holds [] { args:=args } = true:=(pre_splitW z).2;obtain⟨d,r,rfl,h1,h2⟩:=hasAllW_cons j;obtain rfl:=hasAllW_nil h2;obtain⟨xs,rfl,m⟩:=hasW_list h1;obtain⟨ns,rfl⟩:=items_int m
 have v:ns.length<=n:=by
  unfold OpenLaw.pre at k
  have g:(WTm.not (.lt (.lit (.int (n:Int))) (.len (.arg 0)))).holds [] { args:=[.list (ns.map .int)] } = true:=by
   have g:=(holds_andW k).1;rw[hn]at g;exact g
  have i:=condW_of g (w_not (w_lt w_lit (w_len_list (w_arg rfl))));rw[ZBB]at i;refine Nat.le_of_not_lt λq=>?_
  have p:(n:Int)<((ns.length:Nat):Int):=by lia
  first
   | (rw[ZBK p]at i;exact absurd i (by decide))
   | (simp at i;lia)
 cases G with
 | cons t u =>
  cases u;cases t with
  | list o f=>exact⟨_,_,ns,rfl,rfl,o,bZ ns _ f,v⟩
theorem TF(l:OpenLaw)(args:List WData):l.row.toRowW.claim.post args (.bool true) args=true :=
 postW_of (r:=l.row.toRowW) (X:=(true==true))
  (show WShape.has [] (.bool true) .bool=true by first | rfl | decide | simp[WShape.has,WShape.arms,WShape.armsAll])
  (show(WTm.eq .res (.lit (.bool true))).value [] { args:=args,res:=some (.bool true),after:=args } = some (.bool (true==true)) from w_eq_bool (w_res rfl) w_lit) rfl
theorem attach_call {l:OpenLaw} {n:Nat} {q:Program} {loose:List Str} {XP:(Str->Option Value)->Heap->Prop} {YP:World->Heap->Prop} {d:DefRec}
 (hn:l.most=some n) (U:d.params.defaults=[])
 (call:∀(w:World) (s₀ z:Shared) (mg mb:Str->Option Value) (O:Addr) (o:Obj) (pm cd doc:Value) (a:Addr) (vs:List Value) (ns:List Int),
   Ground q loose [] XP w s₀ mg mb z.heap->YP w z.heap ->
   z.heap.get? O=some o->o.data=.func (docDef d.name d.params d.body d.scope pm cd doc)->z.heap.CodeRec cd d.name->mg d.name=some (.ref O) ->
   z.heap.get? a=some { cls:=.type "list",data:=.seq vs.toArray } -> IntsAre vs ns->ns.length<=n->z.gens = #[] ->
   codeAny (model l.prog w) callerA (.call (.ref O) ⟨[.ref a],[]⟩) (λr s'=>r=.ok (.ret (.bool true))/\OldK z.heap s'.heap/\s'.os=z.os/\AllBare s'.gens) z) :
 WalkO q loose XP YP l.row.toRowW d [] (λf vs=>PySem.call f vs):=by
 intro w s₀ z mg mb G Y O o pm cd doc u kV C hd j p k y args vals as i t I m B;obtain rfl:u=.none:=Dflts.none p U;obtain rfl:kV=.none:=Dflts.noKw p;obtain⟨a,vs,ns,rfl,rfl,g,hints,J⟩:=Xq hn i m;refine enter_call (ZCg (call w s₀ z mg mb O o pm cd doc a vs ns G Y C (fd_plain hd) j k g hints J y) λr s' D=>?_);obtain⟨rfl,h2,v,x⟩:=D;exact⟨.inl ⟨.bool true,.bool true,[],rfl,λ_=>rfl,.bool true,TF l _,λ_=>⟨List.Pairwise.nil,λ_ hm=>(nomatch hm)⟩⟩,h2,v,x⟩
section
variable {prog:Program}{w:World}{A:Around}{E:Value->Shared->Prop}{s:Shared}{K:Frag}
noncomputable def DU(h:Heap):Heap:={ h with objs:=#[] }
theorem Hv(h:Heap)(b:Addr):(DU h).get? b=none:=by
 cases e:(DU h).get? b with
 | none=>rfl
 | some o=>exact absurd (ZBF e) (ZC8 _)
theorem NM{h:Heap}{L:Addr}{m:Str->Option Value}(n:h.Ns L m):Fr (DU h) L h m :=
 ⟨n,λb o e=>(by rw[Hv]at e;cases e),ZBT _⟩
end
end Att
namespace L2
open PySem PySem.Spec PyProof.Rows
variable {X:Cx}{x:Str}{M i kt m n own:Nat}{H H':Hp}{a l p t:Addr}{K:W.Frag}{xs ys:List V}{pos tpos:Pos}{Z σc:St}{v y:V}{r:R2}{ds:List Dv}{A:Around}{Q:VK}{o:HO}{ns:List Int}{ta:TA}{te:TE}{f g:Nat->Int}{es:List Expr}{s:Shared}{P:Program}{w:World}{u:Value}{ze:List (List Key×V)}{ts:List (Nat×Int)}
theorem RJ:∀{vs:List Value} {ns:List Int},IntsAre vs ns->zh (ns.map V.int) vs
 | _,_,.nil=>.nil
 | _,_,.cons n t h=>.cons ⟨t,rfl⟩ (RJ h)
noncomputable def Cj(s:Stmt)(j:Nat):Stmt:=match s with
 | .ClassDef _ _ _ body _ _ _ _ _ _ _=>body.getD j (.Pass ⟨0,0,0,0⟩)
 | _=>.Pass ⟨0,0,0,0⟩
noncomputable def CG(s:Stmt):Arguments:=match s with
 | .FunctionDef _ a _ _ _ _ _ _ _ _=>a
 | _=>{ posonlyargs:=[],args:=[],vararg:=none,kwonlyargs:=[],kw_defaults:=[],kwarg:=none,defaults:=[] }
noncomputable def Bo(s:Stmt):List Stmt:=match s with
 | .FunctionDef _ _ b _ _ _ _ _ _ _=>b
 | _=>[]
noncomputable def AJ(s:Stmt):Scope:=match s with
 | .FunctionDef _ _ _ _ _ _ sc _ _ _=>sc
 | _=>{ kind:=.function,names:=[],isGenerator:=false,isCoroutine:=false }
noncomputable abbrev CX0:CXT:=λ_ _ _ _ _ _=>False
noncomputable abbrev E0:XK:=λ_ _ _=>False
theorem AD:Dx CX0 X E0:=λ_ _ _ _ _ _ _ h=>h.elim
structure Fun(K:W.Frag)(x qual:Str)(st:Stmt)(f:Addr)(fd:FuncData):Prop where
 ex:∃(oc:Value) (od:Option Addr) (kV doc pm:Value) (an:Option Addr) (zy ct:Value) (osl:Array (Option Value)),
  fd=PySem.W.fnOf x qual (CG st) (Bo st) (AJ st) .none kV doc pm an zy ct/\K.lookup f=some ⟨oc,od,.func fd,osl⟩/\PySem.W.codeIn K zy qual=true
 kp:PySem.W.keepIn K (.ref f)=true
section
variable {P:Program}{w:World}{K:W.Frag}{mg:Str->Option Value}{base:Heap}
theorem Fun.ok {qual:Str} {st:Stmt} {f:Addr} {fd:FuncData} {N ps:List Str} {k:Nat} {sp:Sp} (F:Fun K x qual st f fd) (S:FnScope N ps (AJ st)) (len:∀vs H Q E,sp vs H Q E->vs.length=ps.length)
 (z:∀(zy:Value) (A:Around) (outer:List Env) (s:Shared) (H:Hp) (vs:List V) (Q:VK) (E:XK),Room k (A.deeper (envOfC qual (AJ st) s.heap.objs.size f zy))->sp vs H Q E ->
   ∃t,PSs (D6 CX0 P w K mg base N qual (AJ st) f zy A outer s H E).nox (Bo st) t/\t { nx:=λ_ H'=>Q .non H',rt:=Q } (DO N vs) H):FnOk P w K mg base CX0 (k+1) f fd ps sp:=by
 obtain⟨oc,od,kV,doc,pm,an,zy,ct,osl,rfl,lk,g⟩:=F.ex;refine My lk g S len λA outer s H vs Q E hr i=>?_
 obtain⟨t,h,q⟩:=z zy A outer s H vs Q E hr i;exact⟨t,h.nox,q⟩
theorem Fun.binds {qual:Str} {st:Stmt} {f:Addr} {fd:FuncData} {ps:List Str} (F:Fun K x qual st f fd)
 (h:∀(kV doc pm:Value) (an:Option Addr) (zy ct:Value) (us:List Value),us.length=ps.length->bindArgs (PySem.W.fnOf x qual (CG st) (Bo st) (AJ st) .none kV doc pm an zy ct) ⟨us,[]⟩=pure (ps.zip us)):Binds K fd ps []:=by
 obtain⟨oc,od,kV,doc,pm,an,zy,ct,osl,rfl,lk,g⟩:=F.ex;exact .all (h kV doc pm an zy ct)
theorem Dz {qual:Str} {st:Stmt} {f:Addr} {oc:Value} {od an:Option Addr} {osl:Array (Option Value)} {kV doc pm zy ct:Value} (l:K.lookup f=some ⟨oc,od,.func (PySem.W.fnOf x qual (CG st) (Bo st) (AJ st) .none kV doc pm an zy ct),osl⟩)
 (c:PySem.W.codeIn K zy qual=true) (k:PySem.W.keepIn K (.ref f)=true):Fun K x qual st f (PySem.W.fnOf x qual (CG st) (Bo st) (AJ st) .none kV doc pm an zy ct):=⟨⟨oc,od,kV,doc,pm,an,zy,ct,osl,rfl,l,c⟩,k⟩
end
theorem AX(h:n<=1000):n<sizeLine:=ZC0 h (by decide)
theorem Di{A B:Prop}(h:B):if false=true then A else B:=by
 rw[if_neg ZBz];exact h
theorem Zw{A B:Prop}(h:A):if true=true then A else B:=by
 rw[if_pos rfl];exact h
theorem Aa{c A B:Prop}[Decidable c](h1:c->A)(h2:¬c->B):if c then A else B:=by
 by_cases h:c
 ·rw[if_pos h];exact h1 h
 ·rw[if_neg h];exact h2 h
def EE(H H':Hp):Prop:=∀b o,H b=some o->H' b=some o
theorem EE.refl(H:Hp):EE H H:=λ_ _ h=>h
theorem EE.trans{H1 H2:Hp}(a:EE H H1)(b:EE H1 H2):EE H H2:=λc o h=>b c o (a c o h)
theorem EE.free(e:EE H H')(h:H' l=Option.none):H l=Option.none:=by
 cases q:H l with
 | none=>rfl
 | some o =>
  rw[e l o q]at h;cases h
theorem EE.seq(e:EE H H')(h:zr K H a xs):zr K H' a xs:=by
 rcases h with (h | ⟨o,h⟩) | h
 ·exact .inl (.inl (e _ _ h))
 ·exact .inl (.inr ⟨o,e _ _ h⟩)
 ·exact .inr h
theorem Ew:∀(names:List (Str×NameKind)) (n:Nat) (z:List (Str×Addr)),cellsFrom n names z=cellsFrom n names []++z
 | [],_,_=>rfl
 | (name,kind)::r,n,z=>by
  unfold cellsFrom;split
  ·rw[Ew r (n+1) ((name,n)::z),Ew r (n+1) [(name,n)],ZCj];rfl
  ·exact Ew r n z
theorem cellsFrom_kind:∀(names:List (Str×NameKind)) (n:Nat) (z:List (Str×Addr)) (x:Str) (c:Addr),(x,c)∈cellsFrom n names z->(x,c)∈z\/(x,NameKind.cell)∈names
 | [],_,_,_,_,h=>.inl h
 | (name,kind)::r,n,z,x,c,h=>by
  unfold cellsFrom at h;split at h
  ·rename_i f
   rcases cellsFrom_kind r _ _ x c h with h | h
   ·rcases ZBI.mp h with e | h
    ·cases e
     have:kind=.cell:=by simpa using f
     subst this;exact .inr ZBh
    ·exact .inl h
   ·exact .inr (ZBd _ h)
  ·rcases cellsFrom_kind r _ _ x c h with h | h
   ·exact .inl h
   ·exact .inr (ZBd _ h)
theorem IJ{α:Type}:∀(l r:List (Str×α)),(l++r).lookup x=(match l.lookup x with | some c=>some c | none=>r.lookup x)
 | [],r=>rfl
 | (k,v)::l,r=>by
  show List.lookup x ((k,v)::(l++r))=_;rw[ZCG,ZCG];cases x==k with
  | true=>rfl
  | false=>exact IJ l r
theorem O6{α:Type}:∀{l:List (Str×α)},(∀c,(x,c)∉l)->l.lookup x=none
 | [],_=>rfl
 | (k,v)::l,h=>by
  rw[ZCG];cases f:x==k with
  | true =>
   have:x=k:=by simpa using f
   subst this;exact absurd ZBh (h v)
  | false=>exact O6 λc g=>h c (ZBd _ g)
noncomputable def BV(cells:List (Str×Addr)):List (Str×NameKind)->List (Str×Addr)->List (Str×Addr)
 | [],f=>f
 | (n,k)::r,f=>if k==.free then BV cells r ((n,(cells.lookup n).getD 0)::f) else BV cells r f
theorem Rn{scope:Scope}{env:Env}(h:∀y∈scope.names,y.2=.free->∃c,env.cells.lookup y.1=some c):closureFor scope env=pure (BV env.cells scope.names []):=by
 have all:∀(names:List (Str×NameKind)) (g:List (Str×Addr)),(∀y∈names,y.2=.free->∃c,env.cells.lookup y.1=some c) ->
  (forIn names g λ(x:Str×NameKind) cs=>(if (x.2==NameKind.free)=true then (do let a <- cellOf env x.1;pure (ForInStep.yield ((x.1,a)::cs))) else pure (ForInStep.yield cs):Sem (ForInStep (List (Str×Addr)))))=(pure (BV env.cells names g):Sem _):=by
  intro names
  induction names with
  | nil=>intro g _;rfl
  | cons y r j =>
   intro g i;obtain⟨n,k⟩:=y;rw[List.forIn_cons];have hr:∀y∈r,y.2=.free->∃c,env.cells.lookup y.1=some c:=λy hm=>i y (ZBd _ hm)
   unfold BV
   by_cases f:(k==NameKind.free)=true
   ·obtain⟨c,e⟩:=i (n,k) ZBh (by simpa using f);rw[if_pos f,if_pos f];have e2:cellOf env n=pure c:=by unfold cellOf;rw[show env.cells.lookup n=some c from e]
    rw[e2];rw[show env.cells.lookup n=some c from e];exact j _ hr
   ·rw[if_neg f,if_neg f];exact j _ hr
 have q:=all scope.names [] h;unfold closureFor;refine Eq.trans ?_ (congrArg (λt=>t >>= pure) q |>.trans (by rfl))
 congr 1
theorem clOf_mem{cells:List (Str×Addr)}:∀(names:List (Str×NameKind)) (z:List (Str×Addr)) (x:Str) (c:Addr),(∀y∈names,y.2=.free->∃c,cells.lookup y.1=some c)->(x,c)∈BV cells names z->(x,c)∈z\/((x,NameKind.free)∈names/\cells.lookup x=some c)
 | [],_,_,_,_,h=>.inl h
 | (n,k)::r,z,x,c,g,h=>by
  have hr:∀y∈r,y.2=.free->∃c,cells.lookup y.1=some c:=λy hm=>g y (ZBd _ hm)
  unfold BV at h;split at h
  ·rename_i l;have f:k=.free:=by simpa using l
   subst f;obtain⟨d,e⟩:=g (n,.free) ZBh rfl
   rcases clOf_mem r _ x c hr h with h | ⟨h,h'⟩
   ·rcases ZBI.mp h with i | h
    ·obtain⟨j,e2⟩:=Prod.mk.inj i;rw[show cells.lookup n=some d from e]at e2;subst j;exact .inr ⟨ZBh,by rw[e2];exact e⟩
    ·exact .inl h
   ·exact .inr ⟨ZBd _ h,h'⟩
  ·rcases clOf_mem r _ x c hr h with h | ⟨h,h'⟩
   ·exact .inl h
   ·exact .inr ⟨ZBd _ h,h'⟩
theorem K9{cells:List (Str×Addr)}:∀(names:List (Str×NameKind)) (z:List (Str×Addr)),(∃c,(x,c)∈z)->∃c,(x,c)∈BV cells names z
 | [],_,h=>h
 | (n,k)::r,z,⟨c,h⟩=>by
  unfold BV;split
  ·exact K9 r _ ⟨c,ZBd _ h⟩
  ·exact K9 r _ ⟨c,h⟩
theorem ME{cells:List (Str×Addr)}:∀(names:List (Str×NameKind)) (z:List (Str×Addr)),(x,NameKind.free)∈names->∃c,(x,c)∈BV cells names z
 | (n,k)::r,z,h=>by
  unfold BV
  rcases ZBI.mp h with e | h
  ·cases e;rw[if_pos (by decide)];exact K9 r _ ⟨_,ZBh⟩
  ·split
   ·exact ME r _ h
   ·exact ME r _ h
theorem Ql{α:Type}:∀{l:List (Str×α)},(∃c,(x,c)∈l)->∃c,l.lookup x=some c
 | (k,v)::l,⟨c,h⟩=>by
  rw[ZCG];cases f:x==k with
  | true=>exact⟨v,rfl⟩
  | false =>
   rcases ZBI.mp h with e | h
   ·cases e;simp at f
   ·exact Ql ⟨c,h⟩
noncomputable def F0(scope sc:Scope):Scope :=
 { scope with names:=scope.names.map λ(n,k)=>if (k==.free&&sc.kind==.function&&sc.names.lookup n==some .cell) then (n,.cell) else (n,k) }
structure CompScope(scope sc:Scope):Prop where
 kind:scope.kind=.function
 nd:(scope.names.map (·.1)).Nodup
 fr:∀y∈scope.names,y.2=.free->sc.names.lookup y.1=some .cell\/sc.names.lookup y.1=some .free
theorem EC{α:Type}:∀{l:List (Str×α)} {x:Str} {c:α},(l.map (·.1)).Nodup->(x,c)∈l->l.lookup x=some c
 | (k,v)::l,x,c,nd,h=>by
  obtain⟨f,g⟩:=ZCh.mp (show(k::l.map (·.1)).Nodup from nd);rw[ZCG]
  rcases ZBI.mp h with e | h
  ·cases e;simp
  ·have i:¬x=k:=λe=>f (by rw[<- e];exact ZBN.mpr ⟨(x,c),h,rfl⟩)
   have:(x==k)=false:=by simpa using i
   rw[this];exact EC g h
theorem RE{scope sc:Scope}:(F0 scope sc).names.lookup x=(scope.names.lookup x).map λk=>if (k==.free&&sc.kind==.function&&sc.names.lookup x==some .cell) then NameKind.cell else k:=by
 show(scope.names.map _).lookup x=_
 generalize scope.names=names
 induction names with
 | nil=>rfl
 | cons y r j =>
  obtain⟨n,k⟩:=y;rw[ZBU]
  by_cases f:(k==.free&&sc.kind==.function&&sc.names.lookup n==some .cell)=true
  ·show List.lookup x ((if (k==.free&&sc.kind==.function&&sc.names.lookup n==some .cell)=true then (n,NameKind.cell) else (n,k))::_)=_;rw[if_pos f,ZCG,ZCG];cases g:x==n with
   | true =>
    have i:x=n:=by simpa using g
    subst i;show some NameKind.cell=some (if _ then _ else _);rw[if_pos f]
   | false=>exact j
  ·show List.lookup x ((if (k==.free&&sc.kind==.function&&sc.names.lookup n==some .cell)=true then (n,NameKind.cell) else (n,k))::_)=_;rw[if_neg f,ZCG,ZCG];cases g:x==n with
   | true =>
    have i:x=n:=by simpa using g
    subst i;show some k=some (if _ then _ else _);rw[if_neg f]
   | false=>exact j
structure CArgs where
 El:List (Addr×Obj)
 cells:List (Str×Addr)
 s:Shared
 H:Hp
 fp:List Addr
 C:Addr
noncomputable def Cx.comp(X:Cx)(scope:Scope)(N':List Str)(c:CArgs):Cx where
 prog:=X.prog
 w:=X.w
 K:=X.K
 mg:=X.mg
 base:=X.base
 A:=X.A
 N:=N'
 s₀:=c.s
 H₀:=c.H
 env:=compEnvC scope c.cells c.C X.env
 outer:=X.stack
 stack:=X.stack
 ex:=c.fp
 fn:=λx=>scope.names.lookup x==some .cell
 calm:=X.calm
 pn:=X.pn++c.El
 xe:=λ_ _=>False
noncomputable def cSt(own:Nat)(ix:List Nat)(Z:St):St:=List.replicate own none++ix.map λi=>(Z[i]?).join
section
variable {X:Cx}{El:List (Addr×Obj)}{Z:St}{H:Hp}{s s4:Shared}{fp:List Addr}{scope:Scope}{N':List Str}{own:Nat}{ix:List Nat}
theorem Xw (I:zd X El Z H s) (f2:∀b∈fp,BD X El H b) (U:∀b∈fp,∃o,s.heap.get? b=some o) (S:CompScope scope X.env.scope)
 (zk:N'.length=own+ix.length) (hN:(N'.drop own).map some=ix.map (X.N[·]?)) (a0:∀x∈N'.drop own,scope.names.lookup x=some .free)
 {C:Addr} (O:s.heap.objs.size<C) (k4:∀b o,s.heap.get? b=some o->s4.heap.get? b=some o) (b0:s4.os=s.os) (g4:s4.gens=s.gens)
 (n4:∃m,s4.heap.Ns C m) (G:∀x c,(x,c)∈cellsFrom (C+1) scope.names []->s4.heap.IsCell c none/\C+1<=c)
 (apart:(cellsFrom (C+1) scope.names []).Pairwise λx y=>x.2≠y.2) :
 zd (X.comp scope N' ⟨El,cellsFrom (C+1) scope.names (BV X.env.cells scope.names []),s,H,fp,C⟩) [] (cSt own ix Z) H s4:=by
 have t:∀y∈scope.names,y.2=.free->∃c,X.env.cells.lookup y.1=some c:=λy hy h=>I.ok.has y.1 (S.fr y hy h)
 have cases:∀x c,(cellsFrom (C+1) scope.names (BV X.env.cells scope.names [])).lookup x=some c ->
  ((x,c)∈cellsFrom (C+1) scope.names []/\scope.names.lookup x=some .cell)\/((x,NameKind.free)∈scope.names/\X.env.cells.lookup x=some c):=λx c h=>by
  rw[Ew,IJ]at h;cases e:(cellsFrom (C+1) scope.names []).lookup x with
  | some d =>
   rw[e]at h;cases h;have m:=mem_of_lookup e
   rcases cellsFrom_kind _ _ _ _ _ m with z | z
   ·exact absurd z (by simp)
   ·exact .inl ⟨m,EC S.nd z⟩
  | none =>
   rw[e]at h
   rcases clOf_mem _ _ _ _ t (mem_of_lookup h) with z | z
   ·exact absurd z (by simp)
   ·exact .inr z
 have w:∀x c,X.env.cells.lookup x=some c->c<s.heap.objs.size:=λx c e=>let ⟨v,q⟩:=I.cell x c e;q.lt
 have kin:∀x,(F0 scope X.env.scope).names.lookup x=some .cell\/(F0 scope X.env.scope).names.lookup x=some .free->(scope.names.lookup x=some .cell\/scope.names.lookup x=some .free):=λx h=>by
  rw[RE]at h;cases e:scope.names.lookup x with
  | none=>rw[e]at h;simp at h
  | some k =>
   rw[e]at h;cases k with
   | cell=>exact .inl rfl
   | free=>exact .inr rfl
   | _=>exact absurd h (by simp)
 have L:∀b o,s.heap.get? b=some o->b≠C:=λb o e z=>by have:=ZBF e;rw[z]at this;exact ZBa _ (ZCH this O)
 have lk:∀x,(x,NameKind.free)∈scope.names->∀c,X.env.cells.lookup x=some c->(cellsFrom (C+1) scope.names (BV X.env.cells scope.names [])).lookup x=some c:=λx g c J=>by
  have T:scope.names.lookup x=some .free:=EC S.nd g;rw[Ew,IJ,O6 (l:=cellsFrom (C+1) scope.names []) λd hd=>?_]
  ·obtain⟨d,hd⟩:=Ql (ME (cells:=X.env.cells) scope.names [] g)
   rcases clOf_mem _ _ _ _ t (mem_of_lookup hd) with z | ⟨_,z⟩
   ·exact absurd z (by simp)
   ·rw[J]at z;cases z;exact hd
  ·rcases cellsFrom_kind _ _ _ _ _ hd with z | z
   ·exact absurd z (by simp)
   ·rw[EC S.nd z]at T;cases T
 refine⟨⟨I.ok.mod,S.kind,I.ok.glob,I.ok.blt,ZBy O,λx y c g hy=>?_,λx g=>?_,λx c hf g=>?_,I.ok.hd,I.ok.frames,.inl rfl,λb B=>⟨?_,λx c g=>?_⟩,λb o e=>I.bs b o e,ZBq I.ok.bsz I.sz,λb o e B=>?_,λb B z=>?_,I.stack,I.stkFree⟩,
  b0,by rw[g4];exact I.bare,Un.kept k4,?_,λx c g=>?_,?_,λx c g=>?_,λp hp=>?_,I.hok.kept k4,?_⟩
 ·
  rcases cases x c g with ⟨f,_⟩ | ⟨_,f⟩ <;> rcases cases y c hy with ⟨R,_⟩ | ⟨_,R⟩
  ·exact name_of_addr apart f R
  ·exact absurd (ZBZ (ZCH (w y c R) O) (ZC9 (G x c f).2)) (ZBa _)
  ·exact absurd (ZBZ (ZCH (w x c f) O) (ZC9 (G y c R).2)) (ZBa _)
  ·exact I.ok.inj x y c f R
 ·
  rcases kin x g with h | h
  ·have q:=PySem.W.cellsFrom_some scope.names (C+1) (BV X.env.cells scope.names []) (.inl h);exact ZDK.mp q
  ·obtain⟨c,e⟩:=t (x,.free) (mem_of_lookup h) rfl;exact⟨c,lk x (mem_of_lookup h) c e⟩
 ·
  rcases cases x c g with ⟨f,_⟩ | ⟨f,_⟩
  ·exact ZBy (ZBZ O (ZC9 (G x c f).2))
  ·have T:=EC S.nd f;have M:(scope.names.lookup x==some NameKind.cell)=true:=hf;rw[T]at M;cases M
 ·obtain⟨o,e⟩:=U b B;exact L b o e
 ·intro z;obtain⟨o,e⟩:=U b B;have zn:=ZBF e
  rcases cases x c g with ⟨f,_⟩ | ⟨_,f⟩
  ·subst z;exact absurd (ZBZ (ZCH zn O) (ZC9 (G x c f).2)) (ZBa _)
  ·exact(f2 b B).2.2.2.2.1 x c f z
 ·
  have e1:=(I.ok.bs b o e).1
  rcases(f2 b B).2.2.2.1 with z | z
  ·exact I.ok.noex b o e z
  ·exact absurd (ZBZ (ZBF e1) z) (ZBa _)
 ·
  rcases ZBI.mp (I.stkSub b z) with e | z
  ·exact(f2 b B).2.1 e
  ·exact(f2 b B).2.2.1 z
 ·
  obtain⟨m,hm⟩:=n4;obtain⟨m0,b2,a3⟩:=I.loc;refine⟨m,hm,λi x v h1 h2 h3=>?_⟩;have h1:N'[i]?=some x:=h1;unfold cSt at h2
  by_cases hi:i<own
  ·rw[ZCu (by simpa using hi),ZDL]at h2;split at h2 <;> cases h2
  ·rw[ZCt (by simpa using hi),ZCi,ZBJ]at h2;obtain⟨j,hj⟩:∃j,i=own+j:=⟨i-own,by lia⟩;subst hj;rw[Nat.add_sub_cancel_left]at h2;cases e:ix[j]? with
   | none=>rw[e]at h2;cases h2
   | some q =>
    rw[e]at h2;have h2:some (Z[q]?).join=some (some v):=h2;have h2:(Z[q]?).join=some v:=ZBQ h2
    have a4:Z[q]?=some (some v):=by
     cases eq:Z[q]? with
     | none=>rw[eq]at h2;cases h2
     | some z=>rw[eq]at h2;simp at h2;rw[h2]
    have g:(N'.drop own)[j]?=some x:=by rw[List.getElem?_drop];exact h1
    have Y:X.N[q]?=some x:=by
     have:=congrArg (·[j]?) hN
     simp only[ZBJ,g,e,ZCd]at this;exact(ZBQ this).symm
    have P:=a0 x (ZB3 g);have D:=mem_of_lookup P;have K:=S.fr (x,.free) D rfl;have b1:Vis X.env.scope x:=.inr K;obtain⟨u,r,l⟩:=a3 q x v Y a4 b1;refine⟨u,r,?_⟩
    rcases l with ⟨k,_⟩ | ⟨k,c,J,z⟩
    ·exfalso;have V:X.env.scope.names.lookup x=some .local:=k
     rcases K with K | K
     ·rw[show X.env.scope.names.lookup x=some .cell from K]at V;cases V
     ·rw[show X.env.scope.names.lookup x=some .free from K]at V;cases V
    ·refine .inr ⟨?_,c,lk x D c J,z.keeps k4⟩
     show(F0 scope X.env.scope).names.lookup x=some .cell\/(F0 scope X.env.scope).names.lookup x=some .free
     rw[RE,P]
     by_cases J:(NameKind.free==.free&&X.env.scope.kind==.function&&X.env.scope.names.lookup x==some .cell)=true
     ·exact .inl (by rw[ZCd,if_pos J])
     ·exact .inr (by rw[ZCd,if_neg J])
 ·rcases cases x c g with ⟨f,_⟩ | ⟨_,f⟩
  ·exact⟨_,(G x c f).1⟩
  ·obtain⟨v,q⟩:=I.cell x c f;exact⟨v,q.keeps k4⟩
 ·exact I.hok.fresh (ZBy O)
 ·rcases cases x c g with ⟨f,_⟩ | ⟨_,f⟩
  ·exact I.hok.fresh (ZBy (ZBZ O (ZC9 (G x c f).2)))
  ·exact I.freeC x c f
 ·have hp:p∈X.pn++El:=by
   have:p∈(X.pn++El)++[]:=hp
   rwa [ZBs]at this
  obtain⟨e,n,ne,nf,d⟩:=I.pin p hp;refine⟨k4 _ _ e,n,L _ _ e,λz=>?_,d⟩
  rcases ZBI.mp (I.stkSub _ z) with q | q
  ·exact ne q
  ·exact nf q
 ·unfold cSt;rw[ZBS,ZCi,ZBB];exact zk.symm
end
section
variable {prog:Program}{w:World}{A:Around}{R:Result->Shared->Prop}{s:Shared}
theorem Wd {elt target iter:Expr} {ifs:List Expr} {scope:Scope} {it zt:Value} {env:Env} (I:Nat->Shared->Prop)
 (turn:∀n s,I n s->wpAny (model prog w) A (pyNext it) (λr z=>match r with
   | none=>R (.ok .next) z
   | some v=>wpAny (model prog w) A (letOwnedTupleGo target it v) (λ_ G=>wpAny (model prog w) A (assign target env v) (λ_ U =>
    wpAny (model prog w) A (forIn ifs true λc r=>if r=true then do let ok <- isTrue c env (eval c env);pure (ForInStep.yield ok) else pure (ForInStep.yield r)) (λok O =>
     if ok=true then wpAny (model prog w) A (eval elt env) (λx a0 =>
      wpAny (model prog w) A (call (.builtin "list.append") [zt,x]) (λ_ a3=>∃m,m<n/\I m a3) (λ_ _=>False) a0) (λ_ _=>False) O
     else ∃m,m<n/\I m O) (λ_ _=>False) U) (λ_ _=>False) G) (λ_ _=>False) z) (λ_ _=>False) s)
 (n:Nat) (h:I n s) :
 codeAny (model prog w) A (.compLoop (.ListComp elt [⟨target,iter,ifs,0⟩] scope pos) 0 it zt env) R s:=by
 refine codeAny_loop rfl I (λn s o=>?_) n h;show wpAny _ A ((compTurn (.ListComp elt [⟨target,iter,ifs,0⟩] scope pos) 0 it zt env).onRaise (λx=>do noteFrame x env;theTreesLotGoes x)) _ _ s;refine wpAny_noted ?_;rw[compTurn_list];refine ZBA (ZCe (ZBA (ZBt (turn n s o) (λr z f=>?_) λ_ _ h'=>h'.elim)));cases r with
 | none=>exact ZBC f
 | some v =>
  refine ZBA (ZBt f (λ_ G i=>?_) λ_ _ h'=>h'.elim);refine ZBA (ZBt i (λ_ U j=>ZBA (ZBt j (λok O g=>?_) λ_ _ h'=>h'.elim)) λ_ _ h'=>h'.elim);cases ok with
  | false=>exact ZBC ⟨rfl,g⟩
  | true =>
   exact ZBA (ZBA (ZBt g (λx a0 k=>ZBA (ZBt k (λ_ a3 l=>ZBC (ZBC ⟨rfl,l⟩)) λ_ _ h'=>h'.elim)) λ_ _ h'=>h'.elim))
end
noncomputable def PTs(X:Cx)(ifs:List Expr)(t:TT):Prop :=
 ∀(El:List (Addr×Obj)) (s:Shared) (Z:St) (H:Hp) (Q:Bool->Hp->Prop),zd X El Z H s->t Z H Q ->
  wpAny (model X.prog X.w) X.A (forIn ifs true λc r=>if r=true then do let ok <- isTrue c X.env (eval c X.env);pure (ForInStep.yield ok) else pure (ForInStep.yield r)) (TP X El Z Q) X.xe s
noncomputable def ZP:TT:=λ_ H Q=>Q true H
theorem Ag:PTs X [] ZP:=λ_ _ _ H _ I h=>wpAny_tests_nil ⟨H,I,h⟩
theorem C0{c:Expr}{t:TT}(h:PT X c t):PTs X [c] t:=λEl s Z H Q I f=>wpAny_tests_one (h El s Z H Q I f)
def Df(own:Nat)(g:TG):Prop:=∀x Z H Q,g x Z H Q->g x Z H λf H'=>(f.length=Z.length/\∀i,own<=i->f[i]?=Z[i]?)/\Q f H'
def HA(own:Nat)(g:TGs):Prop:=∀x Z H Q,g x Z H Q->g x Z H λf H'=>(f.length=Z.length/\∀i,own<=i->f[i]?=Z[i]?)/\Q f H'
theorem AV(h:i<own):Df own (AW i):=λx Z H Q q =>
 ⟨⟨by simp,λj f=>by rw[List.getElem?_set_ne (by lia)]⟩,q⟩
theorem Bf:HA own LC:=λx Z H Q ⟨e,q⟩=>⟨e,⟨rfl,λ_ _=>rfl⟩,q⟩
def Eh(g:TG):Prop:=∀x Z H (Q f:St->Hp->Prop),(∀Z H,Q Z H->f Z H)->g x Z H Q->g x Z H f
def IG(g:TGs):Prop:=∀x Z H (Q f:St->Hp->Prop),(∀Z H,Q Z H->f Z H)->g x Z H Q->g x Z H f
theorem AY:Eh (AW i):=λ_ _ _ _ _ h q=>h _ _ q
theorem Aj:IG LC:=λ_ _ _ _ _ h ⟨e,q⟩=>⟨e,h _ _ q⟩
theorem BQ{t:TG}{u:TGs}(h1:Eh t)(h2:IG u):IG (KA t u):=λ_ _ _ _ _ h ⟨v,r,e,q⟩=>⟨v,r,e,h1 _ _ _ _ _ (λ_ _ q=>h2 _ _ _ _ _ h q) q⟩
theorem Al{t:TG}{u:TGs}(m:Eh t)(z:IG u)(h1:Df own t)(h2:HA own u):HA own (KA t u):=λx Z H Q ⟨v,r,e,q⟩ =>
 ⟨v,r,e,m _ _ _ _ _ (λf H' ⟨⟨k,e2⟩,q⟩=>z _ _ _ _ _ (λg j ⟨⟨l,n⟩,q⟩=>⟨⟨l.trans k,λi hi=>(n i hi).trans (e2 i hi)⟩,q⟩) (h2 r f H' Q q)) (h1 v Z H _ q)⟩
theorem Ba{t:TGs}(h:HA own t):Df own (Kk K n t):=λx Z H Q ⟨a,xs,e,s,l,q⟩=>⟨a,xs,e,s,l,h _ _ _ _ q⟩
theorem Yg{ix:List Nat}(h:(cSt own ix Z)[i]?=some (some v)):own<=i:=by
 unfold cSt at h
 by_cases hi:i<own
 ·rw[ZCu (by simpa using hi),ZDL]at h;split at h <;> cases h
 ·lia
noncomputable def C3(J:It)(g:TG)(tc:TT)(te:TE)(σc:St)(Q:VK)(H1:Hp):Prop :=
 ∃W:Nat->Nat->List V->Hp->Prop,(∃m,W 0 m [] H1)/\∀i m ys H,W i m ys H ->
  (J.stop i H/\∀p,H p=none->Q (.ref p) (upd H p (.lst ys))) \/
  (J.go i H/\ys.length<sizeLine/\∃N:List V->Hp->Prop,(∀f H',N f H'->∃l,l<m/\W (i+1) l f H')/\∀x H',J.yld i H x H'->g x σc H' λj n=>tc j n λb k =>
    if b=true then te j k λy o=>N (ys++[y]) o else N ys k)
noncomputable def FJ(wi:TI)(own:Nat)(ix:List Nat)(g:TG)(tc:TT)(te:TE):TE:=λZ H Q=>wi Z H λJ H1=>C3 J g tc te (cSt own ix Z) Q H1
section
variable {X:Cx}{El:List (Addr×Obj)}{Z:St}{H:Hp}{s:Shared}{fp:List Addr}{it:Addr}{tn:Nat->Heap->Prop}{J:It}{tg iter elt:Expr}{ifs:List Expr}{scope:Scope}{pos:Pos}{N':List Str}{own:Nat}{ix:List Nat}{g:TG}{tc:TT}{te:TE}{Q:VK}{E:Value->Shared->Prop}
theorem RK (I:zd X El Z H s) (T:Turn X.prog X.w X.K tg J fp it tn) (st:tn 0 s.heap) (f2:∀b∈fp,BD X El H b) (hc:X.calm=true) (S:CompScope scope X.env.scope)
 (zk:N'.length=own+ix.length) (hN:(N'.drop own).map some=ix.map (X.N[·]?)) (d6:∀x∈N'.drop own,scope.names.lookup x=some .free)
 (hg:∀c,PG (X.comp scope N' c) tg g) (d7:Df own g) (ht:∀c,PTs (X.comp scope N' c) ifs tc) (he:∀c,PE (X.comp scope N' c) elt te)
 (hq:C3 J g tc te (cSt own ix Z) Q H) {RR:Value->Addr->Result->Shared->Prop}
 (fin:∀(D C:Addr) (s':Shared) (H':Hp) (ys:List V) (zc:List Value) (n:Nat),s'.os=s.os->AllBare s'.gens->Un (frs X.stack) fp H H' s.heap s'.heap->HOk X.prog X.w H' s'.heap->(∃m,s'.heap.Ns C m)->H' C=none->s.heap.objs.size<=C ->
   H' D=none->s.heap.objs.size<=D->D≠C->s'.heap.get? D=some { cls:=.type "list",data:=.seq zc.toArray n } -> zh ys zc->ys.length<=sizeLine->(∀p,H' p=none->Q (.ref p) (upd H' p (.lst ys)))->RR (.ref D) C (.ok .next) s') :
 wpAny (model X.prog X.w) X.A (newList []) (λzt c5=>wpAny (model X.prog X.w) X.A (newFunctionEnv scope X.env.globals (BV X.env.cells scope.names []) [] X.env.qual none .none (some X.env)) (λU c6 =>
  codeAny (model X.prog X.w) X.A (.compStart (.ListComp elt [⟨tg,iter,ifs,0⟩] scope pos) 0 (.ref it) zt { U with scope:=relabel scope X.env }) (RR zt U.locals) c6) E c5) E s:=by
 obtain⟨W,⟨m0,w0⟩,turn⟩:=hq;have b0:∀b∈fp,∃o,s.heap.get? b=some o:=λb f=>let ⟨o,e,_⟩:=T.obj 0 _ st b f;⟨o,e⟩
 refine ZB9 ?_;generalize a3:s.heap.push { cls:=.type "list",dict:=none,data:=.seq ([]:List Value).toArray } = h1;have d9:h1.objs.size=s.heap.objs.size+1:=by rw[<- a3,ZB8]
 have k1:∀b o,s.heap.get? b=some o->h1.get? b=some o:=λb o e=>by rw[<- a3];exact ZBG _ e
 have d1:h1.get? s.heap.objs.size=some { cls:=.type "list",data:=.seq ([]:List Value).toArray }:=by rw[<- a3];exact ZBP _ rfl
 simp only[newFunctionEnv,Option.isSome_some,if_true];refine ZBA (wpAny_alloc ?_);generalize d0:(({ s with heap:=h1 }:Shared).heap.push { cls:=.type "dict",data:=.dict #[] })=h2;have G:h1.push { cls:=.type "dict",data:=.dict #[] } = h2:=d0;have b6:h2.objs.size=h1.objs.size+1:=by rw[<- G,ZB8]
 have k2:∀b o,h1.get? b=some o->h2.get? b=some o:=λb o e=>by rw[<- G];exact ZBG _ e
 have n2:h2.Ns h1.objs.size (λ_=>none):=by rw[<- G];exact Heap.Ns.new h1 (.type "dict")
 refine ZBA (wpAny_layCells _ (λname kind cells=>by cases d8:kind==NameKind.cell <;> simp[d8]) _ _ _ _ ?_);have ok:=cellsFrom_ok scope.names h2 (h1.objs.size+1) [] ⟨λ_ _ hm=>(nomatch hm),List.Pairwise.nil⟩ (by rw[b6];exact ZBD _);rw[b6]at ok;show wpAny _ _ (forIn ([]:List (Str×Value)) PUnit.unit _ >>= _) _ _ _;rw[List.forIn_nil];refine ZBA (ZBC (ZBC ?_));show codeAny _ _ (.compStart _ 0 (.ref it) (.ref s.heap.objs.size) (compEnvC scope (cellsFrom h2.objs.size scope.names (BV X.env.cells scope.names [])) h1.objs.size X.env)) (RR (.ref s.heap.objs.size) h1.objs.size) { s with heap:=pushCells h2 scope.names };rw[b6];generalize d2:pushCells h2 scope.names=h3 at ok ⊢;have k3:∀b o,h2.get? b=some o->h3.get? b=some o:=λb o e=>by rw[<- d2];exact pushCells_keeps _ _ b o e
 have kk:∀b o,s.heap.get? b=some o->h3.get? b=some o:=λb o e=>k3 b o (k2 b o (k1 b o e))
 have d3:h3.get? s.heap.objs.size=some { cls:=.type "list",data:=.seq ([]:List Value).toArray }:=k3 _ _ (k2 _ _ d1);have hC:s.heap.objs.size<h1.objs.size:=by rw[d9];exact ZBu _
 have I3:zd (X.comp scope N' ⟨El,cellsFrom (h1.objs.size+1) scope.names (BV X.env.cells scope.names []),s,H,fp,h1.objs.size⟩) [] (cSt own ix Z) H { s with heap:=h3 } :=
  Xw (s4:={ s with heap:=h3 }) I f2 b0 S zk hN d6 hC kk rfl rfl ⟨_,n2.keeps k3⟩ (λx c hm=>ok.empty x c hm) ok.apart
 generalize d5:cellsFrom (h1.objs.size+1) scope.names (BV X.env.cells scope.names [])=cs at I3 ⊢;generalize e1:h1.objs.size=C at *;generalize l:s.heap.objs.size=D at *;have hY:=I3.ok
 have sD:D≠C/\(∀x c,cs.lookup x=some c->c≠D)/\D∉frs X.stack/\∀p∈X.pn++El,p.1≠D:=by
  refine⟨ZBR hC,λx c e z=>?_,λz=>?_,λp t z=>?_⟩
  ·subst z;have e':=e;rw[<- d5,Ew,IJ]at e';cases q:(cellsFrom (C+1) scope.names []).lookup x with
   | some d =>
    rw[q]at e';cases e'
    have:=(ok.empty x c (mem_of_lookup q)).2
    exact absurd (ZBZ hC (ZC9 this)) (ZBa _)
   | none =>
    rw[q]at e';have a4:∀y∈scope.names,y.2=.free->∃c,X.env.cells.lookup y.1=some c:=λy hy h=>I.ok.has y.1 (S.fr y hy h)
    rcases clOf_mem _ _ _ _ a4 (mem_of_lookup e') with z | ⟨_,z⟩
    ·exact absurd z (by simp)
    ·obtain⟨v,q⟩:=I.cell x c z
     have:=q.lt
     rw[l]at this;exact ZBa _ this
  ·exact(I3.nofs (a:=D) (by exact absurd z (by
    intro z';obtain⟨_,o,ho,_⟩:=(show s.heap.FunFrames X.base X.stack from I.stack).mem z'
    have:=ZBF ho
    rw[l]at this;exact ZBa _ this))) z
  ·have:=ZBF (I.pin p t).1
   rw[z,l]at this;exact ZBa _ this
 have R:∀{H':Hp},(∀b∈fp,H' b=none)->∀b∈fp,BD (X.comp scope N' ⟨El,cs,s,H,fp,C⟩) [] H' b:=λ{H'} hn b f=>by
  refine⟨hn b f,(hY.exf b f).1,hY.exfs b f,.inl f,(hY.exf b f).2,λp t=>?_⟩;have t:p∈(X.pn++El)++[]:=t;rw[ZBs]at t;exact(f2 b f).2.2.2.2.2 p t
 have B:∀{H':Hp},H' D=none->BD (X.comp scope N' ⟨El,cs,s,H,fp,C⟩) [] H' D:=λ{H'} hn=>by
  refine⟨hn,sD.1,sD.2.2.1,.inr (ZCf l),sD.2.1,λp t=>?_⟩;have t:p∈(X.pn++El)++[]:=t;rw[ZBs]at t;exact sD.2.2.2 p t
 have loop:codeAny (model X.prog X.w) X.A (.compLoop (.ListComp elt [⟨tg,iter,ifs,0⟩] scope pos) 0 (.ref it) (.ref D) (compEnvC scope cs C X.env)) (RR (.ref D) C) { s with heap:=h3 }:=by
  refine Wd (λn s'=>∃(i:Nat) (H':Hp) (ys:List V) (zc:List Value) (k:Nat),zd (X.comp scope N' ⟨El,cs,s,H,fp,C⟩) [] (cSt own ix Z) H' s'/\tn i s'.heap/\(∀b∈fp,H' b=none)/\H' D=none /\
   s'.heap.get? D=some { cls:=.type "list",data:=.seq zc.toArray k } /\ zh ys zc/\ys.length<=sizeLine/\W i n ys H') ?_ m0
   ⟨0,H,[],[],0,I3,T.keep _ _ _ st λb _ o e=>kk b o e,λb f=>(f2 b f).1,I.hok.fresh (ZCf l),d3,.nil,ZBT _,w0⟩
  rintro n s4 ⟨i,H4,ys,zc,k,I4,c4,c2,a0,d4,M,z4,w4⟩
  rcases turn i n ys H4 w4 with ⟨stop,qn⟩ | ⟨go,zl,N,c3,step⟩
  ·have ID:=I4.pinned (fp:=[D]) (λb f=>by rw[ZBX.mp f];exact B a0) (λb f=>by rw[ZBX.mp f];exact⟨_,d4,λv z=>nomatch z⟩)
   have nD:∀b∈fp,b≠D:=λb f z=>by
    obtain⟨o,e⟩:=b0 b f
    have:=ZBF e
    rw[z,l]at this;exact ZBa _ this
   have c1:∀b∈fp,BD (X.comp scope N' ⟨El,cs,s,H,fp,C⟩) ([]++Cf [D] s4.heap) H4 b:=λb f=>by
    obtain⟨q1,q2,q3,q4,q5,q6⟩:=R c2 b f;refine⟨q1,q2,q3,q4,q5,λp t=>?_⟩
    rcases ZCB.mp t with z | z
    ·exact q6 p (ZCK _ z)
    ·have:=(IY (by simpa using z:p∈Cf [D] s4.heap)).1
     rw[ZBX.mp this];exactλz=>nD b f z.symm
   refine zm (T.done (X.comp scope N' ⟨El,cs,s,H,fp,C⟩) rfl rfl rfl hc i _ s4 _ H4 (λ_ _=>False) ID c1 c4 stop) λr s5 ⟨hr,I5⟩=>?_
   subst hr;obtain⟨m,hm,_⟩:=I5.loc;refine fin D C s5 H4 ys zc k I5.os I5.bare I5.base I5.hok ⟨m,hm⟩ I5.free (ZBy hC) a0 (ZBD _) sD.1 ?_ M z4 qn
   ·exact(I5.pin (D,_) (ZBe _ (ZBe _ (C4 (ZBX.mpr rfl) d4)))).1
  ·have nD:∀b∈fp,b≠D:=λb f z=>by
    obtain⟨o,e⟩:=b0 b f
    have:=ZBF e
    rw[z,l]at this;exact ZBa _ this
   have ID:=I4.pinned (fp:=[D]) (λb f=>by rw[ZBX.mp f];exact B a0) (λb f=>by rw[ZBX.mp f];exact⟨_,d4,λv z=>nomatch z⟩)
   have L:∀{H':Hp},(∀b∈fp,H' b=none)->∀b∈fp,BD (X.comp scope N' ⟨El,cs,s,H,fp,C⟩) ([]++Cf [D] s4.heap) H' b:=λ{H'} hn b f=>by
    obtain⟨q1,q2,q3,q4,q5,q6⟩:=R hn b f;refine⟨q1,q2,q3,q4,q5,λp t=>?_⟩
    rcases ZCB.mp t with z | z
    ·exact q6 p (ZCK _ z)
    ·have:=(IY (by simpa using z:p∈Cf [D] s4.heap)).1
     rw[ZBX.mp this];exactλz=>nD b f z.symm
   refine zm (T.item (X.comp scope N' ⟨El,cs,s,H,fp,C⟩) rfl rfl rfl hc i _ s4 _ H4 (λ_ _=>False) ID (L c2) c4 go) λr s5 ⟨u,hr,h5⟩=>?_
   subst hr;refine zm h5 λ_ s6 ⟨x,H6,I6,r6,y6,c0,c9⟩=>?_
   have c7:=I6.pinned (L c9) (T.obj _ _ c0);refine zm (hg _ _ s6 _ H6 x u _ c7 r6 (d7 _ _ _ _ (step x H6 y6))) λ_ s7 ⟨P,H7,I7,⟨e7,k7⟩,q7⟩=>?_
   have c8:zd (X.comp scope N' ⟨El,cs,s,H,fp,C⟩) ([]++Cf [D] s4.heap++Cf fp s6.heap) P H7 s7:=I7;refine zm (ht _ _ s7 P H7 _ c8 q7) λb s8 ⟨H8,I8,q8⟩=>?_
   have back:∀{O:Shared} {Y:Hp},zd (X.comp scope N' ⟨El,cs,s,H,fp,C⟩) ([]++Cf [D] s4.heap++Cf fp s6.heap) P Y O ->
    zd (X.comp scope N' ⟨El,cs,s,H,fp,C⟩) [] (cSt own ix Z) Y O/\tn (i+1) O.heap/\(∀b∈fp,Y b=none)/\Y D=none/\O.heap.get? D=some { cls:=.type "list",data:=.seq zc.toArray k }:=λ{O Y} I9=>by
    have pD:=I9.pin (D,_) (ZBe _ (ZCK _ (ZBe _ (C4 (ZBX.mpr rfl) d4))));refine⟨I9.unpinned.unpinned.weak (by rw[e7]) λj v hj=>?_,T.keep _ _ _ c0 λb f o e=>(I9.pin (b,o) (ZBe _ (ZBe _ (C4 f e)))).1,λb f=>?_,pD.2.1,pD.1⟩
    ·rw[k7 j (Yg hj)];exact hj
    ·obtain⟨o,e,_⟩:=T.obj _ _ c0 b f;exact(I9.pin (b,o) (ZBe _ (ZBe _ (C4 f e)))).2.1
   cases b with
   | false =>
    rw[if_neg ZBz]at q8;obtain⟨m',hm,w8⟩:=c3 _ _ q8;obtain⟨b1,b2,b3,b4,b5⟩:=back I8;exact⟨m',hm,i+1,H8,ys,zc,k,b1,b2,b3,b4,b5,M,z4,w8⟩
   | true =>
    rw[if_pos rfl]at q8;rw[if_pos rfl];refine zm (he _ _ s8 P H8 _ I8 q8) λyv O ⟨y,Y,I9,r9,q9⟩=>?_
    obtain⟨m',hm,w9⟩:=c3 _ _ q9;obtain⟨b1,b2,b3,b4,b5⟩:=back I9;have hl:=M.length;refine call_meets F.slot_list_append ⟨_,b5,rfl⟩ F.entry_list_append (F.args_list_append_2 _ _) (PySem.list_append D zc.toArray k yv (by rw[ZBM];lia)) ⟨b5,?_⟩;have up:=PySem.IsL.update b5 (λa=>a.push yv);have keep:∀b o,b≠D->O.heap.get? b=some o->(O.heap.update D (Obj.mapSeq λa=>a.push yv)).get? b=some o:=λb o f q=>(ZCw _ _ (Ne.symm f)).trans q
    obtain⟨f0,f1,e0,f3,f4,f5⟩:=B b4;refine⟨m',hm,i+1,Y,ys++[y],zc++[yv],(if ((zc.toArray.push yv).size==zc.toArray.size)=true then k else k+1),b1.turned (t':=O.toks) keep b4 f1 f3 f4 f5,?_,b3,b4,?_,M.append (.cons r9 .nil),?_,w9⟩
    ·exact T.keep _ _ _ b2 λb f o e=>keep b o (nD b f) e
    ·have e2:(zc.toArray.push yv)=(zc++[yv]).toArray:=by simp
     rw[<- e2];exact up
    ·rw[ZBS,ZDM];lia
 exact codeAny_compStart_list loop (T.self X.A 0 _ _ _ (T.keep _ _ _ st λb _ o e=>kk b o e) loop)
end
section
variable {X:Cx}{El:List (Addr×Obj)}{Z:St}{H:Hp}{s:Shared}{fp:List Addr}{it:Addr}{tn:Nat->Heap->Prop}{J:It}{tg iter elt:Expr}{ifs:List Expr}{scope:Scope}{pos:Pos}{N':List Str}{own:Nat}{ix:List Nat}{g:TG}{tc:TT}{te:TE}{wi:TI}{E:Value->Shared->Prop}
theorem M8 {s':Shared} {D:Addr} {zc:List Value} (I:zd X El Z H s) (f2:∀b∈fp,BD X El H b) (U:s'.os=s.os) (O:AllBare s'.gens) (u:Un (frs X.stack) fp H H' s.heap s'.heap) (hok:HOk X.prog X.w H' s'.heap)
 (G:H' D=none) (ds:s.heap.objs.size<=D) (d:s'.heap.get? D=some { cls:=.type "list",data:=.seq zc.toArray n }) (rv:zh ys zc) (z:ys.length<=sizeLine):zd X El Z (upd H' D (.lst ys)) s':=by
 have j:∀b o,s.heap.get? b=some o->b≠D:=λb o e q=>by rw[q,Heap.get?_none_of_le ds]at e;cases e
 have f:∀b o,H' b=some o->b≠D:=λb o e q=>by rw[q,G]at e;cases e
 refine I.call' (ch:=fp) U ⟨u.keep,u.slot,λb o e q i=>?_,u.there,λb xs e=>?_,λb o v e=>?_,λb ps e=>?_⟩ (λb o e=>?_) O λb g=>?_
 ·rw[AR (j b o e)];exact u.free b o e q i
 ·have:=u.tups b xs e
  rw[AR (f _ _ this)];exact this
 ·have:=u.frzs b o v e
  rw[AR (f _ _ this)];exact this
 ·obtain⟨more,q⟩:=u.tbls b ps e;exact⟨more,by rw[AR (f _ _ q)];exact q⟩
 ·by_cases g:b=D
  ·subst g;rw[AF]at e;cases e;exact⟨z,zc,n,rv,d⟩
  ·rw[AR g]at e;exact(hok b o e).stay (λ_ _ _ q=>q) (λc q=>by rw[AR (f _ _ q)];exact q) λc xs q=>by rw[AR (f _ _ q)];exact q
 ·obtain⟨r,k,t,l,m,p⟩:=f2 b g;exact⟨l,k,m,p⟩
theorem zd.dictGone{s':Shared}{h':Heap}{C:Addr}{G:St}(I:zd X El Z H s)(J:zd X El G H' s')(O:s.heap.objs.size<=C)(hn:H' C=none)(k:Heap.SameBut C s'.heap h'):zd X El G H' { s' with heap:=h' }:=by
 have f:=Heap.get?_none_of_le O;refine J.turned (t':=s'.toks) (λb o i e=>(k.2 b i).trans e) hn (λz=>?_) (.inr (ZBq I.sz O)) (λx c e z=>?_) λp j z=>?_
 ·obtain⟨m,⟨o,_,_,g,_⟩,_⟩:=I.loc;rw[<- z,f]at g;cases g
 ·obtain⟨v,o,g,_⟩:=I.cell x c e;rw[z,f]at g;cases g
 ·have:=(I.pin p j).1
  rw[z,f]at this;cases this
theorem Wu (hc:X.calm=true) (hi:PI X tg iter wi) (S:CompScope scope X.env.scope)
 (zk:N'.length=own+ix.length) (U:(N'.drop own).map some=ix.map (X.N[·]?)) (G:∀x∈N'.drop own,scope.names.lookup x=some .free)
 (hg:∀c,PG (X.comp scope N' c) tg g) (O:Df own g) (ht:∀c,PTs (X.comp scope N' c) ifs tc) (he:∀c,PE (X.comp scope N' c) elt te)
 (hs:∀x,foldedSetIterable iter X.env x=pure x:=by intro _;rfl):PE X (.ListComp elt [⟨tg,iter,ifs,0⟩] scope pos) (FJ wi own ix g tc te):=by
 intro El s Z H Q I h;rw[eval_ListComp];have f:∀y∈scope.names,y.2=.free->∃c,X.env.cells.lookup y.1=some c:=λy r h=>I.ok.has y.1 (S.fr y r h)
 refine wpAny_comprehension_free (use:=none) rfl hs (Rn f) S.kind (λy r M=>EC S.nd (by rw[<- M];exact r)) ?_;refine zm (hi El s Z H _ I h) λv s1 h1=>zm h1 λR s2 h2=>?_
 obtain⟨it,fp,tn,J,H2,e,i,T,t,f2,V⟩:=h2;subst e;refine RK (RR:=λY C=>compPost (model X.prog X.w) X.A X.xe none (EP X El Z Q) Y C) i T t f2 hc S zk U G hg O ht he V ?_;intro D C s' H' ys zc n P o u hok hm L j B l k d W z q;obtain⟨m,hm⟩:=hm;have K:=M8 i f2 P o u hok B l d W z;refine⟨m,hm,λh' p=>?_⟩;exact⟨.ref D,_,i.dictGone K j (by rw[AR (Ne.symm k)];exact L) p,rfl,q D B⟩
theorem Vb {y:Str} {py G:Pos} (hc:X.calm=true) (a4:X.N.Nodup) (a3:X.N[i]?=some y) (O:X.env.scope.names.lookup y=some .local) (hi:PI X tg iter wi) (S:CompScope scope X.env.scope)
 (zk:N'.length=own+ix.length) (hN:(N'.drop own).map some=ix.map (X.N[·]?)) (U:∀x∈N'.drop own,scope.names.lookup x=some .free)
 (hg:∀c,PG (X.comp scope N' c) tg g) (a0:Df own g) (ht:∀c,PTs (X.comp scope N' c) ifs tc) (he:∀c,PE (X.comp scope N' c) elt te)
 (b0:swapsWith (.ListComp elt [⟨tg,iter,ifs,0⟩] scope pos) (some (.Name y py)) G.line X.env=pure true)
 (hs:∀x,foldedSetIterable iter X.env x=pure x:=by intro _;rfl):PS X (.Assign [.Name y py] (.ListComp elt [⟨tg,iter,ifs,0⟩] scope pos) G) (Fn (FJ wi own ix g tc te) (AW i)):=by
 intro El s Z H D I h;rw[exec_Assign_Name_used _ _ _ _ b0];refine ZBA (ZCe (ZBA ?_));show wpAny _ _ (do let _ <- comprehension (.ListComp elt [⟨tg,iter,ifs,0⟩] scope pos) scope X.env _ (newList []) false (eval iter X.env) (some (assign (.Name y py) X.env))) _ _ s;have f:∀y∈scope.names,y.2=.free->∃c,X.env.cells.lookup y.1=some c:=λy O h=>I.ok.has y.1 (S.fr y O h)
 refine ZBA (ZBt (wpAny_comprehension_free (use:=some (assign (.Name y py) X.env)) (Q:=λ_ s'=>SP X El D .next s') rfl hs (Rn f) S.kind (λy O hl=>EC S.nd (by rw[<- hl];exact O)) ?_) (λ_ s' hq=>ZBC (ZBC hq)) λ_ _ e=>e);refine zm (hi El s Z H _ I h) λv s1 h1=>zm h1 λb1 s2 h2=>?_
 obtain⟨it,fp,tn,J,H2,e,k,T,P,f2,q2⟩:=h2;subst e;refine RK (RR:=λzt C=>compPost (model X.prog X.w) X.A X.xe (some (assign (.Name y py) X.env)) (λ_ s'=>SP X El D .next s') zt C) k T P f2 hc S zk hN U hg a0 ht he q2 ?_;intro d C s' H' ys zc n j L u hok hm Y p R B t hd rv z q;obtain⟨m,hm⟩:=hm;have V:=M8 k f2 j L u hok R B hd rv z;show wpAny _ _ (assign (.Name y py) X.env (.ref d)) _ _ s';have r:(upd H' d (.lst ys)) C=none:=by rw[AR (Ne.symm t)];exact Y
 refine wpAny_assign_Name (Pz V a4 a3 (.inl O) (v:=.ref d) rfl (λs3 W ⟨a,sb,ha⟩=>?_) (.inr O))
 have K:a≠C:=λe=>by
  have l:=Heap.get?_none_of_le p
  rcases ha with z | z
  ·obtain⟨m,⟨o,_,_,j,_⟩,_⟩:=k.loc;rw[<- z,e,l]at j;cases j
  ·obtain⟨v,o,j,_⟩:=k.cell y a z;rw[e,l]at j;cases j
 refine⟨m,hm.sameBut sb (Ne.symm K),λh' M=>?_⟩;exact⟨_,_,k.dictGone W p r M,q d R⟩
end
section
variable {X:Cx}
theorem PE.imp{e:Expr}{t t':TE}(h:PE X e t)(f:∀Z H Q,t' Z H Q->t Z H Q):PE X e t':=λEl s Z H Q I q=>h El s Z H Q I (f Z H Q q)
theorem zv.imp{f:Value->Value->Sem Value}{z:R2}(h:zv X f r)(g:∀x y H Q,z x y H Q->r x y H Q):zv X f z:=λEl s Z H x y v u Q I i j q=>h El s Z H x y v u Q I i j (g _ _ _ _ q)
theorem CallR.imp{f:Value}{r z:List V->Hp->VK->Prop}(h:CallR X f r)(g:∀x H Q,z x H Q->r x H Q):CallR X f z:=λEl s Z H xs us Q I r q=>h El s Z H xs us Q I r (g _ _ _ q)
noncomputable def HQ(i:Nat):TE:=λZ H Q=>match Z[i]? with
 | some (some v)=>Q v H
 | _=>False
theorem vv (i:Nat) (G:X.N[i]?=some x:=by rfl) (O:Vis X.env.scope x:=by first | exact Or.inl rfl | exact Or.inr (Or.inl rfl) | exact Or.inr (Or.inr rfl)) (hd:(x==("__debug__" : Str))=false:=by decide)
 (z:(x==("__classdict__" : Str))=false:=by decide):PE X (.Name x pos) (HQ i):=(Zt G O hd z).imp λZ H Q q=>by
 unfold HQ at q;split at q
 ·rename_i v e;exact⟨v,e,q⟩
 ·exact q.elim
def okMul(i j:Int):Prop:=(i.natAbs<2^4096/\j.natAbs<2^4096)\/(-(2^64)<i/\i<2^64)\/(-(2^64)<j/\j<2^64)
theorem ON{i:Int}(h:i.natAbs<2^4096):Builtin.Int.intBits i<=2^20:=by
 unfold Builtin.Int.intBits;split
 ·exact ZBT _
 ·rename_i hz
  have f:i.natAbs≠0:=by
   have:¬i=0:=by simpa using hz
   lia
  have:=(Nat.log2_lt f).mpr h
  have e:(2:Nat)^20=1048576:=by decide
  lia
theorem okMul.ok{i j:Int}(h:okMul i j):IntMulOk i j:=by
 rcases h with ⟨h1,h2⟩ | h | h
 ·exact .of_bits (ON h1) (ON h2)
 ·exact CMul.ok (.inl h)
 ·exact CMul.ok (.inr h)
def okDiv(j:Int):Prop:=0<j/\j<2^4096
theorem okDiv.ok{i j:Int}(h:okDiv j):Builtin.divisionGoesByPylong i j=false:=by
 refine PyProof.noPylong_of_log2 ?_;obtain⟨h1,h2⟩:=h;have k:j.natAbs≠0:=by lia
 have g:j.natAbs<2^4096:=by
  have e:((j.natAbs:Int))=j:=by lia
  have f:((j.natAbs:Nat):Int)<((2^4096:Nat):Int):=by rw[e,ZC1];exact h2
  exact Int.ofNat_lt.mp f
 have:=(Nat.log2_lt k).mpr g
 lia
noncomputable def D4(K:W.Frag):R2:=λx y H Q=>match x,y with
 | .int i,.int j=>Q (.int (i+j)) H
 | .str a,.str b=>a.length+b.length<=sizeLine/\Q (.str (a++b)) H
 | .ref a,.ref b=>Py (.ref a) (.ref b) H Q\/NZ K (.ref a) (.ref b) H Q
 | _,_=>False
theorem Wt:zv X (binaryOp .Add) (D4 X.K):=by
 intro El s Z H x y v u Q I f g q
 cases x <;> cases y <;> first
  | exact False.elim q
  | exact bj El s Z H _ _ v u Q I f g ⟨_,_,rfl,rfl,q⟩
  | exact VW El s Z H _ _ v u Q I f g ⟨_,_,rfl,rfl,q.1,q.2⟩
  | (rcases q with q | q
     ·exact XE El s Z H _ _ v u Q I f g q
     ·exact Tv El s Z H _ _ v u Q I f g q)
noncomputable def Kb:R2:=λx y H Q=>match x,y with
 | .int i,.int j=>Q (.int (i-j)) H
 | _,_=>False
theorem Dt:zv X (binaryOp .Sub) Kb:=by
 intro El s Z H x y v u Q I f g q
 cases x <;> cases y <;> first
  | exact False.elim q
  | exact YD El s Z H _ _ v u Q I f g ⟨_,_,rfl,rfl,q⟩
noncomputable def IX:R2:=λx y H Q=>match x,y with
 | .int i,.int j=>okMul i j/\Q (.int (i*j)) H
 | .ref a,.int k=>OQ (.ref a) (.int k) H Q
 | _,_=>False
theorem BB:zv X (binaryOp .Mult) IX:=by
 have k:zv X (binaryOp .Mult) (rI okMul λi j=>.int (i*j)):=opI λ_ _ _ _ _ _ _ l q=>mul_int q l.ok
 intro El s Z H x y v u Q I f g q
 cases x <;> cases y <;> first
  | exact False.elim q
  | exact k El s Z H _ _ v u Q I f g ⟨_,_,rfl,rfl,q.1,q.2⟩
  | exact Vz El s Z H _ _ v u Q I f g q
noncomputable def JL:R2:=λx y H Q=>match x,y with
 | .int i,.int j=>okDiv j/\Q (.int (i / j)) H
 | _,_=>False
theorem Db:zv X (binaryOp .FloorDiv) JL:=by
 have g:zv X (binaryOp .FloorDiv) (rI (λ_ j=>okDiv j) λi j=>.int (i / j)):=opI λi j _ _ _ _ _ f q=>by
  refine floordiv_int (by have:=f.1;lia) ?_ (.inl f.ok);rw[Int.fdiv_eq_ediv_of_nonneg i (by have:=f.1;lia)];exact q
 intro El s Z H x y v u Q I k l q
 cases x <;> cases y <;> first
  | exact False.elim q
  | exact g El s Z H _ _ v u Q I k l ⟨_,_,rfl,rfl,q.1,q.2⟩
noncomputable def Jy:R2:=λx y H Q=>match x,y with
 | .int i,.int j=>0<j/\Q (.int (i%j)) H
 | _,_=>False
theorem CF:zv X (binaryOp .Mod) Jy:=by
 intro El s Z H x y v u Q I f g q
 cases x <;> cases y <;> first
  | exact False.elim q
  | exact WY El s Z H _ _ v u Q I f g ⟨_,_,rfl,rfl,q.1,q.2⟩
noncomputable def Ma:R2:=λx y H Q=>match x,y with
 | .int i,.int j=>N9 i j/\Q (.int (i^j.toNat)) H
 | _,_=>False
theorem So:zv X (binaryOp .Pow) Ma:=by
 intro El s Z H x y v u Q I f g q
 cases x <;> cases y <;> first
  | exact False.elim q
  | exact Wa El s Z H _ _ v u Q I f g ⟨_,_,rfl,rfl,q.1,q.2⟩
noncomputable def Gr(f:Int->Int->Int):R2:=λx y H Q=>match x,y with
 | .int i,.int j=>Q (.int (f i j)) H
 | _,_=>False
theorem GU:zv X (binaryOp .BitAnd) (Gr Builtin.bitAnd):=by
 intro El s Z H x y v u Q I f g q
 cases x <;> cases y <;> first
  | exact False.elim q
  | exact Sj El s Z H _ _ v u Q I f g ⟨_,_,rfl,rfl,q⟩
theorem U4:zv X (binaryOp .BitXor) (Gr Builtin.bitXor):=by
 intro El s Z H x y v u Q I f g q
 cases x <;> cases y <;> first
  | exact False.elim q
  | exact Sc El s Z H _ _ v u Q I f g ⟨_,_,rfl,rfl,q⟩
theorem Rx:zv X (binaryOp .BitOr) (Gr Builtin.bitOr):=by
 intro El s Z H x y v u Q I f g q
 cases x <;> cases y <;> first
  | exact False.elim q
  | exact SV El s Z H _ _ v u Q I f g ⟨_,_,rfl,rfl,q⟩
noncomputable def WC:V->Hp->VK->Prop:=λx H Q=>match x with
 | .int i=>Q (.int (-i)) H
 | _=>False
theorem Fk:UnR X (unaryOp .USub) WC:=by
 intro El s Z H x v Q I f q
 cases x <;> first
  | exact False.elim q
  | exact Vg El s Z H _ v Q I f ⟨_,rfl,q⟩
noncomputable def GA(p:Int->Int->Bool):R2:=λx y H Q=>match x,y with
 | .int i,.int j=>Q (.bl (p i j)) H
 | _,_=>False
theorem Cy:zv X (compareOp .Lt) (GA λi j=>decide (i<j)):=by
 intro El s Z H x y v u Q I f g q
 cases x <;> cases y <;> first
  | exact False.elim q
  | exact YT El s Z H _ _ v u Q I f g ⟨_,_,rfl,rfl,q⟩
theorem Ii:zv X (compareOp .LtE) (GA λi j=>decide (i<=j)):=by
 intro El s Z H x y v u Q I f g q
 cases x <;> cases y <;> first
  | exact False.elim q
  | exact YN El s Z H _ _ v u Q I f g ⟨_,_,rfl,rfl,q⟩
theorem Ci:zv X (compareOp .Gt) (GA λi j=>decide (j<i)):=by
 intro El s Z H x y v u Q I f g q
 cases x <;> cases y <;> first
  | exact False.elim q
  | exact W1 El s Z H _ _ v u Q I f g ⟨_,_,rfl,rfl,q⟩
end
inductive Dv where
 | non | bl (b:Bool) | int (i:Int) | str (x:Str) | tup (ds:List Dv) | lst (ds:List Dv)
mutual
noncomputable def zf(K:W.Frag)(H:Hp):Dv->V->Prop
 | .non,v=>v=.non
 | .bl b,v=>v=.bl b
 | .int i,v=>v=.int i
 | .str x,v=>v=.str x
 | .tup ds,v=>∃a xs,v=.ref a/\zj K H a xs/\za K H ds xs
 | .lst ds,v=>∃a xs,v=.ref a/\zr K H a xs/\za K H ds xs
noncomputable def za(K:W.Frag)(H:Hp):List Dv->List V->Prop
 | [],xs=>xs=[]
 | d::ds,xs=>∃x r,xs=x::r/\zf K H d x/\za K H ds r
end
mutual
noncomputable def eqD:Dv->Dv->Bool
 | .non,.non=>true
 | .bl a,.bl b=>a==b
 | .bl a,.int b=>(if a then 1 else 0)==b
 | .int a,.bl b=>a==(if b then 1 else 0)
 | .int a,.int b=>a==b
 | .str a,.str b=>a==b
 | .tup ds,.tup es=>BY ds es
 | .lst ds,.lst es=>BY ds es
 | _,_=>false
noncomputable def BY:List Dv->List Dv->Bool
 | [],[]=>true
 | d::ds,e::es=>eqD d e&&BY ds es
 | _,_=>false
end
mutual
noncomputable def At:Dv->Nat
 | .tup ds=>BL ds+1
 | .lst ds=>BL ds+1
 | _=>0
noncomputable def BL:List Dv->Nat
 | []=>0
 | d::ds=>max (At d) (BL ds)
end
theorem Zo(ds es:List Dv):eqD (.tup ds) (.tup es)=BY ds es:=by rw[eqD]
theorem K5(ds es:List Dv):eqD (.lst ds) (.lst es)=BY ds es:=by rw[eqD]
theorem za.length:∀{ds:List Dv} {xs:List V},za K H ds xs->ds.length=xs.length
 | [],xs,h=>by unfold za at h;subst h;rfl
 | d::ds,xs,h=>by
  unfold za at h;obtain⟨x,r,rfl,_,h⟩:=h;rw[ZCF,ZCF,za.length h]
theorem za.get:∀{ds:List Dv} {xs:List V} {i:Nat} {d:Dv},za K H ds xs->ds[i]?=some d->∃x,xs[i]?=some x/\zf K H d x
 | [],_,_,_,_,e=>by simp at e
 | d::ds,xs,0,_,h,e=>by
  unfold za at h;obtain⟨x,r,rfl,h1,_⟩:=h;simp at e;subst e;exact⟨x,rfl,h1⟩
 | d::ds,xs,i+1,_,h,e=>by
  unfold za at h;obtain⟨x,r,rfl,_,h⟩:=h;obtain⟨y,h1,h2⟩:=za.get (i:=i) h (by simpa using e);exact⟨y,by simpa using h1,h2⟩
theorem OV{d:Dv}(h:ds[i]?=some d):At d<=BL ds:=by
 induction ds generalizing i with
 | nil=>simp at h
 | cons e es f =>
  unfold BL;cases i with
  | zero=>simp at h;subst h;lia
  | succ i=>have:=f (i:=i) (by simpa using h);lia
theorem Jq:∀(ds es:List Dv),ds.length=es.length->BY ds es=(List.range ds.length).all λi=>match ds[i]?,es[i]? with | some d,some e=>eqD d e | _,_=>false
 | [],[],_=>by unfold BY;rfl
 | d::ds,e::es,h=>by
  unfold BY;rw[ZCF,List.range_succ_eq_map,List.all_cons,List.all_map,Jq ds es (by simpa using h)]
  congr 1
 | [],e::es,h=>by simp at h
 | d::ds,[],h=>by simp at h
theorem JO:∀(ds es:List Dv),ds.length≠es.length->BY ds es=false
 | [],[],h=>absurd rfl h
 | [],_::_,_=>by unfold BY;rfl
 | _::_,[],_=>by unfold BY;rfl
 | d::ds,e::es,h=>by unfold BY;rw[JO ds es (λz=>h (by simp[z])),ZDG]
mutual
theorem Ei:∀d:Dv,eqD d d=true
 | .non=>by unfold eqD;rfl
 | .bl b=>by unfold eqD;simp
 | .int i=>by unfold eqD;simp
 | .str x=>by unfold eqD;simp
 | .tup ds=>by unfold eqD;exact HJ ds
 | .lst ds=>by unfold eqD;exact HJ ds
theorem HJ:∀ds:List Dv,BY ds ds=true
 | []=>by unfold BY;rfl
 | d::ds=>by unfold BY;rw[Ei d,HJ ds];rfl
end
section
variable {X:Cx}{El:List (Addr×Obj)}{Z:St}{H:Hp}{s:Shared}
theorem Oe(I:zd X El Z H s)(h:zr X.K H a xs)(h':zj X.K H a ys):False:=by
 obtain⟨zc,_,⟨o,n,e,c,_⟩,_⟩:=I.list h;obtain⟨its',_,⟨o',g,f,_⟩,_⟩:=I.tuple h';rw[e]at g;cases g;rw[c]at f;exact absurd f (by decide)
mutual
theorem Kj(I:zd X El Z H s):∀(d e:Dv) (x:V),zf X.K H d x->zf X.K H e x->d=e
 | .non,e,x,h,h'=>by
  unfold zf at h;subst h;cases e <;> unfold zf at h' <;> first | rfl | (obtain⟨a,xs,q,_⟩:=h';cases q;done) | (cases h';done)
 | .bl b,e,x,h,h'=>by
  unfold zf at h;subst h;cases e <;> unfold zf at h' <;> first | (obtain⟨a,xs,q,_⟩:=h';cases q;done) | (cases h';rfl) | (cases h';done)
 | .int b,e,x,h,h'=>by
  unfold zf at h;subst h;cases e <;> unfold zf at h' <;> first | (obtain⟨a,xs,q,_⟩:=h';cases q;done) | (cases h';rfl) | (cases h';done)
 | .str b,e,x,h,h'=>by
  unfold zf at h;subst h;cases e <;> unfold zf at h' <;> first | (obtain⟨a,xs,q,_⟩:=h';cases q;done) | (cases h';rfl) | (cases h';done)
 | .tup ds,e,x,h,h'=>by
  unfold zf at h;obtain⟨a,xs,rfl,hs,hr⟩:=h;cases e with
  | tup es =>
   unfold zf at h';obtain⟨b,ys,q,g,f⟩:=h';cases q;rw[I.tuple_inj g hs]at f;rw[Km I ds es xs hr f]
  | lst es =>
   unfold zf at h';obtain⟨b,ys,q,g,f⟩:=h';cases q;exact(Oe I g hs).elim
  | _=>unfold zf at h';cases h'
 | .lst ds,e,x,h,h'=>by
  unfold zf at h;obtain⟨a,xs,rfl,hs,hr⟩:=h;cases e with
  | lst es =>
   unfold zf at h';obtain⟨b,ys,q,g,f⟩:=h';cases q;rw[I.list_inj g hs]at f;rw[Km I ds es xs hr f]
  | tup es =>
   unfold zf at h';obtain⟨b,ys,q,g,f⟩:=h';cases q;exact(Oe I hs g).elim
  | _=>unfold zf at h';cases h'
theorem Km(I:zd X El Z H s):∀(ds es:List Dv) (xs:List V),za X.K H ds xs->za X.K H es xs->ds=es
 | [],es,xs,h,h'=>by
  unfold za at h;subst h;cases es with
  | nil=>rfl
  | cons e es=>unfold za at h';obtain⟨x,r,q,_⟩:=h';cases q
 | d::ds,es,xs,h,h'=>by
  unfold za at h;obtain⟨x,r,rfl,h1,h2⟩:=h;cases es with
  | nil=>unfold za at h';cases h'
  | cons e es =>
   unfold za at h';obtain⟨y,i,q,f,g⟩:=h';cases q;rw[Kj I d e _ h1 f,Km I ds es _ h2 g]
end
abbrev Eq3(A:Around)(s:Shared)(u v:Value)(b:Bool):Prop:=SeqAt.EqAt A s u v b/\SeqAt.RcAt A s u v b/\SeqAt.RcNeAt A s u v (!b)
theorem aU {b:Addr} {es:List Dv} (I:zd X El Z H s) (hu:A.units<cLine) (ha:zj X.K H a xs) (z:zj X.K H b ys) (hd:za X.K H ds xs) (he:za X.K H es ys)
 (G:∀(i:Nat) (d e:Dv) (x y:V) (u v:Value),ds[i]?=some d->es[i]?=some e->xs[i]?=some x->ys[i]?=some y->zi x u->zi y v->SeqAt.EqAt A.in1 s u v (eqD d e)):Eq3 A s (.ref a) (.ref b) (eqD (.tup ds) (.tup es)):=by
 obtain⟨zc,r1,o,_⟩:=I.tuple ha;obtain⟨f,t,p2,_⟩:=I.tuple z;have l1:=hd.length;have l2:=he.length;have w:=r1.length;have B:=t.length
 have g:∀j (h1:j<zc.toArray.size) (h2:j<f.toArray.size),SeqAt.EqAt A.in1 s zc.toArray[j] f.toArray[j] (match ds[j]?,es[j]? with | some d,some e=>eqD d e | _,_=>false):=λj h1 h2=>by
  rw[ZBM]at h1 h2;have l:ds[j]?=some ds[j]:=ZBE (by lia);have e2:es[j]?=some es[j]:=ZBE (by lia);have m:xs[j]?=some xs[j]:=ZBE (by lia);have n:ys[j]?=some ys[j]:=ZBE (by lia);obtain⟨u,p,C⟩:=r1.get m;obtain⟨v,r,D⟩:=t.get n;rw[l,e2];have J:zc.toArray[j]=u:=by rw[ZDN];rw[ZBE h1]at p;exact ZBQ p
  have L:f.toArray[j]=v:=by rw[ZDN];rw[ZBE h2]at r;exact ZBQ r
  rw[J,L];exact G j _ _ _ _ _ _ l e2 m n C D
 have val:((List.range (min zc.toArray.size f.toArray.size)).all (λj=>match ds[j]?,es[j]? with | some d,some e=>eqD d e | _,_=>false)&&zc.toArray.size==f.toArray.size)=eqD (.tup ds) (.tup es):=by
  rw[ZBM,ZBM,<- w,<- B,<- l1,<- l2,Zo]
  by_cases h:ds.length=es.length
  ·rw[h,Nat.min_self,<- h,Jq ds es h];simp
  ·rw[JO ds es h]
   have:(ds.length==es.length)=false:=by simpa using h
   rw[this,ZDG]
 have R:=SeqAt.RcAt.tuples (A:=A) o p2 hu g;have N:=SeqAt.RcNeAt.tuples (A:=A) o p2 hu g;rw[val]at R N;refine⟨?_,R,N⟩
 by_cases k:a=b
 ·subst k
  have e:ds=es:=by
   have:=Kj I (.tup ds) (.tup es) (.ref a) (by unfold zf;exact⟨a,xs,rfl,ha,hd⟩) (by unfold zf;exact⟨a,ys,rfl,z,he⟩)
   cases this;rfl
  subst e;rw[Ei];exact SeqAt.EqAt.same _
 ·exact .of_refs k R
theorem bW {b:Addr} {es:List Dv} (I:zd X El Z H s) (hu:A.units<cLine) (ha:zr X.K H a xs) (z:zr X.K H b ys) (hd:za X.K H ds xs) (he:za X.K H es ys)
 (G:∀(i:Nat) (d e:Dv) (x y:V) (u v:Value),ds[i]?=some d->es[i]?=some e->xs[i]?=some x->ys[i]?=some y->zi x u->zi y v->SeqAt.EqAt A.in1 s u v (eqD d e)):Eq3 A s (.ref a) (.ref b) (eqD (.lst ds) (.lst es)):=by
 obtain⟨zc,r1,l,_⟩:=I.list ha;obtain⟨f,w,p2,_⟩:=I.list z;have l1:=hd.length;have l2:=he.length;have B:=r1.length;have M:=w.length
 have g:∀j (h1:j<zc.toArray.size) (h2:j<f.toArray.size),SeqAt.EqAt A.in1 s zc.toArray[j] f.toArray[j] (match ds[j]?,es[j]? with | some d,some e=>eqD d e | _,_=>false):=λj h1 h2=>by
  rw[ZBM]at h1 h2;have n:ds[j]?=some ds[j]:=ZBE (by lia);have e2:es[j]?=some es[j]:=ZBE (by lia);have o:xs[j]?=some xs[j]:=ZBE (by lia);have p:ys[j]?=some ys[j]:=ZBE (by lia);obtain⟨u,r,C⟩:=r1.get o;obtain⟨v,t,D⟩:=w.get p;rw[n,e2];have J:zc.toArray[j]=u:=by rw[ZDN];rw[ZBE h1]at r;exact ZBQ r
  have L:f.toArray[j]=v:=by rw[ZDN];rw[ZBE h2]at t;exact ZBQ t
  rw[J,L];exact G j _ _ _ _ _ _ n e2 o p C D
 have m:SeqAt.RcAt A s (.ref a) (.ref b) (eqD (.lst ds) (.lst es))/\SeqAt.RcNeAt A s (.ref a) (.ref b) (!eqD (.lst ds) (.lst es)):=by
  by_cases h:ds.length=es.length
  ·have hsz:zc.toArray.size=f.toArray.size:=by rw[ZBM,ZBM];lia
   have val:(List.range zc.toArray.size).all (λj=>match ds[j]?,es[j]? with | some d,some e=>eqD d e | _,_=>false)=eqD (.lst ds) (.lst es):=by
    rw[K5,ZBM,<- B,<- l1,Jq ds es h]
   have R:=SeqAt.RcAt.lists (A:=A) l.isList p2.isList hsz hu g;have N:=SeqAt.RcNeAt.lists (A:=A) l.isList p2.isList hsz hu g;rw[val]at R N;exact⟨R,N⟩
  ·have hsz:(zc.toArray.size != f.toArray.size)=true:=by rw[ZBM,ZBM];simp;lia
   have val:eqD (.lst ds) (.lst es)=false:=by rw[K5];exact JO ds es h
   rw[val];exact⟨SeqAt.RcAt.lists_lengths l.isList p2.isList hsz hu,SeqAt.RcNeAt.lists_lengths l.isList p2.isList hsz hu⟩
 refine⟨?_,m.1,m.2⟩
 by_cases k:a=b
 ·subst k
  have e:ds=es:=by
   have:=Kj I (.lst ds) (.lst es) (.ref a) (by unfold zf;exact⟨a,xs,rfl,ha,hd⟩) (by unfold zf;exact⟨a,ys,rfl,z,he⟩)
   cases this;rfl
  subst e;rw[Ei];exact SeqAt.EqAt.same _
 ·exact .of_refs k m.1
theorem Qy(I:zd X El Z H s):∀(n:Nat) (A:Around) (d e:Dv) (x y:V) (u v:Value),At d<=n->A.units+n<cLine->zf X.K H d x->zf X.K H e y->zi x u->zi y v->Eq3 A s u v (eqD d e):=by
 intro n
 induction n with
 | zero =>
  intro A d e x y u v hd hu k g l j;have f:A.units<cLine:=by lia
  cases d with
  | tup ds=>unfold At at hd;lia
  | lst ds=>unfold At at hd;lia
  | non =>
   unfold zf at k;subst k;cases l;cases e <;> unfold zf at g
   case non=>subst g;cases j;exact⟨SeqAt.EqAt.same _,SeqAt.RcAt.none_none,SeqAt.RcNeAt.none_none⟩
   case bl=>subst g;cases j;exact⟨.none_bool _,.none_bool _,.none_bool _⟩
   case int=>subst g;obtain⟨t,rfl⟩:=j;exact⟨.none_int _ _,.none_int _ _,.none_int _ _⟩
   case str=>subst g;obtain⟨t,rfl⟩:=j;exact⟨.none_str _ _,.none_str _ _,.none_str _ _⟩
   case tup=>obtain⟨a,xs,rfl,ha,_⟩:=g;cases j;obtain⟨zc,_,p,_⟩:=I.tuple ha;exact⟨.none_tuple p f,.none_tuple p f,.none_tuple p f⟩
   case lst=>obtain⟨a,xs,rfl,ha,_⟩:=g;cases j;obtain⟨zc,_,p,_⟩:=I.list ha;exact⟨.none_list p.isList f,.none_list p.isList f,.none_list p.isList f⟩
  | bl c =>
   unfold zf at k;subst k;cases l;cases e <;> unfold zf at g
   case non=>subst g;cases j;exact⟨.bool_none _,.bool_none _,.bool_none _⟩
   case bl=>subst g;cases j;unfold eqD;exact⟨.bool_bool _ _,.bool_bool _ _,.bool_bool _ _⟩
   case int=>subst g;obtain⟨t,rfl⟩:=j;unfold eqD;exact⟨.bool_int _ _ _,.bool_int _ _ _,.bool_int _ _ _⟩
   case str=>subst g;obtain⟨t,rfl⟩:=j;exact⟨.bool_str _ _ _,.bool_str _ _ _,.bool_str _ _ _⟩
   case tup=>obtain⟨a,xs,rfl,ha,_⟩:=g;cases j;obtain⟨zc,_,p,_⟩:=I.tuple ha;exact⟨.bool_tuple _ p f,.bool_tuple _ p f,.bool_tuple _ p f⟩
   case lst=>obtain⟨a,xs,rfl,ha,_⟩:=g;cases j;obtain⟨zc,_,p,_⟩:=I.list ha;exact⟨.bool_list _ p.isList f,.bool_list _ p.isList f,.bool_list _ p.isList f⟩
  | int c =>
   unfold zf at k;subst k;obtain⟨t0,rfl⟩:=l;cases e <;> unfold zf at g
   case non=>subst g;cases j;exact⟨.int_none _ _,.int_none _ _,.int_none _ _⟩
   case bl=>subst g;cases j;unfold eqD;exact⟨.int_bool _ _ _,.int_bool _ _ _,.int_bool _ _ _⟩
   case int=>subst g;obtain⟨t,rfl⟩:=j;unfold eqD;exact⟨.int_int _ _ _ _,.int_int _ _ _ _,.int_int _ _ _ _⟩
   case str=>subst g;obtain⟨t,rfl⟩:=j;exact⟨.int_str _ _ _ _,.int_str _ _ _ _,.int_str _ _ _ _⟩
   case tup=>obtain⟨a,xs,rfl,ha,_⟩:=g;cases j;obtain⟨zc,_,p,_⟩:=I.tuple ha;exact⟨.int_tuple _ _ p f,.int_tuple _ _ p f,.int_tuple _ _ p f⟩
   case lst=>obtain⟨a,xs,rfl,ha,_⟩:=g;cases j;obtain⟨zc,_,p,_⟩:=I.list ha;exact⟨.int_list _ _ p.isList f,.int_list _ _ p.isList f,.int_list _ _ p.isList f⟩
  | str c =>
   unfold zf at k;subst k;obtain⟨t0,rfl⟩:=l;cases e <;> unfold zf at g
   case non=>subst g;cases j;exact⟨.str_none _ _,.str_none _ _,.str_none _ _⟩
   case bl=>subst g;cases j;exact⟨.str_bool _ _ _,.str_bool _ _ _,.str_bool _ _ _⟩
   case int=>subst g;obtain⟨t,rfl⟩:=j;exact⟨.str_int _ _ _ _,.str_int _ _ _ _,.str_int _ _ _ _⟩
   case str=>subst g;obtain⟨t,rfl⟩:=j;unfold eqD;exact⟨.str_str _ _ _ _,.str_str _ _ _ _,.str_str _ _ _ _⟩
   case tup=>obtain⟨a,xs,rfl,ha,_⟩:=g;cases j;obtain⟨zc,_,p,_⟩:=I.tuple ha;exact⟨.str_tuple _ _ p f,.str_tuple _ _ p f,.str_tuple _ _ p f⟩
   case lst=>obtain⟨a,xs,rfl,ha,_⟩:=g;cases j;obtain⟨zc,_,p,_⟩:=I.list ha;exact⟨.str_list _ _ p.isList f,.str_list _ _ p.isList f,.str_list _ _ p.isList f⟩
 | succ n r =>
  intro A d e x y u v hd hu k g l j;have f:A.units<cLine:=by lia
  have z:A.in1.units+n<cLine:=by show A.units+1+n<cLine;lia
  cases d with
  | tup ds =>
   unfold At at hd;unfold zf at k;obtain⟨a,xs,rfl,ha,hr⟩:=k;cases l;cases e <;> unfold zf at g
   case tup es =>
    obtain⟨b,ys,rfl,o,m⟩:=g;cases j;refine aU I f ha o hr m λi d e x y u v w e2 G J l j=>?_
    obtain⟨N,C,L⟩:=hr.get w;obtain⟨O,D,M⟩:=m.get e2;rw[G]at C;cases C;rw[J]at D;cases D;exact(r A.in1 d e x y u v (by have:=OV w;lia) z L M l j).1
   case non=>subst g;cases j;obtain⟨zc,_,p,_⟩:=I.tuple ha;exact⟨.tuple_none p f,.tuple_none p f,.tuple_none p f⟩
   case bl=>subst g;cases j;obtain⟨zc,_,p,_⟩:=I.tuple ha;exact⟨.tuple_bool _ p f,.tuple_bool _ p f,.tuple_bool _ p f⟩
   case int=>subst g;obtain⟨t,rfl⟩:=j;obtain⟨zc,_,p,_⟩:=I.tuple ha;exact⟨.tuple_int _ _ p f,.tuple_int _ _ p f,.tuple_int _ _ p f⟩
   case str=>subst g;obtain⟨t,rfl⟩:=j;obtain⟨zc,_,p,_⟩:=I.tuple ha;exact⟨.tuple_str _ _ p f,.tuple_str _ _ p f,.tuple_str _ _ p f⟩
   case lst=>obtain⟨b,ys,rfl,o,_⟩:=g;cases j;obtain⟨zc,_,p,_⟩:=I.tuple ha;obtain⟨B,_,p2,_⟩:=I.list o;exact⟨.tuple_list p p2.isList f,.tuple_list p p2.isList f,.tuple_list p p2.isList f⟩
  | lst ds =>
   unfold At at hd;unfold zf at k;obtain⟨a,xs,rfl,ha,hr⟩:=k;cases l;cases e <;> unfold zf at g
   case lst es =>
    obtain⟨b,ys,rfl,o,m⟩:=g;cases j;refine bW I f ha o hr m λi d e x y u v w e2 G J l j=>?_
    obtain⟨N,C,L⟩:=hr.get w;obtain⟨O,D,M⟩:=m.get e2;rw[G]at C;cases C;rw[J]at D;cases D;exact(r A.in1 d e x y u v (by have:=OV w;lia) z L M l j).1
   case non=>subst g;cases j;obtain⟨zc,_,p,_⟩:=I.list ha;exact⟨.list_none p.isList f,.list_none p.isList f,.list_none p.isList f⟩
   case bl=>subst g;cases j;obtain⟨zc,_,p,_⟩:=I.list ha;exact⟨.list_bool _ p.isList f,.list_bool _ p.isList f,.list_bool _ p.isList f⟩
   case int=>subst g;obtain⟨t,rfl⟩:=j;obtain⟨zc,_,p,_⟩:=I.list ha;exact⟨.list_int _ _ p.isList f,.list_int _ _ p.isList f,.list_int _ _ p.isList f⟩
   case str=>subst g;obtain⟨t,rfl⟩:=j;obtain⟨zc,_,p,_⟩:=I.list ha;exact⟨.list_str _ _ p.isList f,.list_str _ _ p.isList f,.list_str _ _ p.isList f⟩
   case tup=>obtain⟨b,ys,rfl,o,_⟩:=g;cases j;obtain⟨zc,_,p,_⟩:=I.list ha;obtain⟨B,_,p2,_⟩:=I.tuple o;exact⟨.list_tuple p.isList p2 f,.list_tuple p.isList p2 f,.list_tuple p.isList p2 f⟩
  | non=>exact r A .non e x y u v (by unfold At;lia) (by lia) k g l j
  | bl c=>exact r A (.bl c) e x y u v (by unfold At;lia) (by lia) k g l j
  | int c=>exact r A (.int c) e x y u v (by unfold At;lia) (by lia) k g l j
  | str c=>exact r A (.str c) e x y u v (by unfold At;lia) (by lia) k g l j
end
section
variable {X:Cx}
noncomputable def mEq(neg:Bool)(K:W.Frag):R2:=λx y H Q=>match x,y with
 | .non,.non=>Q (.bl (neg ^^ true)) H
 | .bl a,.bl b=>Q (.bl (neg ^^ (a==b))) H
 | .int a,.int b=>Q (.bl (neg ^^ (a==b))) H
 | .str a,.str b=>Q (.bl (neg ^^ (a==b))) H
 | x,y=>∃d e,zf K H d x/\zf K H e y/\At d<=60/\Q (.bl (neg ^^ eqD d e)) H
theorem Vl(hu:X.A.units+60<cLine):zv X (compareOp .Eq) (λx y H Q=>∃d e,zf X.K H d x/\zf X.K H e y/\At d<=60/\Q (.bl (eqD d e)) H):=by
 intro El s Z H x y v u Q I g i h;obtain⟨d,e,h1,h2,f,q⟩:=h;exact(Qy I 60 X.A d e x y v u f hu h1 h2 g i).2.1 X.prog X.w _ _ ⟨.bl _,H,I,rfl,q⟩
theorem ZG(hu:X.A.units+60<cLine):zv X (compareOp .NotEq) (λx y H Q=>∃d e,zf X.K H d x/\zf X.K H e y/\At d<=60/\Q (.bl (!eqD d e)) H):=by
 intro El s Z H x y v u Q I g i h;obtain⟨d,e,h1,h2,f,q⟩:=h;exact(Qy I 60 X.A d e x y v u f hu h1 h2 g i).2.2 X.prog X.w _ _ ⟨.bl _,H,I,rfl,q⟩
theorem NT{neg:Bool}{x:V}(h:mEq neg K x y H Q):∃d e,zf K H d x/\zf K H e y/\At d<=60/\Q (.bl (neg ^^ eqD d e)) H:=by
 unfold mEq at h;split at h
 ·exact⟨.non,.non,by unfold zf;rfl,by unfold zf;rfl,by unfold At;lia,by unfold eqD;exact h⟩
 ·rename_i a b;exact⟨.bl a,.bl b,by unfold zf;rfl,by unfold zf;rfl,by unfold At;lia,by unfold eqD;exact h⟩
 ·rename_i a b;exact⟨.int a,.int b,by unfold zf;rfl,by unfold zf;rfl,by unfold At;lia,by unfold eqD;exact h⟩
 ·rename_i a b;exact⟨.str a,.str b,by unfold zf;rfl,by unfold zf;rfl,by unfold At;lia,by unfold eqD;exact h⟩
 ·exact h
theorem ZO(hu:X.A.units+60<cLine):zv X (compareOp .Eq) (mEq false X.K):=(Vl hu).imp λx y H Q h=>by
 obtain⟨d,e,h1,h2,f,q⟩:=NT h;exact⟨d,e,h1,h2,f,by rw[ZB5]at q;exact q⟩
theorem VG(hu:X.A.units+60<cLine):zv X (compareOp .NotEq) (mEq true X.K):=(ZG hu).imp λx y H Q h=>by
 obtain⟨d,e,h1,h2,f,q⟩:=NT h;exact⟨d,e,h1,h2,f,by rw[Bool.true_xor]at q;exact q⟩
end
section
variable {X:Cx}{a b c e:Expr}{es:List Expr}{ta tb tc te:TE}{tA tB':TT}{t:TA}{pos p:Pos}{x:Str}
def isB(v:V)(Q:Bool->Prop):Prop:=match v with
 | .bl c=>Q c
 | _=>False
theorem D9{Q:Bool->Prop}(h:isB v Q):∃c,v=.bl c/\Q c:=by
 cases v <;> first | exact False.elim h | exact⟨_,rfl,h⟩
def Ap(t:TE):Prop:=∀Z H (Q f:VK),(∀v H,Q v H->f v H)->t Z H Q->t Z H f
noncomputable def uB(t:TE):TT:=λZ H Q=>t Z H λx H1=>isB x λc=>Q c H1
theorem Ah{op:CmpOp}(O:zv X (compareOp op) r)(ha:PE X a ta)(G:PE X b tb)(hm:behindInMarks op b=false:=by first | exact Kn _ (by decide) (by decide) | rfl):PT X (.Compare a [op] [b] pos) (uB (tOp r ta tb)):=by
 intro El s Z H Q I h
 refine wpAny_isTrue_Compare1 (zm (ha El s Z H _ I h) λv s1 ⟨x,H1,g,r1,l⟩=>zm (G El s1 Z H1 _ g l) λu s2 ⟨y,H2,i,o,m⟩ =>
  zm (O El s2 Z H2 x y v u _ i r1 o m) λc s3 ⟨z,f,j,p,q⟩=>?_) hm
 obtain⟨k,e,n⟩:=D9 q;subst e;cases p;exact ZCO ⟨f,j,n⟩
theorem BK{op:CmpOp}(G:zv X (compareOp op) r)(ha:PE X a ta)(z:PE X b tb)(hm:behindInMarks op b=false:=by first | exact Kn _ (by decide) (by decide) | rfl):PE X (.Compare a [op] [b] pos) (tOp r ta tb):=bp G ha z hm
theorem BU(h:PE X e te)(he:∀whole,isTrue e X.env whole=(do let v <- whole;standAt e.pos;holding [v] (truthy v)):=by intro _;rfl):PT X e (uB te):=by
 intro El s Z H Q I g;refine isTrue_plain (zm (h El s Z H _ I g) λv s1 ⟨x,H1,f,r1,i⟩=>?_) (he _);obtain⟨k,e,q⟩:=D9 i;subst e;cases r1;exact ZCO ⟨H1,f,q⟩
noncomputable def O5(r G:R2)(ta tb tc:TE):TE:=λZ H Q=>ta Z H λx H1=>tb Z H1 λy H2=>r x y H2 λz f=>isB z λk =>
 (if k=true then tc Z f λi g=>G y i g Q else Q (.bl false) f)
theorem ZX {op G:CmpOp} {U:R2} (ho:zv X (compareOp op) r) (O:zv X (compareOp G) U) (ha:PE X a ta) (hb:PE X b tb) (hc:PE X c tc)
 (hm:lastMarks [op,G] [b,c]=false:=by with_unfolding_all rfl):PE X (.Compare a [op,G] [b,c] pos) (O5 r U ta tb tc):=by
 intro El s Z H Q I h
 refine Compare_chain (zm (ha El s Z H _ I h) λv s1 ⟨x,H1,m,r1,p⟩=>chain_link (zm (hb El s1 Z H1 _ m p) λu s2 ⟨y,H2,n,j,t⟩ =>
  zm (ho El s2 Z H2 x y v u _ n r1 j t) λd s3 ⟨z,f,g,B,q⟩=>?_)) hm
 obtain⟨k,e,i⟩:=D9 q;subst e;cases B;refine ZCO ?_;cases k with
 | false=>exact ite_ff ⟨.bl false,f,g,rfl,i⟩
 | true=>exact ite_tt (chain_last (zm (hc El s3 Z f _ g i) λD s4 ⟨J,l,o,C,w⟩=>O El s4 Z l y J u D Q o j C w))
theorem ZA {op G:CmpOp} {U:R2} (ho:zv X (compareOp op) r) (O:zv X (compareOp G) U) (ha:PE X a ta) (hb:PE X b tb) (hc:PE X c tc)
 (hm:lastMarks [op,G] [b,c]=false:=by with_unfolding_all rfl):PT X (.Compare a [op,G] [b,c] pos) (uB (O5 r U ta tb tc)):=by
 intro El s Z H Q I h
 refine isTrue_chain (zm (ha El s Z H _ I h) λv s1 ⟨x,H1,o,r1,B⟩=>test_link (zm (hb El s1 Z H1 _ o B) λu s2 ⟨y,H2,p,l,C⟩ =>
  zm (ho El s2 Z H2 x y v u _ p r1 l C) λd s3 ⟨z,g,j,J,q⟩=>?_)) hm
 obtain⟨k,e,f⟩:=D9 q;subst e;cases J;refine ZCO ?_;cases k with
 | false =>
  have f:Q false g:=f;exact ite_ff ⟨g,j,f⟩
 | true =>
  refine ite_tt (test_last (zm (hc El s3 Z g _ j f) λM s4 ⟨N,m,t,K,D⟩=>zm (O El s4 Z m y N u M _ t l K D) λd' s5 ⟨R,n,w,L,i⟩=>?_));obtain⟨P,e2,i⟩:=D9 i;subst e2;cases L;exact ZCO ⟨n,w,i⟩
noncomputable def UG(ta tb:TE):TE:=λZ H Q=>ta Z H λx H1=>isB x λc=>if c=true then tb Z H1 Q else Q (.bl false) H1
noncomputable def QO(ta:TE):TE:=λZ H Q=>ta Z H λx H1=>isB x λc=>Q (.bl (!c)) H1
theorem D8(ha:PE X a ta)(z:PE X (.BoolOp .And (b::es) pos) tb):PE X (.BoolOp .And (a::b::es) pos) (UG ta tb):=by
 have g:PE X a (λZ H Q=>ta Z H λx H1=>isB x λc=>Q (.bl c) H1):=λEl s Z H Q I h=>zm (ha El s Z H _ I h) λv s1 ⟨x,H1,i,r1,j⟩=>by
  obtain⟨c,e,q⟩:=D9 j;subst e;exact⟨.bl c,H1,i,r1,q⟩
 have h:=U0 (pos:=pos) g z
 exact h.imp λZ H Q q=>by
  show ta Z H λx H1=>isB x λc=>∃f,V.bl c=.bl f/\if f=true then tb Z H1 Q else Q (.bl false) H1
  have e:(λ(x:V) (H1:Hp)=>isB x λc=>∃f,V.bl c=.bl f/\if f=true then tb Z H1 Q else Q (.bl false) H1)=λx H1=>isB x λc=>if c=true then tb Z H1 Q else Q (.bl false) H1:=by
   funext x H1
   cases x <;> first | rfl | (apply propext;constructor;(rintro⟨f,e,h⟩;cases e;exact h);(intro h;exact⟨_,rfl,h⟩))
  rw[e];exact q
theorem NR(ha:PE X a ta):PE X (.UnaryOp .Not a pos) (QO ta):=by
 have g:PE X a (λZ H Q=>ta Z H λx H1=>isB x λc=>Q (.bl c) H1):=λEl s Z H Q I h=>zm (ha El s Z H _ I h) λv s1 ⟨x,H1,i,r1,j⟩=>by
  obtain⟨c,e,q⟩:=D9 j;subst e;exact⟨.bl c,H1,i,r1,q⟩
 have h:=bQ (pos:=pos) g
 exact h.imp λZ H Q q=>by
  show ta Z H λx H1=>isB x λc=>∃f,V.bl c=.bl f/\Q (.bl (!f)) H1
  have e:(λ(x:V) (H1:Hp)=>isB x λc=>∃f,V.bl c=.bl f/\Q (.bl (!f)) H1)=λx H1=>isB x λc=>Q (.bl (!c)) H1:=by
   funext x H1
   cases x <;> first | rfl | (apply propext;constructor;(rintro⟨f,e,h⟩;cases e;exact h);(intro h;exact⟨_,rfl,h⟩))
  rw[e];exact q
def SqA(K:W.Frag)(H:Hp)(p:Addr)(xs:List V):Prop:=zr K H p xs\/zj K H p xs
noncomputable def mIx(K:W.Frag):R2:=λx y H Q=>match x,y with
 | .ref p,.int i=>∃xs v,SqA K H p xs/\atI xs i=some v/\Q v H
 | .str z,.int i=>∃c,z.length<=sizeLine/\atI z.cps.toList i=some c/\Q (.str ⟨#[c]⟩) H
 | _,_=>False
theorem IxR.imp{G:R2}(h:IxR X r)(g:∀x y H Q,G x y H Q->r x y H Q):IxR X G:=λa b El s Z H x y v u Q I f i q z=>h a b El s Z H x y v u Q I f i (g _ _ _ _ q) z
theorem YM:IxR X (mIx X.K):=ix_seq.imp λx y H Q q=>by
 cases x <;> cases y <;> first
  | exact False.elim q
  | (obtain⟨xs,v,h | h,e,q⟩:=q
     ·exact .inl ⟨_,xs,_,v,rfl,rfl,h,e,q⟩
     ·exact .inr (.inl ⟨_,xs,_,v,rfl,rfl,h,e,q⟩))
  | (obtain⟨c,hz,e,q⟩:=q
     exact .inr (.inr ⟨_,_,c,rfl,rfl,hz,e,q⟩))
theorem XG(ha:PE X a ta)(z:PE X b tb)(hs:Kd b:=by intro _ _;rfl):PE X (.Subscript a b pos) (tOp (mIx X.K) ta tb):=TJ YM ha z hs
noncomputable def GW(K:W.Frag):List V->Hp->VK->Prop:=λxs H Q=>match xs with
 | [x]=>∃n,M1 K x H n/\Q (.int n) H
 | _=>False
theorem ao:CallR X (.builtin "len") (GW X.K):=call_len.imp λxs H Q q=>by
 match xs,q with
 | [x],⟨n,h,q⟩=>exact⟨x,n,rfl,h,q⟩
noncomputable def VS:List V->Hp->VK->Prop:=λxs H Q=>match xs with
 | [.int i]=>Q (.int (i.natAbs:Int)) H
 | _=>False
theorem EO:CallR X (.builtin "abs") VS:=call_abs.imp λxs H Q q=>by
 match xs,q with
 | [.int i],q =>
  refine⟨i,rfl,?_⟩;have e:(if i<0 then -i else i)=(i.natAbs:Int):=by split <;> lia
  rw[e];exact q
noncomputable def LG:List V->Hp->VK->Prop:=λxs H Q=>match xs with
 | [.int i,.int j]=>Q (.int (max i j)) H
 | _=>False
theorem aI(z:X.calm=true):CallR X (.builtin "max") LG:=(ba z).imp λxs H Q q=>by
 match xs,q with
 | [.int i,.int j],q =>
  refine⟨i,j,rfl,?_⟩;have e:(if j>i then j else i)=max i j:=by split <;> lia
  rw[e];exact q
noncomputable def Lj:List V->Hp->VK->Prop:=λxs H Q=>match xs with
 | [.int i,.int j]=>Q (.int (min i j)) H
 | _=>False
theorem Uq(z:X.calm=true):CallR X (.builtin "min") Lj:=(Yp z).imp λxs H Q q=>by
 match xs,q with
 | [.int i,.int j],q =>
  refine⟨i,j,rfl,?_⟩;have e:(if j<i then j else i)=min i j:=by split <;> lia
  rw[e];exact q
noncomputable def Lh:List V->Hp->VK->Prop:=λxs H Q=>match xs with
 | [.int i]=>Q (.int i) H
 | [.bl k]=>Q (.int (if k then 1 else 0)) H
 | _=>False
theorem Vd:CallR X (.type "int") Lh:=call_int1.imp λxs H Q q=>by
 match xs,q with
 | [.int i],q=>exact .inl ⟨i,rfl,q⟩
 | [.bl k],q=>exact .inr ⟨k,rfl,q⟩
noncomputable def GP(K:W.Frag):List V->Hp->VK->Prop:=λxs H Q=>match xs with
 | [.ref p]=>∃ys,(zr K H p ys/\∀l,H l=none->Q (.ref l) (upd H l (.tup ys)))\/(zj K H p ys/\Q (.ref p) H)
 | _=>False
theorem Z3:CallR X (.type "tuple") (GP X.K):=call_tuple_of.imp λxs H Q q=>by
 match xs,q with
 | [.ref p],⟨ys,q⟩=>exact⟨p,ys,rfl,q⟩
noncomputable def Oo(K:W.Frag):List V->Hp->VK->Prop:=λxs H Q=>match xs with
 | [.ref p]=>∃ys,SqA K H p ys/\∀l,H l=none->Q (.ref l) (upd H l (.lst ys))
 | _=>False
theorem WG:CallR X (.type "list") (Oo X.K):=call_list_of.imp λxs H Q q=>by
 match xs,q with
 | [.ref p],⟨ys,h,q⟩=>exact⟨p,ys,rfl,h,q⟩
def Rh(K:W.Frag)(T:String)(x:V)(H:Hp)(b:Bool):Prop:=match x with
 | .non=>b=(T == "NoneType")
 | .bl _=>b=(T == "bool" || T == "int")
 | .int _=>b=(T == "int")
 | .str _=>b=(T == "str")
 | .ref a=>(∃xs,(H a=some (.lst xs)\/∃o,H a=some (.frz o (.lst xs)))/\b=(T == "list"))\/(∃xs,H a=some (.tup xs)/\b=(T == "tuple"))\/((∃ze,H a=some (.dK ze))/\b=(T == "dict"))\/((∃ze,H a=some (.dT ze))/\b=(T == "dict"))
 | _=>False
noncomputable def kinds:List String:=["int","bool","str","tuple","list","dict"]
theorem bM(K:W.Frag):∀T∈kinds,PySem.W.kitOne K (.type "NoneType") (.type T)=some (T == "NoneType")/\PySem.W.kitOne K (.type "bool") (.type T)=some (T == "bool" || T == "int") /\
 PySem.W.kitOne K (.type "int") (.type T)=some (T == "int")/\PySem.W.kitOne K (.type "str") (.type T)=some (T == "str")/\PySem.W.kitOne K (.type "list") (.type T)=some (T == "list") /\
 PySem.W.kitOne K (.type "tuple") (.type T)=some (T == "tuple")/\PySem.W.kitOne K (.type "dict") (.type T)=some (T == "dict"):=by
 intro T h;unfold kinds at h
 rcases ZBI.mp h with rfl | h
 ·exact⟨rfl,rfl,rfl,rfl,rfl,rfl,rfl⟩
 rcases ZBI.mp h with rfl | h
 ·exact⟨rfl,rfl,rfl,rfl,rfl,rfl,rfl⟩
 rcases ZBI.mp h with rfl | h
 ·exact⟨rfl,rfl,rfl,rfl,rfl,rfl,rfl⟩
 rcases ZBI.mp h with rfl | h
 ·exact⟨rfl,rfl,rfl,rfl,rfl,rfl,rfl⟩
 rcases ZBI.mp h with rfl | h
 ·exact⟨rfl,rfl,rfl,rfl,rfl,rfl,rfl⟩
 rcases ZBI.mp h with rfl | h
 ·exact⟨rfl,rfl,rfl,rfl,rfl,rfl,rfl⟩
 ·exact absurd h (by simp)
theorem Wm{T:String}{k:Bool}(z:T∈kinds)(h:Rh K T v H k):∃ty,TyOf K H v ty/\PySem.W.kitOne K ty (.type T)=some k:=by
 obtain⟨i,j,l,m,f,n,g⟩:=bM K T z;cases v with
 | non=>cases (show k=_ from h);exact⟨_,.non,i⟩
 | bl _=>cases (show k=_ from h);exact⟨_,.bl _,j⟩
 | int _=>cases (show k=_ from h);exact⟨_,.int _,l⟩
 | str _=>cases (show k=_ from h);exact⟨_,.str _,m⟩
 | ref q =>
  rcases h with ⟨xs,h | ⟨o,h⟩,e⟩ | ⟨xs,h,e⟩ | ⟨⟨ze,h⟩,e⟩ | ⟨⟨ze,h⟩,e⟩
  ·subst e;exact⟨_,.lst h,f⟩
  ·subst e;exact⟨_,.frz h,f⟩
  ·subst e;exact⟨_,.tup h,n⟩
  ·subst e;exact⟨_,.dK h,g⟩
  ·subst e;exact⟨_,.dT h,g⟩
 | _=>exact False.elim h
noncomputable def US(K:W.Frag):List V->Hp->VK->Prop:=λxs H Q=>match xs with
 | [x,.ty T]=>T∈kinds/\∃k,Rh K T x H k/\Q (.bl k) H
 | _=>False
theorem Rl:CallR X (.builtin "isinstance") (US X.K):=by
 intro El s Z H xs us Q I r q
 match xs,q with
 | [x,.ty T],q =>
  obtain⟨g,k,h,q⟩:=q;obtain⟨u,l,rfl,i,f⟩:=Hm r;cases f;obtain⟨ty,h1,h2⟩:=Wm g h;exact ZY I i h1 h2 λj=>⟨.bl k,H,I.tok _,rfl,q⟩
end
noncomputable def Gp(scope sc:Scope):Bool :=
 decide (scope.kind=.function)&&decide (scope.names.map (·.1)).Nodup&&scope.names.all λy=>!(y.2==.free)||(sc.names.lookup y.1==some .cell||sc.names.lookup y.1==some .free)
theorem CompScope.of{scope sc:Scope}(h:Gp scope sc=true):CompScope scope sc:=by
 unfold Gp at h;rw[ZBb,ZBb]at h;obtain⟨⟨h1,h2⟩,f⟩:=h;refine⟨ZBY h1,ZBY h2,λy g hf=>?_⟩
 have:=ZCT.mp f y g
 rw[hf]at this
 rcases(Bool.or_eq_true _ _).mp this with z | z
 ·exact absurd z (by decide)
 ·rcases(Bool.or_eq_true _ _).mp z with z | z
  ·exact .inl (by simpa using z)
  ·exact .inr (by simpa using z)
section
variable {X:Cx}{tg iter elt:Expr}{ifs:List Expr}{scope:Scope}{pos:Pos}{N':List Str}{own:Nat}{ix:List Nat}{g:TG}{tc:TT}{te:TE}{wi:TI}
theorem frB{l:List Str}(h:(l.all λx=>scope.names.lookup x==some .free)=true):∀x∈l,scope.names.lookup x=some .free:=λx f=>by
 have:=ZCT.mp h x f
 simpa using this
theorem Af (U:X.calm=true) (hi:PI X tg iter wi) (S:Gp scope X.env.scope=true)
 (zk:N'.length=own+ix.length) (O:(N'.drop own).map some=ix.map (X.N[·]?)) (z:((N'.drop own).all λx=>scope.names.lookup x==some .free)=true)
 (hg:∀c,PG (X.comp scope N' c) tg g) (G:Df own g) (ht:∀c,PTs (X.comp scope N' c) ifs tc) (he:∀c,PE (X.comp scope N' c) elt te)
 (hs:∀x,foldedSetIterable iter X.env x=pure x:=by intro _;rfl):PE X (.ListComp elt [⟨tg,iter,ifs,0⟩] scope pos) (FJ wi own ix g tc te) :=
 Wu U hi (.of S) zk O (frB z) hg G ht he hs
theorem C6 {i:Nat} {y:Str} {py z:Pos} (hc:X.calm=true) (a0:X.N.Nodup) (U:X.N[i]?=some y) (hy:X.env.scope.names.lookup y=some .local) (hi:PI X tg iter wi) (S:Gp scope X.env.scope=true)
 (zk:N'.length=own+ix.length) (hN:(N'.drop own).map some=ix.map (X.N[·]?)) (G:((N'.drop own).all λx=>scope.names.lookup x==some .free)=true)
 (hg:∀c,PG (X.comp scope N' c) tg g) (O:Df own g) (ht:∀c,PTs (X.comp scope N' c) ifs tc) (he:∀c,PE (X.comp scope N' c) elt te)
 (a3:swapsWith (.ListComp elt [⟨tg,iter,ifs,0⟩] scope pos) (some (.Name y py)) z.line X.env=pure true)
 (hs:∀x,foldedSetIterable iter X.env x=pure x:=by intro _;rfl):PS X (.Assign [.Name y py] (.ListComp elt [⟨tg,iter,ifs,0⟩] scope pos) z) (Fn (FJ wi own ix g tc te) (AW i)) :=
 Vb hc a0 U hy hi (.of S) zk hN (frB G) hg O ht he a3 hs
noncomputable def Jp(K:W.Frag)(tl:TE):TI:=λZ H R=>tl Z H λx H1=>match x with
 | .ref a=>((∃xs,zr K H1 a xs)/\R (Itl K a) H1)\/((∃xs,zj K H1 a xs)/\R (Itt K a) H1)
 | _=>False
theorem XI{l:Expr}{tl:TE}(z:PE X l tl):PI X tg l (Jp X.K tl):=by
 intro El s Z H R I h;refine zm (z El s Z H _ I h) λv s1 ⟨x,H1,f,r1,j⟩=>?_
 cases x with
 | ref a =>
  cases r1
  rcases j with ⟨⟨xs,i⟩,q⟩ | ⟨⟨xs,i⟩,q⟩
  ·obtain⟨zc,k,p,hz⟩:=f.list i;refine wpAny_pyIter_list p.isList ?_;refine⟨s1.heap.objs.size,[s1.heap.objs.size],_,_,H1,rfl,f.kept (t':=s1.toks) λb o e=>ZBG _ e,XV a _,⟨_,ZBP _ rfl,rfl,rfl⟩,λb g=>?_,q⟩;have e:b=s1.heap.objs.size:=by simpa using g
   subst e;exact f.fpOk (ZBD _) (f.hok.fresh (ZBD _))
  ·obtain⟨zc,k,p,hz⟩:=f.tuple i;refine wpAny_pyIter_tuple (show s1.heap.IsTuple a zc.toArray from p) ?_;refine⟨s1.heap.objs.size,[s1.heap.objs.size],_,_,H1,rfl,f.kept (t':=s1.toks) λb o e=>ZBG _ e,aa a _,⟨_,ZBP _ rfl,rfl,rfl⟩,λb g=>?_,q⟩;have e:b=s1.heap.objs.size:=by simpa using g
   subst e;exact f.fpOk (ZBD _) (f.hok.fresh (ZBD _))
 | _=>exact False.elim j
noncomputable def Lm:D7:=λo i v H Q=>match o,i with
 | .ref p,.int k=>∃xs j,H p=some (.lst xs)/\ixN xs.length k=some j/\Q (upd H p (.lst (xs.set j v)))
 | _,_=>False
theorem DY:Fg X Lm:=by
 intro El s Z H o i v g f u Q I l k m h
 cases o <;> cases i <;> first
  | exact False.elim h
  | (obtain⟨xs,j,h1,h2,q⟩:=h
     exact X0 El s Z H _ _ v g f u Q I l k m ⟨_,xs,_,j,rfl,rfl,h1,h2,q⟩)
theorem Cc (Pv:Nat->List V->Hp->Prop) (h0:Pv 0 [] H) (U:∀i ys H,i<=xs.length->Pv i ys H->zr K H a xs) (hz:∀i ys H,i<xs.length->Pv i ys H->ys.length<sizeLine)
 (hs:∀i x ys H,xs[i]?=some x->Pv i ys H->g x σc H λz H2=>tc z H2 λb G=>if b=true then te z G λy O=>Pv (i+1) (ys++[y]) O else Pv (i+1) ys G)
 (hd:∀ys H,Pv xs.length ys H->∀p,H p=none->Q (.ref p) (upd H p (.lst ys))):C3 (Itl K a) g tc te σc Q H:=by
 refine⟨λi m ys H=>m=xs.length-i/\i<=xs.length/\Pv i ys H,⟨xs.length,by simp,ZBT _,h0⟩,?_⟩;rintro i m ys H ⟨rfl,hi,p⟩;have q:=U i ys H hi p
 by_cases zn:i<xs.length
 ·refine .inr ⟨⟨xs,xs[i],q,by simp[zn]⟩,hz i ys H zn p,Pv (i+1),λj H' f=>⟨xs.length-(i+1),by lia,rfl,zn,f⟩,λx H' y=>?_⟩;obtain⟨e,y⟩:=y;subst e;exact hs i x ys _ (y xs q) p
 ·have e:i=xs.length:=by lia
  subst e;exact .inl ⟨⟨xs,q,ZBD _⟩,hd ys H p⟩
theorem B6 (Pv:Nat->List V->Hp->Prop) (h0:Pv 0 [] H) (U:∀i ys H,i<=xs.length->Pv i ys H->zj K H a xs) (hz:∀i ys H,i<xs.length->Pv i ys H->ys.length<sizeLine)
 (hs:∀i x ys H,xs[i]?=some x->Pv i ys H->g x σc H λz H2=>tc z H2 λb G=>if b=true then te z G λy O=>Pv (i+1) (ys++[y]) O else Pv (i+1) ys G)
 (hd:∀ys H,Pv xs.length ys H->∀p,H p=none->Q (.ref p) (upd H p (.lst ys))):C3 (Itt K a) g tc te σc Q H:=by
 refine⟨λi m ys H=>m=xs.length-i/\i<=xs.length/\Pv i ys H,⟨xs.length,by simp,ZBT _,h0⟩,?_⟩;rintro i m ys H ⟨rfl,hi,p⟩;have q:=U i ys H hi p
 by_cases zn:i<xs.length
 ·refine .inr ⟨⟨xs,xs[i],q,by simp[zn]⟩,hz i ys H zn p,Pv (i+1),λj H' f=>⟨xs.length-(i+1),by lia,rfl,zn,f⟩,λx H' y=>?_⟩;obtain⟨e,y⟩:=y;subst e;exact hs i x ys _ (y xs q) p
 ·have e:i=xs.length:=by lia
  subst e;exact .inl ⟨⟨xs,q,ZBD _⟩,hd ys H p⟩
theorem CB {lo:Int} (Pv:Nat->List V->Hp->Prop) (h0:Pv 0 [] H) (hz:∀i ys H,i<n->Pv i ys H->ys.length<sizeLine)
 (hs:∀i ys H,i<n->Pv i ys H->g (.int (lo+i)) σc H λz H2=>tc z H2 λb G=>if b=true then te z G λy O=>Pv (i+1) (ys++[y]) O else Pv (i+1) ys G)
 (hd:∀ys H,Pv n ys H->∀p,H p=none->Q (.ref p) (upd H p (.lst ys))):C3 (Itr lo n) g tc te σc Q H:=by
 refine⟨λi m ys H=>m=n-i/\i<=n/\Pv i ys H,⟨n,by simp,ZBT _,h0⟩,?_⟩;rintro i m ys H ⟨rfl,hi,p⟩
 by_cases zn:i<n
 ·refine .inr ⟨zn,hz i ys H zn p,Pv (i+1),λj H' f=>⟨n-(i+1),by lia,rfl,zn,f⟩,λx H' y=>?_⟩;obtain⟨e,y⟩:=y;subst e y;exact hs i ys _ zn p
 ·have e:i=n:=by lia
  subst e;exact .inl ⟨ZBD _,hd ys H p⟩
noncomputable def M9(c:TT)(tb:TS):TS:=λD Z H=>∃W:Nat->St->Hp->Prop,(∃m,W m Z H)/\∀m Z H,W m Z H ->
 c Z H λb H1=>if b=true then tb { D with nx:=λf H'=>∃g,g<m/\W g f H',ct:=λf H'=>∃g,g<m/\W g f H',bk:=D.nx } Z H1 else D.nx Z H1
theorem HY{c:Expr}{body:List Stmt}{tc:TT}{tb:TS}(z:PassesOwn (model X.prog X.w) X.A X.env X.xe)(O:PT X c tc)(G:PSs X body tb):PS X (.While c body [] pos) (M9 tc tb):=by
 intro El s Z H D I h;obtain⟨W,⟨m0,x⟩,turn⟩:=h;refine wpAny_While (codeAny_whileLoop (λn s'=>∃j H',zd X El j H' s'/\W n j H') ?_ m0 ⟨Z,H,I,x⟩);rintro n s1 ⟨g,H1,u,y⟩;refine wpAny_passesOwn z (zm (O El s1 g H1 _ u (turn n g H1 y)) λb s2 ⟨H2,t,k⟩=>?_);cases b with
 | true =>
  rw[if_pos rfl]at k;rw[if_pos rfl];refine wpAny_passesOwn z (zm (G El s2 g H2 _ t k) λf s3 l=>?_);cases f with
  | next =>
   obtain⟨i,m,o,p,hm,r⟩:=l;exact⟨p,hm,i,m,o,r⟩
  | cont =>
   obtain⟨i,m,o,p,hm,r⟩:=l;exact⟨p,hm,i,m,o,r⟩
  | brk=>exact l
  | ret v=>exact l
 | false =>
  rw[if_neg ZBz]at k;rw[if_neg ZBz];exact wpAny_execs_nil ⟨g,H2,t,k⟩
end
theorem AS{k:Nat}(hr:Room k A):A.units+60<cLine:=by have:=hr.un;lia
def zp(t:Addr)(H H':Hp):Prop:=∀b o,b≠t->H b=some o->H' b=some o
theorem zp.refl:zp t H H:=λ_ _ _ h=>h
theorem zp.trans{H1 H2:Hp}(a:zp t H H1)(b:zp t H1 H2):zp t H H2:=λc o n h=>b c o n (a c o n h)
theorem zp.upd(h:H p=none):zp t H (upd H p o):=λb u _ e=>by rw[AR (By e h)];exact e
theorem zp.updT:zp t H (L2.upd H t o):=λb u n e=>by rw[AR n];exact e
theorem EE.upd(h:H p=none):EE H (L2.upd H p o):=λb u e=>by rw[AR (By e h)];exact e
theorem EE.frm(h:EE H H'):zp t H H':=λb o _ e=>h b o e
theorem JY(h:zr K H a xs)(k:∀o,H a=some o->H' a=some o):zr K H' a xs:=by
 rcases h with (h | ⟨o,h⟩) | h
 ·exact .inl (.inl (k _ h))
 ·exact .inl (.inr ⟨o,k _ h⟩)
 ·exact .inr h
theorem II(h:zj K H a xs)(k:∀o,H a=some o->H' a=some o):zj K H' a xs:=by
 rcases h with (h | ⟨o,h⟩) | h
 ·exact .inl (.inl (k _ h))
 ·exact .inl (.inr ⟨o,k _ h⟩)
 ·exact .inr h
noncomputable def ScrAt(K:W.Frag)(H:Hp)(t a:Addr)(ns:List Int):Prop :=
 (Rd H a (.lst (ns.map V.int))/\a≠t)\/∃(o:Obj) (zc:Array Value) (n:Nat),K.lookup a=some o/\o.cls=.type "list" /\ o.dict=none/\o.data=.seq zc n/\zc.size<=sizeLine/\zh (ns.map V.int) zc.toList
theorem ScrAt.sq(h:ScrAt K H t a ns):zr K H a (ns.map V.int):=by
 rcases h with ⟨h,_⟩ | h
 ·exact .inl h
 ·exact .inr h
theorem ScrAt.stay(h:ScrAt K H t a ns)(k:∀o,a≠t->H a=some o->H' a=some o):ScrAt K H' t a ns:=by
 rcases h with ⟨h | ⟨o,h⟩,n⟩ | h
 ·exact .inl ⟨.inl (k _ n h),n⟩
 ·exact .inl ⟨.inr ⟨o,k _ n h⟩,n⟩
 ·exact .inr h
theorem ScrAt.of(h:zr K H a (ns.map V.int))(z:H t=none):ScrAt K H t a ns:=by
 rcases h with h | h
 ·refine .inl ⟨h,λe=>?_⟩;subst e
  rcases h with h | ⟨o,h⟩ <;> rw[z]at h <;> cases h
 ·exact .inr h
structure Tape(K:W.Frag)(H:Hp)(t a:Addr)(ns:List Int):Prop where
 at_:∃i r c:Int,0<=i/\0<=r/\H t=some (.lst [.ref a,.int i,.int r,.int c])
 scr:ScrAt K H t a ns
theorem Tape.same(T:Tape K H t a ns)(h:EE H H'):Tape K H' t a ns:=by
 obtain⟨i,r,c,h1,h2,f⟩:=T.at_;exact⟨⟨i,r,c,h1,h2,h _ _ f⟩,T.scr.stay λo _ e=>h a o e⟩
theorem Tape.upd(T:Tape K H t a ns)(h:H p=none):Tape K (L2.upd H p o) t a ns:=T.same (EE.upd h)
theorem Tape.free(T:Tape K H' t a ns)(h:zp t H H')(z:H' p=none):H p=none:=by
 cases e:H p with
 | none=>rfl
 | some o =>
  by_cases f:p=t
  ·subst f;obtain⟨i,r,c,_,_,g⟩:=T.at_;rw[g]at z;cases z
  ·rw[h p o f e]at z;cases z
theorem Tape.neT(T:Tape K H t a ns)(z:H p=none):p≠t:=λe=>by
 obtain⟨i,r,c,_,_,f⟩:=T.at_;rw[e,f]at z;cases z
def Fv(K:W.Frag):Sp:=λvs H Q _=>match vs with
 | [.ref t,.int m]=>∃a ns,Tape K H t a ns/\okDiv m/\∀d H',0<=d->d<m->Tape K H' t a ns->(∀b,b≠t->H' b=H b)->Q (.int d) H'
 | _=>False
def Mf(K:W.Frag):Sp:=λvs H Q _=>match vs with
 | [.ref a]=>∀p,H p=none->Q (.ref p) (upd H p (.lst [.ref a,.int 0,.int 0,.int 0]))
 | _=>False
theorem Ak{i:Int}(h:i=(n:Int))(z:xs[n]?=some v):atI xs i=some v:=by
 subst h;have hn:n<xs.length:=(ZBW.mp z).1;unfold atI ixN;rw[if_pos (ZDA n),if_pos (by lia)];simpa using z
theorem PD{i:Int}(h0:0<=i)(h1:i<ns.length):∃z,atI (ns.map V.int) i=some (.int z):=by
 obtain⟨n,rfl⟩:=ZC2 h0;have hn:n<ns.length:=by lia
 exact⟨ns[n],Ak rfl (by rw[ZBJ,ZBE hn];rfl)⟩
theorem SX(h:H p=none)(hs:zr K H a (ns.map V.int)):Tape K (L2.upd H p (.lst [.ref a,.int 0,.int 0,.int 0])) p a ns :=
 ⟨⟨0,0,0,Int.le_refl _,Int.le_refl _,AF⟩,(ScrAt.of hs h).stay λo n e=>by rw[AR n];exact e⟩
theorem BZ{j:Int}(h1:0<j)(h2:j<=2^1000):okDiv j:=⟨h1,ZDO h2 (by decide)⟩
theorem EN(h:n<=1000):n<=sizeLine:=ZBy (AX h)
theorem smq(h:Nat.ble n 1000=true):n<=sizeLine:=EN (Nat.le_of_ble_eq_true h)
def Ck(t:TT):Prop:=∀Z H (Q f:Bool->Hp->Prop),(∀b H,Q b H->f b H)->t Z H Q->t Z H f
def CI(t:TA):Prop:=∀Z H (Q f:List V->Hp->Prop),(∀b H,Q b H->f b H)->t Z H Q->t Z H f
def CS(r:R2):Prop:=∀x y H (Q f:VK),(∀v H,Q v H->f v H)->r x y H Q->r x y H f
def DX(r:List V->Hp->VK->Prop):Prop:=∀xs H (Q f:VK),(∀v H,Q v H->f v H)->r xs H Q->r xs H f
def QZ(r:V->List V->Hp->VK->Prop):Prop:=∀x xs H (Q f:VK),(∀v H,Q v H->f v H)->r x xs H Q->r x xs H f
def AT(sp:Sp):Prop:=∀vs H (Q f:VK) E,(∀v H,Q v H->f v H)->sp vs H Q E->sp vs H f E
def EG(t:TI):Prop:=∀Z H (Q f:It->Hp->Prop),(∀J H,Q J H->f J H)->t Z H Q->t Z H f
def Iy(t:D7):Prop:=∀o i v H (Q f:Hp->Prop),(∀H,Q H->f H)->t o i v H Q->t o i v H f
structure Ends.le(D D':Ends):Prop where
 nx:∀Z H,D.nx Z H->D'.nx Z H
 rt:∀v H,D.rt v H->D'.rt v H
 bk:∀Z H,D.bk Z H->D'.bk Z H
 ct:∀Z H,D.ct Z H->D'.ct Z H
def Bk(t:TS):Prop:=∀D D' Z H,Ends.le D D'->t D Z H->t D' Z H
theorem ZJ:Ap (HQ i):=λZ H Q f h q=>by
 unfold HQ at *;split at q
 ·exact h _ _ q
 ·exact q.elim
theorem U5:Ap (tC v):=λ_ _ _ _ h q=>h _ _ q
theorem W7{ta tb:TE}(hr:CS r)(ha:Ap ta)(z:Ap tb):Ap (tOp r ta tb):=λZ H Q f h q=>ha _ _ _ _ (λ_ _ q=>z _ _ _ _ (λ_ _ q=>hr _ _ _ _ _ h q) q) q
theorem Ub{K}:CS (D4 K):=λx y H Q n h q=>by
 unfold D4 at *;split at q
 ·exact h _ _ q
 ·exact⟨q.1,h _ _ q.2⟩
 ·rcases q with ⟨l,b,xs,zs,f,e2,h1,h2,g,q⟩ | ⟨a,b,xs,ys,f,e2,h1,h2,g,j,k,m⟩
  ·exact .inl ⟨l,b,xs,zs,f,e2,h1,h2,g,λp i=>h _ _ (q p i)⟩
  ·exact .inr ⟨a,b,xs,ys,f,e2,h1,h2,g,j,λe=>h _ _ (k e),λe p i=>h _ _ (m e p i)⟩
 ·exact q.elim
theorem bn:CS IX:=λx y H Q m h q=>by
 unfold IX at *;split at q
 ·exact⟨q.1,h _ _ q.2⟩
 ·obtain⟨l,k,xs,f,e2,h1,h2,g,i,q⟩:=q;exact⟨l,k,xs,f,e2,h1,h2,g,i,λp j=>h _ _ (q p j)⟩
 ·exact q.elim
theorem aX:CS JL:=λx y H Q f h q=>by unfold JL at *;split at q <;> first | exact⟨q.1,h _ _ q.2⟩ | exact q.elim
theorem Wl:CS Jy:=λx y H Q f h q=>by unfold Jy at *;split at q <;> first | exact⟨q.1,h _ _ q.2⟩ | exact q.elim
theorem SA:CS Ma:=λx y H Q f h q=>by unfold Ma at *;split at q <;> first | exact⟨q.1,h _ _ q.2⟩ | exact q.elim
theorem W6{p}:CS (GA p):=λx y H Q f h q=>by unfold GA at *;split at q <;> first | exact h _ _ q | exact q.elim
theorem ah{n K}:CS (mEq n K):=λx y H Q g h q=>by
 unfold mEq at *;split at q <;> first | exact h _ _ q | (obtain⟨d,e,h1,h2,f,q⟩:=q;exact⟨d,e,h1,h2,f,h _ _ q⟩)
theorem Yc{K}:CS (mIx K):=λx y H Q f h q=>by
 unfold mIx at *;split at q
 ·obtain⟨xs,v,h1,h2,q⟩:=q;exact⟨xs,v,h1,h2,h _ _ q⟩
 ·obtain⟨c,h1,h2,q⟩:=q;exact⟨c,h1,h2,h _ _ q⟩
 ·exact q.elim
theorem N1{Q z:Bool->Prop}(h:∀b,Q b->z b)(q:isB v Q):isB v z:=by
 cases v <;> first | exact h _ q | exact q
theorem T7{t:TE}(h:Ap t):Ck (uB t):=λZ H Q f k q=>h _ _ _ _ (λ_ _ q=>N1 (λb q=>k b _ q) q) q
theorem Sh{ta:TE}(ha:Ap ta):Ap (QO ta):=λZ H Q f h q=>ha _ _ _ _ (λ_ _ q=>N1 (λb q=>h _ _ q) q) q
theorem ZH{t:TT}{ta tb:TE}(G:Ck t)(ha:Ap ta)(z:Ap tb):Ap (tIf t ta tb):=λZ H Q f h q=>G _ _ _ _ (λb _ q=>by
 cases b with
 | true=>exact ha _ _ _ _ h q
 | false=>exact z _ _ _ _ h q) q
theorem TM{t u:TT}(z:Ck t)(hu:Ck u):Ck (Ng t u):=λZ H Q f h q=>z _ _ _ _ (λb _ q=>by
 cases b with
 | true=>exact hu _ _ _ _ h q
 | false=>exact h _ _ q) q
theorem X2{t u:TT}(z:Ck t)(hu:Ck u):Ck (tOr t u):=λZ H Q f h q=>z _ _ _ _ (λb _ q=>by
 cases b with
 | true=>exact h _ _ q
 | false=>exact hu _ _ _ _ h q) q
theorem Sg{t:TT}(z:Ck t):Ck (QA t):=λZ H Q f h q=>z _ _ _ _ (λb _ q=>h _ _ q) q
theorem TU:CI La:=λ_ _ _ _ h q=>h _ _ q
theorem Z4{ta:TE}{t:TA}(ha:Ap ta)(z:CI t):CI (Oi ta t):=λZ H Q f h q=>ha _ _ _ _ (λ_ _ q=>z _ _ _ _ (λ_ _ q=>h _ _ q) q) q
theorem XR{r}{t:TA}(hr:DX r)(z:CI t):Ap (tCB r t):=λZ H Q f h q=>z _ _ _ _ (λ_ _ q=>hr _ _ _ _ h q) q
theorem U6{sp dvs E}{t:TA}(hs:AT sp)(z:CI t):Ap (QP sp dvs E t):=λZ H Q f h q=>z _ _ _ _ (λ_ _ q=>hs _ _ _ _ _ h q) q
theorem YF{t:TA}(z:CI t):Ap (NN t):=λZ H Q g h q=>z _ _ _ _ (λ_ _ q=>⟨q.1,λp f=>h _ _ (q.2 p f)⟩) q
theorem YS{t:TA}(z:CI t):Ap (Ox t):=λZ H Q g h q=>z _ _ _ _ (λ_ _ q=>⟨q.1,λp f=>h _ _ (q.2 p f)⟩) q
theorem VT{wi own ix g tc te}(hi:EG wi):Ap (FJ wi own ix g tc te):=λZ H Q k h q=>hi _ _ _ _ (λJ H1 q=>by
 obtain⟨W,j,turn⟩:=q;refine⟨W,j,λi m ys H w=>?_⟩
 rcases turn i m ys H w with ⟨a,b⟩ | r
 ·exact .inl ⟨a,λp f=>h _ _ (b p f)⟩
 ·exact .inr r) q
theorem ZW{K}:DX (GW K):=λxs H Q f h q=>by unfold GW at *;split at q <;> first | (obtain⟨n,a,q⟩:=q;exact⟨n,a,h _ _ q⟩) | exact q.elim
theorem W0:DX LG:=λxs H Q f h q=>by unfold LG at *;split at q <;> first | exact h _ _ q | exact q.elim
theorem Zc:DX Lj:=λxs H Q f h q=>by unfold Lj at *;split at q <;> first | exact h _ _ q | exact q.elim
theorem Zp:DX Lh:=λxs H Q f h q=>by unfold Lh at *;split at q <;> first | exact h _ _ q | exact q.elim
theorem Us{K}:DX (GP K):=λxs H Q g h q=>by
 unfold GP at *;split at q
 ·obtain⟨ys,⟨a,q⟩ | ⟨a,q⟩⟩:=q
  ·exact⟨ys,.inl ⟨a,λl f=>h _ _ (q l f)⟩⟩
  ·exact⟨ys,.inr ⟨a,h _ _ q⟩⟩
 ·exact q.elim
theorem We{K}{tl:TE}(h:Ap tl):EG (Jp K tl):=λZ H Q f k q=>h _ _ _ _ (λv H1 q=>by
 cases v <;> first | exact q.elim | (rcases q with ⟨a,q⟩ | ⟨a,q⟩
                                     ·exact .inl ⟨a,k _ _ q⟩
                                     ·exact .inr ⟨a,k _ _ q⟩)) q
theorem Tl(h:CI ta):EG (NW ta):=λZ H Q f k q=>h _ _ _ _ (λ_ _ ⟨j,e,a,b,q⟩=>⟨j,e,a,b,k _ _ q⟩) q
theorem Zi(h:CI ta):EG (QW ta):=λZ H Q f k q=>h _ _ _ _ (λ_ _ ⟨i,j,e,a,q⟩=>⟨i,j,e,a,k _ _ q⟩) q
theorem ZR:Iy Lm:=λo i v H Q f h q=>by
 unfold Lm at *;split at q
 ·obtain⟨xs,j,a,b,q⟩:=q;exact⟨xs,j,a,b,h _ q⟩
 ·exact q.elim
theorem Xy{to z:TE}{t:D7}(h1:Ap to)(h2:Ap z)(G:Iy t):Eh (NE to z t):=λv Z H Q f h q=>h1 _ _ _ _ (λ_ _ q=>h2 _ _ _ _ (λ_ _ q=>G _ _ _ _ _ _ (λH q=>h _ _ q) q) q) q
theorem bN:Bk EH:=λD D' Z H h q=>h.nx _ _ q
theorem WZ:Bk OW:=λD D' Z H h q=>q
theorem WE{t u:TS}(h1:Bk t)(h2:Bk u):Bk (Mj t u):=λD D' Z H h q=>h1 { D with nx:=u D } { D' with nx:=u D' } Z H ⟨λZ H q=>h2 D D' Z H h q,h.rt,h.bk,h.ct⟩ q
theorem Xg{g:TG}(h1:Ap te)(h2:Eh g):Bk (Fn te g):=λD D' Z H h q=>h1 _ _ _ _ (λ_ _ q=>h2 _ _ _ _ _ h.nx q) q
theorem SH(h1:Ap te):Bk (NC te):=λD D' Z H h q=>h1 _ _ _ _ h.rt q
theorem a9(h1:Ap te):Bk (OR te):=λD D' Z H h q=>h1 _ _ _ _ (λ_ _ q=>h.nx _ _ q) q
theorem UB{c:TT}{t u:TS}(z:Ck c)(h1:Bk t)(h2:Bk u):Bk (HC c t u):=λD D' Z H h q=>z _ _ _ _ (λb _ q=>by
 cases b with
 | true=>exact h1 _ _ _ _ h q
 | false=>exact h2 _ _ _ _ h q) q
theorem Vq{c:TT}{tb:TS}(z:Ck c)(h1:Bk tb):Bk (M9 c tb):=λD D' Z H h q=>by
 obtain⟨W,i,turn⟩:=q;refine⟨W,i,λm Z H w=>z _ _ _ _ (λb H1 q=>?_) (turn m Z H w)⟩;cases b with
 | true=>exact h1 { D with nx:=λf H'=>∃g,g<m/\W g f H',ct:=λf H'=>∃g,g<m/\W g f H',bk:=D.nx } _ _ _ ⟨λ_ _ q=>q,h.rt,h.nx,λ_ _ q=>q⟩ q
 | false=>exact h.nx _ _ q
theorem Uj{wi:TI}{g:TG}{tb:TS}(hi:EG wi)(z:Eh g)(h1:Bk tb):Bk (RV wi g tb):=λD D' Z H h q=>hi _ _ _ _ (λJ H1 q=>by
 obtain⟨W,j,turn⟩:=q;refine⟨W,j,λi m Z H w=>?_⟩
 rcases turn i m Z H w with ⟨a,b⟩ | ⟨a,N,f,step⟩
 ·exact .inl ⟨a,h.nx _ _ b⟩
 ·exact .inr ⟨a,N,f,λx H' y=>z _ _ _ _ _ (λk H2 q=>h1 { D with nx:=N,ct:=N,bk:=D.nx } _ _ _ ⟨λ_ _ q=>q,h.rt,h.nx,λ_ _ q=>q⟩ q) (step x H' y)⟩) q
theorem As{t u:TS}{D:Ends}(J:St->Hp->Prop)(h1:t { D with nx:=J } Z H)(h2:∀z H',J z H'->u D z H')(hm:Bk t):Mj t u D Z H :=
 hm { D with nx:=J } { D with nx:=u D } Z H ⟨h2,λ_ _ q=>q,λ_ _ q=>q,λ_ _ q=>q⟩ h1
theorem bq{K}:AT (Fv K):=λvs H Q j E h q=>by
 unfold Fv at *;split at q
 ·obtain⟨a,ns,x,y,q⟩:=q;exact⟨a,ns,x,y,λd H' f e2 g i=>h _ _ (q d H' f e2 g i)⟩
 ·exact q.elim
section
variable {X:Cx}{K:W.Frag}{a b c e l tg:Expr}{es:List Expr}{ta tb tc te tl:TE}{pos p:Pos}
theorem Bm(z:X.K=K:=by rfl):zv X (binaryOp .Add) (D4 K):=z▸Wt
theorem kEq(hu:X.A.units+60<cLine)(z:X.K=K:=by rfl):zv X (compareOp .Eq) (mEq false K):=z▸ZO hu
theorem kNe(hu:X.A.units+60<cLine)(z:X.K=K:=by rfl):zv X (compareOp .NotEq) (mEq true K):=z▸VG hu
theorem zq(ha:PE X a ta)(G:PE X b tb)(hs:Kd b:=by intro _ _;rfl)(z:X.K=K:=by rfl):PE X (.Subscript a b pos) (tOp (mIx K) ta tb):=z▸XG ha G hs
theorem BO(z:X.K=K:=by rfl):CallR X (.builtin "len") (GW K):=z▸ao
theorem B9(z:X.K=K:=by rfl):CallR X (.type "tuple") (GP K):=z▸Z3
theorem Ya(z:X.K=K:=by rfl):CallR X (.type "list") (Oo K):=z▸WG
theorem Au(G:PE X l tl)(z:X.K=K:=by rfl):PI X tg l (Jp K tl):=z▸XI G
theorem Bh {k:Nat} {t:TGs} (O:X.calm=true) (h:PGs X es t)
 (hn:(assignEach es X.env).length=n:=by rfl) (z:(assignEach es X.env).findIdx? (·.1)=none:=by rfl) (G:X.K=K:=by rfl):PG X (.Tuple es k pos) (Kk K n t):=G▸Rk O h hn z
end
noncomputable def Itz(K:W.Frag)(l1 l2:Addr):It :=
 ⟨λi H=>∃xs ys x y,zr K H l1 xs/\zr K H l2 ys/\xs[i]?=some x/\ys[i]?=some y,
  λi H v H'=>∃p x y,H p=none/\v=.ref p/\H'=upd H p (.tup [x,y])/\(∀xs,zr K H l1 xs->xs[i]?=some x)/\(∀ys,zr K H l2 ys->ys[i]?=some y),
  λi H=>∃xs ys,zr K H l1 xs/\zr K H l2 ys/\(xs.length<=i\/ys.length<=i)⟩
theorem zd.turnedNew {El:List (Addr×Obj)} {h':Heap} {ch:List Addr} {T:Addr} (I:zd X El Z H s) (hf:∀b∈ch,BD X El H b) (G:s.heap.objs.size<=T)
 (k:∀b u,b∉ch->s.heap.get? b=some u->h'.get? b=some u) (new:ObjOk X.prog X.w (upd H T o) h' T o) (th:∀b∈ch,∃u,h'.get? b=some u):zd X El Z (upd H T o) { s with heap:=h' }:=by
 have j:H T=none:=I.hok.fresh G;have g:∀b u,H b=some u->b≠T:=λb u e z=>by rw[z,j]at e;cases e
 have l:∀b u,H b=some u->b∉ch:=λb u e z=>by rw[(hf b z).1]at e;cases e
 refine I.step (g':=s.gens) (d':=s.drawn) (t':=s.toks) (ch:=ch) (λb i=>?_) (λb u _ _ f e _=>k b u f e) (λb u _ _ f e _=>⟨u.slots,k b u f e⟩) (λb u f e n=>?_) (λb u f e=>⟨u,k b u f e⟩)
  (λb xs e=>by rw[AR (g _ _ e)];exact e) (λb u v e=>by rw[AR (g _ _ e)];exact e) (λb ps e=>⟨#[],by rw[AR (g _ _ e),e];simp⟩) (λm hm=>?_) (λb u e=>?_) I.bare
 ·obtain⟨D,x,J,y,B,C⟩:=hf b i;exact⟨y,x,B,C⟩
 ·rw[AR (ZBR (ZBZ (ZBF e) G))];exact n
 ·obtain⟨u,es,p,t,r⟩:=hm;exact⟨u,es,p,k _ u (λz=>(hf _ z).2.1 rfl) t,r⟩
 ·by_cases i:b=T
  ·subst i;rw[AF]at e;cases e;exact new
  ·rw[AR i]at e;refine(I.hok b u e).stay (λc v f q=>k c v ?_ q) (λc q=>by rw[AR (g _ _ q)];exact q) λc xs q=>by rw[AR (g _ _ q)];exact q
   rcases f with z | z
   ·rw[z];exact l b u e
   ·exact l c _ z
theorem Yb{z TI TO i1 i2 l1 l2:Addr}(D:ZipApart z TI TO i1 i2 l1 l2) :
 Turn P w K (.Tuple es kt tpos) (Itz K l1 l2) [z,TI,TO,i1,i2] z (λi h=>IsZip h z TI TO .none/\IsPair h TI (.ref i1) (.ref i2)/\(∃a b,IsPair h TO a b)/\h.IsListIter i1 l1 i/\h.IsListIter i2 l2 i) where
 mem:=by simp
 obj:=λi h st b f=>by
  obtain⟨hz,g,⟨a,c,j⟩,⟨o1,e1,c1,d1⟩,⟨o2,e2,c2,d2⟩⟩:=st;simp only[ZBI,ZBk,or_false]at f
  rcases f with rfl | rfl | rfl | rfl | rfl
  ·exact⟨_,hz,λv q=>nomatch q⟩
  ·exact⟨_,g,λv q=>nomatch q⟩
  ·exact⟨_,j,λv q=>nomatch q⟩
  ·exact⟨o1,e1,λv q=>by rw[d1]at q;cases q⟩
  ·exact⟨o2,e2,λv q=>by rw[d2]at q;cases q⟩
 keep:=λi h h' ⟨hz,g,⟨a,c,j⟩,h1,h2⟩ k =>
  ⟨k z (by simp) _ hz,k TI (by simp) _ g,⟨a,c,k TO (by simp) _ j⟩,h1.at λo e=>k i1 (by simp) o e,h2.at λo e=>k i2 (by simp) o e⟩
 item:=by
  intro X S hw R t i El s Z H E I hf st T;subst S hw R;obtain⟨xs,ys,x,y,C,G,hx,hy⟩:=T;obtain⟨hz,g,⟨a,c,j⟩,h1,h2⟩:=st;obtain⟨zc,Y,p,_⟩:=I.list C;obtain⟨N,J,p2,_⟩:=I.list G;obtain⟨u,hu,ru⟩:=Y.get hx;obtain⟨u2,V,W⟩:=J.get hy;refine wpAny_pyNext_zip_item D hz g j h1 h2 p.isList p2.isList (x:=u) (y:=u2) (by simpa using hu) (by simpa using V) λh' z1 z2 z3 z4 z5 z6 O=>?_
  refine⟨_,rfl,?_⟩
  have l:∀b v,b∉[z,TO,i1,i2]->s.heap.get? b=some v->h'.get? b=some v:=λb v f e=>by
   simp only[ZBI,ZBk,or_false,not_or]at f;exact O b v f.1 f.2.1 f.2.2.1 f.2.2.2 e
  have I1:zd X El Z (upd H s.heap.objs.size (.tup [x,y])) { s with heap:=h' }:=by
   refine I.turnedNew (ch:=[z,TO,i1,i2]) (λb f=>hf b ?_) (ZBD _) l ?_ λb f=>?_
   ·simp only[ZBI,ZBk,or_false]at f ⊢
    rcases f with h | h | h | h <;> simp[h]
   ·exact⟨smq rfl,[u,u2],.cons ru (.cons W .nil),⟨_,z5,rfl,⟨_,rfl⟩,rfl⟩⟩
   ·simp only[ZBI,ZBk,or_false]at f
    rcases f with rfl | rfl | rfl | rfl
    ·exact⟨_,z1⟩
    ·exact⟨_,z2⟩
    ·obtain⟨o,e,_⟩:=z3;exact⟨o,e⟩
    ·obtain⟨o,e,_⟩:=z4;exact⟨o,e⟩
  refine wpAny_letOwnedTupleGo_zip (s:={ s with heap:=h' }) z1 λL z8 z9=>?_
  have B:=hf z (by simp)
  have neT:∀b,b∈[z,TI,TO,i1,i2]->b≠s.heap.objs.size:=λb f e=>by
   have a0:∃o,s.heap.get? b=some o:=by
    simp only[ZBI,ZBk,or_false]at f
    rcases f with rfl | rfl | rfl | rfl | rfl
    ·exact⟨_,hz⟩
    ·exact⟨_,g⟩
    ·exact⟨_,j⟩
    ·obtain⟨o,e,_⟩:=h1;exact⟨o,e⟩
    ·obtain⟨o,e,_⟩:=h2;exact⟨o,e⟩
   obtain⟨o,U⟩:=a0
   have:=ZBF U
   rw[e]at this;exact ZBa _ this
  have M:∀b∈[z,TI,TO,i1,i2],upd H s.heap.objs.size (.tup [x,y]) b=none:=λb f=>by rw[AR (neT b f)];exact(hf b f).1
  have I2:zd X El Z (upd H s.heap.objs.size (.tup [x,y])) { s with heap:=L } :=
   I1.turned (t':=s.toks) (λb o f e=>(z9.2 b f).trans e) (M z (by simp)) B.2.1 B.2.2.2.1 B.2.2.2.2.1 B.2.2.2.2.2
  have up:∀b o,b≠z->h'.get? b=some o->L.get? b=some o:=λb o f e=>(z9.2 b f).trans e
  refine⟨.ref s.heap.objs.size,_,I2,rfl,⟨_,x,y,I.hok.fresh (ZBD _),rfl,rfl,λa3 h=>by rw[I.list_inj h C];exact hx,λa4 h=>by rw[I.list_inj h G];exact hy⟩,⟨z8,?_,⟨u,u2,up _ _ D.TOz z2⟩,z3.at λo e=>up _ o D.i1z e,z4.at λo e=>up _ o D.i2z e⟩,M⟩;exact up _ _ D.TIz (O _ _ D.TIz D.TITO D.TIi1 D.TIi2 g)
 done:=by
  intro X S hw R t i El s Z H E I hf st T;subst S hw R;obtain⟨xs,ys,C,G,hl⟩:=T;obtain⟨hz,g,⟨a,c,j⟩,h1,h2⟩:=st;obtain⟨zc,Y,p,_⟩:=I.list C;obtain⟨N,J,p2,_⟩:=I.list G;have e1:=Y.length;have e2:=J.length
  refine wpAny_pyNext_zip_end (I.ok.hd t) D hz g j h1 h2 p.isList p2.isList (by
   rcases hl with h | h
   ·exact .inl (by simp;lia)
   ·exact .inr (by simp;lia)) λh' O=>⟨rfl,?_⟩
  have nc:∀b u,H b=some u->b∉[z,TO,i1,i2]:=λb u e q=>by
   have:b∈[z,TI,TO,i1,i2]:=by
    simp only[ZBI,ZBk,or_false]at q ⊢
    rcases q with h | h | h | h <;> simp[h]
   rw[(hf b this).1]at e;cases e
  have l:∀b v,b∉[z,TO,i1,i2]->s.heap.get? b=some v->h'.get? b=some v:=λb v f e=>by
   simp only[ZBI,ZBk,or_false,not_or]at f;exact O b v f.1 f.2.1 f.2.2.1 f.2.2.2 e
  refine I.step (g':=s.gens) (d':=s.drawn) (t':=s.toks) (ch:=[z,TO,i1,i2]) (λb f=>?_) (λb u _ _ t e _=>l b u t e) (λb u _ _ t e _=>⟨u.slots,l b u t e⟩) (λb u t e n=>n) (λb u t e=>⟨u,l b u t e⟩)
   (λ_ _ e=>e) (λ_ _ _ e=>e) (λb ps e=>⟨#[],by rw[e];simp⟩) (λm hm=>?_) (λb u e=>?_) I.bare
  ·have:b∈[z,TI,TO,i1,i2]:=by
    simp only[ZBI,ZBk,or_false]at f ⊢
    rcases f with h | h | h | h <;> simp[h]
   obtain⟨q1,q2,q3,q4,q5,q6⟩:=hf b this;exact⟨q4,q2,q5,q6⟩
  ·obtain⟨u,es,ep,U,r⟩:=hm;refine⟨u,es,ep,l _ u (λq=>?_) U,r⟩
   have:X.env.locals∈[z,TI,TO,i1,i2]:=by
    simp only[ZBI,ZBk,or_false]at q ⊢
    rcases q with h | h | h | h <;> simp[h]
   exact(hf _ this).2.1 rfl
  ·refine(I.hok b u e).stay (λc v t q=>l c v ?_ q) (λ_ q=>q) λ_ _ q=>q
   rcases t with h | h
   ·rw[h];exact nc b u e
   ·exact nc c _ h
 self:=λ_ _ _ _ _ st h=>wpAny_pyIter_zip st.1 h
section
variable {X:Cx}
noncomputable def PC(K:W.Frag)(ta:TA):TI:=λZ H R=>ta Z H λvs H1=>match vs with
 | [.ref a,.ref b]=>(∃xs,zr K H1 a xs)/\(∃ys,zr K H1 b ys)/\R (Itz K a b) H1
 | _=>False
theorem Kg {a b:Expr} {p:Pos} (O:Gl X "zip") (hm:X.mg "zip" = none) (ha:PA X [a,b] ta)
 (hs:starEach [a,b] X.env=[(false,eval a X.env),(false,eval b X.env)]:=by rfl) (z:starEach [b] X.env=[(false,eval b X.env)]:=by rfl) (G:X.K=K:=by rfl) :
 PI X (.Tuple es kt tpos) (.Call (.Name "zip" p) [a,b] [] pos) (PC K ta):=by
 subst G;intro El s Z H R I h;refine Call_ (CO I O hm (by rfl:bootBuiltins "zip" = some (.type "zip")) (PyProof.Rows.callWith_type1 (zm (ha pos El s Z H _ I h) λus s1 ⟨vs,H1,f,r1,v⟩=>?_) (by rw[hs,z]) (by rw[z];rfl)))
 match vs,v,r1 with
 | [.ref l1,.ref l2],⟨⟨xs,t⟩,⟨ys,u⟩,q⟩,r1 =>
 cases r1 with
 | cons r k =>
 cases k with
 | cons w k =>
 cases k;cases r;cases w;obtain⟨zc,S,m,_⟩:=f.list t;obtain⟨l,x,p2,_⟩:=f.list u;obtain⟨N,L,g1,_⟩:=id m;obtain⟨P,M,g2,_⟩:=id p2;have i:=ZBF g1;have j:=ZBF g2;refine call_zip_2 m.isList p2.isList λh' n y B C D T J=>?_
 refine wpAny_pyIter_zip (s:={ s1 with heap:=h' }) n ?_;have o:zd X El Z H1 { s1 with heap:=h' }:=f.kept (t':=s1.toks) J;refine⟨_,_,_,_,H1,rfl,o,Yb (i1:=s1.heap.objs.size) (i2:=s1.heap.objs.size+1) (l1:=l1) (l2:=l2) (PyProof.Rows.zipApart_new i j),⟨n,y,⟨_,_,B⟩,C,D⟩,λb g=>?_,q⟩;refine f.fpOk ?_ ?_
 ·simp only[ZBI,ZBk,or_false]at g
  rcases g with rfl | rfl | rfl | rfl | rfl
  ·exact ZCU _ _
  ·exact ZCU _ _
  ·exact ZCU _ _
  ·exact ZBD _
  ·exact ZCU _ _
 ·refine f.hok.fresh ?_;simp only[ZBI,ZBk,or_false]at g
  rcases g with rfl | rfl | rfl | rfl | rfl
  ·exact ZCU _ _
  ·exact ZCU _ _
  ·exact ZCU _ _
  ·exact ZBD _
  ·exact ZCU _ _
theorem R9(h:CI ta):EG (PC K ta):=λZ H Q f k q=>h _ _ _ _ (λvs _ q=>by
 match vs,q with
 | [.ref a,.ref b],⟨h1,h2,q⟩=>exact⟨h1,h2,k _ _ q⟩) q
theorem LH {l1 l2:Addr} {g:TG} {tc:TT} (Pv:Nat->List V->Hp->Prop) (h0:Pv 0 [] H) (zk:xs.length=ys.length) (U:∀i zs H,i<=xs.length->Pv i zs H->zr K H l1 xs/\zr K H l2 ys) (hz:∀i zs H,i<xs.length->Pv i zs H->zs.length<sizeLine)
 (hs:∀i x y zs H p,xs[i]?=some x->ys[i]?=some y->Pv i zs H->H p=none->g (.ref p) σc (upd H p (.tup [x,y])) λz H2=>tc z H2 λb G=>if b=true then te z G λv O=>Pv (i+1) (zs++[v]) O else Pv (i+1) zs G)
 (hd:∀zs H,Pv xs.length zs H->∀p,H p=none->Q (.ref p) (upd H p (.lst zs))):C3 (Itz K l1 l2) g tc te σc Q H:=by
 refine⟨λi m zs H=>m=xs.length-i/\i<=xs.length/\Pv i zs H,⟨xs.length,by simp,ZBT _,h0⟩,?_⟩;rintro i m zs H ⟨rfl,hi,p⟩;obtain⟨f,j⟩:=U i zs H hi p
 by_cases zn:i<xs.length
 ·refine .inr ⟨⟨xs,ys,xs[i],ys[i],f,j,by simp[zn],ZBE (by lia)⟩,hz i zs H zn p,Pv (i+1),λr H' o=>⟨xs.length-(i+1),by lia,rfl,zn,o⟩,?_⟩;rintro v H' ⟨pp,x,y,k,rfl,rfl,l,n⟩;exact hs i x y zs H pp (l xs f) (n ys j) p k
 ·have e:i=xs.length:=by lia
  subst e;exact .inl ⟨⟨xs,ys,f,j,.inl (ZBD _)⟩,hd zs H p⟩
end
section
variable {X:Cx}{K:W.Frag}{o e:Expr}{es:List Expr}{to:TE}{t:TA}{apos cpos:Pos}
noncomputable def RU:V->List V->Hp->VK->Prop:=λx vs H Q=>match x,vs with
 | .ref l,[y]=>∃xs,H l=some (.lst xs)/\xs.length<sizeLine/\Q .non (upd H l (.lst (xs++[y])))
 | _,_=>False
theorem Ts:MtR X "list.append" RU:=by
 intro El s Z H x vs v us Q I g f q
 match x,vs,q with
 | .ref l,[y],⟨xs,h1,h2,q⟩=>exact V0 El s Z H _ _ v us Q I g f ⟨l,xs,y,rfl,rfl,h1,h2,q⟩
theorem Zs (ho:PE X o to) (ha:PA X [e] t) (G:attributeBase o "append" X.env (eval o X.env)=eval o X.env:=by rfl)
 (U:((backTo cpos (starEach [e] X.env)).all (λx=>!x.1)&&(backToKw cpos (keywordEach [] X.env)).all (λx=>x.1.isSome)
   && decide ([e].length+([]:List Keyword).length+(if ([]:List Keyword).isEmpty then 0 else 1)<30))=true:=by rfl)
 (O:(apos.endLine==cpos.line)=true:=by rfl) (hs:starEach [e] X.env=(false,eval e X.env)::starEach [] X.env:=by rfl) (z:(backTo cpos (starEach [] X.env)).any (·.1)=false:=by rfl) (hK:X.K=K:=by rfl) :
 PE X (.Call (.Attribute o "append" apos) [e] [] cpos) (tBM K "list" RU to t):=hK▸G0 PySem.F.plainAttrs_list PySem.F.slot_list_append PySem.F.type_list_append Ts ho ha G U O hs z
noncomputable def Nz(K:W.Frag):V->List V->Hp->VK->Prop:=λx vs H Q=>match x,vs with
 | .ref l,[y]=>∃xs,zr K H l xs/\CC y=true/\xs.all CC=true/\Q (.int (xs.countP λv=>eqV v y:Nat)) H
 | _,_=>False
theorem QE:∀{xs:List V} {us:List Value},zh xs us->xs.all CC=true->us.countP (eqU y)=xs.countP λv=>eqV v y
 | _,_,.nil,_=>rfl
 | x::xs,u::us,.cons r t,f=>by
  rw[List.all_cons,ZBb]at f;rw[List.countP_cons,List.countP_cons,Ja r f.1,QE t f.2]
theorem Xt:MtR X "list.count" (Nz X.K):=by
 intro El s Z H x vs v us Q I o m q
 match x,vs,q with
 | .ref l,[y],⟨xs,h1,h2,f,q⟩ =>
 cases o;obtain⟨u,rfl,k⟩:=m.one;obtain⟨zc,r,pl,hz⟩:=I.list h1;obtain⟨⟨cls,j,data,sl⟩,n,i,g,hd,hs⟩:=id pl;simp only at g hs;subst g hs;refine call_meets F.slot_list_count ⟨_,i,rfl⟩ F.entry_list_count (F.args_list_count_2 _ _) (SeqAt.list_countAt l zc.toArray n j sl u (eqU y)) ⟨i,λw hw=>GO k h2 r f w (by simpa using hw),?_⟩;refine⟨.int _,H,I.tok _,⟨_,rfl⟩,?_⟩;have e:zc.toArray.toList.countP (eqU y)=xs.countP λv=>eqV v y:=by rw[show zc.toArray.toList=zc by simp];exact QE r f
 rw[e];exact q
theorem aP (ho:PE X o to) (ha:PA X [e] t) (G:attributeBase o "count" X.env (eval o X.env)=eval o X.env:=by rfl)
 (U:((backTo cpos (starEach [e] X.env)).all (λx=>!x.1)&&(backToKw cpos (keywordEach [] X.env)).all (λx=>x.1.isSome)
   && decide ([e].length+([]:List Keyword).length+(if ([]:List Keyword).isEmpty then 0 else 1)<30))=true:=by rfl)
 (O:(apos.endLine==cpos.line)=true:=by rfl) (hs:starEach [e] X.env=(false,eval e X.env)::starEach [] X.env:=by rfl) (z:(backTo cpos (starEach [] X.env)).any (·.1)=false:=by rfl) (hK:X.K=K:=by rfl) :
 PE X (.Call (.Attribute o "count" apos) [e] [] cpos) (tBM K "list" (Nz K) to t):=hK▸G0 PySem.F.plainAttrs_list PySem.F.slot_list_count PySem.F.type_list_count Xt ho ha G U O hs z
theorem VH{T:String}{r:V->List V->Hp->VK->Prop}(h1:Ap to)(h2:CI t)(z:QZ r):Ap (tBM K T r to t):=λZ H Q f h q=>h1 _ _ _ _ (λ_ _ q=>⟨q.1,h2 _ _ _ _ (λ_ _ q=>z _ _ _ _ _ h q) q.2⟩) q
noncomputable def HB(K:W.Frag):List V->Hp->VK->Prop:=λxs H Q=>match xs with
 | [.ref l]=>∃ns:List Int,zr K H l (ns.map V.int)/\Q (.int ns.sum) H
 | _=>False
theorem VL(z:X.calm=true):CallR X (.builtin "sum") (HB X.K):=by
 intro El s Z H xs us Q I r q
 match xs,q with
 | [.ref l],q =>
 obtain⟨ns,j,q⟩:=q;obtain⟨u,rfl,k⟩:=Bx r;cases k;obtain⟨zc,m,pl,hz⟩:=I.list j;have hi:IntsAre zc ns:=by simpa using Kr m
 obtain⟨zs,f⟩:=(hi.allInts).items;have e:(numsOf zc).sum=ns.sum:=by rw[hi.numsOf]
 have g:=pl.isList;rw[f]at g;refine sum_intListG (I.ok.hd z) g λh' n t' i=>?_
 refine⟨.int _,H,I.kept i,⟨t',rfl⟩,?_⟩
 have e2:preSum (numAt zs) zs.size=ns.sum:=by
  rw[preSum_eq,ZB0 (by simp),<- e];rw[show zc=zc.toArray.toList by simp,f,nums_intItems]
 rw[e2];exact q
theorem DJ(G:X.calm=true)(z:X.K=K:=by rfl):CallR X (.builtin "sum") (HB K):=z▸VL G
theorem VQ:DX (HB K):=λxs H Q f h q=>by
 unfold HB at *;split at q
 ·obtain⟨ns,a,q⟩:=q;exact⟨ns,a,h _ _ q⟩
 ·exact q.elim
noncomputable def HM(K:W.Frag):List V->Hp->VK->Prop:=λxs H Q=>match xs with
 | [.ref l]=>∃bs:List Bool,zr K H l (bs.map V.bl)/\Q (.bl (bs.all id)) H
 | _=>False
theorem Ym(z:X.calm=true):CallR X (.builtin "all") (HM X.K):=by
 intro El s Z H xs us Q I r q
 match xs,q with
 | [.ref l],q =>
 obtain⟨bs,w,q⟩:=q;obtain⟨u,rfl,B⟩:=Bx r;cases B;obtain⟨zc,m,pl,hz⟩:=I.list w;have n:=m.length;rw[ZBB]at n;obtain⟨L,J,g1,_⟩:=id pl;have zn:=ZBF g1;refine call_all_walk (wpAny_pyIter_list pl.isList ?_);have D:l≠s.heap.objs.size:=ZBR zn;refine⟨_,_,_,_,_,_,λi=>bs.getD i false,rfl,Walks.list (A:=X.A.in1) (I.ok.hd z) s.heap.objs.size l D zc.toArray,?_,?_,λh' M t=>?_⟩
 ·exact⟨⟨_,ZBP _ rfl,rfl,rfl⟩,(show s.heap.IsList l zc.toArray from pl.isList).at λo e=>ZBG _ e⟩
 ·intro i v s' p G f j;have f:zc.toArray[i]?=some v:=f
  have hi:i<zc.length:=by
   have:=(ZDP.mp f).1
   simpa using this
  have k:(bs.map V.bl)[i]?=some (.bl bs[i]):=by rw[ZBJ,ZBE (by lia)];rfl
  obtain⟨C,x,y⟩:=m.get k;have e:v=C:=by simp at f;rw[x]at f;exact(ZBQ f).symm
  subst e;cases y;refine ZCO ?_;have e2:bs.getD i false=bs[i]:=by rw[ZBO,ZBE (by lia)];rfl
  have j:p (bs.getD i false) s':=j;rw[e2]at j;exact j
 ·refine⟨.bl _,H,I.kept (λb o e=>t b o ?_ (ZBG _ e)),rfl,?_⟩
  ·simp only[ZBX];exact ZBR (ZBF e)
  ·have e:(List.range zc.toArray.size).all (λi=>bs.getD i false)=bs.all id:=by
    rw[ZBM,<- n];rw[ZBv,ZCT,ZCT];constructor
    ·intro h b k;obtain⟨i,hi,rfl⟩:=List.mem_iff_getElem.mp k
     have:=h i (ZBV.mpr hi)
     rw[ZBO,ZBE hi]at this;exact this
    ·intro h i hi;have g:=ZBV.mp hi;rw[ZBO,ZBE g];exact h _ (ZCL g)
   rw[e];exact q
theorem GJ(G:X.calm=true)(z:X.K=K:=by rfl):CallR X (.builtin "all") (HM K):=z▸Ym G
theorem V9:DX (HM K):=λxs H Q f h q=>by
 unfold HM at *;split at q
 ·obtain⟨ns,a,q⟩:=q;exact⟨ns,a,h _ _ q⟩
 ·exact q.elim
end
section
variable {prog:Program}{w:World}{A:Around}{E:Value->Shared->Prop}{s:Shared}
theorem OL{it:Addr}{items:Array Value}(z:t≠it):∀(n i:Nat) (s:Shared) (Q:List Value->Shared->Prop),s.heap.IsListIter it t i->s.heap.IsList t items->i+n<=items.size ->
 (∀h',h'.IsListIter it t (i+n)->Heap.SameBut it s.heap h'->Q ((items.toList.drop i).take n) { s with heap:=h' })->wpAny (model prog w) A (draw (.ref it) n) Q E s
 | 0,i,s,Q,hit,_,_,m=>by
  show wpAny _ _ (pure []) Q E s;exact ZBC (by simpa using m s.heap hit (Heap.SameBut.refl ..))
 | n+1,i,s,Q,hit,o,hle,m=>by
  have zn:i<items.size:=by lia
  show wpAny _ _ (pyNext (.ref it) >>= _) Q E s;refine ZBA (wpAny_pyNext_list_item hit o (x:=items[i]) (by simp[zn]) λp g f=>?_);refine ZBA (ZBr (OL z n (i+1) _ _ g (o.extBut f.extBut z) (by lia) λl j k=>ZBC ?_));have hd:items.toList.drop i=items[i]::items.toList.drop (i+1):=by simp[ZDQ,zn]
  have:=m l (by rw[show i+(n+1)=i+1+n by lia];exact j) (f.trans k)
  rw[hd,List.take_succ_cons]at this;exact this
theorem UI {items:Array Value} {Q:List Value->Shared->Prop} (O:A.handled=none) (z:s.heap.IsList t items)
 (G:∀h',Heap.ExtBut s.heap.objs.size s.heap h'->Q items.toList { s with heap:=h' }):wpAny (model prog w) A (unpackItems (.ref t) items.size none) Q E s:=by
 have zn:t≠s.heap.objs.size:=by obtain⟨o,p,_⟩:=z;exact ZBR (ZBF p)
 unfold unpackItems;refine ZBA ?_
 ·unfold notIterableAtAll;refine ZBA (wpAny_specialOf z.typeIs slot_list_iter.lookup ?_);refine ZBC ?_;simp only[ZCV,if_false];refine ZBA (ZBr (wpAny_pyIter_list z ?_));refine ZBA (ZBr (OL zn items.size 0 _ _ ⟨_,ZBP _ rfl,rfl,rfl⟩ (z.at λo e=>ZBG _ e) (by lia) λl g f=>?_))
  have k:List.take items.size (List.drop 0 items.toList)=items.toList:=by
   rw[List.drop_zero];exact ZB0 (by simp)
  rw[k];rw[if_neg (by simp)];have j:l.IsList t items:=(Heap.IsList.at z λo e=>ZBG _ e).extBut f.extBut zn;refine ZBA (ZBr (wpAny_pyNext_list_end O g j (by simp) λm i=>?_));simp only[Option.isSome_none,ZCV,if_false];refine ZBC (G m λb o n e=>i b o n (f.extBut b o n (ZBG _ e)))
theorem bA {env:Env} {elts:List Expr} {U} {items:Array Value} {Q:Unit->Shared->Prop} (G:A.handled=none) (O:s.heap.IsList t items)
 (hn:(assignEach elts env).length=items.size) (z:(assignEach elts env).findIdx? (·.1)=none)
 (h:∀h',Heap.ExtBut s.heap.objs.size s.heap h'->wpAny (model prog w) A (assignInOrder ((assignEach elts env).map (·.2)) items.toList) Q E { s with heap:=h' }) :
 wpAny (model prog w) A (assign (.Tuple elts U pos) env (.ref t)) Q E s:=by
 rw[assign_Tuple];refine ZBA (ZCe ?_);unfold unpack;rw[hn,z];exact ZBA (ZBr (UI G O h))
end
section
variable {X:Cx}{K:W.Frag}{pos p2:Pos}{e:Expr}{lo hi:Option Expr}{te:TE}{tl th:TO}
noncomputable def VO(K:W.Frag)(n:Nat)(t:TGs):TG:=λv Z H Q=>match v with
 | .ref a=>∃xs,SqA K H a xs/\xs.length=n/\t xs Z H Q
 | _=>False
theorem HR {k:Nat} {t:TGs} (G:X.calm=true) (h:PGs X es t)
 (hn:(assignEach es X.env).length=n:=by rfl) (z:(assignEach es X.env).findIdx? (·.1)=none:=by rfl) (O:X.K=K:=by rfl):PG X (.Tuple es k pos) (VO K n t):=by
 subst O;intro El s Z H v u Q I r hw;cases v with
 | ref a =>
  obtain⟨xs,f | f,g,hw⟩:=hw
  ·cases r;obtain⟨zc,i,l,hz⟩:=I.list f;refine bA (I.ok.hd G) l.isList (by simp[hn,<- g,i.length]) z λh' m=>?_
   have j:zd X El Z H { s with heap:=h' }:=I.kept (t':=s.toks) λb o e=>m b o (ZBR (ZBF e)) e
   exact h El _ Z H xs _ Q j (by simpa using i) hw
  ·exact Rk G h hn z El s Z H _ u Q I r ⟨a,xs,rfl,f,g,hw⟩
 | _=>exact False.elim hw
end
theorem Bw(h:zj K H a xs)(s:EE H H'):zj K H' a xs:=II h λo e=>s a o e
mutual
theorem zf.same(s:EE H H'):∀(d:Dv) (v:V),zf K H d v->zf K H' d v
 | .non,v,h=>by unfold zf at *;exact h
 | .bl b,v,h=>by unfold zf at *;exact h
 | .int i,v,h=>by unfold zf at *;exact h
 | .str x,v,h=>by unfold zf at *;exact h
 | .tup ds,v,h=>by
  unfold zf at *;obtain⟨a,xs,e,h1,h2⟩:=h;exact⟨a,xs,e,Bw h1 s,za.same s ds xs h2⟩
 | .lst ds,v,h=>by
  unfold zf at *;obtain⟨a,xs,e,h1,h2⟩:=h;exact⟨a,xs,e,JY h1 λo e=>s a o e,za.same s ds xs h2⟩
theorem za.same(s:EE H H'):∀(ds:List Dv) (xs:List V),za K H ds xs->za K H' ds xs
 | [],xs,h=>by unfold za at *;exact h
 | d::ds,xs,h=>by
  unfold za at *;obtain⟨x,r,e,h1,h2⟩:=h;exact⟨x,r,e,zf.same s d x h1,za.same s ds r h2⟩
end
mutual
noncomputable def Bd:Dv->Bool
 | .tup ds=>BA ds
 | .lst _=>false
 | _=>true
noncomputable def BA:List Dv->Bool
 | []=>true
 | d::ds=>Bd d&&BA ds
end
mutual
theorem zf.frm(s:zp t H H')(z:∃zs,H t=some (.lst zs)):∀(d:Dv) (v:V),Bd d=true->zf K H d v->zf K H' d v
 | .non,v,_,h=>by unfold zf at *;exact h
 | .bl b,v,_,h=>by unfold zf at *;exact h
 | .int i,v,_,h=>by unfold zf at *;exact h
 | .str x,v,_,h=>by unfold zf at *;exact h
 | .tup ds,v,hd,h=>by
  unfold Bd at hd;unfold zf at *;obtain⟨a,xs,e,h1,h2⟩:=h;refine⟨a,xs,e,?_,za.frm s z ds xs hd h2⟩;obtain⟨zs,hz⟩:=z
  rcases h1 with (h1 | ⟨o,h1⟩) | h1
  ·exact .inl (.inl (s a _ (λq=>by rw[q,hz]at h1;cases h1) h1))
  ·exact .inl (.inr ⟨o,s a _ (λq=>by rw[q,hz]at h1;cases h1) h1⟩)
  ·exact .inr h1
 | .lst ds,v,hd,h=>by unfold Bd at hd;cases hd
theorem za.frm(s:zp t H H')(z:∃zs,H t=some (.lst zs)):∀(ds:List Dv) (xs:List V),BA ds=true->za K H ds xs->za K H' ds xs
 | [],xs,_,h=>by unfold za at *;exact h
 | d::ds,xs,hd,h=>by
  unfold BA at hd;rw[ZBb]at hd;unfold za at *;obtain⟨x,r,e,h1,h2⟩:=h;exact⟨x,r,e,zf.frm s z d x hd.1 h1,za.frm s z ds r hd.2 h2⟩
end
theorem Hw{c:TT}{t u:TS}{D:Ends}(b:Bool)(z:∀Q:Bool->Hp->Prop,Q b H->c Z H Q)(h:if b=true then t D Z H else u D Z H):HC c t u D Z H:=z _ h
theorem Tape.lst{K:W.Frag}{H:Hp}{t a:Addr}{ns:List Int}(T:Tape K H t a ns):∃zs,H t=some (.lst zs):=by
 obtain⟨i,r,c,_,_,h⟩:=T.at_;exact⟨_,h⟩
theorem Ax(h:H p=some (.tup xs))(r:za K H ds xs):zf K H (.tup ds) (.ref p):=by unfold zf;exact⟨p,xs,rfl,.of h,r⟩
theorem Ab:za K H [] []:=by unfold za;rfl
theorem AU{d:Dv}{x:V}(h:zf K H d x)(r:za K H ds xs):za K H (d::ds) (x::xs):=by unfold za;exact⟨x,xs,rfl,h,r⟩
theorem Mw:zf K H (.str x) (.str x):=by unfold zf;rfl
theorem A6{x:Int}:zf K H (.int x) (.int x):=by unfold zf;rfl
theorem Nj{x:Bool}:zf K H (.bl x) (.bl x):=by unfold zf;rfl
theorem za.append:∀{ds es:List Dv} {xs ys:List V},za K H ds xs->za K H es ys->za K H (ds++es) (xs++ys)
 | [],es,xs,ys,h,h'=>by unfold za at h;subst h;exact h'
 | d::ds,es,xs,ys,h,h'=>by
  unfold za at h;obtain⟨x,r,rfl,h1,h2⟩:=h;exact AU h1 (za.append h2 h')
section
variable {κ:Type}[DecidableEq κ]
noncomputable def valV(ze:List (κ×V))(k:κ):Option V:=(ze.find? λf=>decide (f.1=k)).map (·.2)
noncomputable def BH(ze:List (κ×V))(k:κ)(v:V):List (κ×V) :=
 if (ze.any λf=>decide (f.1=k))=true then ze.map (λf=>if f.1=k then (f.1,v) else f) else ze++[(k,v)]
theorem CJ{p:κ×V}{r:List (κ×V)}{k:κ}(e:p.1=k):valV (p::r) k=some p.2:=by simp[valV,ZC3,e]
theorem CQ{p:κ×V}{r:List (κ×V)}{k:κ}(e:¬p.1=k):valV (p::r) k=valV r k:=by simp[valV,ZC3,e]
theorem FA(k:κ):∀ze:List (κ×V),(ze.any λz=>decide (z.1=k))=(valV ze k).isSome
 | []=>rfl
 | p::r=>by
  rw[ZCx]
  by_cases e:p.1=k
  ·simp only[CJ e,ZBK e,Bool.true_or,Option.isSome_some]
  ·rw[CQ e,ZBo e,Bool.false_or];exact FA k r
theorem P0(k j:κ)(y:V):∀ze:List (κ×V),valV (ze.map λG=>if G.1=k then (G.1,y) else G) j=(valV ze j).map λx=>if j=k then y else x
 | []=>rfl
 | p::r=>by
  have f:=P0 k j y r;rw[ZBU]
  by_cases h:p.1=k
  ·rw[if_pos h]
   by_cases e:p.1=j
   ·rw[CJ (p:=(p.1,y)) e,CJ e,ZCd,if_pos (e.symm.trans h)]
   ·rw[CQ (p:=(p.1,y)) e,CQ e,f]
  ·rw[if_neg h]
   by_cases e:p.1=j
   ·rw[CJ (p:=p) e,CJ e,ZCd,if_neg (λz=>h (e.trans z))]
   ·rw[CQ (p:=p) e,CQ e,f]
theorem QB(k j:κ)(y:V):∀ze:List (κ×V),valV ze k=none->valV (ze++[(k,y)]) j=if j=k then some y else valV ze j
 | [],_=>by
  by_cases e:k=j
  ·rw[if_pos e.symm];exact CJ (p:=(k,y)) e
  ·rw[if_neg (λz=>e z.symm)];exact CQ (p:=(k,y)) e
 | p::r,hn=>by
  rw[List.cons_append];have f:¬p.1=k:=λz=>by rw[CJ z]at hn;cases hn
  rw[CQ f]at hn;have g:=QB k j y r hn
  by_cases e:p.1=j
  ·rw[CJ e,CJ e,if_neg (λz=>f (e.trans z))]
  ·rw[CQ e,CQ e,g]
theorem VM(ze:List (κ×V))(k j:κ)(y:V):valV (BH ze k y) j=if j=k then some y else valV ze j:=by
 unfold BH
 by_cases a:(ze.any λg=>decide (g.1=k))=true
 ·rw[if_pos a,P0];rw[FA]at a
  by_cases e:j=k
  ·obtain⟨x,f⟩:=ZDK.mp a;rw[if_pos e,e,f,ZCd,if_pos rfl]
  ·rw[if_neg e];cases valV ze j with
   | none=>rfl
   | some x=>rw[ZCd,if_neg e]
 ·rw[if_neg a];refine QB k j y ze ?_;rw[FA]at a;cases q:valV ze k with
  | none=>rfl
  | some x=>rw[q]at a;exact(a rfl).elim
theorem RG(ze:List (κ×V))(k:κ)(v:V):(BH ze k v).length<=ze.length+1:=by
 unfold BH;split
 ·rw[ZBB];lia
 ·rw[ZBS,ZCF,List.length_nil];lia
theorem WB{ze:List (κ×V)}{k:κ}(v:V)(h:valV ze k=none):BH ze k v=ze++[(k,v)]:=by
 unfold BH;rw[FA,h];exact if_neg (by decide)
theorem RelO.isSome_eq{o:Option V}{u:Option Value}(r:RelO o u):o.isSome=u.isSome:=by
 cases o with
 | none=>cases u with
  | none=>rfl
  | some _=>exact(show False from r).elim
 | some _=>cases u with
  | none=>exact(show False from r).elim
  | some _=>rfl
theorem KV.val{ze:List (κ×V)}{vs:List (κ×Value)}(r:KV ze vs)(k:κ):RelO (valV ze k) (valueAt vs k):=by
 unfold KV at r
 induction r with
 | nil=>exact True.intro
 | @cons p q ps g h t i =>
  obtain⟨h1,h2⟩:=h
  by_cases e:p.1=k
  ·have f:q.1=k:=h1.symm.trans e;have b:valueAt (q::g) k=some q.2:=by simp[valueAt,ZC3,f]
   rw[CJ e,b];exact h2
  ·have f:¬q.1=k:=λz=>e (h1.trans z)
   have b:valueAt (q::g) k=valueAt g k:=by simp[valueAt,ZC3,f]
   rw[CQ e,b];exact i
theorem KV.any{ze:List (κ×V)}{vs:List (κ×Value)}(r:KV ze vs)(k:κ):(ze.any λz=>decide (z.1=k))=vs.any λz=>decide (z.1=k):=by
 unfold KV at r
 induction r with
 | nil=>rfl
 | cons h t f=>rw[ZCx,ZCx,f,h.1]
theorem KV.repl{ze:List (κ×V)}{vs:List (κ×Value)}(r:KV ze vs)(k:κ)(O:zi y u) :
 KV (ze.map λG=>if G.1=k then (G.1,y) else G) (vs.map λG=>if G.1=k then (G.1,u) else G):=by
 unfold KV at r ⊢
 induction r with
 | nil=>exact .nil
 | @cons p q ps g h t f =>
  rw[ZBU,ZBU];refine .cons ?_ f;obtain⟨h1,h2⟩:=h
  by_cases e:p.1=k
  ·rw[if_pos e,if_pos (h1.symm.trans e)];exact⟨h1,O⟩
  ·rw[if_neg e,if_neg (λz=>e (h1.trans z))];exact⟨h1,h2⟩
theorem KV.put{ze:List (κ×V)}{vs:List (κ×Value)}(r:KV ze vs)(k:κ)(z:zi y u):KV (BH ze k y) (stored vs k u):=by
 unfold BH stored;rw[r.any k]
 by_cases e:(vs.any λf=>decide (f.1=k))=true
 ·rw[if_pos e,if_pos e];exact r.repl k z
 ·rw[if_neg e,if_neg e];exact Paired.snoc r ⟨rfl,z⟩
theorem KV.length{ze:List (κ×V)}{vs:List (κ×Value)}(r:KV ze vs):ze.length=vs.length:=Paired.length r
end
theorem Gv{k:Key}(r:zi (kV k) u):(Bp P w).is k u=true:=by
 cases k with
 | inl i=>obtain⟨t,e⟩:=(show ∃t,u=Value.int i t from r);subst e;exact Uz P w i t
 | inr x=>obtain⟨t,e⟩:=(show ∃t,u=Value.str x t from r);subst e;exact WA P w x t
theorem NF:∀{ks:List Key} {us:List Value},zh (ks.map kV) us->ItemsAre (Bp P w) ks us
 | [],_,r=>by rw[ZC7]at r;cases r;exact .nil
 | k::ks,_,r=>by
  rw[ZBU]at r;cases r with
  | cons h t=>exact .cons (Gv h) (NF t)
noncomputable abbrev KT(H:Hp):List (List Key×V)->List (List Key×Addr×Value)->Prop:=Paired λp q=>p.1=q.1/\H q.2.1=some (.tup (p.1.map kV))/\zi p.2 q.2.2
theorem KT.val{xs:List (List Key×Addr×Value)}(r:KT H ze xs)(k:List Key):RelO (valV ze k) ((atKey xs k).map (·.2)):=by
 induction r with
 | nil=>exact True.intro
 | @cons p q ps g h t i =>
  obtain⟨h1,_,h2⟩:=h
  by_cases e:p.1=k
  ·have f:q.1=k:=h1.symm.trans e;have b:atKey (q::g) k=some q.2:=by simp[atKey,ZC3,f]
   rw[CJ e,b];exact h2
  ·have f:¬q.1=k:=λz=>e (h1.trans z)
   have b:atKey (q::g) k=atKey g k:=by simp[atKey,ZC3,f]
   rw[CQ e,b];exact i
theorem KT.repl{xs:List (List Key×Addr×Value)}(r:KT H ze xs)(k:List Key)(O:zi y u) :
 KT H (ze.map λG=>if G.1=k then (G.1,y) else G) (xs.map (putAt k u)):=by
 induction r with
 | nil=>exact .nil
 | @cons p q ps i h t g =>
  rw[ZBU,ZBU];refine .cons ?_ g;obtain⟨h1,h2,f⟩:=h;unfold putAt
  by_cases e:p.1=k
  ·rw[if_pos e,if_pos (h1.symm.trans e)];exact⟨h1,h2,O⟩
  ·rw[if_neg e,if_neg (λz=>e (h1.trans z))];exact⟨h1,h2,f⟩
theorem KT.put{xs:List (List Key×Addr×Value)}(r:KT H ze xs)(k:List Key){b:Addr}(G:H b=some (.tup (k.map kV)))(z:zi y u) :
 KT H (BH ze k y) (storedH xs k b u):=by
 have e:(ze.any λf=>decide (f.1=k))=(atKey xs k).isSome:=by
  rw[FA,(r.val k).isSome_eq,Option.isSome_map]
 unfold BH storedH;rw[e]
 by_cases q:(atKey xs k).isSome=true
 ·rw[if_pos q,if_pos q];exact r.repl k z
 ·rw[if_neg q,if_neg q];exact Paired.snoc r ⟨rfl,G,z⟩
theorem KT.keeps{xs:List (List Key×Addr×Value)}(r:KT H ze xs)(G:∀b ys,H b=some (.tup ys)->H' b=some (.tup ys)):KT H' ze xs :=
 Paired.mapP r λ_ _ z=>⟨z.1,G _ _ z.2.1,z.2.2⟩
section
variable {P:Program}{w:World}{H:Hp}{h:Heap}{a:Addr}
theorem M4{u:HO}(ok:HOk P w H h)(e:Rd H a u):ObjOk P w H h a u:=e.ok ok
theorem HV{ze:List (Key×V)}(ok:HOk P w H h)(e:Rd H a (.dK ze)):ze.length<=sizeLine/\(a==sysModules)=false/\∃vs,KV ze vs/\h.DictOf (Bp P w) a vs :=
 show ObjOk P w H h a (.dK ze) from M4 ok e
theorem ac{ze:List (Key×V)}(ok:HOk P w H h)(e:H a=some (.dK ze)):ze.length<=sizeLine/\(a==sysModules)=false/\∃vs,KV ze vs/\h.DictOf (Bp P w) a vs:=HV ok (.inl e)
theorem Hy{ks:List Key}(ok:HOk P w H h)(e:H a=some (.tup (ks.map kV))):(tupleKind (Bp P w)).is h ks a:=by
 obtain⟨_,zc,r,o,h1,h2,⟨n,f⟩,_⟩:=(show ObjOk P w H h a (.tup (ks.map kV)) from ok a _ e);exact⟨o,zc.toArray,n,h1,h2,f,by simpa using NF r⟩
theorem Ga(ok:HOk P w H h)(e:Rd H a (.dT ze)):ze.length<=sizeLine/\(a==sysModules)=false /\
 ∃xs,KT H ze xs/\h.DictOfH (tupleKind (Bp P w)) a xs:=by
 obtain⟨z,y,xs,r,o,es,i,h1,h2,j,k,n⟩:=(show ObjOk P w H h a (.dT ze) from M4 ok e);refine⟨z,y,xs,r,o,es,i,h1,h2,j,k,λx f=>?_,n⟩
 have all:∀{l:List (List Key×V)} {m:List (List Key×Addr×Value)},KT H l m->∀x∈m,(tupleKind (Bp P w)).is h x.1 x.2.1:=by
  intro l m q
  induction q with
  | nil=>intro x f;exact nomatch f
  | @cons p q ps v g t u =>
   intro x f
   rcases ZBI.mp f with e | f
   ·subst e;exact Hy ok (by rw[<- g.1];exact g.2.1)
   ·exact u x f
 exact all r x f
theorem bd(ok:HOk P w H h)(e:H a=some (.dT ze)):ze.length<=sizeLine/\(a==sysModules)=false /\
 ∃xs,KT H ze xs/\h.DictOfH (tupleKind (Bp P w)) a xs:=Ga ok (.inl e)
end
noncomputable def DGet(H:Hp)(a:Addr)(y:V)(r:Option V):Prop :=
 (∃ze k,Rd H a (.dK ze)/\y=kV k/\r=valV ze k)\/∃ze k b,Rd H a (.dT ze)/\y=.ref b/\H b=some (.tup (k.map kV))/\r=valV ze k
noncomputable def DPut(H:Hp)(a:Addr)(y v:V)(H':Hp):Prop :=
 (∃ze k,H a=some (.dK ze)/\y=kV k/\ze.length<sizeLine/\H'=upd H a (.dK (BH ze k v))) \/
 ∃ze k b,H a=some (.dT ze)/\y=.ref b/\H b=some (.tup (k.map kV))/\ze.length<sizeLine/\H'=upd H a (.dT (BH ze k v))
theorem DGet.k{ze:List (Key×V)}{k:Key}(e:H a=some (.dK ze)):DGet H a (kV k) (valV ze k):=.inl ⟨ze,k,.inl e,rfl,rfl⟩
theorem DPut.k{ze:List (Key×V)}{k:Key}(e:H a=some (.dK ze))(z:ze.length<sizeLine):DPut H a (kV k) v (upd H a (.dK (BH ze k v))):=.inl ⟨ze,k,e,rfl,z,rfl⟩
section
variable {X:Cx}{El:List (Addr×Obj)}{Z:St}{H:Hp}{s:Shared}{a:Addr}{y v:V}{u r:Value}{o:Option V}{A:Around}{E:Value->Shared->Prop}
theorem zd.big(I:zd X El Z H s):sysModules<s.heap.objs.size:=by
 have h:mainGlobals<s.heap.objs.size:=(I.mod.glob.keeps I.bk).lt;exact ZCH (by decide) h
theorem SO{Q:Value->Shared->Prop}(hu:A.units+1<cLine)(I:zd X El Z H s)(g:DGet H a y (some v))(O:zi y u)(h:∀G s',zd X El Z H s'->zi v G->Q G s') :
 wpAny (model X.prog X.w) A (getItem (.ref a) u) Q E s:=by
 rcases g with ⟨ze,k,e,j,l⟩ | ⟨ze,k,b,e,j,n,l⟩
 ·subst j;obtain⟨z,hd,vs,rel,i⟩:=HV I.hok e;obtain⟨G,hw,f⟩:=RelO.some_of (v:=v) (o:=valueAt vs k) (by rw[l];exact rel.val k);exact wpAny_getItem_of (Gv O) i.mapOf hw (h G _ (I.tok _) f)
 ·subst j;cases (show u=Value.ref b from O);obtain⟨z,hd,xs,rel,i⟩:=Ga I.hok e;obtain⟨G,hw,f⟩:=RelO.some_of (v:=v) (o:=(atKey xs k).map (·.2)) (by rw[l];exact rel.val k);obtain⟨p,r,m⟩:=ZDR.mp hw;refine wpAny_getItem_heap (tupleKind_room_in1 hu) (Hy I.hok n) i r ?_;rw[m];exact h G _ (I.tok _) f
theorem bP{Q:Value->Shared->Prop}(hu:A.units+1<cLine)(I:zd X El Z H s)(g:DGet H a y o)(G:zi y u)(h:∀s',zd X El Z H s'->Q (.bool (!o.isSome)) s') :
 wpAny (model X.prog X.w) A (compareOp .NotIn u (.ref a)) Q E s:=by
 rcases g with ⟨ze,k,e,i,l⟩ | ⟨ze,k,b,e,i,j,l⟩
 ·subst i;obtain⟨z,hd,vs,rel,f⟩:=HV I.hok e;refine wpAny_notIn_of (Gv G) hd f.mapOf ?_;rw[<- (rel.val k).isSome_eq,<- l];exact h _ (I.tok _)
 ·subst i;cases (show u=Value.ref b from G);obtain⟨z,hd,xs,rel,f⟩:=Ga I.hok e;refine wpAny_notIn_heap (tupleKind_room_in1 hu) (Hy I.hok j) hd f ?_;have q:=(rel.val k).isSome_eq;rw[Option.isSome_map]at q;rw[<- q,<- l];exact h _ (I.tok _)
theorem KJ{h':Heap}{t':Nat}{G:HO}(I:zd X El Z H s)(O:Mut (H a))(hs:Heap.SameBut a s.heap h')(he:∃q,h'.get? a=some q)(new:ObjOk X.prog X.w (upd H a G) h' a G) :
 zd X El Z (upd H a G) { s with heap:=h',toks:=t' } :=
 I.write (x:=a) (e:=a) O (.inl rfl) (λb q f z=>(hs.2 b f).trans z) he new
theorem Rz{h':Heap}{ze:List (Key×V)}{vs:List (Key×Value)}(z:ze.length<=sizeLine)(hd:(a==sysModules)=false)(rel:KV ze vs)(G:h'.DictOf (Bp P w) a vs) :
 ObjOk P w H' h' a (.dK ze):=⟨z,hd,vs,rel,G⟩
theorem Xb{Q:Unit->Shared->Prop}(hu:A.units+1<cLine)(I:zd X El Z H s)(g:DPut H a y v H')(O:zi y u)(G:zi v r)(h:∀s',zd X El Z H' s'->Q () s') :
 wpAny (model X.prog X.w) A (setItem (.ref a) u r) Q E s:=by
 rcases g with ⟨ze,k,e,n,l,m⟩ | ⟨ze,k,b,e,n,p,l,m⟩
 ·subst n m;obtain⟨z,hd,vs,rel,j⟩:=ac I.hok e;have hz:vs.length<=sizeLine:=by rw[<- rel.length];exact z
  have o:(BH ze k v).length<=sizeLine:=by have:=RG ze k v;lia
  refine wpAny_setItem_pairs (hsz:=hz) (Gv O) j λh' f hs=>h _ ?_
  have he:∃q,h'.get? a=some q:=let ⟨q,_,_,i,_⟩:=f;⟨q,i⟩;exact KJ I (by rw[e];exact True.intro) hs he (Rz o hd (rel.put k G) f)
 ·subst n m;cases (show u=Value.ref b from O);obtain⟨z,hd,xs,rel,j⟩:=bd I.hok e;have hz:xs.length<=sizeLine:=by rw[<- Paired.length rel];exact z
  have o:(BH ze k v).length<=sizeLine:=by have:=RG ze k v;lia
  refine wpAny_setItem_heap (hsz:=hz) (tupleKind_room_in1 hu) (Hy I.hok p) j λh' f hs=>h _ ?_
  obtain⟨q,es,x,i,h2,B,C,_,D⟩:=f;refine KJ I (by rw[e];exact True.intro) hs ⟨q,i⟩ ⟨o,hd,_,(rel.put k p G).keeps λc ys t=>?_,q,es,x,i,h2,B,C,D⟩;rw[AR (B7 t e (λz=>nomatch z))];exact t
end
def GM(i:Expr):Prop:=∀g f,subscripted i false g f=operate [g,f] (getItem g f)
theorem QV {prog:Program} {E:Value->Shared->Prop} {env:Env} {value slice:Expr} {T id:String} {Q:Value->Shared->Prop}
 (O:typeLookup (.type T) "__getitem__" = pure (some (.builtin id))) (hs:GM slice)
 (h:wpAny (model prog w) A (eval value env) (λo G=>wpAny (model prog w) A (eval slice env) (λi z=>z.TypeIs o T/\wpAny (model prog w) A (getItem o i) Q E z) E G) E s) :
 wpAny (model prog w) A (eval (.Subscript value slice pos) env) Q E s:=by
 refine Subscript_ (ZBt h (λo G j=>ZBt j (λi z f=>?_) λ_ _ x=>x) λ_ _ x=>x);obtain⟨l,f⟩:=f;unfold subscriptTail;refine ZBA ?_;rw[getitemInPython_of_ne l.not_modules];refine ZBA (wpAny_specialOf l O ?_)
 have fin:wpAny (model prog w) A (subscripted slice false o i) (λr g=>wpAny (model prog w) A (letTemporaryGo value o r >>= λ_=>pure r) Q E g) E z:=by
  rw[hs o i];exact wpAny_operating (ZBt f (λr g k=>ZBA (wpAny_letTemporaryGo (ZBC k))) λ_ _ x=>x)
 first
  | exact ZBC (ZBA fin)
  | exact ZBA (ZBC (ZBA fin))
  | exact ZBA fin
theorem Z5{El:List (Addr×Obj)}{o:Option V}(I:zd X El Z H s)(g:DGet H a y o):s.TypeIs (.ref a) "dict":=by
 rcases g with ⟨ze,k,e,_,_⟩ | ⟨ze,k,b,e,_,_,_⟩
 ·obtain⟨_,_,vs,_,f⟩:=HV I.hok e;exact f.typeIs
 ·obtain⟨_,_,xs,_,f⟩:=Ga I.hok e;exact f.typeIs
noncomputable def YQ(td ty:TE):TE:=λZ H Q=>td Z H λx H1=>ty Z H1 λy H2=>∃a v,x=.ref a/\DGet H2 a y (some v)/\Q v H2
noncomputable def Qj(td ty tv:TE):TS:=λD Z H=>tv Z H λv H1=>td Z H1 λx H2=>ty Z H2 λy g=>∃a f,x=.ref a/\DPut g a y v f/\D.nx Z f
section
variable {X:Cx}{o i e value:Expr}{pos pos' tpos:Pos}{td ty tv:TE}
theorem aR(hu:X.A.units+1<cLine)(z:PE X o td)(hi:PE X i ty)(hs:GM i):PE X (.Subscript o i pos) (YQ td ty):=by
 intro El s Z H Q I h;refine QV PySem.F.slot_dict_getitem.lookup hs (zm (z El s Z H _ I h) λu s1 ⟨x,H1,k,p,m⟩=>zm (hi El s1 Z H1 _ k m) λt s2 ⟨y,H2,j,r,a,v,ex,g,n⟩=>?_);subst ex;obtain rfl:u=Value.ref a:=p;exact⟨Z5 j g,SO hu j g r λw s3 l f=>⟨v,H2,l,f,n⟩⟩
theorem N5(hu:X.A.units+1<cLine)(z:PE X o td)(hi:PE X i ty)(G:PE X value tv)(hs:swapsWith value (some (.Subscript o i pos')) pos.line X.env=pure false) :
 PS X (.Assign [.Subscript o i pos'] value pos) (Qj td ty tv):=by
 intro El s Z H D I h;refine wpAny_Assign_Subscript (zm (G El s Z H _ I h) λr s1 ⟨v,H1,j,w,n⟩=>zm (z El s1 Z H1 _ j n) λu s2 ⟨x,H2,k,B,p⟩=>zm (hi El s2 Z H2 _ k p) λK s3 ⟨y,J,l,C,a,f,ex,g,t⟩=>?_) hs;subst ex;obtain rfl:u=Value.ref a:=B;exact Xb hu l g C w λs4 m=>⟨Z,f,m,t⟩
end
theorem WF(h:Heap)(z:sysModules<h.objs.size):ObjOk P w H (h.push { cls:=.type "dict",data:=.dict #[] }) h.objs.size (.dK []) :=
 ⟨ZBT _,beq_eq_false_iff_ne.mpr (Ne.symm (ZBR z)),[],.nil,Heap.DictOf.new h⟩
noncomputable def XU:TE:=λ_ H Q=>∀p,H p=none->Q (.ref p) (upd H p (.dK []))
section
variable {X:Cx}{pos:Pos}
theorem NA:PE X (.Dict [] [] pos) XU:=λEl s Z H Q I h =>
 wpAny_Dict_empty ⟨.ref s.heap.objs.size,_,I.laid (a:=s.heap.objs.size) (o:=.dK []) (t':=s.toks) (λ_ _ q=>ZBG _ q) (ZBD _) (WF s.heap I.big),rfl,h _ (I.hok.fresh (ZBD _))⟩
end
theorem Sm{M:Model}{E:Value->Shared->Prop}{b:Bool}{Q:Int->Shared->Prop}(h:Q (if b=true then 1 else 0) s):wpAny M A (Builtin.Int.intOfSelf (.bool b)) Q E s:=by
 unfold Builtin.Int.intOfSelf;exact ZBC h
theorem TW{prog:Program}{E:Value->Shared->Prop}{b:Bool}{Q:Int->Shared->Prop}(h:Q (if b=true then 1 else 0) { s with toks:=s.toks+1 }):wpAny (model prog w) A (pyHash (.bool b)) Q E s:=by
 show wpAny _ _ (pyHashByItsType (.bool b)) _ _ _;refine PySem.W.pyHash_slot (T:="bool") rfl PySem.F.slot_bool_hash PySem.F.entry_int_hash (PySem.F.args_int_hash_1 _) rfl (.inl rfl) ?_;unfold Builtin.«int.__hash__» Builtin.Int.intSlot0;refine ZBA (ZBA ?_);show wpAny _ _ (pure (Value.bool b,[])) _ _ _;refine ZBC (ZBA (Sm (ZBC ?_)));cases b with
 | true=>exact ZBA (wpAny_mkInt (ZBC ⟨_,_,rfl,h⟩))
 | false=>exact ZBA (wpAny_mkInt (ZBC ⟨_,_,rfl,h⟩))
noncomputable def JR:Bool->Value->Bool
 | b,.bool c=>b==c
 | _,_=>false
theorem Du{b:Bool}{v:Value}(h:JR b v=true):v=.bool b:=by
 unfold JR at h;split at h
 ·rw[beq_iff_eq.mp h]
 ·cases h
noncomputable def Fx(prog:Program)(w:World):PySem.KeyKind prog w Bool where
 is:=JR
 hash:=λb=>if b=true then 1 else 0
 inj:=λv a b ha i=>by
  have g:=Du ha;have e2:=Du i;rw[g]at e2;injection e2
 byValue:=λk v h=>by rw[Du h];rfl
 pyHash:=λf h=>by rw[Du f];exact TW h
 eqBool:=λ{A E s a b u v Q} hu f h=>by
  rw[Du hu,Du f];refine SeqAt.EqAt.bool_bool a b _ _ _ _ ?_;have e:(a==b)=decide (a=b):=by cases a <;> cases b <;> rfl
  rw[e];exact h
 «strs»:=λk x t v h=>by
  have:=Du h
  cases this
noncomputable abbrev BX:=List (List Bool×Addr×Bool)
noncomputable def bxv(xs:BX):List (List Bool×Addr×Value):=xs.map λq=>(q.1,q.2.1,Value.bool q.2.2)
noncomputable def dB(P:Program)(w:World)(a:Addr)(xs:BX):HO:=.ext λh=>∃o es f,h.get? a=some o/\o.ExactDict/\o.data=.dict es f/\es.toList=(bxv xs).map (entryOfKey (tupleKind (Fx P w)))/\((bxv xs).map (·.1)).Nodup/\xs.length<=sizeLine/\(a==sysModules)=false
def Cv(H:Hp)(xs:BX):Prop:=∀q∈xs,H q.2.1=some (.tup (q.1.map V.bl))
theorem OM:∀{ks:List Bool} {us:List Value},zh (ks.map V.bl) us->PySem.ItemsAre (Fx P w) ks us
 | [],_,r=>by rw[ZC7]at r;cases r;exact .nil
 | k::ks,_,r=>by
  rw[ZBU]at r;cases r with
  | cons h t =>
   refine .cons ?_ (OM t);rw[show _=Value.bool k from h]
   show(k==k)=true
   simp
section
variable {P:Program}{w:World}{H:Hp}{h:Heap}{a:Addr}
theorem Hu{ks:List Bool}(ok:HOk P w H h)(e:H a=some (.tup (ks.map V.bl))):(tupleKind (Fx P w)).is h ks a:=by
 obtain⟨_,zc,r,o,h1,h2,⟨n,f⟩,_⟩:=(show ObjOk P w H h a (.tup (ks.map V.bl)) from ok a _ e);exact⟨o,zc.toArray,n,h1,h2,f,by simpa using OM r⟩
theorem Lf{xs:BX}(ok:HOk P w H h)(e:H a=some (dB P w a xs))(z:Cv H xs):xs.length<=sizeLine/\(a==sysModules)=false/\h.DictOfH (tupleKind (Fx P w)) a (bxv xs):=by
 obtain⟨⟨o,es,f,h1,h2,g,i,j,k,l⟩,_⟩:=(show ObjOk P w H h a (dB P w a xs) from ok a _ e);refine⟨k,l,o,es,f,h1,h2,g,i,λx n=>?_,j⟩;obtain⟨q,m,rfl⟩:=ZBN.mp n;exact Hu ok (z q m)
theorem OH{xs:BX}(G:xs.length<=sizeLine)(hd:(a==sysModules)=false)(z:h.DictOfH (tupleKind (Fx P w)) a (bxv xs)):ObjOk P w H' h a (dB P w a xs):=by
 obtain⟨o,es,f,h1,h2,g,i,_,j⟩:=z;refine⟨⟨o,es,f,h1,h2,g,i,j,G,hd⟩,⟨o,h1⟩,λg1 g2 ⟨o,es,f,h1,h2,g,i,j,l,m⟩ k=>⟨o,es,f,k _ h1,h2,g,i,j,l,m⟩⟩
end
noncomputable def DC(xs:BX)(ks:List Bool):Bool:=xs.any λq=>decide (q.1=ks)
theorem L0(xs:BX)(ks:List Bool):(atKey (bxv xs) ks).isSome=DC xs ks:=by
 unfold atKey bxv DC
 induction xs with
 | nil=>rfl
 | cons q r f =>
  rw[ZBU,ZC3,ZCx]
  by_cases e:q.1=ks
  ·simp[e]
  ·simp only[e,decide_false,Bool.false_or];exact f
section
variable {X:Cx}{o i e value:Expr}{pos pos' tpos:Pos}{td ty tv:TE}
noncomputable def IL(P:Program)(w:World):R2:=λx y H Q=>match x,y with
 | .ref b,.ref a=>∃xs ks,H b=some (.tup (ks.map V.bl))/\H a=some (dB P w a xs)/\Cv H xs/\Q (.bl (!DC xs ks)) H
 | _,_=>False
theorem YG(hu:X.A.units+60<cLine):zv X (compareOp .NotIn) (IL X.prog X.w):=by
 intro El s Z H x y v u Q I i j q
 cases x <;> cases y <;> first
  | exact False.elim q
  | (obtain⟨xs,ks,h1,h2,g,q⟩:=q
     cases (show v=Value.ref _ from i);cases (show u=Value.ref _ from j);obtain⟨z,hd,f⟩:=Lf I.hok h2 g;refine wpAny_notIn_heap (tupleKind_room_in1 (by lia)) (Hu I.hok h1) hd f ?_;rw[L0];exact⟨.bl (!DC xs ks),H,I.tok _,rfl,q⟩)
noncomputable def Gq(P:Program)(w:World):R2:=λx y H Q=>match x,y with
 | .ref a,.ref b=>∃xs ks c v,H b=some (.tup (ks.map V.bl))/\H a=some (dB P w a xs)/\Cv H xs/\atKey (bxv xs) ks=some (c,.bool v)/\Q (.bl v) H
 | _,_=>False
theorem aV(hu:X.A.units+60<cLine)(G:PE X o td)(hi:PE X i ty)(hs:GM i:=by intro _ _;rfl):PE X (.Subscript o i pos) (tOp (Gq X.prog X.w) td ty):=by
 intro El s Z H Q I h;refine QV PySem.F.slot_dict_getitem.lookup hs (zm (G El s Z H _ I h) λu s1 ⟨x,H1,j,p,n⟩=>zm (hi El s1 Z H1 _ j n) λm s2 ⟨y,H2,f,r,q⟩=>?_)
 cases x <;> cases y <;> first
  | exact False.elim q
  | (obtain⟨xs,ks,c,v,h1,h2,k,l,q⟩:=q
     cases (show u=Value.ref _ from p);cases (show m=Value.ref _ from r);obtain⟨z,hd,g⟩:=Lf f.hok h2 k;exact⟨g.typeIs,wpAny_getItem_heap (tupleKind_room_in1 (by lia)) (Hu f.hok h1) g l ⟨.bl v,H2,f.tok _,rfl,q⟩⟩)
noncomputable def GL(P:Program)(w:World):D7:=λo i v H Q=>match o,i,v with
 | .ref a,.ref b,.bl v=>∃xs ks,H b=some (.tup (ks.map V.bl))/\H a=some (dB P w a xs)/\Cv H xs/\DC xs ks=false/\xs.length<sizeLine/\Q (upd H a (dB P w a (xs++[(ks,b,v)])))
 | _,_,_=>False
theorem Ud(hu:X.A.units+60<cLine):Fg X (GL X.prog X.w):=by
 intro El s Z H o i v p n u Q I t r x h
 cases o <;> cases i <;> cases v <;> first
  | exact False.elim h
  | (obtain⟨xs,ks,h1,h2,j,k,l,q⟩:=h
     cases (show p=Value.ref _ from t);cases (show n=Value.ref _ from r);cases (show u=Value.bool _ from x);obtain⟨z,hd,g⟩:=Lf I.hok h2 j;refine wpAny_setItem_heap (hsz:=by unfold bxv;rw[ZBB];exact z) (tupleKind_room_in1 (by lia)) (Hu I.hok h1) g λh' f hs=>?_
     rw[show storedH (bxv xs) ks _ _=bxv (xs++[(ks,_,_)]) by
      unfold storedH;rw[L0,k,if_neg (by decide)];unfold bxv;rw[ZBH];rfl]at f
     have he:∃q,h'.get? _=some q:=let ⟨q,_,_,m,_⟩:=f;⟨q,m⟩;exact⟨_,KJ I (by rw[h2];exact True.intro) hs he (OH (by rw[ZBS];exact l) hd f),q⟩)
noncomputable def Kz(P:Program)(w:World):TE:=λ_ H Q=>∀p,H p=none->Q (.ref p) (upd H p (dB P w p []))
theorem Wg:PE X (.Dict [] [] pos) (Kz X.prog X.w):=λEl s Z H Q I h =>
 wpAny_Dict_empty ⟨.ref s.heap.objs.size,_,I.laid (a:=s.heap.objs.size) (o:=dB X.prog X.w s.heap.objs.size []) (t':=s.toks) (λ_ _ q=>ZBG _ q) (ZBD _)
  (OH (ZBT _) (beq_eq_false_iff_ne.mpr (Ne.symm (ZBR I.big))) ⟨_,#[],0,ZBP _ rfl,⟨rfl,rfl,rfl⟩,rfl,rfl,(λx f=>by cases f),List.nodup_nil⟩),rfl,h _ (I.hok.fresh (ZBD _))⟩
end
section
variable {X:Cx}{P:Program}{w:World}{o i:Expr}{pos:Pos}{td ty:TE}
theorem Zj(z:X.prog=P:=by rfl)(hw:X.w=w:=by rfl):PE X (.Dict [] [] pos) (Kz P w):=by subst z hw;exact Wg
theorem Xr(hu:X.A.units+60<cLine)(z:X.prog=P:=by rfl)(hw:X.w=w:=by rfl):zv X (compareOp .NotIn) (IL P w):=by subst z hw;exact YG hu
theorem bS(hu:X.A.units+60<cLine)(G:PE X o td)(hi:PE X i ty)(hs:GM i:=by intro _ _;rfl)(z:X.prog=P:=by rfl)(hw:X.w=w:=by rfl):PE X (.Subscript o i pos) (tOp (Gq P w) td ty):=by subst z hw;exact aV hu G hi hs
theorem ar(hu:X.A.units+60<cLine)(z:X.prog=P:=by rfl)(hw:X.w=w:=by rfl):Fg X (GL P w):=by subst z hw;exact Ud hu
end
theorem ai{P w}:CS (IL P w):=λx y H Q f h q=>by
 unfold IL at *;split at q
 ·obtain⟨xs,ks,a,b,c,q⟩:=q;exact⟨xs,ks,a,b,c,h _ _ q⟩
 ·exact q.elim
theorem YO{P w}:CS (Gq P w):=λx y H Q f h q=>by
 unfold Gq at *;split at q
 ·obtain⟨xs,ks,c,v,a,b,d,e,q⟩:=q;exact⟨xs,ks,c,v,a,b,d,e,h _ _ q⟩
 ·exact q.elim
theorem TV{P w}:Iy (GL P w):=λo i v H Q f h q=>by
 unfold GL at *;split at q
 ·obtain⟨xs,ks,a,b,c,d,e,q⟩:=q;exact⟨xs,ks,a,b,c,d,e,h _ q⟩
 ·exact q.elim
theorem Wz{P w}:Ap (Kz P w):=λZ H Q g h q=>λp f=>h _ _ (q p f)
section
variable {X:Cx}{K:W.Frag}{o:Expr}{to:TE}{apos cpos:Pos}
noncomputable def Lp:V->List V->Hp->VK->Prop:=λx vs H Q=>match x,vs with
 | .int i,[]=>Q (.int (Builtin.Int.intBits i:Nat)) H
 | _,_=>False
theorem Rw:MtR X "int.bit_length" Lp:=by
 intro El s Z H x vs v us Q I g f q
 match x,vs,q with
 | .int i,[],q =>
  cases f;obtain⟨t,rfl⟩:=(show ∃t,v=Value.int i t from g);exact PyProof.Rows.call_int_bit_length ⟨.int (Builtin.Int.intBits i:Nat),H,I.tok _,⟨_,rfl⟩,q⟩
theorem QQ(U:PE X o to)(z:attributeBase o "bit_length" X.env (eval o X.env)=eval o X.env:=by rfl)(G:(apos.endLine==cpos.line)=true:=by rfl)(O:X.K=K:=by rfl) :
 PE X (.Call (.Attribute o "bit_length" apos) [] [] cpos) (NV K "int" Lp to):=O▸XA PySem.F.plainAttrs_int PySem.F.slot_int_bit_length PySem.F.type_int_bit_length Rw U z G
end
noncomputable def Ite(K:W.Frag)(l:Addr):It :=
 ⟨λi H=>∃xs x,zr K H l xs/\xs[i]?=some x,
  λi H v H'=>∃p x,H p=none/\v=.ref p/\H'=upd H p (.tup [.int i,x])/\∀xs,zr K H l xs->xs[i]?=some x,
  λi H=>∃xs,zr K H l xs/\xs.length<=i⟩
theorem SI{e it:Addr}(O:e≠it) :
 Turn P w K (.Tuple es kt tpos) (Ite K l) [e,it] e (λi h=>(∃old,IsEnum h e it (i:Int) old)/\h.IsListIter it l i) where
 mem:=by simp
 obj:=λi h st b f=>by
  obtain⟨⟨old,hz⟩,⟨Y,D,c1,T⟩⟩:=st;simp only[ZBI,ZBk,or_false]at f
  rcases f with rfl | rfl
  ·exact⟨_,hz,λv q=>nomatch q⟩
  ·exact⟨Y,D,λv q=>by rw[T]at q;cases q⟩
 keep:=λi h h' ⟨⟨old,hz⟩,h1⟩ k=>⟨⟨old,k e (by simp) _ hz⟩,h1.at λo q=>k it (by simp) o q⟩
 item:=by
  intro X t hw r G i El s Z H E I hf st y;subst t hw r;obtain⟨xs,x,j,J⟩:=y;obtain⟨⟨old,hz⟩,h1⟩:=st;obtain⟨zc,z,p,_⟩:=I.list j;obtain⟨u,hu,ru⟩:=z.get J;refine wpAny_pyNext_enum_item hz h1 p.isList (x:=u) (by simpa using hu) O λh' L M z3 z4 z5=>?_
  refine⟨_,rfl,?_⟩
  have C:∀b v,b∉[e,it]->s.heap.get? b=some v->h'.get? b=some v:=λb v f q=>by
   simp only[ZBI,ZBk,or_false,not_or]at f;exact z5 b v f.1 f.2 q
  have R:zd X El Z (upd H s.heap.objs.size (.tup [.int i,x])) { s with heap:=h' }:=by
   refine I.turnedNew (ch:=[e,it]) (λb f=>hf b f) (ZBD _) C ?_ λb f=>?_
   ·exact⟨smq rfl,[.int i s.toks,u],.cons ⟨_,rfl⟩ (.cons ru .nil),⟨_,z3,rfl,⟨_,rfl⟩,rfl⟩⟩
   ·simp only[ZBI,ZBk,or_false]at f
    rcases f with rfl | rfl
    ·exact⟨_,L⟩
    ·obtain⟨o,q,_⟩:=M;exact⟨o,q⟩
  refine wpAny_letOwnedTupleGo_enum (s:={ s with heap:=h',toks:=s.toks+1 }) L λm z8 N=>?_
  have g:=hf e (by simp)
  have neT:∀b,b∈[e,it]->b≠s.heap.objs.size:=λb f q=>by
   have B:∃o,s.heap.get? b=some o:=by
    simp only[ZBI,ZBk,or_false]at f
    rcases f with rfl | rfl
    ·exact⟨_,hz⟩
    ·obtain⟨o,q,_⟩:=h1;exact⟨o,q⟩
   obtain⟨o,W⟩:=B
   have:=ZBF W
   rw[q]at this;exact ZBa _ this
  have n:∀b∈[e,it],upd H s.heap.objs.size (.tup [.int i,x]) b=none:=λb f=>by rw[AR (neT b f)];exact(hf b f).1
  have S:zd X El Z (upd H s.heap.objs.size (.tup [.int i,x])) { s with heap:=m,toks:=s.toks+1 } :=
   R.turned (t':=s.toks+1) (λb o f q=>(N.2 b f).trans q) (n e (by simp)) g.2.1 g.2.2.2.1 g.2.2.2.2.1 g.2.2.2.2.2
  have up:∀b o,b≠e->h'.get? b=some o->m.get? b=some o:=λb o f q=>(N.2 b f).trans q
  exact⟨.ref s.heap.objs.size,_,S,rfl,⟨_,x,I.hok.fresh (ZBD _),rfl,rfl,λa0 h=>by rw[I.list_inj h j];exact J⟩,⟨⟨_,z8⟩,M.at λo q=>up _ o (Ne.symm O) q⟩,n⟩
 done:=by
  intro X t hw r G i El s Z H E I hf st y;subst t hw r;obtain⟨xs,j,hl⟩:=y;obtain⟨⟨old,hz⟩,h1⟩:=st;obtain⟨zc,z,p,_⟩:=I.list j;have D:=z.length;refine wpAny_pyNext_enum_end (I.ok.hd G) hz h1 p.isList (by simp;lia) λh' z7=>⟨rfl,?_⟩
  obtain⟨f0,f1,f2,U,f4,V⟩:=hf it (by simp);exact I.turned (t':=s.toks) (λb o f q=>z7 b o f q) f0 f1 U f4 V
 self:=λ_ _ _ _ _ st h=>wpAny_pyIter_enum st.1.choose_spec h
section
variable {X:Cx}
noncomputable def Nh(K:W.Frag)(ta:TA):TI:=λZ H R=>ta Z H λvs H1=>match vs with
 | [.ref a]=>(∃xs,zr K H1 a xs)/\R (Ite K a) H1
 | _=>False
theorem FK {a:Expr} {p:Pos} (G:Gl X "enumerate") (hm:X.mg "enumerate" = none) (ha:PA X [a] ta)
 (hs:starEach [a] X.env=[(false,eval a X.env)]:=by rfl) (z:X.K=K:=by rfl) :
 PI X (.Tuple es kt tpos) (.Call (.Name "enumerate" p) [a] [] pos) (Nh K ta):=by
 subst z;intro El s Z H R I h;refine Call_ (CO I G hm (by rfl:bootBuiltins "enumerate" = some (.type "enumerate")) (PyProof.Rows.callWith_type1 (zm (ha pos El s Z H _ I h) λus s1 ⟨vs,H1,f,r1,n⟩=>?_) (by rw[hs];rfl) (by rfl)))
 match vs,n,r1 with
 | [.ref l1],⟨⟨xs,k⟩,q⟩,r1 =>
 cases r1 with
 | cons r o =>
 cases o;cases r;obtain⟨zc,v,m,_⟩:=f.list k;refine call_enumerate_list m.isList λh' i t w u=>?_
 refine wpAny_pyIter_enum (s:={ s1 with heap:=h' }) i ?_;have j:zd X El Z H1 { s1 with heap:=h' }:=f.kept (t':=s1.toks) u;refine⟨_,_,_,_,H1,rfl,j,SI (l:=l1) (it:=s1.heap.objs.size) (ZC6 (ZBu _)),⟨⟨_,i⟩,t⟩,λb g=>?_,q⟩;refine f.fpOk ?_ (f.hok.fresh ?_)
 all_goals
  simp only[ZBI,ZBk,or_false]at g
  rcases g with rfl | rfl
  ·exact ZCS _
  ·exact ZBD _
theorem X6(h:CI ta):EG (Nh K ta):=λZ H Q f k q=>h _ _ _ _ (λvs _ q=>by
 match vs,q with
 | [.ref a],⟨h1,q⟩=>exact⟨h1,k _ _ q⟩) q
theorem Fw {g:TG} {tc:TT} (Pv:Nat->List V->Hp->Prop) (h0:Pv 0 [] H) (U:∀i zs H,i<=xs.length->Pv i zs H->zr K H l xs) (hz:∀i zs H,i<xs.length->Pv i zs H->zs.length<sizeLine)
 (hs:∀i x zs H p,xs[i]?=some x->Pv i zs H->H p=none->g (.ref p) σc (upd H p (.tup [.int (i:Nat),x])) λz H2=>tc z H2 λb G=>if b=true then te z G λv O=>Pv (i+1) (zs++[v]) O else Pv (i+1) zs G)
 (hd:∀zs H,Pv xs.length zs H->∀p,H p=none->Q (.ref p) (upd H p (.lst zs))):C3 (Ite K l) g tc te σc Q H:=by
 refine⟨λi m zs H=>m=xs.length-i/\i<=xs.length/\Pv i zs H,⟨xs.length,by simp,ZBT _,h0⟩,?_⟩;rintro i m zs H ⟨rfl,hi,p⟩;have f:=U i zs H hi p
 by_cases zn:i<xs.length
 ·refine .inr ⟨⟨xs,xs[i],f,by simp[zn]⟩,hz i zs H zn p,Pv (i+1),λo H' n=>⟨xs.length-(i+1),by lia,rfl,zn,n⟩,?_⟩;rintro v H' ⟨pp,x,j,rfl,rfl,k⟩;exact hs i x zs H pp (k xs f) p j
 ·have e:i=xs.length:=by lia
  subst e;exact .inl ⟨⟨xs,f,ZBD _⟩,hd zs H p⟩
end
theorem Ve:∀m<7,(Builtin.Int.intBits ((2^m:Nat):Int):Nat)=m+1:=by decide +kernel
def TyS(K:W.Frag)(H:Hp)(x:V)(t:String):Prop:=match x with
 | .int _=>t = "int"
 | .bl _=>t = "bool"
 | .ref a=>(t = "tuple" /\ ∃xs,zj K H a xs)\/(t = "list" /\ ∃xs,zr K H a xs)
 | _=>False
noncomputable def CT(t T:String):Bool:=t==T||(t == "bool" && T == "int")
section
variable {X:Cx}{K:W.Frag}
theorem SE{El:List (Addr×Obj)}{x:V}{t:String}(I:zd X El Z H s)(G:zi x u)(h:TyS X.K H x t) :
 (t = "int" \/ t = "bool" \/ t = "tuple" \/ t = "list")/\u≠Value.builtin "__main__.__loader__#opaque" /\ ∃O:Heap->Prop,PySem.W.KitX X.K u (.type t) O/\O s.heap:=by
 cases x with
 | int i =>
  obtain⟨k,rfl⟩:=(show ∃t,u=Value.int i t from G);cases (show t = "int" from h);exact⟨.inl rfl,(λz=>nomatch z),_,PySem.W.kitx_int,True.intro⟩
 | bl b =>
  cases (show u=Value.bool b from G);cases (show t = "bool" from h);exact⟨.inr (.inl rfl),(λz=>nomatch z),_,PySem.W.kitx_bool,True.intro⟩
 | ref a =>
  cases (show u=Value.ref a from G)
  rcases h with ⟨rfl,xs,f⟩ | ⟨rfl,xs,f⟩
  ·obtain⟨zc,g,p,_⟩:=I.tuple f;obtain⟨o,h1,h2,_⟩:=p;exact⟨.inr (.inr (.inl rfl)),(λz=>nomatch z),_,PySem.W.kitx_tuple,⟨o,h1,h2⟩⟩
  ·obtain⟨zc,g,p,_⟩:=I.list f;obtain⟨o,n,h1,h2,_⟩:=p;exact⟨.inr (.inr (.inr rfl)),(λz=>nomatch z),_,PySem.W.kitx_list,⟨o,h1,h2⟩⟩
 | _=>exact False.elim h
end
open AutoSeq1 (wpAny_loadPart')
section
variable {prog:Program}{w:World}{A:Around}{E:Value->Shared->Prop}{s:Shared}
theorem aB {j tp:Addr} {k:Nat} {zc:Array Value} {z:Value} {Q:Value->Shared->Prop} (G:s.heap.IsTupleIter j tp k) (O:s.heap.IsTuple tp zc) (hz:zc[k]?=some z)
 (q:∀h',h'.IsTupleIter j tp (k+1)->Heap.SameBut j s.heap h'->Q z { s with heap:=h' }):wpAny (model prog w) A (Builtin.SmallTypes.nextOf (.ref j)) Q E s:=by
 obtain⟨i,g1,g2,g3⟩:=id G;obtain⟨ol,f,_,nl,g⟩:=O;unfold Builtin.SmallTypes.nextOf;refine ZBA (wpAny_callSpecial?_slot (name:=Str.ofString "__next__") G.typeIs F.slot_tuple_iterator_next (ZB1 F.slot_tuple_iterator_next G.typeIs F.entry_tuple_iterator_next ?_ (F.args_tuple_iterator_next_1 _)));show wpAny _ _ (field (.ref j) 0 >>= _) _ _ s;refine ZBA (ZCP g1 g3 (x:=.ref tp) rfl ?_);show wpAny _ _ (if (Value.ref tp==Value.none)=true then _ else _) _ _ s;rw[if_neg (c:=(Value.ref tp==Value.none)=true) (λz=>ZBz z)];show wpAny _ _ (field (.ref j) 1 >>= _) _ _ s;refine ZBA (ZCP g1 g3 (x:=.int k 0) rfl ?_);show wpAny _ _ (seqItems? (.ref tp) >>= _) _ _ s;refine ZBA (wpAny_seqItems f g ?_);simp only[ZBj,hz];refine ZBA (ZCM g1 g3 (by simp) (ZBC ⟨z,rfl,ZBC (q _ ?_ (ZB2 ..))⟩));refine⟨_,ZCv _ g1 (Obj.isFreed_of_fields (Obj.data_mapFields g3 _)),(Obj.cls_mapFields ..).trans g2,?_⟩;rw[Obj.data_mapFields g3];simp[rawInt]
theorem Qk {j tp:Addr} {k:Nat} {zc:Array Value} {Q:Value->Shared->Prop} (O:A.handled=none) (G:s.heap.IsTupleIter j tp k) (U:s.heap.IsTuple tp zc) (hz:zc[k]?=none)
 (q:∀h' e,Heap.ExtBut j s.heap h'->(∃o,h'.get? e=some o/\o.cls=.type "StopIteration")->E (.ref e) { s with heap:=h' }):wpAny (model prog w) A (Builtin.SmallTypes.nextOf (.ref j)) Q E s:=by
 obtain⟨i,g1,g2,g3⟩:=id G;obtain⟨ol,f,_,nl,g⟩:=U;unfold Builtin.SmallTypes.nextOf;refine ZBA (wpAny_callSpecial?_slot (name:=Str.ofString "__next__") G.typeIs F.slot_tuple_iterator_next (ZB1 F.slot_tuple_iterator_next G.typeIs F.entry_tuple_iterator_next ?_ (F.args_tuple_iterator_next_1 _)));show wpAny _ _ (field (.ref j) 0 >>= _) _ _ s;refine ZBA (ZCP g1 g3 (x:=.ref tp) rfl ?_);show wpAny _ _ (if (Value.ref tp==Value.none)=true then _ else _) _ _ s;rw[if_neg (c:=(Value.ref tp==Value.none)=true) (λz=>ZBz z)];show wpAny _ _ (field (.ref j) 1 >>= _) _ _ s;refine ZBA (ZCP g1 g3 (x:=.int k 0) rfl ?_);show wpAny _ _ (seqItems? (.ref tp) >>= _) _ _ s;refine ZBA (wpAny_seqItems f g ?_);simp only[ZBj,hz];refine ZBA (wpAny_rule (ZBA (ZCM g1 g3 (by simp) ?_)));show wpAny _ _ (newExc (.type "StopIteration") [] >>= λz=>_) _ _ _;refine ZBA ?_;simp only[newExc,newTuple];refine ZBA (ZB9 (hd:=by size_fits) ?_);refine ZBA (m:=firstArgMember _ _) (wpAny_of_eq (a:=Value.none) (by first | (simp only[firstArgMember];rfl) | rfl) ?_);refine ZB9 (hd:=by size_fits) ?_;simp only[raiseNew];refine ZBA (wpAny_handled ?_)
 first | rw[O] | rw[show A.in1.handled=none from O]
 refine ZBA (ZBC (wpAny_throw ?_));exact q _ _ (((ZB2 ..).extBut.push _).push _) ⟨_,ZBP _ rfl,rfl⟩
theorem Vr(G:A.handled=none)(j tp:Addr)(O:tp≠j)(zc:Array Value) :
 Draws prog w A j [j,tp] zc.size (λk v=>zc[k]?=some v) (λk h=>h.IsTupleIter j tp k/\h.IsTuple tp zc) where
 live:=λ_ _ st=>by obtain⟨⟨o,m,_⟩,_⟩:=st;exact⟨o,m⟩
 frame:=λ_ _ _ st g=>by
  obtain⟨f,o,h1,h2⟩:=st;exact⟨f.at λo e=>g j (by simp) o e,o,g tp (by simp) o h1,h2⟩
 item:=λk s Q E hi st l=>by
  refine aB st.1 st.2 (z:=zc[k]) (by simp[hi]) λh' h1 h2=>?_
  exact l _ h' s.toks (by simp[hi]) ⟨h1,st.2.extBut h2.extBut O⟩ h2
 done:=λs Q E st i=>Qk G st.1 st.2 (by simp) i
theorem XO(tp:Addr)(zc:Array Value)(n:Nat)(z:Option Addr)(sl:Array (Option Value)) :
 Meets (Builtin.«enumerate.__new__» ⟨[.type "enumerate",.ref tp],[]⟩) (λ_ R s=>s.heap.get? tp=some { cls:=.type "tuple",dict:=z,data:=.seq zc n,slots:=sl } /\
  R (.ok (.ret (.ref (s.heap.push { cls:=.type "tuple_iterator",data:=.fields #[.ref tp,.int 0 0] }).objs.size)))
   { s with heap:=(s.heap.push { cls:=.type "tuple_iterator",data:=.fields #[.ref tp,.int 0 0] }).push { cls:=.type "enumerate",data:=.fields #[.none,.bool false,.ref s.heap.objs.size,rawInt 0,.none,.none] } }) :=
 .of_wp λprog w A R s h=>by
  obtain⟨k,g,d,l,os⟩:=s;obtain⟨f,h⟩:=h;have i:=sub_enumerate;have j:Heap.IsTuple (Shared.heap ⟨k,g,d,l,os⟩) tp zc:=⟨_,f,rfl,n,rfl⟩
  wp_walk using wpAny_loadPart' f
  refine wpAny_stack_any λst=>ZBC ?_
  split
  ·rename_i c _ _ _ _ _;cases (c==Value.type "enumerate") <;> (wp_walk using wpAny_loadPart' f,wpAny_pyIter_tuple j;exact⟨_,rfl,h⟩)
  ·wp_walk using wpAny_loadPart' f,wpAny_pyIter_tuple j
   exact⟨_,rfl,h⟩
theorem VV {tp:Addr} {zc:Array Value} {Q:Value->Shared->Prop} (z:s.heap.IsTuple tp zc)
 (h:∀h',IsEnum h' (s.heap.objs.size+1) s.heap.objs.size 0 .none->h'.IsTupleIter s.heap.objs.size tp 0->(∀b o,s.heap.get? b=some o->h'.get? b=some o)->Q (.ref (s.heap.objs.size+1)) { s with heap:=h' }) :
 wpAny (model prog w) A (call (.type "enumerate") [.ref tp]) Q E s:=by
 obtain⟨⟨c,f,j,sl⟩,l,k,n,hd⟩:=z;cases (show c=.type "tuple" from k);cases (show j=.seq zc n from hd);refine callType_new F.called_enumerate (by decide) (F.typeCall_enumerate_1 _) (F.newCall_enumerate_1 _) (λobj=>F.args_object_init_2 obj _) F.entry_enumerate_new (XO tp zc n f sl) ⟨l,?_⟩;have i:(s.heap.push { cls:=.type "tuple_iterator",data:=.fields #[.ref tp,.int 0 0] }).objs.size=s.heap.objs.size+1:=ZB8 ..;show _/\_;rw[i];have g:=ZBP (s.heap.push { cls:=.type "tuple_iterator",data:=.fields #[.ref tp,.int 0 0] }) (o:={ cls:=.type "enumerate",data:=.fields #[.none,.bool false,.ref s.heap.objs.size,rawInt 0,.none,.none] }) rfl;rw[i]at g;have m:IsEnum _ (s.heap.objs.size+1) s.heap.objs.size 0 .none:=g;exact⟨⟨_,g,rfl⟩,h _ m ⟨_,ZBG _ (ZBP _ rfl),rfl,rfl⟩ λb o x=>ZBG _ (ZBG _ x)⟩
end
noncomputable def Kf(K:W.Frag)(l:Addr):It :=
 ⟨λi H=>∃xs x,zj K H l xs/\xs[i]?=some x,
  λi H v H'=>∃p x,H p=none/\v=.ref p/\H'=upd H p (.tup [.int i,x])/\∀xs,zj K H l xs->xs[i]?=some x,
  λi H=>∃xs,zj K H l xs/\xs.length<=i⟩
theorem Zk{e it:Addr}(U:e≠it) :
 Turn P w K (.Tuple es kt tpos) (Kf K l) [e,it] e (λi h=>(∃old,IsEnum h e it (i:Int) old)/\h.IsTupleIter it l i) where
 mem:=by simp
 obj:=λi h st b f=>by
  obtain⟨⟨old,hz⟩,⟨o1,V,c1,d1⟩⟩:=st;simp only[ZBI,ZBk,or_false]at f
  rcases f with rfl | rfl
  ·exact⟨_,hz,λv q=>nomatch q⟩
  ·exact⟨o1,V,λv q=>by rw[d1]at q;cases q⟩
 keep:=λi h h' ⟨⟨old,hz⟩,h1⟩ k=>⟨⟨old,k e (by simp) _ hz⟩,h1.at λo q=>k it (by simp) o q⟩
 item:=by
  intro X D hw C t i El s Z H E I hf st J;subst D hw C;obtain⟨xs,x,j,Y⟩:=J;obtain⟨⟨old,hz⟩,h1⟩:=st;obtain⟨zc,N,p,_⟩:=I.tuple j;obtain⟨u,hu,ru⟩:=N.get Y;have r:s.heap.IsTuple l zc.toArray:=p;have le:l≠e:=λq=>by obtain⟨o,g1,g2,_⟩:=r;rw[q]at g1;rw[show s.heap.get? e=_ from hz]at g1;cases g1;exact absurd (show Value.type "enumerate" = Value.type "tuple" from g2) (by decide)
  have li:l≠it:=λq=>by obtain⟨o,g1,g2,_⟩:=r;obtain⟨o',g3,g4,_⟩:=h1;rw[q,g3]at g1;cases g1;rw[g4]at g2;exact absurd g2 (by decide)
  refine wpAny_pyNext_enum_itemD (Vr (A:=X.A.in1) (show X.A.in1.handled=none from I.ok.hd t) it l li zc.toArray) hz ⟨h1,r⟩ ?_ U (by simp[U,Ne.symm le]) λy h' B py z1 R z3 z4 z5=>?_
  ·have:=(ZBW.mp hu).1
   simpa using this
  obtain⟨z2,_⟩:=R
  have ey:y=u:=by
   have:zc.toArray[i]?=some u:=by simpa using hu
   rw[this]at py;exact(ZBQ py).symm
  subst ey;refine⟨_,rfl,?_⟩
  have S:∀b v,b∉[e,it]->s.heap.get? b=some v->h'.get? b=some v:=λb v f q=>by
   simp only[ZBI,ZBk,or_false,not_or]at f;exact z5 b v f.1 f.2 q
  have I1:zd X El Z (upd H s.heap.objs.size (.tup [.int i,x])) { s with heap:=h' }:=by
   refine I.turnedNew (ch:=[e,it]) (λb f=>hf b f) (ZBD _) S ?_ λb f=>?_
   ·exact⟨smq rfl,[.int i B,y],.cons ⟨_,rfl⟩ (.cons ru .nil),⟨_,z3,rfl,⟨_,rfl⟩,rfl⟩⟩
   ·simp only[ZBI,ZBk,or_false]at f
    rcases f with rfl | rfl
    ·exact⟨_,z1⟩
    ·obtain⟨o,q,_⟩:=z2;exact⟨o,q⟩
  refine wpAny_letOwnedTupleGo_enum (s:={ s with heap:=h',toks:=B+1 }) z1 λm z8 z9=>?_
  have g:=hf e (by simp)
  have neT:∀b,b∈[e,it]->b≠s.heap.objs.size:=λb f q=>by
   have O:∃o,s.heap.get? b=some o:=by
    simp only[ZBI,ZBk,or_false]at f
    rcases f with rfl | rfl
    ·exact⟨_,hz⟩
    ·obtain⟨o,q,_⟩:=h1;exact⟨o,q⟩
   obtain⟨o,L⟩:=O
   have:=ZBF L
   rw[q]at this;exact ZBa _ this
  have n:∀b∈[e,it],upd H s.heap.objs.size (.tup [.int i,x]) b=none:=λb f=>by rw[AR (neT b f)];exact(hf b f).1
  have I2:zd X El Z (upd H s.heap.objs.size (.tup [.int i,x])) { s with heap:=m,toks:=B+1 } :=
   I1.turned (t':=B+1) (λb o f q=>(z9.2 b f).trans q) (n e (by simp)) g.2.1 g.2.2.2.1 g.2.2.2.2.1 g.2.2.2.2.2
  have up:∀b o,b≠e->h'.get? b=some o->m.get? b=some o:=λb o f q=>(z9.2 b f).trans q
  exact⟨.ref s.heap.objs.size,_,I2,rfl,⟨_,x,I.hok.fresh (ZBD _),rfl,rfl,λa0 h=>by rw[I.tuple_inj h j];exact Y⟩,⟨⟨_,z8⟩,z2.at λo q=>up _ o (Ne.symm U) q⟩,n⟩
 done:=by
  intro X D hw C t i El s Z H E I hf st J;subst D hw C;obtain⟨xs,j,hl⟩:=J;obtain⟨⟨old,hz⟩,h1⟩:=st;obtain⟨zc,N,p,_⟩:=I.tuple j;have V:=N.length;have r:s.heap.IsTuple l zc.toArray:=p;have W:s.TypeIs (.ref e) "enumerate":=⟨_,hz,rfl⟩;unfold pyNext;refine ZBA (wpAny_attempt (wpAny_callSpecial?_slot (name:=Str.ofString "__next__") W F.slot_enumerate_next (ZB1 F.slot_enumerate_next W F.entry_enumerate_next ?_ (F.args_enumerate_next_1 _))));show wpAny _ _ (field (.ref e) 2 >>= λz=>_) _ _ _;refine ZBA (ZCP hz rfl (x:=.ref it) rfl ?_);refine ZBA (Qk (by first | exact I.ok.hd t | simpa using I.ok.hd t) h1 r (by simp;lia) λh' x z7 M=>?_);obtain⟨o,L,G⟩:=M;refine ZBA (wpAny_isInstance (T:="StopIteration") (b:=true) ⟨o,L,G⟩ isSubtype_stop (ZBC ⟨rfl,?_⟩));obtain⟨f0,f1,f2,f3,f4,f5⟩:=hf it (by simp);exact I.turned (t':=s.toks) (λb o f q=>z7 b o f q) f0 f1 f3 f4 f5
 self:=λ_ _ _ _ _ st h=>wpAny_pyIter_enum st.1.choose_spec h
section
variable {X:Cx}
noncomputable def SK(K:W.Frag)(ta:TA):TI:=λZ H R=>ta Z H λvs H1=>match vs with
 | [.ref a]=>(∃xs,zj K H1 a xs)/\R (Kf K a) H1
 | _=>False
theorem JC {a:Expr} {p:Pos} (G:Gl X "enumerate") (hm:X.mg "enumerate" = none) (ha:PA X [a] ta)
 (hs:starEach [a] X.env=[(false,eval a X.env)]:=by rfl) (z:X.K=K:=by rfl) :
 PI X (.Tuple es kt tpos) (.Call (.Name "enumerate" p) [a] [] pos) (SK K ta):=by
 subst z;intro El s Z H R I h;refine Call_ (CO I G hm (by rfl:bootBuiltins "enumerate" = some (.type "enumerate")) (PyProof.Rows.callWith_type1 (zm (ha pos El s Z H _ I h) λus s1 ⟨vs,H1,f,r1,n⟩=>?_) (by rw[hs];rfl) (by rfl)))
 match vs,n,r1 with
 | [.ref l1],⟨⟨xs,k⟩,q⟩,r1 =>
 cases r1 with
 | cons r o =>
 cases o;cases r;obtain⟨zc,v,m,_⟩:=f.tuple k;refine VV (zc:=zc.toArray) m λh' i t u=>?_
 refine wpAny_pyIter_enum (s:={ s1 with heap:=h' }) i ?_;have j:zd X El Z H1 { s1 with heap:=h' }:=f.kept (t':=s1.toks) u;refine⟨_,_,_,_,H1,rfl,j,Zk (l:=l1) (it:=s1.heap.objs.size) (ZC6 (ZBu _)),⟨⟨_,i⟩,t⟩,λb g=>?_,q⟩;refine f.fpOk ?_ (f.hok.fresh ?_)
 all_goals
  simp only[ZBI,ZBk,or_false]at g
  rcases g with rfl | rfl
  ·exact ZCS _
  ·exact ZBD _
theorem Ig {g:TG} {tc:TT} (Pv:Nat->List V->Hp->Prop) (h0:Pv 0 [] H) (U:∀i zs H,i<=xs.length->Pv i zs H->zj K H l xs) (hz:∀i zs H,i<xs.length->Pv i zs H->zs.length<sizeLine)
 (hs:∀i x zs H p,xs[i]?=some x->Pv i zs H->H p=none->g (.ref p) σc (upd H p (.tup [.int (i:Nat),x])) λz H2=>tc z H2 λb G=>if b=true then te z G λv O=>Pv (i+1) (zs++[v]) O else Pv (i+1) zs G)
 (hd:∀zs H,Pv xs.length zs H->∀p,H p=none->Q (.ref p) (upd H p (.lst zs))):C3 (Kf K l) g tc te σc Q H:=by
 refine⟨λi m zs H=>m=xs.length-i/\i<=xs.length/\Pv i zs H,⟨xs.length,by simp,ZBT _,h0⟩,?_⟩;rintro i m zs H ⟨rfl,hi,p⟩;have f:=U i zs H hi p
 by_cases zn:i<xs.length
 ·refine .inr ⟨⟨xs,xs[i],f,by simp[zn]⟩,hz i zs H zn p,Pv (i+1),λo H' n=>⟨xs.length-(i+1),by lia,rfl,zn,n⟩,?_⟩;rintro v H' ⟨pp,x,j,rfl,rfl,k⟩;exact hs i x zs H pp (k xs f) p j
 ·have e:i=xs.length:=by lia
  subst e;exact .inl ⟨⟨xs,f,ZBD _⟩,hd zs H p⟩
end
theorem D0(a b:Nat):(a &&& b) / 2=a / 2 &&& b / 2:=by
 have:=Nat.and_div_two_pow (a:=a) (b:=b) (n:=1)
 simpa using this
theorem FS(a b:Nat):(a ^^^ b) / 2=a / 2 ^^^ b / 2:=by
 have:=Nat.xor_div_two_pow (a:=a) (b:=b) (n:=1)
 simpa using this
theorem VE(a b:Nat):(a ||| b) / 2=a / 2 ||| b / 2:=by
 have:=Nat.or_div_two_pow (a:=a) (b:=b) (n:=1)
 simpa using this
theorem Cr(a b:Nat):(a &&& b)%2=a%2*(b%2)/\(a ^^^ b)%2=(a%2+b%2)%2/\(a ||| b)%2=a%2+b%2-a%2*(b%2):=by
 have h1:=Nat.and_mod_two_pow (a:=a) (b:=b) (n:=1);have h2:=Nat.xor_mod_two_pow (a:=a) (b:=b) (n:=1);have g:=Nat.or_mod_two_pow (a:=a) (b:=b) (n:=1);rw[Nat.pow_one]at h1 h2 g;rw[h1,h2,g];have ha:a%2=0\/a%2=1:=by lia
 have f:b%2=0\/b%2=1:=by lia
 rcases ha with ha | ha <;> rcases f with f | f <;> rw[ha,f] <;> decide
theorem PY:∀a b:Nat,(a ^^^ b)+2*(a &&& b)=a+b:=by
 intro a
 induction a using Nat.strongRecOn with
 | ind a g =>
  intro b
  by_cases h0:a=0
  ·subst h0;simp
  ·have i:=g (a / 2) (by lia) (b / 2);rw[<- FS,<- D0]at i;obtain⟨l1,l2,_⟩:=Cr a b;have ha:a%2=0\/a%2=1:=by lia
   have f:b%2=0\/b%2=1:=by lia
   rcases ha with ha | ha <;> rcases f with f | f <;> rw[ha,f]at l1 l2 <;> lia
theorem Wb:∀a b:Nat,(a ||| b)+(a &&& b)=a+b:=by
 intro a
 induction a using Nat.strongRecOn with
 | ind a g =>
  intro b
  by_cases h0:a=0
  ·subst h0;simp
  ·have i:=g (a / 2) (by lia) (b / 2);rw[<- VE,<- D0]at i;obtain⟨l1,_,l2⟩:=Cr a b;have ha:a%2=0\/a%2=1:=by lia
   have f:b%2=0\/b%2=1:=by lia
   rcases ha with ha | ha <;> rcases f with f | f <;> rw[ha,f]at l1 l2 <;> lia
theorem Es(a b:Nat):Builtin.bitAnd (a:Int) (b:Int)=((a &&& b:Nat):Int):=by
 unfold Builtin.bitAnd;rw[ZBK (ZDA a),ZBK (ZDA b)];rfl
theorem bY(a b:Nat):Builtin.bitXor (a:Int) (b:Int)=((a ^^^ b:Nat):Int):=by
 rw[PyProof.Rows.bitXor_and,Es]
 have:=PY a b
 lia
theorem Y4(a b:Nat):Builtin.bitOr (a:Int) (b:Int)=((a ||| b:Nat):Int):=by
 rw[PyProof.Rows.bitOr_and,Es]
 have:=Wb a b
 lia
noncomputable def iL(xs:List Nat):List V:=xs.map λi=>V.int (i:Nat)
noncomputable def iD(xs:List Nat):List Dv:=xs.map λi=>Dv.int (i:Nat)
theorem Ai(xs:List Nat):(iL xs).length=xs.length:=by unfold iL;rw[ZBB]
theorem CK(xs ys:List Nat):iL (xs++ys)=iL xs++iL ys:=by unfold iL;rw[ZBH]
theorem DB{xs:List Nat}(h:(iL xs)[i]?=some v):∃x,xs[i]?=some x/\x∈xs/\v=.int (x:Nat):=by
 unfold iL at h;rw[ZBJ]at h;cases e:xs[i]? with
 | none=>rw[e]at h;cases h
 | some x=>rw[e]at h;exact⟨x,rfl,ZB3 e,(ZBQ h).symm⟩
theorem Ke:∀xs:List Nat,za K H (iD xs) (iL xs)
 | []=>by unfold iD iL za;rfl
 | x::xs=>by
  show za K H (Dv.int (x:Nat)::iD xs) (V.int (x:Nat)::iL xs);unfold za;exact⟨_,_,rfl,by unfold zf;rfl,Ke xs⟩
theorem Oa:∀xs:List Nat,BL (iD xs)=0
 | []=>by unfold iD;simp[BL]
 | x::xs=>by
  show BL (Dv.int (x:Nat)::iD xs)=_;unfold BL;rw[Oa xs];unfold At;rfl
theorem KR{H0:Hp}(s:EE H0 H)(z:H0 t=none):EE H0 (upd H t o):=λb u e=>by
 rw[AR (By e z)];exact s b u e
theorem EE.sqT(e:EE H H')(h:zj K H a xs):zj K H' a xs:=II h (λo k=>e _ _ k)
theorem EE.sqL(e:EE H H')(h:zr K H a xs):zr K H' a xs:=JY h (λo k=>e _ _ k)
noncomputable def sumTo(f:Nat->Int):Nat->Int
 | 0=>0
 | n+1=>sumTo f n+f n
theorem Ae:∀{n:Nat},(∀j,j<n->f j=g j)->sumTo f n=sumTo g n
 | 0,_=>rfl
 | n+1,h=>by
  show sumTo f n+f n=sumTo g n+g n;rw[Ae λj i=>h j (ZB6 i),h n (ZBu n)]
theorem JN(f:Nat->Int)(a:Nat):∀b,sumTo f (a+b)=sumTo f a+sumTo (λj=>f (a+j)) b
 | 0=>by show sumTo f a=sumTo f a+0;lia
 | b+1=>by
  show sumTo f (a+b)+f (a+b)=sumTo f a+(sumTo (λj=>f (a+j)) b+f (a+b));rw[JN f a b];lia
theorem PZ(f g:Nat->Int):∀n,sumTo f n+sumTo g n=sumTo (λj=>f j+g j) n
 | 0=>rfl
 | n+1=>by
  show sumTo f n+f n+(sumTo g n+g n)=sumTo (λj=>f j+g j) n+(f n+g n);rw[<- PZ f g n];lia
theorem N7(f g:Nat->Int):∀n,sumTo f n-sumTo g n=sumTo (λj=>f j-g j) n
 | 0=>rfl
 | n+1=>by
  show sumTo f n+f n-(sumTo g n+g n)=sumTo (λj=>f j-g j) n+(f n-g n);rw[<- N7 f g n];lia
theorem Ch(c:Int)(f:Nat->Int):∀n,c*sumTo f n=sumTo (λj=>c*f j) n
 | 0=>by show c*0=0;lia
 | n+1=>by
  show c*(sumTo f n+f n)=sumTo (λj=>c*f j) n+c*f n;rw[<- Ch c f n,Int.mul_add]
theorem PK(c:Int)(f:Nat->Int)(n:Nat):sumTo f n*c=sumTo (λj=>f j*c) n:=by
 rw[Int.mul_comm,Ch];exact Ae λj _=>Int.mul_comm _ _
theorem MW:∀n,sumTo (λ_=>0) n=0
 | 0=>rfl
 | n+1=>by show sumTo (λ_=>0) n+0=0;rw[MW n];rfl
theorem GE(f:Nat->Nat->Int)(m:Nat):∀n,sumTo (λi=>sumTo (λj=>f i j) m) n=sumTo (λj=>sumTo (λi=>f i j) n) m
 | 0=>by show(0:Int)=sumTo (λ_=>0) m;rw[MW]
 | n+1=>by
  show sumTo (λi=>sumTo (λj=>f i j) m) n+sumTo (λj=>f n j) m=sumTo (λj=>sumTo (λi=>f i j) n+f n j) m;rw[GE f m n,PZ]
theorem Et(g:Nat->Int)(x:Nat):∀n,sumTo (λy=>if x=y then g y else 0) n=if x<n then g x else 0
 | 0=>by simp[sumTo]
 | n+1=>by
  show sumTo (λy=>if x=y then g y else 0) n+(if x=n then g n else 0)=_;rw[Et g x n]
  by_cases h:x=n
  ·subst h;rw[if_neg (by lia),if_pos rfl,if_pos (by lia)];lia
  ·by_cases h2:x<n
   ·rw[if_pos h2,if_neg h,if_pos (by lia)];lia
   ·rw[if_neg h2,if_neg h,if_neg (by lia)];rfl
theorem GH(f:Nat->Int):∀m,sumTo f (2*m)=sumTo (λj=>f (2*j)+f (2*j+1)) m
 | 0=>rfl
 | m+1=>by
  show sumTo f (2*m)+f (2*m)+f (2*m+1)=sumTo (λj=>f (2*j)+f (2*j+1)) m+(f (2*m)+f (2*m+1));rw[GH f m];lia
noncomputable def chi:Nat->Nat->Nat->Int
 | 0,_,_=>1
 | n+1,a,b=>(if a%2=1/\b%2=1 then -1 else 1)*chi n (a / 2) (b / 2)
theorem Ix:∀n a b,chi n a b=chi n b a
 | 0,_,_=>rfl
 | n+1,a,b=>by
  show _*chi n (a / 2) (b / 2)=_*chi n (b / 2) (a / 2);rw[Ix n]
  congr 1
  by_cases h:a%2=1/\b%2=1
  ·rw[if_pos h,if_pos ⟨h.2,h.1⟩]
  ·rw[if_neg h,if_neg λz=>h ⟨z.2,z.1⟩]
theorem Fc:∀n a b c,chi n a (b ^^^ c)=chi n a b*chi n a c
 | 0,_,_,_=>rfl
 | n+1,a,b,c=>by
  show _*chi n (a / 2) ((b ^^^ c) / 2)=(_*chi n (a / 2) (b / 2))*(_*chi n (a / 2) (c / 2));rw[FS,Fc n];generalize chi n (a / 2) (b / 2)=x;generalize chi n (a / 2) (c / 2)=y;have e:=(Cr b c).2.1;have ha:a%2=0\/a%2=1:=by lia
  have f:b%2=0\/b%2=1:=by lia
  have g:c%2=0\/c%2=1:=by lia
  rw[e]
  rcases ha with ha | ha <;> rcases f with f | f <;> rcases g with g | g <;> rw[ha,f,g] <;> simp[Int.mul_neg,Int.neg_mul]
theorem chi_one:∀n a b,chi n a b=1\/chi n a b = -1
 | 0,_,_=>.inl rfl
 | n+1,a,b=>by
  show _*chi n (a / 2) (b / 2)=1\/_*chi n (a / 2) (b / 2) = -1
  rcases chi_one n (a / 2) (b / 2) with h | h <;> rw[h] <;> by_cases g:a%2=1/\b%2=1 <;> simp[g]
theorem Sn(n a b:Nat):chi n a b*chi n a b=1:=by
 rcases chi_one n a b with h | h <;> rw[h] <;> rfl
theorem Lx:∀n a,chi n a 0=1
 | 0,_=>rfl
 | n+1,a=>by
  show(if a%2=1/\0%2=1 then -1 else 1)*chi n (a / 2) (0 / 2)=1
  rw[if_neg (by lia),Nat.zero_div,Lx n];rfl
theorem N3:∀n b,b<2^n->sumTo (λa=>chi n a b) (2^n)=if b=0 then ((2^n:Nat):Int) else 0
 | 0,b,h=>by
  have:b=0:=by simpa using h
  subst this;rfl
 | n+1,b,h=>by
  rw[ZBf,ZB4,GH]
  have e:∀j,chi (n+1) (2*j) b+chi (n+1) (2*j+1) b=(if b%2=1 then 0 else 2)*chi n j (b / 2):=λj=>by
   show(if 2*j%2=1/\b%2=1 then -1 else 1)*chi n (2*j / 2) (b / 2)+(if (2*j+1)%2=1/\b%2=1 then -1 else 1)*chi n ((2*j+1) / 2) (b / 2)=_
   rw[show 2*j / 2=j by lia,show(2*j+1) / 2=j by lia,if_neg (by lia)]
   by_cases f:b%2=1
   ·rw[if_pos ⟨by lia,f⟩,if_pos f];lia
   ·rw[if_neg (λz=>f z.2),if_neg f];lia
  rw[Ae (g:=λj=>(if b%2=1 then 0 else 2)*chi n j (b / 2)) λj _=>e j,<- Ch,N3 n (b / 2) (by rw[ZBf]at h;lia)]
  by_cases f:b%2=1
  ·rw[if_pos f,Int.zero_mul,if_neg (by lia)]
  ·rw[if_neg f]
   by_cases h0:b=0
   ·subst h0;simp[Int.natCast_mul]
   ·rw[if_neg (by lia),if_neg h0];rfl
theorem xor_eq_zero{a b:Nat}:a ^^^ b=0 ↔ a=b:=by
 constructor
 ·intro h
  have:=congrArg (λz=>z ^^^ b) h
  simpa [Nat.xor_assoc] using this
 ·intro h;subst h;exact Nat.xor_self a
noncomputable def wt(n:Nat)(v:Nat->Int)(s:Nat):Int:=sumTo (λp=>chi n s p*v p) (2^n)
theorem LX(n:Nat)(a b:Nat->Int):sumTo (λs=>wt n a s*wt n b s) (2^n)=((2^n:Nat):Int)*sumTo (λx=>a x*b x) (2^n):=by
 have g:∀s,wt n a s*wt n b s=sumTo (λx=>sumTo (λy=>(a x*b y)*chi n s (x ^^^ y)) (2^n)) (2^n):=λs=>by
  unfold wt;rw[PK];refine Ae λx _=>?_
  rw[Ch];refine Ae λy _=>?_
  rw[Fc]
  ac_rfl
 rw[Ae λs _=>g s,GE,Ch];refine Ae λx f=>?_
 rw[GE]
 have e2:∀y,y<2^n->sumTo (λs=>a x*b y*chi n s (x ^^^ y)) (2^n)=if x=y then ((2^n:Nat):Int)*(a x*b y) else 0:=λy i=>by
  rw[<- Ch,N3 n _ (Nat.xor_lt_two_pow f i)]
  by_cases h:x=y
  ·rw[if_pos (xor_eq_zero.mpr h),if_pos h,Int.mul_comm]
  ·rw[if_neg (λz=>h (xor_eq_zero.mp z)),if_neg h,Int.mul_zero]
 rw[Ae e2,Et (λy=>((2^n:Nat):Int)*(a x*b y)),if_pos f]
theorem LD:∀(n:Nat) (f:Nat->Int) (t:Nat),t<2^n->sumTo (λx=>f (x ^^^ t)) (2^n)=sumTo f (2^n)
 | 0,f,t,h=>by
  have:t=0:=by simpa using h
  subst this;exact Ae λj _=>by rw[Nat.xor_zero]
 | n+1,f,t,h=>by
  rw[ZBf,ZB4,GH,GH];have k:=LD n (λj=>f (2*j)+f (2*j+1)) (t / 2) (by rw[ZBf]at h;lia);rw[<- k];refine Ae λj _=>?_
  have l:=FS (2*j) t;have m:=FS (2*j+1) t;have l1:=(Cr (2*j) t).2.1;have l2:=(Cr (2*j+1) t).2.1;rw[show 2*j / 2=j by lia]at l;rw[show(2*j+1) / 2=j by lia]at m;have i:t%2=0\/t%2=1:=by lia
  rcases i with i | i
  ·have g:2*j ^^^ t=2*(j ^^^ t / 2):=by lia
   have e2:2*j+1 ^^^ t=2*(j ^^^ t / 2)+1:=by lia
   rw[g,e2]
  ·have g:2*j ^^^ t=2*(j ^^^ t / 2)+1:=by lia
   have e2:2*j+1 ^^^ t=2*(j ^^^ t / 2):=by lia
   rw[g,e2,Int.add_comm]
theorem SC(n:Nat)(v:Nat->Int)(s t:Nat)(z:t<2^n):chi n s t*wt n v s=wt n (λx=>v (x ^^^ t)) s:=by
 unfold wt;rw[<- LD n (λp=>chi n s p*v p) t z,Ch];refine Ae λx _=>?_
 rw[Fc,<- Int.mul_assoc,Int.mul_comm (chi n s x),<- Int.mul_assoc,Sn,Int.one_mul]
theorem O0(n:Nat)(v:Nat->Int)(t:Nat)(z:t<2^n):sumTo (λs=>chi n s t*(wt n v s*wt n v s)) (2^n)=((2^n:Nat):Int)*sumTo (λx=>v (x ^^^ t)*v x) (2^n):=by
 rw[<- LX n (λx=>v (x ^^^ t)) v];refine Ae λs _=>?_
 rw[<- Int.mul_assoc,SC n v s t z]
theorem Tz(n:Nat)(v:Nat->Int)(p:Nat)(z:p<2^n):sumTo (λs=>chi n s p*wt n v s) (2^n)=((2^n:Nat):Int)*v p:=by
 have e:sumTo (λs=>chi n s p*wt n v s) (2^n)=sumTo (λs=>wt n (λx=>if p=x then 1 else 0) s*wt n v s) (2^n):=Ae λs _=>by
  congr 1
  unfold wt;rw[Ae (g:=λy=>if p=y then chi n s y else 0) λy _=>by by_cases h:p=y <;> simp[h],Et,if_pos z]
 rw[e,LX]
 congr 1
 rw[Ae (g:=λy=>if p=y then v y else 0) λy _=>by by_cases h:p=y <;> simp[h],Et,if_pos z]
theorem LU:∀{s b r c j:Nat},r<2^s->j<2^s->b<2->c<2->chi (s+1) (b*2^s+r) (c*2^s+j)=chi s r j*(if b=1/\c=1 then -1 else 1)
 | 0,b,r,c,j,hr,g,i,k=>by
  have w:r=0:=by simpa using hr
  have o:j=0:=by simpa using g
  subst w o;have m:b=0\/b=1:=by lia
  have n:c=0\/c=1:=by lia
  rcases m with rfl | rfl <;> rcases n with rfl | rfl <;> rfl
 | s+1,b,r,c,j,hr,g,i,k=>by
  have f:∀x:Nat,x*2^(s+1)=2*(x*2^s):=λx=>by rw[ZBf,ZB4 (2^s),<- Nat.mul_assoc,ZB4 x 2,Nat.mul_assoc]
  have p:(b*2^(s+1)+r)%2=r%2:=by rw[f];lia
  have t:(c*2^(s+1)+j)%2=j%2:=by rw[f];lia
  have u:(b*2^(s+1)+r) / 2=b*2^s+r / 2:=by rw[f];lia
  have v:(c*2^(s+1)+j) / 2=c*2^s+j / 2:=by rw[f];lia
  have l:chi (s+1+1) (b*2^(s+1)+r) (c*2^(s+1)+j)=(if r%2=1/\j%2=1 then -1 else 1)*chi (s+1) (b*2^s+r / 2) (c*2^s+j / 2):=by
   show(if (b*2^(s+1)+r)%2=1/\(c*2^(s+1)+j)%2=1 then -1 else 1)*chi (s+1) ((b*2^(s+1)+r) / 2) ((c*2^(s+1)+j) / 2)=_
   rw[p,t,u,v]
  rw[l,LU (s:=s) (by rw[ZBf]at hr;lia) (by rw[ZBf]at g;lia) i k,<- Int.mul_assoc];rfl
noncomputable def Ed(v:Nat->Int)(s k:Nat):Int:=if k / s%2=1 then v (k-s)-v k else v k+v (k+s)
noncomputable def Bj(v:Nat->Int):Nat->Nat->Int
 | 0=>v
 | s+1=>Ed (Bj v s) (2^s)
noncomputable def hs(v:Nat->Int)(s k:Nat):Int:=sumTo (λj=>chi s (k%2^s) j*v (k / 2^s*2^s+j)) (2^s)
theorem EI{v:Nat->Int}{s q r:Nat}(h:r<2^s):hs v s (q*2^s+r)=sumTo (λj=>chi s r j*v (q*2^s+j)) (2^s):=by
 unfold hs;have f:(q*2^s+r)%2^s=r:=by rw[ZB4,Nat.mul_add_mod,Nat.mod_eq_of_lt h]
 have e2:(q*2^s+r) / 2^s=q:=by rw[ZB4,Nat.mul_add_div (ZBn s),Nat.div_eq_of_lt h,Nat.add_zero]
 rw[f,e2]
theorem Sk{v:Nat->Int}{s:Nat}(q b r:Nat)(hr:r<2^s)(z:b<2) :
 Ed (hs v s) (2^s) (q*2^(s+1)+(b*2^s+r))=hs v (s+1) (q*2^(s+1)+(b*2^s+r)):=by
 have m:2^(s+1)=2^s+2^s:=by rw[ZBf];lia
 have l:b*2^s+r<2^(s+1):=by
  rw[m]
  have:b=0\/b=1:=by lia
  rcases this with e | e <;> subst e <;> lia
 rw[EI l,m,JN]
 have low:∀j,j<2^s->chi (s+1) (b*2^s+r) j=chi s r j:=λj g=>by
  have:=LU (c:=0) hr g z (by decide)
  rw[Nat.zero_mul,Nat.zero_add,if_neg (by lia),ZCs]at this;exact this
 have high:∀j,j<2^s->chi (s+1) (b*2^s+r) (2^s+j)=chi s r j*(if b=1 then -1 else 1):=λj g=>by
  have:=LU (c:=1) hr g z (by decide)
  rw[Nat.one_mul]at this;rw[this];simp
 have o:q*(2^s+2^s)+(b*2^s+r)=(2*q+b)*2^s+r:=by
  rw[Nat.add_mul,ZB4 2 q,Nat.mul_assoc,Nat.two_mul];lia
 have i:q*(2^s+2^s)=(2*q)*2^s:=by rw[ZB4 2 q,Nat.mul_assoc,Nat.two_mul]
 have eq1:q*(2^s+2^s)+2^s=(2*q+1)*2^s:=by rw[Nat.add_mul,Nat.one_mul,i]
 unfold Ed;rw[o]
 have p:((2*q+b)*2^s+r) / 2^s%2=b:=by
  rw[ZB4,Nat.mul_add_div (ZBn s),Nat.div_eq_of_lt hr];lia
 rw[p]
 have:b=0\/b=1:=by lia
 rcases this with e | e <;> subst e
 ·rw[if_neg (by decide)];have k:(2*q+0)*2^s+r+2^s=(2*q+1)*2^s+r:=by rw[Nat.add_zero,Nat.add_mul,Nat.one_mul];lia
  rw[k,EI hr,EI hr]
  congr 1
  ·refine Ae λj g=>?_
   rw[low j g,i];rfl
  ·refine Ae λj g=>?_
   show chi s r j*v ((2*q+1)*2^s+j)=chi (s+1) (0*2^s+r) (2^s+j)*v (q*(2^s+2^s)+(2^s+j));rw[high j g,if_neg (by decide),ZCs,<- Nat.add_assoc,eq1]
 ·rw[if_pos rfl];have k:(2*q+1)*2^s+r-2^s=(2*q)*2^s+r:=by rw[Nat.add_mul,Nat.one_mul];lia
  rw[k,EI hr,EI hr,Int.sub_eq_add_neg]
  congr 1
  ·refine Ae λj g=>?_
   rw[low j g,i]
  ·have neg:∀(f:Nat->Int) n,- sumTo f n=sumTo (λj=>- f j) n:=λf n=>by
    induction n with
    | zero=>rfl
    | succ n t=>show -(sumTo f n+f n)=sumTo (λj=>- f j) n + - f n;rw[<- t];lia
   rw[neg];refine Ae λj g=>?_
   show -(chi s r j*v ((2*q+1)*2^s+j))=chi (s+1) (1*2^s+r) (2^s+j)*v (q*(2^s+2^s)+(2^s+j));rw[high j g,if_pos rfl,<- Nat.add_assoc,eq1,Int.mul_neg,ZCs,Int.neg_mul]
theorem T9(s k:Nat):∃q b r,k=q*2^(s+1)+(b*2^s+r)/\r<2^s/\b<2:=by
 refine⟨k / 2^s / 2,k / 2^s%2,k%2^s,?_,Nat.mod_lt _ (ZBn s),Nat.mod_lt _ (by decide)⟩;have h1:=Nat.div_add_mod k (2^s);have h2:=Nat.div_add_mod (k / 2^s) 2;rw[ZBf];generalize k%2^s=r at *;generalize hd:k / 2^s=d at *;rw[<- Nat.add_assoc,ZB4 (2^s) 2,<- Nat.mul_assoc,<- Nat.add_mul,ZB4 (d / 2) 2,h2,ZB4];exact h1.symm
theorem P6(v:Nat->Int):∀s k,Bj v s k=hs v s k
 | 0,k=>by
  show v k=sumTo (λj=>chi 0 (k%2^0) j*v (k / 2^0*2^0+j)) 1;show v k=0+chi 0 (k%2^0) 0*v (k / 2^0*2^0+0)
  have:chi 0 (k%2^0) 0=1:=rfl
  rw[this,Int.one_mul,ZCQ];simp
 | s+1,k=>by
  have e:Bj v s=hs v s:=funext λk=>P6 v s k
  show Ed (Bj v s) (2^s) k=_;rw[e];obtain⟨q,b,r,rfl,hr,f⟩:=T9 s k;exact Sk q b r hr f
theorem Ze{v:Nat->Int}{k:Nat}(h:k<2^m):Bj v m k=sumTo (λj=>chi m k j*v j) (2^m):=by
 rw[P6]
 have:=EI (v:=v) (s:=m) (q:=0) h
 rw[Nat.zero_mul,Nat.zero_add]at this;rw[this];refine Ae λj _=>?_
 rw[Nat.zero_add]
theorem GN{v:Nat->Int}{k:Nat}(h:k<2^m):Bj v m k=wt m v k:=Ze h
noncomputable def manyF:Nat->Nat->Nat
 | 0,_=>0
 | f+1,x=>x%2+manyF f (x / 2)
@[irreducible] noncomputable def Dd(x:Nat):Nat:=manyF 64 x
theorem FI:∀f,manyF f 0=0
 | 0=>rfl
 | f+1=>by
  show 0%2+manyF f (0 / 2)=0;rw[Nat.zero_div,FI f]
theorem Ro:∀(f g x:Nat),x<2^f->f<=g->manyF g x=manyF f x
 | 0,g,x,h,_=>by
  have:x=0:=by simpa using h
  subst this;rw[FI,FI]
 | f+1,0,x,_,h=>by lia
 | f+1,g+1,x,h,i=>by
  show x%2+manyF g (x / 2)=x%2+manyF f (x / 2);rw[Ro f g (x / 2) (by rw[ZBf]at h;lia) (by lia)]
theorem EF{x:Nat}(h:x<2^n)(hn:n<=64):Dd x=manyF n x:=by
 unfold Dd;exact Ro n 64 x h hn
theorem GG:∀n x,manyF n x<=n
 | 0,_=>ZBD _
 | n+1,x=>by
  show x%2+manyF n (x / 2)<=n+1
  have:=GG n (x / 2)
  lia
theorem E3:∀n a b,chi n a b=if manyF n (a &&& b)%2=1 then -1 else 1
 | 0,_,_=>rfl
 | n+1,a,b=>by
  show(if a%2=1/\b%2=1 then -1 else 1)*chi n (a / 2) (b / 2)=if ((a &&& b)%2+manyF n ((a &&& b) / 2))%2=1 then -1 else 1
  rw[E3 n,D0,(Cr a b).1];generalize manyF n (a / 2 &&& b / 2)=k;have ha:a%2=0\/a%2=1:=by lia
  have f:b%2=0\/b%2=1:=by lia
  have g:k%2=0\/k%2=1:=by lia
  rcases ha with ha | ha <;> rcases f with f | f <;> rcases g with g | g <;> rw[ha,f] <;> simp[g,Nat.add_mod]
theorem Zb{a b:Nat}(h:a<2^n)(hn:n<=64):chi n a b=if Dd (a &&& b)%2=1 then -1 else 1:=by
 rw[EF (ZC0 ZCk h) hn,E3]
noncomputable def ixL(g:Nat->Int)(M:Nat):List V:=(List.range M).map λi=>V.int (g i)
theorem ixL_len:(ixL g M).length=M:=by unfold ixL;simp
theorem CH{k:Nat}(h:k<M):(ixL g M)[k]?=some (.int (g k)):=by unfold ixL;rw[ZBJ,ZBx h];rfl
theorem E6{k:Nat}(h:k<M):atI (ixL g M) (k:Int)=some (.int (g k)):=Ak rfl (CH h)
theorem TR(h:i<M):(ixL g M).take (i+1)=(ixL g M).take i++[V.int (g i)]:=by
 rw[ZBl,CH h];rfl
theorem E8(g:Nat->Int)(M:Nat):ixL g (M+1)=ixL g M++[V.int (g M)]:=by unfold ixL;rw[ZBw,ZBH];rfl
theorem FF(h:∀k,k<M->f k=g k):ixL f M=ixL g M:=by
 unfold ixL;exact ZCC λk i=>by rw[h k (ZBV.mp i)]
theorem NP{z:Int}:(ixL g M).set i (.int z)=ixL (λk=>if k=i then z else g k) M:=by
 refine List.ext_getElem? λk=>?_
 rw[List.getElem?_set,ixL_len]
 by_cases f:k<M
 ·rw[CH f]
  by_cases e:i=k
  ·subst e;rw[if_pos rfl,if_pos f,CH f,if_pos rfl]
  ·rw[if_neg e,CH f,if_neg (Ne.symm e)]
 ·have j:(ixL g M)[k]?=none:=ZCW (by rw[ixL_len];lia);have l:(ixL (λk=>if k=i then z else g k) M)[k]?=none:=ZCW (by rw[ixL_len];lia);rw[j,l];split
  ·split
   ·lia
   ·rfl
  ·rfl
noncomputable def Cn(b:Bool):Int:=if b=true then -1 else 1
noncomputable def AC(bs:List Bool)(p:Nat):Int:=Cn (bs.getD p false)
noncomputable def AL(g:Nat->Int):Nat->List (Nat×Int)
 | 0=>[]
 | i+1=>AL g i++(if g i=0 then [] else [(i,g i)])
theorem Pw:∀{n:Nat},(∀j,j<n->f j=g j)->AL f n=AL g n
 | 0,_=>rfl
 | n+1,h=>by
  show AL f n++(if f n=0 then [] else [(n,f n)])=AL g n++(if g n=0 then [] else [(n,g n)]);rw[Pw λj i=>h j (ZB6 i),h n (ZBu n)]
theorem Ee(g:Nat->Int):∀n,(AL g n).length<=n
 | 0=>ZBD _
 | n+1=>by
  unfold AL;rw[ZBS]
  have:=Ee g n
  split
  ·rw[List.length_nil];lia
  ·rw[ZDM];lia
theorem CV:∀{n:Nat} {q:Nat×Int},q∈AL g n->q.1<n/\q.2=g q.1/\q.2≠0
 | 0,q,h=>by cases h
 | n+1,q,h=>by
  rcases ZCB.mp h with h | h
  ·have:=CV h;exact⟨by lia,this.2⟩
  ·split at h
   ·cases h
   ·rename_i hn;rw[ZBX.mp h];exact⟨ZBu n,rfl,hn⟩
noncomputable def C1(q:Nat×Int):Dv:=.tup [.int q.1,.int q.2]
noncomputable def CZ(m:Nat)(ts:List (Nat×Int)):Dv:=.tup [.int m,.tup (ts.map C1)]
noncomputable def Bz(f:Nat->Int->Int):List (Nat×Int)->Int
 | []=>0
 | q::ts=>f q.1 q.2+Bz f ts
theorem Jc(f:Nat->Int->Int):∀xs ys,Bz f (xs++ys)=Bz f xs+Bz f ys
 | [],ys=>by show Bz f ys=0+Bz f ys;lia
 | x::xs,ys=>by
  show f x.1 x.2+Bz f (xs++ys)=f x.1 x.2+Bz f xs+Bz f ys;rw[Jc f xs ys];lia
theorem Gz(f:Nat->Int->Int)(g:Nat->Int)(h0:∀k,f k 0=0):∀n,Bz f (AL g n)=sumTo (λk=>f k (g k)) n
 | 0=>rfl
 | n+1=>by
  show Bz f (AL g n++(if g n=0 then [] else [(n,g n)]))=sumTo (λk=>f k (g k)) n+f n (g n);rw[Jc,Gz f g h0 n]
  congr 1
  split
  ·rename_i h;rw[h,h0];rfl
  ·show f n (g n)+0=_;lia
structure SumAt(K:W.Frag)(H:Hp)(v:V)(m:Nat)(ts:List (Nat×Int)):Prop where
 at_:∃(a b:Addr) (vs:List V),v=.ref a/\zj K H a [.int m,.ref b]/\zj K H b vs/\za K H (ts.map C1) vs
theorem SumAt.of(h:zf K H (CZ m ts) v):SumAt K H v m ts:=by
 unfold CZ zf at h;obtain⟨a,xs,rfl,ha,hr⟩:=h;unfold za at hr;obtain⟨x,r,rfl,h1,hr⟩:=hr;unfold zf at h1;subst h1;unfold za at hr;obtain⟨x,r,rfl,h2,hr⟩:=hr;unfold za at hr;subst hr;unfold zf at h2;obtain⟨b,vs,rfl,f,hr⟩:=h2;exact⟨a,b,vs,rfl,ha,f,hr⟩
theorem SumAt.rep(h:SumAt K H v m ts):zf K H (CZ m ts) v:=by
 obtain⟨a,b,vs,rfl,ha,f,hr⟩:=h.at_;unfold CZ zf;refine⟨a,_,rfl,ha,AU A6 (AU ?_ Ab)⟩;unfold zf;exact⟨b,vs,rfl,f,hr⟩
theorem SumAt.same(h:SumAt K H v m ts)(s:EE H H'):SumAt K H' v m ts:=.of (zf.same s _ _ h.rep)
theorem Dl{vs:List V}(h:za K H (ts.map C1) vs)(e:vs[i]?=some v):∃q c,ts[i]?=some q/\v=.ref c/\zj K H c [.int q.1,.int q.2]:=by
 have k:=h.length
 have hi:i<ts.length:=by
  have:=(ZBW.mp e).1
  rw[ZBB]at k;lia
 have g:(ts.map C1)[i]?=some (C1 ts[i]):=by rw[ZBJ,ZBE hi];rfl
 obtain⟨x,e2,f⟩:=h.get g;rw[e]at e2;cases e2;unfold C1 zf at f;obtain⟨c,xs,rfl,j,hr⟩:=f;unfold za at hr;obtain⟨x,r,rfl,h1,hr⟩:=hr;unfold zf at h1;subst h1;unfold za at hr;obtain⟨x,r,rfl,h2,hr⟩:=hr;unfold zf at h2;subst h2;unfold za at hr;subst hr;exact⟨ts[i],c,ZBE hi,rfl,j⟩
noncomputable def shT(a b:Int):Int:=a / (a.gcd b:Int)
noncomputable def shB(a b:Int):Int:=b / (a.gcd b:Int)
noncomputable def shD(a b:Int):Dv:=.tup [.int (shT a b),.int (shB a b)]
theorem Y5{x y:Int}(z:0<=x)(G:0<=y):Int.gcd y (x%y)=Int.gcd y x:=by
 unfold Int.gcd;rw[Int.natAbs_emod_of_nonneg z,Nat.gcd_comm,<- Nat.gcd_rec]
theorem Qx{a b:Int}{N:Nat}(ha:a.natAbs<N)(G:b.natAbs<N)(h0:0<b):(shT a b).natAbs<N/\(shB a b).natAbs<N/\0<(a.gcd b:Int)/\(a.gcd b:Int)<=b:=by
 have f:0<a.gcd b:=Int.gcd_pos_of_ne_zero_right a (by lia);have hle:(a.gcd b:Int)<=b:=Int.le_of_dvd h0 (Int.gcd_dvd_right ..);have k:∀z:Int,(z / (a.gcd b:Int)).natAbs<=z.natAbs:=λz=>Int.natAbs_ediv_le_natAbs z _
 exact⟨ZC0 (k a) ha,ZC0 (k b) G,by lia,hle⟩
def Ej:Sp:=λvs H Q _=>match vs with
 | [.int a,.int b]=>0<=a/\0<=b/\Q (.int (Int.gcd a b)) H
 | _=>False
theorem Ul:AT Ej:=λvs H Q f E h q=>by
 unfold Ej at *;split at q
 ·exact⟨q.1,q.2.1,h _ _ q.2.2⟩
 ·exact q.elim
def ER:Sp:=λvs H Q _=>match vs with
 | [.int a,.int b]=>0<b/\a.natAbs<2^1000/\b.natAbs<2^1000/\∀p,H p=none->Q (.ref p) (upd H p (.tup [.int (shT a b),.int (shB a b)]))
 | _=>False
theorem V7:AT ER:=λvs H Q g E h q=>by
 unfold ER at *;split at q
 ·exact⟨q.1,q.2.1,q.2.2.1,λp f=>h _ _ (q.2.2.2 p f)⟩
 ·exact q.elim
theorem W8{a b:Int}(h:H p=some (.tup [.int (shT a b),.int (shB a b)])):zf K H (shD a b) (.ref p):=Ax h (AU A6 (AU A6 Ab))
theorem Uf:∀m<7,∀s<m,∀k<2^m,k / 2^s%2≠1->k+2^s<2^m:=by decide +kernel
noncomputable def gB(bs:List Bool)(i:Nat):Bool:=bs.getD i false
noncomputable def Ds(bs:List Bool)(s i:Nat):Bool:=gB bs (i ^^^ s) != gB bs i
noncomputable def CP(bs:List Bool)(s n:Nat):List Nat:=(List.range n).filter (Ds bs s)
theorem Oq(bs:List Bool)(s n:Nat):CP bs s (n+1)=CP bs s n++(if Ds bs s n=true then [n] else []):=by
 unfold CP;rw[ZBw,ZCR]
 congr 1
 by_cases h:Ds bs s n=true
 ·rw[if_pos h,List.filter_cons_of_pos h];rfl
 ·rw[if_neg h,List.filter_cons_of_neg h];rfl
theorem IP{bs:List Bool}(h:i<bs.length):gB bs i=bs[i]:=by unfold gB;rw[ZBO,ZBE h];rfl
theorem K6{bs:List Bool}(h:i<bs.length):atI (bs.map V.bl) ((i:Nat):Int)=some (.bl (gB bs i)):=by
 rw[IP h];exact Ak rfl (by rw[ZBJ,ZBE h];rfl)
theorem V1(bs:List Bool)(s i:Nat):AC bs (i ^^^ s)*AC bs i=1-2*(if Ds bs s i=true then 1 else 0):=by
 unfold AC Ds gB Cn;cases bs.getD (i ^^^ s) false <;> cases bs.getD i false <;> decide
theorem OK(bs:List Bool)(s:Nat):∀n,sumTo (λi=>AC bs (i ^^^ s)*AC bs i) n=(n:Int)-2*((CP bs s n).length:Int)
 | 0=>rfl
 | n+1=>by
  show sumTo _ n+AC bs (n ^^^ s)*AC bs n=_;rw[OK bs s n,V1,Oq,ZBS]
  by_cases h:Ds bs s n=true
  ·rw[if_pos h,if_pos h,ZDM];lia
  ·rw[if_neg h,if_neg h,List.length_nil];lia
theorem Nx(bs:List Bool):∀n,CP bs 0 n=[]
 | 0=>rfl
 | n+1=>by
  rw[Oq,Nx bs n,if_neg]
  ·rfl
  ·unfold Ds;rw[Nat.xor_zero];simp
noncomputable def Bl(m:Nat)(g:Nat->Int)(t:Nat):Int:=sumTo (λs=>if chi m s t = -1 then g s*g s else 0) (2^m)
theorem S9(m:Nat)(bs:List Bool)(t:Nat)(G:t<2^m):Bl m (wt m (AC bs)) t=((2^m:Nat):Int)*((CP bs t (2^m)).length:Int):=by
 have a1:=O0 m (AC bs) t G;have f:=O0 m (AC bs) 0 (ZBn m);rw[OK]at a1 f;rw[Nx]at f
 have e:∀s,(if chi m s t = -1 then wt m (AC bs) s*wt m (AC bs) s else 0)*2=chi m s 0*(wt m (AC bs) s*wt m (AC bs) s)-chi m s t*(wt m (AC bs) s*wt m (AC bs) s):=λs=>by
  rw[Lx]
  rcases chi_one m s t with h | h
  ·rw[h,if_neg (by decide)];lia
  ·rw[h,if_pos rfl];lia
 have k:Bl m (wt m (AC bs)) t*2=((2^m:Nat):Int)*(((2^m:Nat):Int)-2*(([]:List Nat).length:Int))-((2^m:Nat):Int)*(((2^m:Nat):Int)-2*((CP bs t (2^m)).length:Int)):=by
  unfold Bl;rw[PK,Ae λs _=>e s,<- N7,f,a1]
 have z:((([]:List Nat).length:Nat):Int)=0:=rfl;rw[z,Int.mul_zero,Int.sub_zero,Int.mul_sub]at k;have g:((2^m:Nat):Int)*(2*((CP bs t (2^m)).length:Int))=2*(((2^m:Nat):Int)*((CP bs t (2^m)).length:Int)):=by ac_rfl
 rw[g]at k;generalize ((2^m:Nat):Int)*((CP bs t (2^m)).length:Int)=y at *;generalize ((2^m:Nat):Int)*((2^m:Nat):Int)=u at *;generalize Bl m (wt m (AC bs)) t=x at *;lia
theorem N2:∀{n:Nat},(∀j,j<n->f j=1\/f j = -1) -> -(n:Int)<=sumTo f n/\sumTo f n<=n
 | 0,_=>⟨Int.le_refl _,Int.le_refl _⟩
 | n+1,h=>by
  have i:=N2 λj g=>h j (ZB6 g)
  show -((n+1:Nat):Int)<=sumTo f n+f n/\sumTo f n+f n<=((n+1:Nat):Int)
  rcases h n (ZBu n) with e | e <;> rw[e] <;> lia
theorem SM(m:Nat)(bs:List Bool)(s:Nat) : -((2^m:Nat):Int)<=wt m (AC bs) s/\wt m (AC bs) s<=((2^m:Nat):Int):=by
 unfold wt;refine N2 λj _=>?_
 rcases chi_one m s j with h | h <;> rw[h] <;> unfold AC Cn <;> cases bs.getD j false <;> decide
def CA(g:Nat->Int):Prop:=∀k,-64<=g k/\g k<=64
theorem FW(z:m<=6)(bs:List Bool):CA (wt m (AC bs)):=λk=>by
 have:=SM m bs k
 have f:2^m<=64:=ZBL (n:=2) (by decide) z;lia
theorem QN{a b:Int}(ha : -64<=a/\a<=64):okMul a b:=.inr (.inl ⟨by lia,by lia⟩)
theorem Mx{a:Int}(h : -64<=a/\a<=64):0<=a*a/\a*a<=4096:=by
 have h1:a*a=((a.natAbs*a.natAbs:Nat):Int):=by rw[Int.natCast_mul,Int.natAbs_mul_self' a]
 have h2:a.natAbs<=64:=by lia
 have f:a.natAbs*a.natAbs<=64*64:=Nat.mul_le_mul h2 h2;lia
theorem Fz{B:Int}:∀{n:Nat},(∀j,j<n->0<=f j/\f j<=B)->0<=sumTo f n/\sumTo f n<=n*B
 | 0,_=>by show(0:Int)<=0/\(0:Int)<=((0:Nat):Int)*B;simp
 | n+1,h=>by
  have i:=Fz λj g=>h j (ZB6 g)
  have k:=h n (ZBu n);show 0<=sumTo f n+f n/\sumTo f n+f n<=((n+1:Nat):Int)*B;rw[Int.natCast_add,Int.add_mul]
  have:((1:Nat):Int)*B=B:=by simp
  lia
noncomputable def Bq(f:Nat->Int->List Int):List (Nat×Int)->List Int
 | []=>[]
 | q::ts=>f q.1 q.2++Bq f ts
theorem Om(f:Nat->Int->List Int):∀xs ys,Bq f (xs++ys)=Bq f xs++Bq f ys
 | [],ys=>rfl
 | x::xs,ys=>by
  show f x.1 x.2++Bq f (xs++ys)=f x.1 x.2++Bq f xs++Bq f ys;rw[Om f xs ys,ZCj]
theorem NQ{f:Nat->Int->List Int}{q:Nat×Int}(h:ts[i]?=some q):Bq f (ts.take (i+1))=Bq f (ts.take i)++f q.1 q.2:=by
 rw[ZBl,h,Om];show _++(f q.1 q.2++[])=_;rw[ZBs]
theorem LV(f:Nat->Int->List Int):∀ts,(Bq f ts).sum=Bz (λk w=>(f k w).sum) ts
 | []=>rfl
 | q::ts=>by
  show(f q.1 q.2++Bq f ts).sum=_
  rw[List.sum_append,LV f ts];rfl
theorem Jj{f:Nat->Int->List Int}(h:∀k w,(f k w).length<=1):∀ts,(Bq f ts).length<=ts.length
 | []=>ZBD _
 | q::ts=>by
  show(f q.1 q.2++Bq f ts).length<=ts.length+1
  rw[ZBS]
  have:=h q.1 q.2
  have:=Jj h ts
  lia
theorem HI:∀ts:List (Nat×Int),BA (ts.map C1)=true
 | []=>by unfold BA;rfl
 | q::ts=>by
  rw[ZBU];unfold BA;rw[HI ts];unfold C1 Bd BA Bd BA Bd BA;rfl
theorem De:∀(m i s:Nat),i<m->(chi m s (2^i) = -1 ↔ s.testBit i=true)
 | 0,_,_,h=>by lia
 | m+1,0,s,_=>by
  show(if s%2=1/\2^0%2=1 then -1 else 1)*chi m (s / 2) (2^0 / 2) = -1 ↔ _
  rw[show(2:Nat)^0 / 2=0 from rfl,Lx,ZCs,Nat.testBit_zero,decide_eq_true_eq]
  by_cases h:s%2=1
  ·rw[if_pos ⟨h,rfl⟩];exact⟨λ_=>h,λ_=>rfl⟩
  ·rw[if_neg (λz=>h z.1)];exact⟨λz=>by lia,λz=>absurd z h⟩
 | m+1,i+1,s,h=>by
  show(if s%2=1/\2^(i+1)%2=1 then -1 else 1)*chi m (s / 2) (2^(i+1) / 2) = -1 ↔ _
  rw[if_neg (λz=>by have:=z.2;rw[ZBf]at this;lia),Int.one_mul,ZBf,Nat.mul_div_cancel _ (by decide),Nat.testBit_succ];exact De m i (s / 2) (by lia)
theorem Y0(f:Nat->Int)(n:Nat):sumTo f (n+1)=f 0+sumTo (λj=>f (j+1)) n:=by
 rw[ZCz,JN]
 have:sumTo f 1=f 0:=by show 0+f 0=f 0;lia
 rw[this]
 congr 1
 exact Ae λj _=>by rw[ZCz]
theorem PH:∀(m s:Nat),((manyF m s:Nat):Int)=sumTo (λi=>if chi m s (2^i) = -1 then 1 else 0) m
 | 0,_=>rfl
 | m+1,s=>by
  rw[Y0]
  show((s%2+manyF m (s / 2):Nat):Int)=_
  rw[Int.natCast_add,PH m (s / 2)]
  congr 1
  ·have:=De (m+1) 0 s (by lia)
   rw[Nat.testBit_zero,decide_eq_true_eq]at this
   by_cases h:s%2=1
   ·rw[if_pos (this.mpr h),h];rfl
   ·rw[if_neg (λz=>h (this.mp z))];lia
  ·refine Ae λi hi=>?_
   have h1:=De (m+1) (i+1) s (by lia);have h2:=De m i (s / 2) hi;rw[Nat.testBit_succ]at h1
   by_cases h:(s / 2).testBit i=true
   ·rw[if_pos (h1.mpr h),if_pos (h2.mpr h)]
   ·rw[if_neg (λz=>h (h1.mp z)),if_neg (λz=>h (h2.mp z))]
noncomputable def orL:Nat->List (Nat×Int)->Nat
 | a,[]=>a
 | a,q::ts=>orL (a ||| q.1) ts
theorem OF:∀(xs ys:List (Nat×Int)) (a:Nat),orL a (xs++ys)=orL (orL a xs) ys
 | [],_,_=>rfl
 | x::xs,ys,a=>by show orL (a ||| x.1) (xs++ys)=_;rw[OF xs ys];rfl
theorem YI{q:Nat×Int}(h:ts[i]?=some q):orL 0 (ts.take (i+1))=orL 0 (ts.take i) ||| q.1:=by
 rw[ZBl,h,OF];rfl
theorem Me(j:Nat):∀(ts:List (Nat×Int)) (a:Nat),(orL a ts).testBit j=(a.testBit j||ts.any λq=>q.1.testBit j)
 | [],a=>by simp[orL]
 | q::ts,a=>by
  show(orL (a ||| q.1) ts).testBit j=_
  rw[Me j ts,Nat.testBit_or,ZCx,Bool.or_assoc]
theorem OI:∀(ts:List (Nat×Int)) (a:Nat),a<2^n->(∀q∈ts,q.1<2^n)->orL a ts<2^n
 | [],a,h,_=>h
 | q::ts,a,h,k=>OI ts (a ||| q.1) (Nat.or_lt_two_pow h (k q (ZBh ..))) λx f=>k x (ZBd _ f)
noncomputable def Bu(c:Nat->Nat):Nat->Nat
 | 0=>0
 | i+1=>if 0<c i then Bu c i+2^i else Bu c i
theorem IB(c:Nat->Nat):∀i,Bu c i<2^i
 | 0=>by show 0<1;lia
 | i+1=>by
  have:=IB c i
  unfold Bu;rw[ZBf];split <;> lia
theorem Fh(c:Nat->Nat)(j:Nat):∀n,(Bu c n).testBit j=(decide (j<n)&&decide (0<c j))
 | 0=>by simp[Bu]
 | n+1=>by
  have f:=IB c n;unfold Bu
  by_cases h:0<c n
  ·rw[if_pos h,ZCz]
   by_cases e:j=n
   ·subst e;rw[Nat.testBit_two_pow_add_eq,ZCl f];simp[h]
   ·by_cases l:j<n
    ·rw[Nat.testBit_two_pow_add_gt l,Fh c j n];simp[l,ZB6 l]
    ·have:2^n+Bu c n<2^j:=by
      have:2^(n+1)<=2^j:=ZBL (by decide) (by lia)
      rw[ZBf]at this;lia
     rw[ZCl this]
     have:¬j<n+1:=by lia
     simp[this]
  ·rw[if_neg h,Fh c j n]
   by_cases e:j=n
   ·subst e;simp[h]
   ·have:(j<n+1)=(j<n):=propext ⟨λz=>by lia,λz=>by lia⟩
    simp only[this]
theorem Qt:∀{n:Nat},(∀j,j<n->0<=f j)->(0<sumTo f n ↔ ∃j,j<n/\0<f j)
 | 0,_=>⟨λz=>absurd z (by show ¬(0:Int)<0;lia),λ⟨j,h,_⟩=>by lia⟩
 | n+1,h=>by
  have i:=Qt λj g=>h j (ZB6 g)
  have z:=Fz (f:=λj=>-(-(f j))) (n:=n) (B:=sumTo f n) 
  have nn:0<=sumTo f n:=by
   by_cases c:0<sumTo f n
   ·lia
   ·have:∀k,k<=n->0<=sumTo f k:=λk=>by
     induction k with
     | zero=>intro _;exact Int.le_refl _
     | succ k m =>
      intro p
      have:=m (by lia)
      have:=h k (by lia)
      show 0<=sumTo f k+f k;lia
    exact this n (ZBD _)
  have fn:=h n (ZBu n);show 0<sumTo f n+f n ↔ _;constructor
  ·intro o
   by_cases c:0<f n
   ·exact⟨n,ZBu n,c⟩
   ·obtain⟨j,g,l⟩:=i.mp (by lia);exact⟨j,by lia,l⟩
  ·rintro⟨j,g,l⟩
   by_cases e:j=n
   ·subst e;lia
   ·have:=i.mpr ⟨j,by lia,l⟩
    lia
theorem Qw(a:Int):0<=a*a:=by
 rw[show a*a=((a.natAbs*a.natAbs:Nat):Int) by rw[Int.natCast_mul,Int.natAbs_mul_self' a]];lia
theorem sq_pos{a:Int}:0<a*a ↔ a≠0:=by
 have:=Qw a
 constructor
 ·intro h z;subst z;simp at h
 ·intro h;exact Int.lt_iff_le_and_ne.mpr ⟨this,Ne.symm (Int.mul_ne_zero h h)⟩
noncomputable def Ca(bs:List Bool)(m i:Nat):Nat:=(CP bs (2^i) (2^m)).length
theorem PU(bs:List Bool)(h:i<m):0<Ca bs m i ↔ ∃s,s<2^m/\wt m (AC bs) s≠0/\s.testBit i=true:=by
 have o:=S9 m bs (2^i) (ZCX (by decide) h)
 have p:=Qt (f:=λs=>if chi m s (2^i) = -1 then wt m (AC bs) s*wt m (AC bs) s else 0) (n:=2^m) λj _=>by
  show 0<=(if chi m j (2^i) = -1 then wt m (AC bs) j*wt m (AC bs) j else 0);split
  ·exact Qw _
  ·exact Int.le_refl _
 have k:0<((2^m:Nat):Int):=by have:=ZBn m;lia
 have e:0<Ca bs m i ↔ 0<Bl m (wt m (AC bs)) (2^i):=by
  rw[o];unfold Ca;constructor
  ·intro z;exact Int.mul_pos k (by lia)
  ·intro z
   rcases ZDS (CP bs (2^i) (2^m)).length with h0 | h0
   ·rw[h0]at z;simp at z
   ·exact h0
 rw[e];unfold Bl;rw[p];constructor
 ·rintro⟨s,hs,g⟩;split at g
  ·rename_i r;exact⟨s,hs,sq_pos.mp g,(De m i s h).mp r⟩
  ·lia
 ·rintro⟨s,hs,hw,l⟩;refine⟨s,hs,?_⟩;rw[if_pos ((De m i s h).mpr l)];exact sq_pos.mpr hw
theorem Fq:∀{n s:Nat},s<n->g s≠0->(s,g s)∈AL g n
 | 0,s,h,_=>by lia
 | n+1,s,h,f=>by
  show(s,g s)∈AL g n++_
  by_cases e:s=n
  ·subst e;rw[if_neg f];exact ZBe _ (ZBX.mpr rfl)
  ·exact ZCK _ (Fq (by lia) f)
theorem Ih(m:Nat)(bs:List Bool):orL 0 (AL (wt m (AC bs)) (2^m))=Bu (Ca bs m) m:=by
 refine ZCm λi=>?_
 rw[Me,Fh,Nat.zero_testBit,Bool.false_or,ZBv];simp only[ZCY,ZBb,decide_eq_true_eq];constructor
 ·rintro⟨q,k,f⟩;obtain⟨h1,h2,g⟩:=CV k
  have hi:i<m:=by
   rcases ZCN i m with z | z
   ·exact z
   ·have:q.1<2^i:=ZBZ h1 (ZBL (by decide) z)
    rw[ZCl this]at f;cases f
  exact⟨hi,(PU bs hi).mpr ⟨q.1,h1,by rw[<- h2];exact g,f⟩⟩
 ·rintro⟨hi,j⟩;obtain⟨s,hs,hw,f⟩:=(PU bs hi).mp j;exact⟨_,Fq hs hw,f⟩
noncomputable def lvF(m:Nat)(g:Nat->Int)(n j:Nat):Int:=sumTo (λs=>if manyF m s=j then g s*g s else 0) n
noncomputable def lvT(m:Nat)(ts:List (Nat×Int))(j:Nat):Int:=Bz (λs w=>if manyF m s=j then w*w else 0) ts
theorem Xi{q:Nat×Int}(h:ts[i]?=some q)(j:Nat):lvT m (ts.take (i+1)) j=if j=manyF m q.1 then lvT m (ts.take i) j+q.2*q.2 else lvT m (ts.take i) j:=by
 unfold lvT;rw[ZBl,h,Jc];show Bz _ _+((if manyF m q.1=j then q.2*q.2 else 0)+0)=_
 by_cases e:j=manyF m q.1
 ·rw[if_pos e,if_pos e.symm,Int.add_zero]
 ·rw[if_neg e,if_neg (Ne.symm e)];lia
theorem Ry(m:Nat)(g:Nat->Int)(j n:Nat):lvT m (AL g n) j=lvF m g n j:=by
 unfold lvT lvF;rw[Gz];intro k;split <;> simp
theorem NL(z:CA g)(j:Nat):0<=lvF m g n j/\lvF m g n j<=n*4096:=by
 refine Fz (B:=4096) λk _=>?_
 have:=Mx (z k)
 show 0<=(if manyF m k=j then g k*g k else 0)/\(if manyF m k=j then g k*g k else 0)<=4096;split <;> lia
def Nb(x:Int)(k:Nat):Prop:=x.natAbs<2^k
theorem Nb.mul{x y:Int}{a b:Nat}(z:Nb x a)(G:Nb y b):Nb (x*y) (a+b):=by
 unfold Nb at *;rw[Int.natAbs_mul,Nat.pow_add];exact Nat.mul_lt_mul'' z G
theorem Nb.up{x:Int}{a b:Nat}(z:Nb x a)(h:a<=b):Nb x b:=ZBZ z (ZBL (by decide) h)
theorem Nb.pow{x:Int}{a:Nat}(z:Nb x a):∀i,Nb (x^i) (a*i+1)
 | 0=>by unfold Nb;rw[Int.pow_zero];show 1<2^(a*0+1);rw[Nat.mul_zero];decide
 | i+1=>by
  rw[Int.pow_succ]
  have:=(z.pow i).mul z
  rw[show a*(i+1)+1=a*i+1+a by rw[Nat.mul_succ];lia];exact this
theorem Nb.add{x y:Int}{a:Nat}(z:Nb x a)(G:Nb y a):Nb (x+y) (a+1):=by
 unfold Nb at *;rw[ZBf]
 have:=Int.natAbs_add_le x y
 lia
theorem Nb.okMul{x y:Int}(z:Nb x 4000)(G:Nb y 4000):okMul x y:=.inl ⟨z.up (by decide),G.up (by decide)⟩
theorem Nb.sum{a:Nat}:∀{n:Nat},(∀j,j<n->Nb (f j) a)->Nb (sumTo f n) (a+n)
 | 0,_=>by unfold Nb;exact ZBn _
 | n+1,h=>by
  have i:=Nb.sum λj g=>h j (ZB6 g)
  exact i.add ((h n (ZBu n)).up (by lia))
noncomputable def CN:List (Nat×Int)->(Nat->Int)->Nat->Int
 | [],f=>f
 | q::ts,f=>CN ts λj=>if j=q.1 then q.2 else f j
theorem Kh:∀(xs ys:List (Nat×Int)) (f:Nat->Int),CN (xs++ys) f=CN ys (CN xs f)
 | [],_,_=>rfl
 | x::xs,ys,f=>Kh xs ys _
theorem Te{q:Nat×Int}(h:ts[i]?=some q):CN (ts.take (i+1)) f=λj=>if j=q.1 then q.2 else CN (ts.take i) f j:=by
 rw[ZBl,h,Kh];rfl
theorem Lk(g:Nat->Int):∀(n j:Nat),CN (AL g n) (λ_=>0) j=if j<n then g j else 0
 | 0,j=>by simp[AL,CN]
 | n+1,j=>by
  show CN (AL g n++(if g n=0 then [] else [(n,g n)])) (λ_=>0) j=_;rw[Kh]
  by_cases h:g n=0
  ·rw[if_pos h];show CN (AL g n) (λ_=>0) j=_;rw[Lk g n j]
   by_cases e:j=n
   ·subst e;rw[if_neg (by lia),if_pos (by lia),h]
   ·by_cases l:j<n
    ·rw[if_pos l,if_pos (by lia)]
    ·rw[if_neg l,if_neg (by lia)]
  ·rw[if_neg h]
   show(if j=n then g n else CN (AL g n) (λ_=>0) j)=_
   by_cases e:j=n
   ·subst e;rw[if_pos rfl,if_pos (by lia)]
   ·rw[if_neg e,Lk g n j]
    by_cases l:j<n
    ·rw[if_pos l,if_pos (by lia)]
    ·rw[if_neg l,if_neg (by lia)]
def DQ(H:Hp)(Q:VK)(xs:List V):Prop:=∀p H',H p=none->EE H H'->H' p=some (.lst xs)->Q (.ref p) H'
theorem Az{z:VK}(h:∀v H,Q v H->z v H)(q:DQ H Q xs):DQ H z xs:=λp H' a b c=>h _ _ (q p H' a b c)
theorem WT(n:Nat):(List.replicate n [V.int 0]).flatten=ixL (λ_=>0) n:=by
 induction n with
 | zero=>rfl
 | succ n f=>rw[List.replicate_succ',List.flatten_append,f,E8];rfl
theorem Th(m:Nat)(v:Nat->Int)(p:Nat)(z:p<2^m):wt m (wt m v) p=((2^m:Nat):Int)*v p:=by
 rw[<- Tz m v p z];show sumTo (λs=>chi m p s*wt m v s) (2^m)=_;exact Ae λs _=>by rw[Ix]
noncomputable def inF(g:Nat->Int)(o s:Nat):Int:=if s &&& o=s then g s else 0
theorem MI(f:Nat->Bool)(n:Nat):((List.range (n+1)).map f).map V.bl=((List.range n).map f).map V.bl++[V.bl (f n)]:=by
 rw[ZBw,ZBH,ZBH];rfl
theorem ZN(bs:List Bool):(List.range bs.length).map (λi=>bs.getD i false)=bs:=by
 refine List.ext_getElem? λk=>?_
 rw[ZBJ]
 by_cases h:k<bs.length
 ·rw[ZBx h,ZBE h];simp[ZBO,ZBE h]
 ·rw[ZCW (by rw[ZBc];lia),ZCW (by lia)];rfl
theorem Xd{td ty tv:TE}(h1:Ap td)(h2:Ap ty)(z:Ap tv):Bk (Qj td ty tv):=λD D' Z H h q=>z _ _ _ _ (λ_ _ q=>h1 _ _ _ _ (λ_ _ q=>h2 _ _ _ _ (λ_ _ ⟨a,f,e,g,q⟩=>⟨a,f,e,g,h.nx _ _ q⟩) q) q) q
theorem IF(h:A.units+60<cLine):A.units+1<cLine:=by lia
theorem QH(s o:Nat):s &&& o=s ↔ (s%2=1->o%2=1)/\s / 2 &&& o / 2=s / 2:=by
 have h1:=D0 s o;have h2:=(Cr s o).1;have hs:s%2=0\/s%2=1:=by lia
 have f:o%2=0\/o%2=1:=by lia
 constructor
 ·intro e;rw[e]at h1 h2;refine⟨λz=>?_,h1.symm⟩
  rcases f with f | f
  ·rw[f,Nat.mul_zero]at h2;lia
  ·exact f
 ·rintro⟨a,b⟩;rw[b]at h1
  rcases hs with hs | hs
  ·rw[hs,Nat.zero_mul]at h2;lia
  ·rw[hs,a hs]at h2;lia
theorem QC(x o:Nat):x &&& o=0 ↔ ¬(x%2=1/\o%2=1)/\x / 2 &&& o / 2=0:=by
 have h1:=D0 x o;have h2:=(Cr x o).1;have hs:x%2=0\/x%2=1:=by lia
 have f:o%2=0\/o%2=1:=by lia
 constructor
 ·intro e;rw[e]at h1 h2;refine⟨λ⟨a,b⟩=>?_,by rw[<- h1]⟩;rw[a,b]at h2;lia
 ·rintro⟨a,b⟩;rw[b]at h1
  rcases hs with hs | hs
  ·rw[hs,Nat.zero_mul]at h2;lia
  ·rcases f with f | f
   ·rw[f,Nat.mul_zero]at h2;lia
   ·exact absurd ⟨hs,f⟩ a
theorem RZ:∀(m o x:Nat),o<2^m->sumTo (λs=>if s &&& o=s then chi m s x else 0) (2^m)=if x &&& o=0 then ((2^manyF m o:Nat):Int) else 0
 | 0,o,x,h=>by
  have:o=0:=by simpa using h
  subst this;simp[sumTo,chi,manyF]
 | m+1,o,x,h=>by
  have n:2^(m+1)=2*2^m:=by rw[ZBf,ZB4]
  rw[n,GH]
  have e:∀j,(if 2*j &&& o=2*j then chi (m+1) (2*j) x else 0)+(if 2*j+1 &&& o=2*j+1 then chi (m+1) (2*j+1) x else 0)=(if o%2=1 then (if x%2=1 then 0 else 2) else 1)*(if j &&& o / 2=j then chi m j (x / 2) else 0):=λj=>by
   have a1:=QH (2*j) o;have a2:=QH (2*j+1) o;rw[show 2*j / 2=j by lia]at a1;rw[show(2*j+1) / 2=j by lia]at a2
   have k:chi (m+1) (2*j) x=chi m j (x / 2):=by
    show(if 2*j%2=1/\x%2=1 then -1 else 1)*chi m (2*j / 2) (x / 2)=_
    rw[if_neg (by lia),show 2*j / 2=j by lia,Int.one_mul]
   have l:chi (m+1) (2*j+1) x=(if x%2=1 then -1 else 1)*chi m j (x / 2):=by
    show(if (2*j+1)%2=1/\x%2=1 then -1 else 1)*chi m ((2*j+1) / 2) (x / 2)=_
    rw[show(2*j+1) / 2=j by lia]
    by_cases f:x%2=1
    ·rw[if_pos ⟨by lia,f⟩,if_pos f]
    ·rw[if_neg (λz=>f z.2),if_neg f]
   rw[k,l]
   by_cases i:j &&& o / 2=j
   ·rw[if_pos i,if_pos (a1.mpr ⟨λz=>by lia,i⟩)]
    by_cases g:o%2=1
    ·rw[if_pos (a2.mpr ⟨λ_=>g,i⟩),if_pos g]
     by_cases f:x%2=1
     ·rw[if_pos f,if_pos f];lia
     ·rw[if_neg f,if_neg f];lia
    ·rw[if_neg (λz=>g ((a2.mp z).1 (by lia))),if_neg g];lia
   ·rw[if_neg i,if_neg (λz=>i (a1.mp z).2),if_neg (λz=>i (a2.mp z).2)];simp
  rw[Ae λj _=>e j,<- Ch,RZ m (o / 2) (x / 2) (by rw[ZBf]at h;lia)];have z:=QC x o;have em:manyF (m+1) o=o%2+manyF m (o / 2):=rfl
  by_cases hz:x / 2 &&& o / 2=0
  ·rw[if_pos hz,em]
   by_cases g:o%2=1
   ·rw[if_pos g,g]
    by_cases f:x%2=1
    ·rw[if_pos f,if_neg (λq=>(z.mp q).1 ⟨f,g⟩),Int.zero_mul]
    ·rw[if_neg f,if_pos (z.mpr ⟨λq=>f q.1,hz⟩),ZCz 1,ZBf,Int.natCast_mul,Int.mul_comm];rfl
   ·have h0:o%2=0:=by lia
    rw[if_neg g,h0,Nat.zero_add,if_pos (z.mpr ⟨λq=>g q.2,hz⟩),Int.one_mul]
  ·rw[if_neg hz,if_neg (λq=>hz (z.mp q).2),Int.mul_zero]
noncomputable def LM(m:Nat)(v:Nat->Int)(o r:Nat):Int:=sumTo (λq=>if q &&& o=r then v q else 0) (2^m)
theorem Ri:∀(m p q o:Nat),p<2^m->q<2^m->((p ^^^ q) &&& o=0 ↔ q &&& o=p &&& o)
 | 0,p,q,o,j,k=>by
  have h1:p=0:=by simpa using j
  have h2:q=0:=by simpa using k
  subst h1 h2;simp
 | m+1,p,q,o,j,k=>by
  have i:=Ri m (p / 2) (q / 2) (o / 2) (by rw[ZBf]at j;lia) (by rw[ZBf]at k;lia);rw[QC,FS,i];have a1:=D0 q o;have a2:=D0 p o;have n:=(Cr q o).1;have r:=(Cr p o).1;have l:=(Cr p q).2.1;rw[<- a1,<- a2];have hs:p%2=0\/p%2=1:=by lia
  have g:q%2=0\/q%2=1:=by lia
  have f:o%2=0\/o%2=1:=by lia
  rcases hs with hs | hs <;> rcases g with g | g <;> rcases f with f | f <;> rw[hs,g]at l <;> rw[g,f]at n <;> rw[hs,f]at r <;> rw[l,f] <;> lia
theorem PO(m:Nat)(v:Nat->Int)(o p:Nat)(G:o<2^m)(O:p<2^m):wt m (inF (wt m v) o) p=((2^manyF m o:Nat):Int)*LM m v o (p &&& o):=by
 have f:wt m (inF (wt m v) o) p=sumTo (λs=>sumTo (λq=>v q*(if s &&& o=s then chi m s (p ^^^ q) else 0)) (2^m)) (2^m):=by
  show sumTo (λs=>chi m p s*inF (wt m v) o s) (2^m)=_;refine Ae λs _=>?_
  unfold inF
  by_cases h:s &&& o=s
  ·rw[if_pos h];unfold wt;rw[Ch];refine Ae λq _=>?_
   rw[if_pos h,Fc,Ix m p s]
   ac_rfl
  ·rw[if_neg h,Int.mul_zero,Ae (g:=λ_=>0) λq _=>by rw[if_neg h,Int.mul_zero],MW]
 rw[f,GE];unfold LM;rw[Ch];refine Ae λq i=>?_
 rw[<- Ch,RZ m o (p ^^^ q) G];have x:=Ri m p q o O i
 by_cases h:q &&& o=p &&& o
 ·rw[if_pos (x.mpr h),if_pos h,Int.mul_comm]
 ·rw[if_neg (λz=>h (x.mp z)),if_neg h,Int.mul_zero,Int.mul_zero]
end L2
namespace L2
open PySem PySem.Spec PyProof.Rows
variable {K:W.Frag}{d:Addr}
section
variable {X:Cx}{K:W.Frag}{e sx:Expr}{te ts:TE}{lo hi:Option Expr}{tl th:TO}{pos p2:Pos}
noncomputable def mIs(neg:Bool):R2:=λx y H Q=>match x,y with
 | .bl a,.bl b=>Q (.bl (neg ^^ (a==b))) H
 | x,.non=>Q (.bl (neg ^^ decide (x=.non))) H
 | _,_=>False
theorem Ta:zv X (compareOp .Is) (mIs false):=by
 intro El s Z H x y v u Q I f g h;unfold mIs at h;split at h
 ·cases f;cases g;rename_i a b;exact wpAny_of_eq (show compareOp .Is (.bool a) (.bool b)=pure (.bool (a==b)) by cases a <;> cases b <;> rfl) ⟨.bl (a==b),H,I,rfl,by rw[ZB5]at h;exact h⟩
 ·exact XH El s Z H _ _ v u Q I f g ⟨rfl,by rw[ZB5]at h;exact h⟩
 ·exact h.elim
theorem Zu:zv X (compareOp .IsNot) (mIs true):=by
 intro El s Z H x y v u Q I f g h;unfold mIs at h;split at h
 ·cases f;cases g;rename_i a b;exact wpAny_of_eq (show compareOp .IsNot (.bool a) (.bool b)=pure (.bool (!(a==b))) by cases a <;> cases b <;> rfl) ⟨.bl (!(a==b)),H,I,rfl,by rw[Bool.true_xor]at h;exact h⟩
 ·exact Sq El s Z H _ _ v u Q I f g ⟨rfl,by rw[Bool.true_xor]at h;exact h⟩
 ·exact h.elim
end
noncomputable def tyD:Dv->String
 | .non=>"NoneType"
 | .bl _=>"bool"
 | .int _=>"int"
 | .str _=>"str"
 | .tup _=>"tuple"
 | .lst _=>"list"
noncomputable def HG(K:W.Frag):List V->Hp->VK->Prop:=λxs H Q=>match xs with
 | [x,.ty T]=>T∈kinds/\∃d,zf K H d x/\Q (.bl (CT (tyD d) T)) H
 | _=>False
theorem UM{t T:String}(G:t = "int" \/ t = "bool" \/ t = "tuple" \/ t = "list")(z:T∈kinds):PySem.W.kitOne K (.type t) (.type T)=some (CT t T):=by
 unfold kinds at z;simp only[ZBI,ZBk,or_false]at z
 rcases G with rfl | rfl | rfl | rfl <;> rcases z with rfl | rfl | rfl | rfl | rfl | rfl <;> rfl
theorem VF{X:Cx}:CallR X (.builtin "isinstance") (HG X.K):=by
 intro El s Z H xs us Q I r q
 match xs,q with
 | [x,.ty T],q =>
  obtain⟨g,d,h,q⟩:=q
  have go:∀t,TyS X.K H x t->Q (.bl (CT t T)) H->wpAny (model X.prog X.w) X.A (call (.builtin "isinstance") us) (EP X El Z Q) X.xe s:=λt j n=>by
   obtain⟨u,y,rfl,o,l⟩:=Hm r;cases l;obtain⟨j,hn,p,k,m⟩:=SE I o j;exact PySem.W.kia_one k I.kIn m (UM j g) hn λv=>⟨.bl (CT t T),H,I.tok _,rfl,n⟩
  have f:=g;unfold kinds at f;simp only[ZBI,ZBk,or_false]at f;cases d with
  | non =>
   unfold zf at h;subst h;refine Rl El s Z H _ us Q I r ⟨g,_,rfl,?_⟩;have e:(T == "NoneType")=CT (tyD .non) T:=by rcases f with rfl | rfl | rfl | rfl | rfl | rfl <;> rfl
   rw[e];exact q
  | str z =>
   unfold zf at h;subst h;refine Rl El s Z H _ us Q I r ⟨g,_,rfl,?_⟩;have e:(T == "str")=CT (tyD (.str z)) T:=by rcases f with rfl | rfl | rfl | rfl | rfl | rfl <;> rfl
   rw[e];exact q
  | bl b=>unfold zf at h;subst h;exact go _ rfl q
  | int i=>unfold zf at h;subst h;exact go _ rfl q
  | tup ds=>unfold zf at h;obtain⟨a,xs,rfl,hs,_⟩:=h;exact go _ (.inl ⟨rfl,xs,hs⟩) q
  | lst ds=>unfold zf at h;obtain⟨a,xs,rfl,hs,_⟩:=h;exact go _ (.inr ⟨rfl,xs,hs⟩) q
theorem EV{X:Cx}(z:X.K=K:=by rfl):CallR X (.builtin "isinstance") (HG K):=z▸VF
theorem WH:DX (HG K):=λxs H Q f h q=>by
 unfold HG at *;split at q
 ·obtain⟨a,t,b,q⟩:=q;exact⟨a,t,b,h _ _ q⟩
 ·exact q.elim
theorem BM{H:Hp}{ds:List Dv}{v:V}(h:zf K H (.tup ds) v):∃a xs,v=.ref a/\zj K H a xs/\za K H ds xs:=by unfold zf at h;exact h
theorem DD{H:Hp}{p:Addr}{xs:List V}{ds:List Dv}(h:zj K H p xs)(r:za K H ds xs):zf K H (.tup ds) (.ref p):=by unfold zf;exact⟨p,xs,rfl,h,r⟩
theorem Em:∀bs:List Bool,BA (bs.map Dv.bl)=true
 | []=>rfl
 | b::bs=>by
  show(true&&BA (bs.map Dv.bl))=true
  rw[Em bs];rfl
section
variable {X:Cx}{El:List (Addr×Obj)}{Z:St}{H:Hp}{s:Shared}
theorem zd.hold{ze:List (Key×V)}(I:zd X El Z H s)(h:H d=some (.dK ze)):∃o,s.heap.get? d=some o/\zd X El Z (upd H d (.frz o (.dK ze))) s:=by
 obtain⟨i,hs,vs,r,g⟩:=(show ObjOk X.prog X.w H s.heap d (.dK ze) from I.hok d _ h);obtain⟨o,es,j,f,rest⟩:=id g;refine⟨o,f,?_⟩
 have:=I.write (x:=d) (e:=d) (o:=.frz o (.dK ze)) (h':=s.heap) (t':=s.toks) (by rw[h];exact True.intro) (.inl rfl) (λb u _ q=>q) ⟨o,f⟩ ⟨f,i,hs,vs,r,g⟩
 exact this
theorem zd.held{o:Obj}{ze:List (Key×V)}(I:zd X El Z H s)(h:H d=some (.frz o (.dK ze))):s.heap.get? d=some o/\(d==sysModules)=false/\ze.length<=sizeLine/\∃vs,KV ze vs/\s.heap.DictOf (Bp X.prog X.w) d vs:=by
 obtain⟨i,g,hs,vs,r,f⟩:=(show ObjOk X.prog X.w H s.heap d (.frz o (.dK ze)) from I.hok d _ h);exact⟨i,hs,g,vs,r,f⟩
theorem KV.get{ze:List (Key×V)}{vs:List (Key×Value)}(r:KV ze vs):∀{i:Nat} {q:Key×V},ze[i]?=some q->∃v,vs[i]?=some (q.1,v)/\zi q.2 v:=by
 induction r with
 | nil=>intro i q e;simp at e
 | @cons a b l1 l2 h t g =>
  intro i q e;cases i with
  | zero =>
   simp at e;subst e;obtain⟨j,f⟩:=b;obtain⟨h1,h2⟩:=h;exact⟨f,by simp;exact h1.symm,h2⟩
  | succ i =>
   obtain⟨v,h1,h2⟩:=g (i:=i) (q:=q) (by simpa using e);exact⟨v,by simpa using h1,h2⟩
theorem KV.len{ze:List (Key×V)}{vs:List (Key×Value)}(r:KV ze vs):ze.length=vs.length:=Paired.length r
theorem aD{k:Key}{u:Value}(h:D2 k u=true):zi (kV k) u:=by
 rcases keyIs_shape h with ⟨i,t,rfl,rfl⟩ | ⟨x,t,rfl,rfl⟩
 ·exact⟨t,rfl⟩
 ·exact⟨t,rfl⟩
end
noncomputable def Itm(d:Addr)(o:Obj):It :=
 ⟨λi H=>∃ze q,H d=some (.frz o (.dK ze))/\ze[i]?=some q,
  λi H v H'=>∃p ze q,H d=some (.frz o (.dK ze))/\ze[i]?=some q/\H p=none/\v=.ref p/\H'=upd H p (.tup [kV q.1,q.2]),
  λi H=>∃ze,H d=some (.frz o (.dK ze))/\ze.length<=i⟩
theorem JQ{P:Program}{w:World}{h:Heap}{o:Obj}{es:Array DictEntry}{z:Nat}{vs:List (Key×Value)}(G:h.get? d=some o)(hd:o.data=.dict es z)(O:h.DictOf (Bp P w) d vs):h.DictAt (Bp P w) d vs z/\es.size=vs.length:=by
 obtain⟨o',j,i,h1,h2,f,k,g,l⟩:=O;rw[G]at h1;cases h1;rw[hd]at f;cases f;exact⟨⟨o,es,G,h2,hd,k,g,l⟩,by rw[<- g.length];simp⟩
theorem YH:entryFor table "dict_itemiterator.__iter__" = some Builtin.«dict_keyiterator.__iter__» :=
 entryFor_alias (id':="dict_keyiterator.__iter__") (by kernel_rfl) (by first | rfl | decide +kernel) (by decide +kernel) (by kernel_rfl)
theorem Tg{prog:Program}{w:World}{A:Around}{E:Value->Shared->Prop}{s:Shared}{it:Addr}{i n z:Nat}{ok G:Value}{Q:Value->Shared->Prop}(hz:IsItemIter s.heap it d i n z ok G)(h:Q (.ref it) s):wpAny (model prog w) A (pyIter (.ref it)) Q E s:=by
 have f:s.TypeIs (.ref it) "dict_itemiterator":=⟨_,hz,rfl⟩;refine wpAny_pyIter_slot f F.slot_dict_itemiterator_iter (ZB1 F.slot_dict_itemiterator_iter f YH ?_ (F.args_dict_itemiterator_iter_1 _));show wpAny _ _ (ret (.ref it)) _ _ s;exact ZBC ⟨_,rfl,"dict_itemiterator",_,f,F.slot_dict_itemiterator_next.lookup,h⟩
theorem UK{P:Program}{w:World}{ts:List Expr}{kt:Nat}{tpos:Pos}{it:Addr}{o:Obj}{es:Array DictEntry}{O:Nat}(z:o.data=.dict es O) :
 Turn P w K (.Tuple ts kt tpos) (Itm d o) [it] it (λi h=>∃ok G,IsItemIter h it d i es.size O ok G) where
 mem:=by simp
 obj:=λi h st b f=>by
  obtain⟨ok,G,hz⟩:=st;obtain rfl:b=it:=by simpa using f
  exact⟨_,hz,λv q=>nomatch q⟩
 keep:=λi h h' ⟨ok,G,hz⟩ k=>⟨ok,G,k it (by simp) _ hz⟩
 item:=by
  intro X t hw r D i El s Z H E I hf st x;subst t hw r;obtain⟨ze,q,j,J⟩:=x;obtain⟨ok,G,hz⟩:=st;obtain⟨y,hs,U,vs,B,n⟩:=I.held j;obtain⟨m,hsz⟩:=JQ y z n;obtain⟨u,hu,W⟩:=B.get J;rw[hsz]at hz;refine wpAny_pyNext_items_item hz m hu λkey h' Y L z2 z3 z4=>?_
  refine⟨_,rfl,?_⟩;have C:∀b v,b∉[it]->s.heap.get? b=some v->h'.get? b=some v:=λb v f q=>z4 b v (by simpa using f) q
  have N:zd X El Z (upd H s.heap.objs.size (.tup [kV q.1,q.2])) { s with heap:=h' }:=by
   refine I.turnedNew (ch:=[it]) (λb f=>hf b f) (ZBD _) C ?_ λb f=>?_
   ·exact⟨smq rfl,[key,u],.cons (aD Y) (.cons W .nil),⟨_,z2,rfl,⟨_,rfl⟩,rfl⟩⟩
   ·obtain rfl:b=it:=by simpa using f
    exact⟨_,L⟩
  refine wpAny_letOwnedTupleGo_items (s:={ s with heap:=h' }) L λp M z9=>?_
  have g:=hf it (by simp)
  have neT:it≠s.heap.objs.size:=λq=>by
   have:=ZBF hz
   rw[q]at this;exact ZBa _ this
  have l:∀b∈[it],upd H s.heap.objs.size (.tup [kV q.1,q.2]) b=none:=λb f=>by
   obtain rfl:b=it:=by simpa using f
   rw[AR neT];exact g.1
  have R:zd X El Z (upd H s.heap.objs.size (.tup [kV q.1,q.2])) { s with heap:=p } :=
   N.turned (t':=s.toks) (λb o f q=>(z9.2 b f).trans q) (l it (by simp)) g.2.1 g.2.2.2.1 g.2.2.2.2.1 g.2.2.2.2.2
  rw[<- hsz]at M;exact⟨.ref s.heap.objs.size,_,R,rfl,⟨_,ze,q,j,J,I.hok.fresh (ZBD _),rfl,rfl⟩,⟨_,_,M⟩,l⟩
 done:=by
  intro X t hw r D i El s Z H E I hf st x;subst t hw r;obtain⟨ze,j,U⟩:=x;obtain⟨ok,G,hz⟩:=st;obtain⟨y,hs,V,vs,B,n⟩:=I.held j;obtain⟨m,hsz⟩:=JQ y z n;have e1:=B.len;rw[hsz]at hz;refine wpAny_pyNext_items_end (I.ok.hd D) hz m (by simp;lia) λh' z7=>⟨rfl,?_⟩
  obtain⟨f0,f1,f2,S,f4,T⟩:=hf it (by simp);exact I.turned (t':=s.toks) (λb o f q=>z7 b o f q) f0 f1 S f4 T
 self:=λA i s Q E st h=>by
  obtain⟨ok,G,hz⟩:=st;exact Tg hz h
def Ow(x:V)(H:Hp)(R:Addr->Obj->Hp->Prop):Prop:=match x with
 | .ref d=>(∃ze,H d=some (.dK ze)/\∀o,R d o (upd H d (.frz o (.dK ze))))\/∃ze o,H d=some (.frz o (.dK ze))/\R d o H
 | _=>False
theorem SL{X:Cx}{El:List (Addr×Obj)}{Z:St}{H:Hp}{s:Shared}{x:V}{v:Value}{R:Addr->Obj->Hp->Prop}(I:zd X El Z H s)(r:zi x v)(h:Ow x H R) :
 ∃d ze o H2,v=.ref d/\zd X El Z H2 s/\H2 d=some (.frz o (.dK ze))/\R d o H2:=by
 cases x with
 | ref d =>
  cases r
  rcases h with ⟨ze,e,q⟩ | ⟨ze,o,e,q⟩
  ·obtain⟨o,g,f⟩:=I.hold e;exact⟨d,ze,o,_,rfl,f,AF,q o⟩
  ·exact⟨d,ze,o,H,rfl,I,e,q⟩
 | _=>exact False.elim h
noncomputable def Tn(to:TE):TI:=λZ H R=>to Z H λx H1=>Ow x H1 λd o H2=>R (Itm d o) H2
section
variable {X:Cx}{K:W.Frag}{tg oe:Expr}{to:TE}{ts:List Expr}{kt:Nat}{tpos apos cpos:Pos}
theorem SD(O:PE X oe to)(z:attributeBase oe "items" X.env (eval oe X.env)=eval oe X.env:=by rfl)(G:(apos.endLine==cpos.line)=true:=by rfl) :
 PI X (.Tuple ts kt tpos) (.Call (.Attribute oe "items" apos) [] [] cpos) (Tn to):=by
 intro El s Z H R I h;refine wpAny_Call_method0_late z G (zm (O El s Z H _ I h) λv s1 ⟨x,H1,r,r1,D⟩=>?_);obtain⟨d,ze,o,H2,rfl,m,hd2,q⟩:=SL r r1 D;obtain⟨f,hs,M,vs,N,i⟩:=m.held hd2;obtain⟨o',es,L,n,e2,p,_⟩:=id i;rw[f]at n;cases n;refine⟨"dict","dict.items",PySem.F.plainAttrs_dict,PySem.F.slot_dict_items,PySem.F.type_dict_items,i.typeIs,λa y=>?_,Calls.callWith_builtin rfl (PySem.evalArgs_none ?_)⟩
 ·cases y;exact⟨o,f,e2.2.1⟩
 refine call_meetsIn PySem.F.slot_dict_items i.typeIs PySem.F.entry_dict_items (PySem.F.args_dict_items_1 _) (meets_dict_items (Bp X.prog X.w) d hs) ⟨⟨vs,i⟩,?_⟩;have g:zd X El Z H2 { s1 with heap:=s1.heap.push { cls:=.type "dict_items",data:=.fields #[.ref d] } }:=m.kept (t':=s1.toks) λb u e=>ZBG _ e
 have C:(s1.heap.push { cls:=.type "dict_items",data:=.fields #[.ref d] }).IsItemsView s1.heap.objs.size d:=⟨_,ZBP _ rfl,rfl,rfl⟩;obtain⟨l,_,_,K,J,j⟩:=g.held hd2;obtain⟨t,hsz⟩:=JQ l p j;refine wpAny_pyIter_items (s:={ s1 with heap:=s1.heap.push { cls:=.type "dict_items",data:=.fields #[.ref d] } }) C t ?_;generalize s1.heap.push { cls:=.type "dict_items",data:=.fields #[.ref d] } = k at *;refine⟨k.objs.size,[k.objs.size],_,_,H2,rfl,g.kept (t':=s1.toks) λb o e=>ZBG _ e,UK p,⟨.none,.none,?_⟩,λb B=>?_,q⟩
 ·rw[hsz];exact ZBP _ rfl
 ·obtain rfl:b=k.objs.size:=by simpa using B
  exact g.fpOk (ZBD _) (g.hok.fresh (ZBD _))
end
end L2
namespace L2
open PySem PySem.Spec PyProof.Rows PySem.W
open Att (DU Hv NM)
variable {H H':Hp}{Pt a:Addr}{K:W.Frag}{ps:Array Value}
noncomputable def CdO(a:Addr)(q:Str):HO:=.ext λh=>h.CodeRec (.ref a) q
theorem Yy{P:Program}{w:World}{h:Heap}{q:Str}(r:h.CodeRec (.ref a) q):ObjOk P w H h a (CdO a q):=by
 refine⟨r,?_,λh1 h2 p k=>?_⟩
 ·obtain⟨c,o,vs,t,e,g,_⟩:=r;cases e;exact⟨o,g⟩
 ·obtain⟨c,o,vs,t,e,g,z⟩:=p;cases e;exact⟨_,o,vs,t,rfl,k o g,z⟩
noncomputable def zx(Pt:Addr)(pos:Pos)(q:Str)(H:Hp):Prop :=
 ∃ps:Array Value,H Pt=some (.tbl ps)/\TriplesOk ps.toList/\(codeAmong pos ps.toList=none\/∃f,codeAmong pos ps.toList=some (.ref f)/\H f=some (CdO f q))
def zu(Pt:Addr)(H H':Hp):Prop:=∀b o,b≠Pt->H b=some o->H' b=some o
theorem zu.refl(Pt:Addr)(H:Hp):zu Pt H H:=λ_ _ _ e=>e
theorem zu.trans{H1 H2:Hp}(a:zu Pt H H1)(b:zu Pt H1 H2):zu Pt H H2:=λc o n e=>b c o n (a c o n e)
theorem zu.same(h:EE H H'):zu Pt H H':=λb o _ e=>h b o e
theorem zx.same{pos:Pos}{q:Str}(l:zx Pt pos q H)(h:EE H H'):zx Pt pos q H':=by
 obtain⟨ps,a,b,c⟩:=l;refine⟨ps,h _ _ a,b,?_⟩
 rcases c with c | ⟨f,c,d⟩
 ·exact .inl c
 ·exact .inr ⟨f,c,h _ _ d⟩
theorem GR{xs:List V}(s:zu Pt H H')(hz:H Pt=some (.tbl ps))(h1:zj K H a xs):zj K H' a xs:=by
 rcases h1 with (h1 | ⟨o,h1⟩) | h1
 ·exact .inl (.inl (s a _ (λq=>by rw[q,hz]at h1;cases h1) h1))
 ·exact .inl (.inr ⟨o,s a _ (λq=>by rw[q,hz]at h1;cases h1) h1⟩)
 ·exact .inr h1
theorem Kw{xs:List V}(s:zu Pt H H')(hz:H Pt=some (.tbl ps))(h1:zr K H a xs):zr K H' a xs:=by
 rcases h1 with (h1 | ⟨o,h1⟩) | h1
 ·exact .inl (.inl (s a _ (λq=>by rw[q,hz]at h1;cases h1) h1))
 ·exact .inl (.inr ⟨o,s a _ (λq=>by rw[q,hz]at h1;cases h1) h1⟩)
 ·exact .inr h1
mutual
theorem zf.tab(s:zu Pt H H')(hz:H Pt=some (.tbl ps)):∀(d:Dv) (v:V),zf K H d v->zf K H' d v
 | .non,v,h=>by unfold zf at *;exact h
 | .bl b,v,h=>by unfold zf at *;exact h
 | .int i,v,h=>by unfold zf at *;exact h
 | .str x,v,h=>by unfold zf at *;exact h
 | .tup ds,v,h=>by
  unfold zf at *;obtain⟨a,xs,e,h1,h2⟩:=h;exact⟨a,xs,e,GR s hz h1,za.tab s hz ds xs h2⟩
 | .lst ds,v,h=>by
  unfold zf at *;obtain⟨a,xs,e,h1,h2⟩:=h;exact⟨a,xs,e,Kw s hz h1,za.tab s hz ds xs h2⟩
theorem za.tab(s:zu Pt H H')(hz:H Pt=some (.tbl ps)):∀(ds:List Dv) (xs:List V),za K H ds xs->za K H' ds xs
 | [],xs,h=>by unfold za at *;exact h
 | d::ds,xs,h=>by
  unfold za at *;obtain⟨x,r,e,h1,h2⟩:=h;exact⟨x,r,e,zf.tab s hz d x h1,za.tab s hz ds r h2⟩
end
def BMn(mg:Str->Option Value)(h:Heap):Prop:=∃bm f,mg "__builtins__" = some (.ref bm)/\bm≠builtinsNs/\h.get? bm=some f/\f.cls=.type "module" /\ f.dict=some builtinsNs/\f.data=.plain
section
variable {X:Cx}{El:List (Addr×Obj)}{Z:List (Option V)}{H:Hp}{s:Shared}{h':Heap}
theorem zd.grow {G:Addr} {more:Array Value} {t':Nat} {q:Str} (I:zd X El Z H s) (O:H Pt=some (.tbl ps)) (hx:Heap.ExtBut Pt s.heap h') (U:h'.get? Pt=some (tabObj (ps++more)))
 (hc:s.heap.objs.size<=G) (hr:h'.CodeRec (.ref G) q):zd X El Z (upd (upd H Pt (.tbl (ps++more))) G (CdO G q)) { s with heap:=h',toks:=t' }:=by
 have f:H G=none:=I.hok.fresh hc;have i:G≠Pt:=λz=>by rw[z,O]at f;cases f
 have hn:∀b,H b=none->b≠Pt:=λb e z=>by rw[z,O]at e;cases e
 have hs:∀b u,H b=some u->b≠G:=λb u e z=>by rw[z,f]at e;cases e
 have up:∀b,b≠G->b≠Pt->upd (upd H Pt (.tbl (ps++more))) G (CdO G q) b=H b:=λb j l=>by rw[AR j,AR l]
 refine I.un ⟨λb o e n _ _=>hx b o (hn b n) e,λb o e n _ _=>⟨o.slots,hx b o (hn b n) e⟩,λb o e n _=>?_,λb o e _=>?_,λb xs e=>?_,λb o u e=>?_,λb m e=>?_⟩ λb u e=>?_
 ·rw[up b (ZBR (ZBZ (ZBF e) hc)) (hn b n)];exact n
 ·by_cases z:b=Pt
  ·subst z;exact⟨_,U⟩
  ·exact⟨o,hx b o z e⟩
 ·have z:b≠Pt:=λz=>by rw[z,O]at e;cases e
  rw[up b (hs b _ e) z];exact e
 ·have z:b≠Pt:=λz=>by rw[z,O]at e;cases e
  rw[up b (hs b _ e) z];exact e
 ·by_cases z:b=Pt
  ·subst z;rw[O]at e;cases e;exact⟨more,by rw[AR (Ne.symm i),AF]⟩
  ·exact⟨#[],by rw[up b (hs b _ e) z,e];simp⟩
 ·by_cases z:b=G
  ·subst z;rw[AF]at e;cases e;exact Yy hr
  ·rw[AR z]at e
   by_cases y:b=Pt
   ·subst y;rw[AF]at e;cases e;exact U
   ·rw[AR y]at e;refine(I.hok b u e).stay (λc v g r=>hx c v ?_ r) (λc r=>?_) λc xs r=>?_
    ·rcases g with k | k
     ·rw[k];exact y
     ·rintro rfl;rw[O]at k;cases k
    ·rw[up c (hs c _ r) (λk=>by rw[k,O]at r;cases r)];exact r
    ·rw[up c (hs c _ r) (λk=>by rw[k,O]at r;cases r)];exact r
end
noncomputable abbrev Rc(qual:Str)(params:Arguments)(body:Expr)(scope:Scope)(pm:Value)(G:Addr)(z:Value):Obj:=kla_obj "<lambda>" qual params body scope [] pm G z
section
variable {prog:Program}{w:World}{A:Around}{s:Shared}
theorem Y7 {E:Value->Shared->Prop} {Q:Value->Shared->Prop} {f c':Addr} {qual x:Str} {params:Arguments} {scope:Scope} {pm U:Value} {np cp sp:Pos} {kd:Nat} {i:Int} {j:Nat} {zc:Array Value} {v:Value}
 (O:A.depth<recursionLimit) (hf:s.heap.get? f=some (Rc qual params (.Subscript (.Name x np) (.Constant (.int i) kd cp) sp) scope pm c' U)) (a4:s.heap.CodeRec (.ref c') qual)
 (a3:s.heap.NoLimit) (ht:IsTup s.heap a zc) (hi:zc[j]?=some v) (b1:i=(j:Int)) (hj:(j:Int)<2^62) (hsz:zc.size<=sizeLine)
 (z:∀u:Value,bindArgs (kla_fn "<lambda>" qual params (.Subscript (.Name x np) (.Constant (.int i) kd cp) sp) scope [] pm (.ref c') U) ⟨[u],[]⟩=pure [(x,u)]) (hx:scope.names.lookup x=some .local)
 (b0:scope.isCoroutine=false) (a0:scope.isGenerator=false) (hk:scope.kind=.function) (G:∀y∈scope.names,y.2≠.cell) (b2:(x==("__debug__" : Str))=false)
 (h:∀(h':Heap) (tk:Nat),(∀b o,s.heap.get? b=some o->h'.get? b=some o)->Q v { s with heap:=h',toks:=tk }) :
 wpAny (model prog w) A (call (.ref f) [.ref a]) Q E s:=by
 refine wpAny_call (kla_callFunE O hf rfl b0 a0 rfl a4 ?_);rw[z];refine ZBC (wpAny_newFunctionEnv G (λy p=>by rw[ZBX.mp p];exact hx) (λk n l=>⟨(a3.fresh _ l),?_⟩) hk);have g:∀b o,s.heap.get? b=some o->k.get? b=some o:=λb o e=>l.extBut b o (ZBR (ZBF e)) (ZBG _ e)
 refine kla_codeExpr (Subscript_ (wpAny_Name (wpAny_loadName_local hk hx n (v:=.ref a) ?_ (wpAny_Constant_int ?_)) b2))
 ·simp
 ·have m:IsTup k a zc:=by
   obtain⟨o,e,c⟩:=ht;exact⟨o,g _ _ e,c⟩
  have zn:j<zc.size:=(ZDP.mp hi).1;have hn:=Ex
  refine subscriptTail_builtinR (x:=v) m.typeIs slot_tuple_getitem.lookup
   (getItem_tuple (j:=j) (Q:=λr s'=>r=v/\_) m (by lia) (by lia) (by rw[b1];exact seqIndex_of (by lia) (by simpa using zn)) hi ⟨rfl,h _ _ g⟩) rfl
end
section
variable {X:Cx}{Pt c:Addr}{e:Expr}{te:TE}{p pos kpos lpos np cp sp:Pos}{x qual:Str}{params:Arguments}{scope:Scope}{kd:Nat}{i:Int}{K:W.Frag}
def JV(ks:List Int)(i:Nat):Prop:=i<ks.length/\∀j,j<ks.length->ks.getD i 0<=ks.getD j 0/\(j<i->ks.getD i 0<ks.getD j 0)
noncomputable def TH(K:W.Frag)(Pt:Addr)(lpos:Pos)(qual:Str)(n:Nat)(te:TE):TE:=λZ H Q=>te Z H λx H1=>∃l xs ks,x=.ref l/\H1 l=some (.lst xs)/\0<xs.length/\ks.length=xs.length /\
 (∀i<xs.length,∃a ys,xs[i]?=some (.ref a)/\zj K H1 a ys/\ys[n]?=some (.int (ks.getD i 0)))/\zx Pt lpos qual H1 /\
 ∀i v H2,JV ks i->xs[i]?=some v->zu Pt H1 H2->zx Pt lpos qual H2->Q v H2
theorem WD {n:Nat} (he:PE X e te) (hm:X.mg "min" = none) (hr:Room 2 X.A) (hc:X.calm=true) (U:X.env.code=.ref c) (d8:codeHdIn X.K c Pt=true) (d6:BMn X.mg X.base)
 (hq:X.env.qual ++ "<lambda>" = qual) (e5:i=(n:Int)) (c7:(n:Int)<2^62)
 (c1:defaultsOf params X.env=([],[])) (b0:closureFor scope X.env=pure [])
 (a0:∀(u pm G:Value) (O:Addr),bindArgs (kla_fn "<lambda>" qual params (.Subscript (.Name x np) (.Constant (.int i) kd cp) sp) scope [] pm (.ref O) G) ⟨[u],[]⟩=pure [(x,u)]) (hx:scope.names.lookup x=some .local)
 (e0:scope.isCoroutine=false) (c4:scope.isGenerator=false) (hk:scope.kind=.function) (a3:∀y∈scope.names,y.2≠.cell) (f3:(x==("__debug__" : Str))=false) 
 (hg:Gl X "min":=by rfl) (hK:X.K=K:=by rfl)
 (a4:starEach [e] X.env=(false,eval e X.env)::starEach [] X.env:=by rfl) :
 PE X (.Call (.Name "min" p) [e] [⟨some "key",.Lambda params (.Subscript (.Name x np) (.Constant (.int i) kd cp) sp) scope lpos,kpos⟩] pos) (TH K Pt lpos qual n te):=by
 intro El s Z H Q I h;subst hq hK;refine wpAny_Call_Name_kw (CO I hg hm (show bootBuiltins "min" = some (.builtin "min") by kernel_rfl) ?_);refine callWith_kw (e:=e) (rest:=[]) (id:="min") ?_ (by rw[a4];rfl) (by rw[a4];rfl)
 refine zm ((AA he AB a4) pos El s Z H (λvs H1=>match vs with | [x]=>(∃l xs ks,x=.ref l/\H1 l=some (.lst xs)/\0<xs.length/\ks.length=xs.length /\
  (∀i<xs.length,∃a ys,xs[i]?=some (.ref a)/\zj X.K H1 a ys/\ys[n]?=some (.int (ks.getD i 0)))/\zx Pt lpos (X.env.qual ++ "<lambda>") H1 /\
  ∀i v H2,JV ks i->xs[i]?=some v->zu Pt H1 H2->zx Pt lpos (X.env.qual ++ "<lambda>") H2->Q v H2) | _=>False) I h) λus s1 ⟨vs,H1,g,r1,S⟩=>?_
 match vs,r1,S with
 | [_],.cons rx .nil,⟨l,xs,ks,ex,hl,g6,g7,e6,hL,hQ⟩ =>
 subst ex;cases rx;obtain⟨ps,hP,P,e4⟩:=id hL;have c6:l≠Pt:=λz=>by rw[z,hP]at hl;cases hl
 have fin:∀(H2:Hp) (s2:Shared) (f O:Addr) (pm G:Value),zd X El Z H2 s2->s2.heap.get? f=some (Rc (X.env.qual ++ "<lambda>") params (.Subscript (.Name x np) (.Constant (.int i) kd cp) sp) scope pm O G) ->
  s2.heap.CodeRec (.ref O) (X.env.qual ++ "<lambda>")->zu Pt H1 H2->zx Pt lpos (X.env.qual ++ "<lambda>") H2 ->
  wpAny (model X.prog X.w) X.A (call (.builtin "min") [.ref l] [(Str.ofString "key",.ref f)]) (EP X El Z Q) X.xe s2:=by
  intro H2 s2 f O pm G B hf M hG d3;obtain⟨zc,r,pl,hz⟩:=B.list (.of (hG _ _ c6 hl));have zk:=r.length;obtain⟨m,D,_⟩:=id B.loc;have W:∀b u,H2 b=some u->b≠X.env.locals:=λb u e z=>by rw[z,B.free]at e;cases e
  have kp:∀{h':Heap} {own:List (Addr×Obj)},News (DU s2.heap) X.env.locals h' (GC (DU s2.heap) s2.heap X.env.locals++own)->∀b o,b≠X.env.locals->s2.heap.get? b=some o->h'.get? b=some o :=
   λ{h' own} N b o n e=>(N (b,o) (ZCK _ (Ur n (Hv _ _) e))).1
  have f7:l≠X.env.locals:=W _ _ (hG _ _ c6 hl)
  have f5:∀h',Fr (DU s2.heap) X.env.locals h' m->News (DU s2.heap) X.env.locals h' (GC (DU s2.heap) s2.heap X.env.locals)->h'.IsList l zc.toArray:=λh' Y N'=>by
   obtain⟨o,k,e,z⟩:=pl;have f9:PlainL h' l zc.toArray:=⟨o,k,kp (own:=[]) (by simpa using N') _ _ f7 e,z⟩;exact f9.isList
  refine kmk_min (λi=>ks.getD i 0) (B.ok.hd hc) (NM D) Ux f5 (by lia) (λi v hv h tk own Y N'=>?_) λi v h' g4 hv hb Y N'=>?_
  ·have hi:i<xs.length:=by rw[zk];exact(ZBW.mp hv).1
   obtain⟨a,ys,e1,e2,e3⟩:=e6 i hi;obtain⟨u,T,ru⟩:=r.get e1;rw[hv]at T;cases T;cases ru;have d4:=GR hG hP e2;obtain⟨f6,r2,pt,g9⟩:=B.tuple d4
   have d0:a≠X.env.locals:=λz=>by
    obtain⟨o,es,ep,e,hd,_⟩:=D;obtain⟨o2,S,q2,n2,q3⟩:=pt;rw[z,e]at S;have q5:=ZBQ S;rw[q5]at hd;have q4:=hd.symm.trans q3;cases q4
   obtain⟨u,T,t,ru⟩:=r2.get e3
   have d2:f≠X.env.locals:=λz=>by
    obtain⟨o,es,ep,e,hd,_⟩:=D;rw[z,e]at hf;cases hf;cases hd
   have d1:O≠X.env.locals:=λz=>by
    obtain⟨o,es,ep,e,hd,_⟩:=D;obtain⟨c2,oc,c9,t2,S,q2,q3,_⟩:=M;cases S;rw[z,e]at q2;cases q2;rw[hd]at q3;cases q3
   have g0:IsTup h a f6.toArray:=by
    obtain⟨o,e,z⟩:=pt;exact⟨o,kp N' _ _ d0 e,z⟩
   have c0:h.CodeRec (.ref O) (X.env.qual ++ "<lambda>"):=by
    obtain⟨c2,oc,c9,t2,S,q2,q3⟩:=M;cases S;exact⟨_,oc,c9,t2,rfl,kp N' _ _ d1 q2,q3⟩
   obtain⟨mF,FB⟩:=B.fr;have lim:h.NoLimit:=B.mod.nolimit.keeps λb o e=>kp N' b o (ZBR (ZBZ (ZBF e) FB.above)) (B.bk b o e)
   have g8:=r2.length;refine Y7 (s:={ s2 with heap:=h,toks:=tk }) (j:=n) (Room.in1 (k:=1) hr).depth (kp N' _ _ d2 hf) c0 lim g0 (by simpa using T) e5 c7 (by simp;lia) (λu=>a0 u pm G O) hx e0 c4 hk a3 f3 λh2 g5 k2=>?_
   refine⟨h2,g5,t,rfl,ru,⟨Y.ns.keeps k2,λb o e=>(by rw[Hv]at e;cases e),Y.above⟩,λp hp=>⟨k2 _ _ (N' p hp).1,(N' p hp).2⟩⟩
  ·have hi:i<xs.length:=by rw[zk];exact(ZBW.mp hv).1
   obtain⟨y,ey⟩:∃y,xs[i]?=some y:=⟨_,ZBE hi⟩;obtain⟨u,T,ru⟩:=r.get ey;rw[hv]at T;cases T;have kk:=kp (own:=[]) (by simpa using N')
   have I3:zd X El Z H2 { s2 with heap:=h',gens:=s2.gens,drawn:=s2.drawn,toks:=g4 }:=B.step (ch:=[]) (λ_ z=>nomatch z) (λb o n _ _ e _=>kk b o n e) (λb o n _ _ e _=>⟨o.slots,kk b o n e⟩) (λ_ _ _ _ z=>z)
    (λb o _ e=>by
      by_cases z:b=X.env.locals
      ·subst z;obtain⟨o',_,_,e',_⟩:=Y.ns;exact⟨o',e'⟩
      ·exact⟨o,kk b o z e⟩) (λ_ _ z=>z) (λ_ _ _ z=>z) (λb ps e=>⟨#[],by rw[e];simp⟩) (λm' e7=>?_) (λb u e=>?_) B.bare
   ·exact⟨y,H2,I3,ru,hQ i y H2 ⟨by lia,λj hj=>hb j (by lia)⟩ ey hG d3⟩
   ·rw[e7.eq_nsMap.trans D.eq_nsMap.symm];exact Y.ns
   ·refine(B.hok b u e).stay (λc v hc q=>kk c v ?_ q) (λ_ q=>q) λ_ _ q=>q
    rcases hc with z | z
    ·rw[z];exact W b u e
    ·exact W c _ z
 show wpAny _ _ (evalAll ((do let v <- eval (.Lambda params (.Subscript (.Name x np) (.Constant (.int i) kd cp) sp) scope lpos) X.env;standAt pos;pure v)::[])) _ _ s1;have gl:∀{s:Shared} {H:Hp},zd X El Z H s->s.heap.Ns mainGlobals X.mg:=λJ=>J.mod.glob.keeps J.bk
 have C:CodeHd s1.heap c Pt:=codeHd_of_K g.kIn d8;have L:s1.heap.get? Pt=some (tabObj ps):=g.hok _ _ hP
 have gP:mainGlobals≠Pt:=λz=>by
  obtain⟨o,es,ep,e,hd,_⟩:=gl g;rw[z,L]at e;cases e;cases hd
 have hB:s1.heap.BuiltinsAt X.mg Pt:=by
  obtain⟨bm,ob,b1,b2,b3,b4,b5,b6⟩:=d6;have e:=g.bk _ _ b3;refine⟨bm,ob,b1,b2,λz=>?_,λz=>?_,e,b4,b5,b6⟩
  ·obtain⟨o,es,ep,e',hd,_⟩:=gl g;rw[z,e']at e;cases e;rw[hd]at b6;cases b6
  ·rw[z,L]at e;cases e;cases b4
 refine wpAny_evalAll_cons (ZBA (kla_eval c1 ?_))
 rcases e4 with c8 | ⟨O,hf,d7⟩
 ·refine kla_makeFunction b0 g.ok.glob (gl g) U C L P c8 gP hB λO G h' tk e9 c3 zn R e8=>?_
  refine ZBA (ZCe (ZBC (wpAny_evalAll_nil ?_)));have J:=g.grow (t':=tk) hP e9 e8 c3 R;have J':=J.kept (h':=h'.push _) (t':=tk) λb u e=>ZBG (kla_obj "<lambda>" (X.env.qual ++ "<lambda>") params (.Subscript (.Name x np) (.Constant (.int i) kd cp) sp) scope [] ((X.mg "__name__").getD .none) O G) e
  have V:H1 O=none:=g.hok.fresh c3;have d9:O≠Pt:=λz=>by rw[z,hP]at V;cases V
  refine fin _ _ _ O _ G J' (ZBP _ rfl) (R.keeps λb o e=>ZBG _ e) (λb o n e=>?_) ⟨_,by rw[AR (Ne.symm d9),AF],?_,.inr ⟨O,?_,AF⟩⟩
  ·have d5:b≠O:=λz=>by rw[z,V]at e;cases e
   rw[AR d5,AR n];exact e
  ·rw[ZDT];exact TriplesOk_snoc _ _ _ _ P
  ·rw[ZDT];exact codeAmong_snoc _ P c8
 ·refine kla_makeFunctionHit b0 g.ok.glob (gl g) U C L P hf hB λG h' tk c5 hsz=>?_
  refine ZBA (ZCe (ZBC (wpAny_evalAll_nil ?_)));have J:=g.kept (h':=h'.push _) (t':=tk) λb u e=>ZBG (kla_obj "<lambda>" (X.env.qual ++ "<lambda>") params (.Subscript (.Name x np) (.Constant (.int i) kd cp) sp) scope [] ((X.mg "__name__").getD .none) O G) (c5 b u e)
  obtain⟨M,_⟩:=g.hok _ _ d7;exact fin _ _ _ O _ G J (ZBP _ rfl) (Heap.CodeRec.keeps M λb o e=>ZBG _ (c5 b o e)) (zu.refl _ _) hL
end
theorem Z1 {P:Program} {w:World} {mg mb:Str->Option Value} {CX:CXT} {k:Nat} {fa:Addr} {fd:FuncData} {x:Str} {sp:Sp} {G:Shared} {vs:List Value} {ns:List Int} {ts:List (Addr×Addr)}
 (KX:K.In G.heap) (a3:G.heap.Ns mainGlobals mg) (O:G.heap.Ns builtinsNs mb) (b0:∀x:Str,x ≠ "__name__" -> mb x=bootBuiltins x) (a0:G.heap.NoLimit) (hg:G.gens = #[])
 (ha:G.heap.get? a=some { cls:=.type "list",data:=.seq vs.toArray }) (hi:IntsAre vs ns) (hl:ns.length<=sizeLine) (hr:Room k callerA) (c0:BMn mg G.heap) (hT:TabsAt ts G.heap) (hnt:noTabs K=true)
 (F:∀base:Heap,K.In base->base.Ns mainGlobals mg->BMn mg base->FnOk P w K mg base CX k fa fd [x] sp) (U:∀(s:Shared) (u:Value),BindsTo s fd ⟨[u],[]⟩ [(x,u)])
 (c1:∀H:Hp,(∀q∈ts,H q.2=some (.tbl #[]))->zr K H a (ns.map V.int)->sp [.ref a] H (λv _=>v=.bl true) λ_ _ _=>False)
 (a4:∀H e s',CX [] H G (λ_ _ _=>False) e s'->False) :
 codeAny (model P w) callerA (.call (.ref fa) ⟨[.ref a],[]⟩) (λr s'=>r=.ok (.ret (.bool true))/\OldK G.heap s'.heap/\s'.os=G.os/\AllBare s'.gens) G:=by
 have rv:=RJ hi;have J:=hi.length
 have M:∀b,b∈ts.map (·.2)->K.lookup b=none:=λb j=>by
  obtain⟨q,i,rfl⟩:=ZBN.mp j;cases e:K.lookup q.2 with
  | none=>rfl
  | some o =>
   have C:=KX _ _ e;rw[(hT q i).2]at C;cases C;have h2:=ZCT.mp hnt (q.2,tabObj #[]) (mem_of_lookupK e);exact absurd (show false=true from h2) ZBz
 have g:∀b,b∈ts.map (·.2)->G.heap.get? b=some (tabObj #[]):=λb j=>by
  obtain⟨q,i,rfl⟩:=ZBN.mp j;exact(hT q i).2
 have core:∀H:Hp,(∀b,H b=none\/(∃o xs,H b=some (.frz o (.lst xs)))\/(b∈ts.map (·.2)/\H b=some (.tbl #[])))->(∀q∈ts,H q.2=some (.tbl #[]))->zr K H a (ns.map V.int)->HOk P w H G.heap->(∀b,H b≠none->b=a\/b∈ts.map (·.2))->(H a≠none->K.lookup a=none) ->
  codeAny (model P w) callerA (.call (.ref fa) ⟨[.ref a],[]⟩) (λr s'=>r=.ok (.ret (.bool true))/\OldK G.heap s'.heap/\s'.os=G.os/\AllBare s'.gens) G:=by
  intro H hO I hS hok hA hK;have f:∀{b:Addr} {o:Obj},G.heap.get? b=some o->H b=none->(Co G.heap H).get? b=some o:=λe n=>NH e n
  have L:∀{b:Addr} {o:Obj},G.heap.get? b=some o->(∀as n,o.data≠.seq as n)->(∀as,o.data≠.fields as)->H b=none:=λ{b o} e d d2=>by
   cases q:H b with
   | none=>rfl
   | some u =>
    rcases hA b (by rw[q];simp) with B | B
    ·subst B;rw[ha]at e;cases e;exact absurd rfl (d _ _)
    ·rw[g b B]at e;cases e;exact absurd rfl (d2 _)
  have l:∀{b:Addr} {m:Str->Option Value},G.heap.Ns b m->(Co G.heap H).Ns b m:=λ{b m} ⟨o,es,ep,e,d,r⟩=>⟨o,es,ep,f e (L e (λ_ _=>by rw[d];simp) (λ_=>by rw[d];simp)),d,r⟩
  have D:K.In (Co G.heap H):=λb o e=>f (KX b o e) (by
   cases q:H b with
   | none=>rfl
   | some u =>
    rcases hA b (by rw[q];simp) with B | B
    ·subst B;rw[hK (by rw[q];simp)]at e;cases e
    ·rw[M b B]at e;cases e)
  have hM:Mod K mg (Co G.heap H):=⟨D,l a3,⟨mb,l O,b0⟩,let ⟨mc,h1,h2⟩:=a0;⟨mc,l h1,h2⟩⟩
  have R:BMn mg (Co G.heap H):=by
   obtain⟨bm,T,b1,b2,Y,b4,b5,N⟩:=c0;exact⟨bm,T,b1,b2,f Y (L Y (λ_ _=>by rw[N];simp) (λ_=>by rw[N];simp)),b4,b5,N⟩
  have e0:Env0 P w K mg (Co G.heap H) callerA [] G H:=⟨rfl,hM,λb o e=>Nk e,ZCf (Np _ _),trivial,λb O=>absurd (show b∈([]:List Addr) from O) (by simp),hok,.of_eq hg⟩;refine ZCg ((F _ D (l a3) R).run callerA [] G H ⟨[.ref a],[]⟩ [.ref a] [.ref a] _ _ hr e0 (U G (.ref a)) (.cons rfl .nil) (c1 H I hS)) λr s' h=>?_
  cases r with
  | error e=>exact(a4 H e s' h).elim
  | ok fl =>
   cases fl with
   | next=>exact False.elim h
   | brk=>exact False.elim h
   | cont=>exact False.elim h
   | ret u =>
    obtain⟨v,H',os,bare,un,t,r',q⟩:=h;have q':v=.bl true:=q;subst q';obtain rfl:u=Value.bool true:=r'
    have kk:∀b o,G.heap.get? b=some o->b∉ts.map (·.2)->s'.heap.get? b=some o:=λb o e nb=>by
     cases q:H b with
     | none=>exact un.keep b o e q (by intro z;exact absurd (show b∈([]:List Addr) from z) (by simp)) (by simp)
     | some u =>
      rcases hO b with z | ⟨T,xs,z⟩ | ⟨z,_⟩
      ·rw[q]at z;cases z
      ·have z2:=un.frzs b T _ z;obtain⟨C,_⟩:=hok b _ z;obtain⟨e2,_⟩:=t b _ z2;rw[e]at C;cases C;exact e2
      ·exact absurd z nb
    have tt:∀b,b∈ts.map (·.2)->∃more,s'.heap.get? b=some (tabObj more):=λb j=>by
     obtain⟨q,i,rfl⟩:=ZBN.mp j;obtain⟨more,e⟩:=un.tbls _ _ (I q i);exact⟨_,t _ _ e⟩
    refine⟨rfl,⟨λb o e=>?_,λb o e=>?_⟩,os,bare⟩
    ·by_cases z:b∈ts.map (·.2)
     ·obtain⟨more,e2⟩:=tt b z;have Z:=g b z;rw[e]at Z;cases Z;obtain⟨q,i,rfl⟩:=ZBN.mp z;refine .inr (.inl ⟨((hT q i).1.tab (hT q i).2).isCodeTable,rfl,#[],more,rfl,by rw[e2];simp⟩)
     ·exact .inl (kk b o e z)
    ·by_cases z:b∈ts.map (·.2)
     ·obtain⟨more,e2⟩:=tt b z;exact⟨_,e2⟩
     ·exact⟨o,kk b o e z⟩
 have X:a∉ts.map (·.2):=λz=>by
  have e:=g a z;rw[ha]at e;cases e
 have W:∀q∈ts,q.2∈ts.map (·.2):=λq i=>List.mem_map_of_mem i
 cases S:K.lookup a with
 | some o =>
  have e:=KX a o S;rw[ha]at e;cases e;refine core (λb=>if b∈ts.map (·.2) then some (.tbl #[]) else none) (λb=>?_) (λq i=>if_pos (W q i)) (.inr ⟨_,vs.toArray,_,S,rfl,rfl,rfl,by rw[ZBM,J];exact hl,by simpa using rv⟩) (λb u z=>?_) (λb z=>?_) λz=>absurd (if_neg X) z
  ·by_cases z:b∈ts.map (·.2)
   ·exact .inr (.inr ⟨z,if_pos z⟩)
   ·exact .inl (if_neg z)
  ·by_cases y:b∈ts.map (·.2)
   ·have p:=(if_pos y).symm.trans z;cases p;exact g b y
   ·have p:=(if_neg y).symm.trans z;cases p
  ·by_cases y:b∈ts.map (·.2)
   ·exact .inr y
   ·exact absurd (if_neg y) z
 | none =>
  refine core (λb=>if b=a then some (.frz { cls:=.type "list",data:=.seq vs.toArray } (.lst (ns.map V.int))) else if b∈ts.map (·.2) then some (.tbl #[]) else none) (λb=>?_) (λq i=>?_) (.inl (.inr ⟨{ cls:=.type "list",data:=.seq vs.toArray },if_pos rfl⟩)) (λb u z=>?_) (λb z=>?_) λ_=>S
  ·by_cases O:b=a
   ·exact .inr (.inl ⟨_,_,if_pos O⟩)
   ·by_cases y:b∈ts.map (·.2)
    ·exact .inr (.inr ⟨y,(if_neg O).trans (if_pos y)⟩)
    ·exact .inl ((if_neg O).trans (if_neg y))
  ·have O:q.2≠a:=λz=>X (z▸W q i)
   exact(if_neg O).trans (if_pos (W q i))
  ·by_cases O:b=a
   ·have p:=(if_pos O).symm.trans z;cases p;subst O;exact⟨ha,by rw[ZBB];exact hl,vs,_,rv,ha⟩
   ·by_cases y:b∈ts.map (·.2)
    ·have p:=((if_neg O).trans (if_pos y)).symm.trans z;cases p;exact g b y
    ·have p:=((if_neg O).trans (if_neg y)).symm.trans z;cases p
  ·by_cases O:b=a
   ·exact .inl O
   ·by_cases y:b∈ts.map (·.2)
    ·exact .inr y
    ·exact absurd ((if_neg O).trans (if_neg y)) z
theorem walk_ofT {l:PySem.W.OpenLaw} {n k:Nat} {q:Program} {loose:List Str} {XP:(Str->Option Value)->Heap->Prop} {YP:World->Heap->Prop} {d:DefRec} {K:Params->W.Frag} {sp:World->List Addr->Sp} {x:Str}
 (hn:l.most=some n) (hn2:n<=sizeLine) (hdf:d.params.defaults=[]) (hr:Room k callerA)
 (hY:∀(w:World) (h:Heap),YP w h->(K w.params).In h)
 (F:∀(w:World) (mg:Str->Option Value) (fa:Addr) (h:Heap),YP w h->(K w.params).In h->h.Ns mainGlobals mg->mg d.name=some (.ref fa) ->
   ∃(fd:FuncData) (ts:List (Addr×Addr)),TabsAt ts h/\noTabs (K w.params)=true/\(∀(s:Shared) (u:Value),BindsTo s fd ⟨[u],[]⟩ [(x,u)]) /\
    ∀base:Heap,(K w.params).In base->base.Ns mainGlobals mg->BMn mg base->FnOk l.prog w (K w.params) mg base CX0 k fa fd [x] (sp w (ts.map (·.2))))
 (hsp:∀(w:World) (H:Hp) (a:Addr) (ns:List Int) (ts:List Addr),ns.length<=n->(∀Pt∈ts,H Pt=some (.tbl #[]))->zr (K w.params) H a (ns.map V.int)->sp w ts [.ref a] H (λv _=>v=.bl true) λ_ _ _=>False) :
 PySem.W.WalkO q loose XP YP l.row.toRowW d [] (λf vs=>PySem.call f vs):=by
 refine Att.attach_call hn hdf λw s₀ s₁ mg mb fa o pm cd doc a vs ns G Y ho hd hcd hmg hobj hints zk hg=>?_
 have KX:=hY w _ Y;obtain⟨fd,ts,hT,hnt,hb,hF⟩:=F w mg fa _ Y KX G.T.g hmg
 exact Z1 KX G.T.g G.T.b G.T.builtins G.T.nolimit hg hobj hints (ZBq zk hn2) hr G.T.bmain hT hnt hF hb (λH hO hS=>hsp w H a ns _ zk (λPt hP=>by
  obtain⟨q,hq,rfl⟩:=ZBN.mp hP;exact hO q hq) hS) λH e s' z=>z
theorem Fun.okC {P:Program} {w:World} {mg:Str->Option Value} {base:Heap} {x qual:Str} {st:Stmt} {f c:Addr} {fd:FuncData} {N ps:List Str} {k:Nat} {sp:Sp} (F:Fun K x qual st f fd) (G:fd.code=.ref c) (S:FnScope N ps (AJ st)) (len:∀vs H Q E,sp vs H Q E->vs.length=ps.length)
 (z:∀(A:Around) (outer:List Env) (s:Shared) (H:Hp) (vs:List V) (Q:VK) (E:XK),Room k (A.deeper (envOfC qual (AJ st) s.heap.objs.size f (.ref c)))->sp vs H Q E ->
   ∃t,PSs (D6 CX0 P w K mg base N qual (AJ st) f (.ref c) A outer s H E).nox (Bo st) t/\t { nx:=λ_ H'=>Q .non H',rt:=Q } (DO N vs) H):FnOk P w K mg base CX0 (k+1) f fd ps sp:=by
 obtain⟨oc,od,kV,doc,pm,an,zy,ct,osl,rfl,lk,g⟩:=F.ex;cases G;refine My lk g S len λA outer s H vs Q E hr i=>?_
 obtain⟨t,h,q⟩:=z A outer s H vs Q E hr i;exact⟨t,h.nox,q⟩
end L2
namespace L2
open PySem
def IC(K:W.Frag)(ts:List Addr):Sp:=λvs H Q _=>∃(a:Addr) (ns:List Int),vs=[.ref a]/\zr K H a (ns.map V.int)/\ns.length<=63/\(∀Pt∈ts,H Pt=some (.tbl #[]))/\∀H',Q (.bl true) H'
theorem Ph{Pt:Addr}{pos:Pos}{q:Str}{H:Hp}(h:H Pt=some (.tbl #[])):zx Pt pos q H:=⟨#[],h,trivial,.inl rfl⟩
end L2
namespace L2
open PySem PySem.Spec PyProof.Rows
noncomputable def mIn(K:W.Frag)(neg:Bool):R2:=λx y H Q=>match y with
 | .ref p=>∃xs,(zr K H p xs\/zj K H p xs)/\CC x=true/\xs.all CC=true/\Q (.bl (neg ^^ inV x xs)) H
 | _=>False
section
variable {X:Cx}{K:W.Frag}
theorem be(z:X.K=K:=by rfl):zv X (compareOp .NotIn) (mIn K true):=by
 subst z;intro El s Z H x y v u Q I g i h;cases y with
 | ref p =>
  obtain⟨xs,h1,h2,f,q⟩:=h;exact Yr El s Z H x _ v u Q I g i ⟨p,xs,rfl,h1,h2,f,by simpa using q⟩
 | _=>exact False.elim h
end
theorem SJ{K:W.Frag}{neg:Bool}:CS (mIn K neg):=λx y H Q g h q=>by
 cases y with
 | ref p=>obtain⟨xs,h1,h2,f,q⟩:=q;exact⟨xs,h1,h2,f,h _ _ q⟩
 | _=>exact False.elim q
section
variable {X:Cx}{K:W.Frag}
noncomputable def O8(K:W.Frag):List V->Hp->VK->Prop:=λxs H Q=>match xs with
 | [.ref l]=>∃bs:List Bool,zr K H l (bs.map V.bl)/\Q (.bl (bs.any id)) H
 | _=>False
theorem bD(z:X.calm=true):CallR X (.builtin "any") (O8 X.K):=by
 intro El s Z H xs us Q I r q
 match xs,q with
 | [.ref l],q =>
 obtain⟨bs,w,q⟩:=q;obtain⟨u,rfl,B⟩:=Bx r;cases B;obtain⟨zc,m,pl,hz⟩:=I.list w;have n:=m.length;rw[ZBB]at n;obtain⟨L,J,g1,_⟩:=id pl;have zn:=ZBF g1;refine call_any_walk (wpAny_pyIter_list pl.isList ?_);have D:l≠s.heap.objs.size:=ZBR zn;refine⟨_,_,_,_,_,_,λi=>bs.getD i false,rfl,Walks.list (A:=X.A.in1) (I.ok.hd z) s.heap.objs.size l D zc.toArray,?_,?_,λh' M t=>?_⟩
 ·exact⟨⟨_,ZBP _ rfl,rfl,rfl⟩,(show s.heap.IsList l zc.toArray from pl.isList).at λo e=>ZBG _ e⟩
 ·intro i v s' p G f j;have f:zc.toArray[i]?=some v:=f
  have hi:i<zc.length:=by
   have:=(ZDP.mp f).1
   simpa using this
  have k:(bs.map V.bl)[i]?=some (.bl bs[i]):=by rw[ZBJ,ZBE (by lia)];rfl
  obtain⟨C,x,y⟩:=m.get k;have e:v=C:=by simp at f;rw[x]at f;exact(ZBQ f).symm
  subst e;cases y;refine ZCO ?_;have e2:bs.getD i false=bs[i]:=by rw[ZBO,ZBE (by lia)];rfl
  have j:p (bs.getD i false) s':=j;rw[e2]at j;exact j
 ·refine⟨.bl _,H,I.kept (λb o e=>t b o ?_ (ZBG _ e)),rfl,?_⟩
  ·simp only[ZBX];exact ZBR (ZBF e)
  ·have e:(List.range zc.toArray.size).any (λi=>bs.getD i false)=bs.any id:=by
    rw[ZBM,<- n];rw[ZBv,ZCY,ZCY];constructor
    ·rintro⟨i,hi,e⟩;have g:=ZBV.mp hi;rw[ZBO,ZBE g]at e;exact⟨_,ZCL g,e⟩
    ·rintro⟨b,k,e⟩;obtain⟨i,hi,rfl⟩:=List.mem_iff_getElem.mp k;refine⟨i,ZBV.mpr hi,?_⟩;rw[ZBO,ZBE hi];exact e
   rw[e];exact q
theorem QS(G:X.calm=true)(z:X.K=K:=by rfl):CallR X (.builtin "any") (O8 K):=z▸bD G
end
end L2
namespace L2
variable {α:Type}
theorem on1{P:List α->Prop}(h:∀a,P [a]):∀us:List α,us.length=1->P us
 | [a],_=>h a
theorem on2{P:List α->Prop}(h:∀a b,P [a,b]):∀us:List α,us.length=2->P us
 | [a,b],_=>h a b
theorem on3{P:List α->Prop}(h:∀a b c,P [a,b,c]):∀us:List α,us.length=3->P us
 | [a,b,c],_=>h a b c
theorem on4{P:List α->Prop}(h:∀a b c d,P [a,b,c,d]):∀us:List α,us.length=4->P us
 | [a,b,c,d],_=>h a b c d
theorem on5{P:List α->Prop}(h:∀a b c d e,P [a,b,c,d,e]):∀us:List α,us.length=5->P us
 | [a,b,c,d,e],_=>h a b c d e
theorem on6{P:List α->Prop}(h:∀a b c d e f,P [a,b,c,d,e,f]):∀us:List α,us.length=6->P us
 | [a,b,c,d,e,f],_=>h a b c d e f
open PySem in
theorem b7{xs es:List PySem.Expr}{p:Pos}{env:Env}:starEach (.List xs p::es) env=(false,eval (.List xs p) env)::starEach es env:=by rfl
end L2
namespace L2
open PySem PyProof.Rows
theorem OG:∀ps:List Addr,zh (ps.map V.ref) (ps.map Value.ref)
 | []=>.nil
 | p::ps=>.cons rfl (OG ps)
theorem bT:∀{ns:List Int} {us:List Value},IntsAre us ns->zh (ns.map V.int) us:=by
 intro ns us h
 induction h with
 | nil=>exact .nil
 | cons _ _ _ f=>exact .cons ⟨_,rfl⟩ f
section
variable {X:Cx}{K:W.Frag}{o e e2:Expr}{to:TE}{t:TA}{apos cpos:Pos}
noncomputable def RP:V->List V->Hp->VK->Prop:=λx vs H Q=>match x,vs with
 | .ref l,[.int i]=>∃xs y,H l=some (.lst xs)/\0<=i/\i<2^63/\xs[i.toNat]?=some y/\Q y (upd H l (.lst (xs.eraseIdx i.toNat)))
 | _,_=>False
theorem Y3:MtR X "list.pop" RP:=by
 intro El s Z H x vs v us Q I m k q
 match x,vs,q with
 | .ref l,[.int i],⟨xs,y,h1,h2,g,f,q⟩ =>
 refine UO El s Z H _ _ v us Q I m k ⟨l,xs,i,i.toNat,y,rfl,rfl,h1,by lia,g,?_,f,q⟩;have hn:i.toNat<xs.length:=(ZBW.mp f).1;unfold seqIndex?;have hi:¬i<0:=by lia
 have j:(decide (0<=i)&&decide (i<(xs.length:Int)))=true:=by
  rw[ZBK h2,ZBK (by lia)];rfl
 simp only[if_neg hi,j];rfl
theorem Yl (ho:PE X o to) (ha:PA X [e] t) (G:attributeBase o "pop" X.env (eval o X.env)=eval o X.env:=by rfl)
 (U:((backTo cpos (starEach [e] X.env)).all (λx=>!x.1)&&(backToKw cpos (keywordEach [] X.env)).all (λx=>x.1.isSome)
   && decide ([e].length+([]:List Keyword).length+(if ([]:List Keyword).isEmpty then 0 else 1)<30))=true:=by rfl)
 (O:(apos.endLine==cpos.line)=true:=by rfl) (hs:starEach [e] X.env=(false,eval e X.env)::starEach [] X.env:=by rfl) (z:(backTo cpos (starEach [] X.env)).any (·.1)=false:=by rfl) (hK:X.K=K:=by rfl) :
 PE X (.Call (.Attribute o "pop" apos) [e] [] cpos) (tBM K "list" RP to t):=hK▸G0 PySem.F.plainAttrs_list PySem.F.slot_list_pop PySem.F.type_list_pop Y3 ho ha G U O hs z
end
theorem Pq:∀(n i:Nat) (us:List Value),us.length=n->(∀(j:Nat) (v:Value),us[j]?=some v->∃t,v=Value.int (((i+j:Nat):Int)) t)->zh ((List.range' i n).map λ(k:Nat)=>V.int (k:Int)) us
 | 0,i,[],_,_=>.nil
 | 0,i,_::_,h,_=>by cases h
 | n+1,i,[],h,_=>by cases h
 | n+1,i,u::us,h,hu=>by
  obtain⟨t,e⟩:=hu 0 u rfl;have r:zi (V.int ((i:Nat):Int)) u:=⟨t,by rw[e];rfl⟩;rw[List.range'_succ,ZBU];refine .cons r (Pq n (i+1) us (by simpa using h) λj v f=>?_);obtain⟨t,e⟩:=hu (j+1) v (by simpa using f);exact⟨t,by rw[e];congr 1;lia⟩
noncomputable def tLR(ta:TA):TE:=λZ H Q=>ta Z H λvs H1=>match vs with
 | [.int j]=>∃n:Nat,j=n/\n<=1000/\∀p,H1 p=none->Q (.ref p) (upd H1 p (.lst ((List.range n).map λ(k:Nat)=>V.int (k:Int))))
 | _=>False
section
variable {X:Cx}
theorem Yi {a:Expr} {ta:TA} {p pos p2 z:Pos} (hc:X.calm=true) (hg:Gl X "list") (hm:X.mg "list" = none) (O:Gl X "range") (U:X.mg "range" = none) (ha:PA X [a] ta)
 (hs:starEach [a] X.env=[(false,eval a X.env)]:=by rfl)
 (G:starEach [.Call (.Name "range" p2) [a] [] z] X.env=[(false,eval (.Call (.Name "range" p2) [a] [] z) X.env)]:=by rfl) :
 PE X (.Call (.Name "list" p) [.Call (.Name "range" p2) [a] [] z] [] pos) (tLR ta):=by
 intro El s Z H Q I h;refine Call_ (CO I hg hm (by rfl:bootBuiltins "list" = some (.type "list")) (PyProof.Rows.callWith_type1 ?_ (by rw[G];rfl) (by rfl)));rw[G];show wpAny _ _ (spliced ((false,eval (.Call (.Name "range" p2) [a] [] z) X.env)::[])) _ _ s;refine Calls.spliced_cons ?_;refine Call_ (CO I O U (by rfl:bootBuiltins "range" = some (.type "range")) (PyProof.Rows.callWith_type1 (zm (ha z El s Z H _ I h) λus s1 ⟨vs,H1,i,r1,y⟩=>?_) hs rfl))
 match vs,y,r1 with
 | [.int j],⟨n,g,hn,q⟩,r1 =>
 subst g;cases r1 with
 | cons r B =>
 cases B;obtain⟨t,rfl⟩:=r;refine call_range_1 ?_;refine Calls.spliced_nil ?_;refine call_list_range (n:=n) (I.ok.hd hc) (IsRange.new ..) (small_one (by lia) (by lia) (by lia) (by lia)) ?_ (by lia) λh' C l m x w f=>?_
 ·rw[rangeSize_one];split <;> lia
 have keep:∀b u,s1.heap.get? b=some u->h'.get? b=some u:=λb u e=>x b u (ZBG _ e)
 have hsz:(s1.heap.push { cls:=.type "range",data:=.fields #[.int 0 s1.toks,.int (n:Int) t,.int 1 (s1.toks+1)] }).objs.size=s1.heap.objs.size+1:=by simp[Heap.push]
 have hle:s1.heap.objs.size<=(s1.heap.push { cls:=.type "range",data:=.fields #[.int 0 s1.toks,.int (n:Int) t,.int 1 (s1.toks+1)] }).objs.size:=by rw[hsz];exact ZCS _
 refine⟨.ref _,_,i.laid (t':=C) (o:=.lst ((List.range n).map λ(k:Nat)=>V.int (k:Int))) keep hle ?_,rfl,q _ (i.hok.fresh hle)⟩;refine⟨by rw[ZBB,ZBc];exact EN hn,l.toList,m,?_,w⟩;rw[List.range_eq_range'];refine Pq n 0 l.toList (by rw[ZBm];exact f.1) λj v g=>?_
 obtain⟨t,e⟩:=f.2 j v (by rw[<- ZCy];exact g);exact⟨t,by rw[e];congr 1;lia⟩
end
end L2
namespace L2
open PySem PySem.Spec PyProof.Rows
section
variable {X:Cx}{K:W.Frag}
noncomputable def Qo(K:W.Frag):List V->Hp->VK->Prop:=λxs H Q=>match xs with
 | [.ref l]=>∃ns:List Int,zr K H l (ns.map V.int)/\0<ns.length/\∀M,M∈ns->(∀a∈ns,M<=a)->Q (.int M) H
 | _=>False
theorem V6(z:X.calm=true):CallR X (.builtin "min") (Qo X.K):=by
 intro El s Z H xs us Q I r q
 match xs,q with
 | [.ref l],q =>
 obtain⟨ns,o,k,q⟩:=q;obtain⟨u,rfl,w⟩:=Bx r;cases w;obtain⟨zc,x,pl,hz⟩:=I.list o;have hi:IntsAre zc ns:=by simpa using Kr x
 obtain⟨zs,g⟩:=(hi.allInts).items;have i:=pl.isList;rw[g]at i
 have f:ns=zs.toList.map (·.1):=by
  rw[<- hi.numsOf,<- nums_intItems,<- g]
 have hsz:0<zs.size:=by
  rw[f,ZBB,ZBm]at k;exact k
 refine min_intList (I.ok.hd z) i hsz λv h' y p n=>?_
 obtain⟨t,rfl⟩:=intItems_at p;obtain⟨h1,h2⟩:=argBest_lt (numAt zs) (zs.size-1);refine⟨.int _,H,I.kept n,⟨t,rfl⟩,q _ ?_ λa ha=>?_⟩
 ·rw[f,numAt_eq];exact getD_mem (by rw[ZBB,ZBm];lia)
 ·rw[f]at ha;obtain⟨j,m,rfl⟩:=mem_getD ha;rw[ZBB,ZBm]at m;rw[<- numAt_eq];exact h2 j (by lia)
theorem Vt(G:X.calm=true)(z:X.K=K:=by rfl):CallR X (.builtin "min") (Qo K):=z▸V6 G
end
open Classical in
noncomputable def b9(K:W.Frag)(H:Hp)(u:Value):Dv:=if h:∃d x,zi x u/\zf K H d x then h.choose else .non
inductive Dw where
 | non | bl (b:Bool) | int (i:Int) | str (x:Str) | tup (ds:List Dw) | lst (ds:List Dw) | emp
noncomputable def TC(a:Addr)(xs:List V):Heap->Prop:=λh=>a≠sysModules/\∃(zc:List Value) (n:Nat),zh xs zc/\h.get? a=some { cls:=.type "list",data:=.seq zc.toArray n }
mutual
noncomputable def M0(K:W.Frag)(H:Hp):Dw->V->Prop
 | .non,v=>v=.non
 | .bl b,v=>v=.bl b
 | .int i,v=>v=.int i
 | .str x,v=>v=.str x
 | .tup ds,v=>∃a xs,v=.ref a/\zj K H a xs/\zo K H ds xs
 | .lst ds,v=>∃a xs,v=.ref a/\H a=some (.ext (TC a xs))/\zo K H ds xs
 | .emp,v=>∃a,v=.ref a/\H a=some (.dK [])
noncomputable def zo(K:W.Frag)(H:Hp):List Dw->List V->Prop
 | [],xs=>xs=[]
 | d::ds,xs=>∃x r,xs=x::r/\M0 K H d x/\zo K H ds r
end
theorem Gw{K:W.Frag}{H:Hp}:zo K H [] []:=by unfold zo;rfl
theorem Ia{K:W.Frag}{H:Hp}{d:Dw}{ds:List Dw}{x:V}{xs:List V}(h:M0 K H d x)(r:zo K H ds xs):zo K H (d::ds) (x::xs):=by unfold zo;exact⟨x,xs,rfl,h,r⟩
theorem zo.append{K:W.Frag}{H:Hp}:∀{ds es:List Dw} {xs ys:List V},zo K H ds xs->zo K H es ys->zo K H (ds++es) (xs++ys)
 | [],es,xs,ys,h,h'=>by unfold zo at h;subst h;exact h'
 | d::ds,es,xs,ys,h,h'=>by
  unfold zo at h;obtain⟨x,r,rfl,h1,h2⟩:=h;exact Ia h1 (zo.append h2 h')
theorem zo.take{K:W.Frag}{H:Hp}:∀(k:Nat) {ds:List Dw} {xs:List V},zo K H ds xs->zo K H (ds.take k) (xs.take k)
 | 0,_,_,_=>by simpa using Gw
 | k+1,[],xs,h=>by unfold zo at h;subst h;simpa using Gw
 | k+1,d::ds,xs,h=>by
  unfold zo at h;obtain⟨x,r,rfl,h1,h2⟩:=h;simpa using Ia h1 (zo.take k h2)
theorem zo.reverse{K:W.Frag}{H:Hp}:∀{ds:List Dw} {xs:List V},zo K H ds xs->zo K H ds.reverse xs.reverse
 | [],xs,h=>by unfold zo at h;subst h;simpa using Gw
 | d::ds,xs,h=>by
  unfold zo at h;obtain⟨x,r,rfl,h1,h2⟩:=h;rw[ZDE,ZDE];exact zo.append (zo.reverse h2) (Ia h1 Gw)
theorem Oh(val:Nat->Int):∀i,(firstMet val i).Nodup
 | 0=>by rw[firstMet_zero];exact List.nodup_nil
 | i+1=>by
  rw[firstMet_succ];unfold step_dedup;have f:=Oh val i;split
  ·exact f
  ·rename_i h;rw[List.nodup_append];refine⟨f,by simp,?_⟩;intro a ha b g e;rw[ZBX.mp g]at e;exact h (ZCY.mpr ⟨a,ha,by rw[e];simp⟩)
theorem XD(ns:List Int)(k:Int):k∈firstMet (λi=>ns.getD i 0) ns.length ↔ k∈ns:=by
 have h:=firstMet_any (λi=>ns.getD i 0) ns.length k
 have e:(List.range ns.length).map (λi=>ns.getD i 0)=ns:=by
  apply List.ext_getElem
  ·simp
  ·intro i h1 h2;simp;rw[ZBE h2];rfl
 rw[e]at h;have a1:∀l:List Int,l.any (· == k)=true ↔ k∈l:=λl=>by simp
 rw[<- a1,<- a1,h]
def Ris(xs:Array Nat):Prop:=xs.toList.Pairwise (· < ·)
theorem Ris.lt{xs:Array Nat}(h:Ris xs){i k:Nat}(z:i<k)(G:k<xs.size)(j:Nat):xs.getD i j<xs.getD k j:=by
 have hi:i<xs.size:=ZCH z G
 have:=List.pairwise_iff_getElem.mp h i k (by simpa using hi) (by simpa using G) z
 simpa [Array.getD,hi,G] using this
theorem LY{xs:Array Nat}{j:Nat}(h:Ris xs):∀(f lo hi:Nat),hi-lo<=f->lo<=hi->hi<=xs.size->(∀i,i<lo->xs.getD i j<j)->(∀i,hi<=i->i<xs.size->j<=xs.getD i j) ->
 SetTable.below.go xs j f lo hi<=xs.size/\(∀i,i<SetTable.below.go xs j f lo hi->xs.getD i j<j)/\∀i,SetTable.below.go xs j f lo hi<=i->i<xs.size->j<=xs.getD i j
 | 0,lo,hi,h1,h2,g,k,l=>by
  have e:lo=hi:=by lia
  subst e;exact⟨g,k,l⟩
 | f+1,lo,hi,h1,h2,g,k,l=>by
  unfold SetTable.below.go
  by_cases o:lo<hi
  ·rw[if_pos o];dsimp only;have hm:(lo+hi) / 2<xs.size:=by lia
   by_cases m:xs.getD ((lo+hi) / 2) j<j
   ·rw[if_pos m];refine LY h f _ _ (by lia) (by lia) g (λi n=>?_) l
    rcases ZCN i ((lo+hi) / 2) with z | z
    ·exact ZCH (h.lt z hm j) m
    ·have:i=(lo+hi) / 2:=by lia
     rw[this];exact m
   ·rw[if_neg m];refine LY h f _ _ (by lia) (by lia) (by lia) k (λi n hs=>?_)
    rcases ZCN ((lo+hi) / 2) i with z | z
    ·have:=h.lt z hs j;lia
    ·have:i=(lo+hi) / 2:=by lia
     rw[this];lia
  ·rw[if_neg o];have e:lo=hi:=by lia
   subst e;exact⟨g,k,l⟩
theorem LJ{xs:Array Nat}(h:Ris xs)(j:Nat):SetTable.below xs j<=xs.size/\(∀i,i<SetTable.below xs j->xs.getD i j<j)/\∀i,SetTable.below xs j<=i->i<xs.size->j<=xs.getD i j :=
 LY h _ _ _ (by lia) (by lia) (ZBD _) (λi z=>by lia) (λi z y=>by lia)
theorem aF{xs:Array Nat}(h:Ris xs){k:Nat}(G:k<xs.size):SetTable.below xs (xs.getD k 0+1)=k+1:=by
 obtain⟨a,b,c⟩:=LJ h (xs.getD k 0+1);generalize SetTable.below xs (xs.getD k 0+1)=r at a b c;have f:∀i z,i<xs.size->xs.getD i z=xs.getD i 0:=λi z hi=>by simp[Array.getD,hi]
 rcases ZCn r (k+1) with z | z | z
 ·have:=c k (by lia) G
  rw[f k (xs.getD k 0+1) G]at this;lia
 ·exact z
 ·have h1:=b (k+1) z;have hs:k+1<xs.size:=by lia
  have h2:=h.lt (ZBu k) hs 0;rw[f (k+1) (xs.getD k 0+1) hs]at h1
  have:xs.getD k 0<xs.getD (k+1) 0:=h2
  lia
theorem SW{xs:Array Nat}(h:Ris xs):SetTable.below xs 0=0:=by
 obtain⟨a,b,c⟩:=LJ h 0
 rcases ZDS (SetTable.below xs 0) with z | z
 ·exact z
 ·have:=b 0 z;lia
theorem YU{xs:Array Nat}(h:Ris xs){j:Nat}(hn:xs[SetTable.below xs j]? ≠ some j):Ris (SetTable.insertAt xs (SetTable.below xs j) j):=by
 obtain⟨a,b,c⟩:=LJ h j;generalize SetTable.below xs j=r at a b c hn;unfold Ris;rw[SetTable.toList_insertAt,List.pairwise_append,ZDB];have g:∀i,i<xs.size->xs.toList[i]?=some (xs.getD i j):=λi hi=>by simp[Array.getD,hi]
 have lo:∀x∈xs.toList.take r,x<j:=λx k=>by
  obtain⟨i,hi,e⟩:=ZCD k;rw[ZBi]at hi;rw[List.getElem_take]at e;have f:i<xs.size:=by have:=(Nat.lt_min.mp hi).2;simpa using this
  have:=g i f
  rw[ZBE (by simpa using f),e]at this;cases this;exact b i (Nat.lt_min.mp hi).1
 have hi:∀x∈xs.toList.drop r,j<x:=λx k=>by
  obtain⟨i,hi,e⟩:=ZCD k;rw[List.length_drop]at hi;rw[List.getElem_drop]at e
  have f:r+i<xs.size:=by have:xs.toList.length=xs.size:=by simp
                         lia
  have m:=g (r+i) f;rw[ZBE (by simpa using f),e]at m;have e2:=c (r+i) (ZCU _ _) f;have n:x=xs.getD (r+i) j:=ZBQ m
  rcases ZDS i with z | z
  ·subst z
   have:x≠j:=λq=>hn (by rw[<- ZCy,g r f];rw[<- q];exact congrArg some (by rw[n]at q;rw[n];exact(by rw[q]:xs.getD (r+0) j=xs.getD (r+0) j)▸(by simp[Array.getD,show r<xs.size from f])))
   lia
  ·have h1:=h.lt (show r<r+i by lia) f j;have h2:=c r (ZBD _) (by lia);lia
 refine⟨List.Pairwise.sublist (List.take_sublist _ _) h,⟨hi,List.Pairwise.sublist (List.drop_sublist _ _) h⟩,λx k y o=>?_⟩
 rcases ZBI.mp o with rfl | l
 ·exact lo x k
 ·exact ZCH (lo x k) (hi y l)
theorem Px(t:SetTable)(p:SetTable.Probe):(t.advance p).dummy=p.dummy:=by
 unfold SetTable.advance;split <;> rfl
def Fy(t:SetTable)(j:Nat):Prop:=t.place[SetTable.below t.place j]? ≠ some j
theorem OX{t:SetTable}{j:Nat}(h:∀i,t.slot j≠.live i):Fy t j:=λe=>h _ (by unfold SetTable.slot;dsimp only;rw[if_pos (by rw[e];exact beq_self_eq_true _)])
theorem probe_go{t:SetTable}{g:Nat->Int}{h:Int}{j:Nat}{d:Option Nat}:∀(f:Nat) (p:SetTable.Probe),(∀x,p.dummy=some x->Fy t x)->SetTable.probe.go t g h f p=some (.empty j d)->Fy t j/\∀x,d=some x->Fy t x
 | 0,p,l,e=>by unfold SetTable.probe.go at e;cases e
 | f+1,p,l,e=>by
  unfold SetTable.probe.go at e;split at e
  ·rename_i hs;cases e;exact⟨OX (λi z=>by rw[hs]at z;cases z),l⟩
  ·rename_i hs;refine probe_go f _ (λx k=>?_) e;rw[Px]at k;cases k;exact OX λi z=>by rw[hs]at z;cases z
  ·split at e
   ·cases e
   ·exact probe_go f _ (λx k=>l x (by rw[Px]at k;exact k)) e
theorem VN{t:SetTable}{h:Int}{j:Nat}{b:Bool}(e:t.freeSlot h=some (j,b)):Fy t j:=by
 unfold SetTable.freeSlot at e;split at e
 ·rename_i g d hm;cases e;obtain⟨a,c⟩:=probe_go _ _ (λx f=>by cases f) (show SetTable.probe.go t _ h _ (t.probeStart h)=_ from hm);cases d with
  | none=>exact a
  | some x=>exact c x rfl
 ·cases e
structure TabG(w:World)(t:SetTable):Prop where
 led:t.led=!w.params.followText "set-order"
 ris:Ris t.place
theorem Vx(n:Nat):Ris (Array.range n):=by
 unfold Ris;rw[Array.toList_range];exact ZDU
theorem TY(w:World):TabG w (.fresh 0 0 (!w.params.followText "set-order")):=⟨rfl,List.Pairwise.nil⟩
theorem HX{w:World}{t:SetTable}(g:TabG w t)(n:Nat):TabG w (t.standIn n):=⟨g.led,Vx n⟩
theorem tg_orStandIn{w:World}{t:SetTable}(g:TabG w t)(n:Nat):TabG w (t.orStandIn n):=by
 unfold SetTable.orStandIn;split
 ·exact g
 ·exact HX g n
theorem WV{w:World}{t:SetTable}(g:TabG w t)(es:Array (Int×Value))(h:Int)(x:Value):TabG w (layNew t es h x).2.1:=by
 unfold layNew;split
 ·rename_i j b e;exact tg_orStandIn (t:=(t.put j).1) ⟨g.led,YU g.ris (VN e)⟩ _
 ·exact HX g _
theorem Yk{w:World}{t t':SetTable}(g:TabG w t){hs:Array Int}{n:Nat}{o:Array Nat}(e:t.relaid hs n=some (t',o)):TabG w t':=by
 unfold SetTable.relaid SetTable.laid at e;cases q:SetTable.layClean (SetTable.sizeAbove n-1) hs with
 | none=>rw[q]at e;cases e
 | some k =>
  rw[q]at e;cases e;refine⟨g.led,?_⟩;unfold Ris;dsimp only;rw[ZCI,List.pairwise_filterMap];refine List.Pairwise.imp (λ{a b} j x f y i=>?_) ZDU;cases h1:k.getD a none with
  | none=>rw[h1]at f;cases f
  | some u =>
   cases h2:k.getD b none with
   | none=>rw[h2]at i;cases i
   | some v =>
    rw[h1]at f;rw[h2]at i;cases f;cases i;exact j
theorem Wh{w:World}{t:SetTable}(g:TabG w t)(es:Array (Int×Value))(n:Nat):TabG w (relayAll t es n).2.1:=by
 unfold relayAll;split
 ·rename_i t' o e;dsimp only;split
  ·exact Yk g e
  ·exact HX g _
 ·exact HX g _
theorem bX{w:World}{t:SetTable}(g:TabG w t)(b:Bool):TabG w { t with plain:=b }:=⟨g.led,g.ris⟩
noncomputable def SetW(P:Program)(w:World)(h:Heap)(a:Addr)(S:Int->Bool)(n:Nat):Prop :=
 ∃o es f t,h.get? a=some o/\o.ExactSet/\o.data=.set es f t/\ElemsOf (intKind P w) es.toList/\(∀k,S k=true ↔ ∃e∈es.toList,(intKind P w).is k e.2=true)/\es.size<scanBound/\t.fits es.size=true/\es.size=n/\TabG w t
section
variable {P:Program}{w:World}{A:Around}{E:Value->Shared->Prop}{s:Shared}{a:Addr}
theorem SetW.at{h h':Heap}{S:Int->Bool}{n:Nat}(x:SetW P w h a S n)(k:∀o,h.get? a=some o->h'.get? a=some o):SetW P w h' a S n:=by
 obtain⟨o,es,f,t,h1,r⟩:=x;exact⟨o,es,f,t,k _ h1,r⟩
theorem SetW.of{h:Heap}{S:Int->Bool}{n:Nat}(x:SetW P w h a S n):h.SetOf (intKind P w) a S n:=by
 obtain⟨o,es,f,t,h1,h2,g,i,j,k,l,m,_⟩:=x;exact⟨o,es,f,t,h1,h2,g,i,j,k,l,m⟩
theorem RH {h:Heap} {o:Obj} {es z:Array (Int×Value)} {G:Nat} {t t':SetTable} {S:Int->Bool} (h1:h.get? a=some o) (h2:o.ExactSet) (h3:o.data=.set es G t) (O:ElemsOf (intKind P w) z.toList)
 (U:∀k,S k=true ↔ ∃e∈z.toList,(intKind P w).is k e.2=true) (h6:z.size<scanBound) (h7:t'.fits z.size=true) (g:TabG w t') :
 (h.update a (Obj.putSet z t')).get? a=some { o with data:=.set z (G+1) t' } /\ SetW P w (h.update a (Obj.putSet z t')) a S z.size :=
 have q:=SetOf_store (knd:=intKind P w) h1 h2 h3 O U h6 h7
 ⟨q.1,_,z,G+1,t',q.1,h2,rfl,O,U,h6,h7,rfl,g⟩
theorem W4{b:Bool}{Q:Unit->Shared->Prop}{z:Shared}(q:Q () z):wpAny (model P w) A (match b with | true=>rule "set.scan.the-table-gave-way" | false=>pure ()) Q E z:=by
 cases b with
 | true=>exact wpAny_rule q
 | false=>exact ZBC q
theorem QX {g:Bool->Sem Unit} (hg:∀(b:Bool) (U:Shared) (Q:Unit->Shared->Prop),Q () U->wpAny (model P w) A (g b) Q E U) {o:Obj} {es G:Array (Int×Value)} {ep:Nat} {t O:SetTable} {S:Int->Bool} {wd:Bool} {R:Option Bool->Shared->Prop}
 (h1:s.heap.get? a=some o) (h2:o.ExactSet) (h3:o.data=.set es ep t) (h4:ElemsOf (intKind P w) G.toList) (h5:∀k,S k=true ↔ ∃e∈G.toList,(intKind P w).is k e.2=true) (h6:G.size<scanBound) (h7:O.fits G.size=true) (gd:TabG w O)
 (fin:∀h',Heap.SameBut a s.heap h'->SetW P w h' a S G.size->R (some true) { s with heap:=h' }) :
 wpAny (model P w) A (do
  storeSet a G O
  if (!wd&&O.tooFull)=true then do
   g (relayAll O G (SetTable.grown G.size)).2.2;storeSet a (relayAll O G (SetTable.grown G.size)).1 (relayAll O G (SetTable.grown G.size)).2.1
   pure (some true)
   else
    pure (some true)) R E s:=by
 obtain⟨i,m⟩:=RH h1 h2 h3 h4 h5 h6 h7 gd;refine ZBA (wpAny_storeSet_of h1 h3 ?_ (fits_of_scanBound h6));have l:=ZB2 s.heap a (Obj.putSet G O);split
 ·have pm:=relayAll_perm O G (SetTable.grown G.size);have f:=relayAll_fits O G (SetTable.grown G.size);have tg:=Wh gd G (SetTable.grown G.size);generalize relayAll O G (SetTable.grown G.size)=V at pm f tg ⊢;obtain⟨e2,t3,n⟩:=V;dsimp only at pm f tg ⊢;have z:e2.size=G.size:=by rw[<- ZBm,pm.length_eq,ZBm]
  obtain⟨_,j⟩:=RH (S:=S) i h2 rfl (h4.perm pm) (λk=>(h5 k).trans ⟨λ⟨e,x,y⟩=>⟨e,pm.mem_iff.mpr x,y⟩,λ⟨e,x,y⟩=>⟨e,pm.mem_iff.mp x,y⟩⟩) (by rw[z];exact h6) f tg;rw[z]at j;exact ZBA (hg _ _ _ (ZBA (wpAny_storeSet_of i rfl (ZBC (fin _ (l.trans (ZB2 _ a _)) j)) (fits_of_scanBound (by rw[z];exact h6)))))
 ·exact ZBC (fin _ l m)
theorem Xu {S:Int->Bool} {n:Nat} {k:Int} {x:Value} {Q:Bool->Shared->Prop} (O:(intKind P w).is k x=true) (U:x.scannable=true) (hS:SetW P w s.heap a S n) (hn:n+1<scanBound)
 (fin:∀h',Heap.SameBut a s.heap h'->SetW P w h' a (λG=>S G||decide (G=k)) (if S k then n else n+1)->Q (!S k) { s with heap:=h' }) :
 wpAny (model P w) A (setAddHashed a x ((intKind P w).hash k)) Q E s:=by
 obtain⟨o,es,R,t,h1,h2,i,u,v,M,C,N,gd⟩:=hS;unfold setAddHashed setAddHashedIn;refine ZBr (ZBA (wpAny_setState_of h1 i C ?_));dsimp only;rw[byScan_of U M u];simp only[↓reduceIte];unfold setAddByScan;refine ZBA (ZBA (wpAny_rule (ZBA (wpAny_setScan_of O h1 i C u ?_))));cases hr:List.findIdx? (λe=>(intKind P w).is k e.2) es.toList with
 | some j =>
  dsimp only;obtain⟨T,D,_⟩:=List.findIdx?_eq_some_iff_getElem.mp hr;have m:S k=true:=(v k).mpr ⟨es.toList[j],ZCL T,D⟩
  have q:=fin s.heap (Heap.SameBut.refl a s.heap) ⟨o,es,R,t,h1,h2,i,u,(λG=>by
   rw[Bool.or_eq_true,decide_eq_true_eq,<- v G];exact⟨λz=>z.elim id (λe=>e▸m),.inl⟩),M,C,(by rw[m];exact N),gd⟩
  rw[m]at q;exact ZBC (ZBC q)
 | none =>
  dsimp only
  have m:S k=false:=by
   cases z:S k with
   | false=>rfl
   | true =>
    obtain⟨e,he,D⟩:=(v k).mp z
    have:=List.findIdx?_eq_none_iff.mp hr e he;rw[D]at this;cases this
  have pm:=layNew_perm t es ((intKind P w).hash k) x;have g:=layNew_fits t es ((intKind P w).hash k) x;have tg:=WV gd es ((intKind P w).hash k) x;generalize layNew t es ((intKind P w).hash k) x=V at pm g tg ⊢;obtain⟨p,t1,X,W⟩:=V;dsimp only at pm g tg ⊢;rw[Array.toList_push]at pm;have I:p.size=n+1:=by rw[<- ZBm,pm.length_eq,ZBS,ZBm,N];rfl
  have J:ElemsOf (intKind P w) p.toList:=(u.push O U).perm pm;have K:∀G,(S G||decide (G=k))=true ↔ ∃e∈p.toList,(intKind P w).is G e.2=true:=mem_push_iff O v pm
  have L:∀h',Heap.SameBut a s.heap h'->SetW P w h' a (λG=>S G||decide (G=k)) p.size->Q true { s with heap:=h' }:=λh' l q=>by
   have r:=fin h' l;rw[m]at r;rw[I]at q;exact r q
  have B:∀(b:Bool) (f:Shared) (y:Unit->Shared->Prop),y () f->wpAny (model P w) A (match b with | true=>rule "set.scan.the-table-gave-way" | false=>pure ()) y E f:=λb f y q=>W4 q
  refine ZBA (B _ _ _ ?_);split
  ·refine ZBA ?_;rw[hashByValue_scannable 8 U];refine ZBC (QX B h1 h2 i J K (by rw[I];exact hn) ?_ ?_ λh' l q=>ZBC (L h' l q))
   ·split
    ·exact g
    ·exact SetTable.fits_plain_off g
   ·split
    ·exact tg
    ·exact bX tg _
  ·refine ZBA (ZBC ?_);simp only[↓reduceIte];exact QX B h1 h2 i J K (by rw[I];exact hn) g tg λh' l q=>ZBC (L h' l q)
end
section
variable {P:Program}{w:World}{A:Around}{E:Value->Shared->Prop}{s:Shared}{a:Addr}
theorem SetW.congr{h:Heap}{S S':Int->Bool}{n z:Nat}(x:SetW P w h a S n)(e:∀k,S k=S' k)(G:n=z):SetW P w h a S' z:=by
 obtain rfl:S=S':=funext e;subst G;exact x
def Fu(P:Program)(w:World)(h:Heap)(a:Addr)(f:Nat->Int)(i:Nat):Prop:=SetW P w h a (λk=>(firstMet f i).any (· == k)) (firstMet f i).length
theorem Qz {R:Result->Shared->Prop} {I:Addr} {fp wr:List Addr} {G:Array GenState->Array GenState->Prop} {n:Nat} {Pv:Nat->Value->Prop} {St:Nat->Shared->Prop} (W:WalksS P w A.in1 I fp wr G n Pv St) (ha:a∉fp)
 (f:Nat->Int) (hf:∀i v,Pv i v->∃t,v=.int (f i) t) (O:n+1<scanBound):∀(k i:Nat) (s:Shared),n-i=k->i<=n->St i s->Fu P w s.heap a f i ->
  (∀s',Moved (a::wr) G s s'->Fu P w s'.heap a f n->R (.ok (.ret .none)) s')->codeAny (model P w) A (.builtin "set.update.loop" ⟨[.ref a,.ref I],[]⟩) R s
 | 0,i,s,C,hi,st,l,j=>by
  obtain rfl:i=n:=by lia
  refine ZCZ PyProof.Rows.F.entry_set_update_loop ?_;rw[ZCo PyProof.Rows.F.plain_set_update_loop _];show wpAny _ A.in1 (pyNext (.ref I) >>= _) _ _ s;refine ZBA (W.done s _ _ st λs' hm=>ZBC (j s' (hm.mono λb O=>ZBd _ O) (l.at λo e=>hm.heap a o (λz=>ha (W.sub _ z)) e)))
 | k+1,i,s,C,hi,st,l,j=>by
  have zn:i<n:=by lia
  refine ZCZ PyProof.Rows.F.entry_set_update_loop ?_;rw[ZCo PyProof.Rows.F.plain_set_update_loop _];show wpAny _ A.in1 (pyNext (.ref I) >>= _) _ _ s;refine ZBA (W.item i s _ _ zn st λv s' B x hm=>?_);obtain⟨t,rfl⟩:=hf i v B;have m:Fu P w s'.heap a f i:=l.at λo e=>hm.heap a o (λz=>ha (W.sub _ z)) e
  show wpAny _ A.in1 (holding [Value.int (f i) t] (setAdd a (.int (f i) t)) >>= _) _ _ s';refine ZBA (ZBr ?_);unfold setAdd;refine ZBr (ZBA ((intKind P w).pyHash (k:=f i) (intKind_is _ _ _ _) ?_));refine Xu (s:={ s' with toks:=s'.toks+1 }) (intKind_is _ _ _ _) rfl m (by have:=firstMet_length_le f i;lia) λh' y q=>?_
  refine ZBC ⟨ZCa PyProof.Rows.F.plain_set_update_loop _,Qz W ha f hf O k (i+1) _ (by lia) zn (W.frame _ s' _ _ x (ZCS _) λb g o e=>?_)
   (q.congr (λD=>by rw[firstMet_succ,step_any]) (by rw[firstMet_succ,step_length])) λu r p=>?_⟩
  ·rw[y.2 b (λz:b=a=>ha (by rw[<- z];exact g))];exact e
  ·refine j u (Moved.trans W.gtrans ((hm.mono λb O=>ZBd _ O).then_heap (ZCS _) λb o g e=>?_) r) p;rw[y.2 b (λz:b=a=>g (by rw[z];exact ZBh))];exact e
theorem XT:isSubtype (.type "tuple") (.type "set")=pure false:=by rw[isSubtype_type];kernel_rfl
theorem Wo:isSubtype (.type "tuple") (.type "frozenset")=pure false:=by rw[isSubtype_type];kernel_rfl
theorem Vi(v:Value){Q:Value->Shared->Prop}(h:Q (.ref s.heap.objs.size) { s with heap:=s.heap.push { cls:=.type "set",dict:=none,data:=.set #[] 0 (.fresh 0 0 (!w.params.followText "set-order")) } }) :
 codeAny (model P w) A (.call (.builtin "set.__new__") ⟨[.type "set",v],[]⟩) (wants Q E) s:=by
 refine codeAny_of_tree ?_;show wpAny _ A.in1 (do checkBuiltinCall "set.__new__" ⟨[.type "set",v],[]⟩;again (.builtin "set.__new__" ⟨[.type "set",v],[]⟩)) _ _ s;refine ZBA (wpAny_of_eq (PySem.F.newCall_set_1 v) (ZBC ⟨ZCa PySem.F.plain_set_new _,ZCZ PySem.F.entry_set_new ?_⟩));rw[ZCo PySem.F.plain_set_new _];unfold Builtin.«set.__new__» Builtin.Frozenset.newClass;have f:=PySem.sub_set_self;obtain⟨i,g,d,j,os⟩:=s;dsimp only;wp_walk;refine wpAny_askSetting (ZBC ?_);dsimp only;simp only[newObj];exact ZBA (wpAny_alloc (ZBC (ZBC h)))
set_option maxHeartbeats 6400000 in
theorem Y8 {l:Addr} {zc:Array Value} {ns:List Int} {Q:Value->Shared->Prop} (hh:A.handled=none) (hl:s.heap.IsTuple l zc) (hi:IntsAre zc.toList ns) (O:zc.size+1<scanBound)
 (fin:∀(h':Heap) (U:Nat),Fu P w h' s.heap.objs.size (λi=>ns.getD i 0) zc.size->(∀b o,b<s.heap.objs.size->s.heap.get? b=some o->h'.get? b=some o)->Q (.ref s.heap.objs.size) { s with heap:=h',toks:=U }) :
 wpAny (model P w) A (call (.type "set") [.ref l]) Q E s:=by
 obtain⟨c,tl,T⟩:=PySem.F.called_set.mro;have K:=PySem.F.called_set.made;have V:=PySem.F.called_set.sub;refine wpAny_call (codeAny_of_tree ?_);show wpAny _ _ (callAny (.type "set") _) _ _ _;refine ZBC ⟨Code.quiet_builtin _ (by decide +kernel),ZCZ PySem.F.entry_type_call ?_⟩;rw[Around.under_plain (weight_type_call_type "set" [.ref l] []) rfl];have k1:=PySem.F.called_set.notType;have k2:=PySem.F.called_set.canCreate;have k3:=PySem.F.typeCall_set_1 (.ref l)
 (repeat (any_goals (first | assumption | wp_step)));refine ZCg (Vi (.ref l) (E:=E) (Q:=λv j=>v=.ref s.heap.objs.size/\j={ s with heap:=s.heap.push { cls:=.type "set",dict:=none,data:=.set #[] 0 (.fresh 0 0 (!w.params.followText "set-order")) } }) ⟨rfl,rfl⟩) λr j hr=>?_
 cases r with
 | error e=>exact hr
 | ok X =>
  cases X with
  | ret ob =>
   obtain⟨rfl,rfl⟩:=hr;generalize B:(!w.params.followText "set-order")=led;have S:(s.heap.push { cls:=.type "set",dict:=none,data:=.set #[] 0 (.fresh 0 0 led) }).get? s.heap.objs.size=some { cls:=.type "set",dict:=none,data:=.set #[] 0 (.fresh 0 0 led) }:=ZBP _ rfl;have Y:Shared.TypeIs { s with heap:=s.heap.push { cls:=.type "set",dict:=none,data:=.set #[] 0 (.fresh 0 0 led) } } (.ref s.heap.objs.size) "set":=⟨_,S,rfl⟩;have k4:=PySem.F.called_set.init.lookup;have k5:=PySem.F.called_set.init.bind (.ref s.heap.objs.size)
   (repeat (any_goals (first | assumption | wp_step)));refine ZCg (codeAny_call_builtin (R:=wants (λr m=>r=.none/\∃h' U,m={ s with heap:=h',toks:=U } /\ Fu P w h' s.heap.objs.size (λi=>ns.getD i 0) zc.size /\
    (∀b o,b<s.heap.objs.size->s.heap.get? b=some o->h'.get? b=some o)) E) PySem.F.called_set.init.plain PySem.F.entry_set_init (check_set_init_1 Y ?_)) λG m f=>?_
   ·obtain⟨ol,C,u,nl,x⟩:=hl;obtain⟨W,t,L,g⟩:=ol;simp only at u x;subst u;subst x;have D:(s.heap.push { cls:=.type "set",dict:=none,data:=.set #[] 0 (.fresh 0 0 led) }).get? l=some { cls:=.type "tuple",dict:=t,data:=.seq zc nl,slots:=g }:=ZBG _ C;have s1:=XT;have s2:=Wo;have s3:(Value.type "tuple" == Value.type "dict")=false:=by decide
    have y:(s.heap.push { cls:=.type "set",dict:=none,data:=.set #[] 0 (.fresh 0 0 led) }).IsTuple l zc:=⟨_,D,rfl,nl,rfl⟩;unfold Builtin.«set.__init__» noKeywords Builtin.Frozenset.updateFrom;generalize I:pyIter=PI
    wp_walk
    subst I;refine wpAny_pyIter_tuple y (ZBA (wpAny_runValue ?_))
    have z:l<s.heap.objs.size:=ZBF C;have z1:l≠(s.heap.push { cls:=.type "set",dict:=none,data:=.set #[] 0 (.fresh 0 0 led) }).objs.size:=by
     rw[ZB8];exact(ZBR (ZB6 z))
    have z2:s.heap.objs.size∉[(s.heap.push { cls:=.type "set",dict:=none,data:=.set #[] 0 (.fresh 0 0 led) }).objs.size,l]:=by
     rw[ZB8];simp only[ZBI,ZBX,List.not_mem_nil,or_false,not_or];exact⟨ZBR (ZBu _),ZC6 z⟩
    refine Qz ((Walks.tuple (A:=A.in1.in1.in1) (by simp[hh]) _ l z1 zc).toS) z2 (λi=>ns.getD i 0) (λi v Z=>PyProof.Rows.IntsAre.int_at hi i v (by rw[ZCy];exact Z)) O (zc.size-0) 0 _ (by lia) (ZBT _)
     ⟨⟨_,ZBP _ rfl,rfl,rfl⟩,(y.push _)⟩ ?b0 ?bR
    case b0 =>
     refine⟨_,#[],0,_,ZBG _ S,⟨rfl,rfl,rfl⟩,rfl,λe he=>by simp at he,λk=>by simp[firstMet],by decide,by rfl,rfl,?_⟩;rw[<- B];exact TY w
    case bR =>
     intro s' hm p;obtain⟨h',g',d',N,M⟩:=s';obtain rfl:g'=s.gens:=hm.gens;obtain rfl:d'=s.drawn:=hm.drawn;obtain rfl:M=s.os:=hm.os;refine ZBC ?_;show wpAny _ _ (ret Value.none) _ _ _;refine ZBC ⟨rfl,h',N,rfl,p,λb o O e=>hm.heap b o ?_ (ZBG _ (ZBG _ e))⟩;rw[ZB8];simp only[ZBI,ZBX,List.not_mem_nil,or_false,not_or];exact⟨ZBR O,ZBR (ZB6 O)⟩
   ·cases G with
    | error e=>exact f
    | ok n =>
     cases n with
     | ret r =>
      obtain⟨rfl,h',U,rfl,p,J⟩:=f;repeat (any_goals (first | assumption | wp_step))
      exact fin _ _ p J
     | _=>exact f.elim
  | _=>exact hr.elim
end
namespace F
theorem slot_set_iterator_next:Slot "set_iterator" "__next__" "set_iterator.__next__" :=
 .of (owner:="set_iterator") (n:="__next__") (by rw[typeLookup_type,builtinLookup_eq_fast];kernel_rfl) (by decide +kernel) (by decide +kernel) (by decide +kernel) (by first | exact .inl (by decide +kernel) | exact .inr (by decide +kernel)) (by rw[isSubtype_type];kernel_rfl)
theorem slot_set_iterator_iter:Slot "set_iterator" "__iter__" "set_iterator.__iter__" :=
 .of (owner:="set_iterator") (n:="__iter__") (by rw[typeLookup_type,builtinLookup_eq_fast];kernel_rfl) (by decide +kernel) (by decide +kernel) (by decide +kernel) (by first | exact .inl (by decide +kernel) | exact .inr (by decide +kernel)) (by rw[isSubtype_type];kernel_rfl)
theorem entry_set_iterator_next:entryFor table "set_iterator.__next__" = some Builtin.«set_iterator.__next__»:=entryFor_of_tree (by kernel_rfl)
theorem entry_set_iterator_iter:entryFor table "set_iterator.__iter__" = some Builtin.«dict_keyiterator.__iter__»:=entryFor_alias (id':="dict_keyiterator.__iter__") (by kernel_rfl) (by first | rfl | decide +kernel | (unfold String.splitOn;simp +decide [String.splitOnAux])) (by decide +kernel) (by kernel_rfl)
theorem entry_set_iter:entryFor table "set.__iter__" = some Builtin.«frozenset.__iter__»:=entryFor_alias (id':="frozenset.__iter__") (by kernel_rfl) rfl (by decide +kernel) (by kernel_rfl)
theorem args_set_iterator_next(a:Value):argsOk "set_iterator.__next__" ⟨[a],[]⟩:=by unfold argsOk;kernel_rfl
theorem args_set_iterator_iter(a:Value):argsOk "set_iterator.__iter__" ⟨[a],[]⟩:=by unfold argsOk;kernel_rfl
end F
theorem Xn{M:Model}{A:Around}{E:Value->Shared->Prop}{s:Shared}{src:Source}{n:Nat}{Q:Nat->Shared->Prop}(hn:n≠0)(h:∀i d,i<n->Q i { s with drawn:=d }):wpAny M A (choose src n) Q E s :=
 λ_ _ _=>⟨hn,h _ _ (Nat.mod_lt _ (Nat.pos_of_ne_zero hn))⟩
theorem Re{α:Type}{l:List α}{i:Nat}(h:i<l.length):(l[i]::l.eraseIdx i).Perm l:=by
 rw[ZDV];have e:l=l.take i++l[i]::l.drop (i+1):=by rw[<- ZDQ h,List.take_append_drop]
 exact List.perm_middle.symm.trans (e▸.rfl)
theorem Qn{M:Model}{A:Around}{E:Value->Shared->Prop}{α:Type}:∀(n:Nat) (xs:List α) (s:Shared) (Q:List α->Shared->Prop),xs.length=n->(∀ys d,ys.Perm xs->Q ys { s with drawn:=d })->wpAny M A (drawOrder n xs) Q E s
 | 0,xs,s,Q,f,h=>by
  obtain rfl:xs=[]:=ZDW.mp f;unfold drawOrder;exact ZBC (h [] s.drawn .nil)
 | n+1,[],s,Q,f,h=>by cases f
 | n+1,x0::r,s,Q,f,h=>by
  unfold drawOrder;refine ZBA (Xn (by simp) λi d hi=>?_);obtain⟨x,g⟩:∃x,(x0::r)[i]?=some x:=⟨_,ZBE hi⟩;rw[g];dsimp only;refine ZBA (Qn n _ _ _ (by rw[List.length_eraseIdx];simp only[hi,if_true];lia) λys j k=>ZBC ?_);refine h _ j ?_;have e:(x0::r)[i]=x:=by rw[ZBE hi]at g;exact ZBQ g
  exact(List.Perm.cons x k).trans (e▸Re hi)
theorem Pr{α:Type}(nx:Nat->Nat):∀(f k:Nat) (l:List α) (out:Array α),l.length=f->(pickOrder.go nx f k l out).toList.Perm (out.toList++l)
 | 0,k,l,out,g=>by
  obtain rfl:l=[]:=ZDW.mp g;unfold pickOrder.go;rw[ZBs]
 | f+1,k,l,out,g=>by
  unfold pickOrder.go;have hi:nx k%l.length<l.length:=Nat.mod_lt _ (by lia);rw[ZBE hi];dsimp only;refine(Pr nx f (k+1) _ _ (by rw[List.length_eraseIdx];simp only[hi,if_true];lia)).trans ?_;rw[Array.toList_push,ZCj];exact List.Perm.append_left _ (Re hi)
theorem JP{α:Type}(nx:Nat->Nat)(xs:Array α):(pickOrder nx xs).toList.Perm xs.toList:=by
 have:=Pr nx xs.size 0 xs.toList #[] (by simp)
 rw[List.nil_append]at this;exact this
def IsSetIter(h:Heap)(I:Addr)(f:Value)(i:Nat)(a:Addr)(n z:Nat):Prop:=∃o,h.get? I=some o/\o.cls=.type "set_iterator" /\ o.data=.fields #[f,.int i 0,.ref a,.int n 0,.int z 0]
theorem IsSetIter.typeIs{s:Shared}{I a:Addr}{f:Value}{i n z:Nat}(x:IsSetIter s.heap I f i a n z):s.TypeIs (.ref I) "set_iterator":=let ⟨o,j,g,_⟩:=x;⟨o,j,g⟩
theorem IsSetIter.at{h h':Heap}{I a:Addr}{f:Value}{i n z:Nat}(x:IsSetIter h I f i a n z)(e:∀o,h.get? I=some o->h'.get? I=some o):IsSetIter h' I f i a n z:=let ⟨o,g,r⟩:=x;⟨o,e _ g,r⟩
section
variable {P:Program}{w:World}{A:Around}{E:Value->Shared->Prop}{s:Shared}{a I:Addr}
theorem Gn{h:Heap}{o:Obj}{vs:Array Value}(z:h.get? I=some o)(hd:o.data=.fields vs)(k:Nat)(x:Value):∃o',(h.update I (Obj.mapFields (·.setIfInBounds k x))).get? I=some o'/\o'.cls=o.cls/\o'.data=.fields (vs.setIfInBounds k x) :=
 ⟨_,ZCv _ z (Obj.isFreed_of_fields (Obj.data_mapFields hd _)),Obj.cls_mapFields ..,Obj.data_mapFields hd _⟩
theorem Nf {o:Obj} {es:Array (Int×Value)} {z i slot nx:Nat} {t:SetTable} {x:Value} {Q:Option Value->Shared->Prop} (hit:IsSetIter s.heap I (.int slot 0) i a es.size z) (h1:s.heap.get? a=some o) (G:o.data=.set es z t) (O:t.fits es.size=true)
 (hn:∀(A:Around) (E:Value->Shared->Prop) (Q:Option (Value×Nat)->Shared->Prop),Q (some (x,nx)) s->wpAny (model P w) A (setNext a slot i z) Q E s)
 (U:∀h',IsSetIter h' I (.int nx 0) (i+1) a es.size z->Heap.SameBut I s.heap h'->Q (some x) { s with heap:=h' }):wpAny (model P w) A (pyNext (.ref I)) Q E s:=by
 obtain⟨v,m,p,hd⟩:=id hit;unfold pyNext;refine ZBA (wpAny_attempt (wpAny_callSpecial?_slot (name:=Str.ofString "__next__") hit.typeIs F.slot_set_iterator_next (ZB1 F.slot_set_iterator_next hit.typeIs F.entry_set_iterator_next ?_ (F.args_set_iterator_next _))));show wpAny _ _ (fieldsOf (.ref I) >>= _) _ _ s;refine ZBA (wpAny_fieldsOf m hd ?_);dsimp only;refine ZBA (wpAny_setEntries_of h1 G O ?_);refine ZB7 (λj=>absurd j (by simp)) (λ_=>?_);refine ZBA (hn _ _ _ ?_);dsimp only;obtain⟨u,g,k,f⟩:=Gn m hd 0 (rawInt nx);refine ZBA (ZCM m hd (by simp) (ZBA (ZCM g f (by simp) (ZBC ⟨x,rfl,ZBC (U _ ?_ ((ZB2 ..).trans (ZB2 ..)))⟩))));obtain⟨r,n,l,hd2⟩:=Gn g f 1 (rawInt (i+1));exact⟨r,n,l.trans (k.trans p),by rw[hd2];simp[rawInt]⟩
theorem O4 {o:Obj} {es:Array (Int×Value)} {z i slot:Nat} {t:SetTable} {Q:Option Value->Shared->Prop} (G:A.handled=none) (hit:IsSetIter s.heap I (.int slot 0) i a es.size z) (h1:s.heap.get? a=some o) (O:o.data=.set es z t) (U:t.fits es.size=true)
 (hn:∀(A:Around) (E:Value->Shared->Prop) (Q:Option (Value×Nat)->Shared->Prop),Q none s->wpAny (model P w) A (setNext a slot i z) Q E s)
 (hQ:∀h',Heap.ExtBut I s.heap h'->Q none { s with heap:=h' }):wpAny (model P w) A (pyNext (.ref I)) Q E s:=by
 obtain⟨k,g,j,hd⟩:=id hit;unfold pyNext;refine ZBA (wpAny_attempt (wpAny_callSpecial?_slot (name:=Str.ofString "__next__") hit.typeIs F.slot_set_iterator_next (ZB1 F.slot_set_iterator_next hit.typeIs F.entry_set_iterator_next ?_ (F.args_set_iterator_next _))));show wpAny _ _ (fieldsOf (.ref I) >>= _) _ _ s;refine ZBA (wpAny_fieldsOf g hd ?_);dsimp only;refine ZBA (wpAny_setEntries_of h1 O U ?_);refine ZB7 (λf=>absurd f (by simp)) (λ_=>?_);refine ZBA (hn _ _ _ ?_);dsimp only;refine ZBA (ZCM g hd (by simp) ?_);show wpAny _ _ (newExc (.type "StopIteration") [] >>= _) _ _ _;refine ZBA ?_;simp only[newExc,newTuple];refine ZBA (ZB9 (ZBA (m:=firstArgMember _ _) (wpAny_of_eq (a:=Value.none) (by first | rfl | (simp only[firstArgMember];rfl)) (ZB9 ?_ (by size_fits)))) (by size_fits));simp only[raiseNew];refine ZBA (wpAny_handled ?_);first | rw[show A.in1.handled=none from G] | rw[G]
 refine ZBA (ZBC (wpAny_throw ?st));refine ZBA (wpAny_isInstance (T:="StopIteration") (b:=true) ⟨_,ZBP _ rfl,rfl⟩ isSubtype_stop ?_);exact ZBC (hQ _ ((((ZB2 ..)).extBut.push _).push _))
theorem WW {o ot:Obj} {es:Array (Int×Value)} {z i tp nt:Nat} {t:SetTable} {ps:Array Value} {p:Nat} {x:Int×Value} {Q:Option Value->Shared->Prop} (hit:IsSetIter s.heap I (.ref tp) i a es.size z) (h1:s.heap.get? a=some o) (O:o.data=.set es z t) (U:t.fits es.size=true)
 (ht:s.heap.get? tp=some ot) (G:ot.data=.seq ps nt) (hp:ps[i]?=some (.int p 0)) (hx:es[p]?=some x)
 (hQ:∀h',IsSetIter h' I (.ref tp) (i+1) a es.size z->Heap.SameBut I s.heap h'->Q (some x.2) { s with heap:=h' }):wpAny (model P w) A (pyNext (.ref I)) Q E s:=by
 obtain⟨n,j,l,hd⟩:=id hit;unfold pyNext;refine ZBA (wpAny_attempt (wpAny_callSpecial?_slot (name:=Str.ofString "__next__") hit.typeIs F.slot_set_iterator_next (ZB1 F.slot_set_iterator_next hit.typeIs F.entry_set_iterator_next ?_ (F.args_set_iterator_next _))));show wpAny _ _ (fieldsOf (.ref I) >>= _) _ _ s;refine ZBA (wpAny_fieldsOf j hd ?_);dsimp only;refine ZBA (wpAny_setEntries_of h1 O U ?_);refine ZB7 (λf=>absurd f (by simp)) (λ_=>?_);refine ZBA (wpAny_seqItems ht G ?_);simp only[ZBj,hp];unfold setNextDrawn;refine ZBA (ZBA (wpAny_setState_of h1 O U ?_));dsimp only;refine ZB7 (λf=>absurd f (by simp)) (λ_=>?_);rw[hx];refine ZBC (ZBA (ZCM j hd (by simp) (ZBC ⟨x.2,rfl,ZBC (hQ _ ?_ (ZB2 ..))⟩)));obtain⟨m,k,g,hd2⟩:=Gn j hd 1 (rawInt (i+1));exact⟨m,k,g.trans l,by rw[hd2];simp[rawInt]⟩
theorem XY {o U:Obj} {es:Array (Int×Value)} {G i tp nt:Nat} {t:SetTable} {ps:Array Value} {Q:Option Value->Shared->Prop} (O:A.handled=none) (hit:IsSetIter s.heap I (.ref tp) i a es.size G) (h1:s.heap.get? a=some o) (h3:o.data=.set es G t) (h7:t.fits es.size=true)
 (ht:s.heap.get? tp=some U) (z:U.data=.seq ps nt) (hp:ps[i]?=none)
 (hQ:∀h',Heap.ExtBut I s.heap h'->Q none { s with heap:=h' }):wpAny (model P w) A (pyNext (.ref I)) Q E s:=by
 obtain⟨r,j,n,hd⟩:=id hit;unfold pyNext;refine ZBA (wpAny_attempt (wpAny_callSpecial?_slot (name:=Str.ofString "__next__") hit.typeIs F.slot_set_iterator_next (ZB1 F.slot_set_iterator_next hit.typeIs F.entry_set_iterator_next ?_ (F.args_set_iterator_next _))));show wpAny _ _ (fieldsOf (.ref I) >>= _) _ _ s;refine ZBA (wpAny_fieldsOf j hd ?_);dsimp only;refine ZBA (wpAny_setEntries_of h1 h3 h7 ?_);refine ZB7 (λf=>absurd f (by simp)) (λ_=>?_);refine ZBA (wpAny_seqItems ht z ?_);simp only[ZBj,hp];obtain⟨p,k,l,g⟩:=Gn j hd 0 (rawInt 0);refine ZBA (ZCM j hd (by simp) (ZBA (ZCM k g (by simp) ?_)));show wpAny _ _ (newExc (.type "StopIteration") [] >>= _) _ _ _;refine ZBA ?_;simp only[newExc,newTuple];refine ZBA (ZB9 (ZBA (m:=firstArgMember _ _) (wpAny_of_eq (a:=Value.none) (by first | rfl | (simp only[firstArgMember];rfl)) (ZB9 ?_ (by size_fits)))) (by size_fits));simp only[raiseNew];refine ZBA (wpAny_handled ?_);first | rw[show A.in1.handled=none from O] | rw[O]
 refine ZBA (ZBC (wpAny_throw ?st));refine ZBA (wpAny_isInstance (T:="StopIteration") (b:=true) ⟨_,ZBP _ rfl,rfl⟩ isSubtype_stop ?_);exact ZBC (hQ _ ((((ZB2 ..).trans (ZB2 ..)).extBut.push _).push _))
theorem Md{f:Value}{i n z:Nat}{Q:Value->Shared->Prop}(hit:IsSetIter s.heap I f i a n z)(h:Q (.ref I) s):wpAny (model P w) A (pyIter (.ref I)) Q E s:=by
 refine wpAny_pyIter_slot hit.typeIs F.slot_set_iterator_iter (ZB1 F.slot_set_iterator_iter hit.typeIs F.entry_set_iterator_iter ?_ (F.args_set_iterator_iter _));show wpAny _ _ (ret (.ref I)) _ _ s;exact ZBC ⟨_,rfl,"set_iterator",_,hit.typeIs,F.slot_set_iterator_next.lookup,h⟩
end
section
variable {P:Program}{w:World}{A:Around}{E:Value->Shared->Prop}{s:Shared}{a I:Addr}
theorem OY{l:List (Int×Value)}(h:ElemsOf (intKind P w) l){e:Int×Value}(he:e∈l):∃t,e.2=.int (numOf e.2) t:=by
 obtain⟨⟨k,g,_⟩,_⟩:=h e he;obtain⟨t,f⟩:=Value.isInt_shape (show Value.isInt k e.2=true from g);exact⟨t,by rw[f];rfl⟩
theorem JT{l:List (Int×Value)}(h:ElemsOf (intKind P w) l)(k:Int):k∈l.map (λ(e:Int×Value)=>numOf e.2) ↔ ∃e∈l,(intKind P w).is k e.2=true:=by
 rw[ZBN];constructor
 ·rintro⟨e,he,rfl⟩;obtain⟨t,f⟩:=OY h he;exact⟨e,he,by rw[f];exact intKind_is _ _ _ _⟩
 ·rintro⟨e,he,g⟩;obtain⟨t,f⟩:=Value.isInt_shape (show Value.isInt k e.2=true from g);exact⟨e,he,by rw[f];rfl⟩
theorem GX{Q:Bool->Shared->Prop}(h:Q (w.params.followText "set-order") s):wpAny (model P w) A setsByText Q E s:=by
 unfold setsByText;exact ZBA (wpAny_askSetting (ZBC h))
theorem PF {o:Obj} {es:Array (Int×Value)} {z i:Nat} {t:SetTable} (U:w.params.followText "set-order" = true) (h1:s.heap.get? a=some o) (G:o.data=.set es z t) (O:t.fits es.size=true) {Q:Option (Value×Nat)->Shared->Prop}
 (h:Q (((pickOrder (w.params.setOrder a z) es)[i]?).map λe=>(e.2,0)) s):wpAny (model P w) A (setNext a 0 i z) Q E s:=by
 unfold setNext;refine ZBA (wpAny_setState_of h1 G O ?_);dsimp only;refine ZBA (GX ?_);rw[U];simp only[↓reduceIte];refine ZB7 (λf=>absurd f (by simp)) (λ_=>?_);unfold setWalk;refine ZBA (ZBA (wpAny_setState_of h1 G O ?_));dsimp only;refine ZBA (GX ?_);rw[U];simp only[↓reduceIte];exact ZBA (wpAny_askSetting (ZBC (ZBC h)))
theorem Qd {o:Obj} {es:Array (Int×Value)} {z i sl:Nat} {t:SetTable} (hx:w.params.followText "set-order" = false) (h1:s.heap.get? a=some o) (G:o.data=.set es z t) (O:t.fits es.size=true) (hl:t.led=true) (hd:(!t.plain&&decide (es.size>1))=false)
 {k:Nat} (U:SetTable.below t.place sl=k) {Q:Option (Value×Nat)->Shared->Prop}
 (h:Q (match es[k]?,t.place[k]? with | some (_,x),some j=>some (x,j+1) | _,_=>none) s):wpAny (model P w) A (setNext a sl i z) Q E s:=by
 unfold setNext;refine ZBA (wpAny_setState_of h1 G O ?_);dsimp only;refine ZBA (GX ?_);rw[hx];refine ZB7 (λf=>absurd f (by simp)) (λ_=>?_);refine ZB7 (λf=>absurd (show(!t.plain&&decide (es.size>1))=true from f) (by rw[hd];simp)) (λ_=>?_);refine ZBA ?_;show wpAny _ _ (if (!t.led && !es.isEmpty)=true then unsupported "set:maker-not-led" else pure ()) _ _ _;refine ZB7 (λf=>absurd f (by rw[hl];simp)) (λ_=>ZBC ?_);subst U;exact ZBC h
def Gy(L:List (Int×Value))(i:Nat)(v:Value):Prop:=∃t,v=.int ((L.map λ(e:Int×Value)=>numOf e.2).getD i 0) t
theorem KM{L:List (Int×Value)}(h:ElemsOf (intKind P w) L){i:Nat}{e:Int×Value}(he:L[i]?=some e):Gy L i e.2:=by
 obtain⟨t,f⟩:=OY h (ZB3 he);refine⟨t,?_⟩;rw[ZBO,ZBJ,he];exact f
theorem UE{o:Obj}{es:Array (Int×Value)}{z:Nat}{t:SetTable}(hh:A.handled=none)(zw:a≠I)(U:w.params.followText "set-order" = true)(G:o.data=.set es z t)(h4:ElemsOf (intKind P w) es.toList)(O:t.fits es.size=true) :
 Walks P w A I [I,a] [I] es.size (Gy (pickOrder (w.params.setOrder a z) es).toList) (λi h=>IsSetIter h I (.int 0 0) i a es.size z/\h.get? a=some o) where
 sub:=λb f=>by simp at f;simp[f]
 frame:=λ_ _ _ st l=>⟨st.1.at λo e=>l I (by simp) o e,l a (by simp) _ st.2⟩
 item:=λi s Q E hi st g=>by
  have pm:=JP (w.params.setOrder a z) es;have m:i<(pickOrder (w.params.setOrder a z) es).size:=by rw[<- ZBm,pm.length_eq,ZBm];exact hi
  refine Nf (slot:=0) (nx:=0) (x:=(pickOrder (w.params.setOrder a z) es)[i].2) st.1 st.2 G O (λA E Q q=>PF U st.2 G O (by rw[ZCp m];exact q)) λh' j n=>?_
  exact g _ h' s.toks (KM (h4.perm pm) (by rw[ZCy,ZCp m])) ⟨j,(n.2 a zw).trans st.2⟩ λb o f e=>n.extBut b o (λh=>f (by simp[h])) e
 done:=λs Q E st g=>by
  have pm:=JP (w.params.setOrder a z) es;refine O4 (slot:=0) hh st.1 st.2 G O (λA E Q q=>PF U st.2 G O ?_) λh' k=>g h' s.toks λb o f e=>k b o (λh=>f (by simp[h])) e
  rw[Array.getElem?_eq_none (by rw[<- ZBm,pm.length_eq,ZBm];exact ZBD _)];exact q
 self:=λ_ _ _ _ st g=>Md st.1 g
noncomputable def GV(t:SetTable)(i:Nat):Nat:=match i with | 0=>0 | k+1=>t.place.getD k 0+1
theorem NB{t:SetTable}(g:Ris t.place){i:Nat}(h:i<=t.place.size):SetTable.below t.place (GV t i)=i:=by
 cases i with
 | zero=>exact SW g
 | succ k=>exact aF g h
theorem S5{o:Obj}{es:Array (Int×Value)}{U:Nat}{t:SetTable}(hh:A.handled=none)(zw:a≠I)(O:w.params.followText "set-order" = false)(hd:(!t.plain&&decide (es.size>1))=false)(G:o.data=.set es U t)(h4:ElemsOf (intKind P w) es.toList)(z:t.fits es.size=true)(g:TabG w t) :
 Walks P w A I [I,a] [I] es.size (Gy es.toList) (λi h=>IsSetIter h I (.int (GV t i) 0) i a es.size U/\h.get? a=some o) where
 sub:=λb f=>by simp at f;simp[f]
 frame:=λ_ _ _ st n=>⟨st.1.at λo e=>n I (by simp) o e,n a (by simp) _ st.2⟩
 item:=λi s Q E hi st j=>by
  have hz:t.place.size=es.size:=by have:=z;unfold SetTable.fits at this;simp at this;exact this.1
  have m:t.led=true:=by rw[g.led,O];rfl
  refine Nf (nx:=GV t (i+1)) (x:=es[i].2) st.1 st.2 G z (λA E Q q=>Qd O st.2 G z m hd (NB g.ris (by lia)) ?_) λh' k p=>?_
  ·rw[ZCp hi,ZCp (show i<t.place.size by lia)];have e:GV t (i+1)=t.place[i]+1:=by show t.place.getD i 0+1=_;simp[Array.getD,show i<t.place.size by lia]
   rw[e]at q;exact q
  ·exact j _ h' s.toks (KM h4 (by rw[ZCy,ZCp hi])) ⟨k,(p.2 a zw).trans st.2⟩ λb o f e=>p.extBut b o (λh=>f (by simp[h])) e
 done:=λs Q E st j=>by
  have hz:t.place.size=es.size:=by have:=z;unfold SetTable.fits at this;simp at this;exact this.1
  have m:t.led=true:=by rw[g.led,O];rfl
  refine O4 hh st.1 st.2 G z (λA E Q q=>Qd O st.2 G z m hd (NB g.ris (by lia)) ?_) λh' l=>j h' s.toks λb o f e=>l b o (λh=>f (by simp[h])) e
  rw[Array.getElem?_eq_none (ZBD _)];exact q
 self:=λ_ _ _ _ st j=>Md st.1 j
theorem NS{α:Type}(es:Array α):∀(l:List Nat),(∀x∈l,x<es.size)->∀i:Nat,(l.filterMap (es[·]?))[i]?=(l[i]?).bind (es[·]?)
 | [],_,i=>by simp
 | x::r,g,i=>by
  have f:x<es.size:=g x ZBh;rw[ZC5,ZCp f];cases i with
  | zero=>simp[f]
  | succ j=>simpa using NS es r (λy k=>g y (ZBd _ k)) j
theorem WK {o ot:Obj} {es:Array (Int×Value)} {O tp nt:Nat} {t:SetTable} {ps:List Nat} (hh:A.handled=none) (zw:a≠I) (hnt:tp≠I) (U:o.data=.set es O t) (h4:ElemsOf (intKind P w) es.toList) (h7:t.fits es.size=true)
 (z:ot.data=.seq (ps.map λ(i:Nat)=>rawInt i).toArray nt) (G:ps.Perm (List.range es.size)) :
 Walks P w A I [I,a,tp] [I] es.size (Gy (ps.filterMap (es[·]?))) (λi h=>IsSetIter h I (.ref tp) i a es.size O/\h.get? a=some o/\h.get? tp=some ot) where
 sub:=λb g=>by simp at g;simp[g]
 frame:=λ_ _ _ st n=>⟨st.1.at λo e=>n I (by simp) o e,n a (by simp) _ st.2.1,n tp (by simp) _ st.2.2⟩
 item:=λi s Q E hi st j=>by
  have u:ps.length=es.size:=by rw[G.length_eq,ZBc]
  have f:i<ps.length:=by lia
  have l:ps[i]<es.size:=ZBV.mp (G.mem_iff.mp (ZCL f));have pm:(ps.filterMap (es[·]?)).Perm es.toList:=(G.filterMap _).trans (by rw[filterMap_getElem?_range]);refine WW (p:=ps[i]) (x:=es[ps[i]]) st.1 st.2.1 U h7 st.2.2 z (by simp[f,rawInt]) (ZCp l) λh' k r=>?_
  exact j _ h' s.toks (KM (h4.perm pm) (by rw[NS es ps (λx v=>ZBV.mp (G.mem_iff.mp v)) i,ZBE f];exact ZCp l)) ⟨k,(r.2 a zw).trans st.2.1,(r.2 tp hnt).trans st.2.2⟩ λb o g e=>r.extBut b o (λh=>g (by simp[h])) e
 done:=λs Q E st j=>by
  have u:ps.length=es.size:=by rw[G.length_eq,ZBc]
  exact XY hh st.1 st.2.1 U h7 st.2.2 z (by simp[u]) λh' m=>j h' s.toks λb o g e=>m b o (λh=>g (by simp[h])) e
 self:=λ_ _ _ _ st j=>Md st.1 j
theorem Vf {S:Int->Bool} {n:Nat} {Q:Value->Shared->Prop} (O:SetW P w s.heap a S n)
 (fin:∀(h':Heap) d (I:Addr) (fp:List Addr) (St:Nat->Heap->Prop) (ms:List Int),ms.length=n->(∀k,k∈ms ↔ S k=true)->(∀b o,s.heap.get? b=some o->h'.get? b=some o)->s.heap.objs.size<=I->(∀b∈fp,b=a\/s.heap.objs.size<=b) ->
   (∀A:Around,A.handled=none->Walks P w A I fp [I] n (λi v=>∃t,v=.int (ms.getD i 0) t) St)->St 0 h'->Q (.ref I) { s with heap:=h',drawn:=d }):wpAny (model P w) A (pyIter (.ref a)) Q E s:=by
 obtain⟨o,es,C,t,h1,h2,l,p,z,J,m,K,g⟩:=O;have D:s.TypeIs (.ref a) "set":=⟨o,h1,h2.1⟩;have zn:=ZBF h1;subst K;refine wpAny_pyIter_slot D PySem.F.slot_set_iter (ZB1 PySem.F.slot_set_iter D F.entry_set_iter ?_ (PySem.F.args_set_iter_1 _));show wpAny _ _ (Builtin.Frozenset.sizeOf a >>= _) _ _ s;refine ZBA (ZBA (wpAny_setEntries_of h1 l m (ZBC ?_)));show wpAny _ _ (setDrawn a >>= _) _ _ s;unfold setDrawn;refine ZBA (ZBA (wpAny_setState_of h1 l m ?_));dsimp only;refine ZBA (GX (ZBC ?_));cases G:w.params.followText "set-order" with
 | true =>
  refine ZB7 (λf=>absurd f (by simp)) (λ_=>?_);refine ZBA (ZBC (ZBA (wpAny_setEpoch_of h1 l m ?_)));have pm:=JP (w.params.setOrder a C) es;refine ZBA (ZB9 (ZBC ⟨_,rfl,"set_iterator",_,⟨_,ZBP _ rfl,rfl⟩,F.slot_set_iterator_next.lookup,?_⟩))
  refine fin _ s.drawn s.heap.objs.size [s.heap.objs.size,a] _ ((pickOrder (w.params.setOrder a C) es).toList.map λ(e:Int×Value)=>numOf e.2) (by rw[ZBB,pm.length_eq,ZBm]) (λk=>by rw[JT (p.perm pm),z k];exact⟨λ⟨e,x,y⟩=>⟨e,pm.mem_iff.mp x,y⟩,λ⟨e,x,y⟩=>⟨e,pm.mem_iff.mpr x,y⟩⟩) (λb o e=>ZBG _ e) (ZBD _)
   (λb j=>by simp at j;rcases j with rfl | rfl <;> simp) (λA u=>UE u (ZBR zn) G l p m) ⟨⟨_,ZBP _ rfl,rfl,rfl⟩,ZBG _ h1⟩
 | false =>
  by_cases hd:(!t.plain&&decide (es.size>1))=true
  ·refine ZB7 (λ_=>?_) (λf=>absurd (show(!false&&(!t.plain&&decide (es.size>1)))=true by rw[hd];rfl) f);refine ZBA (Qn es.size (List.range es.size) _ _ (by simp) λps d B=>?_);refine ZBA (wpAny_newTuple ?_ (by rw[ZBB,B.length_eq,ZBc];exact fits_of_scanBound J));refine ZBA (wpAny_setEpoch_of (ZBG _ h1) l m ?_);have pm:(ps.filterMap (es[·]?)).Perm es.toList:=(B.filterMap _).trans (by rw[filterMap_getElem?_range]);refine ZBA (ZB9 (ZBC ⟨_,rfl,"set_iterator",_,⟨_,ZBP _ rfl,rfl⟩,F.slot_set_iterator_next.lookup,?_⟩))
   refine fin _ d (s.heap.push { cls:=.type "tuple",data:=.seq (ps.map λ(i:Nat)=>rawInt i).toArray }).objs.size [(s.heap.push { cls:=.type "tuple",data:=.seq (ps.map λ(i:Nat)=>rawInt i).toArray }).objs.size,a,s.heap.objs.size] _ ((ps.filterMap (es[·]?)).map λ(e:Int×Value)=>numOf e.2) (by rw[ZBB,pm.length_eq,ZBm])
    (λk=>by rw[JT (p.perm pm),z k];exact⟨λ⟨e,x,y⟩=>⟨e,pm.mem_iff.mp x,y⟩,λ⟨e,x,y⟩=>⟨e,pm.mem_iff.mpr x,y⟩⟩) (λb o e=>ZBG _ (ZBG _ e)) (by rw[ZB8];exact ZCS _)
    (λb j=>by rw[ZB8]at j;simp at j;rcases j with rfl | rfl | rfl <;> simp) (λA u=>WK u (by rw[ZB8];exact ZBR (ZB6 zn)) (by rw[ZB8];exact ZBR (ZBu _)) l p m rfl B)
    ⟨⟨_,ZBP _ rfl,rfl,rfl⟩,ZBG _ (ZBG _ h1),ZBG _ (ZBP _ rfl)⟩
  ·have r:(!t.plain&&decide (es.size>1))=false:=by simpa using hd
   refine ZB7 (λf=>absurd (show(!t.plain&&decide (es.size>1))=true from f) (by rw[r];simp)) (λ_=>?_);refine ZBA (ZBC (ZBA (wpAny_setEpoch_of h1 l m ?_)));refine ZBA (ZB9 (ZBC ⟨_,rfl,"set_iterator",_,⟨_,ZBP _ rfl,rfl⟩,F.slot_set_iterator_next.lookup,?_⟩))
   refine fin _ s.drawn s.heap.objs.size [s.heap.objs.size,a] _ (es.toList.map λ(e:Int×Value)=>numOf e.2) (by rw[ZBB,ZBm]) (λk=>by rw[JT p,z k]) (λb o e=>ZBG _ e) (ZBD _)
    (λb j=>by simp at j;rcases j with rfl | rfl <;> simp) (λA u=>S5 u (ZBR zn) G r l p m g) ⟨⟨_,ZBP _ rfl,rfl,rfl⟩,ZBG _ h1⟩
end
end L2
namespace L2
open PySem PySem.Spec PyProof.Rows PySem.W PySem.Calls
section
variable {P:Program}{w:World}{A:Around}{E:Value->Shared->Prop}{s:Shared}{a I:Addr}
theorem SR{Q:Bool->Shared->Prop}(z:s.TypeIs (.ref a) "set")(h:Q false s):wpAny (model P w) A (Builtin.List.listLengthHint (.ref a)) Q E s:=by
 unfold Builtin.List.listLengthHint;refine ZBA (wpAny_specialOf z PySem.F.slot_set_len.lookup ?_);generalize g:("set.__len__" : String)=i
 wp_delta
 rw[show splitId i=some ("set","__len__") from by subst g;decide +kernel];subst g;refine ZBA (wpAny_isInstance (T:="set") (b:=true) z (by rw[isSubtype_type];kernel_rfl) ?_);refine ZB7 (λf=>absurd f (by decide)) (λ_=>ZB7 (λ_=>ZBA (wpAny_typeOf z (ZBC h))) (λf=>absurd (by decide +kernel) f))
theorem ZQ {R:Result->Shared->Prop} {S:Int->Bool} {n:Nat} {l:Addr} {c0:Nat} (hh:A.handled=none) (G:SetW P w s.heap a S n) (hn:n<=sizeLine) (hl:s.heap.get? l=some { cls:=.type "list",data:=.seq #[] c0 }) (res:Value)
 (fin:∀(h':Heap) d O (U:Array Value) (c:Nat) (ms:List Int),ms.length=n->(∀k,k∈ms ↔ S k=true)->(∀b o,b≠l->s.heap.get? b=some o->h'.get? b=some o)->h'.get? l=some { cls:=.type "list",dict:=none,data:=.seq U c,slots:=#[] } ->
   ItemsOf (λi v=>∃t,v=.int (ms.getD i 0) t) U n->R (.ok (.ret res)) { s with heap:=h',drawn:=d,toks:=O }) :
 wpAny (model P w) A.in1 (Builtin.List.listExtendWith (.ref l) (.ref a) res)
  (λfin s'=>match fin with | .done f=>R (.ok f) s' | .again c'=>c'.quiet=true/\codeAny (model P w) A c' R s') (λe s'=>R (.error e) s') s:=by
 have Y:s.TypeIs (.ref a) "set":=G.of.typeIs
 have r:l≠a:=λe=>by
  obtain⟨o,es,Z,t,h1,h2,_⟩:=G;rw[<- e,hl]at h1;cases h1;exact absurd h2.1 (show ¬(Value.type "list" = Value.type "set") by decide)
 unfold Builtin.List.listExtendWith;refine ZBA (wpAny_typeOf (T:="set") Y ?_);have N:Builtin.List.listSameRef (.ref l) (.ref a)=false:=by simp[Builtin.List.listSameRef,r]
 have e2:(Value.type "set" == Value.type "list")=false:=by decide
 have V:(Value.type "set" == Value.type "tuple")=false:=by decide
 simp only[N,e2,V,Bool.or_false,ZCV,if_false];refine ZBA (Vf G λh1 d I fp St ms J K x X B W st=>?_)
 have u:l∉fp:=λz=>by
  rcases B l z with q | q
  ·exact r q
  ·exact absurd (ZBF hl) (Nat.not_lt.mpr q)
 have key:∀(h2:Heap) (y O:Nat),St 0 h2->(∀b o,b≠l->s.heap.get? b=some o->h2.get? b=some o)->h2.get? l=some { cls:=.type "list",data:=.seq #[] y } ->
  codeAny (model P w) A (.builtin "list.extend.loop" ⟨[.ref l,.ref I,res],[]⟩) R { s with heap:=h2,drawn:=d,toks:=O }:=λh2 y O M C D=>by
  refine codeAny_extend_loopS (W A.in1 hh).toS hn l u res n 0 _ #[] y rfl (ZBT _) M D (ItemsOf.nil _) λs' U c hm L m=>?_
  rw[Moved.eq_with hm];refine fin s'.heap d s'.toks U c ms J K (λb o g e=>hm.heap b o (λz=>?_) (C b o g e)) L m
  rcases ZBI.mp z with q | q
  ·exact g q
  ·rw[ZBX]at q;exact absurd (ZBF e) (by rw[q];exact Nat.not_lt.mpr X)
 have j:=x _ _ hl;refine ZBA (ZBr (SR (SetW.of (G.at λo e=>x _ _ e)).typeIs ?_));refine ZB7 (λ_=>?_) (λ_=>ZBC ⟨ZCa PySem.F.plain_extend_loop _,key _ c0 _ st (λb o _ e=>x b o e) j⟩);refine ZBA (wpAny_rule (ZBA ?_));show wpAny _ _ (updateSeq l (·.push .none) >>= λ_=>updateSeq l (·.pop)) _ _ _;have g1:=ZCv (Obj.mapSeq (·.push Value.none)) j rfl;have g2:=ZCv (Obj.mapSeq (·.pop)) g1 rfl;refine ZBA (wpAny_updateSeq j rfl (wpAny_updateSeq (hz:=by seq_fits) g1 rfl (ZBC ⟨ZCa PySem.F.plain_extend_loop _,key _ _ _ ?_ (λb o g e=>?_) g2⟩)))
 ·refine(W A hh).frame 0 _ _ st λb g o e=>?_
  have p:b≠l:=λh=>u (h▸g)
  exact(ZCw _ _ (Ne.symm p)).trans ((ZCw _ _ (Ne.symm p)).trans e)
 ·exact(ZCw _ _ (Ne.symm g)).trans ((ZCw _ _ (Ne.symm g)).trans (x b o e))
theorem Vc {S:Int->Bool} {n:Nat} {R:List Value->Shared->Prop} (U:A.handled=none) (O:SetW P w s.heap a S n) (hn:n<=sizeLine)
 (fin:∀(h':Heap) d G (z:Array Value) (ms:List Int),ms.length=n->(∀k,k∈ms ↔ S k=true)->(∀b o,s.heap.get? b=some o->h'.get? b=some o)->s.heap.objs.size<h'.objs.size->ItemsOf (λi v=>∃t,v=.int (ms.getD i 0) t) z n->R z.toList { s with heap:=h',drawn:=d,toks:=G }) :
 wpAny (model P w) A (collect (.ref a)) R E s:=by
 unfold collect;refine ZBA (wpAny_runValue (ZCZ entry_proto_collect' ?_));rw[ZCo PySem.F.plain_proto_collect _];show wpAny _ A.in1 (newList [] >>= λl=>again (.builtin "list.__iadd__" ⟨[l,.ref a],[]⟩)) _ _ s;refine ZBA (ZB9 (ZBC ⟨ZCa PySem.F.plain_list_iadd _,ZCZ entry_list_iadd' ?_⟩));rw[ZCo PySem.F.plain_list_iadd _];have g1:(s.heap.push { cls:=.type "list",data:=.seq ([]:List Value).toArray }).get? s.heap.objs.size=some { cls:=.type "list",data:=.seq #[] }:=ZBP _ rfl;show wpAny _ A.in1 (Builtin.List.listExtendWith (.ref s.heap.objs.size) (.ref a) (.ref s.heap.objs.size)) _ _ _
 refine ZBt (ZQ (A:=A) (s:={ s with heap:=s.heap.push { cls:=.type "list",data:=.seq ([]:List Value).toArray } })
  (R:=λ(q:Result) (s':Shared)=>∃(h':Heap) (d:_) (G:Nat) (z:Array Value) (c:Nat) (ms:List Int),q=.ok (.ret (.ref s.heap.objs.size))/\s'={ s with heap:=h',drawn:=d,toks:=G } /\ ms.length=n/\(∀k,k∈ms ↔ S k=true) /\
    (∀b o,s.heap.get? b=some o->h'.get? b=some o)/\h'.get? s.heap.objs.size=some { cls:=.type "list",dict:=none,data:=.seq z c,slots:=#[] } /\ ItemsOf (λi v=>∃t,v=.int (ms.getD i 0) t) z n)
  U (O.at λo e=>ZBG _ e) hn g1 (.ref s.heap.objs.size) λh' d G z c ms m p j g2 g=>⟨h',d,G,z,c,ms,rfl,rfl,m,p,λb o e=>j b o (ZBR (ZBF e)) (ZBG _ e),g2,g⟩) (λfn s' x=>?_) λe s' x=>?_
 ·cases fn with
  | done f =>
   obtain⟨h',d,G,z,c,ms,e,rfl,m,p,j,g2,g⟩:=x;cases e;show wpAny _ A (load s.heap.objs.size >>= _) _ _ _;exact ZBA (wpAny_load g2 (ZBC (fin h' d G z ms m p j (ZBF g2) g)))
  | again c₁ =>
   refine⟨x.1,ZCg x.2 λq r y=>?_⟩;obtain⟨h',d,G,z,c,ms,rfl,rfl,m,p,j,g2,g⟩:=y;show wpAny _ A (load s.heap.objs.size >>= _) _ _ _;exact ZBA (wpAny_load g2 (ZBC (fin h' d G z ms m p j (ZBF g2) g)))
 ·obtain⟨_,_,_,_,_,_,u,_⟩:=x;cases u
theorem WR{z:Array Value}{ms:List Int}(h:ItemsOf (λi v=>∃t,v=.int (ms.getD i 0) t) z ms.length):IntsAre z.toList ms:=by
 have e:z.toList.map numOf=ms:=by
  apply List.ext_getElem
  ·rw[ZBB,ZBm,h.1]
  ·intro i h1 h2;rw[List.getElem_map];have j:i<z.size:=by rw[h.1];exact h2
   obtain⟨t,f⟩:=h.2 i z[i] (by simp[j]);rw[Array.getElem_toList,f];show ms.getD i 0=_;rw[ZBO,ZBE h2];rfl
 have:=intsAre_map z.toList (λv k=>by
  obtain⟨i,hi,g⟩:=ZCD k;obtain⟨t,f⟩:=h.2 i v (by rw[<- ZCy,ZBE hi,g]);exact⟨_,t,f⟩)
 rw[e]at this;exact this
theorem UX {S:Int->Bool} {n:Nat} {Q:Value->Shared->Prop} (U:A.handled=none) (O:SetW P w s.heap a S n) (z:n<64)
 (fin:∀(h':Heap) d G (p:Addr) (ms:List Int) (out:Array Value) (e:Nat),ms.length=n->(∀k,k∈ms ↔ S k=true)->ms.Pairwise (· <= ·)->IntsAre out.toList ms->h'.get? p=some (seqObj "list" out e)->s.heap.objs.size<=p->(∀b o,s.heap.get? b=some o->h'.get? b=some o)->Q (.ref p) { s with heap:=h',drawn:=d,toks:=G }) :
 wpAny (model P w) A (call (.builtin "sorted") [.ref a]) Q E s:=by
 have hz:n<=sizeLine:=ZBq (ZBy z) (by decide);refine call_function_entry kind_sorted plain_sorted entry_sorted (args_sorted1 _) ?_;unfold Builtin.«sorted»;refine ZBA (m:=checkCount "sorted" 1 1 _) (ZBC (ZBA (Vc (A:=A.in1) U O hz λh' d G l ms y B v zn f=>?_)));subst y;have u:=WR f;have x:l.toList.length=ms.length:=by rw[ZBm,f.1]
 refine ZBA (wpAny_newList ?_ (by rw[x];exact hz));have i:(h'.push (seqObj "list" l.toList.toArray 0)).get? h'.objs.size=some (seqObj "list" l.toList.toArray 0):=ZBP _ rfl;refine ZBA (ZBr (ZB1 slot_list_sort ⟨_,i,rfl⟩ entry_list_sort (list_sort_tree i u (by lia) λout j a1 a2 t=>⟨_,rfl,?_⟩) (args_list_sort _)));obtain⟨e,he⟩:=sortedHeap_at (out:=out) i;refine ZBC ⟨_,rfl,fin _ d G h'.objs.size j out e (a2.length_eq) (λk=>by rw[a2.mem_iff];exact B k) t a1 he (ZBy zn) λb o q=>?_⟩;have r:=v b o q;have g:=ZBF r;rw[sortedHeap_old (ZBR g) (by rw[ZB8];exact ZB6 g)];exact ZBG _ r
end
end L2
namespace L2
open PySem PySem.Spec PyProof.Rows
noncomputable def DN(P:Program)(w:World)(a:Addr)(ds:List Int):Heap->Prop:=λh=>SetW P w h a (λk=>ds.any (· == k)) ds.length
theorem W5{P:Program}{w:World}{H:Hp}{h:Heap}{a:Addr}{ds:List Int}(x:DN P w a ds h):ObjOk P w H h a (.ext (DN P w a ds)) :=
 ⟨x,(by obtain⟨o,_,_,_,e,_⟩:=x;exact⟨o,e⟩),λh1 h2 y k=>SetW.at y k⟩
noncomputable def QR(K:W.Frag)(P:Program)(w:World):List V->Hp->VK->Prop:=λxs H Q=>match xs with
 | [.ref p]=>∃ns:List Int,zj K H p (ns.map V.int)/\ns.length<=1000/\∀(ds:List Int) q,ds.Nodup->(∀k,k∈ds ↔ k∈ns)->H q=none->Q (.ref q) (upd H q (.ext (DN P w q ds)))
 | _=>False
noncomputable def Nr(P:Program)(w:World):List V->Hp->VK->Prop:=λxs H Q=>match xs with
 | [.ref p]=>∃ds:List Int,H p=some (.ext (DN P w p ds))/\ds.length<64/\∀(ms:List Int) q,ms.length=ds.length->(∀k,k∈ms ↔ k∈ds)->ms.Pairwise (· <= ·)->H q=none->Q (.ref q) (upd H q (.lst (ms.map V.int)))
 | _=>False
section
variable {X:Cx}{K:W.Frag}{P:Program}{w:World}
theorem zd.drew{El:List (Addr×Obj)}{Z:List (Option V)}{H:Hp}{s:Shared}(I:zd X El Z H s)(d:Drawn):zd X El Z H { s with drawn:=d }:=⟨I.ok,I.os,I.bare,I.base,I.loc,I.cell,I.free,I.freeC,I.pin,I.hok,I.len⟩
theorem bO(z:X.calm=true):CallR X (.type "set") (QR X.K X.prog X.w):=by
 intro El s Z H xs us Q I r h
 match xs,h with
 | [.ref p],h =>
 obtain⟨ns,k,hn,q⟩:=h;obtain⟨u,rfl,l⟩:=Bx r;cases l;obtain⟨zc,f,pl,hz⟩:=I.tuple k;have hi:IntsAre zc ns:=by simpa using Kr f
 have g:zc.length=ns.length:=by rw[<- f.length,ZBB]
 refine Y8 (ns:=ns) (I.ok.hd z) pl (by simpa using hi) (by rw[ZBM,g];show ns.length+1<4096;lia) λh' m hs j=>?_
 have hsz:zc.toArray.size=ns.length:=by rw[ZBM,g]
 rw[hsz]at hs;exact⟨.ref s.heap.objs.size,_,I.laid (t':=m) (o:=.ext (DN X.prog X.w s.heap.objs.size (firstMet (λi=>ns.getD i 0) ns.length))) (λb o e=>j b o (ZBF e) e) (ZBD _) (W5 hs),rfl,q _ _ (Oh _ _) (XD ns) (I.hok.fresh (ZBD _))⟩
theorem bC(O:X.calm=true)(z:X.K=K:=by rfl)(G:X.prog=P:=by rfl)(hw:X.w=w:=by rfl):CallR X (.type "set") (QR K P w):=by subst z G hw;exact bO O
theorem U8(z:X.calm=true):CallR X (.builtin "sorted") (Nr X.prog X.w):=by
 intro El s Z H xs us Q I r h
 match xs,h with
 | [.ref p],h =>
 obtain⟨ds,l,hn,q⟩:=h;obtain⟨u,rfl,t⟩:=Bx r;cases t;obtain⟨hs,_⟩:=(show ObjOk X.prog X.w H s.heap p (.ext (DN X.prog X.w p ds)) from I.hok p _ l);refine UX (I.ok.hd z) hs hn λh' d v b ms out e g m n hi i f j=>?_
 refine⟨.ref b,_,(I.laid (t':=v) (o:=.lst (ms.map V.int)) (λb o e=>j b o e) f ?_).drew d,rfl,q ms _ g (λk=>(m k).trans (by simp)) n (I.hok.fresh f)⟩;exact⟨by rw[ZBB,g];exact ZBq (ZBy hn) (by decide),out.toList,e,bT hi,i⟩
theorem br(G:X.calm=true)(z:X.prog=P:=by rfl)(hw:X.w=w:=by rfl):CallR X (.builtin "sorted") (Nr P w):=by subst z hw;exact U8 G
noncomputable def RW(C:Addr)(ta:TE)(f:Str):TE:=λZ H Q=>ta Z H λx H1=>match x with
 | .ref a=>∃dx fs v,H1 a=some (.ins C dx fs)/\fs.lookup f=some v/\Q v H1
 | _=>False
noncomputable def Wy(C:Addr)(ta tv:TE)(f:Str):TS:=λD Z H=>tv Z H λy H1=>ta Z H1 λx H2=>match x with
 | .ref a=>∃dx fs,H2 a=some (.ins C dx fs)/\fs.length<1000/\D.nx Z (upd H2 a (.ins C dx (Aq f y fs)))
 | _=>False
variable {C:Addr}{f:Str}{e o value:Expr}{ta tv td ty:TE}{pos pos':Pos}
theorem Cw(c:Cls K C)(n:NoAttr K C f)(he:PE X e ta)(z:X.K=K:=by rfl)(G:attributeBase e f X.env (eval e X.env)=eval e X.env:=by rfl):PE X (.Attribute e f pos) (RW C ta f):=by
 subst z;intro El s Z H Q I h;refine Xl G (zm (he El s Z H _ I h) λu s1 ⟨x,H1,g,m,q⟩=>?_)
 match x,q with
 | .ref a,⟨dx,fs,v,j,l,q⟩ =>
 obtain rfl:u=Value.ref a:=m;exact aj g j c n l λo s2 i k=>⟨v,H1,i,k,q⟩
theorem HL(c:Cls K C)(n:NoAttr K C f)(ha:PE X o ta)(G:PE X value tv)(z:X.K=K:=by rfl)(hs:swapsWith value (some (.Attribute o f pos')) pos.line X.env=pure false:=by rfl):PS X (.Assign [.Attribute o f pos'] value pos) (Wy C ta tv f):=by
 subst z;intro El s Z H D I h;refine plainObj_wpAny_Assign_Attribute (zm (G El s Z H _ I h) λu s1 ⟨y,H1,i,t,q⟩=>zm (ha El s1 Z H1 _ i q) λp s2 ⟨x,H2,j,r,g⟩=>?_) hs
 match x,g with
 | .ref a,⟨dx,fs,m,l,g⟩ =>
 obtain rfl:p=Value.ref a:=r;exact SN j m c n l t λs3 k=>⟨Z,_,k,g⟩
theorem VA(h:Ap ta):Ap (RW C ta f):=λZ H Q g k q=>h _ _ _ _ (λv H1 q=>by
 cases v <;> first | exact q.elim | (obtain⟨dx,fs,v,a,b,q⟩:=q;exact⟨dx,fs,v,a,b,k _ _ q⟩)) q
theorem Zn{m:Str}{sp:Sp}{dvs:List V}{E:XK}{t:TA}(hs:AT sp)(h1:Ap ta)(h2:CI t):Ap (Kx C m sp dvs E ta t):=λZ H Q i h q =>
 h1 _ _ _ _ (λv H1 ⟨a,dx,fs,f,e2,g,q⟩=>⟨a,dx,fs,f,e2,g,h2 _ _ _ _ (λ_ _ q=>hs _ _ _ _ _ h q) q⟩) q
noncomputable def Mc(neg:Bool):R2:=λy x H Q=>match x with
 | .ref a=>∃o,DGet H a y o/\Q (.bl (xor neg o.isSome)) H
 | _=>False
theorem Na(hu:X.A.units+60<cLine):zv X (compareOp .NotIn) (Mc true):=by
 intro El s Z H y x v u Q I j i q
 match x,q with
 | .ref a,⟨o,g,q⟩ =>
 obtain rfl:u=Value.ref a:=i;exact bP (IF hu) I g j λs3 f=>⟨.bl (!o.isSome),H,f,rfl,(by cases o <;> exact q)⟩
theorem Y2{b:Bool}:CS (Mc b):=λx y H Q f h q=>by
 unfold Mc at *;split at q
 ·obtain⟨o,a,q⟩:=q;exact⟨o,a,h _ _ q⟩
 ·exact q.elim
end
end L2
namespace L2
open PySem PySem.Spec PyProof.Rows PySem.W
variable {N:Nat}
noncomputable def KOn{α:Type}(lt:Nat->Nat->Bool)(N:Nat)(R:α->Prop):KasT α->Prop
 | .ret a=>R a
 | .ask i j k=>i<N/\j<N/\KOn lt N R (k (lt i j))
theorem FE{α β:Type}{lt:Nat->Nat->Bool}{R:β->Prop}{f:α->KasT β}:∀{t:KasT α},KOn lt N (λa=>KOn lt N R (f a)) t->KOn lt N R (t.bind f)
 | .ret _,h=>h
 | .ask _ _ _,⟨a,b,h⟩=>⟨a,b,FE h⟩
theorem Dr{α:Type}{lt:Nat->Nat->Bool}{R z:α->Prop}(h:∀a,R a->z a):∀{t:KasT α},KOn lt N R t->KOn lt N z t
 | .ret a,x=>h a x
 | .ask _ _ _,⟨a,b,x⟩=>⟨a,b,Dr h x⟩
theorem RD{α:Type}{lt:Nat->Nat->Bool}{R:α->Prop}{cmp:Nat->Nat->(Bool->Shared->Prop)->Shared->Prop}{s:Shared}{Q:α->Shared->Prop}(z:∀i j C,i<N->j<N->C (lt i j) s->cmp i j C s)(G:∀a,R a->Q a s):∀{t:KasT α},KOn lt N R t->t.kasWp cmp Q s
 | .ret a,x=>G a x
 | .ask i j k,⟨a,b,x⟩=>z i j _ a b (RD z G x)
def PmN(N:Nat)(p:Array Nat):Prop:=p.toList.Perm (List.range N)
theorem PmN.lt{p:Array Nat}(h:PmN N p)(z:0<N)(k:Nat):p.getD k 0<N:=by
 by_cases e:k<p.size
 ·have:p.getD k 0∈p.toList:=by simp[Array.getD,e]
  exact ZBV.mp (h.mem_iff.mp this)
 ·simp[Array.getD,e,z]
theorem NJ{p q:Array Nat}(h:PmN N p)(x:q.Perm p):PmN N q:=x.toList.trans h
section
variable {P:Program}{w:World}{A:Around}{E:Value->Shared->Prop}{s:Shared}
theorem bI{α:Type}[Inhabited α]{vs:List α}{p:Array Nat}(h:PmN vs.length p)(z:α):(p.toList.map λi=>vs.getD i z).Perm vs:=by
 have:=h.map (λi=>vs.getD i z)
 refine this.trans ?_
 have e:(List.range vs.length).map (λi=>vs.getD i z)=vs:=by
  apply List.ext_getElem
  ·simp
  ·intro i h1 h2;simp[h2]
 rw[e]
end
section
variable {X:Cx}{El:List (Addr×Obj)}{Z:St}{H:Hp}{s:Shared}
theorem zd.pin1(I:zd X El Z H s){a:Addr}{o:Obj}(ha:s.heap.get? a=some o)(n:H a=none)(h1:a≠X.env.locals)(h2:a∉X.fs)(G:∀v,o.data≠.cell v):zd X ((a,o)::El) Z H s:=by
 refine⟨I.ok,I.os,I.bare,I.base,I.loc,I.cell,I.free,I.freeC,λp f=>?_,I.hok,I.len⟩
 rcases ZCB.mp f with z | z
 ·exact I.pin p (ZCK _ z)
 ·rcases ZBI.mp z with rfl | z
  ·exact⟨ha,n,h1,h2,G⟩
  ·exact I.pin p (ZBe _ z)
theorem zd.unpin1{q:Addr×Obj}(I:zd X (q::El) Z H s):zd X El Z H s:=by
 refine⟨I.ok,I.os,I.bare,I.base,I.loc,I.cell,I.free,I.freeC,λp f=>?_,I.hok,I.len⟩
 rcases ZCB.mp f with z | z
 ·exact I.pin p (ZCK _ z)
 ·exact I.pin p (ZBe _ (ZBd _ z))
noncomputable def Mr(X:Cx)(H:Hp):Hp:=λb=>if b∈frs X.stack then some (.tup []) else H b
noncomputable def DL(X:Cx)(H:Hp)(s:Shared):Heap:=Co s.heap (Mr X H)
theorem HD{b:Addr}{o:Obj}(e:s.heap.get? b=some o)(n:H b=none)(f:b∉frs X.stack):(DL X H s).get? b=some o:=NH e (by unfold Mr;rw[if_neg f];exact n)
theorem KW{b:Addr}{o:Obj}(e:(DL X H s).get? b=some o):s.heap.get? b=some o/\H b=none/\b∉frs X.stack:=by
 obtain⟨h1,h2⟩:=Nk e;unfold Mr at h2
 by_cases f:b∈frs X.stack
 ·rw[if_pos f]at h2;cases h2
 ·rw[if_neg f]at h2;exact⟨h1,h2,f⟩
theorem PV{h base z:Heap}:∀{l:List Env},h.FunFrames base l->(∀b∈frs l,z.get? b=none)->h.FunFrames z l
 | [],_,_=>trivial
 | env::l,⟨a,⟨L,o,f,_,j,k⟩,r⟩,i=>by
  refine⟨a,⟨L,o,f,i L ?_,j,k⟩,PV r λb g=>i b ?_⟩
  ·rw[frs,ZC5,f];exact ZBh ..
  ·rw[frs,ZC5,f];exact ZBd _ g
theorem Op(I:zd X El Z H s):∀b o,X.base.get? b=some o->(DL X H s).get? b=some o:=λb o e =>
 HD (I.bs b o e).1 (I.bs b o e).2 λz=>by
  have:=(I.stack.mem z).1
  rw[e]at this;cases this
theorem SY(I:zd X El Z H s):Env0 X.prog X.w X.K X.mg (DL X H s) X.A X.stack s H:=by
 have sub:=Op I;refine⟨I.ok.frames,⟨I.ok.mod.kin.keeps sub,I.ok.mod.glob.keeps sub,let ⟨mb,h1,h2⟩:=I.ok.mod.blt;⟨mb,h1.keeps sub,h2⟩,I.ok.mod.nolimit.keeps sub⟩,λb o e=>⟨(KW e).1,(KW e).2.1⟩,ZCf (Np _ _),PV I.stack λb f=>?_,I.stkFree,I.hok,I.bare⟩;cases e:(DL X H s).get? b with
 | none=>rfl
 | some o=>exact absurd f (KW e).2.2
end
def Fm(z:Addr)(qual:Str)(spB:V->Hp->VK->Prop):Sp:=λvs H Q _=>match vs with
 | [v]=>H z=some (CdO z qual)/\spB v H Q
 | _=>False
end L2
namespace L2
open PySem PyProof.Rows
noncomputable def FU(K:W.Frag):V->List V->Hp->VK->Prop:=λx vs H Q=>match x,vs with
 | .ref l,[.ref b]=>∃xs ys,H l=some (.lst xs)/\zr K H b ys/\b≠l/\xs.length+ys.length<=16000000/\Q .non (upd H l (.lst (xs++ys)))
 | _,_=>False
section
variable {X:Cx}{K:W.Frag}{o e:Expr}{to:TE}{t:TA}{apos cpos:Pos}
theorem W3:MtR X "list.extend" (FU X.K):=by
 intro El s Z H x vs v us Q I C B q
 match x,vs,q with
 | .ref l,[.ref b],⟨xs,ys,j,p,D,G,q⟩ =>
 cases C;obtain⟨u,rfl,y⟩:=Bx B;cases y;obtain⟨z,zc,n,r,J,e⟩:=I.lstM j;obtain⟨f,k,i,t⟩:=I.list p;obtain⟨w,e2,m,L,o⟩:=i.isList;have l1:=r.length;have l2:=k.length;have g:l≠b:=Ne.symm D;refine ZB1 F.slot_list_extend ⟨_,e,rfl⟩ F.entry_list_extend ?_ (F.args_list_extend_2 _ _);show wpAny _ _ (Builtin.List.listExtendWith (.ref l) (.ref b) .none) _ _ s;unfold Builtin.List.listExtendWith;refine ZBA (wpAny_typeOf (T:="list") ⟨w,e2,m⟩ ?_);have h1:Builtin.List.listSameRef (.ref l) (.ref b)=false:=by simp[Builtin.List.listSameRef,g]
 have h2:(Value.type "list" == Value.type "list")=true:=by decide
 simp only[h1,h2,Bool.true_or,if_true];refine ZBA (listItems_at e2 o (ZBA (listItems_at e rfl ?_)))
 rw[if_neg (by
  rw[ZBb];rintro⟨_,q⟩;unfold Builtin.List.listTooLong at q;simp[sizeLine_eq]at q;lia)]
 refine ZBA (listUpdate_at e rfl ?_ (by rw[ZBM,sizeLine_eq];lia) (by rw[Array.size_append,ZBM,ZBM,sizeLine_eq];lia));refine ZBC ⟨_,rfl,?_⟩;exact⟨.non,_,I.lset (its':=zc++f) j e (by simp) (r.append k) (by rw[ZBS,sizeLine_eq];lia),rfl,q⟩
theorem VP (ho:PE X o to) (ha:PA X [e] t) (G:attributeBase o "extend" X.env (eval o X.env)=eval o X.env:=by rfl)
 (U:((backTo cpos (starEach [e] X.env)).all (λx=>!x.1)&&(backToKw cpos (keywordEach [] X.env)).all (λx=>x.1.isSome)
   && decide ([e].length+([]:List Keyword).length+(if ([]:List Keyword).isEmpty then 0 else 1)<30))=true:=by rfl)
 (O:(apos.endLine==cpos.line)=true:=by rfl) (hs:starEach [e] X.env=(false,eval e X.env)::starEach [] X.env:=by rfl) (z:(backTo cpos (starEach [] X.env)).any (·.1)=false:=by rfl) (hK:X.K=K:=by rfl) :
 PE X (.Call (.Attribute o "extend" apos) [e] [] cpos) (tBM K "list" (FU K) to t):=hK▸G0 PySem.F.plainAttrs_list PySem.F.slot_list_extend PySem.F.type_list_extend W3 ho ha G U O hs z
theorem WO:QZ (FU K):=λx xs H Q f h q=>by
 unfold FU at *;split at q
 ·obtain⟨a,b,c,d,n,e,q⟩:=q;exact⟨a,b,c,d,n,e,h _ _ q⟩
 ·exact q.elim
end
theorem Se {d:Addr} {o:Obj} {ze:List (Key×V)} {g:TG} {tc:TT} {te:TE} {σc:St} {Q:VK} {H:Hp} (Pv:Nat->List V->Hp->Prop) (h0:Pv 0 [] H) (U:∀i ys H,i<=ze.length->Pv i ys H->H d=some (.frz o (.dK ze))) (hz:∀i ys H,i<ze.length->Pv i ys H->ys.length<sizeLine)
 (hs:∀i r p ys H,ze[i]?=some r->Pv i ys H->H p=none->g (.ref p) σc (upd H p (.tup [kV r.1,r.2])) λz H2=>tc z H2 λb G=>if b=true then te z G λy O=>Pv (i+1) (ys++[y]) O else Pv (i+1) ys G)
 (hd:∀ys H,Pv ze.length ys H->∀p,H p=none->Q (.ref p) (upd H p (.lst ys))):C3 (Itm d o) g tc te σc Q H:=by
 refine⟨λi m ys H=>m=ze.length-i/\i<=ze.length/\Pv i ys H,⟨ze.length,by simp,ZBT _,h0⟩,?_⟩;rintro i m ys H ⟨rfl,hi,p⟩;have q:=U i ys H hi p
 by_cases zn:i<ze.length
 ·refine .inr ⟨⟨ze,ze[i],q,by simp[zn]⟩,hz i ys H zn p,Pv (i+1),λn H' l=>⟨ze.length-(i+1),by lia,rfl,zn,l⟩,λx H' y=>?_⟩;obtain⟨pp,j,r,f,e2,k,rfl,rfl⟩:=y;rw[q]at f;cases f;exact hs i r pp ys H e2 p k
 ·have e:i=ze.length:=by lia
  subst e;exact .inl ⟨⟨ze,q,ZBD _⟩,hd ys H p⟩
section
variable {κ:Keyed->Int}
def Srt(κ:Keyed->Int)(l:List Keyed):Prop:=l.Pairwise λx y=>κ x<=κ y
variable {la lb o:List Keyed}{i j n:Nat}
end
section
variable {κ:Keyed->Int}
structure Hg(κ:Keyed->Int)(la lb o:List Keyed)(na nb:Nat):Prop where
 il:na<=la.length
 jl:nb<=lb.length
 perm:(la.take na++lb.take nb++o.reverse).Perm (la++lb)
 srt:Srt κ o.reverse
 le:∀y∈la.take na++lb.take nb,∀x∈o,κ y<=κ x
variable {la lb o:List Keyed}{na nb n:Nat}
end
end L2
namespace L2
open PySem PySem.Spec PyProof.Rows PySem.W PySem.Calls
section
variable {P:Program}{w:World}{A:Around}{E:Value->Shared->Prop}{s:Shared}
theorem Od{v:Value}{Q:Bool->Shared->Prop}(h:Q true s):wpAny (model P w) A (eqBool v v) Q E s:=by
 unfold eqBool;refine ZBr ?_;rw[if_pos (by simp)];exact ZBA (wpAny_rule (ZBC h))
def PairV(h:Heap)(v:Value)(k:Int):Prop:=∃a t y o n,v=.ref a/\h.get? a=some o/\o.cls=.type "tuple" /\ o.data=.seq #[.int k t,y] n
theorem PairV.keep{h h':Heap}{v:Value}{k:Int}(p:PairV h v k)(e:∀b o,o.cls=.type "tuple" -> h.get? b=some o->h'.get? b=some o):PairV h' v k:=by
 obtain⟨a,t,u,o,n,rfl,ha,f,hd⟩:=p;exact⟨a,t,u,o,n,rfl,e _ _ f ha,f,hd⟩
theorem aN{v G:Value}{k z:Int}{C:Bool->Shared->Prop}(h1:PairV s.heap v k)(h2:PairV s.heap G z)(hs:k=z->v=G)(h:C (decide (k<z)) s) :
 wpAny (model P w) A (keyLt' (tuples' true) v G) C (λ_ _=>False) s:=by
 obtain⟨a,t,u,o,n,rfl,ha,p,hd⟩:=h1;obtain⟨m,t',l,o',r,rfl,f,j,g⟩:=h2
 by_cases e:k=z
 ·have e2:=hs e;cases e2;subst e;refine kat_lt ha hd ha hd ?_;show KatLex P w A true _ C [(.int k t,.int k t),(u,u)] 0 s;refine kat_cons (Od (kat_yes (kat_cons (Od (kat_yes (kat_nil ?_))))));rw[show decide (k<k)=false by simp]at h;exact h
 ·refine kat_lt ha hd f g ?_;show KatLex P w A true _ C [(.int k t,.int z t'),(u,l)] 0 s;refine kat_cons (wpAny_eqBool_int (kat_go (λi=>absurd (by simpa using i) e) (λ_=>kat_no (oneLt_int h))))
theorem Qp{h:Heap}:∀{vs:List Value},(∀v∈vs,∃k,PairV h v k)->∃fs:List Value,KatTups h vs fs/\fs.length=vs.length/\∀f∈fs,∃k t,f=.int k t
 | [],_=>⟨[],.nil,rfl,nofun⟩
 | v::vs,g=>by
  obtain⟨k,a,t,u,o,n,rfl,ha,j,hd⟩:=g v (by simp);obtain⟨fs,h1,h2,i⟩:=Qp (vs:=vs) λl h'=>g l (ZBd _ h')
  refine⟨.int k t::fs,KatTups.cons ha j hd rfl h1,by simp[h2],λf hf=>?_⟩
  rcases ZBI.mp hf with rfl | z
  ·exact⟨k,t,rfl⟩
  ·exact i f z
end
end L2
namespace L2
open PySem PySem.Spec PyProof.Rows PySem.W
noncomputable def J2:Value->Addr
 | .ref a=>a
 | _=>0
theorem O1:∀{as:List Addr} {zc:List Value},zh (as.map V.ref) zc->zc=as.map Value.ref
 | [],_,h=>by cases h;rfl
 | a::as,_,h=>by
  cases h with
  | cons r t =>
   cases r;rw[O1 t];rfl
end L2
namespace L2
open PySem PySem.Spec PyProof.Rows
noncomputable abbrev TX:=St->Hp->VK->XK->Prop
section
variable {prog:Program} {w:World} {A:Around} {E:Value->Shared->Prop} {h:Heap} {g:Array GenState} {d:Drawn} {t:Nat} {os:OsState}
 {nm q:Str} {C N:Addr} {bs bm bmB:List Value} {hdct:Bool} {sn:List Str} {sub:List Value} {ab:Bool} {col:Option Bool} {dd:Option Addr} {k0 k1 k2 k3 k5:Option Value} {B Bn newId nid initId inN:String} {bmN:List Value}
end
noncomputable abbrev XW:=Addr->Addr->Option Addr->St->Hp->Prop
noncomputable abbrev TSX:=XW->St->Hp->Prop
end L2
namespace L2
open PySem PySem.Spec PyProof.Rows PySem.W
section
variable {X:Cx}{El:List (Addr×Obj)}{Z:St}
structure MinSt(X:Cx)(El:List (Addr×Obj))(Z:St)(l I S:Addr)(xs:List V)(J:Nat->Hp->Prop)(kf:Nat->Int)(j i:Nat)(vb:Value)(H:Hp)(s:Shared):Prop where
 inv:zd X El Z H s
 fI:BD X El H I
 fS:BD X El H S
 gS:∃tb c,s.heap.get? S=some (seqObj "list" #[vb,.int (kf i) tb] c)
 it:s.heap.IsListIter I l (j+1)
 rb:∃x,xs[i]?=some x/\zi x vb
 at_:J (j+1) H
noncomputable abbrev Rb(X:Cx)(El:List (Addr×Obj))(Z:St)(q:Addr)(xs:List V)(J:Nat->Hp->Prop)(kf:Nat->Int):Prop :=
 ∀(n:Nat) (x:V) (u:Value) (H:Hp) (s:Shared) (pl:List (Addr×Obj)),xs[n]?=some x->zi x u->J n H->zd X (El++pl) Z H s ->
  wpAny (model X.prog X.w) X.A.in1 (call (.ref q) [u]) (λy s'=>∃H' t,y=.int (kf n) t/\zd X (El++pl) Z H' s'/\J (n+1) H') (λ_ _=>False) s
theorem SU {q l I S:Addr} {xs:List V} {J:Nat->Hp->Prop} {kf:Nat->Int} {R:Result->Shared->Prop} (hc:X.calm=true) (O:S≠I) (b0:l≠I)
 (hl:∀n H,J n H->zr X.K H l xs) (turn:Rb X El Z q xs J kf)
 (hR:∀i x v H s,xs[i]?=some x->zi x v->(∀j,j<xs.length->kf i<=kf j/\(j<i->kf i<kf j))->J xs.length H->zd X El Z H s->R (.ok (.ret v)) s) :
 ∀(r j i:Nat) (vb:Value) (H:Hp) (s:Shared),xs.length-(j+1)=r->j+1<=xs.length->MinSt X El Z l I S xs J kf j i vb H s->i<=j->(∀G,G<=j->kf i<=kf G/\(G<i->kf i<kf G)) ->
  codeAny (model X.prog X.w) X.A (.builtin "min.loop" ⟨[.ref I,.ref q,.ref S],[]⟩) R s:=by
 have m:(toString "min" ++ toString ".loop" : String) = "min.loop":=by decide
 intro r
 induction r with
 | zero =>
  intro j i vb H s hr hj M b6 f;obtain⟨tb,c,gS⟩:=M.gS;obtain⟨xb,T,rb⟩:=M.rb;have hh:=M.inv.ok.hd hc;obtain⟨zc,rv,pl,hz⟩:=M.inv.list (hl _ _ M.at_);have zk:=rv.length;have W:=Walks.list (prog:=X.prog) (w:=X.w) (A:=X.A.in1) hh I l b0 zc.toArray;have hsz:zc.toArray.size=zc.length:=ZBM ..;have c0:j+1=zc.length:=by lia
  refine ZCZ PySem.F.entry_min_loop ?_;rw[ZCo PySem.F.plain_min_loop _];show wpAny _ X.A.in1 (seqItems? (.ref S) >>= _) _ _ _;refine ZBA (wpAny_seqItems gS rfl ?_);show wpAny _ X.A.in1 (tryCatch (pyNext (.ref I)) _ >>= _) _ _ _;refine ZBA (ZDC (W.done _ _ _ ⟨by rw[hsz,<- c0];exact M.it,pl.isList⟩ λh' C k=>?_));have I1:zd X El Z H { s with heap:=h',toks:=C }:=M.inv.turned (λb o n e=>k b o (by simpa using n) e) M.fI.1 M.fI.2.1 M.fI.2.2.2.1 M.fI.2.2.2.2.1 M.fI.2.2.2.2.2;have b3:=k S _ (by simpa using O) gS;have s1:=ZB2 h' S (Obj.mapSeq λ_=>(#[]:Array Value));show wpAny _ X.A.in1 (updateSeq S (λ_=>#[]) >>= _) _ _ _;refine ZBA ?_;refine wpAny_updateSeq b3 rfl (ZBA (wpAny_letGo (ZBC ?_)));have I2:=I1.turned (t':=C) (h':=h'.update S (Obj.mapSeq λ_=>(#[]:Array Value))) (λb o n e=>(s1.2 b n).trans e) M.fS.1 M.fS.2.1 M.fS.2.2.2.1 M.fS.2.2.2.2.1 M.fS.2.2.2.2.2;exact hR i xb vb H _ T rb (λG a4=>f G (by lia)) (by rw[show xs.length=j+1 by lia];exact M.at_) I2
 | succ r ih =>
  intro j i vb H s hr hj M b6 f;obtain⟨tb,c,gS⟩:=M.gS;obtain⟨xb,T,rb⟩:=M.rb;have hh:=M.inv.ok.hd hc;obtain⟨zc,rv,pl,hz⟩:=M.inv.list (hl _ _ M.at_);have zk:=rv.length;have W:=Walks.list (prog:=X.prog) (w:=X.w) (A:=X.A.in1) hh I l b0 zc.toArray;have hsz:zc.toArray.size=zc.length:=ZBM ..;have zn:j+1<xs.length:=by lia
  refine ZCZ PySem.F.entry_min_loop ?_;rw[ZCo PySem.F.plain_min_loop _];show wpAny _ X.A.in1 (seqItems? (.ref S) >>= _) _ _ _;refine ZBA (wpAny_seqItems gS rfl ?_);show wpAny _ X.A.in1 (tryCatch (pyNext (.ref I)) _ >>= _) _ _ _;refine ZBA (ZDC (W.item (j+1) _ _ _ (by rw[hsz];lia) ⟨M.it,pl.isList⟩ λv h' C hP b2 k=>?_));have hv:zc[j+1]?=some v:=by simpa using hP
  obtain⟨x,hx⟩:∃x,xs[j+1]?=some x:=⟨_,ZBE zn⟩;obtain⟨u,hu,ru⟩:=rv.get hx;rw[hv]at hu;cases hu;have I1:zd X El Z H { s with heap:=h',toks:=C }:=M.inv.turned (λb o n e=>k b o (by simpa using n) e) M.fI.1 M.fI.2.1 M.fI.2.2.2.1 M.fI.2.2.2.2.1 M.fI.2.2.2.2.2;have Y:=k S _ (by simpa using O) gS;obtain⟨p,D,b1,N⟩:=id b2.1
  have I2:=I1.pinned (fp:=[I,S]) (λb L=>by
   rcases ZBI.mp L with rfl | L
   ·exact M.fI
   ·rw[ZBX.mp L];exact M.fS) (λb L=>by
   rcases ZBI.mp L with rfl | L
   ·exact⟨p,D,λv z=>by rw[N]at z;cases z⟩
   ·rw[ZBX.mp L];exact⟨_,Y,λv z=>by cases z⟩)
  show wpAny _ X.A.in1 (tryCatch (holding [v] (call (.ref q) [v])) _ >>= _) _ _ _;refine ZBA (ZDC (ZBr (ZBt (turn (j+1) x v H _ _ hx ru M.at_ I2) (λy s2 he=>?_) λ_ _ hF=>hF.elim)));obtain⟨H2,B,rfl,I3,a0⟩:=he;have pI:=I3.pin (I,p) (ZBe _ (ZBe _ (C4 (by simp) D)));have pS:=I3.pin (S,_) (ZBe _ (ZBe _ (C4 (by simp) Y)));have I4:=I3.unpinned;have U:BD X El H2 I:=⟨pI.2.1,M.fI.2⟩;have g:BD X El H2 S:=⟨pS.2.1,M.fS.2⟩;show wpAny _ X.A.in1 (tryCatch (holding [v,.int (kf (j+1)) B] (richCompare .Lt (.int (kf (j+1)) B) (.int (kf i) tb) >>= _)) _ >>= _) _ _ _;refine ZBA (ZDC (ZBr (ZBA (CmpOf.ints_lt (prog:=X.prog) (w:=X.w) (A:=X.A.in1) (P:=λi v=>∃t,v=.int (kf i) t) kf (λi v h=>h) (j+1) i _ _ _ _ _ ⟨B,rfl⟩ ⟨tb,rfl⟩ ?_))));refine ZBA (ZBr (ZCO ?_));refine ZBA (wpAny_letGo (ZBC ?_))
  by_cases a3:kf (j+1)<kf i
  ·have s1:=ZB2 s2.heap S (Obj.mapSeq λ_=>#[v,.int (kf (j+1)) B]);obtain⟨c2,b5⟩:∃c2,(s2.heap.update S (Obj.mapSeq λ_=>#[v,.int (kf (j+1)) B])).get? S=some (seqObj "list" #[v,.int (kf (j+1)) B] c2):=⟨_,get?_update_seq pS.1 λ_=>#[v,.int (kf (j+1)) B]⟩;simp only[a3,decide_true,if_true];refine ZBA ?_;refine wpAny_updateSeq pS.1 rfl (ZBA (wpAny_letGo ?_));rw[m];have I5:=I4.turned (t':=s2.toks) (h':=s2.heap.update S (Obj.mapSeq λ_=>#[v,.int (kf (j+1)) B])) (λb o n e=>(s1.2 b n).trans e) g.1 g.2.1 g.2.2.2.1 g.2.2.2.2.1 g.2.2.2.2.2;refine ZBC ⟨ZCa PySem.F.plain_min_loop _,ih (j+1) (j+1) v H2 _ (by lia) zn ⟨I5,U,g,⟨B,c2,b5⟩,⟨p,(s1.2 I O.symm).trans pI.1,b1,N⟩,⟨x,hx,ru⟩,a0⟩ (ZBD _) λG a4=>?_⟩
   by_cases e:G=j+1
   ·subst e;exact⟨by lia,λ_=>by lia⟩
   ·have b4:=f G (by lia);have c1:=b4.1;exact⟨by lia,λ_=>by lia⟩
  ·simp only[a3,decide_false,ZCV,if_false];refine ZBA (wpAny_letGo ?_);rw[m];refine ZBC ⟨ZCa PySem.F.plain_min_loop _,ih (j+1) i vb H2 _ (by lia) zn ⟨I4,U,g,⟨tb,c,pS.1⟩,⟨p,pI.1,b1,N⟩,⟨xb,T,rb⟩,a0⟩ (by lia) λG a4=>?_⟩
   by_cases e:G=j+1
   ·subst e;exact⟨by lia,λ_=>by lia⟩
   ·exact f G (by lia)
theorem Wx {q l:Addr} {xs:List V} {J:Nat->Hp->Prop} {kf:Nat->Int} {H:Hp} {s:Shared} {Q:VK} {E:Value->Shared->Prop} (hc:X.calm=true) (O:zd X El Z H s) (G:0<xs.length) (h0:J 0 H)
 (hl:∀n H,J n H->zr X.K H l xs) (turn:Rb X El Z q xs J kf)
 (hQ:∀i x H,xs[i]?=some x->(∀j,j<xs.length->kf i<=kf j/\(j<i->kf i<kf j))->J xs.length H->Q x H) :
 wpAny (model X.prog X.w) X.A (call (.builtin "min") [.ref l] [(Str.ofString "key",.ref q)]) (EP X El Z Q) E s:=by
 have g:(toString "min" ++ toString ".loop" : String) = "min.loop":=by decide
 have hh:=O.ok.hd hc;obtain⟨zc,rv,pl,hz⟩:=O.list (hl _ _ h0);have zk:=rv.length;obtain⟨ol,_,b2,_⟩:=id pl;have b0:l<s.heap.objs.size:=ZBF b2;refine kmk_tree PySem.F.kind_min PySem.F.plain_min PySem.F.entry_min (kmk_min_key _ _) ?_;show wpAny _ X.A.in1 (Builtin.Builtins.bindParams "min" ["key","default"] 0 ⟨[],[(Str.ofString "key",.ref q)]⟩ >>= _) _ _ s;refine ZBA (wpAny_of_eq (show Builtin.Builtins.bindParams "min" ["key","default"] 0 ⟨[],[(Str.ofString "key",.ref q)]⟩=pure [some (.ref q),none] from rfl) ?_);refine ZBA (ZBC ?_);refine ZBA (wpAny_pyIter_list pl.isList ?_);refine ZBA (wpAny_newList ?_ (ZBT _));rw[g];refine ZBC ⟨ZCa PySem.F.plain_min_loop _,?_⟩;generalize L:s.heap.objs.size=I at *;generalize t:s.heap.push { cls:=.type "list_iterator",data:=.fields #[.ref l,.int 0 0] } = h1 at *;generalize hS:h1.objs.size=S at *;have b5:S=I+1:=by rw[<- hS,<- t,<- L];exact size_push' ..
 have r:S≠I:=by lia
 have P:l≠I:=ZBR b0;have k1:∀b o,s.heap.get? b=some o->(h1.push (seqObj "list" #[] 0)).get? b=some o:=λb o e=>ZBG _ (by rw[<- t];exact ZBG _ e)
 have gI:(h1.push (seqObj "list" #[] 0)).get? I=some { cls:=.type "list_iterator",data:=.fields #[.ref l,.int 0 0] }:=ZBG _ (by rw[<- t,<- L];exact ZBP _ rfl);have gS:(h1.push (seqObj "list" #[] 0)).get? S=some (seqObj "list" #[] 0):=by rw[<- hS];exact ZBP _ rfl
 have fI:BD X El H I:=O.fpOk (ZCf L) (O.hok.fresh (ZCf L));have fS:BD X El H S:=O.fpOk (by lia) (O.hok.fresh (by lia));have W:=Walks.list (prog:=X.prog) (w:=X.w) (A:=X.A.in1) hh I l P zc.toArray;have hsz:zc.toArray.size=zc.length:=ZBM ..;refine ZCZ PySem.F.entry_min_loop ?_;rw[ZCo PySem.F.plain_min_loop _];show wpAny _ X.A.in1 (seqItems? (.ref S) >>= _) _ _ _;refine ZBA (wpAny_seqItems gS rfl ?_);show wpAny _ X.A.in1 (tryCatch (pyNext (.ref I)) _ >>= _) _ _ _
 have b4:(h1.push (seqObj "list" #[] 0)).IsList l zc.toArray:=by
  obtain⟨o,k,e,z⟩:=pl;have b3:PlainL (h1.push (seqObj "list" #[] 0)) l zc.toArray:=⟨o,k,k1 _ _ e,z⟩;exact b3.isList
 refine ZBA (ZDC (W.item 0 _ _ _ (by rw[hsz];lia) ⟨⟨_,gI,rfl,rfl⟩,b4⟩ λv h' D hP T N=>?_));have hv:zc[0]?=some v:=by simpa using hP
 obtain⟨x,hx⟩:∃x,xs[0]?=some x:=⟨_,ZBE G⟩;obtain⟨u,hu,ru⟩:=rv.get hx;rw[hv]at hu;cases hu;have I1:zd X El Z H { s with heap:=h',toks:=D }:=(O.kept (t':=D) k1).turned (t':=D) (λb o n e=>N b o (by simpa using n) e) fI.1 fI.2.1 fI.2.2.2.1 fI.2.2.2.2.1 fI.2.2.2.2.2;have M:=N S _ (by simpa using r) gS;obtain⟨B,p,b1,R⟩:=id T.1
 have I2:=I1.pinned (fp:=[I,S]) (λb m=>by
  rcases ZBI.mp m with rfl | m
  ·exact fI
  ·rw[ZBX.mp m];exact fS) (λb m=>by
  rcases ZBI.mp m with rfl | m
  ·exact⟨B,p,λv z=>by rw[R]at z;cases z⟩
  ·rw[ZBX.mp m];exact⟨_,M,λv z=>by cases z⟩)
 show wpAny _ X.A.in1 (tryCatch (holding [v] (call (.ref q) [v])) _ >>= _) _ _ _;refine ZBA (ZDC (ZBr (ZBt (turn 0 x v H _ _ hx ru h0 I2) (λy s2 he=>?_) λ_ _ hF=>hF.elim)));obtain⟨H2,C,rfl,U,a3⟩:=he;have pI:=U.pin (I,B) (ZBe _ (ZBe _ (C4 (by simp) p)));have pS:=U.pin (S,_) (ZBe _ (ZBe _ (C4 (by simp) M)));have I4:=U.unpinned;have a0:BD X El H2 I:=⟨pI.2.1,fI.2⟩;have f:BD X El H2 S:=⟨pS.2.1,fS.2⟩;have s1:=ZB2 s2.heap S (Obj.mapSeq λ_=>#[v,.int (kf 0) C]);obtain⟨Y,a4⟩:∃Y,(s2.heap.update S (Obj.mapSeq λ_=>#[v,.int (kf 0) C])).get? S=some (seqObj "list" #[v,.int (kf 0) C] Y):=⟨_,get?_update_seq pS.1 λ_=>#[v,.int (kf 0) C]⟩;show wpAny _ X.A.in1 (updateSeq S (λ_=>#[v,.int (kf 0) C]) >>= _) _ _ _;refine ZBA ?_;refine wpAny_updateSeq pS.1 rfl ?_;rw[g];have I5:=I4.turned (t':=s2.toks) (h':=s2.heap.update S (Obj.mapSeq λ_=>#[v,.int (kf 0) C])) (λb o n e=>(s1.2 b n).trans e) f.1 f.2.1 f.2.2.2.1 f.2.2.2.2.1 f.2.2.2.2.2;refine ZBC ⟨ZCa PySem.F.plain_min_loop _,SU hc r P hl turn (λi x v H s hi hr m hJ L=>⟨x,H,L,hr,hQ i x H hi m hJ⟩) _ 0 0 v H2 _ rfl G ⟨I5,a0,f,⟨C,Y,a4⟩,⟨B,(s1.2 I r.symm).trans pI.1,b1,R⟩,⟨x,hx,ru⟩,a3⟩ (ZBD _) λj' b6=>?_⟩;have e:j'=0:=by lia
 subst e;exact⟨by lia,λh=>absurd h (ZBa _)⟩
end
noncomputable abbrev Hr(scope:Scope)(L:Addr)(a b:Str)(ca G:Addr)(qual:Str)(O z:Addr):Env:=newEnv scope L mainGlobals [(a,ca),(b,G)] (qual ++ ".<locals>.") (some O) (.ref z) none builtinsNs
noncomputable def MD(P:Program)(w:World)(K:W.Frag)(mg:Str->Option Value)(base:Heap)(scope:Scope)(a b x:Str)(ca G:Addr)(qual:Str)(O z:Addr)(A:Around)(outer:List Env)(s:Shared)(H:Hp):Cx where
 prog:=P
 w:=w
 K:=K
 mg:=mg
 base:=base
 A:=A.deeper (Hr scope s.heap.objs.size a b ca G qual O z)
 N:=[x,a,b]
 s₀:=s
 H₀:=H
 env:=Hr scope s.heap.objs.size a b ca G qual O z
 outer:=outer
 stack:=Hr scope s.heap.objs.size a b ca G qual O z::outer
 ex:=[]
 calm:=true
 fn:=λ_=>false
 pn:=[]
 xe:=λ_ _=>False
theorem look2{a b y:Str}{ca G c:Addr}(e:List.lookup y [(a,ca),(b,G)]=some c):(y=a/\c=ca)\/(y=b/\c=G):=by
 rw[ZCG]at e
 by_cases z:y=a
 ·subst z;simp at e;exact .inl ⟨rfl,e.symm⟩
 ·rw[beq_eq_false_iff_ne.mpr z]at e;have e:List.lookup y [(b,G)]=some c:=e;rw[ZCG]at e
  by_cases z:y=b
  ·subst z;simp at e;exact .inr ⟨rfl,e.symm⟩
  ·rw[beq_eq_false_iff_ne.mpr z]at e;cases e
theorem TK {P:Program} {w:World} {K:W.Frag} {mg:Str->Option Value} {base:Heap} {k:Nat} {zz ca G c':Addr} {qual a b x:Str} {params:Arguments} {body:Expr} {scope:Scope} {pm a4:Value} {spB:V->Hp->VK->Prop} {vA vB:V} {uA uB:Value}
 (hl:base.get? zz=some (kla_obj "<lambda>" qual params body scope [(a,ca),(b,G)] pm c' a4)) (b0:base.IsCell ca (some uA)) (rA:zi vA uA) (b1:base.IsCell G (some uB)) (rB:zi vB uB) (b3:a≠b) (a0:ca≠G)
 (hx:scope.names.lookup x=some .local) (ha:scope.names.lookup a=some .free) (hb:scope.names.lookup b=some .free) (b5:∀y,scope.names.lookup y=some .free->y=a\/y=b) (b4:scope.isCoroutine=false) (b2:scope.isGenerator=false) (U:scope.kind=.function)
 (O:∀y∈scope.names,y.2≠.cell)
 (a3:∀(A:Around) (outer:List Env) (s:Shared) (H:Hp) (v:V) (Q:VK),Room k (A.deeper (Hr scope s.heap.objs.size a b ca G qual zz c'))->spB v H Q ->
   ∃te,PE (MD P w K mg base scope a b x ca G qual zz c' A outer s H) body te/\te [some v,some vA,some vB] H Q) :
 FnOk P w K mg base CX0 (k+1) zz (kla_fn "<lambda>" qual params body scope [(a,ca),(b,G)] pm (.ref c') a4) [x] (Fm c' qual spB):=by
 refine⟨λvs H Q E h=>by unfold Fm at h;split at h;rfl;exact h.elim,λA outer s H args us vs Q E hr g T r b6=>?_⟩
 match vs,b6,r with
 | [v],⟨X,hq⟩,r =>
 obtain⟨u,rfl,ru⟩:=Bx r;have lim:s.heap.NoLimit:=g.mod.nolimit.keeps λb o e=>(g.bs b o e).1
 obtain⟨Y,_⟩:=g.hok _ _ X;refine kla_callFunE hr.depth (g.bs _ _ hl).1 rfl b4 b2 rfl Y (T _ _ _ _ ?_);refine wpAny_newFunctionEnv O (λy l=>by rw[ZBX.mp l];exact hx) (λj Z M=>⟨lim.fresh _ M,?_⟩) U;have f:∀b o,s.heap.get? b=some o->j.get? b=some o:=λb o e=>M.extBut b o (ZBR (ZBF e)) (ZBG _ e)
 refine kla_codeExpr ?_;obtain⟨te,ht,c0⟩:=a3 A outer s H v Q (hr.deeper _) hq
 have m:j.IsCell ca (some uA):=by
  obtain⟨o,e,d⟩:=b0;exact⟨o,f _ _ (g.bs _ _ e).1,d⟩
 have t:j.IsCell G (some uB):=by
  obtain⟨o,e,d⟩:=b1;exact⟨o,f _ _ (g.bs _ _ e).1,d⟩
 have D:H ca=none:=by
  obtain⟨o,e,d⟩:=b0;exact(g.bs _ _ e).2
 have L:H G=none:=by
  obtain⟨o,e,d⟩:=b1;exact(g.bs _ _ e).2
 have C:∀b':Addr,b'∉(MD P w K mg base scope a b x ca G qual zz c' A outer s H).ex:=λb z=>absurd (show b∈([]:List Addr) from z) (by simp)
 have B:∀y,scope.names.lookup y≠some .cell:=λy z=>O _ (PySem.mem_of_lookup z) rfl
 have la:List.lookup a [(a,ca),(b,G)]=some ca:=by simp
 have lb:List.lookup b [(a,ca),(b,G)]=some G:=by
  rw[ZCG,beq_eq_false_iff_ne.mpr (Ne.symm b3)];simp
 have I:zd (MD P w K mg base scope a b x ca G qual zz c' A outer s H) [] [some v,some vA,some vB] H { s with heap:=j,toks:=s.toks+[(x,u)].length }:=by
  refine⟨⟨g.mod,U,rfl,rfl,ZBD _,λy z c h1 h2=>?_,λy l=>?_,λy c hf _=>?_,λ_=>hr.hd,Around.frames_deeper g.frames,.inr ⟨rfl,rfl⟩,λb z=>absurd z (C b),g.bs,g.bsz,λb _ _=>C b,λb z=>absurd z (C b),g.funs,g.frf⟩,
   rfl,g.bare,Un.kept f,⟨_,Z,λi y z h1 h2 h3=>?_⟩,λy c h=>?_,g.hok.fresh (ZBD _),λy c h=>?_,λp hp=>absurd (show p∈([]:List (Addr×Obj)) from hp) (by simp),g.hok.kept f,rfl⟩
  ·rcases look2 h1 with ⟨N,e2⟩ | ⟨N,e2⟩ <;> rcases look2 h2 with ⟨R,S⟩ | ⟨R,S⟩
   ·rw[N,R]
   ·exact absurd (e2.symm.trans S) a0
   ·exact absurd (S.symm.trans e2) a0
   ·rw[N,R]
  ·have l:scope.names.lookup y=some .cell\/scope.names.lookup y=some .free:=l
   rcases l with l | l
   ·exact absurd l (B y)
   ·rcases b5 y l with rfl | rfl
    ·exact⟨ca,la⟩
    ·exact⟨G,lb⟩
  ·cases hf
  ·match i,h1,h2 with
   | 0,h1,h2 =>
    cases h1;cases h2;exact⟨u,ru,.inl ⟨hx,by simp⟩⟩
   | 1,h1,h2 =>
    cases h1;cases h2;exact⟨uA,rA,.inr ⟨.inr ha,ca,la,m⟩⟩
   | 2,h1,h2 =>
    cases h1;cases h2;exact⟨uB,rB,.inr ⟨.inr hb,G,lb,t⟩⟩
   | n+3,h1,h2=>cases h2
  ·rcases look2 h with ⟨_,rfl⟩ | ⟨_,rfl⟩
   ·exact⟨_,m⟩
   ·exact⟨_,t⟩
  ·rcases look2 h with ⟨_,rfl⟩ | ⟨_,rfl⟩
   ·exact D
   ·exact L
 refine ZBt (ht [] _ _ _ _ I c0) (λu' s' hs=>?_) λe s' hs=>False.elim hs
 obtain⟨v',H',J,rv,q⟩:=hs;exact⟨v',H',J.os,J.bare,J.base,J.hok,rv,q⟩
section
variable {X:Cx}{El:List (Addr×Obj)}{Z:St}{H:Hp}{s:Shared}
theorem ZV {k:Nat} {f:Addr} {fd:FuncData} {ps:List Str} {sp:Sp} {us:List Value} {vs:List V} {Q:VK} {E:Value->Shared->Prop} (I:zd X El Z H s) (F:FnOk X.prog X.w X.K X.mg (DL X H s) CX0 k f fd ps sp) (hr:Room k X.A.in1) (z:BindsTo s fd ⟨us,[]⟩ (ps.zip us))
 (r:zh vs us) (h:sp vs H Q E0):wpAny (model X.prog X.w) X.A.in1 (call (.ref f) us) (EP X El Z Q) E s:=by
 refine wpAny_call (ZCg (F.run X.A.in1 X.stack s H ⟨us,[]⟩ us vs Q E0 hr (SY I).in1 z r h) λr s' g=>?_);cases r with
 | error e=>exact False.elim g
 | ok i =>
  cases i with
  | ret u=>exact I.after g
  | next=>exact False.elim g
  | brk=>exact False.elim g
  | cont=>exact False.elim g
end
section
variable {X:Cx}{Pt c:Addr}{k i j:Nat}{a b x:Str}{p pos kpos lpos:Pos}{params:Arguments}{body:Expr}{scope:Scope}{e:Expr}{te:TE}{qual:Str}{spB:V->V->V->Hp->VK->Prop}
noncomputable def Zl(K:W.Frag)(Pt:Addr)(lpos:Pos)(qual:Str)(i j:Nat)(spB:V->V->V->Hp->VK->Prop)(te:TE):TE:=λZ H Q=>te Z H λy H1=>∃l xs k o,y=.ref l/\0<xs.length/\Z[i]?=some (some k)/\Z[j]?=some (some o)/\zx Pt lpos qual H1 /\
 ∀g H2,zu Pt H1 H2->zx Pt lpos qual H2->H2 g=some (CdO g qual)->∃(J:Nat->Hp->Prop) (kf:Nat->Int),J 0 H2/\(∀n f,J n f->zr K f l xs/\f g=some (CdO g qual)) /\
  (∀n v f,xs[n]?=some v->J n f->spB k o v f λy p=>y=.int (kf n)/\J (n+1) p) /\
  ∀n v f,xs[n]?=some v->(∀m,m<xs.length->kf n<=kf m/\(m<n->kf n<kf m))->J xs.length f->Q v f
theorem Tf {K:W.Frag} (he:PE X e te) (hm:X.mg "min" = none) (hr:Room (k+1) X.A) (hc:X.calm=true) (a3:X.env.code=.ref c) (e6:codeHdIn X.K c Pt=true) (e5:BMn X.mg X.base)
 (hq:X.env.qual ++ "<lambda>" = qual) (c9:defaultsOf params X.env=([],[])) (d7:X.N[i]?=some a) (d8:X.N[j]?=some b)
 (e8:∀ca U,X.env.cells.lookup a=some ca->X.env.cells.lookup b=some U->closureFor scope X.env=pure [(a,ca),(b,U)]) (c2:X.env.kindOf a=some .cell) (c3:X.env.kindOf b=some .cell) (f3:X.fn a=true) (f5:X.fn b=true) (d9:a≠b)
 (a4:∀(u pm G:Value) (ca U O:Addr),bindArgs (kla_fn "<lambda>" qual params body scope [(a,ca),(b,U)] pm (.ref O) G) ⟨[u],[]⟩=pure [(x,u)])
 (hF:∀(a0:Heap) (zz ca U O:Addr) (pm G uA uB:Value) (vA vB:V),(∀b o,X.base.get? b=some o->a0.get? b=some o)->a0.get? zz=some (kla_obj "<lambda>" qual params body scope [(a,ca),(b,U)] pm O G)->ca≠U ->
   a0.IsCell ca (some uA)->zi vA uA->a0.IsCell U (some uB)->zi vB uB->FnOk X.prog X.w X.K X.mg a0 CX0 k zz (kla_fn "<lambda>" qual params body scope [(a,ca),(b,U)] pm (.ref O) G) [x] (Fm O qual (spB vA vB)))
 (hg:Gl X "min":=by rfl) (hK:X.K=K:=by rfl)
 (c4:starEach [e] X.env=(false,eval e X.env)::starEach [] X.env:=by rfl) :
 PE X (.Call (.Name "min" p) [e] [⟨some "key",.Lambda params body scope lpos,kpos⟩] pos) (Zl K Pt lpos qual i j spB te):=by
 intro El s Z H Q I h;subst hq hK;refine wpAny_Call_Name_kw (CO I hg hm (show bootBuiltins "min" = some (.builtin "min") by kernel_rfl) ?_);refine callWith_kw (e:=e) (rest:=[]) (id:="min") ?_ (by rw[c4];rfl) (by rw[c4];rfl)
 refine zm ((AA he AB c4) pos El s Z H (λvs H1=>match vs with | [y]=>(∃l xs vA vB,y=.ref l/\0<xs.length/\Z[i]?=some (some vA)/\Z[j]?=some (some vB)/\zx Pt lpos (X.env.qual ++ "<lambda>") H1 /\
  ∀O H2,zu Pt H1 H2->zx Pt lpos (X.env.qual ++ "<lambda>") H2->H2 O=some (CdO O (X.env.qual ++ "<lambda>"))->∃(J:Nat->Hp->Prop) (kf:Nat->Int),J 0 H2/\(∀n B,J n B->zr X.K B l xs/\B O=some (CdO O (X.env.qual ++ "<lambda>"))) /\
   (∀n v B,xs[n]?=some v->J n B->spB vA vB v B λy H4=>y=.int (kf n)/\J (n+1) H4) /\
   ∀n v B,xs[n]?=some v->(∀m,m<xs.length->kf n<=kf m/\(m<n->kf n<kf m))->J xs.length B->Q v B) | _=>False) I h) λus s1 ⟨vs,H1,r,r1,q1⟩=>?_
 match vs,r1,q1 with
 | [_],.cons rx .nil,⟨l,xs,vA,vB,ex,d3,f9,g0,hL,hQ⟩ =>
 subst ex;cases rx;obtain⟨ps,hP,S,e9⟩:=id hL
 have fin:∀(H2:Hp) (s2:Shared) (zz O ca U:Addr) (pm G:Value),zd X El Z H2 s2->X.env.cells.lookup a=some ca->X.env.cells.lookup b=some U->s2.heap.get? zz=some (kla_obj "<lambda>" (X.env.qual ++ "<lambda>") params body scope [(a,ca),(b,U)] pm O G) ->
  H2 zz=none->zz≠X.env.locals->zz∉X.fs->zu Pt H1 H2->zx Pt lpos (X.env.qual ++ "<lambda>") H2->H2 O=some (CdO O (X.env.qual ++ "<lambda>")) ->
  wpAny (model X.prog X.w) X.A (call (.builtin "min") [.ref l] [(Str.ofString "key",.ref zz)]) (EP X El Z Q) X.xe s2:=by
  intro H2 s2 zz O ca U pm G I2 f g hf hn f6 R hG d6 b0;obtain⟨J,kf,h0,hJ,c5,d0⟩:=hQ O H2 hG d6 b0;have I3:=I2.pin1 hf hn f6 R (λv z=>by cases z);have c8:ca≠U:=λz=>d9 (I2.ok.inj a b ca f (by rw[g,z]))
  refine zm (Wx (J:=J) (kf:=kf) (E:=X.xe) hc I3 d3 h0 (λn H h=>(hJ n H h).1) (λn y u H s pl hy ru hj D=>?_) (λn y H hy hb hj=>d0 n y H hy hb hj)) λu s3 ⟨y,B,I5,r5,q5⟩=>⟨y,B,I5.unpin1,r5,q5⟩
  have P:=(D.pin (zz,_) (ZBe _ (ZCK _ (ZBh ..))));obtain⟨m,g7,Y⟩:=D.loc;obtain⟨uA,rA,c6⟩:=Y i a vA d7 f9 (.inr (.inl c2));obtain⟨uB,rB,c7⟩:=Y j b vB d8 g0 (.inr (.inl c3))
  rcases c6 with ⟨z,_⟩ | ⟨_,g5,e1,e2⟩
  ·rw[c2]at z;cases z
  rcases c7 with ⟨z,_⟩ | ⟨_,g6,e3,e4⟩
  ·rw[c3]at z;cases z
  rw[f]at e1;cases e1;rw[g]at e3;cases e3
  have d5:zz∉frs X.stack:=λz=>by
   rcases ZBI.mp (D.stkSub _ z) with z | z
   ·exact P.2.2.1 z
   ·exact P.2.2.2.1 z
  have L:∀y c,X.fn y=true->X.env.cells.lookup y=some c->c∉frs X.stack:=λy c hy hc z=>by
   rcases ZBI.mp (D.stkSub _ z) with z | z
   ·exact D.cne _ _ hc z
   ·obtain⟨_,o,ho,_⟩:=D.ok.funs.mem z;exact absurd (ZBZ (ZBF ho) (D.ok.cab y c hy hc)) (ZBa _)
  have cA:(DL X H s).IsCell ca (some uA):=by
   obtain⟨o,ho,c1⟩:=e2;exact⟨o,HD ho (D.freeC _ _ f) (L a ca f3 f),c1⟩
  have cB:(DL X H s).IsCell U (some uB):=by
   obtain⟨o,ho,c1⟩:=e4;exact⟨o,HD ho (D.freeC _ _ g) (L b U f5 g),c1⟩
  have F:=hF (DL X H s) zz ca U O pm G uA uB vA vB (Op D) (HD P.1 P.2.1 d5) c8 cA rA cB rB;refine zm (ZV (vs:=[y]) (us:=[u]) (Q:=λv H4=>v=.int (kf n)/\J (n+1) H4) D F hr.in1 (.of_eq (a4 u pm G ca U O)) (.cons ru .nil) ⟨(hJ n H hj).2,c5 n y H hy hj⟩) λy2 s2 h2=>?_
  obtain⟨y3,H4,I6,r6,q6,q7⟩:=h2;subst q6;obtain⟨t,rfl⟩:=r6;exact⟨H4,t,rfl,I6,q7⟩
 show wpAny _ _ (evalAll ((do let v <- eval (.Lambda params body scope lpos) X.env;standAt pos;pure v)::[])) _ _ s1;obtain⟨ca,f⟩:=r.ok.has a (.inl c2);obtain⟨U,g⟩:=r.ok.has b (.inl c3);have T:=e8 ca U f g;have gl:∀{s:Shared} {H:Hp},zd X El Z H s->s.heap.Ns mainGlobals X.mg:=λJ=>J.mod.glob.keeps J.bk
 have C:CodeHd s1.heap c Pt:=codeHd_of_K r.kIn e6;have M:s1.heap.get? Pt=some (tabObj ps):=r.hok _ _ hP
 have gP:mainGlobals≠Pt:=λz=>by
  obtain⟨o,es,ep,e,hd,_⟩:=gl r;rw[z,M]at e;cases e;cases hd
 have hB:s1.heap.BuiltinsAt X.mg Pt:=by
  obtain⟨bm,ob,b1,b2,b3,b4,b5,b6⟩:=e5;have e:=r.bk _ _ b3;refine⟨bm,ob,b1,b2,λz=>?_,λz=>?_,e,b4,b5,b6⟩
  ·obtain⟨o,es,ep,e',hd,_⟩:=gl r;rw[z,e']at e;cases e;rw[hd]at b6;cases b6
  ·rw[z,M]at e;cases e;cases b4
 refine wpAny_evalAll_cons (ZBA (kla_eval c9 ?_))
 rcases e9 with R | ⟨O,hf,b0⟩
 ·refine kla_makeFunction T r.ok.glob (gl r) a3 C M S R gP hB λO G h' tk g4 d1 zn d4 f7=>?_
  refine ZBA (ZCe (ZBC (wpAny_evalAll_nil ?_)));have J:=r.grow (t':=tk) hP g4 f7 d1 d4;have J':=J.kept (h':=h'.push _) (t':=tk) λb' u e=>ZBG (kla_obj "<lambda>" (X.env.qual ++ "<lambda>") params body scope [(a,ca),(b,U)] ((X.mg "__name__").getD .none) O G) e
  have c0:H1 O=none:=r.hok.fresh d1;have e7:O≠Pt:=λz=>by rw[z,hP]at c0;cases c0
  refine fin _ _ h'.objs.size O ca U _ G J' f g (ZBP _ rfl) (J.hok.fresh (ZBD _)) (ZC6 J.lt) (J.nofs (ZBD _)) (λb o n e=>?_) ⟨_,by rw[AR (Ne.symm e7),AF],?_,.inr ⟨O,?_,AF⟩⟩ AF
  ·have e0:b≠O:=λz=>by rw[z,c0]at e;cases e
   rw[AR e0,AR n];exact e
  ·rw[ZDT];exact TriplesOk_snoc _ _ _ _ S
  ·rw[ZDT];exact codeAmong_snoc _ S R
 ·refine kla_makeFunctionHit T r.ok.glob (gl r) a3 C M S hf hB λG h' tk d2 hsz=>?_
  refine ZBA (ZCe (ZBC (wpAny_evalAll_nil ?_)));have J0:zd X El Z H1 { s1 with heap:=h',toks:=tk }:=r.kept d2;have J:=r.kept (h':=h'.push _) (t':=tk) λb' u e=>ZBG (kla_obj "<lambda>" (X.env.qual ++ "<lambda>") params body scope [(a,ca),(b,U)] ((X.mg "__name__").getD .none) O G) (d2 b' u e)
  exact fin _ _ h'.objs.size O ca U _ G J f g (ZBP _ rfl) (J0.hok.fresh (ZBD _)) (ZC6 J0.lt) (J0.nofs (ZBD _)) (zu.refl _ _) hL b0
end
end L2
set_option maxHeartbeats 6400000
namespace L2
open PySem PySem.Spec PyProof.Rows
namespace Rv
theorem owner:Manifest.owners.lookup (String.ofList ['d','e','s','r','e','v','e','r'].reverse)=some Manifest.sig_reversed:=by kernel_rfl
theorem next:Slot "reversed" "__next__" "reversed.__next__" :=
 .of (owner:="reversed") (n:="__next__") (by rw[typeLookup_type,builtinLookup_eq_fast];kernel_rfl) (by decide +kernel) (by decide +kernel) (by decide +kernel) (by first | exact .inl (by decide +kernel) | exact .inr (by decide +kernel)) (by rw[isSubtype_type];kernel_rfl)
theorem iter:Slot "reversed" "__iter__" "reversed.__iter__" :=
 .of (owner:="reversed") (n:="__iter__") (by rw[typeLookup_type,builtinLookup_eq_fast];kernel_rfl) (by decide +kernel) (by decide +kernel) (by decide +kernel) (by first | exact .inl (by decide +kernel) | exact .inr (by decide +kernel)) (by rw[isSubtype_type];kernel_rfl)
theorem init:Slot "reversed" "__init__" "object.__init__" :=
 .of (owner:="object") (n:="__init__") (by rw[typeLookup_type,builtinLookup_eq_fast];kernel_rfl) (by decide +kernel) (by decide +kernel) (by decide +kernel) (by first | exact .inl (by decide +kernel) | exact .inr (by decide +kernel)) (by rw[isSubtype_type];kernel_rfl)
theorem eNext:entryFor table "reversed.__next__" = some Builtin.«reversed.__next__»:=entryFor_of_tree (by kernel_rfl)
theorem aNext(a:Value):argsOk "reversed.__next__" ⟨[a],[]⟩:=by
 unfold argsOk;rw[signature?_of (id:="reversed.__next__") (n:=['_','_','t','x','e','n','_','_']) (o:=['d','e','s','r','e','v','e','r']) (by kernel_rfl) owner];kernel_rfl
theorem aIter(a:Value):argsOk "reversed.__iter__" ⟨[a],[]⟩:=by
 unfold argsOk;rw[signature?_of (id:="reversed.__iter__") (n:=['_','_','r','e','t','i','_','_']) (o:=['d','e','s','r','e','v','e','r']) (by kernel_rfl) owner];kernel_rfl
theorem eIter:entryFor table "reversed.__iter__" = some Builtin.«dict_keyiterator.__iter__» :=
 entryFor_alias (id':="dict_keyiterator.__iter__") (by kernel_rfl) (by first | rfl | decide +kernel) (by decide +kernel) (by kernel_rfl)
theorem called:TypeCalled "reversed" "reversed.__new__" "object.__init__":=⟨by decide +kernel,F.create_reversed,⟨_,_,F.mro_reversed⟩,F.made_reversed,F.plain_reversed_new,F.sub_reversed_self,init⟩
theorem aInit(o a:Value):argsOk "object.__init__" ⟨[o,a],[]⟩:=by first | exact F.initArgs_range_1 o a | (unfold argsOk;kernel_rfl)
theorem noRev:typeLookup (.type "tuple") "__reversed__" = pure none:=by rw[typeLookup_type,builtinLookup_eq_fast];kernel_rfl
end Rv
noncomputable def rvO(t:Addr)(i:Int):Obj:={ cls:=.type "reversed",data:=.fields #[.ref t,rawInt i] }
def IsRv(h:Heap)(a t:Addr)(i:Int):Prop:=∃o,h.get? a=some o/\o.cls=.type "reversed" /\ o.data=.fields #[.ref t,rawInt i]
section
variable {prog:Program}{w:World}{A:Around}{E:Value->Shared->Prop}{s:Shared}
theorem Gb{α:Type}{c:Prop}[Decidable c]{a b:Sem α}{M:Model}{Q:α->Shared->Prop}(k:wpAny M A b Q E s)(h:¬c:=by decide):wpAny M A (if c then a else b) Q E s:=by rw[if_neg h];exact k
theorem Yt{α:Type}{c:Prop}[Decidable c]{a b:Sem α}{M:Model}{Q:α->Shared->Prop}(k:wpAny M A a Q E s)(h:c:=by decide):wpAny M A (if c then a else b) Q E s:=by rw[if_pos h];exact k
theorem IsRv.typeIs{a t:Addr}{i:Int}(x:IsRv s.heap a t i):s.TypeIs (.ref a) "reversed":=let ⟨o,g,f,_⟩:=x;⟨o,g,f⟩
theorem IsRv.at{h h':Heap}{a t:Addr}{i:Int}(x:IsRv h a t i)(e:∀o,h.get? a=some o->h'.get? a=some o):IsRv h' a t i:=let ⟨o,f,r⟩:=x;⟨o,e _ f,r⟩
theorem U3{t:Addr}{items:Array Value}:Meets (Builtin.«reversed.__new__» ⟨[.type "reversed",.ref t],[]⟩) (λ_ R s=>IsTup s.heap t items/\(items.size:Int)<2^63 /\
 R (.ok (.ret (.ref s.heap.objs.size))) { s with toks:=s.toks+2,heap:=s.heap.push (rvO t ((items.size:Int)-1)) }) :=
 .of_wp λprog w A R s ⟨f,hz,h⟩=>by
  unfold Builtin.«reversed.__new__»;refine ZBA (wpAny_of_eq (newClass_reversed _) (ZBA (wpAny_of_eq (a:=()) (by kernel_rfl) (ZBA (wpAny_of_eq (a:=()) rfl (ZBA (wpAny_specialOf f.typeIs Rv.noRev (ZBA ?_))))))));refine ZBA (wpAny_isInstance (b:=false) f.typeIs sub_tuple_dict (?_:wpAny _ _ (if false=true then _ else _) _ _ s));refine Gb (ZBA (wpAny_specialOf f.typeIs slot_tuple_getitem.lookup (wpAny_of_eq (a:=true) rfl (?_:wpAny _ _ (if (!true)=true then _ else _) _ _ s))));refine Gb (ZBA (len_tuple f hz (ZBA (wpAny_of_eq (a:=some (items.size:Int)) rfl ?_))));unfold Builtin.SmallTypes.newRecord;exact ZBA (ZB9 (s:={ s with toks:=_ }) (ZBC ⟨_,rfl,h⟩))
theorem aY {t:Addr} {items:Array Value} {Q:Value->Shared->Prop} (z:IsTup s.heap t items) (hz:(items.size:Int)<2^63)
 (h:Q (.ref s.heap.objs.size) { s with toks:=s.toks+2,heap:=s.heap.push (rvO t ((items.size:Int)-1)) }):wpAny (model prog w) A (call (.type "reversed") [.ref t]) Q E s :=
 callType_newIn Rv.called (by decide) (F.typeCall_reversed_1 _) (F.newCall_reversed_1 _) (λobj=>Rv.aInit obj _) F.entry_reversed_new ((U3 (items:=items)).inModel prog w) ⟨z,hz,⟨_,ZBP _ rfl,rfl⟩,h⟩
theorem aJ{i n:Nat}(h:i<n):seqIndex? (i:Int) n=some i:=by
 unfold seqIndex?
 have:¬(i:Int)<0:=by lia
 simp[this,h]
theorem UZ {it t:Addr} {i:Nat} {items:Array Value} {x:Value} {Q:Option Value->Shared->Prop} (hit:IsRv s.heap it t (i:Int)) (z:IsTup s.heap t items) (hi:(i:Int)<2^63) (G:items[i]?=some x)
 (O:∀h' U,IsRv h' it t ((i:Int)-1)->Heap.SameBut it s.heap h'->Q (some x) { s with heap:=h',toks:=U }):wpAny (model prog w) A (pyNext (.ref it)) Q E s:=by
 obtain⟨o,g,c,d⟩:=id hit;unfold pyNext;refine ZBA (wpAny_attempt (wpAny_callSpecial?_slot (name:=Str.ofString "__next__") hit.typeIs Rv.next (ZB1 Rv.next hit.typeIs Rv.eNext ?_ (Rv.aNext _))));unfold Builtin.«reversed.__next__»;refine ZBA (wpAny_of_eq (a:=(Value.ref it,[])) rfl (ZBA (ZCP g d (x:=.ref t) rfl (ZBA (ZCP g d (x:=rawInt (i:Int)) rfl (?_:wpAny _ _ (if (i:Int)<0 then _ else _) _ _ s))))));refine Gb (h:=by lia) (ZBA (wpAny_specialOf z.typeIs slot_tuple_getitem.lookup (?_:wpAny _ _ (if false=true then _ else _) _ _ s)));refine Gb (ZBA (wpAny_mkInt (ZBA (wpAny_attempt (getItem_tuple (s:={ s with toks:=s.toks+1 }) (j:=i) z (by lia) hi (aJ (ZDP.mp G).1) G ?_)))));refine ZBA (ZCP (s:={ s with toks:=s.toks+1 }) g d (x:=rawInt (i:Int)) rfl (ZBA (ZCM (s:={ s with toks:=s.toks+1 }) g d (by simp) ?_)));refine ZBC ⟨x,rfl,ZBC (O _ _ ⟨_,ZCv _ g (Obj.isFreed_of_fields (Obj.data_mapFields d _)),(Obj.cls_mapFields ..).trans c,?_⟩ (ZB2 ..))⟩;rw[Obj.data_mapFields d];rfl
theorem ZS{α:Type}{Q:α->Shared->Prop}{E:Value->Shared->Prop}{it:Addr}{h0:Heap}(z:A.handled=none)(x:Heap.ExtBut it h0 s.heap)(q:∀e h',(Shared.mk h' s.gens s.drawn s.toks s.os).TypeIs e "StopIteration" -> Heap.ExtBut it h0 h'->E e { s with heap:=h' }):wpAny (model prog w) A (Builtin.SmallTypes.stopIteration:Sem α) Q E s:=by
 unfold Builtin.SmallTypes.stopIteration newExc newTuple;exact ZBA (ZBA (ZB9 (ZBA (wpAny_of_eq (a:=Value.none) rfl (ZB9 (wpAny_raiseNew_none z (q _ _ ⟨_,ZBP _ rfl,rfl⟩ ((x.push _).push _))))))))
theorem YJ{it t:Addr}{Q:Option Value->Shared->Prop}(z:A.handled=none)(hit:IsRv s.heap it t (-1))(q:∀h',Heap.ExtBut it s.heap h'->Q none { s with heap:=h' }):wpAny (model prog w) A (pyNext (.ref it)) Q E s:=by
 obtain⟨o,g,c,d⟩:=id hit;unfold pyNext;refine ZBA (wpAny_attempt (wpAny_callSpecial?_slot (name:=Str.ofString "__next__") hit.typeIs Rv.next (ZB1 Rv.next hit.typeIs Rv.eNext ?_ (Rv.aNext _))));unfold Builtin.«reversed.__next__»;refine ZBA (wpAny_of_eq (a:=(Value.ref it,[])) rfl (ZBA (ZCP g d (x:=.ref t) rfl (ZBA (ZCP g d (x:=rawInt (-1)) rfl (?_:wpAny _ _ (if (-1:Int)<0 then _ else _) _ _ s))))));refine Yt (ZBA (wpAny_rule (ZBA (ZBA (ZCM g d (by simp) ?_)))));have g2:=ZCv (Obj.mapFields λx=>x.setIfInBounds 1 (rawInt (-1))) g (Obj.isFreed_of_fields (Obj.data_mapFields d _));have i:=Obj.data_mapFields d (λx=>x.setIfInBounds 1 (rawInt (-1)));have j:Heap.ExtBut it s.heap (s.heap.update it (Obj.mapFields λx=>x.setIfInBounds 1 (rawInt (-1)))):=(ZB2 ..).extBut;generalize s.heap.update it (Obj.mapFields λx=>x.setIfInBounds 1 (rawInt (-1)))=h1 at *;refine ZCM (s:={ s with heap:=h1 }) g2 i (by simp) (ZBA (ZS (s:={ s with heap:=_ }) (h0:=s.heap) (it:=it) z (λb o f e=>(ZB2 h1 it (Obj.mapFields λx=>x.setIfInBounds 0 Value.none)).extBut b o f (j b o f e)) λe h' te xe=>?_));exact ZBA (wpAny_isInstance (T:="StopIteration") (b:=true) te isSubtype_stop (ZBC (q _ xe)))
theorem PL{it t:Addr}{i:Int}{Q:Value->Shared->Prop}(hit:IsRv s.heap it t i)(h:Q (.ref it) s):wpAny (model prog w) A (pyIter (.ref it)) Q E s:=by
 refine wpAny_pyIter_slot hit.typeIs Rv.iter (ZB1 Rv.iter hit.typeIs Rv.eIter ?_ (Rv.aIter _));exact ZBC ⟨_,rfl,"reversed",_,hit.typeIs,Rv.next.lookup,h⟩
end
noncomputable def KN(K:W.Frag)(a:Addr)(n:Nat):It :=
 ⟨λi H=>i<n/\n<=1000/\∃xs x,zj K H a xs/\xs[n-1-i]?=some x,λi H x H'=>H'=H/\∀xs,zj K H a xs->xs[n-1-i]?=some x,λi H=>i=n⟩
theorem aE{P:Program}{w:World}{K:W.Frag}{tg:Expr}(a it:Addr)(n:Nat):Turn P w K tg (KN K a n) [it] it (λi h=>IsRv h it a ((n:Int)-1-(i:Nat))) where
 mem:=by simp
 obj:=λi h st b f=>by
  have e:b=it:=by simpa using f
  subst e;obtain⟨o,e,c,d⟩:=st;exact⟨o,e,λv z=>by rw[d]at z;cases z⟩
 keep:=λi h h' st k=>st.at λo e=>k it (by simp) o e
 item:=by
  intro X t hw r B i El s Z H E I hf st j;subst t hw r;obtain⟨hi,S,xs,x,C,D⟩:=j;obtain⟨zc,O,p,hz⟩:=I.tuple C;obtain⟨u,hu,N⟩:=O.get D;obtain⟨f0,f1,f2,l,f4,m⟩:=hf it (by simp);have J:(n:Int)-1-(i:Nat)=((n-1-i:Nat):Int):=by lia
  rw[J]at st;refine UZ st p (by lia) (x:=u) (by simpa using hu) λh' y g R=>?_
  have G:zd X El Z H { s with heap:=h',toks:=y }:=I.turned (t':=y) (λb o f e=>(R.2 b f).trans e) f0 f1 l f4 m;obtain⟨o,e,c,d⟩:=id g;have e2:((n-1-i:Nat):Int)-1=(n:Int)-1-((i+1:Nat):Int):=by lia
  rw[e2]at g;exact⟨u,rfl,HU (s:={ s with heap:=h',toks:=y }) e c d (by decide) ⟨x,H,G,N,⟨rfl,λys M=>by rw[I.tuple_inj M C];exact D⟩,g,λb f=>(hf b f).1⟩⟩
 done:=by
  intro X t hw r B i El s Z H E I hf st j;subst t hw r;have j:i=n:=j;obtain⟨f0,f1,f2,l,f4,m⟩:=hf it (by simp);rw[j,show(n:Int)-1-(n:Nat) = -1 by lia]at st;exact YJ (I.ok.hd B) st λh' L=>⟨rfl,I.turned (t':=s.toks) (λb o f e=>L b o f e) f0 f1 l f4 m⟩
 self:=λ_ _ _ _ _ st h=>PL st h
section
variable {X:Cx}
noncomputable def Wq(K:W.Frag)(ta:TA):TI:=λZ H R=>ta Z H λvs H1=>match vs with
 | [.ref a]=>∃xs,zj K H1 a xs/\xs.length<=1000/\R (KN K a xs.length) H1
 | _=>False
theorem Uo {K:W.Frag} {a:Expr} {ta:TA} {p pos:Pos} {tg:Expr} (G:Gl X "reversed") (hm:X.mg "reversed" = none) (ha:PA X [a] ta)
 (hs:starEach [a] X.env=[(false,eval a X.env)]:=by rfl) (z:X.K=K:=by rfl) :
 PI X tg (.Call (.Name "reversed" p) [a] [] pos) (Wq K ta):=by
 subst z;intro El s Z H R I h;refine Call_ (CO I G hm (by rfl:bootBuiltins "reversed" = some (.type "reversed")) (PyProof.Rows.callWith_type1 (zm (ha pos El s Z H _ I h) λus s1 ⟨vs,H1,f,r1,n⟩=>?_) (by rw[hs];rfl) (by rfl)))
 match vs,n,r1 with
 | [.ref l1],⟨xs,k,l,q⟩,r1 =>
 cases r1 with
 | cons r o =>
 cases o;cases r;obtain⟨zc,t,m,_⟩:=f.tuple k;have v:=t.length
 have i:(zc.toArray.size:Int)-1=(xs.length:Int)-1-((0:Nat):Int):=by
  rw[ZBM];lia
 refine aY m (by rw[ZBM];lia) ?_
 have hit:IsRv (s1.heap.push (rvO l1 ((zc.toArray.size:Int)-1))) s1.heap.objs.size l1 ((xs.length:Int)-1-(0:Nat)):=by
  rw[i];exact⟨_,ZBP _ rfl,rfl,rfl⟩
 refine PL (s:={ s1 with toks:=s1.toks+2,heap:=s1.heap.push _ }) hit ?_;have g:zd X El Z H1 { s1 with toks:=s1.toks+2,heap:=s1.heap.push (rvO l1 ((zc.toArray.size:Int)-1)) }:=f.kept (t':=s1.toks+2) λb u h=>ZBG _ h
 refine⟨_,_,_,_,H1,rfl,g,aE l1 s1.heap.objs.size xs.length,hit,λb j=>?_,q⟩;refine f.fpOk ?_ (f.hok.fresh ?_)
 all_goals
  rw[ZBX.mp j];exact ZBD _
theorem aQ {K:W.Frag} {a:Addr} {xs:List V} {g:TG} {tc:TT} {te:TE} {σc:St} {Q:VK} {H:Hp} (G:xs.length<=1000) (Pv:Nat->List V->Hp->Prop) (h0:Pv 0 [] H) (hl:∀i ys H,i<=xs.length->Pv i ys H->zj K H a xs) (hz:∀i ys H,i<xs.length->Pv i ys H->ys.length<sizeLine)
 (hs:∀i x ys H,xs.reverse[i]?=some x->Pv i ys H->g x σc H λz H2=>tc z H2 λb O=>if b=true then te z O λy U=>Pv (i+1) (ys++[y]) U else Pv (i+1) ys O)
 (hd:∀ys H,Pv xs.length ys H->∀p,H p=none->Q (.ref p) (upd H p (.lst ys))):C3 (KN K a xs.length) g tc te σc Q H:=by
 refine⟨λi m ys H=>m=xs.length-i/\i<=xs.length/\Pv i ys H,⟨xs.length,by simp,ZBT _,h0⟩,?_⟩;rintro i m ys H ⟨rfl,hi,p⟩;have q:=hl i ys H hi p
 by_cases zn:i<xs.length
 ·have f:xs.length-1-i<xs.length:=by lia
  refine .inr ⟨⟨zn,G,xs,xs[xs.length-1-i],q,ZBE f⟩,hz i ys H zn p,Pv (i+1),λk H' j=>⟨xs.length-(i+1),by lia,rfl,zn,j⟩,λx H' y=>?_⟩;obtain⟨e,y⟩:=y;subst e;exact hs i x ys _ (by rw[List.getElem?_reverse zn];exact y xs q) p
 ·have e:i=xs.length:=by lia
  subst e;exact .inl ⟨rfl,hd ys H p⟩
end
end L2
namespace L2
open PySem PySem.Spec PyProof.Rows PySem.W PySem.Calls
variable {p:Array Nat}{n:Nat}
section
variable {N:Nat}{k:Nat->Int}
noncomputable abbrev ltK(k:Nat->Int)(i j:Nat):Bool:=decide (k i<k j)
noncomputable def kAt(k:Nat->Int)(p:Array Nat)(i:Nat):Int:=k (p.getD i 0)
def Cp(k:Nat->Int)(p:Array Nat)(n:Nat):Prop:=∀i j,i<j->j<n->kAt k p i<kAt k p j
def FY(k:Nat->Int)(p:Array Nat)(n:Nat):Prop:=∀i j,i<j->j<n->kAt k p j<kAt k p i
theorem PmN.size(h:PmN N p):p.size=N:=by have:=h.length_eq;simpa using this
theorem LW(z:∀i j,i<N->j<N->k i=k j->i=j)(h:PmN N p){i j:Nat}(hi:i<N)(G:j<N)(ne:i≠j):kAt k p i≠kAt k p j:=λe=>by
 have hs:=h.size;have f:0<N:=by lia
 have e:=z _ _ (h.lt f i) (h.lt f j) e;have nd:p.toList.Nodup:=h.nodup_iff.mpr List.nodup_range;have g:∀i,(hi:i<p.size)->p.getD i 0=p.toList[i]'(by simpa using hi):=λi hi=>by simp[Array.getD,hi]
 rw[g i (by lia),g j (by lia)]at e;refine ne ((List.getElem?_inj (l:=p.toList) (by simpa using (show i<p.size by lia)) nd).mp ?_);rw[ZBE (by simpa using (show i<p.size by lia)),ZBE (by simpa using (show j<p.size by lia)),e]
theorem bx(h1:1<=n)(h:Cp k p n)(e:kAt k p (n-1)<kAt k p n):Cp k p (n+1):=λi j a b=>by
 by_cases z:j=n
 ·subst z
  by_cases y:i=j-1
  ·rw[y];exact e
  ·exact Int.lt_trans (h i (j-1) (by lia) (by lia)) e
 ·exact h i j a (by lia)
theorem Xp(h1:1<=n)(h:FY k p n)(e:kAt k p n<kAt k p (n-1)):FY k p (n+1):=λi j a b=>by
 by_cases z:j=n
 ·subst z
  by_cases y:i=j-1
  ·rw[y];exact e
  ·exact Int.lt_trans e (h i (j-1) (by lia) (by lia))
 ·exact h i j a (by lia)
theorem KL(G:∀i j,i<N->j<N->k i=k j->i=j)(h:PmN N p):∀(f n:Nat),1<=n->n+f<=N->Cp k p n->KOn (ltK k) N (λm=>Cp k p m/\n<=m/\m<=N/\(m<n+f->kAt k p m<kAt k p (m-1))) (kas_asc p f n)
 | 0,n,h1,h2,s=>⟨s,ZBD _,by lia,λz=>by lia⟩
 | f+1,n,h1,h2,s=>by
  have g:0<N:=by lia
  refine⟨h.lt g _,h.lt g _,?_⟩;show KOn (ltK k) N _ (if decide (kAt k p n<kAt k p (n-1))=true then _ else _)
  by_cases c:kAt k p n<kAt k p (n-1)
  ·rw[if_pos (ZBK c)];exact⟨s,ZBD _,by lia,λ_=>c⟩
  ·rw[if_neg λz=>c (ZBY z)]
   have:=LW G h (i:=n) (j:=n-1) (by lia) (by lia) (by lia)
   exact Dr (λm ⟨a,b,c,d⟩=>⟨a,by lia,c,λz=>d (by lia)⟩) (KL G h f (n+1) (by lia) (by lia) (bx h1 s (by lia)))
theorem Ny(G:∀i j,i<N->j<N->k i=k j->i=j)(h:PmN N p):∀(f n:Nat),1<=n->n+f<=N->FY k p n->KOn (ltK k) N (λr=>r.1=p/\r.2.2=0/\FY k p r.2.1/\n<=r.2.1/\r.2.1<=N) (kas_desc f p n 0)
 | 0,n,h1,h2,s=>⟨rfl,rfl,s,ZBD _,by show n<=N;lia⟩
 | f+1,n,h1,h2,s=>by
  have g:0<N:=by lia
  refine⟨h.lt g _,h.lt g _,?_⟩;show KOn (ltK k) N _ (if decide (kAt k p n<kAt k p (n-1))=true then _ else _)
  by_cases c:kAt k p n<kAt k p (n-1)
  ·rw[if_pos (ZBK c),if_neg (ZBa 0)];exact Dr (λr ⟨a,b,c,d,e⟩=>⟨a,b,c,by lia,e⟩) (Ny G h f (n+1) (by lia) (by lia) (Xp h1 s c))
  ·rw[if_neg λz=>c (ZBY z)]
   have:=LW G h (i:=n) (j:=n-1) (by lia) (by lia) (by lia)
   refine⟨h.lt g _,h.lt g _,?_⟩;show KOn (ltK k) N _ (if decide (kAt k p (n-1)<kAt k p n)=true then _ else _);rw[if_pos (ZBK (show kAt k p (n-1)<kAt k p n by lia))];exact⟨rfl,rfl,s,ZBD _,by show n<=N;lia⟩
theorem Nl{i:Nat}(hn:n<=p.size)(hi:i<n):(kas_rev p 0 n).getD i 0=p.getD (n-1-i) 0:=by
 have:=getElem?_mirror_all (xs:=p) (i:=0) (j:=n) hn i
 rw[if_pos ⟨ZBT _,hi⟩,Nat.zero_add]at this;unfold kas_rev;rw[Array.getD_eq_getD_getElem?,Array.getD_eq_getD_getElem?,this]
theorem bG(z:∀i j,i<N->j<N->k i=k j->i=j)(h2:2<=N)(h:PmN N p):KOn (ltK k) N (λr=>PmN N r.2/\Cp k r.2 r.1/\r.1<=N/\1<=r.1) (kas_count N p):=by
 have t:0<N:=by lia
 refine FE (Dr (λn ⟨s,u,v,nx⟩=>?_) (KL z h (N-1) 1 (ZBD _) (by lia) λi j a b=>by lia))
 by_cases c:n=N
 ·rw[if_pos (by simpa using c)];exact⟨h,s,v,u⟩
 rw[if_neg (by simpa using c)]
 by_cases g:n>1
 ·rw[if_pos g];refine⟨h.lt t _,h.lt t _,?_⟩;show KOn (ltK k) N _ (if decide (kAt k p 0<kAt k p (n-1))=true then _ else _);rw[if_pos (ZBK (s 0 (n-1) (by lia) (by lia)))];exact⟨h,s,v,u⟩
 rw[if_neg g];have f:n=1:=by lia
 subst f
 have y:FY k p 2:=λi j a b=>by
  have:i=0:=by lia
  have:j=1:=by lia
  subst i j;exact nx (by lia)
 refine FE (Dr (λr ⟨f,e2,o,B,l⟩=>?_) (Ny z h (N-2) 2 (by lia) (by lia) y));obtain⟨w,m,q⟩:=r;dsimp only at f e2 o B l ⊢;subst f e2;rw[if_neg (ZBa 0)];have hr:PmN N (kas_rev w 0 m):=NJ h (mirror_perm ..)
 have C:Cp k (kas_rev w 0 m) m:=λi j a b=>by
  unfold kAt;rw[Nl (by rw[h.size];exact l) (by lia),Nl (by rw[h.size];exact l) b];exact o (m-1-j) (m-1-i) (by lia) (by lia)
 exact FE (Dr (λx ⟨s,a,b,_⟩=>⟨hr,s,b,by show 1<=x;lia⟩) (KL z hr (N-m) m (by lia) (by lia) C))
theorem Mp(G:∀i j,i<N->j<N->k i=k j->i=j)(h:PmN N p)(hn:n<N)(s:Cp k p n):∀(f l r:Nat),l<=r->r<=n->r-l<=f->(∀i,i<l->kAt k p i<kAt k p n)->(∀i,r<=i->i<n->kAt k p n<kAt k p i)->KOn (ltK k) N (λd=>d<=n/\(∀i,i<d->kAt k p i<kAt k p n)/\∀i,d<=i->i<n->kAt k p n<kAt k p i) (kas_place p n f l r)
 | 0,l,r,h1,h2,o,a,b=>by
  have e:l=r:=by lia
  exact⟨by show l<=n;lia,a,λi x y=>b i (by lia) y⟩
 | f+1,l,r,h1,h2,o,a,b=>by
  have m:0<N:=by lia
  unfold kas_place
  by_cases c:l ≥ r
  ·rw[if_pos c];exact⟨by show l<=n;lia,a,λi x y=>b i (by lia) y⟩
  rw[if_neg c];refine⟨h.lt m _,h.lt m _,?_⟩;show KOn (ltK k) N _ (if decide (kAt k p n<kAt k p ((l+r) / 2))=true then _ else _);have hm:(l+r) / 2<n:=by lia
  by_cases g:kAt k p n<kAt k p ((l+r) / 2)
  ·rw[if_pos (ZBK g)];refine Mp G h hn s f l _ (by lia) (by lia) (by lia) a λi x y=>?_
   by_cases z:i=(l+r) / 2
   ·rw[z];exact g
   ·exact Int.lt_trans g (s _ i (by lia) y)
  ·rw[if_neg λz=>g (ZBY z)]
   have:=LW G h (i:=n) (j:=(l+r) / 2) hn (by lia) (by lia)
   refine Mp G h hn s f _ r (by lia) h2 (by lia) (λi x=>?_) b
   by_cases z:i=(l+r) / 2
   ·rw[z];lia
   ·have:=s i ((l+r) / 2) (by lia) hm
    lia
theorem Qv(z:∀i j,i<N->j<N->k i=k j->i=j):∀(f:Nat) (p:Array Nat) (n:Nat),PmN N p->n+f=N->Cp k p n->KOn (ltK k) N (λp=>PmN N p/\Cp k p N) (kas_bin f p n)
 | 0,p,n,h,e,s=>⟨h,by rw[<- e];exact s⟩
 | f+1,p,n,h,e,s=>by
  have hn:n<N:=by lia
  refine FE (Dr (λd ⟨v,t,u⟩=>?_) (Mp z h hn s n 0 n (ZBT _) (ZBD _) (by lia) (λi x=>by lia) λi x y=>by lia))
  have m:∀i,kAt k (bubble p n (n-d)) i=if i=d then kAt k p n else if d<i/\i<=n then kAt k p (i-1) else kAt k p i:=λi=>by
   have:=getElem?_bubble (xs:=p) (src:=n) (by rw[h.size];exact hn) (n-d) (by lia) i
   rw[show n-(n-d)=d by lia]at this;unfold kAt;rw[Array.getD_eq_getD_getElem?,this]
   by_cases g:i=d
   ·rw[if_pos g,if_pos g,Array.getD_eq_getD_getElem?]
   ·rw[if_neg g,if_neg g]
    by_cases l:d<i/\i<=n
    ·rw[if_pos l,if_pos l,Array.getD_eq_getD_getElem?]
    ·rw[if_neg l,if_neg l,Array.getD_eq_getD_getElem?]
  refine Qv z f _ (n+1) (NJ h (bubble_perm ..)) (by lia) λi j a b=>?_
  rw[m,m]
  by_cases i1:i=d
  ·rw[if_pos i1,if_neg (by lia),if_pos (by lia)];exact u _ (by lia) (by lia)
  ·rw[if_neg i1]
   by_cases o:j=d
   ·rw[if_pos o,if_neg (by lia)];exact t _ (by lia)
   ·rw[if_neg o]
    by_cases i2:d<i/\i<=n
    ·rw[if_pos i2,if_pos (by lia)];exact s _ _ (by lia) (by lia)
    ·rw[if_neg i2]
     by_cases r:d<j/\j<=n
     ·rw[if_pos r];exact s _ _ (by lia) (by lia)
     ·rw[if_neg r];exact s _ _ a (by lia)
theorem Uk(z:∀i j,i<N->j<N->k i=k j->i=j)(h2:2<=N):KOn (ltK k) N (λp=>PmN N p/\Cp k p N) (kas_sort N):=by
 have h0:PmN N (List.toArray (List.range N)):=by unfold PmN;simp
 refine FE (Dr (λr ⟨a,b,c,d⟩=>?_) (bG z h2 h0));split
 ·exact Qv z _ _ _ a (by lia) (by rw[Nat.max_eq_left d];exact b)
 ·exact⟨a,by rw[show N=r.1 by lia];exact b⟩
end
section
variable {P:Program}{w:World}{A:Around}{E:Value->Shared->Prop}{s:Shared}
theorem aG {a:Addr} {vs:List Value} {R:PySem.Fin->Shared->Prop} {κv:Value->Int} (G:s.heap.get? a=some (seqObj "list" vs.toArray n)) (O:∀v∈vs,PairV s.heap v (κv v)) (hu:∀v∈vs,∀v'∈vs,κv v=κv v'->v=v') (nd:vs.Nodup) (U:vs.length<64)
 (fin:∀out:List Value,out.Perm vs->out.Pairwise (λx y=>κv x<=κv y)->R (.done (.ret .none)) { s with heap:=sortedHeap s.heap a vs out.toArray }) :
 wpAny (model P w) A (Builtin.«list.sort» ⟨[.ref a],[]⟩) R E s:=by
 have hz:vs.length<=sizeLine:=by rw[sizeLine_eq];lia
 rw[list_sort_plain];have ha:a<s.heap.objs.size:=ZBF G;obtain⟨K,D⟩:∃K,(s.heap.update a (Obj.mapSeq λ_=>#[])).get? a=some (seqObj "list" #[] K):=⟨_,get?_update_seq G (λ_=>#[])⟩;refine ZBA (listItems_at G rfl (ZBA (listUpdate_at G rfl (ZBA (seqEpoch_at D rfl (ZBA (wpAny_newTuple (ZBA (wpAny_newList (ZBr ?_)))))))))) ;have g:(((s.heap.update a (Obj.mapSeq λ_=>#[])).push (seqObj "tuple" vs.toArray 0)).push (seqObj "list" #[] 0)).get? a=some (seqObj "list" #[] K):=ZBG _ (ZBG _ D)
 have kp:∀b o,o.cls=.type "tuple" -> s.heap.get? b=some o->(((s.heap.update a (Obj.mapSeq λ_=>#[])).push (seqObj "tuple" vs.toArray 0)).push (seqObj "list" #[] 0)).get? b=some o:=λb o hc e=>by
  have M:b≠a:=λz=>by
   rw[z,G]at e;cases e;exact absurd hc (show ¬(Value.type "list" = Value.type "tuple") by decide)
  exact ZBG _ (ZBG _ (by rw[Heap.get?_update_ne _ _ _ _ M];exact e))
 have m:∀v∈vs,PairV (((s.heap.update a (Obj.mapSeq λ_=>#[])).push (seqObj "tuple" vs.toArray 0)).push (seqObj "list" #[] 0)) v (κv v):=λv h=>(O v h).keep kp
 have eh:∀out,sortedHeap s.heap a vs out=Heap.update (((s.heap.update a (Obj.mapSeq λ_=>#[])).push (seqObj "tuple" vs.toArray 0)).push (seqObj "list" #[] 0)) a (Obj.mapSeq λ_=>out):=λ_=>rfl
 simp only[eh]at fin;show wpAny (model P w) A _ R E { s with heap:=((s.heap.update a (Obj.mapSeq λ_=>#[])).push (seqObj "tuple" vs.toArray 0)).push (seqObj "list" #[] 0) };generalize ((s.heap.update a (Obj.mapSeq λ_=>#[])).push (seqObj "tuple" vs.toArray 0)).push (seqObj "list" #[] 0)=h6 at *;dsimp only;have hsz:vs.toArray.size=vs.length:=by simp
 by_cases h2:vs.toArray.size<2
 ·rw[if_pos h2,if_pos h2];refine ZBA (ZBC ?_);rw[StateT.run_pure];refine ZBA (ZBC ?_);dsimp only;refine ZBA (seqEpoch_at g rfl (ZBA (listUpdate_at g rfl ?_ (hsz2:=by rw[Array.size_map];show(pairsOf vs).size<=_;rw[pairsOf_size,sizeLine_eq];lia))));simp only[bne_self_eq_false,ZCV,if_false]
  have e:((vs.toArray.zip vs.toArray).map (·.2))=vs.toArray:=by
   apply Array.ext';simp;exact List.map_snd_zip (ZBD _)
  rw[e];refine ZBC (fin vs (.refl _) ?_)
  match vs,h2 with
  | [],_=>exact .nil
  | [x],_=>exact List.pairwise_singleton _ _
  | x::y::r,z=>exact absurd z (by simp)
 rw[if_neg h2,if_neg h2];have B:2<=vs.length:=by rw[hsz]at h2;lia
 obtain⟨fs,f1,f2,f3⟩:=Qp λv O=>⟨_,m v O⟩
 refine ZBA (kat_kind (T:=Value.type "int") f1 (by lia) (λv O=>?_) (by decide) ?_)
 ·obtain⟨k,t,rfl⟩:=f3 v O;exact Looks.of_pure rfl
 rw[show(Value.type "int" != Value.type "tuple")=true by decide];have u:∀i,i<vs.length->vs.getD i .none∈vs:=λi hi=>by rw[ZBO,ZBE hi];exact ZCL hi
 have hk:∀i j,i<vs.length->j<vs.length->κv (vs.getD i .none)=κv (vs.getD j .none)->i=j:=λi j hi f e=>by
  have e:=hu _ (u i hi) _ (u j f) e;rw[ZBO,ZBO,ZBE hi,ZBE f]at e;exact(List.getElem?_inj hi nd).mp (by rw[ZBE hi,ZBE f];exact congrArg some e)
 refine ZBA (ZBt (kat_run (vs:=vs) (ks:=vs) (Q:=λl s'=>∃p:Array Nat,p.size=vs.length/\arrOf l=p.map (kas_item (vs.toArray.zip vs.toArray))/\failedOf l=none/\s'={ s with heap:=h6 } /\ PmN vs.length p/\Cp (λi=>κv (vs.getD i .none)) p vs.length)
  rfl B U (λp' l s' a1 a2 Y Z=>⟨p',a1,a2,Y,Z⟩) ?_) ?_ λ_ _ e=>e)
 ·refine RD (λi j C hi f hC=>?_) (λp W=>⟨rfl,W⟩) (Uk hk B);exact aN (m _ (u i hi)) (m _ (u j f)) (hu _ (u i hi) _ (u j f)) hC
 rintro⟨⟨⟩,l⟩ s' ⟨p,S,L,hf,rfl,V,X⟩;dsimp only;have I:=kat_snds rfl L;have J:(List.toArray (p.toList.map λi=>vs.getD i Value.none)).size=vs.length:=by rw[ZBM,ZBB,ZBm,S]
 rw[I];refine ZBA (seqEpoch_at g rfl ?_);refine ZBA (listUpdate_at g rfl ?_ (ZBT _) (ZBq (ZCf J) (by rw[sizeLine_eq];lia)));rw[hf];simp only[bne_self_eq_false,ZCV,if_false];refine ZBC (fin _ (bI V _) ?_);rw[ZCI];refine List.pairwise_iff_getElem.mpr λi j hi f N=>?_
 rw[ZBm]at hi f
 have:=X i j N (by lia)
 unfold kAt at this;rw[show p.getD i 0=p.toList[i]'(by simpa using hi) by simp[Array.getD,hi],show p.getD j 0=p.toList[j]'(by simpa using f) by simp[Array.getD,f]]at this;exact Int.le_of_lt this
end
noncomputable def bE:List V->Hp->VK->Prop:=λxs H Q=>match xs with
 | [.ref l]=>∃f:List (Int×Addr×V),H l=some (.lst ((f.map λq=>q.2.1).map V.ref))/\(∀q∈f,H q.2.1=some (.tup [.int q.1,q.2.2]))/\(f.map λq=>q.1).Nodup/\f.length<64 /\
  ∀(rs:List (Int×Addr×V)) p,rs.Perm f->(rs.map λq=>q.1).Pairwise (· < ·)->H p=none->Q (.ref p) (upd H p (.lst ((rs.map λq=>q.2.1).map V.ref)))
 | _=>False
section
variable {X:Cx}
theorem aS:CallR X (.builtin "sorted") bE:=by
 intro El s Z H xs us Q I r h
 match xs,h with
 | [.ref l],h =>
 obtain⟨k,hl,N,nd,G,q⟩:=h;obtain⟨u,rfl,ru⟩:=Bx r;cases ru;obtain⟨zc,rv,pl,hz⟩:=I.list (.of hl);have ei:=O1 rv
 have L:(k.map λq=>q.2.1).Nodup:=by
  refine ZCI.mpr (List.Pairwise.imp_of_mem (λ{x y} hx hy zw e=>zw ?_) (ZCI.mp nd));have h1:=N x hx;rw[e,N y hy]at h1;injection h1 with h1
  injection h1 with h1
  injection h1 with h1 _
  injection h1 with h1
  exact h1.symm
 have T:∀q∈k,PairV s.heap (.ref q.2.1) q.1:=λq w=>by
  obtain⟨p,W,o,K,e2,⟨n,e3⟩,_⟩:=(show ∃p:List Value,zh [.int q.1,q.2.2] p/\IsTupN s.heap q.2.1 p.toArray from by
   obtain⟨p,z1,z2,_⟩:=I.tupleN (.of (N q w));exact⟨p,z1,z2⟩)
  cases W with
  | cons r1 t1 =>
   cases t1 with
   | cons r2 t2 =>
    cases t2;obtain⟨t,rfl⟩:=r1;exact⟨_,t,_,o,n,rfl,K,e2,e3⟩
 subst ei;have vl:((k.map λq=>q.2.1).map Value.ref).length=k.length:=by rw[ZBB,ZBB]
 have P:((k.map λq=>q.2.1).map Value.ref).length<=sizeLine:=by rw[vl];exact ZBq (ZBy G) (by decide)
 refine Calls.call_function_entry kind_sorted plain_sorted entry_sorted (args_sorted1 _) ?_;unfold Builtin.«sorted»;refine ZBA (m:=checkCount "sorted" 1 1 _) (ZBC (ZBA (collect_list pl.isList ?_ P)));refine ZBA (wpAny_newList ?_ P);generalize B:(k.map λq=>q.2.1).map Value.ref=vs at *
 have hsz:((s.heap.push (seqObj "list" #[] 0)).update s.heap.objs.size (Obj.mapSeq (· ++ vs.toArray))).objs.size=s.heap.objs.size+1:=by
  rw[Heap.size_update,size_push']
 have J:(((s.heap.push (seqObj "list" #[] 0)).update s.heap.objs.size (Obj.mapSeq (· ++ vs.toArray))).push (seqObj "list" vs.toArray 0)).get? (s.heap.objs.size+1)=some (seqObj "list" vs.toArray 0):=by
  rw[<- hsz];exact ZBP _ rfl
 have kp:∀b o,s.heap.get? b=some o->(((s.heap.push (seqObj "list" #[] 0)).update s.heap.objs.size (Obj.mapSeq (· ++ vs.toArray))).push (seqObj "list" vs.toArray 0)).get? b=some o:=λb o e=>by
  refine ZBG _ ?_;rw[Heap.get?_update_ne _ _ _ _ (ZBR (ZBF e))];exact ZBG _ e
 show wpAny _ _ _ _ _ { s with heap:=((s.heap.push (seqObj "list" #[] 0)).update s.heap.objs.size (Obj.mapSeq (· ++ vs.toArray))).push (seqObj "list" vs.toArray 0) };rw[hsz]
 have ix:∀a∈k.map λq=>q.2.1,(k.map λq=>q.2.1)[(k.map λq=>q.2.1).idxOf a]?=some a:=λa ha=>by
  rw[ZBE (List.idxOf_lt_length_of_mem ha)];simp
 have at_:∀a∈k.map λq=>q.2.1,∃q∈k,k[(k.map λq=>q.2.1).idxOf a]?=some q/\q.2.1=a:=λa ha=>by
  have h1:=ix a ha;rw[ZBJ]at h1;obtain⟨q,K,e2⟩:=ZDR.mp h1;exact⟨q,ZB3 K,K,e2⟩
 have R:∀q∈k,(k.getD ((k.map λq=>q.2.1).idxOf q.2.1) (0,0,.int 0))=q:=λq w=>by
  obtain⟨S,h1,K,e2⟩:=at_ q.2.1 (List.mem_map_of_mem (f:=λq:Int×Addr×V=>q.2.1) w);rw[ZBO,K];show S=q;have g1:=N S h1;rw[e2,N q w]at g1;injection g1 with g1
  injection g1 with g1
  injection g1 with g1 g2
  injection g1 with g1
  injection g2 with g2 _
  exact Prod.ext g1.symm (Prod.ext e2 g2.symm)
 refine ZBA (ZBr (ZB1 slot_list_sort ⟨_,J,rfl⟩ entry_list_sort (aG (κv:=λv=>(k.getD ((k.map λq=>q.2.1).idxOf (J2 v)) (0,0,.int 0)).1) J (λv C=>?_) (λv C v' O e=>?_) (by rw[<- B];exact ZCI.mpr (L.imp λz e=>z (by cases e;rfl))) (by rw[vl];exact G) λout pm srt=>⟨_,rfl,?_⟩) (args_list_sort _)))
 ·rw[<- B,ZBg]at C;obtain⟨q,w,rfl⟩:=ZBN.mp C;show PairV _ (.ref q.2.1) (k.getD ((k.map λq=>q.2.1).idxOf q.2.1) (0,0,.int 0)).1;rw[R q w];exact(T q w).keep λb o _ e=>kp b o e
 ·rw[<- B,ZBg]at C O;obtain⟨q,w,rfl⟩:=ZBN.mp C;obtain⟨S,M,rfl⟩:=ZBN.mp O;have e:(k.getD ((k.map λq=>q.2.1).idxOf q.2.1) (0,0,.int 0)).1=(k.getD ((k.map λq=>q.2.1).idxOf S.2.1) (0,0,.int 0)).1:=e;rw[R q w,R S M]at e;obtain⟨i,hi,rfl⟩:=ZCD w;obtain⟨j,hj,rfl⟩:=ZCD M
  have:i=j:=(List.getElem?_inj (l:=k.map λq=>q.1) (by simpa using hi) nd).mp (by simp[hi,hj,e])
  subst this;rfl
 ·obtain⟨rs,D⟩:∃rs,rs=out.map λv=>k.getD ((k.map λq=>q.2.1).idxOf (J2 v)) (0,0,.int 0):=⟨_,rfl⟩
  have mo:∀v∈out,∃q∈k,v=.ref q.2.1:=λv C=>by
   have:=pm.mem_iff.mp C
   rw[<- B,ZBg]at this;obtain⟨q,w,e⟩:=ZBN.mp this;exact⟨q,w,e.symm⟩
  have pr:rs.Perm k:=by
   rw[D];refine(pm.map _).trans ?_;rw[<- B,ZBg,ZBg];have e:k.map id=k:=List.map_id _;have e2:k.map ((λv=>k.getD ((k.map λq=>q.2.1).idxOf (J2 v)) (0,0,.int 0)) ∘ Value.ref ∘ λq=>q.2.1)=k.map id:=ZCC λq w=>R q w
   simp only[Function.comp_def]at e2 ⊢;rw[e2,e]
  have eo:out=(rs.map λq=>q.2.1).map Value.ref:=by
   rw[D,ZBg,ZBg];have e:out.map id=out:=List.map_id _
   conv=>lhs;rw[<- e]
   refine ZCC λv C=>?_
   obtain⟨q,w,rfl⟩:=mo v C;show Value.ref q.2.1=Value.ref (k.getD ((k.map λq=>q.2.1).idxOf q.2.1) (0,0,.int 0)).2.1;rw[R q w]
  have U:(rs.map λq=>q.1).Pairwise (· < ·):=by
   have h1:(rs.map λq=>q.1).Pairwise (· <= ·):=by
    rw[D,ZBg,ZCI];exact srt
   have h2:(rs.map λq=>q.1).Nodup:=(pr.map λq=>q.1).nodup_iff.mpr nd;exact List.Pairwise.imp₂ (λ_ _ h g=>Int.lt_iff_le_and_ne.mpr ⟨h,g⟩) h1 h2
  subst eo;obtain⟨e,he⟩:=sortedHeap_at (out:=((rs.map λq=>q.2.1).map Value.ref).toArray) J;have Y:s.heap.objs.size<=s.heap.objs.size+1:=ZCS _;refine ZBC ⟨_,rfl,.ref (s.heap.objs.size+1),_,I.laid (t':=s.toks) (o:=.lst ((rs.map λq=>q.2.1).map V.ref)) (λb o e=>?_) Y ?_,rfl,q rs _ pr U (I.hok.fresh Y)⟩
  ·have hb:=kp b o e;have zn:=ZBF e;rw[sortedHeap_old (ZBR (ZB6 zn)) (by rw[ZB8,hsz];exact ZB6 (ZB6 zn))];exact hb
  ·exact⟨by rw[ZBB,ZBB,pr.length_eq];exact ZBq (ZBy G) (by decide),_,e,OG _,he⟩
end
end L2
namespace Mine
open PySem L2
variable {H H' H0:Hp}{v:V}{xs:List V}{M N S i k m n o r:Nat}{y:Int}{C Pt a b d l p t:Addr}{K:W.Frag}{ls ns:List Int}{bs:List Bool}{g:Nat->Int}{ys:List Nat}{ze:List (Key×V)}{rs:List (List Bool)}{X:List Addr}{pos:Pos}{q:Str}{s:Nat->Nat}
noncomputable def top(i:Nat):Stmt:=PySem.Challenge.pw_flips_k94_whole_called_otherwise.main.body.getD i (.Pass ⟨0,0,0,0⟩)
noncomputable abbrev KQ:Stmt:=top 1
noncomputable abbrev Lz:Stmt:=top 2
noncomputable abbrev Ik:Stmt:=top 3
noncomputable abbrev J6:Stmt:=top 4
noncomputable abbrev LZ:Stmt:=top 7
noncomputable abbrev JK:Stmt:=top 8
noncomputable abbrev MN:Stmt:=top 9
noncomputable abbrev JD:Stmt:=top 10
noncomputable abbrev Iw:Stmt:=top 11
noncomputable abbrev MR:Stmt:=top 12
noncomputable abbrev JE:Stmt:=top 13
noncomputable abbrev IQ:Stmt:=top 14
noncomputable abbrev Jl:Stmt:=top 15
noncomputable abbrev MF:Stmt:=top 16
noncomputable abbrev Lq:Stmt:=top 22
noncomputable abbrev IR:Stmt:=top 23
noncomputable abbrev J8:Stmt:=top 25
noncomputable abbrev IN:Stmt:=top 26
noncomputable abbrev Ip:Stmt:=top 27
noncomputable abbrev Kt:Stmt:=top 28
noncomputable abbrev L7:Stmt:=top 29
noncomputable abbrev KD:Stmt:=top 30
noncomputable abbrev Jb:Stmt:=top 31
noncomputable abbrev Ji:Stmt:=top 32
noncomputable abbrev Kq:Stmt:=top 34
noncomputable abbrev JW:Stmt:=top 35
noncomputable abbrev EW:Stmt:=top 36
noncomputable abbrev KO:Stmt:=top 38
noncomputable abbrev Js:Stmt:=Cj (top 40) 0
noncomputable abbrev Ki:Stmt:=Cj (top 40) 1
noncomputable abbrev IW:Stmt:=Cj (top 40) 2
noncomputable abbrev MK:Stmt:=Cj (top 40) 3
noncomputable abbrev Ib:Stmt:=Cj (top 40) 4
noncomputable abbrev MB:Stmt:=Cj (top 40) 5
noncomputable abbrev Je:Stmt:=Cj (top 40) 6
noncomputable abbrev Iq:Stmt:=Cj (top 40) 7
noncomputable abbrev K8:Stmt:=Cj (top 40) 8
noncomputable abbrev Mi:Stmt:=Cj (top 40) 9
noncomputable abbrev MO:Stmt:=Cj (top 40) 10
noncomputable abbrev C2:Stmt:=Cj (top 40) 11
noncomputable abbrev KS:Stmt:=top 41
noncomputable abbrev JJ:Stmt:=top 43
noncomputable abbrev Li:Stmt:=top 44
noncomputable abbrev L9:Stmt:=top 45
noncomputable abbrev Ml:Stmt:=top 47
noncomputable abbrev Mq:Stmt:=top 48
noncomputable abbrev JA:Stmt:=top 49
noncomputable abbrev JZ:Stmt:=top 51
noncomputable abbrev MM:Stmt:=top 52
noncomputable abbrev KH:Stmt:=top 53
noncomputable abbrev Mh:Stmt:=top 54
noncomputable abbrev Mu:Stmt:=top 55
noncomputable abbrev Ku:Stmt:=top 56
noncomputable abbrev Jv:Stmt:=top 57
noncomputable abbrev KZ:Stmt:=top 58
noncomputable abbrev Io:Stmt:=top 60
noncomputable abbrev LR:Stmt:=top 63
noncomputable abbrev J3:Stmt:=top 64
noncomputable abbrev K2:Stmt:=top 65
noncomputable abbrev Jk:Stmt:=top 66
noncomputable abbrev MV:Stmt:=top 67
noncomputable abbrev MH:Stmt:=top 68
noncomputable abbrev K4:Stmt:=top 70
noncomputable abbrev J1:Stmt:=top 71
noncomputable abbrev Kp:Stmt:=top 73
noncomputable abbrev Lg:Stmt:=top 74
noncomputable abbrev JI:Stmt:=top 75
noncomputable abbrev ML:Stmt:=top 76
noncomputable abbrev IV:Stmt:=top 77
noncomputable abbrev Im:Stmt:=top 78
noncomputable abbrev J7:Stmt:=top 79
noncomputable abbrev KB:Stmt:=top 80
noncomputable abbrev Ks:Stmt:=top 81
noncomputable abbrev LL:Stmt:=top 82
noncomputable abbrev J4:Stmt:=top 83
noncomputable abbrev Il:Stmt:=top 84
noncomputable abbrev DG:Stmt:=top 85
local macro_rules | `(tactic| walk_at "f")=>`(tactic| exact⟨rfl,rfl,rfl,by decide +kernel,rfl,by decide +kernel,by decide +kernel⟩)
theorem Yv:FnScope ["thing"] ["thing"] (AJ KQ):=by walk_at "f"
theorem Xe:FnScope ["bound","thing"] ["bound","thing"] (AJ Lz):=by walk_at "f"
theorem XX:FnScope ["n"] ["n"] (AJ Ik):=by walk_at "f"
theorem sc_z65:FnScope ["base","times","power","step"] ["base","times"] (AJ J6):=by walk_at "f"
theorem Vv:FnScope ["n","thing"] ["n","thing"] (AJ LZ):=by walk_at "f"
theorem Sa:FnScope ["thing"] ["thing"] (AJ JK):=by walk_at "f"
theorem Zz:FnScope ["table"] ["table"] (AJ MN):=by walk_at "f"
theorem Ug:FnScope ["place","switch"] ["place","switch"] (AJ JD):=by walk_at "f"
theorem Vj:FnScope ["subset","place"] ["subset","place"] (AJ Iw):=by walk_at "f"
theorem Xk:FnScope ["subset","other"] ["subset","other"] (AJ MR):=by walk_at "f"
theorem sc_z74:FnScope ["subset","many","rest"] ["subset"] (AJ JE):=by walk_at "f"
theorem Wj:FnScope ["members"] ["members"] (AJ IQ):=by walk_at "f"
theorem VI:FnScope ["subset"] ["subset"] (AJ Jl):=by walk_at "f"
theorem sc_z76:FnScope ["n","k","many"] ["n","k"] (AJ MF):=by walk_at "f"
theorem sc_z69:FnScope ["top","bottom","divisor"] ["top","bottom"] (AJ Lq):=by walk_at "f"
theorem sc_z34:FnScope ["one","other","greater","less","rest"] ["one","other"] (AJ IR):=by walk_at "f"
theorem bL:FnScope ["thing"] ["thing"] (AJ J8):=by walk_at "f"
theorem sc_z83:FnScope ["table","values"] ["table"] (AJ IN):=by walk_at "f"
theorem sc_z87:FnScope ["one","tops","bottom"] ["one"] (AJ Ip):=by walk_at "f"
theorem sc_z44:FnScope ["one","weights","subset","weight"] ["one"] (AJ Kt):=by walk_at "f"
theorem Wr:FnScope ["one","outer"] ["one","outer"] (AJ L7):=by walk_at "f"
theorem V2:FnScope ["n","weights"] ["n","weights"] (AJ KD):=by walk_at "f"
theorem sc_z37:FnScope ["numbers","sums","step"] ["numbers"] (AJ Jb):=by walk_at "f"
theorem Ui:FnScope ["numbers","step","place"] ["numbers","step","place"] (AJ Ji):=by walk_at "f"
theorem sc_z71:FnScope ["one","subset","table"] ["one","subset"] (AJ Kq):=by walk_at "f"
theorem Ys:FnScope ["table","other"] ["table","other"] (AJ JW):=by walk_at "f"
theorem V8:FnScope ["one","k"] ["one","k"] (AJ EW):=by walk_at "f"
theorem sc_z47:FnScope ["one","k","covers"] ["one","k"] (AJ KO):=by walk_at "f"
theorem XS:FnScope ["self","game"] ["self","game"] (AJ Js):=by walk_at "f"
theorem bH:FnScope ["self"] ["self"] (AJ Ki):=by walk_at "f"
theorem Yu:FnScope ["self","things"] ["self","things"] (AJ IW):=by walk_at "f"
theorem XM:FnScope ["self","things"] ["self","things"] (AJ MK):=by walk_at "f"
theorem sc_z23:FnScope ["self","things","question","answer","yes"] ["self","things","question","answer"] (AJ Ib):=by walk_at "f"
theorem Xm:FnScope ["self","things"] ["self","things"] (AJ MB):=by walk_at "f"
theorem Vp:FnScope ["self","things"] ["self","things"] (AJ Je):=by walk_at "f"
theorem UV:FnScope ["self","things"] ["self","things"] (AJ Iq):=by walk_at "f"
theorem T8:FnScope ["self","things","question"] ["self","things","question"] (AJ K8):=by walk_at "f"
theorem sc_z20:FnScope ["self","things","question","no","yes"] ["self","things","question"] (AJ Mi):=by walk_at "f"
theorem Xh:FnScope ["self","things"] ["self","things"] (AJ MO):=by walk_at "f"
theorem Wp:FnScope ["self","things"] ["self","things"] (AJ C2):=by walk_at "f"
theorem Uh:FnScope ["wanted","values"] ["wanted","values"] (AJ KS):=by walk_at "f"
theorem sc_z73:FnScope ["table","labels","rows"] ["table"] (AJ JJ):=by walk_at "f"
theorem sc_z26:FnScope ["game","found"] ["game"] (AJ Li):=by walk_at "f"
theorem sc_z33:FnScope ["game","labels","answers","one","other"] ["game"] (AJ L9):=by walk_at "f"
theorem sc_z79:FnScope ["game","reckoner","things"] ["game"] (AJ Ml):=by walk_at "f"
theorem sc_z54:FnScope ["reckoner","things","question","no","yes"] ["reckoner","things"] (AJ Mq):=by walk_at "f"
theorem sc_z49:FnScope ["reckoner","things","entries","level","below","each","number"] ["reckoner","things"] (AJ JA):=by walk_at "f"
theorem aM:FnScope ["one","subset"] ["one","subset"] (AJ JZ):=by walk_at "f"
theorem TQ:FnScope ["one","subset"] ["one","subset"] (AJ MM):=by walk_at "f"
theorem bK:FnScope ["one","other"] ["one","other"] (AJ KH):=by walk_at "f"
theorem sc_z62:FnScope ["one","switches","subset","weight"] ["one"] (AJ Mh):=by walk_at "f"
theorem aK:FnScope ["one"] ["one"] (AJ Mu):=by walk_at "f"
theorem aw:FnScope ["one"] ["one"] (AJ Ku):=by walk_at "f"
theorem sc_z27:FnScope ["one","found","subset","weight","many"] ["one"] (AJ Jv):=by walk_at "f"
theorem ZM:FnScope ["one","squares"] ["one","squares"] (AJ KZ):=by walk_at "f"
theorem X5:FnScope ["terms","weights","apart"] ["terms","weights","apart"] (AJ Io):=by walk_at "f"
theorem sc_z55:FnScope ["one","k","thing","total","lead"] ["one","k","thing"] (AJ LR):=by walk_at "f"
theorem Wn:FnScope ["n","thing"] ["n","thing"] (AJ J3):=by walk_at "f"
theorem UP:FnScope ["one","total"] ["one","total"] (AJ K2):=by walk_at "f"
theorem YZ:FnScope ["n","k","covers"] ["n","k","covers"] (AJ Jk):=by walk_at "f"
theorem sc_z84:FnScope ["one","lead","cover","weights"] ["one","lead","cover"] (AJ MV):=by walk_at "f"
theorem Yx:FnScope ["weights","switches"] ["weights","switches"] (AJ MH):=by walk_at "f"
theorem UW:FnScope ["one","share"] ["one","share"] (AJ K4):=by walk_at "f"
theorem sc_z64:FnScope ["n","squares","share","bottom","less","parts","whole"] ["n","squares","share"] (AJ J1):=by walk_at "f"
theorem Yz:FnScope ["_law_script"] ["_law_script"] (AJ Kp):=by walk_at "f"
theorem sc_z53:FnScope ["_law_tape_here","_law_many","_law_script","_law_digit","_law_cell","_law_seed"] ["_law_tape_here","_law_many"] (AJ Lg):=by walk_at "f"
theorem V4:FnScope ["_law_k"] ["_law_k"] (AJ JI):=by walk_at "f"
theorem ZZ:FnScope ["_law_n","_law_number"] ["_law_n","_law_number"] (AJ ML):=by walk_at "f"
theorem sc_z56:FnScope ["_law_n","_law_one","_law_place","_law_shared"] ["_law_n","_law_one","_law_place"] (AJ IV):=by walk_at "f"
theorem sc_z51:FnScope ["_law_tape_here","_law_n","_law_many","_law_way","_law_some","_law_first","_law_answers","_law_seen","_law_place","_law_key","_law_turn"] ["_law_tape_here","_law_n"] (AJ Im):=by walk_at "f"
theorem sc_z50:FnScope ["_law_tape_here","_law_n","_law_left","_law_order_here","_law_k"] ["_law_tape_here","_law_n"] (AJ J7):=by walk_at "f"
theorem sc_z40:FnScope ["_law_n","_law_some","_law_order_here","_law_bits_here"] ["_law_n","_law_some","_law_order_here"] (AJ KB):=by walk_at "f"
theorem sc_z58:FnScope ["_law_n","_law_table_here","_law_order_here","_law_turned_ones","_law_other_answer","_law_answers","_law_place","_law_spot","_law_bits_here"] ["_law_n","_law_table_here","_law_order_here","_law_turned_ones","_law_other_answer"] (AJ Ks):=by walk_at "f"
theorem sc_z30:FnScope ["_law_n","_law_whole","_law_more","_law_order_here","_law_ahead"] ["_law_n","_law_whole","_law_more","_law_order_here"] (AJ LL):=by walk_at "f"
theorem sc_z36:FnScope ["_law_whole","_law_share","_law_found"] ["_law_whole","_law_share"] (AJ J4):=by walk_at "f"
theorem sc_z28:FnScope ["_law_n","_law_whole","_law_more","_law_order_here","_law_turning","_law_k","_law_table_here","_law_covers","_law_paper","_law_called_here"] ["_law_n","_law_whole","_law_more","_law_order_here","_law_turning","_law_k"] (AJ Il):=by walk_at "f"
theorem sc_law:FnScope ["_law_script","_law_tape_here","_law_turn","_law_n","_law_table_here","_law_order_here","_law_turning","_law_anew_here","_law_whole","_law_more","_law_bottom","_law_share","_law_k","_law_some"] ["_law_script"] (AJ DG):=by walk_at "f"
noncomputable def CD:Str:=PySem.Str.ofString "nearest" ++ PySem.Str.ofString ".<locals>." ++ PySem.Str.ofString "<lambda>"
noncomputable def CL:Pos:=⟨106,76,106,98⟩
noncomputable def Cg:Str:=PySem.Str.ofString "Reckoner.first_question" ++ PySem.Str.ofString ".<locals>." ++ PySem.Str.ofString "<lambda>"
noncomputable def F9:Pos:=⟨158,45,158,97⟩
set_option genInjectivity false
set_option genSizeOf false
structure Fun1(K:W.Frag)(mg:Str->Option Value)(n:Str)(st:Stmt)(ps:List Str) where
 f:Addr
 d:FuncData
 F:Fun K n n st f d
 b:Binds K d ps []
 m:mg n=some (.ref f)
structure Meth1(K:W.Frag)(C:Addr)(n q:Str)(st:Stmt)(ps:List Str) where
 f:Addr
 d:FuncData
 F:Fun K n q st f d
 b:Binds K d ps []
 m:Meth K C n f
structure Txt(K:W.Frag)(mg:Str->Option Value) where
 zA:Addr
 Z0a:mg "Reckoner" = some (.ref zA)
 zB:Cls K zA
 zD:NoAttr K zA "labels"
 zI:NoAttr K zA "yeses"
 zO:NoAttr K zA "alike"
 zH:NoAttr K zA "known"
 z68:Fun1 K mg "is_whole" KQ ["thing"]
 z66:Fun1 K mg "is_below" Lz ["bound","thing"]
 z81:Fun1 K mg "two_to" Ik ["n"]
 z65:Fun1 K mg "power_of" J6 ["base","times"]
 z61:Fun1 K mg "is_place" LZ ["n","thing"]
 z59:Fun1 K mg "is_table" JK ["thing"]
 z41:Fun1 K mg "switches_of" MN ["table"]
 z86:Fun1 K mg "is_on" JD ["place","switch"]
 z88:Fun1 K mg "sign" Iw ["subset","place"]
 z82:Fun1 K mg "within" MR ["subset","other"]
 z74:Fun1 K mg "many_in" JE ["subset"]
 z43:Fun1 K mg "set_holding" IQ ["members"]
 z46:Fun1 K mg "members_of" Jl ["subset"]
 z76:Fun1 K mg "sets_of" MF ["n","k"]
 z69:Fun1 K mg "share_of" Lq ["top","bottom"]
 z34:Fun1 K mg "common_divisor" IR ["one","other"]
 z77:Fun1 K mg "is_pair" J8 ["thing"]
 z83:Fun1 K mg "sum_of" IN ["table"]
 z87:Fun1 K mg "told" Ip ["one"]
 z44:Fun1 K mg "weights_of" Kt ["one"]
 z31:Fun1 K mg "weights_within" L7 ["one","outer"]
 z67:Fun1 K mg "sum_from" KD ["n","weights"]
 z37:Fun1 K mg "times_signs" Jb ["numbers"]
 z78:Fun1 K mg "crossed" Ji ["numbers","step","place"]
 z71:Fun1 K mg "best_on" Kq ["one","subset"]
 z42:Fun1 K mg "differences" JW ["table","other"]
 z75:Fun1 K mg "nearest" EW ["one","k"]
 z47:Fun1 K mg "near_paper" KO ["one","k"]
 z29:Meth1 K zA "__init__" "Reckoner.__init__" Js ["self","game"]
 zQ:Mk K zA z29.f
 z21:Meth1 K zA "everything" "Reckoner.everything" Ki ["self"]
 z16:Meth1 K zA "has_one_label" "Reckoner.has_one_label" IW ["self","things"]
 z22:Meth1 K zA "label_of" "Reckoner.label_of" MK ["self","things"]
 z23:Meth1 K zA "left_of" "Reckoner.left_of" Ib ["self","things","question","answer"]
 z18:Meth1 K zA "fewest_among" "Reckoner.fewest_among" MB ["self","things"]
 z14:Meth1 K zA "fewest_reckoned" "Reckoner.fewest_reckoned" Je ["self","things"]
 z24:Meth1 K zA "parting" "Reckoner.parting" Iq ["self","things"]
 z17:Meth1 K zA "worst_behind" "Reckoner.worst_behind" K8 ["self","things","question"]
 z20:Meth1 K zA "harder_left" "Reckoner.harder_left" Mi ["self","things","question"]
 z19:Meth1 K zA "harder_lefts" "Reckoner.harder_lefts" MO ["self","things"]
 z15:Meth1 K zA "first_question" "Reckoner.first_question" C2 ["self","things"]
 z35:Fun1 K mg "members_where" KS ["wanted","values"]
 z73:Fun1 K mg "game_of" JJ ["table"]
 z26:Fun1 K mg "refuse_without_end" Li ["game"]
 z33:Fun1 K mg "first_unparted" L9 ["game"]
 z79:Fun1 K mg "fewest" Ml ["game"]
 z54:Fun1 K mg "best_tree" Mq ["reckoner","things"]
 z49:Fun1 K mg "hard_paper" JA ["reckoner","things"]
 z70:Fun1 K mg "matters" JZ ["one","subset"]
 z38:Fun1 K mg "odd_squares" MM ["one","subset"]
 z39:Fun1 K mg "is_odd_with" KH ["one","other"]
 z62:Fun1 K mg "hangs_on" Mh ["one"]
 z45:Fun1 K mg "altogether" Mu ["one"]
 z80:Fun1 K mg "levels" Ku ["one"]
 z27:Fun1 K mg "squares_by_level" Jv ["one"]
 z63:Fun1 K mg "over_all" KZ ["one","squares"]
 yk:Addr
 yh:FuncData
 yp:Fun K "met" "met" Io yk yh
 Z0h:Binds K yh ["terms","weights","apart"] []
 Z0g:mg "met" = some (.ref yk)
 z55:Fun1 K mg "lets_near" LR ["one","k","thing"]
 z32:Fun1 K mg "has_paper_form" J3 ["n","thing"]
 z72:Fun1 K mg "lead_of" K2 ["one","total"]
 z48:Fun1 K mg "covers_all" Jk ["n","k","covers"]
 z84:Fun1 K mg "is_so" MV ["one","lead","cover"]
 z25:Fun1 K mg "setting_by_setting" MH ["weights","switches"]
 z85:Fun1 K mg "stays" K4 ["one","share"]
 z64:Fun1 K mg "stays_by" J1 ["n","squares","share"]
 z57:Fun1 K mg "_law_tape" Kp ["_law_script"]
 z53:Fun1 K mg "_law_next" Lg ["_law_tape_here","_law_many"]
 z60:Fun1 K mg "_law_two" JI ["_law_k"]
 z52:Fun1 K mg "_law_bits" ML ["_law_n","_law_number"]
 z56:Fun1 K mg "_law_sign" IV ["_law_n","_law_one","_law_place"]
 z51:Fun1 K mg "_law_table" Im ["_law_tape_here","_law_n"]
 z50:Fun1 K mg "_law_order" J7 ["_law_tape_here","_law_n"]
 z40:Fun1 K mg "_law_called" KB ["_law_n","_law_some","_law_order_here"]
 z58:Fun1 K mg "_law_anew" Ks ["_law_n","_law_table_here","_law_order_here","_law_turned_ones","_law_other_answer"]
 z30:Fun1 K mg "_law_sums_right" LL ["_law_n","_law_whole","_law_more","_law_order_here"]
 z36:Fun1 K mg "_law_measures" J4 ["_law_whole","_law_share"]
 z28:Fun1 K mg "_law_paper_right" Il ["_law_n","_law_whole","_law_more","_law_order_here","_law_turning","_law_k"]
 yn:Addr
 yo:FuncData
 Z0f:Fun K "law" "law" DG yn yo
 Z0i:Binds K yo ["_law_script"] []
 Z0j:mg "law" = some (.ref yn)
 ym:Addr
 zU:Addr
 Z0d:z75.d.code=.ref ym
 Z0b:W.codeHdIn K ym zU=true
 yc:Addr
 zT:Addr
 Z0c:z15.d.code=.ref yc
 Z0e:W.codeHdIn K yc zT=true
 np_0:zU≠zT
 zW:mg "abs" = none
 zZ:mg "all" = none
 ye:mg "any" = none
 zY:mg "bool" = none
 zE:mg "enumerate" = none
 yd:mg "int" = none
 zF:mg "isinstance" = none
 zP:mg "len" = none
 zX:mg "list" = none
 yg:mg "max" = none
 ya:mg "min" = none
 zC:mg "range" = none
 zR:mg "reversed" = none
 yf:mg "set" = none
 zS:mg "sorted" = none
 zV:mg "sum" = none
 zG:mg "tuple" = none
 yb:mg "zip" = none
 zN:Addr
 zK:mg "TABLE_LENGTHS" = some (.ref zN)
 zJ:∀H:Hp,zj K H zN [.int 2,.int 4,.int 8,.int 16,.int 32,.int 64]
 zM:Tok
 zL:mg "MOST_COVERS" = some (.int 64 zM)
set_option genInjectivity true
set_option genSizeOf true
abbrev Ok_(P:Program)(w:World)(base:Heap){K:W.Frag}{mg:Str->Option Value}{n:Str}{st:Stmt}{ps:List Str}(z:Fun1 K mg n st ps)(k:Nat)(sp:Sp):Prop:=FnOk P w K mg base CX0 k z.f z.d ps sp
abbrev Om_(P:Program)(w:World)(mg:Str->Option Value)(base:Heap){K:W.Frag}{C:Addr}{n q:Str}{st:Stmt}{ps:List Str}(z:Meth1 K C n q st ps)(k:Nat)(sp:Sp):Prop:=FnOk P w K mg base CX0 k z.f z.d ps sp
section
variable {P:Program}{w:World}{K:W.Frag}{mg:Str->Option Value}{base:Heap}(T:Txt K mg)
local macro_rules | `(tactic| walk_at "sm")=>`(tactic| repeat' with_reducible first | exact bN | exact WZ | apply WE | apply Xg | apply SH | apply a9 | apply UB | apply Vq | apply Uj | exact ZJ | exact U5 | apply W7 | apply Sh | apply ZH | apply XR | apply U6 | apply YF | apply YS | apply VT | exact Ub | exact bn | exact aX | exact Wl | exact SA | exact W6 | exact ah | exact Yc | exact ai | exact YO | exact TV | exact Wz | apply T7 | apply TM | apply X2 | apply Sg | exact TU | apply Z4 | exact ZW | exact W0 | exact Zc | exact Zp | exact Us | exact WH | apply We | apply Tl | apply Zi | apply Xy | exact AY | apply BQ | exact Aj | exact ZR | exact bq | apply Xd | apply R9 | exact SJ | apply X6 | apply VH | exact WO | exact VQ | exact V9 | apply VA | apply Zn | exact Y2 | assumption)
set_option hygiene false in
local macro_rules | `(tactic| walk_at "q")=>`(tactic| (split at q;(revert q;repeat' first | exact h _ _ | exact Az h | exact Ay h | exact A5 h | walk_at "m");(exact q.elim)))
set_option hygiene false in
local macro_rules | `(tactic| walk_at "e")=>`(tactic| (split at h <;> first | rfl | exact h.elim))
set_option hygiene false in
local macro_rules | `(tactic| walk_at "f")=>`(tactic| (intro zy A outer s H vs Q E hr h;have hu:=AS hr))
set_option hygiene false in
local macro_rules | `(tactic| walk_at "g")=>`(tactic| (split at h;rotate_left;(exact h.elim)))
local macro_rules | `(tactic| left)=>`(tactic| exact⟨by rfl,by first | exact Or.inl rfl | exact Or.inr (Or.inl rfl) | exact Or.inr (Or.inr rfl),by decide,by decide⟩)
local macro_rules | `(tactic| walk_at "m")=>`(tactic| with_reducible first | refine Exists.imp λ_=>?_ | refine And.imp_right ?_ | refine forall_imp λ_=>?_)
local macro_rules | `(tactic| walk_at "o")=>`(tactic| first | exact Or.inl rfl | exact Or.inr (Or.inl rfl) | exact Or.inr (Or.inr rfl))
local macro_rules | `(tactic| symm)=>`(tactic| first | exact .inl rfl | exact .inr rfl | assumption)
local macro_rules | `(tactic| right)=>`(tactic| first | exact Or.inl rfl | exact Or.inr rfl)
local macro_rules | `(tactic| walk_at "n")=>`(tactic| first | exact Kn _ (by decide) (by decide) | rfl)
def FC:Sp:=λvs H Q _=>match vs with
 | [.int b,.int t]=>∃m:Nat,t=m/\m<=64/\((-(2^64)<b/\b<2^64)\/(Nb b 100/\m<=12))/\Q (.int (b^m)) H
 | _=>False
theorem UF:AT FC:=λvs H Q f E h q=>by
 unfold FC at *;walk_at "q"
theorem RF:Ok_ P w base T.z65 1 FC:=by
 refine T.z65.F.ok sc_z65 (λvs H Q E h=>by unfold FC at h;walk_at "e") ?_;walk_at "f";unfold FC at h;walk_at "g"
 rename_i b t;obtain⟨m,j,h1,f,q⟩:=h;subst j;refine⟨_,(@AH _ _ _ _ _ (@AO _ _ 2 _ _ _ _ sc_z65.nd rfl (by right) AE (by rfl) (by symm)) (@AH _ _ _ _ _ (@CU _ _ _ _ _ _ _ _ PassesOwn.never rfl (BG rfl T.zC (AA (vv 1) AB)) (AM (i:=3) sc_z65.nd rfl (by right)) (@AI _ _ _ (@AO _ _ 2 _ _ _ _ sc_z65.nd rfl (by right) (AQ BB (vv 2) (vv 0)) (by rfl) (by symm))) (by intro _;rfl)) (@AI _ _ _ (@AK _ _ _ _ (vv 2))))),?_⟩;refine⟨m,rfl,by lia,by lia,?_⟩;refine DH (λi Z H'=>H'=H/\∃z:Option V,Z=[some (.int b),some (.int m),some (.int (b^i)),z]) ⟨rfl,none,by rw[Int.pow_zero];rfl⟩ ?_ ?_
 ·rintro i Z H' hi ⟨rfl,z,rfl⟩;have k:i<m:=by lia
  have g:okMul (b^i) b:=by
   rcases f with f | ⟨f,l⟩
   ·exact .inr (.inr f)
   ·exact Nb.okMul ((f.pow i).up (by lia)) (f.up (by lia))
  refine⟨g,rfl,some (.int (0+(i:Int))),?_⟩;rw[Int.pow_succ];rfl
 ·rintro Z H' ⟨rfl,z,rfl⟩
  have:(m:Int).toNat=m:=by lia
  rw[this];exact q
def DA:Sp:=λvs H Q _=>match vs with
 | [.int n]=>∃m:Nat,n=m/\m<=64/\Q (.int (2^m:Nat)) H
 | _=>False
theorem FT:AT DA:=λvs H Q f E h q=>by
 unfold DA at *;walk_at "q"
theorem Cm:Ok_ P w base T.z81 2 DA:=by
 refine T.z81.F.ok XX (λvs H Q E h=>by unfold DA at h;walk_at "e") ?_;walk_at "f";unfold DA at h;walk_at "g"
 rename_i n;obtain⟨m,f,h1,q⟩:=h;subst f;refine⟨_,(@AI _ _ _ (@AK _ _ _ _ (AG (@RF P w K mg base T) (hr.mono (show 1<=_ by decide)) rfl T.z65.m T.z65.F.kp T.z65.b .nil AD (AA AE (AA (vv 0) AB))))),?_⟩;refine⟨m,rfl,h1,.inl ⟨by decide,by decide⟩,?_⟩;have e:(2:Int)^m=((2^m:Nat):Int):=by rw[ZC1];rfl
 rw[e];exact q
theorem Uv:Ok_ P w base T.z57 1 (Mf K):=by
 refine T.z57.F.ok Yz (λvs H Q E h=>by unfold Mf at h;walk_at "e") (λzy A outer s H vs Q E hr h=>?_);unfold Mf at h;walk_at "g"
 rename_i a;have k:=h;refine⟨_,(@AI _ _ _ (@AK _ _ _ _ (@Cs _ _ _ _ (AA (vv 0) (AA AE (AA AE (AA AE AB))))))),?_⟩;exact⟨by show 4<=sizeLine;rw[sizeLine_eq];decide,k⟩
theorem LQ:Ok_ P w base T.z53 1 (Fv K):=by
 refine T.z53.F.ok sc_z53 (λvs H Q E h=>by unfold Fv at h;walk_at "e") ?_;walk_at "f";unfold Fv at h;walk_at "g"
 rename_i t m;obtain⟨a,ns,TP,hm,k⟩:=h;obtain⟨⟨i,r,c,hi,g,f⟩,u⟩:=id TP;refine⟨_,(@AH _ _ _ _ _ (@AO _ _ 2 _ _ _ _ sc_z53.nd rfl (by right) (zq (K:=K) (vv 0) AE) (by rfl) (by symm)) (@AH _ _ _ _ _ (@Cu _ _ _ _ _ _ (AQ (Bm (K:=K)) (zq (K:=K) (vv 0) AE) AE) (C7 (vv 0) AE DY) (by rfl) (by rfl) (by rfl)) (@AH _ _ _ _ _ (@Av _ _ _ _ _ _ _ _ (PW.pt (Hz (Ah (kEq (K:=K) hu) (zq (K:=K) (vv 0) AE) AE) (IE (Ah Cy (zq (K:=K) (vv 0) AE) (AZ (BO (K:=K)) rfl T.zP (by rfl) (AA (vv 2) AB)))))) (@AH _ _ _ _ _ (@Cu _ _ _ _ _ _ (AZ (aI rfl) rfl T.yg (by rfl) (AA AE (AA (AQ Db (zq (K:=K) (vv 2) (zq (K:=K) (vv 0) AE)) (AQ So AE AE)) AB))) (C7 (vv 0) AE DY) (by rfl) (by rfl) (by rfl)) (@AI _ _ _ (@Cu _ _ _ _ _ _ (AQ (Bm (K:=K)) (zq (K:=K) (vv 0) AE) AE) (C7 (vv 0) AE DY) (by rfl) (by rfl) (by rfl)))) Aw) (@AH _ _ _ _ _ (@Av _ _ _ _ _ _ _ _ (Ah Ci (zq (K:=K) (vv 0) AE) AE) (@AH _ _ _ _ _ (@AO _ _ 3 _ _ _ _ sc_z53.nd rfl (by right) (AQ CF (zq (K:=K) (vv 0) AE) (vv 1)) (by rfl) (by symm)) (@AH _ _ _ _ _ (@Cu _ _ _ _ _ _ (AQ Db (zq (K:=K) (vv 0) AE) (vv 1)) (C7 (vv 0) AE DY) (by rfl) (by rfl) (by rfl)) (@AI _ _ _ (@AK _ _ _ _ (vv 3))))) Aw) (@AH _ _ _ _ _ (@AO _ _ 4 _ _ _ _ sc_z53.nd rfl (by right) (DV (Ah Ci (AZ (BO (K:=K)) rfl T.zP (by rfl) (AA (vv 2) AB)) AE) (zq (K:=K) (vv 2) (AQ CF (zq (K:=K) (vv 0) AE) (AZ (BO (K:=K)) rfl T.zP (by rfl) (AA (vv 2) AB)))) AE) (by rfl) (by symm)) (@AH _ _ _ _ _ (@AO _ _ 5 _ _ _ _ sc_z53.nd rfl (by right) (AQ CF (AQ BB (AQ (Bm (K:=K)) (AQ (Bm (K:=K)) (AQ CF (vv 4) AE) (AQ BB AE (zq (K:=K) (vv 0) AE))) AE) AE) AE) (by rfl) (by symm)) (@AI _ _ _ (@AK _ _ _ _ (AQ CF (AQ CF (AQ BB (AQ CF (AQ (Bm (K:=K)) (AQ BB (vv 5) AE) (zq (K:=K) (vv 0) AE)) AE) AE) AE) (vv 1)))))))))),?_⟩
 refine⟨_,_,.inl (.of f),rfl,_,_,.inl (.of f),rfl,_,_,f,rfl,?_⟩;have v:∀{H1:Hp},(∀b,b≠t->H1 b=H b)->ScrAt K H1 t a ns:=λh=>u.stay λo n e=>by rw[h a n];exact e
 have j:∀{H1:Hp},(∀b,b≠t->H1 b=H b)->zr K H1 a (ns.map V.int):=λh=>(v h).sq
 have f1:∀{o:HO} {H1:Hp},(∀b,b≠t->H1 b=H b)->∀b,b≠t->upd H1 t o b=H b:=λh b n=>by rw[AR n];exact h b n
 dsimp only;refine As (λl H1=>l=[some (.ref t),some (.int m),some (.ref a),none,none,none]/\(∀b,b≠t->H1 b=H b)/\∃i r c:Int,0<=i/\0<=r/\H1 t=some (.lst [.ref a,.int i,.int r,.int c])) ?_ ?_ (by walk_at "sm")
 ·
  have h1:∀{o:HO} (b:Addr),b≠t->upd H t o b=H b:=λb n=>AR n
  refine⟨_,_,.inl (.of AF),rfl,?_⟩;refine Aa (λe=>?_) (λe=>?_)
  ·refine⟨_,_,.inl (.of AF),rfl,ns.length,.inl ⟨_,j h1,by rw[ZBB]⟩,?_⟩;refine Aa (λe=>?_) (λe=>?_)
   ·have zn:i<ns.length:=ZBY e;obtain⟨z,hz⟩:=PD hi zn;refine⟨_,_,.inl (.of AF),rfl,_,_,.inl (j h1),hz,⟨by decide,by decide,by decide⟩,⟨by decide,by decide⟩,?_⟩;refine⟨_,_,AF,rfl,_,_,.inl (.of AF),rfl,_,_,AF,rfl,rfl,?_,i+1,max 0 (z / 10^18),c+1,by lia,by lia,AF⟩;exact f1 (f1 h1)
   ·exact⟨rfl,h1,i,r,c+1,hi,g,AF⟩
  ·exact⟨rfl,h1,i,r,c+1,hi,g,AF⟩
 rintro l H1 ⟨rfl,h1,i,r,c,hi,g,f⟩;have x:∀{H2:Hp} {i r c:Int},(∀b,b≠t->H2 b=H b)->0<=i->0<=r->H2 t=some (.lst [.ref a,.int i,.int r,.int c])->Tape K H2 t a ns:=λh h1 h2 y=>⟨⟨_,_,_,h1,h2,y⟩,v h⟩
 refine⟨_,_,.inl (.of f),rfl,?_⟩;have p:0<m:=hm.1;refine Aa (λe=>?_) (λe=>?_)
 ·refine⟨_,_,.inl (.of f),rfl,p,_,_,.inl (.of f),rfl,hm,_,_,f,rfl,?_⟩;exact k _ _ (Int.emod_nonneg _ (by lia)) (ZDX _ p) (x (f1 h1) hi (Int.ediv_nonneg g (by lia)) AF) (f1 h1)
 dsimp only[EH];refine As (λl H2=>H2=H1/\∃z:Int,l=[some (.ref t),some (.int m),some (.ref a),none,some (.int z),none]) ?_ ?_ (by walk_at "sm")
 ·refine⟨ns.length,.inl ⟨_,j h1,by rw[ZBB]⟩,?_⟩;refine Aa (λe=>?_) (λe=>?_)
  ·have zn:(0:Int)<ns.length:=ZBY e;obtain⟨z,hz⟩:=PD (ns:=ns) (Int.emod_nonneg c (show(ns.length:Int)≠0 by lia)) (ZDX c zn);exact⟨_,_,.inl (.of f),rfl,ns.length,.inl ⟨_,j h1,by rw[ZBB]⟩,zn,_,_,.inl (j h1),hz,rfl,z,rfl⟩
  ·exact⟨rfl,0,rfl⟩
 rintro l H2 ⟨rfl,z,rfl⟩;refine⟨by decide,_,_,.inl (.of f),rfl,.inr (.inl ⟨by decide,by decide⟩),.inr (.inr ⟨by decide,by decide⟩),by decide,?_⟩;refine⟨.inr (.inr ⟨by decide,by decide⟩),_,_,.inl (.of f),rfl,by decide,.inr (.inr ⟨by decide,by decide⟩),by decide,p,?_⟩;exact k _ _ (Int.emod_nonneg _ (by lia)) (ZDX _ p) (x h1 hi g f) h1
noncomputable def Ar(n x:Nat):List Bool:=(List.range n).map λk=>x / 2^k%2==1
noncomputable def Bc(n x y:Nat):List Bool:=(List.zip (Ar n x) (Ar n y)).map λp=>p.1&&p.2
noncomputable def sgL(n x y:Nat):Int:=if (Bc n x y).countP id%2=1 then -1 else 1
def out(H:Hp)(Q:VK)(v:V):Prop:=∀H',EE H H'->Q v H'
def JS(H:Hp)(Q:VK)(xs:List V):Prop:=∀p H',H p=none->EE H H'->H' p=some (.lst xs)->Q (.ref p) H'
def MP(H:Hp)(Q:VK)(xs:List V):Prop:=∀p H',H p=none->EE H H'->H' p=some (.tup xs)->Q (.ref p) H'
theorem Ay{Q z:VK}(h:∀v H,Q v H->z v H)(q:out H Q v):out H z v:=λH' s=>h _ _ (q H' s)
theorem b8{Q z:VK}(h:∀v H,Q v H->z v H)(q:JS H Q xs):JS H z xs:=λp H' a b c=>h _ _ (q p H' a b c)
theorem A5{Q z:VK}(h:∀v H,Q v H->z v H)(q:MP H Q xs):MP H z xs:=λp H' a b c=>h _ _ (q p H' a b c)
def Ly:Sp:=λvs H Q _=>match vs with
 | [.int k]=>0<=k/\k<=6/\out H Q (.int (2^k.toNat))
 | _=>False
theorem FN:Ok_ P w base T.z60 1 Ly:=by
 refine T.z60.F.ok V4 (λvs H Q E h=>by unfold Ly at h;walk_at "e") (λzy A outer s H vs Q E hr h=>?_);unfold Ly at h;walk_at "g"
 rename_i k;obtain⟨h1,h2,q⟩:=h;refine⟨_,(@AI _ _ _ (@AK _ _ _ _ (zq (K:=K) (@Cs _ _ _ _ (AA AE (AA AE (AA AE (AA AE (AA AE (AA AE (AA AE AB)))))))) (vv 0)))),?_⟩;refine⟨smq rfl,λp f=>?_⟩
 have e:atI [V.int 1,.int 2,.int 4,.int 8,.int 16,.int 32,.int 64] k=some (.int (2^k.toNat)):=by
  have:k=0\/k=1\/k=2\/k=3\/k=4\/k=5\/k=6:=by lia
  rcases this with e | e | e | e | e | e | e <;> subst e <;> rfl
 exact⟨_,_,.inl (.of AF),e,q _ (EE.upd f)⟩
def EQ:Sp:=λvs H Q _=>match vs with
 | [.int n,.int x]=>∃m y:Nat,n=m/\x=y/\m<=6/\JS H Q ((Ar m y).map V.bl)
 | _=>False
theorem Tx:AT EQ:=λvs H Q f E h q=>by
 unfold EQ at *;walk_at "q"
theorem Pc{y:Nat}(h:i<m):(Ar m y).take (i+1)=(Ar m y).take i++[y / 2^i%2==1]:=by
 rw[ZBl]
 congr 1
 unfold Ar;rw[ZBJ,ZBx h];rfl
theorem BP{y:Nat}:(Ar m y).length=m:=by unfold Ar;simp
theorem GS:Ok_ P w base T.z52 2 EQ:=by
 refine T.z52.F.ok ZZ (λvs H Q E h=>by unfold EQ at h;walk_at "e") ?_;walk_at "f";unfold EQ at h;walk_at "g"
 rename_i n x;obtain⟨m,y,l,e2,h1,q⟩:=h;subst l e2;refine⟨_,(@AI _ _ _ (@AK _ _ _ _ (@Af _ _ _ _ _ _ _ (["_law_k","_law_number"]) 1 [1] _ _ _ _ rfl (BG rfl T.zC (AA (vv 0) AB)) (by kernel_rfl) rfl rfl (by kernel_rfl) (λc=>AM (i:=0) (show(["_law_k","_law_number"]:List Str).Nodup by decide +kernel) rfl (by right)) (AV (by decide)) (λc=>Ag) (λc=>(BK (kEq (K:=K) hu) (AQ CF (AQ Db (vv 1) (AG (@FN P w K mg base T) (hr.mono (show 1<=_ by decide)) rfl T.z60.m T.z60.F.kp T.z60.b .nil AD (AA (vv 0) AB))) AE) AE)) (by intro _;rfl)))),?_⟩;refine⟨m,rfl,by lia,by lia,?_⟩;refine CB (λi ys H'=>EE H H'/\ys=((Ar m y).take i).map V.bl) ⟨EE.refl _,rfl⟩ (λi ys H' hi ⟨_,e⟩=>by rw[e];exact AX (by rw[ZBB,ZBi];lia)) ?_ ?_
 ·rintro i ys H' hi ⟨s1,rfl⟩;have g:i<m:=by lia
  refine⟨by lia,by lia,λH2 s2=>?_⟩;have k:((0:Int)+(i:Int)).toNat=i:=by lia
  rw[k];have f:((2:Int)^i)=((2^i:Nat):Int):=by rw[ZC1];rfl
  have j:0<2^i:=ZBn i;have hle:(2:Nat)^i<=2^6:=ZBL (by decide) (by lia);refine⟨BZ (by rw[f];lia) (by rw[f];exact ZC4 (ZCb.mpr hle) (by decide)),by decide,?_⟩;refine⟨s1.trans s2,?_⟩;rw[Pc g,ZBH]
  congr 2
  rw[f];show V.bl (false ^^ (((y:Int) / ((2^i:Nat):Int)%2)==1))=V.bl (y / 2^i%2==1);rw[ZB5,<- Int.natCast_ediv]
  congr 1
  rw[ZBv];simp only[beq_iff_eq];lia
 ·rintro ys H' ⟨s1,rfl⟩ p j
  have:(Ar m y).take (m:Int).toNat=Ar m y:=by
   rw[ZB0];rw[BP];lia
  rw[this];exact q p _ (s1.free j) (s1.trans (EE.upd j)) AF
def EZ(K:W.Frag):Sp:=λvs H Q _=>match vs with
 | [.int n,.int x,.int y]=>∃m a b:Nat,n=m/\x=a/\y=b/\m<=6/\out H Q (.int (sgL m a b))
 | _=>False
theorem SG:AT (EZ K):=λvs H Q f E h q=>by
 unfold EZ at *;walk_at "q"
theorem Zx(bs:List Bool):(bs.map V.bl).countP (λv=>eqV v (.bl true))=bs.countP id:=by
 rw[List.countP_map]
 congr 1
 funext b
 cases b <;> rfl
theorem VY(bs:List Bool):(bs.map V.bl).all CC=true:=by
 rw[List.all_map,ZCT];intro b _;rfl
theorem shared_take{a b:Nat}(h:i<m):(Bc m a b).take (i+1)=(Bc m a b).take i++[(a / 2^i%2==1)&&(b / 2^i%2==1)]:=by
 rw[ZBl]
 congr 1
 unfold Bc Ar;simp[ZBJ,List.getElem?_zip_eq_some,h]
theorem Sr:Ok_ P w base T.z56 3 (EZ K):=by
 have g:=@GS P w K mg base T;refine T.z56.F.ok sc_z56 (λvs H Q E h=>by unfold EZ at h;walk_at "e") ?_;walk_at "f";have f:=hr.mono (show 2<=_ by decide);unfold EZ at h;walk_at "g"
 rename_i n x y;obtain⟨m,a,b,B,e2,C,h1,q⟩:=h;subst B e2 C;refine⟨_,(@AH _ _ _ _ _ (@C6 _ _ _ _ _ _ _ (["_law_a","_law_b"]) 2 [] _ _ _ _ 3 _ _ _ rfl sc_z56.nd rfl rfl (Kg (K:=K) rfl T.yb (AA (AG g f rfl T.z52.m T.z52.F.kp T.z52.b .nil AD (AA (vv 0) (AA (vv 1) AB))) (AA (AG g f rfl T.z52.m T.z52.F.kp T.z52.b .nil AD (AA (vv 0) (AA (vv 2) AB))) AB))) (by kernel_rfl) rfl rfl (by kernel_rfl) (λc=>Bh (K:=K) (n:=2) rfl (Ad (AM (i:=0) (show(["_law_a","_law_b"]:List Str).Nodup by decide +kernel) rfl (by right)) (Ad (AM (i:=1) (show(["_law_a","_law_b"]:List Str).Nodup by decide +kernel) rfl (by right)) BJ))) (Ba (Al AY (BQ AY Aj) (AV (by decide)) (Al AY Aj (AV (by decide)) Bf))) (λc=>Ag) (λc=>(D8 (vv 0) (D5 (vv 1)))) (by rfl) (by intro _;rfl)) (@AI _ _ _ (@AK _ _ _ _ (zq (K:=K) (@Cs _ _ _ _ (AA AE (AA (FL Fk AE) AB))) (AQ CF (aP (K:=K) (vv 3) (AA BE AB)) AE))))),?_⟩;refine⟨m,a,rfl,rfl,h1,λN H1 L s1 g1=>⟨m,b,rfl,rfl,h1,λp2 H2 M s2 g2=>?_⟩⟩;have k:=s2 _ _ g1;refine⟨⟨_,.of k⟩,⟨_,.of g2⟩,?_⟩
 refine LH (xs:=(Ar m a).map V.bl) (ys:=(Ar m b).map V.bl) (λi zs H'=>EE H2 H'/\zs=((Bc m a b).take i).map V.bl) ⟨EE.refl _,rfl⟩ (by rw[ZBB,ZBB,BP,BP])
  (λi zs H' _ ⟨s,_⟩=>⟨.of (s _ _ k),.of (s _ _ g2)⟩) (λi zs H' hi ⟨_,e⟩=>by
   rw[ZBB,BP]at hi;rw[e];exact AX (by rw[ZBB,ZBi];lia)) ?_ ?_
 ·rintro i u v zs H' p t z ⟨s,rfl⟩ I
  have hi:i<m:=by
   have:=(ZBW.mp t).1
   rw[ZBB,BP]at this;exact this
  have ex:u=.bl (a / 2^i%2==1):=by
   rw[ZBJ,show Ar m a=(List.range m).map _ from rfl,ZBJ,ZBx hi]at t;exact(ZBQ t).symm
  have D:v=.bl (b / 2^i%2==1):=by
   rw[ZBJ,show Ar m b=(List.range m).map _ from rfl,ZBJ,ZBx hi]at z;exact(ZBQ z).symm
  subst ex D;refine⟨p,_,rfl,.of AF,rfl,_,_,rfl,_,_,rfl,rfl,?_⟩;have s':EE H2 (upd H' p (.tup [.bl (a / 2^i%2==1),.bl (b / 2^i%2==1)])):=s.trans (EE.upd I);refine Aa (λe=>?_) (λe=>?_)
  ·refine⟨s',?_⟩;rw[shared_take hi,ZBH,e,ZCc];rfl
  ·refine⟨s',?_⟩;have e:(a / 2^i%2==1)=false:=by simpa using e
   rw[shared_take hi,ZBH,e,ZDD];rfl
 rintro zs H' ⟨s,rfl⟩ l G;have J:((Ar m a).map V.bl).length=m:=by rw[ZBB,BP]
 have sl:(Bc m a b).length=m:=by unfold Bc;simp[BP]
 rw[J,ZB0 (by lia)];refine⟨smq rfl,λr j=>?_⟩
 have o:upd (upd H' l (.lst ((Bc m a b).map V.bl))) r (.lst [.int 1,.int (-1)]) l=some (.lst ((Bc m a b).map V.bl)):=by
  have:l≠r:=λe=>by rw[e,AF]at j;cases j
  rw[AR this];exact AF
 refine⟨.inl ⟨rfl,_,.of o⟩,_,.of o,rfl,VY _,by decide,?_⟩;rw[Zx]
 have e:atI [V.int 1,V.int (-1)] ((((Bc m a b).countP id:Nat):Int)%2)=some (.int (sgL m a b)):=by
  unfold sgL
  have:(Bc m a b).countP id%2=0\/(Bc m a b).countP id%2=1:=by lia
  rcases this with e | e
  ·rw[if_neg (by lia)]
   have:(((Bc m a b).countP id:Nat):Int)%2=0:=by lia
   rw[this];rfl
  ·rw[if_pos e]
   have:(((Bc m a b).countP id:Nat):Int)%2=1:=by lia
   rw[this];rfl
 refine⟨_,_,.inl (.of AF),e,?_⟩;exact q _ ((s1.trans s2).trans ((s.trans (EE.upd G)).trans (EE.upd j)))
def Jn(K:W.Frag):Sp:=λvs H Q _=>match vs with
 | [.ref t,.int n]=>∃(a:Addr) (ns:List Int) (m:Nat),Tape K H t a ns/\n=m/\1<=m/\m<=6/\∀(bs:List Bool) p H',bs.length=2^m->H p=none->H' p=some (.tup (bs.map V.bl))->Tape K H' t a ns->zp t H H'->Q (.ref p) H'
 | _=>False
structure TabL(K:W.Frag)(H0:Hp)(t a:Addr)(ns:List Int)(M:Nat)(l:Addr)(H:Hp):Prop where
 tp:Tape K H t a ns
 fr:zp t H0 H
 new:H0 l=none
 at_:∃bs:List Bool,H l=some (.lst (bs.map V.bl))/\bs.length=M
def EK(K:W.Frag)(H0:Hp)(t a:Addr)(ns:List Int)(m M:Nat):St->Hp->Prop:=λZ H=>∃(l:Addr) (way:Int) (y:Nat) (f:Bool) (g i j k:Option V),
 Z=[some (.ref t),some (.int m),some (.int M),some (.int way),some (.int y),some (.bl f),some (.ref l),g,i,j,k]/\y<M/\TabL K H0 t a ns M l H
theorem GF(h:∀b,b≠t->H' b=H b):zp t H H':=λb o n e=>by rw[h b n];exact e
theorem TabL.same(L:TabL K H0 t a ns M l H)(s:EE H H'):TabL K H0 t a ns M l H' :=
 ⟨L.tp.same s,L.fr.trans s.frm,L.new,let ⟨bs,h,e⟩:=L.at_;⟨bs,s _ _ h,e⟩⟩
theorem TabL.ne(L:TabL K H0 t a ns M l H)(T0:Tape K H0 t a ns):l≠t:=T0.neT L.new
theorem TabL.draw(L:TabL K H0 t a ns M l H)(T0:Tape K H0 t a ns)(z:Tape K H' t a ns)(f:∀b,b≠t->H' b=H b):TabL K H0 t a ns M l H' :=
 ⟨z,L.fr.trans (GF f),L.new,let ⟨bs,h,e⟩:=L.at_;⟨bs,by rw[f l (L.ne T0)];exact h,e⟩⟩
theorem HE{o:HO}(f:zp t H0 H)(z:H0 p=none):zp t H0 (upd H p o):=λb u n e=>by
 rw[AR (By e z)];exact f b u n e
theorem TabL.other{o:HO}(L:TabL K H0 t a ns M l H)(T0:Tape K H0 t a ns)(z:H0 p=none)(G:p≠l):TabL K H0 t a ns M l (upd H p o):=by
 have g:=T0.neT z;have F:zp t H0 (upd H p o):=HE L.fr z;obtain⟨i,r,c,h1,h2,f⟩:=L.tp.at_;refine⟨⟨⟨i,r,c,h1,h2,by rw[AR (Ne.symm g)];exact f⟩,T0.scr.stay λo n e=>F a o n e⟩,F,L.new,?_⟩;obtain⟨bs,h,e⟩:=L.at_;exact⟨bs,by rw[AR (Ne.symm G)];exact h,e⟩
theorem TabL.put(L:TabL K H0 t a ns M l H)(T0:Tape K H0 t a ns)(z:bs.length=M):TabL K H0 t a ns M l (upd H l (.lst (bs.map V.bl))):=by
 have F:zp t H0 (upd H l (.lst (bs.map V.bl))):=HE L.fr L.new;obtain⟨i,r,c,h1,h2,f⟩:=L.tp.at_;exact⟨⟨⟨i,r,c,h1,h2,by rw[AR (Ne.symm (L.ne T0))];exact f⟩,T0.scr.stay λo n e=>F a o n e⟩,F,L.new,bs,AF,z⟩
theorem FQ(h:i<n):ixN n ((i:Nat):Int)=some i:=by
 unfold ixN;rw[if_pos (ZDA i),if_pos (by lia)];simp
theorem Oy(bs:List Bool)(i:Nat)(b:Bool):(bs.map V.bl).set i (.bl b)=(bs.set i b).map V.bl:=by
 rw[List.map_set]
theorem XJ{xs:BX}{ks:List Bool}(h:DC xs ks=true):∃c v,atKey (bxv xs) ks=some (c,Value.bool v):=by
 have e:=L0 xs ks;rw[h]at e;obtain⟨⟨c,u⟩,g⟩:=ZDK.mp e;have f:=g;unfold atKey at f;obtain⟨z,hz,i⟩:=ZDR.mp f;have hm:=List.mem_of_find?_eq_some hz;unfold bxv at hm;obtain⟨q,_,rfl⟩:=ZBN.mp hm;cases i;exact⟨_,_,g⟩
theorem QY{xs:BX}{o o':HO}(h:Cv H xs)(G:H p=some o)(z:∀ys,HO.tup ys≠o):Cv (upd H p o') xs:=λq f=>by
 rw[AR (B7 (h q f) G (z _))];exact h q f
theorem Uu{xs:BX}(h:Cv H xs)(s:EE H H'):Cv H' xs:=λq f=>s _ _ (h q f)
theorem Sx:Ok_ P w base T.z51 4 (Jn K):=by
 have g:=@LQ P w K mg base T;have O:=@GS P w K mg base T;refine T.z51.F.ok sc_z51 (λvs H Q E h=>by unfold Jn at h;walk_at "e") ?_;walk_at "f";have c3:AT (EZ K):=SG;have c4:AT EQ:=Tx;have f:=hr.mono (show 1<=_ by decide);have G:=hr.mono (show 2<=_ by decide);unfold Jn at h;walk_at "g"
 rename_i t n;obtain⟨a,ns,m,TP,e1,m1,m6,q⟩:=h;subst e1;refine⟨_,(@AH _ _ _ _ _ (@AO _ _ 2 _ _ _ _ sc_z51.nd rfl (by right) (AG (@FN P w K mg base T) (hr.mono (show 1<=_ by decide)) rfl T.z60.m T.z60.F.kp T.z60.b .nil AD (AA (vv 1) AB)) (by rfl) (by symm)) (@AH _ _ _ _ _ (@AO _ _ 3 _ _ _ _ sc_z51.nd rfl (by right) (AG g f rfl T.z53.m T.z53.F.kp T.z53.b .nil AD (AA (vv 0) (AA AE AB))) (by rfl) (by symm)) (@AH _ _ _ _ _ (@AO _ _ 4 _ _ _ _ sc_z51.nd rfl (by right) (AG g f rfl T.z53.m T.z53.F.kp T.z53.b .nil AD (AA (vv 0) (AA (vv 2) AB))) (by rfl) (by symm)) (@AH _ _ _ _ _ (@AO _ _ 5 _ _ _ _ sc_z51.nd rfl (by right) (BK (kEq (K:=K) hu) (AG g f rfl T.z53.m T.z53.F.kp T.z53.b .nil AD (AA (vv 0) (AA AE AB))) AE) (by rfl) (by symm)) (@AH _ _ _ _ _ (@C6 _ _ _ _ _ _ _ (["_law_place","_law_first"]) 1 [5] _ _ _ _ 6 _ _ _ rfl sc_z51.nd rfl rfl (BG rfl T.zC (AA (vv 2) AB)) (by kernel_rfl) rfl rfl (by kernel_rfl) (λc=>AM (i:=0) (show(["_law_place","_law_first"]:List Str).Nodup by decide +kernel) rfl (by right)) (AV (by decide)) (λc=>Ag) (λc=>(vv 1)) (by rfl) (by intro _;rfl)) (@AH _ _ _ _ _ (@Av _ _ _ _ _ _ _ _ (Ah Cy (vv 3) AE) (@AI _ _ _ (@C6 _ _ _ _ _ _ _ (["_law_place","_law_tape_here"]) 1 [0] _ _ _ _ 6 _ _ _ rfl sc_z51.nd rfl rfl (BG rfl T.zC (AA (vv 2) AB)) (by kernel_rfl) rfl rfl (by kernel_rfl) (λc=>AM (i:=0) (show(["_law_place","_law_tape_here"]:List Str).Nodup by decide +kernel) rfl (by right)) (AV (by decide)) (λc=>Ag) (λc=>(BK (kEq (K:=K) hu) (AG g f rfl T.z53.m T.z53.F.kp T.z53.b .nil AD (AA (vv 1) (AA AE AB))) AE)) (by rfl) (by intro _;rfl))) Aw) (@AH _ _ _ _ _ (@Av _ _ _ _ _ _ _ _ (Ah (kEq (K:=K) hu) (vv 3) AE) (@AI _ _ _ (@C6 _ _ _ _ _ _ _ (["_law_place","_law_first","_law_n","_law_some"]) 1 ([5,1,4]) _ _ _ _ 6 _ _ _ rfl sc_z51.nd rfl rfl (BG rfl T.zC (AA (vv 2) AB)) (by kernel_rfl) rfl rfl (by kernel_rfl) (λc=>AM (i:=0) (show(["_law_place","_law_first","_law_n","_law_some"]:List Str).Nodup by decide +kernel) rfl (by right)) (AV (by decide)) (λc=>Ag) (λc=>(BK (kEq (K:=K) hu) (vv 1) (BK (kEq (K:=K) hu) (AG (@Sr P w K mg base T) (hr.mono (show 3<=_ by decide)) rfl T.z56.m T.z56.F.kp T.z56.b .nil AD (AA (vv 2) (AA (vv 3) (AA (vv 0) AB)))) AE))) (by rfl) (by intro _;rfl))) Aw) (@AH _ _ _ _ _ (@Av _ _ _ _ _ _ _ _ (Ah (kEq (K:=K) hu) (vv 3) AE) (@AH _ _ _ _ _ (@AO _ _ 7 _ _ _ _ sc_z51.nd rfl (by right) (Zj (P:=P) (w:=w)) (by rfl) (by symm)) (@AI _ _ _ (@CU _ _ _ _ _ _ _ _ PassesOwn.never rfl (BG rfl T.zC (AA (vv 2) AB)) (AM (i:=8) sc_z51.nd rfl (by right)) (@AH _ _ _ _ _ (@AO _ _ 9 _ _ _ _ sc_z51.nd rfl (by right) (Bi (B9 (K:=K)) rfl T.zG (by rfl) (AA (Af (N':=["_law_a","_law_b"]) (own:=2) (ix:=[]) rfl (Kg (K:=K) rfl T.yb (AA (AG O G rfl T.z52.m T.z52.F.kp T.z52.b .nil AD (AA (vv 1) (AA (vv 8) AB))) (AA (AG O G rfl T.z52.m T.z52.F.kp T.z52.b .nil AD (AA (vv 1) (AA (vv 4) AB))) AB))) (by kernel_rfl) rfl rfl (by kernel_rfl) (λc=>Bh (K:=K) (n:=2) rfl (Ad (AM (i:=0) (show(["_law_a","_law_b"]:List Str).Nodup by decide +kernel) rfl (by right)) (Ad (AM (i:=1) (show(["_law_a","_law_b"]:List Str).Nodup by decide +kernel) rfl (by right)) BJ))) (Ba (Al AY (BQ AY Aj) (AV (by decide)) (Al AY Aj (AV (by decide)) Bf))) (λc=>Ag) (λc=>(D8 (vv 0) (D5 (vv 1))))) AB)) (by rfl) (by symm)) (@AH _ _ _ _ _ (@Av _ _ _ _ _ _ _ _ (Ah (Xr (P:=P) (w:=w) hu) (vv 9) (vv 7)) (@AI _ _ _ (@Cu _ _ _ _ _ _ (BK (kEq (K:=K) hu) (AG g f rfl T.z53.m T.z53.F.kp T.z53.b .nil AD (AA (vv 0) (AA AE AB))) AE) (C7 (vv 7) (vv 9) (ar (P:=P) (w:=w) hu)) (by rfl) (by rfl) (by rfl))) Aw) (@AI _ _ _ (@Cu _ _ _ _ _ _ (bS (P:=P) (w:=w) hu (vv 7) (vv 9)) (C7 (vv 6) (vv 8) DY) (by rfl) (by rfl) (by rfl))))) (by intro _;rfl)))) Aw) (@AH _ _ _ _ _ (@CU _ _ _ _ _ _ _ _ PassesOwn.never rfl (BG rfl T.zC (AA (AQ BB (AG g f rfl T.z53.m T.z53.F.kp T.z53.b .nil AD (AA (vv 0) (AA AE AB))) (Bi Vd rfl T.yd (by rfl) (AA (BK Ci (vv 3) AE) AB))) AB)) (AM (i:=10) sc_z51.nd rfl (by right)) (@AH _ _ _ _ _ (@AO _ _ 8 _ _ _ _ sc_z51.nd rfl (by right) (AG g f rfl T.z53.m T.z53.F.kp T.z53.b .nil AD (AA (vv 0) (AA (vv 2) AB))) (by rfl) (by symm)) (@AI _ _ _ (@Cu _ _ _ _ _ _ (NR (zq (K:=K) (vv 6) (vv 8))) (C7 (vv 6) (vv 8) DY) (by rfl) (by rfl) (by rfl)))) (by intro _;rfl)) (@AI _ _ _ (@AK _ _ _ _ (Bi (B9 (K:=K)) rfl T.zG (by rfl) (AA (vv 6) AB))))))))))))),?_⟩;have e2:(2:Int)^((m:Int).toNat)=((2^m:Nat):Int):=by rw[ZBj,ZC1];rfl
 have b0:2^m<=64:=ZBL (n:=2) (by decide) m6;have h2:2<=2^m:=ZBL (n:=2) (i:=1) (by decide) m1;refine⟨by lia,by lia,λH1 s1=>?_⟩;rw[e2];generalize hM:2^m=M at *;have T1:=TP.same s1;have b1:okDiv (M:Int):=BZ (by lia) (ZC4 (ZCb.mpr b0) (by decide));have c0:(M:Int)<2^62:=ZDO (ZCb.mpr b0) (by decide);refine⟨a,ns,T1,BZ (by decide) (by decide),λway H2 w0 w1 T2 f2=>⟨a,ns,T2,b1,λy' H3 y0 y1 T3 f3=>⟨a,ns,T3,BZ (by decide) (by decide),λd H4 _ _ T4 f4=>?_⟩⟩⟩;obtain⟨y,rfl⟩:=ZC2 y0;have x:y<M:=by lia
 have F4:zp t H H4:=s1.frm.trans ((GF f2).trans ((GF f3).trans (GF f4)));dsimp only[tC,mEq,AW,eqV];generalize (false ^^ (d==1))=o;refine As (EK K H t a ns m M) ?_ ?_ (by walk_at "sm")
 ·refine⟨(M:Int),rfl,by lia,by lia,?_⟩
  refine CB (λi ys H'=>H'=H4/\ys=(List.replicate i o).map V.bl) ⟨rfl,rfl⟩ (λi ys H' hi ⟨_,e⟩=>by
   rw[e];exact AX (by rw[ZBB,ZCi];lia)) ?_ ?_
  ·rintro i ys H' hi ⟨rfl,rfl⟩;refine⟨rfl,?_⟩;rw[List.replicate_succ',ZBH];rfl
  ·rintro ys H' ⟨rfl,rfl⟩ l X;exact⟨l,way,y,o,none,none,none,none,rfl,x,T4.upd X,F4.trans (zp.upd X),T4.free F4 X,_,AF,by rw[ZCi];lia⟩
 rintro Z Ha ⟨l,way,y,o,J,C,B,I,rfl,x,L⟩;refine As (EK K H t a ns m M) ?_ ?_ (by walk_at "sm")
 ·
  refine Aa (λe=>?_) (λe=>⟨l,way,y,o,J,C,B,I,rfl,x,L⟩);refine⟨(M:Int),rfl,by lia,by lia,?_⟩
  refine CB (λi ys H'=>Tape K H' t a ns/\zp t H H'/\∃bs:List Bool,ys=bs.map V.bl/\bs.length=i) ⟨L.tp,L.fr,[],rfl,rfl⟩ (λi ys H' hi ⟨_,_,bs,e,el⟩=>by
   rw[e];exact AX (by rw[ZBB];lia)) ?_ ?_
  ·rintro i ys H' hi ⟨Ti,Fi,bs,rfl,rfl⟩;refine⟨a,ns,Ti,BZ (by decide) (by decide),λd H2 _ _ T2 f2=>?_⟩;exact⟨T2,Fi.trans (GF f2),bs++[(false ^^ (d==1))],by rw[ZBH];rfl,by rw[ZBS];rfl⟩
  ·rintro ys H' ⟨Ti,Fi,bs,rfl,hb⟩ l' X;exact⟨l',way,y,o,J,C,B,I,rfl,x,Ti.upd X,Fi.trans (zp.upd X),Ti.free Fi X,bs,AF,by lia⟩
 clear L;rintro Z Ha ⟨l,way,y,o,J,C,B,I,rfl,x,L⟩;refine As (EK K H t a ns m M) ?_ ?_ (by walk_at "sm")
 ·
  refine Aa (λe=>?_) (λe=>⟨l,way,y,o,J,C,B,I,rfl,x,L⟩);refine⟨(M:Int),rfl,by lia,by lia,?_⟩
  refine CB (λi ys H'=>EE Ha H'/\∃bs:List Bool,ys=bs.map V.bl/\bs.length=i) ⟨EE.refl _,[],rfl,rfl⟩ (λi ys H' hi ⟨_,bs,e,el⟩=>by
   rw[e];exact AX (by rw[ZBB];lia)) ?_ ?_
  ·rintro i ys H' hi ⟨Si,bs,rfl,rfl⟩;refine⟨m,y,bs.length,rfl,rfl,by lia,m6,λH2 s2=>?_⟩;exact⟨Si.trans s2,bs++[(false ^^ (o==(false ^^ (sgL m y bs.length==1))))],by rw[ZBH];rfl,by rw[ZBS];rfl⟩
  ·rintro ys H' ⟨Si,bs,rfl,hb⟩ l' X;have Fi:=L.fr.trans (Si.frm (t:=t));exact⟨l',way,y,o,J,C,B,I,rfl,x,(L.tp.same Si).upd X,Fi.trans (zp.upd X),(L.tp.same Si).free Fi X,bs,AF,by lia⟩
 clear L;rintro Z Ha ⟨l,way,y,o,J,C,B,I,rfl,x,L⟩;refine As (EK K H t a ns m M) ?_ ?_ (by walk_at "sm")
 ·
  refine Aa (λe=>?_) (λe=>⟨l,way,y,o,J,C,B,I,rfl,x,L⟩);refineλp hp=>?_
  have a3:H p=none:=L.tp.free L.fr hp
  have pl:p≠l:=λe=>by
   obtain⟨bs,hb,_⟩:=L.at_;rw[e,hb]at hp;cases hp
  refine⟨(M:Int),rfl,by lia,by lia,?_⟩
  refine DH (λi Z H'=>∃(C B:Option V) (xs:BX),Z=[some (.ref t),some (.int m),some (.int M),some (.int way),some (.int y),some (.bl o),some (.ref l),some (.ref p),C,B,I]/\TabL K H t a ns M l H'/\H' p=some (dB P w p xs)/\Cv H' xs/\xs.length<=i)
   ⟨C,B,[],rfl,L.other TP a3 pl,AF,(λq Y=>by cases Y),ZBD _⟩ ?_ ?_
  ·rintro i Z Hb hi ⟨C,B,xs,rfl,Lb,hd,W,hx⟩;have c2:i<M:=by lia
   have e0:(0:Int)+(i:Int)=(i:Int):=ZCQ _;rw[e0];refine⟨m,i,rfl,rfl,m6,λp1 H1 n1 s1 g1=>⟨m,y,rfl,rfl,m6,λp2 H2 n2 s2 g2=>?_⟩⟩;have a4:=s2 _ _ g1;refine⟨⟨_,.of a4⟩,⟨_,.of g2⟩,?_⟩
   refine LH (xs:=(Ar m i).map V.bl) (ys:=(Ar m y).map V.bl) (λj zs H'=>EE H2 H'/\zs=((Bc m i y).take j).map V.bl) ⟨EE.refl _,rfl⟩ (by rw[ZBB,ZBB,BP,BP])
    (λj zs H' _ ⟨s,_⟩=>⟨.of (s _ _ a4),.of (s _ _ g2)⟩) (λj zs H' hj ⟨_,e⟩=>by
     rw[ZBB,BP]at hj;rw[e];exact AX (by rw[ZBB,ZBi];lia)) ?_ ?_
   ·rintro j u v zs H' pp hx x ⟨s,rfl⟩ b6
    have hj:j<m:=by
     have:=(ZBW.mp hx).1
     rw[ZBB,BP]at this;exact this
    have ex:u=.bl (i / 2^j%2==1):=by
     rw[ZBJ,show Ar m i=(List.range m).map _ from rfl,ZBJ,ZBx hj]at hx;exact(ZBQ hx).symm
    have ey:v=.bl (y / 2^j%2==1):=by
     rw[ZBJ,show Ar m y=(List.range m).map _ from rfl,ZBJ,ZBx hj]at x;exact(ZBQ x).symm
    subst ex ey;refine⟨pp,_,rfl,.of AF,rfl,_,_,rfl,_,_,rfl,rfl,?_⟩;have s':EE H2 (upd H' pp (.tup [.bl (i / 2^j%2==1),.bl (y / 2^j%2==1)])):=s.trans (EE.upd b6);refine Aa (λe=>?_) (λe=>?_)
    ·refine⟨s',?_⟩;rw[shared_take hj,ZBH,e,ZCc];rfl
    ·refine⟨s',?_⟩;have e:(i / 2^j%2==1)=false:=by simpa using e
     rw[shared_take hj,ZBH,e,ZDD];rfl
   rintro zs H3 ⟨s3,rfl⟩ l3 b5;have zk:((Ar m i).map V.bl).length=m:=by rw[ZBB,BP]
   have sl:(Bc m i y).length=m:=by unfold Bc;simp[BP]
   rw[zk,ZB0 (by lia)];generalize Bc m i y=ks;refine⟨_,.inl ⟨.of AF,λkk b4=>?_⟩⟩;have S:EE Hb (upd (upd H3 l3 (.lst (ks.map V.bl))) kk (.tup (ks.map V.bl))):=(s1.trans (s2.trans s3)).trans ((EE.upd b5).trans (EE.upd b4));have gk:upd (upd H3 l3 (.lst (ks.map V.bl))) kk (.tup (ks.map V.bl)) kk=some (.tup (ks.map V.bl)):=AF;have Lc:=Lb.same S;have hd:=S _ _ hd;have W:=Uu W S;clear Lb;generalize upd (upd H3 l3 (.lst (ks.map V.bl))) kk (.tup (ks.map V.bl))=Hc at *;dsimp only[AW];refine As (λZ H'=>∃xs:BX,Z=[some (.ref t),some (.int m),some (.int M),some (.int way),some (.int y),some (.bl o),some (.ref l),some (.ref p),some (.int i),some (.ref kk),I]/\TabL K H t a ns M l H'/\H' p=some (dB P w p xs)/\Cv H' xs/\xs.length<=i+1/\H' kk=some (.tup (ks.map V.bl))/\DC xs ks=true) ?_ ?_ (by walk_at "sm")
   ·refine⟨xs,ks,gk,hd,W,?_⟩;refine Aa (λe=>?_) (λe=>?_)
    ·have hn:DC xs ks=false:=by simpa using e
     refine⟨a,ns,Lc.tp,BZ (by decide) (by decide),λd H6 _ _ T6 f6=>?_⟩;have L6:=Lc.draw TP T6 f6;have pt:p≠t:=TP.neT a3;have a0:H6 p=some (dB P w p xs):=by rw[f6 p pt];exact hd
     have nt:∀{b:Addr} {ys:List V},Hc b=some (.tup ys)->b≠t:=λ{b ys} hb e=>by
      obtain⟨i,r,c,_,_,h3⟩:=Lc.tp.at_;rw[e,h3]at hb;cases hb
     have R:H6 kk=some (.tup (ks.map V.bl)):=by rw[f6 kk (nt gk)];exact gk
     have b2:Cv H6 xs:=λq Y=>by rw[f6 _ (nt (W q Y))];exact W q Y
     refine⟨xs,ks,R,a0,b2,hn,AX (by lia),?_⟩;refine⟨xs++[(ks,kk,(false ^^ (d==1)))],rfl,L6.other TP a3 pl,AF,?_,by rw[ZBS];exact Nat.succ_le_succ hx,?_,?_⟩
     ·intro q Y
      rcases ZCB.mp Y with Y | Y
      ·exact QY b2 a0 (λys z=>nomatch z) q Y
      ·have:=ZBX.mp Y
       subst this;rw[AR (B7 R a0 (λz=>nomatch z))];exact R
     ·rw[AR (B7 R a0 (λz=>nomatch z))];exact R
     ·unfold DC;rw[List.any_append];simp
    ·have hn:DC xs ks=true:=by simpa using e
     exact⟨xs,rfl,Lc,hd,W,ZDH hx,gk,hn⟩
   rintro Z He ⟨xs,rfl,Le,hd,W,hx,gk,hh⟩;obtain⟨c,v,hv⟩:=XJ hh;obtain⟨bs,D,U⟩:=Le.at_;refine⟨xs,ks,c,v,gk,hd,W,hv,_,i,D,FQ (by rw[ZBB];lia),?_⟩;rw[Oy];refine⟨some (.int i),some (.ref kk),xs,rfl,Le.put TP (by rw[List.length_set];exact U),?_,QY W D (λys z=>nomatch z),hx⟩;rw[AR pl];exact hd
  ·rintro Z He ⟨C,B,xs,rfl,Le,_⟩;exact⟨l,way,y,o,_,C,B,I,rfl,x,Le⟩
 clear L;rintro Z Ha ⟨l,way,y,o,J,C,B,I,rfl,x,L⟩;refine As (EK K H t a ns m M) ?_ ?_ (by walk_at "sm")
 ·
  refine⟨a,ns,L.tp,BZ (by decide) (by decide),λd Hb d0 d3 Tb b3=>?_⟩;have Lb:=L.draw TP Tb b3
  have hmul:∃N:Nat,d*(if decide (way>1)=true then 1 else 0)=(N:Int)/\N<=2:=by
   by_cases h:way>1
   ·rw[ZBK h,if_pos rfl,ZCs];exact⟨d.toNat,by lia,by lia⟩
   ·rw[ZBo h,if_neg (by decide),Int.mul_zero];exact⟨0,rfl,by lia⟩
  obtain⟨N,hN,c1⟩:=hmul;refine⟨.inr (.inl ⟨by lia,by lia⟩),(N:Int),congrArg (λz=>[V.int z]) hN,by lia,by lia,?_⟩;refine DH (λ_=>EK K H t a ns m M) ⟨l,way,y,o,J,C,B,I,rfl,x,Lb⟩ ?_ (λZ H' h=>h);rintro i Z Hc hi ⟨l,way,y,o,J,C,B,I,rfl,x,Lc⟩;refine⟨a,ns,Lc.tp,b1,λk' Hd k0 k1 Td fd=>?_⟩;obtain⟨k,rfl⟩:=ZC2 k0;have Ld:=Lc.draw TP Td fd;obtain⟨bs,D,U⟩:=Ld.at_;have W:k<bs.length:=by lia
  refine⟨_,.bl bs[k],.inl (.of D),Ak rfl (by rw[ZBJ,ZBE W];rfl),_,k,D,FQ (by rw[ZBB];lia),?_⟩;rw[Oy];exact⟨l,way,y,o,J,some (.int k),B,some (.int (0+(i:Int))),rfl,x,Ld.put TP (by rw[List.length_set];exact U)⟩
 clear L;rintro Z Ha ⟨l,way,y,o,J,C,B,I,rfl,x,L⟩;obtain⟨bs,D,U⟩:=L.at_;refine⟨_,.inl ⟨.of D,λp hp=>?_⟩⟩;exact q bs p _ U (L.tp.free L.fr hp) AF (L.tp.upd hp) (L.fr.trans (zp.upd hp))
def DE:Sp:=λvs H Q _=>match vs with
 | [.int x]=>∃a:Nat,x=a/\a<2^64/\Q (.int (Dd a)) H
 | _=>False
theorem Ho:AT DE:=λvs H Q f E h q=>by
 unfold DE at *;walk_at "q"
theorem TD:Ok_ P w base T.z34 1 Ej:=by
 refine T.z34.F.ok sc_z34 (λvs H Q E h=>by unfold Ej at h;walk_at "e") ?_;walk_at "f";unfold Ej at h;walk_at "g"
 rename_i a b;obtain⟨h1,h2,k⟩:=h;refine⟨_,(@AH _ _ _ _ _ (@AO _ _ 2 _ _ _ _ sc_z34.nd rfl (by right) (vv 0) (by rfl) (by symm)) (@AH _ _ _ _ _ (@AO _ _ 3 _ _ _ _ sc_z34.nd rfl (by right) (vv 1) (by rfl) (by symm)) (@AH _ _ _ _ _ (@HY _ _ _ _ _ _ PassesOwn.never (Ah Ci (vv 3) AE) (@AH _ _ _ _ _ (@AO _ _ 4 _ _ _ _ sc_z34.nd rfl (by right) (AQ CF (vv 2) (vv 3)) (by rfl) (by symm)) (@AH _ _ _ _ _ (@AO _ _ 2 _ _ _ _ sc_z34.nd rfl (by right) (vv 3) (by rfl) (by symm)) (@AI _ _ _ (@AO _ _ 3 _ _ _ _ sc_z34.nd rfl (by right) (vv 4) (by rfl) (by symm)))))) (@AI _ _ _ (@AK _ _ _ _ (vv 2)))))),?_⟩;refine⟨λm Z H'=>∃(x y:Int) (z:Option V),Z=[some (.int a),some (.int b),some (.int x),some (.int y),z]/\H'=H/\0<=x/\0<=y/\Int.gcd x y=Int.gcd a b/\m=y.toNat,⟨_,a,b,none,rfl,rfl,h1,h2,rfl,rfl⟩,?_⟩;rintro m Z H' ⟨x,y,z,rfl,rfl,l,i,g,rfl⟩;show if decide (0<y)=true then _ else _
 refine Aa (λh=>?_) (λh=>?_)
 ·have f:0<y:=ZBY h;refine⟨f,?_⟩;have j:=Int.emod_nonneg x (show y≠0 by lia);have n:=ZDX x f;refine⟨(x%y).toNat,by lia,y,x%y,_,rfl,rfl,i,j,?_,rfl⟩;rw[<- g,Int.gcd_comm x y];exact Y5 l i
 ·have f:y=0:=by
   have:¬0<y:=λz=>h (ZBK z)
   lia
  subst f;show Q (.int x) H';rw[Int.gcd_zero_right]at g;have e:x=((a.gcd b:Nat):Int):=by rw[<- g];lia
  rw[e];exact k
theorem Jm:Ok_ P w base T.z69 2 ER:=by
 refine T.z69.F.ok sc_z69 (λvs H Q E h=>by unfold ER at h;walk_at "e") ?_;walk_at "f";have r:AT Ej:=Ul;unfold ER at h;walk_at "g"
 rename_i a b;obtain⟨l,sa,g,k⟩:=h;refine⟨_,(@AH _ _ _ _ _ (@AO _ _ 2 _ _ _ _ sc_z69.nd rfl (by right) (AG (@TD P w K mg base T) (hr.mono (show 1<=_ by decide)) rfl T.z34.m T.z34.F.kp T.z34.b .nil AD (AA (AZ EO rfl T.zW (by rfl) (AA (vv 0) AB)) (AA (AZ EO rfl T.zW (by rfl) (AA (vv 1) AB)) AB))) (by rfl) (by symm)) (@AH _ _ _ _ _ (@Av _ _ _ _ _ _ _ _ (Ah Cy (vv 1) AE) (@AI _ _ _ (@AO _ _ 2 _ _ _ _ sc_z69.nd rfl (by right) (FL Fk (vv 2)) (by rfl) (by symm))) Aw) (@AI _ _ _ (@AK _ _ _ _ (BS (AA (AQ Db (vv 0) (vv 2)) (AA (AQ Db (vv 1) (vv 2)) AB))))))),?_⟩;have i:(Int.gcd (a.natAbs:Int) (b.natAbs:Int))=a.gcd b:=by unfold Int.gcd;simp
 obtain⟨_,_,j,g1⟩:=Qx sa g l;refine⟨by lia,by lia,?_⟩;dsimp only[AW];rw[i];refine Aa (λe=>?_) (λe=>?_)
 ·have n:b<0:=ZBY e;lia
 have f:okDiv ((a.gcd b:Nat):Int):=by
  refine⟨j,ZDO g1 ?_⟩;have t:b=((b.natAbs:Nat):Int):=by lia
  have e2:((b.natAbs:Nat):Int)<((2^1000:Nat):Int):=Int.ofNat_lt.mpr g;have u:((2^1000:Nat):Int)<=2^4096:=by decide +kernel
  lia
 refine⟨f,f,smq rfl,λp o=>?_⟩;exact k p o
theorem FH:Ok_ P w base T.z74 1 DE:=by
 refine T.z74.F.ok sc_z74 (λvs H Q E h=>by unfold DE at h;walk_at "e") ?_;walk_at "f";unfold DE at h;walk_at "g"
 rename_i x;obtain⟨a,j,h1,q⟩:=h;subst j;refine⟨_,(@AH _ _ _ _ _ (@AO _ _ 1 _ _ _ _ sc_z74.nd rfl (by right) AE (by rfl) (by symm)) (@AH _ _ _ _ _ (@AO _ _ 2 _ _ _ _ sc_z74.nd rfl (by right) (vv 0) (by rfl) (by symm)) (@AH _ _ _ _ _ (@HY _ _ _ _ _ _ PassesOwn.never (Ah Ci (vv 2) AE) (@AH _ _ _ _ _ (@AO _ _ 1 _ _ _ _ sc_z74.nd rfl (by right) (AQ (Bm (K:=K)) (vv 1) (AQ CF (vv 2) AE)) (by rfl) (by symm)) (@AI _ _ _ (@AO _ _ 2 _ _ _ _ sc_z74.nd rfl (by right) (AQ Db (vv 2) AE) (by rfl) (by symm))))) (@AI _ _ _ (@AK _ _ _ _ (vv 1)))))),?_⟩;refine⟨λf Z H'=>H'=H/\∃m r:Nat,Z=[some (.int a),some (.int m),some (.int r)]/\r<2^f/\m+manyF f r=Dd a,⟨64,rfl,0,a,rfl,h1,by unfold Dd;exact Nat.zero_add _⟩,?_⟩;rintro f Z H' ⟨rfl,m,r,rfl,g,hm⟩;refine Aa (λe=>?_) (λe=>?_)
 ·have i:0<r:=by have:(0:Int)<(r:Int):=ZBY e;lia
  cases f with
  | zero=>simp at g;lia
  | succ f =>
   refine⟨by decide,BZ (by decide) (by decide),?_⟩;refine⟨f,ZBu _,rfl,m+r%2,r / 2,?_,?_,?_⟩
   ·show [some (V.int (a:Int)),some (V.int ((m:Int)+(r:Int)%2)),some (V.int ((r:Int) / 2))]=_;rw[Int.natCast_add,Int.natCast_emod,Int.natCast_ediv];rfl
   ·rw[ZBf]at g;lia
   ·rw[<- hm];show m+r%2+manyF f (r / 2)=m+(r%2+manyF f (r / 2));lia
 ·have i:r=0:=by
   have:¬(0:Int)<(r:Int):=λz=>e (ZBK z)
   lia
  subst i;rw[FI,Nat.add_zero]at hm;rw[<- hm]at q;exact q
noncomputable def D1(a b:Nat):Int:=if Dd (a &&& b)%2=1 then -1 else 1
def MU:Sp:=λvs H Q _=>match vs with
 | [.int x,.int y]=>∃a b:Nat,x=a/\y=b/\a<2^64/\Q (.int (D1 a b)) H
 | _=>False
theorem ae:Ok_ P w base T.z88 2 MU:=by
 refine T.z88.F.ok Vj (λvs H Q E h=>by unfold MU at h;walk_at "e") ?_;walk_at "f";unfold MU at h;walk_at "g"
 rename_i x y;obtain⟨a,b,f,e2,h1,q⟩:=h;subst f e2;refine⟨_,(@AI _ _ _ (@AK _ _ _ _ (DV (Ah (kEq (K:=K) hu) (AQ CF (AG (@FH P w K mg base T) (hr.mono (show 1<=_ by decide)) rfl T.z74.m T.z74.F.kp T.z74.b .nil AD (AA (AQ GU (vv 0) (vv 1)) AB)) AE) AE) (FL Fk AE) AE))),?_⟩;refine⟨a &&& b,Es a b,ZC0 ZCk h1,by decide,?_⟩;unfold D1 at q;generalize Dd (a &&& b)=m at q ⊢
 have e:((m:Int)%2==1)=decide (m%2=1):=by
  rw[ZBv];simp only[beq_iff_eq,decide_eq_true_eq];lia
 show if (false ^^ ((m:Int)%2==1))=true then Q (.int (-1)) H else Q (.int 1) H
 rw[e];refine Aa (λz=>?_) (λz=>?_)
 ·rw[if_pos (by simpa using z)]at q;exact q
 ·rw[if_neg (by simpa using z)]at q;exact q
def L8(K:W.Frag):Sp:=λvs H Q _=>match vs with
 | [v,.int z]=>∃(m:Nat) (ts:List (Nat×Int)),SumAt K H v m ts/\m<=6/\z.natAbs<2^1000/\∀p,H p=none->Q (.ref p) (upd H p (.tup [.int (shT z ((2^(2*m):Nat):Int)),.int (shB z ((2^(2*m):Nat):Int))]))
 | _=>False
theorem Zq(z:m<=6):(((2^(2*m):Nat):Int)).natAbs<2^1000:=by
 have h1:2^(2*m)<=2^12:=ZBL (by decide) (by lia);have h2:(2:Nat)^12<2^1000:=ZCX (by decide) (by decide);rw[ZDI];exact ZC0 h1 h2
theorem Mn:Ok_ P w base T.z63 3 (L8 K):=by
 refine T.z63.F.ok ZM (λvs H Q E h=>by unfold L8 at h;walk_at "e") ?_;walk_at "f";unfold L8 at h;walk_at "g"
 rename_i v z;obtain⟨m,ts,S,g,hz,q⟩:=h;obtain⟨a,b,vs,rfl,ha,i,f⟩:=S.at_;refine⟨_,(@AI _ _ _ (@AK _ _ _ _ (AG (@Jm P w K mg base T) (hr.mono (show 2<=_ by decide)) rfl T.z69.m T.z69.F.kp T.z69.b .nil AD (AA (vv 1) (AA (AG (@Cm P w K mg base T) (hr.mono (show 2<=_ by decide)) rfl T.z81.m T.z81.F.kp T.z81.b .nil AD (AA (AQ BB AE (zq (K:=K) (vv 0) AE)) AB)) AB))))),?_⟩;refine⟨_,.int m,.inr ha,rfl,.inr (.inl ⟨by decide,by decide⟩),2*m,by lia,by lia,?_⟩;have h0:=ZBn (2*m);exact⟨by lia,hz,Zq g,q⟩
def Jx(K:W.Frag):Sp:=λvs H Q _=>match vs with
 | [v,.int z]=>∃(m t:Nat) (g:Nat->Int),SumAt K H v m (AL g (2^m))/\m<=6/\CA g/\z=t/\∀p H',H p=none->EE H H'->H' p=some (.tup [.int (shT (Bl m g t) ((2^(2*m):Nat):Int)),.int (shB (Bl m g t) ((2^(2*m):Nat):Int))])->Q (.ref p) H'
 | _=>False
theorem R0(G:m<=6)(z:CA g)(t:Nat):(Bl m g t).natAbs<2^1000:=by
 have i:2^m<=64:=ZBL (n:=2) (by decide) G
 have h:=Fz (f:=λs=>if chi m s t = -1 then g s*g s else 0) (B:=4096) (n:=2^m) λj _=>by
  have:=Mx (z j)
  split <;> lia
 have h2:(2:Nat)^20<2^1000:=ZCX (by decide) (by decide);refine ZCH ?_ h2;unfold Bl;lia
def Jz:Sp:=λvs H Q _=>match vs with
 | [.int x,.int y]=>∃a b:Nat,x=a/\y=b/\a<2^64/\Q (.bl (decide (D1 a b = -1))) H
 | _=>False
theorem WL:Ok_ P w base T.z39 3 Jz:=by
 refine T.z39.F.ok bK (λvs H Q E h=>by unfold Jz at h;walk_at "e") ?_;walk_at "f";unfold Jz at h;walk_at "g"
 rename_i x y;obtain⟨a,b,f,e2,h1,q⟩:=h;subst f e2;refine⟨_,(@AI _ _ _ (@AK _ _ _ _ (BK (kEq (K:=K) hu) (AG (@ae P w K mg base T) (hr.mono (show 2<=_ by decide)) rfl T.z88.m T.z88.F.kp T.z88.b .nil AD (AA (vv 0) (AA (vv 1) AB))) (FL Fk AE)))),?_⟩;refine⟨a,b,rfl,rfl,h1,?_⟩
 have e:(false ^^ (D1 a b == -1))=decide (D1 a b = -1):=by
  rw[ZB5,ZBv];simp only[beq_iff_eq,decide_eq_true_eq]
 show Q (.bl (false ^^ (D1 a b == -1))) H;rw[e];exact q
noncomputable def FP(m:Nat)(ts:List (Nat×Int))(t:Nat):Int:=Bz (λk w=>if chi m k t = -1 then w*w else 0) ts
theorem Yo(m:Nat)(g:Nat->Int)(t:Nat):FP m (AL g (2^m)) t=Bl m g t:=by
 unfold FP Bl;rw[Gz];intro k;split <;> rfl
def LS(K:W.Frag):Sp:=λvs H Q _=>match vs with
 | [v,.int z]=>∃(m t:Nat) (ts:List (Nat×Int)),SumAt K H v m ts/\m<=6/\ts.length<=64/\(∀q∈ts,q.1<2^m /\ -64<=q.2/\q.2<=64)/\z=t/\∀H',EE H H'->Q (.int (FP m ts t)) H'
 | _=>False
theorem Ye:Ok_ P w base T.z38 4 (LS K):=by
 refine T.z38.F.ok TQ (λvs H Q E h=>by unfold LS at h;walk_at "e") ?_;walk_at "f";unfold LS at h;walk_at "g"
 rename_i v z;obtain⟨m,t,ts,S,N,tl,J,y,q⟩:=h;subst y;obtain⟨a,b,vs,rfl,ha,r,j⟩:=id S.at_;have C:2^m<=64:=ZBL (n:=2) (by decide) N;refine⟨_,(@AI _ _ _ (@AK _ _ _ _ (AZ (DJ (K:=K) rfl) rfl T.zV (by rfl) (AA (Af (N':=["each","weight","subset"]) (own:=2) (ix:=[1]) rfl (Au (K:=K) (zq (K:=K) (vv 0) AE)) (by kernel_rfl) rfl rfl (by kernel_rfl) (λc=>Bh (K:=K) (n:=2) rfl (Ad (AM (i:=0) (show(["each","weight","subset"]:List Str).Nodup by decide +kernel) rfl (by right)) (Ad (AM (i:=1) (show(["each","weight","subset"]:List Str).Nodup by decide +kernel) rfl (by right)) BJ))) (Ba (Al AY (BQ AY Aj) (AV (by decide)) (Al AY Aj (AV (by decide)) Bf))) (λc=>C0 (BU (AG (@WL P w K mg base T) (hr.mono (show 3<=_ by decide)) rfl T.z39.m T.z39.F.kp T.z39.b .nil AD (AA (vv 0) (AA (vv 2) AB))))) (λc=>(AQ BB (vv 1) (vv 1)))) AB)))),?_⟩;refine⟨_,.ref b,.inr ha,rfl,.inr ⟨⟨_,r⟩,?_⟩⟩;have L:vs.length=ts.length:=by have:=j.length;rw[ZBB]at this;lia
 let f:Nat->Int->List Int:=λk w=>if chi m k t = -1 then [w*w] else []
 have B:∀k w,(f k w).length<=1:=λk w=>by show(if chi m k t = -1 then [w*w] else []).length<=1;split <;> simp
 refine B6 (xs:=vs) (λi ys H'=>H'=H/\ys=(Bq f (ts.take i)).map V.int) ⟨rfl,rfl⟩ (λi ys H' _ ⟨e,_⟩=>by rw[e];exact r) (λi ys H' hi ⟨_,e⟩=>by
  have:=Jj B (ts.take i)
  rw[ZBi]at this;rw[e,ZBB];exact AX (by lia)) ?_ ?_
 ·rintro i x ys H' M ⟨rfl,rfl⟩;obtain⟨⟨k,g⟩,c,u,rfl,D⟩:=Dl j M;have hm:=J _ (ZB3 u);have G:k<2^m:=hm.1;refine⟨c,_,rfl,D,rfl,_,_,rfl,_,_,rfl,rfl,?_⟩;refine⟨k,t,rfl,rfl,by lia,?_⟩;have p:D1 k t=chi m k t:=(Zb G (by lia)).symm;rw[NQ u,ZBH];refine Aa (λe=>?_) (λe=>?_)
  ·have o:chi m k t = -1:=by rw[<- p];exact ZBY e
   refine⟨QN hm.2,rfl,?_⟩;show _=_++(f k g).map V.int;show _=_++((if chi m k t = -1 then [g*g] else []):List Int).map V.int;rw[if_pos o];rfl
  ·have o:¬chi m k t = -1:=by rw[<- p];exactλz=>e (ZBK z)
   refine⟨rfl,?_⟩;show _=_++((if chi m k t = -1 then [g*g] else []):List Int).map V.int;rw[if_neg o,ZC7,ZBs]
 ·rintro ys H' ⟨rfl,rfl⟩ l I;rw[ZB0 (by lia)];refine⟨_,.of AF,?_⟩
  have es:(Bq f ts).sum=FP m ts t:=by
   rw[LV];unfold FP
   congr 1
   funext k w
   show((if chi m k t = -1 then [w*w] else []):List Int).sum=_
   split <;> simp
  rw[es];exact q _ (EE.upd I)
theorem TN:Ok_ P w base T.z70 5 (Jx K):=by
 refine T.z70.F.ok aM (λvs H Q E h=>by unfold Jx at h;walk_at "e") ?_;walk_at "f";unfold Jx at h;walk_at "g"
 rename_i v z;obtain⟨m,t,g,S,f,j,l,q⟩:=h;subst l;have o:2^m<=64:=ZBL (n:=2) (by decide) f;have u:=Ee g (2^m);refine⟨_,(@AI _ _ _ (@AK _ _ _ _ (AG (@Mn P w K mg base T) (hr.mono (show 3<=_ by decide)) rfl T.z63.m T.z63.F.kp T.z63.b .nil AD (AA (vv 0) (AA (AG (@Ye P w K mg base T) (hr.mono (show 4<=_ by decide)) rfl T.z38.m T.z38.F.kp T.z38.b .nil AD (AA (vv 0) (AA (vv 1) AB))) AB))))),?_⟩;refine⟨m,t,_,S,f,by lia,λq r=>?_,rfl,λH1 i=>?_⟩
 ·have hm:=CV r;refine⟨hm.1,?_⟩;rw[hm.2.1];exact j _
 rw[Yo];refine⟨m,_,S.same i,f,R0 f j t,λp k=>?_⟩;exact q p _ (i.free k) (i.trans (EE.upd k)) AF
def JB(K:W.Frag):Sp:=λvs H Q _=>match vs with
 | [v]=>∃(m:Nat) (g:Nat->Int),SumAt K H v m (AL g (2^m))/\m<=6/\CA g/\∀l H',H l=none->EE H H'->H' l=some (.lst (ixL (lvF m g (2^m)) (m+1)))->Q (.ref l) H'
 | _=>False
theorem XN(n:Nat):(List.replicate n [V.int 0]).flatten=ixL (λ_=>0) n:=by
 induction n with
 | zero=>rfl
 | succ n f=>rw[List.replicate_succ',List.flatten_append,f,E8];rfl
theorem NG:Ok_ P w base T.z27 2 (JB K):=by
 refine T.z27.F.ok sc_z27 (λvs H Q E h=>by unfold JB at h;walk_at "e") ?_;walk_at "f";have X:AT DE:=Ho;unfold JB at h;walk_at "g"
 rename_i v;obtain⟨m,g,S,W,N,q⟩:=h;obtain⟨a,b,vs,rfl,ha,D,r⟩:=id S.at_;have L:2^m<=64:=ZBL (n:=2) (by decide) W;have R:vs.length=(AL g (2^m)).length:=by have:=r.length;rw[ZBB]at this;lia
 refine⟨_,(@AH _ _ _ _ _ (@AO _ _ 1 _ _ _ _ sc_z27.nd rfl (by right) (AQ BB (@Cs _ _ _ _ (AA AE AB)) (AQ (Bm (K:=K)) (zq (K:=K) (vv 0) AE) AE)) (by rfl) (by symm)) (@AH _ _ _ _ _ (@CU _ _ _ _ _ _ _ _ PassesOwn.never rfl (Au (K:=K) (zq (K:=K) (vv 0) AE)) (HR (K:=K) (n:=2) rfl (Ad (AM (i:=2) sc_z27.nd rfl (by right)) (Ad (AM (i:=3) sc_z27.nd rfl (by right)) BJ))) (@AH _ _ _ _ _ (@AO _ _ 4 _ _ _ _ sc_z27.nd rfl (by right) (AG (@FH P w K mg base T) (hr.mono (show 1<=_ by decide)) rfl T.z74.m T.z74.F.kp T.z74.b .nil AD (AA (vv 2) AB)) (by rfl) (by symm)) (@AI _ _ _ (@Cu _ _ _ _ _ _ (AQ (Bm (K:=K)) (zq (K:=K) (vv 1) (vv 4)) (AQ BB (vv 3) (vv 3))) (C7 (vv 1) (vv 4) DY) (by rfl) (by rfl) (by rfl)))) (by intro _;rfl)) (@AI _ _ _ (@AK _ _ _ _ (vv 1))))),?_⟩
 refine⟨smq rfl,λu f=>?_⟩;have t:=Bw ha (EE.upd (o:=.lst [.int 0]) f);refine⟨_,.int m,.inr t,rfl,u,(m:Int)+1,_,rfl,rfl,AF,by lia,by lia,EN (by show 1*((m:Int)+1).toNat<=1000;lia),λl G=>?_⟩;have J:((m:Int)+1).toNat=m+1:=by lia
 rw[J,XN];dsimp only[AW];have s1:=(EE.upd (o:=.lst [.int 0]) f).trans (EE.upd (o:=.lst (ixL (λ_=>0) (m+1))) G);have p:H l=none:=(EE.upd (o:=.lst [.int 0]) f).free G;have g1:upd (upd H u (.lst [.int 0])) l (.lst (ixL (λ_=>0) (m+1))) l=some (.lst (ixL (lvT m ((AL g (2^m)).take 0)) (m+1))):=AF;generalize upd (upd H u (.lst [.int 0])) l (.lst (ixL (λ_=>0) (m+1)))=H1 at *;refine⟨_,.ref b,.inr (Bw ha s1),rfl,.inr ⟨⟨_,Bw D s1⟩,?_⟩⟩;refine Ko (xs:=vs) (λi Z H'=>∃z B C:Option V,Z=[some (.ref a),some (.ref l),z,B,C]/\EE H H'/\H' l=some (.lst (ixL (lvT m ((AL g (2^m)).take i)) (m+1)))) ⟨none,none,none,rfl,s1,g1⟩ (λi Z H' _ ⟨_,_,_,_,s,_⟩=>Bw D s) ?_ ?_
 ·rintro i x Z H2 U ⟨z,B,C,rfl,s2,g2⟩;obtain⟨⟨k,y⟩,c,I,rfl,M⟩:=Dl r U;have hm:=CV (ZB3 I);have O:k<2^m:=hm.1;have hw:y=g k:=hm.2.1;have h1:=N k;rw[<- hw]at h1;have h2:=GG m k;refine⟨_,.inr (Bw M s2),rfl,_,_,rfl,_,_,rfl,rfl,?_⟩;refine⟨k,rfl,by lia,?_⟩;rw[EF O (by lia)];refine⟨_,_,.inl (.of g2),E6 (show manyF m k<m+1 by lia),QN h1,_,manyF m k,g2,by rw[ixL_len];exact FQ (by lia),?_⟩;refine⟨_,_,_,rfl,KR s2 p,?_⟩;rw[AF,NP]
  congr 2
  exact FF λj _=>by
   rw[Xi I]
   by_cases e:j=manyF m k
   ·rw[if_pos e,if_pos e,e]
   ·rw[if_neg e,if_neg e]
 ·rintro Z H2 ⟨z,B,C,rfl,s2,g2⟩;rw[ZB0 (by lia),FF λj _=>Ry m g j (2^m)]at g2;exact q l H2 p s2 g2
noncomputable def lvD(m:Nat)(g:Nat->Int)(n:Nat):List Dv:=(List.range n).map λj=>shD (lvF m g (2^m) j) ((2^(2*m):Nat):Int)
theorem Sb(m:Nat)(g:Nat->Int)(n:Nat):lvD m g (n+1)=lvD m g n++[shD (lvF m g (2^m) n) ((2^(2*m):Nat):Int)]:=by
 unfold lvD;rw[ZBw,ZBH];rfl
def J5(K:W.Frag):Sp:=λvs H Q _=>match vs with
 | [v]=>∃(m:Nat) (g:Nat->Int),SumAt K H v m (AL g (2^m))/\m<=6/\CA g/\∀l vs H',H l=none->EE H H'->H' l=some (.lst vs)->za K H' (lvD m g (m+1)) vs->Q (.ref l) H'
 | _=>False
theorem bg(G:m<=6)(z:CA g)(j:Nat):(lvF m g (2^m) j).natAbs<2^1000:=by
 have f:2^m<=64:=ZBL (n:=2) (by decide) G;have h:=NL (m:=m) z (n:=2^m) j;have h2:(2:Nat)^20<2^1000:=ZCX (by decide) (by decide);refine ZCH ?_ h2;lia
theorem Ru:Ok_ P w base T.z80 4 (J5 K):=by
 refine T.z80.F.ok aw (λvs H Q E h=>by unfold J5 at h;walk_at "e") ?_;walk_at "f";unfold J5 at h;walk_at "g"
 rename_i v;obtain⟨m,g,S,n,o,q⟩:=h;refine⟨_,(@AI _ _ _ (@AK _ _ _ _ (@Af _ _ _ _ _ _ _ (["level","one"]) 1 [0] _ _ _ _ rfl (Au (K:=K) (AG (@NG P w K mg base T) (hr.mono (show 2<=_ by decide)) rfl T.z27.m T.z27.F.kp T.z27.b .nil AD (AA (vv 0) AB))) (by kernel_rfl) rfl rfl (by kernel_rfl) (λc=>AM (i:=0) (show(["level","one"]:List Str).Nodup by decide +kernel) rfl (by right)) (AV (by decide)) (λc=>Ag) (λc=>(AG (@Mn P w K mg base T) (hr.mono (show 3<=_ by decide)) rfl T.z63.m T.z63.F.kp T.z63.b .nil AD (AA (vv 1) (AA (vv 0) AB)))) (by intro _;rfl)))),?_⟩;refine⟨m,g,S,n,o,λu H1 t s1 g1=>.inl ⟨⟨_,.of g1⟩,?_⟩⟩;refine Cc (xs:=ixL (lvF m g (2^m)) (m+1)) (λi ys H'=>EE H1 H'/\za K H' (lvD m g i) ys/\ys.length=i) ⟨EE.refl _,Ab,rfl⟩ (λi ys H' _ ⟨s,_⟩=>s.sqL (.of g1)) (λi ys H' hi ⟨_,_,e⟩=>by rw[ixL_len]at hi;exact AX (by lia)) ?_ ?_
 ·rintro i x ys H2 k ⟨s2,f,l2⟩
  have hi:i<m+1:=by
   have:=(ZBW.mp k).1
   rwa [ixL_len]at this
  rw[CH hi]at k;cases k;refine⟨m,_,S.same (s1.trans s2),n,bg n o i,λp r=>⟨s2.trans (EE.upd r),?_,by rw[ZBS,l2];rfl⟩⟩;rw[Sb];exact za.append (za.same (EE.upd r) _ _ f) (AU (W8 AF) Ab)
 ·rintro ys H2 ⟨s2,f,l2⟩ l j;rw[ixL_len]at f;exact q l ys _ ((s1.trans s2).free j) (s1.trans (s2.trans (EE.upd j))) AF (za.same (EE.upd j) _ _ f)
noncomputable def stW(m:Nat)(y:Int):Int:=((2^(2*m):Nat):Int)*y^m
noncomputable def stP(m:Nat)(g:Nat->Int)(x y:Int)(n:Nat):Int:=sumTo (λj=>lvF m g (2^m) j*(y-2*x)^j*y^(m-j)) n
def MG(K:W.Frag):Sp:=λvs H Q _=>match vs with
 | [v,.ref ps]=>∃(m:Nat) (g:Nat->Int) (x y:Int),SumAt K H v m (AL g (2^m))/\m<=6/\CA g/\zj K H ps [.int x,.int y]/\0<y/\Nb x 66/\Nb y 66/\∀p H',H p=none->EE H H'->H' p=some (.tup [.int (shT (stW m y+stP m g x y (m+1)) (2*stW m y)),.int (shB (stW m y+stP m g x y (m+1)) (2*stW m y))])->Q (.ref p) H'
 | _=>False
theorem WJ(h:0<y):0<stW m y:=Int.mul_pos (by have:=ZBn (2*m);lia) (Int.pow_pos h)
theorem Vn(z:m<=6)(h:Nb y 66):Nb (stW m y) 500:=by
 have h1:Nb ((2^(2*m):Nat):Int) 13:=by
  unfold Nb;rw[ZDI];exact ZCX (by decide) (by lia)
 exact(h1.mul (h.pow m)).up (by lia)
theorem aL(G:m<=6)(z:CA g)(j:Nat):Nb (lvF m g (2^m) j) 20:=by
 have f:2^m<=64:=ZBL (n:=2) (by decide) G;have h:=NL (m:=m) z (n:=2^m) j;unfold Nb;lia
theorem Ir{x:Int}(z:Nb x 66)(G:Nb y 66):Nb (y-2*x) 69:=by
 unfold Nb at *;lia
noncomputable def Fs(m:Nat)(f:Nat->Int)(x y:Int)(n:Nat):Int:=sumTo (λj=>f j*(y-2*x)^j*y^(m-j)) n
theorem PR{f:Nat->Int}{x:Int}(U:m<=6)(hf:∀j,j<m+1->Nb (f j) 20)(O:Nb x 66)(z:Nb y 66)(j:Nat)(G:j<m+1):Nb (f j*(y-2*x)^j) 500/\Nb (y^(m-j)) 500/\Nb (f j*(y-2*x)^j*y^(m-j)) 900:=by
 have h1:Nb (f j*(y-2*x)^j) 440:=((hf j G).mul ((Ir O z).pow j)).up (by lia);have h2:Nb (y^(m-j)) 440:=(z.pow (m-j)).up (by lia);exact⟨h1.up (by lia),h2.up (by lia),(h1.mul h2).up (by lia)⟩
def IS(K:W.Frag):Sp:=λvs H Q _=>match vs with
 | [.int z,.ref g,.ref ps]=>∃(m:Nat) (f:Nat->Int) (x y:Int),z=m/\m<=6/\(∀j,j<m+1->Nb (f j) 20)/\zr K H g (ixL f (m+1))/\zj K H ps [.int x,.int y]/\0<y/\Nb x 66/\Nb y 66/\∀p H',H p=none->EE H H'->H' p=some (.tup [.int (shT (stW m y+Fs m f x y (m+1)) (2*stW m y)),.int (shB (stW m y+Fs m f x y (m+1)) (2*stW m y))])->Q (.ref p) H'
 | _=>False
theorem Vo:Ok_ P w base T.z64 3 (IS K):=by
 have k:=@RF P w K mg base T;refine T.z64.F.ok sc_z64 (λvs H Q E h=>by unfold IS at h;walk_at "e") ?_;walk_at "f";have M:AT FC:=UF;have N:AT DA:=FT;have O:AT ER:=V7;have g:=hr.mono (show 1<=_ by decide);unfold IS at h;walk_at "g"
 rename_i z L ps;obtain⟨m,f,x,y,D,v,hf,g1,r,V,t,o,q⟩:=h;subst D;refine⟨_,(@AH _ _ _ _ _ (@AO _ _ 3 _ _ _ _ sc_z64.nd rfl (by right) (zq (K:=K) (vv 2) AE) (by rfl) (by symm)) (@AH _ _ _ _ _ (@AO _ _ 4 _ _ _ _ sc_z64.nd rfl (by right) (AQ Dt (vv 3) (AQ BB AE (zq (K:=K) (vv 2) AE))) (by rfl) (by symm)) (@AH _ _ _ _ _ (@C6 _ _ _ _ _ _ _ (["many","level","less","bottom","n"]) 2 ([4,3,0]) _ _ _ _ 5 _ _ _ rfl sc_z64.nd rfl rfl (FK (K:=K) rfl T.zE (AA (vv 1) AB)) (by kernel_rfl) rfl rfl (by kernel_rfl) (λc=>Bh (K:=K) (n:=2) rfl (Ad (AM (i:=0) (show(["many","level","less","bottom","n"]:List Str).Nodup by decide +kernel) rfl (by right)) (Ad (AM (i:=1) (show(["many","level","less","bottom","n"]:List Str).Nodup by decide +kernel) rfl (by right)) BJ))) (Ba (Al AY (BQ AY Aj) (AV (by decide)) (Al AY Aj (AV (by decide)) Bf))) (λc=>Ag) (λc=>(AQ BB (AQ BB (vv 1) (AG k g rfl T.z65.m T.z65.F.kp T.z65.b .nil AD (AA (vv 2) (AA (vv 0) AB)))) (AG k g rfl T.z65.m T.z65.F.kp T.z65.b .nil AD (AA (vv 3) (AA (AQ Dt (vv 4) (vv 0)) AB))))) (by rfl) (by intro _;rfl)) (@AH _ _ _ _ _ (@AO _ _ 6 _ _ _ _ sc_z64.nd rfl (by right) (AQ BB (AG (@Cm P w K mg base T) (hr.mono (show 2<=_ by decide)) rfl T.z81.m T.z81.F.kp T.z81.b .nil AD (AA (AQ BB AE (vv 0)) AB)) (AG k g rfl T.z65.m T.z65.F.kp T.z65.b .nil AD (AA (vv 3) (AA (vv 0) AB)))) (by rfl) (by symm)) (@AI _ _ _ (@AK _ _ _ _ (AG (@Jm P w K mg base T) (hr.mono (show 2<=_ by decide)) rfl T.z69.m T.z69.F.kp T.z69.b .nil AD (AA (AQ (Bm (K:=K)) (vv 6) (AZ (DJ (K:=K) rfl) rfl T.zV (by rfl) (AA (vv 5) AB))) (AA (AQ BB AE (vv 6)) AB))))))))),?_⟩;refine⟨_,.int y,.inr r,rfl,?_⟩;dsimp only[AW];refine⟨_,.int x,.inr r,rfl,.inr (.inl ⟨by decide,by decide⟩),?_⟩;dsimp only[AW,Kb];refine As (λZ H'=>∃l:Addr,Z=[some (.int m),some (.ref L),some (.ref ps),some (.int y),some (.int (y-2*x)),some (.ref l),none]/\EE H H'/\H' l=some (.lst (ixL (λj=>f j*(y-2*x)^j*y^(m-j)) (m+1)))) ?_ ?_ (by walk_at "sm")
 ·refine⟨⟨_,g1⟩,?_⟩;refine Fw (xs:=ixL f (m+1)) (λi zs H'=>EE H H'/\zs=ixL (λj=>f j*(y-2*x)^j*y^(m-j)) i) ⟨EE.refl _,rfl⟩ (λi zs H' _ ⟨s,_⟩=>s.sqL g1) (λi zs H' hi ⟨_,e⟩=>by rw[ixL_len]at hi;rw[e,ixL_len];exact AX (by lia)) ?_ ?_
  ·rintro i z zs H2 pp hz ⟨s2,rfl⟩ u
   have hi:i<m+1:=by
    have:=(ZBW.mp hz).1
    rwa [ixL_len]at this
   rw[CH hi]at hz;cases hz;obtain⟨R,S,W⟩:=PR v hf t o i hi;refine⟨pp,_,rfl,.of AF,rfl,_,_,rfl,_,_,rfl,rfl,?_⟩;refine⟨i,rfl,by lia,.inr ⟨(Ir t o).up (by lia),by lia⟩,Nb.okMul ((hf i hi).up (by lia)) (((Ir t o).pow i).up (by lia)),?_⟩;refine⟨m-i,by lia,by lia,.inr ⟨o.up (by lia),by lia⟩,Nb.okMul (R.up (by lia)) (S.up (by lia)),s2.trans (EE.upd u),?_⟩;rw[E8]
  ·rintro zs H2 ⟨s2,rfl⟩ l I;rw[ixL_len];exact⟨l,rfl,s2.trans (EE.upd I),AF⟩
 rintro Z H1 ⟨l,rfl,s1,g1⟩;refine⟨.inr (.inl ⟨by decide,by decide⟩),2*m,by lia,by lia,?_⟩
 have B:Nb ((2^(2*m):Nat):Int) 13:=by
  unfold Nb;rw[ZDI];exact ZCX (by decide) (by lia)
 refine⟨m,rfl,by lia,.inr ⟨o.up (by lia),by lia⟩,Nb.okMul (B.up (by lia)) ((o.pow m).up (by lia)),?_⟩;dsimp only[AW]
 have es:∀n,((List.range n).map (λj=>f j*(y-2*x)^j*y^(m-j))).sum=Fs m f x y n:=λn=>by
  induction n with
  | zero=>rfl
  | succ n J=>rw[ZBw,ZBH,List.sum_append,J];simp[Fs,L2.sumTo]
 refine⟨(List.range (m+1)).map (λj=>f j*(y-2*x)^j*y^(m-j)),by rw[ZBg];exact .of g1,?_⟩;dsimp only[D4];rw[es];have U:=WJ (m:=m) V;have wn:=Vn v o;have pn:Nb (Fs m f x y (m+1)) 910:=(Nb.sum (f:=λj=>f j*(y-2*x)^j*y^(m-j)) (a:=900) (n:=m+1) λj G=>(PR v hf t o j G).2.2).up (by lia)
 have e2:Nb (2*stW m y) 510:=by
  have two:Nb 2 2:=by unfold Nb;decide
  exact(two.mul wn).up (by lia)
 refine⟨.inr (.inl ⟨by decide,by decide⟩),Int.mul_pos (by decide) U,((wn.up (show 500<=910 by lia)).add pn).up (by lia),e2.up (by lia),λp C=>?_⟩;exact q p _ (s1.free C) (s1.trans (EE.upd C)) AF
theorem UJ:Ok_ P w base T.z85 4 (MG K):=by
 refine T.z85.F.ok UW (λvs H Q E h=>by unfold MG at h;walk_at "e") ?_;walk_at "f";unfold MG at h;walk_at "g"
 rename_i v ps;obtain⟨m,g,x,y,S,i,k,f,z,t,u,q⟩:=h;obtain⟨a,b,vs,rfl,ha,B,r⟩:=id S.at_;refine⟨_,(@AI _ _ _ (@AK _ _ _ _ (AG (@Vo P w K mg base T) (hr.mono (show 3<=_ by decide)) rfl T.z64.m T.z64.F.kp T.z64.b .nil AD (AA (zq (K:=K) (vv 0) AE) (AA (AG (@NG P w K mg base T) (hr.mono (show 2<=_ by decide)) rfl T.z27.m T.z27.F.kp T.z27.b .nil AD (AA (vv 0) AB)) (AA (vv 1) AB)))))),?_⟩;refine⟨_,.int m,.inr ha,rfl,m,g,S,i,k,λC H1 n s1 g1=>?_⟩;refine⟨m,lvF m g (2^m),x,y,rfl,i,λj _=>aL i k j,.of g1,s1.sqT f,z,t,u,λp H' o s2 l=>?_⟩;exact q p H' (s1.free o) (s1.trans s2) l
noncomputable def Ct(m:Nat)(g:Nat->Int):Int:=sumTo (λs=>((manyF m s:Nat):Int)*g s*g s) (2^m)
def K3(K:W.Frag):Sp:=λvs H Q _=>match vs with
 | [v]=>∃(m:Nat) (g:Nat->Int),SumAt K H v m (AL g (2^m))/\m<=6/\CA g/\∀p H',H p=none->EE H H'->H' p=some (.tup [.int (shT (Ct m g) ((2^(2*m):Nat):Int)),.int (shB (Ct m g) ((2^(2*m):Nat):Int))])->Q (.ref p) H'
 | _=>False
theorem Z8(G:m<=6)(z:CA g):(Ct m g).natAbs<2^1000:=by
 have k:2^m<=64:=ZBL (n:=2) (by decide) G
 have h:=Fz (f:=λs=>((manyF m s:Nat):Int)*g s*g s) (B:=6*4096) (n:=2^m) λj _=>by
  have h1:=Mx (z j);have h2:=GG m j;have i:((manyF m j:Nat):Int)*g j*g j=((manyF m j:Nat):Int)*(g j*g j):=Int.mul_assoc _ _ _;show 0<=((manyF m j:Nat):Int)*g j*g j/\((manyF m j:Nat):Int)*g j*g j<=6*4096;rw[i];exact⟨Int.mul_nonneg (by lia) h1.1,Int.mul_le_mul (by lia) h1.2 h1.1 (by lia)⟩
 have h2:(2:Nat)^30<2^1000:=ZCX (by decide) (by decide);refine ZCH ?_ h2;unfold Ct;lia
theorem Tt:Ok_ P w base T.z45 4 (K3 K):=by
 refine T.z45.F.ok aK (λvs H Q E h=>by unfold K3 at h;walk_at "e") ?_;walk_at "f";unfold K3 at h;walk_at "g"
 rename_i v;obtain⟨m,g,S,r,y,q⟩:=h;obtain⟨a,b,vs,rfl,ha,u,j⟩:=id S.at_;have D:2^m<=64:=ZBL (n:=2) (by decide) r;refine⟨_,(@AI _ _ _ (@AK _ _ _ _ (AG (@Mn P w K mg base T) (hr.mono (show 3<=_ by decide)) rfl T.z63.m T.z63.F.kp T.z63.b .nil AD (AA (vv 0) (AA (AZ (DJ (K:=K) rfl) rfl T.zV (by rfl) (AA (Af (N':=["subset","weight"]) (own:=2) (ix:=[]) rfl (Au (K:=K) (zq (K:=K) (vv 0) AE)) (by kernel_rfl) rfl rfl (by kernel_rfl) (λc=>Bh (K:=K) (n:=2) rfl (Ad (AM (i:=0) (show(["subset","weight"]:List Str).Nodup by decide +kernel) rfl (by right)) (Ad (AM (i:=1) (show(["subset","weight"]:List Str).Nodup by decide +kernel) rfl (by right)) BJ))) (Ba (Al AY (BQ AY Aj) (AV (by decide)) (Al AY Aj (AV (by decide)) Bf))) (λc=>Ag) (λc=>(AQ BB (AQ BB (AG (@FH P w K mg base T) (hr.mono (show 1<=_ by decide)) rfl T.z74.m T.z74.F.kp T.z74.b .nil AD (AA (vv 0) AB)) (vv 1)) (vv 1)))) AB)) AB))))),?_⟩;refine⟨_,.ref b,.inr ha,rfl,.inr ⟨⟨_,u⟩,?_⟩⟩;have L:vs.length=(AL g (2^m)).length:=by have:=j.length;rw[ZBB]at this;lia
 have J:=Ee g (2^m);let f:Nat->Int->List Int:=λk w=>[((manyF m k:Nat):Int)*w*w]
 have C:∀k w,(f k w).length<=1:=λk w=>ZBD _
 refine B6 (xs:=vs) (λi ys H'=>H'=H/\ys=(Bq f ((AL g (2^m)).take i)).map V.int) ⟨rfl,rfl⟩ (λi ys H' _ ⟨e,_⟩=>by rw[e];exact u) (λi ys H' hi ⟨_,e⟩=>by
  have:=Jj C ((AL g (2^m)).take i)
  rw[ZBi]at this;rw[e,ZBB];exact AX (by lia)) ?_ ?_
 ·rintro i x ys H' M ⟨rfl,rfl⟩;obtain⟨⟨k,t⟩,c,B,rfl,G⟩:=Dl j M;have hm:=CV (ZB3 B);have I:k<2^m:=hm.1;have hw:t=g k:=hm.2.1;have h1:=y k;rw[<- hw]at h1;have h2:=GG m k;refine⟨c,_,rfl,G,rfl,_,_,rfl,_,_,rfl,rfl,?_⟩;refine⟨k,rfl,by lia,?_⟩;rw[EF I (by lia)];refine⟨.inr (.inl ⟨by lia,by lia⟩),.inr (.inr ⟨by lia,by lia⟩),rfl,?_⟩;rw[NQ B,ZBH];rfl
 ·rintro ys H' ⟨rfl,rfl⟩ l o;rw[ZB0 (by lia)];refine⟨_,.of AF,?_⟩
  have es:(Bq f (AL g (2^m))).sum=Ct m g:=by
   rw[LV,Gz]
   ·unfold Ct;refine Ae λk _=>?_
    show([((manyF m k:Nat):Int)*g k*g k]:List Int).sum=_
    simp
   ·intro k
    show([((manyF m k:Nat):Int)*0*0]:List Int).sum=0
    simp
  rw[es];refine⟨m,_,S.same (EE.upd o),r,Z8 r y,λp z=>?_⟩;exact q p _ ((EE.upd o).free z) ((EE.upd o).trans (EE.upd z)) AF
def ET(K:W.Frag):Sp:=λvs H Q _=>match vs with
 | [.ref p,.int s,.int k]=>∃(g:Nat->Int) (M sn f:Nat),zr K H p (ixL g M)/\s=sn/\k=f/\f<M/\0<sn/\sn<=64/\(f / sn%2≠1->f+sn<M)/\Q (.int (Ed g sn f)) H
 | _=>False
theorem UR:AT (ET K):=λvs H Q f E h q=>by
 unfold ET at *;walk_at "q"
theorem a8:Ok_ P w base T.z78 1 (ET K):=by
 refine T.z78.F.ok Ui (λvs H Q E h=>by unfold ET at h;walk_at "e") ?_;walk_at "f";unfold ET at h;walk_at "g"
 rename_i p s k;obtain⟨g,M,sn,f,j,l,e2,h1,h2,n,o,q⟩:=h;subst l e2;refine⟨_,(@AH _ _ _ _ _ (@Av _ _ _ _ _ _ _ _ (Ah (kEq (K:=K) hu) (AQ CF (AQ Db (vv 2) (vv 1)) AE) AE) (@AI _ _ _ (@AK _ _ _ _ (AQ Dt (zq (K:=K) (vv 0) (AQ Dt (vv 2) (vv 1))) (zq (K:=K) (vv 0) (vv 2))))) Aw) (@AI _ _ _ (@AK _ _ _ _ (AQ (Bm (K:=K)) (zq (K:=K) (vv 0) (vv 2)) (zq (K:=K) (vv 0) (AQ (Bm (K:=K)) (vv 2) (vv 1))))))),?_⟩;refine⟨BZ (by lia) (ZC4 (ZCb.mpr n) (by decide)),by decide,?_⟩;unfold Ed at q
 have m:((f:Int) / (sn:Int)%2==1)=decide (f / sn%2=1):=by
  rw[<- Int.natCast_ediv];generalize f / sn=d;rw[ZBv];simp only[beq_iff_eq,decide_eq_true_eq];lia
 dsimp only[tC,mEq,isB];rw[m];refine Aa (λe=>?_) (λe=>?_)
 ·have i:f / sn%2=1:=by simpa using e
  rw[if_pos i]at q
  have r:sn<=f:=by
   rcases ZCN f sn with z | z
   ·rw[Nat.div_eq_of_lt z]at i;cases i
   ·exact z
  refine⟨_,.int (g (f-sn)),.inl j,?_,_,_,.inl j,E6 h1,q⟩
  have:(f:Int)-(sn:Int)=((f-sn:Nat):Int):=by lia
  rw[this];exact E6 (by lia)
 ·have i:¬f / sn%2=1:=by simpa using e
  rw[if_neg i]at q;refine⟨_,_,.inl j,E6 h1,_,.int (g (f+sn)),.inl j,?_,q⟩
  have:(f:Int)+(sn:Int)=((f+sn:Nat):Int):=by lia
  rw[this];exact E6 (o i)
def EB(K:W.Frag):Sp:=λvs H Q _=>match vs with
 | [.ref p]=>∃(g:Nat->Int) (m:Nat),zr K H p (ixL g (2^m))/\m<=6/\DQ H Q (ixL (Bj g m) (2^m))
 | _=>False
theorem QK:AT (EB K):=λvs H Q f E h q=>by
 unfold EB at *;walk_at "q"
theorem HZ:Ok_ P w base T.z37 2 (EB K):=by
 refine T.z37.F.ok sc_z37 (λvs H Q E h=>by unfold EB at h;walk_at "e") ?_;walk_at "f";have J:AT (ET K):=UR;unfold EB at h;walk_at "g"
 rename_i p;obtain⟨g,m,I,D,q⟩:=h;refine⟨_,(@AH _ _ _ _ _ (@AO _ _ 1 _ _ _ _ sc_z37.nd rfl (by right) (Bi (Ya (K:=K)) rfl T.zX (by rfl) (AA (vv 0) AB)) (by rfl) (by symm)) (@AH _ _ _ _ _ (@AO _ _ 2 _ _ _ _ sc_z37.nd rfl (by right) AE (by rfl) (by symm)) (@AH _ _ _ _ _ (@HY _ _ _ _ _ _ PassesOwn.never (Ah Cy (vv 2) (AZ (BO (K:=K)) rfl T.zP (by rfl) (AA (vv 1) AB))) (@AH _ _ _ _ _ (@AO _ _ 1 _ _ _ _ sc_z37.nd rfl (by right) (@Af _ _ _ _ _ _ _ (["place","sums","step"]) 1 ([1,2]) _ _ _ _ rfl (BG rfl T.zC (AA (AZ (BO (K:=K)) rfl T.zP (by rfl) (AA (vv 1) AB)) AB)) (by kernel_rfl) rfl rfl (by kernel_rfl) (λc=>AM (i:=0) (show(["place","sums","step"]:List Str).Nodup by decide +kernel) rfl (by right)) (AV (by decide)) (λc=>Ag) (λc=>(AG (@a8 P w K mg base T) (hr.mono (show 1<=_ by decide)) rfl T.z78.m T.z78.F.kp T.z78.b .nil AD (AA (vv 1) (AA (vv 2) (AA (vv 0) AB))))) (by intro _;rfl)) (by rfl) (by symm)) (@AI _ _ _ (@AO _ _ 2 _ _ _ _ sc_z37.nd rfl (by right) (AQ BB (vv 2) AE) (by rfl) (by symm))))) (@AI _ _ _ (@AK _ _ _ _ (vv 1)))))),?_⟩;have y:=Uf m (by lia);have o:∀s,s<m->2^s<2^m:=λs hs=>ZCX (by decide) hs
 have B:∀s,s<m->2^s<=64:=λs hs=>ZBq (ZBy (o s hs)) (ZBL (n:=2) (j:=6) (by decide) D)
 have x:2^m<=64:=ZBL (n:=2) (by decide) D;have v:∀s:Nat,0<2^s:=λs=>ZBn s
 refine⟨_,.inl I,λl t=>?_⟩;dsimp only[AW];have h0:ixL g (2^m)=ixL (Bj g 0) (2^m):=rfl;rw[h0];refine As (λZ H'=>Z=[some (.ref p),some (.ref l),some (.int (2^0:Nat))]/\upd H l (.lst (ixL (Bj g 0) (2^m)))=H') ⟨rfl,rfl⟩ ?_ (by walk_at "sm");rintro Z _ ⟨rfl,rfl⟩;generalize L:2^m=M at *;have G:(M:Int)<2^62:=ZDO (ZCb.mpr x) (by decide);refine⟨λf Z H'=>∃(s:Nat) (l:Addr),s<=m/\f=m-s/\Z=[some (.ref p),some (.ref l),some (.int (2^s:Nat))]/\EE H H'/\H l=none/\H' l=some (.lst (ixL (Bj g s) M)),⟨m,0,l,ZBT _,rfl,rfl,EE.upd t,t,AF⟩,?_⟩;clear t;rintro f Z H1 ⟨s,l,hs,rfl,rfl,s1,t,g1⟩;refine⟨M,.inl ⟨_,.of g1,ixL_len.symm⟩,?_⟩;refine Aa (λe=>?_) (λe=>?_)
 ·have zn:2^s<M:=by have:((2^s:Nat):Int)<(M:Int):=ZBY e;lia
  have k:s<m:=by
   rcases ZCN s m with z | z
   ·exact z
   ·have:s=m:=by lia
    subst this;lia
  refine⟨M,.inl ⟨_,.of g1,ixL_len.symm⟩,(M:Int),rfl,by lia,by lia,?_⟩
  refine CB (λi ys H'=>H1=H'/\ys=(ixL (Bj g (s+1)) M).take i) ⟨rfl,rfl⟩ (λi ys H' hi ⟨_,e⟩=>by
   rw[e];exact AX (by rw[ZBi,ixL_len];lia)) ?_ ?_
  ·rintro i ys H' hi ⟨rfl,rfl⟩;have r:i<M:=by lia
   refine⟨Bj g s,M,2^s,i,.of g1,rfl,by lia,r,v s,B s k,y s k i r,rfl,?_⟩;rw[TR r];rfl
  ·rintro ys H' ⟨rfl,rfl⟩ C u;refine⟨.inr (.inr ⟨by decide,by decide⟩),m-(s+1),by lia,s+1,C,k,rfl,?_,s1.trans (EE.upd u),s1.free u,?_⟩
   ·show [some (V.ref p),some (V.ref C),some (V.int (((2^s:Nat):Int)*2))]=_;rw[ZBf,Int.natCast_mul];rfl
   ·rw[ZBj,ZB0 (by rw[ixL_len];lia)];exact AF
 ·have k:s=m:=by
   rcases ZCN s m with z | z
   ·have:=o s z
    exact(e (ZBK (by lia))).elim
   ·lia
  subst k;exact q l H1 t s1 g1
def Ev(K:W.Frag):Sp:=λvs H Q _=>match vs with
 | [v]=>∃(m:Nat) (g:Nat->Int),SumAt K H v m (AL g (2^m))/\m<=6/\DQ H Q (ixL g (2^m))
 | _=>False
theorem Up:AT (Ev K):=λvs H Q f E h q=>by
 unfold Ev at *;walk_at "q"
theorem Lv:Ok_ P w base T.z44 3 (Ev K):=by
 refine T.z44.F.ok sc_z44 (λvs H Q E h=>by unfold Ev at h;walk_at "e") ?_;walk_at "f";have O:AT DA:=FT;unfold Ev at h;walk_at "g"
 rename_i v;obtain⟨m,g,S,N,q⟩:=h;obtain⟨a,b,vs,rfl,ha,B,p⟩:=id S.at_;have r:2^m<=64:=ZBL (n:=2) (by decide) N;have i0:(0:Int)<=((2^m:Nat):Int):=ZDA _;have i1:((2^m:Nat):Int)<=64:=ZCb.mpr r;have L:vs.length=(AL g (2^m)).length:=by have:=p.length;rw[ZBB]at this;lia
 refine⟨_,(@AH _ _ _ _ _ (@AO _ _ 1 _ _ _ _ sc_z44.nd rfl (by right) (AQ BB (@Cs _ _ _ _ (AA AE AB)) (AG (@Cm P w K mg base T) (hr.mono (show 2<=_ by decide)) rfl T.z81.m T.z81.F.kp T.z81.b .nil AD (AA (zq (K:=K) (vv 0) AE) AB))) (by rfl) (by symm)) (@AH _ _ _ _ _ (@CU _ _ _ _ _ _ _ _ PassesOwn.never rfl (Au (K:=K) (zq (K:=K) (vv 0) AE)) (HR (K:=K) (n:=2) rfl (Ad (AM (i:=2) sc_z44.nd rfl (by right)) (Ad (AM (i:=3) sc_z44.nd rfl (by right)) BJ))) (@AI _ _ _ (@Cu _ _ _ _ _ _ (vv 3) (C7 (vv 1) (vv 2) DY) (by rfl) (by rfl) (by rfl))) (by intro _;rfl)) (@AI _ _ _ (@AK _ _ _ _ (vv 1))))),?_⟩;refine⟨smq rfl,λu t=>?_⟩;have s0:=EE.upd (o:=.lst [.int 0]) t;refine⟨_,.int m,.inr (Bw ha s0),rfl,m,rfl,by lia,u,((2^m:Nat):Int),_,rfl,rfl,AF,by lia,by lia,EN (by show 1*((2^m:Nat):Int).toNat<=1000;lia),λl C=>?_⟩;rw[ZBj,WT];dsimp only[AW];have s1:=s0.trans (EE.upd (o:=.lst (ixL (λ_=>0) (2^m))) C);have f:H l=none:=s0.free C;have g1:upd (upd H u (.lst [.int 0])) l (.lst (ixL (λ_=>0) (2^m))) l=some (.lst (ixL (CN ((AL g (2^m)).take 0) (λ_=>0)) (2^m))):=AF;generalize upd (upd H u (.lst [.int 0])) l (.lst (ixL (λ_=>0) (2^m)))=H1 at *;refine⟨_,.ref b,.inr (Bw ha s1),rfl,.inr ⟨⟨_,Bw B s1⟩,?_⟩⟩;refine Ko (xs:=vs) (λi Z H'=>∃y z:Option V,Z=[some (.ref a),some (.ref l),y,z]/\EE H H'/\H' l=some (.lst (ixL (CN ((AL g (2^m)).take i) (λ_=>0)) (2^m)))) ⟨none,none,rfl,s1,g1⟩ (λi Z H' _ ⟨_,_,_,s,_⟩=>Bw B s) ?_ ?_
 ·rintro i x Z H2 M ⟨y,z,rfl,s2,g2⟩;obtain⟨⟨k,R⟩,c,D,rfl,G⟩:=Dl p M;have J:k<2^m:=(CV (ZB3 D)).1;refine⟨_,.inr (Bw G s2),rfl,_,_,rfl,_,_,rfl,rfl,?_⟩;refine⟨_,k,g2,by rw[ixL_len];exact FQ J,?_⟩;refine⟨_,_,rfl,KR s2 f,?_⟩;rw[AF,NP,Te D]
 ·rintro Z H2 ⟨y,z,rfl,s2,g2⟩;rw[ZB0 (by lia),FF (g:=g) λj I=>by rw[Lk,if_pos I]]at g2;exact q l H2 f s2 g2
def FG(K:W.Frag):Sp:=λvs H Q _=>match vs with
 | [v]=>∃(m:Nat) (bs:List Bool),SumAt K H v m (AL (wt m (AC bs)) (2^m))/\m<=6/\bs.length=2^m/\∀p H',H p=none->EE H H'->H' p=some (.tup (bs.map V.bl))->Q (.ref p) H'
 | _=>False
theorem bv:AT (FG K):=λvs H Q f E h q=>by
 unfold FG at *;walk_at "q"
theorem Tj:Ok_ P w base T.z87 4 (FG K):=by
 refine T.z87.F.ok sc_z87 (λvs H Q E h=>by unfold FG at h;walk_at "e") ?_;walk_at "f";have N:AT DA:=FT;have O:AT (Ev K):=Up;have R:AT (EB K):=QK;unfold FG at h;walk_at "g"
 rename_i v;obtain⟨m,bs,S,t,I,q⟩:=h;obtain⟨a,b,vs,rfl,ha,J,M⟩:=id S.at_;have G:2^m<=64:=ZBL (n:=2) (by decide) t;have h0:=ZBn m;refine⟨_,(@AH _ _ _ _ _ (@AO _ _ 1 _ _ _ _ sc_z87.nd rfl (by right) (AG (@HZ P w K mg base T) (hr.mono (show 2<=_ by decide)) rfl T.z37.m T.z37.F.kp T.z37.b .nil AD (AA (AG (@Lv P w K mg base T) (hr.mono (show 3<=_ by decide)) rfl T.z44.m T.z44.F.kp T.z44.b .nil AD (AA (vv 0) AB)) AB)) (by rfl) (by symm)) (@AH _ _ _ _ _ (@AO _ _ 2 _ _ _ _ sc_z87.nd rfl (by right) (AG (@Cm P w K mg base T) (hr.mono (show 2<=_ by decide)) rfl T.z81.m T.z81.F.kp T.z81.b .nil AD (AA (zq (K:=K) (vv 0) AE) AB)) (by rfl) (by symm)) (@AH _ _ _ _ _ (@Av _ _ _ _ _ _ _ _ (Do (BU (AZ (GJ (K:=K) rfl) rfl T.zZ (by rfl) (AA (Af (N':=["top","bottom"]) (own:=1) (ix:=[2]) rfl (Au (K:=K) (vv 1)) (by kernel_rfl) rfl rfl (by kernel_rfl) (λc=>AM (i:=0) (show(["top","bottom"]:List Str).Nodup by decide +kernel) rfl (by right)) (AV (by decide)) (λc=>Ag) (λc=>(BK (kEq (K:=K) hu) (AZ EO rfl T.zW (by rfl) (AA (vv 0) AB)) (vv 1)))) AB)))) (@AI _ _ _ Oj) Aw) (@AI _ _ _ (@AK _ _ _ _ (Bi (B9 (K:=K)) rfl T.zG (by rfl) (AA (@Af _ _ _ _ _ _ _ ["top"] 1 [] _ _ _ _ rfl (Au (K:=K) (vv 1)) (by kernel_rfl) rfl rfl (by kernel_rfl) (λc=>AM (i:=0) (show(["top"]:List Str).Nodup by decide +kernel) rfl (by right)) (AV (by decide)) (λc=>Ag) (λc=>(BK Cy (vv 0) AE)) (by intro _;rfl)) AB))))))),?_⟩;refine⟨m,_,S,t,λW H1 L s1 g1=>⟨_,m,.of g1,t,λl H2 U s2 g2=>?_⟩⟩;have D:ixL (Bj (wt m (AC bs)) m) (2^m)=ixL (λp=>((2^m:Nat):Int)*AC bs p) (2^m):=FF λk g=>by rw[GN g,Th m _ k g]
 rw[D]at g2;have r:=s1.trans s2;dsimp only[AW];refine⟨_,.int m,.inr (Bw ha r),rfl,m,rfl,by lia,?_⟩;dsimp only[AW];have f:zr K H2 l (ixL (λp=>((2^m:Nat):Int)*AC bs p) (2^m)):=.of g2;refine As (λZ H'=>Z=[some (.ref a),some (.ref l),some (.int (2^m:Nat))]/\EE H H'/\zr K H' l (ixL (λp=>((2^m:Nat):Int)*AC bs p) (2^m))) ?_ ?_ (by walk_at "sm")
 ·refine .inl ⟨⟨_,f⟩,?_⟩
  refine Cc (xs:=ixL (λp=>((2^m:Nat):Int)*AC bs p) (2^m)) (λi ys H'=>H'=H2/\ys=(List.replicate i true).map V.bl) ⟨rfl,rfl⟩ (λi ys H' _ ⟨e,_⟩=>by rw[e];exact f) (λi ys H' hi ⟨_,e⟩=>by
   rw[ixL_len]at hi;rw[e,ZBB,ZCi];exact AX (by lia)) ?_ ?_
  ·rintro i x ys H' j ⟨rfl,rfl⟩
   have hi:i<2^m:=by
    have:=(ZBW.mp j).1
    rwa [ixL_len]at this
   rw[CH hi]at j;cases j;refine⟨rfl,?_⟩
   have B:(((((2^m:Nat):Int)*AC bs i).natAbs:Nat):Int)=((2^m:Nat):Int):=by
    unfold AC Cn;cases bs.getD i false <;> simp
   rw[List.replicate_succ',ZBH,B];simp
  ·rintro ys H' ⟨rfl,rfl⟩ k g;rw[ixL_len];refine⟨List.replicate (2^m) true,.of AF,?_⟩;have u:(List.replicate (2^m) true).all id=true:=by simp
   refine Aa (λe=>?_) (λe=>?_)
   ·exfalso;simp at e
   ·exact⟨rfl,r.trans (EE.upd g),(EE.upd g).sqL f⟩
 rintro Z z ⟨rfl,s3,g3⟩;refine .inl ⟨⟨_,g3⟩,?_⟩
 refine Cc (xs:=ixL (λp=>((2^m:Nat):Int)*AC bs p) (2^m)) (λi ys H'=>H'=z/\ys=((List.range i).map (λi=>bs.getD i false)).map V.bl) ⟨rfl,rfl⟩ (λi ys H' _ ⟨e,_⟩=>by rw[e];exact g3) (λi ys H' hi ⟨_,e⟩=>by
  rw[ixL_len]at hi;rw[e,ZBB,ZBB,ZBc];exact AX (by lia)) ?_ ?_
 ·rintro i x ys H' j ⟨rfl,rfl⟩
  have hi:i<2^m:=by
   have:=(ZBW.mp j).1
   rwa [ixL_len]at this
  rw[CH hi]at j;cases j;refine⟨rfl,?_⟩;rw[MI]
  have C:decide (((2^m:Nat):Int)*AC bs i<0)=bs.getD i false:=by
   unfold AC Cn;cases bs.getD i false
   ·rw[if_neg (by decide),ZCs];exact ZBo (by lia)
   ·rw[if_pos rfl];exact ZBK (by lia)
  rw[<- C]
 ·rintro ys H' ⟨rfl,rfl⟩ k g;rw[ixL_len,<- I,ZN];refine⟨_,.inl ⟨.of AF,λp y=>?_⟩⟩;have s4:=s3.trans (EE.upd (o:=.lst (bs.map V.bl)) g);exact q p _ (s4.free y) (s4.trans (EE.upd y)) AF
def K1:Sp:=λvs H Q _=>match vs with
 | [.int x,.int y]=>∃a b:Nat,x=a/\y=b/\Q (.bl (decide (a &&& b=a))) H
 | _=>False
theorem IH:Ok_ P w base T.z82 1 K1:=by
 refine T.z82.F.ok Xk (λvs H Q E h=>by unfold K1 at h;walk_at "e") ?_;walk_at "f";unfold K1 at h;walk_at "g"
 rename_i x y;obtain⟨a,b,f,e2,q⟩:=h;subst f e2;refine⟨_,(@AI _ _ _ (@AK _ _ _ _ (BK (kEq (K:=K) hu) (AQ GU (vv 0) (vv 1)) (vv 0)))),?_⟩
 have e:(false ^^ (Builtin.bitAnd (a:Int) (b:Int)==(a:Int)))=decide (a &&& b=a):=by
  rw[Es,ZB5,ZBv];simp only[beq_iff_eq,decide_eq_true_eq];lia
 show Q (.bl (false ^^ (Builtin.bitAnd (a:Int) (b:Int)==(a:Int)))) H;rw[e];exact q
def ED(K:W.Frag):Sp:=λvs H Q _=>match vs with
 | [v,.int z]=>∃(m o:Nat) (g:Nat->Int),SumAt K H v m (AL g (2^m))/\m<=6/\z=o/\DQ H Q (ixL (inF g o) (2^m))
 | _=>False
theorem Ob:AT (ED K):=λvs H Q f E h q=>by
 unfold ED at *;walk_at "q"
theorem RQ:Ok_ P w base T.z31 4 (ED K):=by
 refine T.z31.F.ok Wr (λvs H Q E h=>by unfold ED at h;walk_at "e") ?_;walk_at "f";unfold ED at h;walk_at "g"
 rename_i v z;obtain⟨m,o,g,S,r,t,q⟩:=h;subst t;have u:2^m<=64:=ZBL (n:=2) (by decide) r;refine⟨_,(@AI _ _ _ (@AK _ _ _ _ (@Af _ _ _ _ _ _ _ (["subset","weight","outer"]) 2 [1] _ _ _ _ rfl (FK (K:=K) rfl T.zE (AA (AG (@Lv P w K mg base T) (hr.mono (show 3<=_ by decide)) rfl T.z44.m T.z44.F.kp T.z44.b .nil AD (AA (vv 0) AB)) AB)) (by kernel_rfl) rfl rfl (by kernel_rfl) (λc=>Bh (K:=K) (n:=2) rfl (Ad (AM (i:=0) (show(["subset","weight","outer"]:List Str).Nodup by decide +kernel) rfl (by right)) (Ad (AM (i:=1) (show(["subset","weight","outer"]:List Str).Nodup by decide +kernel) rfl (by right)) BJ))) (Ba (Al AY (BQ AY Aj) (AV (by decide)) (Al AY Aj (AV (by decide)) Bf))) (λc=>Ag) (λc=>(DV (BU (AG (@IH P w K mg base T) (hr.mono (show 1<=_ by decide)) rfl T.z82.m T.z82.F.kp T.z82.b .nil AD (AA (vv 0) (AA (vv 2) AB)))) (vv 1) AE)) (by intro _;rfl)))),?_⟩;refine⟨m,g,S,r,λB H1 y s1 g1=>⟨⟨_,.of g1⟩,?_⟩⟩;refine Fw (xs:=ixL g (2^m)) (λi zs H'=>EE H1 H'/\zs=ixL (inF g o) i) ⟨EE.refl _,rfl⟩ (λi zs H' _ ⟨s,_⟩=>s.sqL (.of g1)) (λi zs H' hi ⟨_,e⟩=>by rw[ixL_len]at hi;rw[e,ixL_len];exact AX (by lia)) ?_ ?_
 ·rintro i x zs H2 pp j ⟨s2,rfl⟩ f
  have hi:i<2^m:=by
   have:=(ZBW.mp j).1
   rwa [ixL_len]at this
  rw[CH hi]at j;cases j;refine⟨pp,_,rfl,.of AF,rfl,_,_,rfl,_,_,rfl,rfl,?_⟩;refine⟨i,o,rfl,rfl,?_⟩;have k:ixL (inF g o) (i+1)=ixL (inF g o) i++[V.int (if i &&& o=i then g i else 0)]:=E8 _ _;refine Aa (λe=>?_) (λe=>?_)
  ·rw[k,if_pos (ZBY e)];exact⟨s2.trans (EE.upd f),rfl⟩
  ·rw[k,if_neg (λz=>e (ZBK z))];exact⟨s2.trans (EE.upd f),rfl⟩
 ·rintro zs H2 ⟨s2,rfl⟩ l p;rw[ixL_len];exact q l _ ((s1.trans s2).free p) (s1.trans (s2.trans (EE.upd p))) AF
noncomputable def BR(as bs:List Bool)(n:Nat):List Nat:=(List.range n).filter (λi=>gB as i != gB bs i)
theorem LP(as bs:List Bool)(n:Nat):BR as bs (n+1)=BR as bs n++(if (gB as n != gB bs n)=true then [n] else []):=by
 unfold BR;rw[ZBw,ZCR]
 congr 1
 by_cases h:(gB as n != gB bs n)=true
 ·simp only[List.filter_cons,List.filter_nil]
 ·simp only[List.filter_cons,List.filter_nil]
theorem Nt(as bs:List Bool)(n:Nat):(BR as bs n).length<=n:=by
 unfold BR;exact ZBq (ZCq _ _) (by rw[ZBc];exact ZBD _)
def E9(K:W.Frag):Sp:=λvs H Q _=>match vs with
 | [.ref p,.ref r]=>∃(m:Nat) (as bs:List Bool),zj K H p (as.map V.bl)/\zj K H r (bs.map V.bl)/\as.length=2^m/\bs.length=2^m/\m<=6/\∀H',EE H H'->Q (.int ((BR as bs (2^m)).length:Nat)) H'
 | _=>False
theorem Zf:AT (E9 K):=λvs H Q f E h q=>by
 unfold E9 at *;walk_at "q"
theorem Sw:Ok_ P w base T.z42 1 (E9 K):=by
 refine T.z42.F.ok Ys (λvs H Q E h=>by unfold E9 at h;walk_at "e") ?_;walk_at "f";unfold E9 at h;walk_at "g"
 rename_i p r;obtain⟨m,as,bs,o,j,la,lb,v,q⟩:=h;have t:2^m<=64:=ZBL (n:=2) (by decide) v;refine⟨_,(@AI _ _ _ (@AK _ _ _ _ (AZ (BO (K:=K)) rfl T.zP (by rfl) (AA (Af (N':=["place","answer","other"]) (own:=2) (ix:=[1]) rfl (JC (K:=K) rfl T.zE (AA (vv 0) AB)) (by kernel_rfl) rfl rfl (by kernel_rfl) (λc=>Bh (K:=K) (n:=2) rfl (Ad (AM (i:=0) (show(["place","answer","other"]:List Str).Nodup by decide +kernel) rfl (by right)) (Ad (AM (i:=1) (show(["place","answer","other"]:List Str).Nodup by decide +kernel) rfl (by right)) BJ))) (Ba (Al AY (BQ AY Aj) (AV (by decide)) (Al AY Aj (AV (by decide)) Bf))) (λc=>C0 (Ah (kNe (K:=K) hu) (vv 1) (zq (K:=K) (vv 2) (vv 0)))) (λc=>(vv 0))) AB)))),?_⟩;refine⟨⟨_,o⟩,?_⟩
 refine Ig (xs:=as.map V.bl) (λi zs H'=>EE H H'/\zs=iL (BR as bs i)) ⟨EE.refl _,rfl⟩ (λi zs H' _ ⟨s,_⟩=>s.sqT o) (λi zs H' hi ⟨_,e⟩=>by
  rw[ZBB]at hi
  have:=Nt as bs i
  rw[e,Ai];exact AX (by lia)) ?_ ?_
 ·rintro i x zs H' pp k ⟨s,rfl⟩ g
  have hi:i<as.length:=by
   have:=(ZBW.mp k).1
   rwa [ZBB]at this
  have ex:x=.bl (gB as i):=by
   rw[ZBJ,ZBE hi]at k;rw[IP hi];exact(ZBQ k).symm
  subst ex;have s':EE H (upd H' pp (.tup [.int (i:Nat),.bl (gB as i)])):=s.trans (EE.upd g);refine⟨pp,_,rfl,.of AF,rfl,_,_,rfl,_,_,rfl,rfl,_,.bl (gB bs i),.inr (s'.sqT j),K6 (by lia),?_⟩;refine Aa (λe=>?_) (λe=>?_)
  ·refine⟨s',?_⟩
   have f:(gB as i != gB bs i)=true:=by
    revert e;cases gB as i <;> cases gB bs i <;> simp
   rw[LP,if_pos f,CK];rfl
  ·refine⟨s',?_⟩
   have f:¬(gB as i != gB bs i)=true:=by
    revert e;cases gB as i <;> cases gB bs i <;> simp
   rw[LP,if_neg f,ZBs]
 ·rintro zs H' ⟨s,rfl⟩ l u;rw[ZBB,la];exact⟨(BR as bs (2^m)).length,.inl ⟨_,.of AF,by rw[Ai]⟩,q _ (s.trans (EE.upd u))⟩
noncomputable def An(m:Nat)(g:Nat->Int)(o:Nat):List Bool:=(List.range (2^m)).map λp=>decide (wt m (inF g o) p<0)
theorem QI(m:Nat)(g:Nat->Int)(o:Nat):(An m g o).length=2^m:=by unfold An;simp
noncomputable def Dh(as bs:List Bool)(m:Nat):Dv:=.tup [.tup (as.map Dv.bl),.int ((BR as bs (2^m)).length:Nat)]
def JG(K:W.Frag):Sp:=λvs H Q _=>match vs with
 | [v,.int z]=>∃(m o:Nat) (bs:List Bool),SumAt K H v m (AL (wt m (AC bs)) (2^m))/\m<=6/\bs.length=2^m/\z=o/\∀u H',EE H H'->zf K H' (Dh (An m (wt m (AC bs)) o) bs m) u->Q u H'
 | _=>False
theorem Dg:∀bs:List Bool,za K H (bs.map Dv.bl) (bs.map V.bl)
 | []=>Ab
 | b::bs=>AU (by unfold zf;rfl) (Dg bs)
theorem UC:Ok_ P w base T.z71 5 (JG K):=by
 refine T.z71.F.ok sc_z71 (λvs H Q E h=>by unfold JG at h;walk_at "e") ?_;walk_at "f";have R:AT (ED K):=Ob;have U:AT (EB K):=QK;have W:AT (FG K):=bv;have X:AT (E9 K):=Zf;unfold JG at h;walk_at "g"
 rename_i v z;obtain⟨m,o,bs,S,j,y,C,q⟩:=h;subst C;have J:2^m<=64:=ZBL (n:=2) (by decide) j;refine⟨_,(@AH _ _ _ _ _ (@AO _ _ 2 _ _ _ _ sc_z71.nd rfl (by right) (Bi (B9 (K:=K)) rfl T.zG (by rfl) (AA (@Af _ _ _ _ _ _ _ ["top"] 1 [] _ _ _ _ rfl (Au (K:=K) (AG (@HZ P w K mg base T) (hr.mono (show 2<=_ by decide)) rfl T.z37.m T.z37.F.kp T.z37.b .nil AD (AA (AG (@RQ P w K mg base T) (hr.mono (show 4<=_ by decide)) rfl T.z31.m T.z31.F.kp T.z31.b .nil AD (AA (vv 0) (AA (vv 1) AB))) AB))) (by kernel_rfl) rfl rfl (by kernel_rfl) (λc=>AM (i:=0) (show(["top"]:List Str).Nodup by decide +kernel) rfl (by right)) (AV (by decide)) (λc=>Ag) (λc=>(BK Cy (vv 0) AE)) (by intro _;rfl)) AB)) (by rfl) (by symm)) (@AI _ _ _ (@AK _ _ _ _ (BS (AA (vv 2) (AA (AG (@Sw P w K mg base T) (hr.mono (show 1<=_ by decide)) rfl T.z42.m T.z42.F.kp T.z42.b .nil AD (AA (vv 2) (AA (AG (@Tj P w K mg base T) (hr.mono (show 4<=_ by decide)) rfl T.z87.m T.z87.F.kp T.z87.b .nil AD (AA (vv 0) AB)) AB))) AB)))))),?_⟩;refine⟨m,o,_,S,j,rfl,λl0 H1 M s1 g1=>⟨_,m,.of g1,j,λl H2 hl s2 g2=>.inl ⟨⟨_,.of g2⟩,?_⟩⟩⟩;have D:ixL (Bj (inF (wt m (AC bs)) o) m) (2^m)=ixL (wt m (inF (wt m (AC bs)) o)) (2^m):=FF λk r=>GN r
 rw[D]at g2;generalize L:wt m (inF (wt m (AC bs)) o)=G at *;have f:An m (wt m (AC bs)) o=(List.range (2^m)).map λp=>decide (G p<0):=by unfold An;rw[L]
 refine Cc (xs:=ixL G (2^m)) (λi ys H'=>H'=H2/\ys=((List.range i).map (λp=>decide (G p<0))).map V.bl) ⟨rfl,rfl⟩ (λi ys H' _ ⟨e,_⟩=>by rw[e];exact .of g2) (λi ys H' hi ⟨_,e⟩=>by
  rw[ixL_len]at hi;rw[e,ZBB,ZBB,ZBc];exact AX (by lia)) ?_ ?_
 ·rintro i x ys H' t ⟨rfl,rfl⟩
  have hi:i<2^m:=by
   have:=(ZBW.mp t).1
   rwa [ixL_len]at this
  rw[CH hi]at t;cases t;refine⟨rfl,?_⟩;rw[MI]
 ·rintro ys H' ⟨rfl,rfl⟩ k r;rw[ixL_len,<- f];refine⟨_,.inl ⟨.of AF,λp N=>?_⟩⟩;have s4:=(s1.trans s2).trans ((EE.upd (o:=.lst ((An m (wt m (AC bs)) o).map V.bl)) r).trans (EE.upd (o:=.tup ((An m (wt m (AC bs)) o).map V.bl)) N));have u:=AF (H:=upd H' k (.lst ((An m (wt m (AC bs)) o).map V.bl))) (a:=p) (o:=.tup ((An m (wt m (AC bs)) o).map V.bl));generalize upd (upd H' k (.lst ((An m (wt m (AC bs)) o).map V.bl))) p (.tup ((An m (wt m (AC bs)) o).map V.bl))=Y at *;dsimp only[AW];refine⟨m,bs,S.same s4,j,y,λp5 Z O s5 I=>⟨m,An m (wt m (AC bs)) o,bs,.of (s5 _ _ u),.of I,QI _ _ _,y,j,λH6 B=>?_⟩⟩;refine⟨smq rfl,λp7 g=>q _ _ (s4.trans (s5.trans (B.trans (EE.upd g)))) ?_⟩;unfold Dh;exact Ax AF (AU (Ax (EE.upd g _ _ (B _ _ (s5 _ _ u))) (Dg _)) (AU A6 Ab))
noncomputable def BC(v:Nat->Int)(o i r:Nat):Int:=sumTo (λq=>if q &&& o=r then v q else 0) i
theorem Og(z:o<2^m):An m (wt m (AC bs)) o=(List.range (2^m)).map λp=>decide (BC (AC bs) o (2^m) (p &&& o)<0):=by
 unfold An;refine ZCC λp g=>?_
 rw[PO m (AC bs) o p z (ZBV.mp g)];have e:LM m (AC bs) o (p &&& o)=BC (AC bs) o (2^m) (p &&& o):=rfl;rw[e];generalize BC (AC bs) o (2^m) (p &&& o)=x;have h0:(0:Int)<((2^manyF m o:Nat):Int):=by have:=ZBn (manyF m o);lia
 generalize ((2^manyF m o:Nat):Int)=c at *
 by_cases f:x<0
 ·rw[ZBK f,ZBK (Int.mul_neg_of_pos_of_neg h0 f)]
 ·rw[ZBo f,ZBo]
  have:=Int.mul_nonneg (Int.le_of_lt h0) (show 0<=x by lia)
  lia
noncomputable def Am(m k n:Nat):List Nat:=(List.range n).filter λs=>decide (manyF m s=k)
theorem RM(m k n:Nat):Am m k (n+1)=Am m k n++(if manyF m n=k then [n] else []):=by
 unfold Am;rw[ZBw,ZCR]
 congr 1
 by_cases h:manyF m n=k
 ·rw[if_pos h];simp[h]
 ·rw[if_neg h];simp[h]
theorem FO(m k n:Nat):(Am m k n).length<=n:=by
 unfold Am;exact ZBq (ZCq _ _) (by rw[ZBc];exact ZBD _)
theorem FV{x:Nat}(h:x∈Am m k n):x<n:=by
 unfold Am at h;exact ZBV.mp (ZBp.mp h).1
def Ij:Sp:=λvs H Q _=>match vs with
 | [.int x,.int y]=>∃m k:Nat,x=m/\y=k/\m<=6/\DQ H Q (iL (Am m (min m k) (2^m)))
 | _=>False
theorem Jg:Ok_ P w base T.z76 3 Ij:=by
 refine T.z76.F.ok sc_z76 (λvs H Q E h=>by unfold Ij at h;walk_at "e") ?_;walk_at "f";have u:AT DA:=FT;have v:AT DE:=Ho;unfold Ij at h;walk_at "g"
 rename_i x y;obtain⟨m,k,r,e2,t,q⟩:=h;subst r e2;have g:2^m<=64:=ZBL (n:=2) (by decide) t;have i0:(0:Int)<=((2^m:Nat):Int):=ZDA _;have i1:((2^m:Nat):Int)<=64:=ZCb.mpr g;refine⟨_,(@AH _ _ _ _ _ (@AO _ _ 2 _ _ _ _ sc_z76.nd rfl (by right) (AZ (Uq rfl) rfl T.ya (by rfl) (AA (vv 0) (AA (vv 1) AB))) (by rfl) (by symm)) (@AI _ _ _ (@AK _ _ _ _ (@Af _ _ _ _ _ _ _ (["subset","many"]) 1 [2] _ _ _ _ rfl (BG rfl T.zC (AA (AG (@Cm P w K mg base T) (hr.mono (show 2<=_ by decide)) rfl T.z81.m T.z81.F.kp T.z81.b .nil AD (AA (vv 0) AB)) AB)) (by kernel_rfl) rfl rfl (by kernel_rfl) (λc=>AM (i:=0) (show(["subset","many"]:List Str).Nodup by decide +kernel) rfl (by right)) (AV (by decide)) (λc=>C0 (Ah (kEq (K:=K) hu) (AG (@FH P w K mg base T) (hr.mono (show 1<=_ by decide)) rfl T.z74.m T.z74.F.kp T.z74.b .nil AD (AA (vv 0) AB)) (vv 1))) (λc=>(vv 0)) (by intro _;rfl))))),?_⟩;have em:min (m:Int) (k:Int)=((min m k:Nat):Int):=by lia
 refine As (λZ H'=>Z=[some (.int m),some (.int k),some (.int ((min m k:Nat):Int))]/\H=H') ?_ ?_ (by walk_at "sm")
 ·exact⟨by rw[<- em];rfl,rfl⟩
 rintro Z _ ⟨rfl,rfl⟩;refine⟨m,rfl,by lia,((2^m:Nat):Int),rfl,by lia,by lia,?_⟩
 refine CB (λi ys H'=>H'=H/\ys=iL (Am m (min m k) i)) ⟨rfl,rfl⟩ (λi ys H' hi ⟨_,e⟩=>by
  have:=FO m (min m k) i
  rw[e,Ai];exact AX (by lia)) ?_ ?_
 ·rintro i ys H' hi ⟨rfl,rfl⟩;have j:i<2^m:=by lia
  rw[show(0:Int)+(i:Int)=(i:Int) from ZCQ _];refine⟨i,rfl,by lia,?_⟩;rw[EF j (by lia)]
  have o:(false ^^ (((manyF m i:Nat):Int)==((min m k:Nat):Int)))=decide (manyF m i=min m k):=by
   rw[ZB5,ZBv];simp only[beq_iff_eq,decide_eq_true_eq];lia
  refine Aa (λe=>?_) (λe=>?_)
  ·have f:manyF m i=min m k:=ZBY (o▸e);refine⟨rfl,?_⟩;rw[RM,if_pos f,CK];rfl
  ·have f:¬manyF m i=min m k:=λz=>e (o.symm▸ZBK z)
   refine⟨rfl,?_⟩;rw[RM,if_neg f,ZBs]
 ·rintro ys H' ⟨rfl,rfl⟩ l p;rw[ZBj];exact q l _ p (EE.upd p) AF
noncomputable def KF:Dv->Bool
 | .int _=>true
 | _=>false
noncomputable def K7:Dv->Bool
 | .tup ds=>ds.length==2
 | _=>false
def DT(K:W.Frag)(f:Dv->Bool):Sp:=λvs H Q _=>match vs with
 | [v]=>∃d,zf K H d v/\Q (.bl (f d)) H
 | _=>False
theorem Xa{f:Dv->Bool}:AT (DT K f):=λvs H Q g E h q=>by
 unfold DT at *;walk_at "q"
theorem bi:Ok_ P w base T.z68 1 (DT K KF):=by
 refine T.z68.F.ok Yv (λvs H Q E h=>by unfold DT at h;walk_at "e") ?_;walk_at "f";unfold DT at h;walk_at "g"
 rename_i v;obtain⟨d,hd,q⟩:=h;refine⟨_,(@AI _ _ _ (@AK _ _ _ _ (D8 (AZ (EV (K:=K)) rfl T.zF (by rfl) (AA (vv 0) (AA (EY (v:=.ty "int") rfl T.yd (by rfl) rfl) AB))) (D5 (NR (AZ (EV (K:=K)) rfl T.zF (by rfl) (AA (vv 0) (AA (EY (v:=.ty "bool") rfl T.zY (by rfl) rfl) AB)))))))),?_⟩;refine⟨by decide,d,hd,?_⟩;refine Aa (λe=>⟨by decide,d,hd,?_⟩) (λe=>?_)
 ·have:KF d=!CT (tyD d) "bool":=by
   revert e;cases d <;> intro e <;> first | rfl | (simp[CT,tyD]at e;done)
  rw[this]at q;exact q
 ·have:KF d=false:=by
   revert e;cases d <;> intro e <;> first | rfl | exact absurd (show CT _ _=true by simp[CT,tyD]) e
  rw[this]at q;exact q
theorem aO:Ok_ P w base T.z77 1 (DT K K7):=by
 refine T.z77.F.ok bL (λvs H Q E h=>by unfold DT at h;walk_at "e") ?_;walk_at "f";unfold DT at h;walk_at "g"
 rename_i v;obtain⟨d,hd,q⟩:=h;refine⟨_,(@AI _ _ _ (@AK _ _ _ _ (D8 (AZ (EV (K:=K)) rfl T.zF (by rfl) (AA (vv 0) (AA (EY (v:=.ty "tuple") rfl T.zG (by rfl) rfl) AB))) (D5 (BK (kEq (K:=K) hu) (AZ (BO (K:=K)) rfl T.zP (by rfl) (AA (vv 0) AB)) AE))))),?_⟩;refine⟨by decide,d,hd,?_⟩;refine Aa (λe=>?_) (λe=>?_)
 ·cases d with
  | tup ds =>
   obtain⟨a,xs,rfl,hs,f⟩:=BM hd;refine⟨ds.length,.inr ⟨xs,hs,f.length⟩,?_⟩
   have:(false ^^ (((ds.length:Nat):Int)==2))=(ds.length==2):=by
    rw[ZB5,ZBv];simp only[beq_iff_eq];lia
   show Q (.bl (false ^^ (((ds.length:Nat):Int)==2))) H;rw[this];exact q
  | _=>simp[CT,tyD]at e
 ·have:K7 d=false:=by
   revert e;cases d <;> intro e <;> first | rfl | exact absurd (show CT _ _=true by simp[CT,tyD]) e
  rw[this]at q;exact q
def Ju:Sp:=λvs H Q _=>match vs with
 | [.int n,.int i]=>Q (.bl (decide (0<=i)&&decide (i<n))) H
 | _=>False
theorem Vu:Ok_ P w base T.z66 2 Ju:=by
 refine T.z66.F.ok Xe (λvs H Q E h=>by unfold Ju at h;walk_at "e") ?_;walk_at "f";unfold Ju at h;walk_at "g"
 rename_i n i;have q:=h;have q:Q (.bl (decide (0<=i)&&decide (i<n))) H:=q;refine⟨_,(@AI _ _ _ (@AK _ _ _ _ (D8 (AG (@bi P w K mg base T) (hr.mono (show 1<=_ by decide)) rfl T.z68.m T.z68.F.kp T.z68.b .nil AD (AA (vv 1) AB)) (D5 (ZX Ii Cy AE (vv 1) (vv 0)))))),?_⟩;refine⟨.int i,A6,?_⟩;refine Aa (λe=>?_) (λe=>?_)
 ·have f:0<=i:=ZBY e;rw[ZBK f,ZCc]at q;exact q
 ·rw[ZBo (λz=>e (ZBK z)),ZDD]at q;exact q
def Mt:Sp:=λvs H Q _=>match vs with
 | [.int x,.int i]=>∃m:Nat,x=m/\m<=6/\Q (.bl (decide (0<=i)&&decide (i<((2^m:Nat):Int)))) H
 | _=>False
theorem Zh:Ok_ P w base T.z61 3 Mt:=by
 refine T.z61.F.ok Vv (λvs H Q E h=>by unfold Mt at h;walk_at "e") ?_;walk_at "f";unfold Mt at h;walk_at "g"
 rename_i x i;obtain⟨m,f,g,q⟩:=h;subst f;refine⟨_,(@AI _ _ _ (@AK _ _ _ _ (AG (@Vu P w K mg base T) (hr.mono (show 2<=_ by decide)) rfl T.z66.m T.z66.F.kp T.z66.b .nil AD (AA (AG (@Cm P w K mg base T) (hr.mono (show 2<=_ by decide)) rfl T.z81.m T.z81.F.kp T.z81.b .nil AD (AA (vv 0) AB)) (AA (vv 1) AB))))),?_⟩;exact⟨m,rfl,by lia,q⟩
def Ez(K:W.Frag):Sp:=λvs H Q _=>match vs with
 | [.ref tp]=>∃(m:Nat) (bs:List Bool),zj K H tp (bs.map V.bl)/\bs.length=2^m/\1<=m/\m<=6/\∀H',EE H H'->Q (.bl true) H'
 | _=>False
theorem Zr:AT (Ez K):=λvs H Q f E h q=>by
 unfold Ez at *;walk_at "q"
theorem S8:Ok_ P w base T.z59 1 (Ez K):=by
 refine T.z59.F.ok Sa (λvs H Q E h=>by unfold Ez at h;walk_at "e") ?_;walk_at "f";unfold Ez at h;walk_at "g"
 rename_i tp;obtain⟨m,bs,g,p,u,t,q⟩:=h;have o:2^m<=64:=ZBL (n:=2) (by decide) t;refine⟨_,(@AH _ _ _ _ _ (@Av _ _ _ _ _ _ _ _ (PW.pt (Ft (Do (BU (AZ (EV (K:=K)) rfl T.zF (by rfl) (AA (vv 0) (AA (EY (v:=.ty "tuple") rfl T.zG (by rfl) rfl) AB))))) (GQ (Ah (be (K:=K)) (AZ (BO (K:=K)) rfl T.zP (by rfl) (AA (vv 0) AB)) (Qc (v:=.ref T.zN) rfl T.zK rfl))))) (@AI _ _ _ (@AK _ _ _ _ BE)) Aw) (@AI _ _ _ (@AK _ _ _ _ (AZ (GJ (K:=K) rfl) rfl T.zZ (by rfl) (AA (@Af _ _ _ _ _ _ _ ["answer"] 1 [] _ _ _ _ rfl (Au (K:=K) (vv 0)) (by kernel_rfl) rfl rfl (by kernel_rfl) (λc=>AM (i:=0) (show(["answer"]:List Str).Nodup by decide +kernel) rfl (by right)) (AV (by decide)) (λc=>Ag) (λc=>(AZ (EV (K:=K)) rfl T.zF (by rfl) (AA (vv 0) (AA (EY (v:=.ty "bool") rfl T.zY (by rfl) rfl) AB)))) (by intro _;rfl)) AB))))),?_⟩;refine As (λZ H'=>Z=[some (.ref tp)]/\H=H') ?_ ?_ (by walk_at "sm")
 ·refine Hw false ?_ ?_
  ·intro Q q;refine⟨by decide,.tup (bs.map Dv.bl),DD g (Dg bs),2^m,.inr ⟨_,g,by rw[ZBB,p]⟩,_,.inr (T.zJ H),rfl,rfl,?_⟩
   have j:(true ^^ inV (.int ((2^m:Nat):Int)) [.int 2,.int 4,.int 8,.int 16,.int 32,.int 64])=false:=by
    have:m=1\/m=2\/m=3\/m=4\/m=5\/m=6:=by lia
    rcases this with rfl | rfl | rfl | rfl | rfl | rfl <;> rfl
   rw[<- j]at q;exact q
  ·exact Di ⟨rfl,rfl⟩
 rintro Z _ ⟨rfl,rfl⟩;refine .inr ⟨⟨_,g⟩,?_⟩
 refine B6 (xs:=bs.map V.bl) (λi ys H'=>H'=H/\ys=(List.replicate i true).map V.bl) ⟨rfl,rfl⟩ (λi ys H' _ ⟨e,_⟩=>by rw[e];exact g) (λi ys H' hi ⟨_,e⟩=>by
  rw[ZBB]at hi;rw[e,ZBB,ZCi];exact AX (by lia)) ?_ ?_
 ·rintro i w zs H' f ⟨rfl,rfl⟩;rw[ZBJ]at f;cases k:bs[i]? with
  | none=>rw[k]at f;cases f
  | some c =>
   rw[k]at f;cases f;refine⟨by decide,.bl c,Nj,rfl,?_⟩;rw[List.replicate_succ',ZBH];rfl
 ·rintro zs H' ⟨rfl,rfl⟩ l r;refine⟨_,.of AF,?_⟩;have j:(List.replicate (bs.map V.bl).length true).all id=true:=by simp
  show Q (.bl ((List.replicate (bs.map V.bl).length true).all id)) _;rw[j];exact q _ (EE.upd r)
def D3(K:W.Frag):Sp:=λvs H Q _=>match vs with
 | [.ref p]=>∃(m:Nat) (xs:List V),zj K H p xs/\xs.length=2^m/\m<=6/\Q (.int m) H
 | _=>False
theorem QG:AT (D3 K):=λvs H Q f E h q=>by
 unfold D3 at *;walk_at "q"
theorem Kc:Ok_ P w base T.z41 1 (D3 K):=by
 refine T.z41.F.ok Zz (λvs H Q E h=>by unfold D3 at h;walk_at "e") ?_;walk_at "f";unfold D3 at h;walk_at "g"
 rename_i p;obtain⟨m,xs,i,g,j,q⟩:=h;refine⟨_,(@AI _ _ _ (@AK _ _ _ _ (AQ Dt (QQ (K:=K) (AZ (BO (K:=K)) rfl T.zP (by rfl) (AA (vv 0) AB))) AE))),?_⟩;have f:=Ve m (by lia);refine⟨2^m,.inr ⟨_,i,g.symm⟩,rfl,?_⟩;dsimp only[Lp,tC,Kb];rw[f]
 have:((m+1:Nat):Int)-1=(m:Int):=by lia
 rw[this];exact q
def Ie(K:W.Frag):Sp:=λvs H Q _=>match vs with
 | [.int n,.ref p]=>∃(m M:Nat) (g:Nat->Int),n=m/\M<=64/\zr K H p (ixL g M)/\∀v H',EE H H'->zf K H' (CZ m (AL g M)) v->Q v H'
 | _=>False
theorem Ss:Ok_ P w base T.z67 1 (Ie K):=by
 refine T.z67.F.ok V2 (λvs H Q E h=>by unfold Ie at h;walk_at "e") ?_;walk_at "f";unfold Ie at h;walk_at "g"
 rename_i n p;obtain⟨m,M,g,z,D,y,q⟩:=h;subst z;refine⟨_,(@AI _ _ _ (@AK _ _ _ _ (BS (AA (vv 0) (AA (Bi (B9 (K:=K)) rfl T.zG (by rfl) (AA (Af (N':=["subset","weight"]) (own:=2) (ix:=[]) rfl (FK (K:=K) rfl T.zE (AA (vv 1) AB)) (by kernel_rfl) rfl rfl (by kernel_rfl) (λc=>Bh (K:=K) (n:=2) rfl (Ad (AM (i:=0) (show(["subset","weight"]:List Str).Nodup by decide +kernel) rfl (by right)) (Ad (AM (i:=1) (show(["subset","weight"]:List Str).Nodup by decide +kernel) rfl (by right)) BJ))) (Ba (Al AY (BQ AY Aj) (AV (by decide)) (Al AY Aj (AV (by decide)) Bf))) (λc=>C0 (Ah (kNe (K:=K) hu) (vv 1) AE)) (λc=>(BS (AA (vv 0) (AA (vv 1) AB))))) AB)) AB))))),?_⟩;refine⟨⟨_,y⟩,?_⟩
 refine Fw (xs:=ixL g M) (λi zs H'=>EE H H'/\za K H' ((AL g i).map C1) zs/\zs.length<=i) ⟨EE.refl _,Ab,ZBD _⟩
  (λi zs H' _ ⟨s,_,_⟩=>JY y λo e=>s _ _ e) (λi zs H' hi ⟨_,_,e⟩=>by rw[ixL_len]at hi;exact AX (by lia)) ?_ ?_
 ·rintro i x zs H1 pp r ⟨s1,r1,l1⟩ t
  have hi:i<M:=by
   have:=(ZBW.mp r).1
   rw[ixL_len]at this;exact this
  have ex:x=.int (g i):=by
   unfold ixL at r;rw[ZBJ,ZBx hi]at r;exact(ZBQ r).symm
  subst ex;refine⟨pp,_,rfl,.of AF,rfl,_,_,rfl,_,_,rfl,rfl,?_⟩;have s2:EE H1 (upd H1 pp (.tup [.int i,.int (g i)])):=EE.upd t;have B:AL g (i+1)=AL g i++(if g i=0 then [] else [(i,g i)]):=rfl;generalize upd H1 pp (.tup [.int i,.int (g i)])=H2 at *;rw[B];refine Aa (λe=>?_) (λe=>?_)
  ·have u:¬g i=0:=by simpa using e
   rw[if_neg u,ZBH];refine⟨smq rfl,λk j=>⟨s1.trans (s2.trans (EE.upd j)),?_,by rw[ZBS];exact Nat.succ_le_succ l1⟩⟩;exact za.append (za.same (s2.trans (EE.upd j)) _ _ r1) (AU (Ax (xs:=[.int i,.int (g i)]) AF (AU A6 (AU A6 Ab))) Ab)
  ·have u:g i=0:=by simpa using e
   rw[if_pos u,ZBs];exact⟨s1.trans s2,za.same s2 _ _ r1,ZDH l1⟩
 rintro zs H1 ⟨s1,r1,_⟩ l C;rw[ixL_len]at r1;refine⟨_,.inl ⟨.of AF,λk j=>⟨smq rfl,λG f=>?_⟩⟩⟩;have v:=EE.upd (o:=.lst zs) C;have S:=(EE.upd (o:=.tup zs) j).trans (EE.upd (o:=.tup [.int m,.ref k]) f);refine q _ _ (s1.trans (v.trans S)) ?_;refine Ax AF (AU A6 (AU (Ax (xs:=zs) ?_ (za.same (v.trans S) _ _ r1)) Ab));exact EE.upd f _ _ AF
def Ey(K:W.Frag):Sp:=λvs H Q _=>match vs with
 | [.ref p]=>∃(m:Nat) (bs:List Bool),m<=6/\bs.length=2^m/\zj K H p (bs.map V.bl)/\∀v H',EE H H'->SumAt K H' v m (AL (wt m (AC bs)) (2^m))->Q v H'
 | _=>False
theorem Yw:AT (Ey K):=λvs H Q f E h q=>by
 unfold Ey at *;walk_at "q"
theorem QM:Ok_ P w base T.z83 3 (Ey K):=by
 refine T.z83.F.ok sc_z83 (λvs H Q E h=>by unfold Ey at h;walk_at "e") ?_;walk_at "f";unfold Ey at h;walk_at "g"
 rename_i p;obtain⟨m,bs,o,r,g,q⟩:=h;refine⟨_,(@AH _ _ _ _ _ (@C6 _ _ _ _ _ _ _ ["answer"] 1 [] _ _ _ _ 1 _ _ _ rfl sc_z83.nd rfl rfl (Au (K:=K) (vv 0)) (by kernel_rfl) rfl rfl (by kernel_rfl) (λc=>AM (i:=0) (show(["answer"]:List Str).Nodup by decide +kernel) rfl (by right)) (AV (by decide)) (λc=>Ag) (λc=>(DV (BU (vv 0)) (FL Fk AE) AE)) (by rfl) (by intro _;rfl)) (@AI _ _ _ (@AK _ _ _ _ (AG (@Ss P w K mg base T) (hr.mono (show 1<=_ by decide)) rfl T.z67.m T.z67.F.kp T.z67.b .nil AD (AA (AG (@Kc P w K mg base T) (hr.mono (show 1<=_ by decide)) rfl T.z41.m T.z41.F.kp T.z41.b .nil AD (AA (vv 0) AB)) (AA (AG (@HZ P w K mg base T) (hr.mono (show 2<=_ by decide)) rfl T.z37.m T.z37.F.kp T.z37.b .nil AD (AA (vv 1) AB)) AB)))))),?_⟩;have f:2^m<=64:=ZBL (n:=2) (by decide) o;have t:AL (Bj (AC bs) m) (2^m)=AL (wt m (AC bs)) (2^m):=Pw λj u=>GN u
 rw[<- t]at q;refine .inr ⟨⟨_,g⟩,?_⟩
 refine B6 (xs:=bs.map V.bl) (λi ys H'=>H=H'/\ys=ixL (AC bs) i) ⟨rfl,rfl⟩ (λi ys H' _ ⟨e,_⟩=>by rw[<- e];exact g) (λi ys H' hi ⟨_,e⟩=>by
  rw[ZBB]at hi;rw[e,ixL_len];exact AX (by lia)) ?_ ?_
 ·rintro i x ys H' k ⟨rfl,rfl⟩
  have hi:i<bs.length:=by
   have:=(ZBW.mp k).1
   rw[ZBB]at this;exact this
  have ex:x=.bl (gB bs i):=by
   rw[ZBJ,ZBE hi]at k;rw[IP hi];exact(ZBQ k).symm
  subst ex;have ev:AC bs i=if gB bs i=true then -1 else 1:=rfl
  refine Aa (λe=>?_) (λe=>?_)
  ·refine⟨rfl,?_⟩;rw[E8,ev,if_pos e]
  ·refine⟨rfl,?_⟩;rw[E8,ev,if_neg e]
 rintro ys H' ⟨rfl,rfl⟩ l y;rw[ZBB,r];have s0:EE H (upd H l (.lst (ixL (AC bs) (2^m)))):=EE.upd y;refine⟨m,_,Bw g s0,by rw[ZBB];exact r,o,AC bs,m,.of AF,o,λp2 H2 B s2 g2=>?_⟩;exact⟨m,2^m,Bj (AC bs) m,rfl,f,.of g2,λv H' s' z=>q v H' (s0.trans (s2.trans s')) (.of z)⟩
def Eb(K:W.Frag):Sp:=λvs H Q _=>match vs with
 | [v]=>∃(m:Nat) (g:Nat->Int),SumAt K H v m (AL g (2^m))/\Q (.int (orL 0 (AL g (2^m)):Nat)) H
 | _=>False
theorem aH:AT (Eb K):=λvs H Q f E h q=>by
 unfold Eb at *;walk_at "q"
theorem OT:Ok_ P w base T.z62 1 (Eb K):=by
 refine T.z62.F.ok sc_z62 (λvs H Q E h=>by unfold Eb at h;walk_at "e") ?_;walk_at "f";unfold Eb at h;walk_at "g"
 rename_i v;obtain⟨m,g,S,q⟩:=h;obtain⟨a,b,vs,rfl,ha,p,f⟩:=id S.at_;have u:vs.length=(AL g (2^m)).length:=by have:=f.length;rw[ZBB]at this;lia
 generalize AL g (2^m)=ts at *;refine⟨_,(@AH _ _ _ _ _ (@AO _ _ 1 _ _ _ _ sc_z62.nd rfl (by right) AE (by rfl) (by symm)) (@AH _ _ _ _ _ (@CU _ _ _ _ _ _ _ _ PassesOwn.never rfl (Au (K:=K) (zq (K:=K) (vv 0) AE)) (HR (K:=K) (n:=2) rfl (Ad (AM (i:=2) sc_z62.nd rfl (by right)) (Ad (AM (i:=3) sc_z62.nd rfl (by right)) BJ))) (@AI _ _ _ (@AO _ _ 1 _ _ _ _ sc_z62.nd rfl (by right) (AQ Rx (vv 1) (vv 2)) (by rfl) (by symm))) (by intro _;rfl)) (@AI _ _ _ (@AK _ _ _ _ (vv 1))))),?_⟩;refine⟨_,.ref b,.inr ha,rfl,.inr ⟨⟨_,p⟩,?_⟩⟩;refine Ko (xs:=vs) (λi Z H'=>H'=H/\∃l o:Option V,Z=[some (.ref a),some (.int (orL 0 (ts.take i):Nat)),l,o]) ⟨rfl,none,none,rfl⟩ (λi Z H' _ ⟨e,_⟩=>by rw[e];exact p) ?_ ?_
 ·rintro i x Z H' y ⟨rfl,l,o,rfl⟩;obtain⟨⟨k,j⟩,c,t,rfl,r⟩:=Dl f y;refine⟨_,.inr r,rfl,_,_,rfl,_,_,rfl,rfl,?_⟩;refine⟨rfl,some (.int k),some (.int j),?_⟩;rw[YI t,<- Y4];rfl
 ·rintro Z H' ⟨rfl,l,o,rfl⟩;rw[ZB0 (by lia)];exact q
theorem Pk(f g:Nat->Int):∀n,((AL f n).map λt=>t.2*g t.1).sum=sumTo (λj=>f j*g j) n
 | 0=>rfl
 | n+1=>by
  show((AL f n++(if f n=0 then [] else [(n,f n)])).map λt=>t.2*g t.1).sum=sumTo (λj=>f j*g j) n+f n*g n
  rw[ZBH,List.sum_append,Pk f g n]
  by_cases e:f n=0
  ·rw[if_pos e,e];simp
  ·rw[if_neg e];simp
def Ka(K:W.Frag):Sp:=λvs H Q _=>match vs with
 | [.ref p,.ref l,.int z]=>∃(m:Nat) (f g:Nat->Int) (us:List V),zj K H p us/\za K H ((AL f (2^m)).map C1) us/\zr K H l (ixL g (2^m))/\z=0/\m<=6/\CA g/\∀H',EE H H'->Q (.int (sumTo (λj=>f j*g j) (2^m))) H'
 | _=>False
theorem X4:FnOk P w K mg base CX0 1 T.yk T.yh ["terms","weights","apart"] (Ka K):=by
 refine T.yp.ok X5 (λvs H Q E h=>by unfold Ka at h;walk_at "e") ?_;walk_at "f";unfold Ka at h;walk_at "g"
 rename_i p l z;obtain⟨m,f,g,us,u,r,L,y,R,G,q⟩:=h;subst y;have C:2^m<=64:=ZBL (n:=2) (by decide) R;have N:us.length=(AL f (2^m)).length:=by have:=r.length;rw[ZBB]at this;lia
 have M:=Ee f (2^m);have j:=λ{t} (h:t∈AL f (2^m))=>(CV h).1
 rw[<- Pk]at q;refine⟨_,(@AI _ _ _ (@AK _ _ _ _ (AZ (DJ (K:=K) rfl) rfl T.zV (by rfl) (AA (Af (N':=["subset","weight","weights","apart"]) (own:=2) (ix:=[1,2]) rfl (Au (K:=K) (vv 0)) (by kernel_rfl) rfl rfl (by kernel_rfl) (λc=>Bh (K:=K) (n:=2) rfl (Ad (AM (i:=0) (show(["subset","weight","weights","apart"]:List Str).Nodup by decide +kernel) rfl (by right)) (Ad (AM (i:=1) (show(["subset","weight","weights","apart"]:List Str).Nodup by decide +kernel) rfl (by right)) BJ))) (Ba (Al AY (BQ AY Aj) (AV (by decide)) (Al AY Aj (AV (by decide)) Bf))) (λc=>Ag) (λc=>(AQ BB (vv 1) (zq (K:=K) (vv 2) (AQ U4 (vv 0) (vv 3)))))) AB)))),?_⟩;generalize AL f (2^m)=ts at *;refine .inr ⟨⟨_,u⟩,?_⟩
 refine B6 (xs:=us) (λi ys H'=>H'=H/\ys=((ts.take i).map λt=>t.2*g t.1).map V.int) ⟨rfl,rfl⟩ (λi ys H' _ ⟨e,_⟩=>by rw[e];exact u) (λi ys H' hi ⟨_,e⟩=>by
  rw[e,ZBB,ZBB,ZBi];exact AX (by lia)) ?_ ?_
 ·rintro i x ys H' O ⟨rfl,rfl⟩;obtain⟨⟨k,S⟩,c,v,rfl,D⟩:=Dl r O;have J:k<2^m:=j (ZB3 v)
  have B:Builtin.bitXor (k:Int) 0=(k:Int):=by
   have:=bY k 0
   rw[Nat.xor_zero]at this;exact this
  have I:=G k;refine⟨c,_,rfl,D,rfl,_,_,rfl,_,_,rfl,rfl,_,.int (g k),.inl L,by rw[B];exact E6 J,.inr (.inr ⟨by lia,by lia⟩),rfl,?_⟩;rw[ZBl,v,ZBH,ZBH];rfl
 ·rintro ys H' ⟨rfl,rfl⟩ U o;rw[ZB0 (by lia)];exact⟨_,.of AF,q _ (EE.upd o)⟩
def ES(K:W.Frag):Sp:=λvs H Q _=>match vs with
 | [v,u]=>∃(m:Nat) (as bs:List Bool),SumAt K H v m (AL (wt m (AC as)) (2^m))/\SumAt K H u m (AL (wt m (AC bs)) (2^m))/\m<=6/\∀H',EE H H'->Q (.int (sumTo (λp=>AC as p*AC bs p) (2^m))) H'
 | _=>False
theorem bu:AT (ES K):=λvs H Q f E h q=>by
 unfold ES at *;walk_at "q"
theorem XZ:Ok_ P w base T.z72 4 (ES K):=by
 have g:=@X4 P w K mg base T;refine T.z72.F.ok UP (λvs H Q E h=>by unfold ES at h;walk_at "e") ?_;walk_at "f";have f:=hr.mono (show 1<=_ by decide);unfold ES at h;walk_at "g"
 rename_i v u;obtain⟨m,as,bs,S,r,i,q⟩:=h;obtain⟨a,b,us,rfl,ha,x,t⟩:=id S.at_;have k:2^m<=64:=ZBL (n:=2) (by decide) i;have h0:=ZBn m;have i1:((2^m:Nat):Int)<=64:=ZCb.mpr k;have i0:(0:Int)<((2^m:Nat):Int):=by lia
 refine⟨_,(@AI _ _ _ (@AK _ _ _ _ (AQ Db (AG g f rfl T.Z0g T.yp.kp T.Z0h .nil AD (AA (zq (K:=K) (vv 0) AE) (AA (AG (@Lv P w K mg base T) (hr.mono (show 3<=_ by decide)) rfl T.z44.m T.z44.F.kp T.z44.b .nil AD (AA (vv 1) AB)) (AA AE AB)))) (AG (@Cm P w K mg base T) (hr.mono (show 2<=_ by decide)) rfl T.z81.m T.z81.F.kp T.z81.b .nil AD (AA (zq (K:=K) (vv 0) AE) AB))))),?_⟩;refine⟨_,.ref b,.inr ha,rfl,m,_,r,i,λl H1 y s1 g1=>?_⟩;refine⟨m,_,_,us,Bw x s1,za.same s1 _ _ t,.of g1,rfl,i,FW i bs,λH2 s2=>?_⟩;refine⟨_,.int m,.inr (Bw ha (s1.trans s2)),rfl,m,rfl,by lia,BZ (by lia) (ZC4 i1 (by decide)),?_⟩;have o:=q H2 (s1.trans s2)
 have e:sumTo (λj=>wt m (AC as) j*wt m (AC bs) j) (2^m) / ((2^m:Nat):Int)=sumTo (λp=>AC as p*AC bs p) (2^m):=by
  rw[LX,Int.mul_ediv_cancel_left _ (by lia)]
 rw[<- e]at o;exact o
noncomputable def pickI(G:Nat->Int):Nat->Nat
 | 0=>0
 | n+1=>if G (n+1)<G (pickI G n) then n+1 else pickI G n
theorem Fl(G:Nat->Int):∀n,pickI G n<=n
 | 0=>ZBD _
 | n+1=>by
  unfold pickI
  have:=Fl G n
  split <;> lia
theorem HW(G:Nat->Int):∀n j,j<=n->G (pickI G n)<=G j/\(j<pickI G n->G (pickI G n)<G j)
 | 0,j,h=>by
  have:j=0:=by lia
  subst this;exact⟨Int.le_refl _,λh=>absurd h (ZBa _)⟩
 | n+1,j,h=>by
  have f:=Fl G n;unfold pickI
  by_cases c:G (n+1)<G (pickI G n)
  ·rw[if_pos c]
   by_cases e:j=n+1
   ·subst e;exact⟨Int.le_refl _,λh=>absurd h (ZBa _)⟩
   ·have:=(HW G n j (by lia)).1
    exact⟨by lia,λ_=>by lia⟩
  ·rw[if_neg c]
   by_cases e:j=n+1
   ·subst e;exact⟨by lia,λh=>by lia⟩
   ·exact HW G n j (by lia)
theorem Zm{ks:List Int}(h:JV ks i):i=pickI (λj=>ks.getD j 0) (ks.length-1):=by
 obtain⟨h1,h2⟩:=h;have f:=Fl (λj=>ks.getD j 0) (ks.length-1);have a:=h2 (pickI (λj=>ks.getD j 0) (ks.length-1)) (by lia);have b:=HW (λj=>ks.getD j 0) (ks.length-1) i (by lia)
 rcases ZCn i (pickI (λj=>ks.getD j 0) (ks.length-1)) with c | c | c
 ·have:=b.2 c;have:=a.1;lia
 ·exact c
 ·have:=a.2 c;have:=b.1;lia
theorem M2:∀m j,j<=m->∃s,s<2^m/\manyF m s=j
 | 0,j,h=>⟨0,by decide,by have:j=0:=by lia
                          subst this;rfl⟩
 | m+1,0,_=>⟨0,ZBn _,FI _⟩
 | m+1,j+1,h=>by
  obtain⟨s,h1,h2⟩:=M2 m j (by lia);refine⟨2*s+1,by rw[ZBf];lia,?_⟩
  show(2*s+1)%2+manyF m ((2*s+1) / 2)=j+1
  rw[show(2*s+1) / 2=s by lia,h2];lia
theorem Qs(m k:Nat):0<(Am m (min m k) (2^m)).length:=by
 obtain⟨s,h1,h2⟩:=M2 m (min m k) (by lia);refine ZDY (a:=s) ?_;unfold Am;exact ZBp.mpr ⟨ZBV.mpr h1,ZBK h2⟩
noncomputable def distO(m:Nat)(bs:List Bool)(o:Nat):Nat:=(BR (An m (wt m (AC bs)) o) bs (2^m)).length
noncomputable def C8(m k:Nat)(bs:List Bool)(i:Nat):Int:=(distO m bs ((Am m (min m k) (2^m)).getD i 0):Nat)
noncomputable def BN(m k:Nat)(bs:List Bool)(n:Nat):Nat:=(Am m (min m k) (2^m)).getD (pickI (C8 m k bs) n) 0
noncomputable def N4(m k:Nat)(bs:List Bool)(n:Nat):Dv:=Dh (An m (wt m (AC bs)) (BN m k bs n)) bs m
noncomputable abbrev BI(m k:Nat):Nat:=(Am m (min m k) (2^m)).length-1
theorem P8{as:List Bool}{u:V}(h:zf K H (Dh as bs m) u):∃a x,u=.ref a/\zj K H a [x,.int ((BR as bs (2^m)).length:Nat)]:=by
 unfold Dh at h;obtain⟨a,xs,e,h1,h2⟩:=BM h;unfold za at h2;obtain⟨x,r,rfl,_,f⟩:=h2;unfold za at f;obtain⟨y,r,rfl,g,i⟩:=f;unfold za at i;unfold zf at g;subst g i;exact⟨a,x,e,h1⟩
def MT(K:W.Frag)(Pt:Addr):Sp:=λvs H Q _=>match vs with
 | [v,.int z]=>∃(m k:Nat) (bs:List Bool),SumAt K H v m (AL (wt m (AC bs)) (2^m))/\m<=6/\bs.length=2^m/\z=k/\zx Pt CL CD H /\
  ∀u H',zu Pt H H'->zx Pt CL CD H'->zf K H' (N4 m k bs (BI m k)) u->Q u H'
 | _=>False
noncomputable def bestsAt(K:W.Frag)(H:Hp)(m k:Nat)(bs:List Bool)(i:Nat)(ys:List V):Prop :=
 ys.length=i/\∀j<i,∃u,ys[j]?=some u/\zf K H (Dh (An m (wt m (AC bs)) ((Am m (min m k) (2^m)).getD j 0)) bs m) u
theorem bestsAt.same{ys:List V}(h:bestsAt K H m k bs i ys)(s:EE H H'):bestsAt K H' m k bs i ys :=
 ⟨h.1,λj f=>let ⟨u,e,r⟩:=h.2 j f;⟨u,e,zf.same s _ _ r⟩⟩
theorem N6(B:BMn mg base):Ok_ P w base T.z75 6 (MT K T.zU):=by
 refine T.z75.F.okC T.Z0d V8 (λvs H Q E h=>by unfold MT at h;walk_at "e") (λA outer s H vs Q E hr h=>?_);have hu:=AS hr;unfold MT at h;walk_at "g"
 rename_i v z;obtain⟨m,k,bs,S,N,hb,g,W,q⟩:=h;subst g;have a0:2^m<=64:=ZBL (n:=2) (by decide) N;have zw:=Qs m k;have a3:=FO m (min m k) (2^m);refine⟨_,(@AI _ _ _ (@AK _ _ _ _ (WD (c:=T.ym) (Pt:=T.zU) (n:=1) (qual:=CD) (Af (N':=["subset","one"]) (own:=1) (ix:=[0]) rfl (Au (K:=K) (AG (@Jg P w K mg base T) (hr.mono (show 3<=_ by decide)) rfl T.z76.m T.z76.F.kp T.z76.b .nil AD (AA (zq (K:=K) (vv 0) AE) (AA (vv 1) AB)))) (by kernel_rfl) rfl rfl (by kernel_rfl) (λc=>AM (i:=0) (show(["subset","one"]:List Str).Nodup by decide +kernel) rfl (by right)) (AV (by decide)) (λc=>Ag) (λc=>(AG (@UC P w K mg base T) (hr.mono (show 5<=_ by decide)) rfl T.z71.m T.z71.F.kp T.z71.b .nil AD (AA (vv 1) (AA (vv 0) AB))))) T.ya (hr.mono (by decide)) rfl rfl T.Z0b B rfl rfl (by decide) rfl rfl (λ_ _ _ _=>rfl) rfl rfl rfl rfl (by decide) (by decide)))),?_⟩;obtain⟨a,vs,ev,J,L⟩:=BM S.rep
 have ha:atI vs 0=some (.int (m:Int)):=by
  obtain⟨x,g,e2⟩:=L.get (i:=0) (d:=.int (m:Int)) rfl;unfold zf at e2;subst e2;exact Ak rfl g
 subst ev;refine⟨_,_,.inr J,ha,m,k,rfl,rfl,N,λl H1 hl s1 g1=>.inl ⟨⟨_,.of g1⟩,?_⟩⟩
 refine Cc (xs:=iL (Am m (min m k) (2^m))) (λi ys H'=>EE H1 H'/\bestsAt K H' m k bs i ys) ⟨EE.refl _,rfl,λj D=>absurd D (ZC8 _)⟩ (λi ys H' _ ⟨s,_⟩=>.of (s _ _ g1)) (λi ys H' hi ⟨_,e⟩=>by
  rw[Ai]at hi;rw[e.1];exact AX (by lia)) ?_ ?_
 ·rintro i x ys H' hx ⟨s2,f⟩;obtain⟨o,ho,_,rfl⟩:=DB hx;have O:=s1.trans s2;refine⟨m,o,bs,S.same O,N,hb,rfl,λu H2 s3 r3=>⟨s2.trans s3,?_,?_⟩⟩
  ·rw[ZBS,f.1];rfl
  ·intro j D
   by_cases e:j=i
   ·subst e;refine⟨u,by rw[ZCt (by rw[f.1];exact ZBD _),f.1,Nat.sub_self];rfl,?_⟩;have Z:(Am m (min m k) (2^m)).getD j 0=o:=by rw[ZBO,ho];rfl
    rw[Z];exact r3
   ·obtain⟨y,g,e2⟩:=f.2 j (by lia);exact⟨y,by rw[ZCu (by rw[f.1];lia)];exact g,zf.same s3 _ _ e2⟩
 ·rintro ys H2 ⟨s2,f⟩ M I;rw[Ai]at f;have s3:=EE.upd (o:=.lst ys) I;have r:=f.same s3;have g3:=AF (H:=H2) (a:=M) (o:=.lst ys);have sa:=s1.trans (s2.trans s3);generalize upd H2 M (.lst ys)=H3 at *;generalize C:Am m (min m k) (2^m)=p at *;refine⟨M,ys,p.map λo=>((distO m bs o:Nat):Int),rfl,g3,by rw[f.1];exact zw,by rw[ZBB,f.1],λi hi=>?_,W.same sa,λi u H4 hm t V G=>?_⟩
  ·rw[f.1]at hi;obtain⟨y,g,e2⟩:=r.2 i hi;obtain⟨b,x,X,Y⟩:=P8 e2;subst X;refine⟨b,_,g,Y,?_⟩;rw[C];show some _=some _
   congr 2
   simp[ZBO,ZBJ,ZBE hi,distO]
  ·have hi:i<p.length:=by have:=hm.1;rwa [ZBB]at this
   have U:=Zm hm;rw[ZBB]at U
   have R:∀j,j<p.length->(p.map λo=>((distO m bs o:Nat):Int)).getD j 0=C8 m k bs j:=λj D=>by
    unfold C8;rw[C];simp[ZBO,ZBJ,ZBE D]
   have ep:∀n,n<p.length->pickI (λj=>(p.map λo=>((distO m bs o:Nat):Int)).getD j 0) n=pickI (C8 m k bs) n:=λn=>by
    induction n with
    | zero=>intro _;rfl
    | succ n ih =>
     intro hn;unfold pickI
     have:=Fl (C8 m k bs) n
     rw[ih (by lia),R _ hn,R _ (by lia)]
   obtain⟨y,g,e2⟩:=r.2 i hi;rw[g]at t;cases t;obtain⟨ps,hP,_⟩:=id W;refine q _ _ (λb o n e=>V b o n (sa b o e)) G (zf.tab V (sa _ _ hP) _ _ ?_);unfold N4 BN BI;rw[C,<- ep _ (by lia),<- U];rw[C]at e2;exact e2
noncomputable def kvL(v:Nat->Int)(o i:Nat)(rs:List Nat):List (Key×V):=rs.map λr=>(Sum.inl ((r:Nat):Int),V.int (BC v o i r))
theorem Rr(v:Nat->Int)(o i r:Nat):∀rs:List Nat,valV (kvL v o i rs) (.inl ((r:Nat):Int))=if r∈rs then some (.int (BC v o i r)) else none
 | []=>rfl
 | x::rs=>by
  have f:=Rr v o i r rs
  by_cases e:x=r
  ·subst e;rw[if_pos ZBh];exact CJ rfl
  ·have h1:¬(Sum.inl ((x:Nat):Int):Key)=.inl ((r:Nat):Int):=λz=>e (by have:=Sum.inl.inj z;lia)
   show valV ((Sum.inl ((x:Nat):Int),V.int (BC v o i x))::kvL v o i rs) _=_;rw[CQ h1,f]
   by_cases hm:r∈rs
   ·rw[if_pos hm,if_pos (ZBd _ hm)]
   ·rw[if_neg hm,if_neg (λz=>(ZBI.mp z).elim (λz=>e z.symm) hm)]
theorem FR(v:Nat->Int)(o i r:Nat):BC v o (i+1) r=BC v o i r+(if i &&& o=r then v i else 0):=rfl
structure RsAt(o i:Nat)(rs:List Nat):Prop where
 nd:rs.Nodup
 has:∀p,p<i->(p &&& o)∈rs
 only:∀r∈rs,∃p,p<i/\p &&& o=r
 len:rs.length<=i
theorem RsAt.put{v:Nat->Int}{rs:List Nat}(R:RsAt o i rs):∃G,RsAt o (i+1) G/\BH (kvL v o i rs) (.inl ((i &&& o:Nat):Int)) (.int (BC v o i (i &&& o)+v i))=kvL v o (i+1) G:=by
 have f:=Rr v o i (i &&& o) rs
 by_cases hm:(i &&& o)∈rs
 ·refine⟨rs,⟨R.nd,λp j=>?_,λr hr=>?_,ZDH R.len⟩,?_⟩
  ·by_cases e:p=i
   ·subst e;exact hm
   ·exact R.has p (by lia)
  ·obtain⟨p,h1,h2⟩:=R.only r hr;exact⟨p,by lia,h2⟩
  ·unfold BH;rw[if_pos (by rw[FA,f,if_pos hm];rfl)];unfold kvL;rw[ZBg];refine ZCC λr hr=>?_
   show(if (Sum.inl ((r:Nat):Int):Key)=.inl ((i &&& o:Nat):Int) then _ else _)=_
   by_cases e:r=i &&& o
   ·subst e;rw[if_pos rfl,FR,if_pos rfl]
   ·rw[if_neg (λz=>e (by have:=Sum.inl.inj z;lia)),FR,if_neg (Ne.symm e),Int.add_zero]
 ·refine⟨rs++[i &&& o],⟨?_,λp j=>?_,λr hr=>?_,by rw[ZBS];exact Nat.succ_le_succ R.len⟩,?_⟩
  ·rw[List.nodup_append];refine⟨R.nd,by simp,λa ha b g=>?_⟩;rw[ZBX.mp g];exactλz=>hm (z▸ha)
  ·by_cases e:p=i
   ·subst e;exact ZBe _ ZBh
   ·exact ZCK _ (R.has p (by lia))
  ·rcases ZCB.mp hr with hr | hr
   ·obtain⟨p,h1,h2⟩:=R.only r hr;exact⟨p,by lia,h2⟩
   ·exact⟨i,by lia,(ZBX.mp hr).symm⟩
  ·rw[WB _ (by rw[f,if_neg hm])];unfold kvL;rw[ZBH]
   congr 1
   ·refine ZCC λr hr=>?_
    have hn:¬i &&& o=r:=λz=>hm (by rw[z];exact hr)
    rw[FR,if_neg hn,Int.add_zero]
   ·show [_]=[(Sum.inl ((i &&& o:Nat):Int),V.int (BC v o (i+1) (i &&& o)))];rw[FR,if_pos rfl]
theorem Ps{x:Nat}:∀{rs:List Nat},rs.Nodup->x∈rs->(rs.map λr=>if x=r then y else 0).sum=y
 | [],_,h=>nomatch h
 | r::rs,nd,h=>by
  rw[ZBU,ZCE];obtain⟨i,j⟩:=ZCh.mp nd
  by_cases e:x=r
  ·subst e;rw[if_pos rfl]
   have z:∀ts:List Nat,x∉ts->(ts.map λr=>if x=r then y else 0).sum=0:=λts=>by
    induction ts with
    | nil=>intro _;rfl
    | cons t ts g =>
     intro hn;have f:¬x=t:=λz=>hn (by rw[z];exact ZBh)
     rw[ZBU,ZCE,if_neg f,g λz=>hn (ZBd _ z)];rfl
   rw[z rs i,Int.add_zero]
  ·rw[if_neg e,Ps j ((ZBI.mp h).resolve_left e),ZCQ]
theorem Os(f g:Nat->Int):∀rs:List Nat,(rs.map λr=>f r+g r).sum=(rs.map f).sum+(rs.map g).sum
 | []=>rfl
 | r::rs=>by
  rw[ZBU,ZCE,ZBU,ZCE,ZBU,ZCE,Os f g rs];lia
theorem Ky{v g:Nat->Int}{o:Nat}{rs:List Nat}(nd:rs.Nodup):∀{n:Nat},(∀p,p<n->(p &&& o)∈rs)->(rs.map λr=>g r*BC v o n r).sum=sumTo (λp=>g (p &&& o)*v p) n
 | 0,_=>by
  have:∀ts:List Nat,(ts.map λr=>g r*BC v o 0 r).sum=0:=λts=>by
   induction ts with
   | nil=>rfl
   | cons t ts f =>
    rw[ZBU,ZCE,f];show g t*0+0=0;rw[Int.mul_zero];rfl
  exact this rs
 | n+1,h=>by
  have f:=Ky (v:=v) (g:=g) (o:=o) nd (n:=n) λp i=>h p (by lia)
  show _=sumTo (λp=>g (p &&& o)*v p) n+g (n &&& o)*v n;rw[<- f,<- Ps (y:=g (n &&& o)*v n) nd (h n (by lia)),<- Os]
  congr 1
  refine ZCC λr _=>?_
  rw[FR,Int.mul_add]
  by_cases e:n &&& o=r
  ·rw[if_pos e,if_pos e,e]
  ·rw[if_neg e,if_neg e,Int.mul_zero]
theorem Eu(as bs:List Bool):∀n,sumTo (λp=>AC as p*AC bs p) n=(n:Int)-2*((BR as bs n).length:Nat)
 | 0=>rfl
 | n+1=>by
  show sumTo (λp=>AC as p*AC bs p) n+AC as n*AC bs n=_;rw[Eu as bs n,LP,ZBS]
  have e:AC as n*AC bs n=if (gB as n != gB bs n)=true then -1 else 1:=by
   have h1:AC as n=if gB as n=true then -1 else 1:=rfl
   have h2:AC bs n=if gB bs n=true then -1 else 1:=rfl
   rw[h1,h2];cases gB as n <;> cases gB bs n <;> rfl
  rw[e];split
  ·simp;lia
  ·simp;lia
theorem JX{rs:List Nat}(z:o<2^m)(R:RsAt o (2^m) rs):(rs.map λr=>(((BC (AC bs) o (2^m) r).natAbs:Nat):Int)).sum=((2^m:Nat):Int)-2*(distO m bs o:Nat):=by
 have h1:(rs.map λr=>(((BC (AC bs) o (2^m) r).natAbs:Nat):Int))=rs.map λr=>(if BC (AC bs) o (2^m) r<0 then -1 else 1)*BC (AC bs) o (2^m) r:=by
  refine ZCC λr _=>?_
  split <;> lia
 rw[h1,Ky (g:=λr=>if BC (AC bs) o (2^m) r<0 then -1 else 1) R.nd R.has];unfold distO;rw[<- Eu];refine Ae λp i=>?_
 have h2:AC (An m (wt m (AC bs)) o) p=if gB (An m (wt m (AC bs)) o) p=true then -1 else 1:=rfl
 have f:gB (An m (wt m (AC bs)) o) p=decide (BC (AC bs) o (2^m) (p &&& o)<0):=by
  rw[Og z];unfold gB;simp[ZBO,i]
 rw[h2,f];simp only[decide_eq_true_eq]
noncomputable def Nn(s:Nat):Dv:=.tup [.int s,.str "whole"]
noncomputable def IK(m k:Nat)(bs:List Bool):Dv:=.tup [.tup ((An m (wt m (AC bs)) (BN m k bs (BI m k))).map Dv.bl),.tup ((Am m (min m k) (2^m)).map Nn)]
def Iz(K:W.Frag)(Pt:Addr):Sp:=λvs H Q _=>match vs with
 | [v,.int z]=>∃(m k:Nat) (bs:List Bool),SumAt K H v m (AL (wt m (AC bs)) (2^m))/\m<=6/\bs.length=2^m/\z=k/\zx Pt CL CD H /\
  ∀u H',zu Pt H H'->zx Pt CL CD H'->zf K H' (IK m k bs) u->Q u H'
 | _=>False
theorem aW{as:List Bool}{u:V}(h:zf K H (Dh as bs m) u):∃a x y,u=.ref a/\zj K H a [x,y]/\zf K H (.tup (as.map Dv.bl)) x:=by
 unfold Dh at h;obtain⟨a,xs,e,h1,h2⟩:=BM h;have g:=h2.length
 match xs,g with
 | [x,y],_ =>
  obtain⟨z,f,e2⟩:=h2.get (i:=0) (d:=.tup (as.map Dv.bl)) rfl;cases f;exact⟨a,x,y,e,h1,e2⟩
theorem Rj{ts:List (Nat×Int)}(S:SumAt K H v m ts):∃a vs,v=.ref a/\zj K H a vs/\atI vs 0=some (.int (m:Int)):=by
 obtain⟨a,vs,ev,f,g⟩:=BM S.rep;obtain⟨x,j,e2⟩:=g.get (i:=0) (d:=.int (m:Int)) rfl;unfold zf at e2;subst e2;exact⟨a,vs,ev,f,Ak rfl j⟩
theorem VX(B:BMn mg base):Ok_ P w base T.z47 7 (Iz K T.zU):=by
 refine T.z47.F.ok sc_z47 (λvs H Q E h=>by unfold Iz at h;walk_at "e") ?_;walk_at "f";unfold Iz at h;walk_at "g"
 rename_i v z;obtain⟨m,k,bs,S,J,W,R,V,q⟩:=h;subst R;have U:2^m<=64:=ZBL (n:=2) (by decide) J;have Y:=FO m (min m k) (2^m);refine⟨_,(@AH _ _ _ _ _ (@C6 _ _ _ _ _ _ _ ["subset"] 1 [] _ _ _ _ 2 _ _ _ rfl sc_z47.nd rfl rfl (Au (K:=K) (AG (@Jg P w K mg base T) (hr.mono (show 3<=_ by decide)) rfl T.z76.m T.z76.F.kp T.z76.b .nil AD (AA (zq (K:=K) (vv 0) AE) (AA (vv 1) AB)))) (by kernel_rfl) rfl rfl (by kernel_rfl) (λc=>AM (i:=0) (show(["subset"]:List Str).Nodup by decide +kernel) rfl (by right)) (AV (by decide)) (λc=>Ag) (λc=>(BS (AA (vv 0) (AA Fa AB)))) (by rfl) (by intro _;rfl)) (@AI _ _ _ (@AK _ _ _ _ (BS (AA (zq (K:=K) (AG (@N6 P w K mg base T B) (hr.mono (show 6<=_ by decide)) rfl T.z75.m T.z75.F.kp T.z75.b .nil AD (AA (vv 0) (AA (vv 1) AB))) AE) (AA (Bi (B9 (K:=K)) rfl T.zG (by rfl) (AA (vv 2) AB)) AB)))))),?_⟩;generalize T.zU=Pt at *;obtain⟨a,vs,ev,I,ha⟩:=Rj S;subst ev;refine⟨_,_,.inr I,ha,m,k,rfl,rfl,J,λl H1 hl s1 g1=>.inl ⟨⟨_,.of g1⟩,?_⟩⟩
 refine Cc (xs:=iL (Am m (min m k) (2^m))) (λi ys H'=>EE H1 H'/\za K H' (((Am m (min m k) (2^m)).take i).map Nn) ys) ⟨EE.refl _,Ab⟩ (λi ys H' _ ⟨s,_⟩=>.of (s _ _ g1)) (λi ys H' hi ⟨_,e⟩=>by
  rw[Ai]at hi
  have:=e.length
  rw[ZBB,ZBi]at this;exact AX (by lia)) ?_ ?_
 ·rintro i x ys H' Z ⟨s2,g⟩;obtain⟨o,X,_,rfl⟩:=DB Z;refine⟨smq rfl,λp j=>⟨s2.trans (EE.upd j),?_⟩⟩;rw[ZBl,X,ZBH];exact(za.same (EE.upd j) _ _ g).append (AU (Ax AF (AU A6 (AU Mw Ab))) Ab)
 ·rintro ys H2 ⟨s2,g⟩ N G;rw[Ai,ZCJ]at g;have s3:=EE.upd (o:=.lst ys) G;have t:=za.same s3 _ _ g;have g3:=AF (H:=H2) (a:=N) (o:=.lst ys);have sa:=s1.trans (s2.trans s3);generalize upd H2 N (.lst ys)=H3 at *;dsimp only[AW];have L:=V.same sa;obtain⟨ps,M,_⟩:=id L;refine⟨m,k,bs,S.same sa,J,W,rfl,L,λu H4 r O r4=>?_⟩;obtain⟨b,x,y,rfl,C,D⟩:=aW r4;refine⟨_,_,.inr C,Ak (n:=0) rfl rfl,_,.inl ⟨Kw r M (.of g3),λp j=>⟨smq rfl,λp2 f=>?_⟩⟩⟩;have s5:=(EE.upd (o:=.tup ys) j).trans (EE.upd (o:=.tup [x,.ref p]) f);refine q _ _ ((zu.same sa).trans (r.trans (.same s5))) (O.same s5) ?_;unfold IK;refine Ax AF (AU (zf.same s5 _ _ D) (AU (Ax (EE.upd f _ _ AF) ?_) Ab));exact za.same s5 _ _ (za.tab r M _ _ t)
theorem Ms(o:Nat):∀i,∃rs,RsAt o i rs
 | 0=>⟨[],List.nodup_nil,λp j=>absurd j (ZC8 _),λr hr=>(nomatch hr),ZBD _⟩
 | i+1=>by
  obtain⟨rs,R⟩:=Ms o i;obtain⟨f,g,_⟩:=R.put (v:=λ_=>0);exact⟨f,g⟩
theorem Wi(z:o<2^m):(0:Int)<=((2^m:Nat):Int)-2*(distO m bs o:Nat):=by
 obtain⟨rs,R⟩:=Ms o (2^m);rw[<- JX (bs:=bs) z R]
 have:∀ts:List Nat,(0:Int)<=(ts.map λr=>(((BC (AC bs) o (2^m) r).natAbs:Nat):Int)).sum:=λts=>by
  induction ts with
  | nil=>exact Int.le_refl _
  | cons t ts f =>
   rw[ZBU,ZCE];lia
 exact this rs
theorem Qm(m k:Nat)(bs:List Bool):BN m k bs (BI m k)∈Am m (min m k) (2^m):=by
 have g:=Qs m k;have f:=Fl (C8 m k bs) (BI m k);unfold BN;unfold BI at *;have zn:pickI (C8 m k bs) ((Am m (min m k) (2^m)).length-1)<(Am m (min m k) (2^m)).length:=by lia
 rw[ZBO,ZBE zn];exact ZCL zn
theorem Qu{s:Nat}(h:s∈Am m (min m k) (2^m)):distO m bs (BN m k bs (BI m k))<=distO m bs s:=by
 obtain⟨j,f,e⟩:=ZCD h
 have:=(HW (C8 m k bs) (BI m k) j (by unfold BI;lia)).1
 unfold C8 at this;have e2:(Am m (min m k) (2^m)).getD j 0=s:=by rw[ZBO,ZBE f,e];rfl
 rw[e2]at this;unfold BN;unfold C8;lia
theorem NK:∀(m x y:Nat),(∀j,x.testBit j=true->y.testBit j=true)->manyF m x<=manyF m y
 | 0,_,_,_=>ZBD _
 | m+1,x,y,h=>by
  have g:=NK m (x / 2) (y / 2) λj f=>by
   rw[<- Nat.testBit_succ]at f ⊢;exact h (j+1) f
  have h0:=h 0;rw[Nat.testBit_zero,Nat.testBit_zero,decide_eq_true_eq,decide_eq_true_eq]at h0;show x%2+manyF m (x / 2)<=y%2+manyF m (y / 2);lia
theorem YC{p:Nat}(h:o.testBit i=false):(p ^^^ 2^i) &&& o=p &&& o:=by
 refine ZCm λj=>?_
 rw[ZCA,ZCA,ZCr,Nat.testBit_two_pow]
 by_cases e:i=j
 ·subst e;rw[h,ZDG,ZDG]
 ·rw[ZBo e,Bool.xor_false]
theorem aC(z:o<2^m)(hi:i<m)(h:o.testBit i=false):Ca (An m (wt m (AC bs)) o) m i=0:=by
 have j:∀p,p<2^m->gB (An m (wt m (AC bs)) o) p=decide (BC (AC bs) o (2^m) (p &&& o)<0):=λp g=>by
  rw[Og z];unfold gB;simp[ZBO,g]
 unfold Ca CP;rw[ZDW,List.filter_eq_nil_iff];intro p g;have f:=ZBV.mp g;have k:p ^^^ 2^i<2^m:=Nat.xor_lt_two_pow f (ZCX (by decide) hi);unfold Ds;rw[j p f,j _ k,YC h];simp
theorem Vk(z:o<2^m):manyF m (Bu (Ca (An m (wt m (AC bs)) o) m) m)<=manyF m o:=by
 refine NK m _ _ λj f=>?_
 rw[Fh,ZBb,decide_eq_true_eq,decide_eq_true_eq]at f;cases e:o.testBit j with
 | true=>rfl
 | false =>
  have:=aC (bs:=bs) z f.1 e
  lia
theorem Lw{x:Nat}(h:x∈Am m k n):manyF m x=k:=by
 unfold Am at h;exact ZBY (ZBp.mp h).2
theorem QU{c:TT}{t u:TS}{D:Ends}{Z:St}(b:Bool)(z:∀Q:Bool->Hp->Prop,(∀H',EE H H'->Q b H')->c Z H Q)(h:∀H',EE H H'->if b=true then t D Z H' else u D Z H'):HC c t u D Z H:=z _ h
theorem HK:∀(cs:List Bool) (zs:List V),za K H (cs.map Dv.bl) zs->zs=cs.map V.bl
 | [],zs,h=>by rw[ZC7]at h;unfold za at h;exact h
 | c::cs,zs,h=>by
  rw[ZBU]at h;unfold za at h;obtain⟨z,r,e,h1,h2⟩:=h;unfold zf at h1;rw[e,h1,HK cs r h2];rfl
noncomputable def Cd(c:Nat×Str):Dv:=.tup [.int c.1,.str c.2]
noncomputable def DW(nb:List Bool)(cs:List (Nat×Str)):Dv:=.tup [.tup (nb.map Dv.bl),.tup (cs.map Cd)]
theorem IU{cs:List (Nat×Str)}{ys:List V}{y:V}(h:za K H (cs.map Cd) ys)(G:ys[i]?=some y):∃(b:Addr) (c:Nat×Str),cs[i]?=some c/\y=.ref b/\zj K H b [.int (c.1:Int),.str c.2]:=by
 have m:=h.length;rw[ZBB]at m;have hi:i<cs.length:=by rw[m];exact(ZBW.mp G).1
 obtain⟨t,f,r1⟩:=h.get (i:=i) (d:=Cd cs[i]) (by rw[ZBJ,ZBE hi];rfl);rw[G]at f;cases f;unfold Cd at r1;obtain⟨b,zs,e2,h1,h2⟩:=BM r1;unfold za at h2;obtain⟨z,r,n,g,j⟩:=h2;unfold za at j;obtain⟨u,p,o,k,l⟩:=j;unfold za at l;unfold zf at g k;subst l o n g k;exact⟨b,_,ZBE hi,e2,h1⟩
noncomputable def Ep(m k:Nat)(cs:List (Nat×Str)):Bool:=(Am m (min m k) (2^m)).all λs=>cs.any λc=>decide (s &&& c.1=s)
def Eg(K:W.Frag):Sp:=λvs H Q _=>match vs with
 | [.int x,.int z,.ref f]=>∃(m k:Nat) (cs:List (Nat×Str)) (ys:List V),x=m/\z=k/\m<=6/\zj K H f ys/\za K H (cs.map Cd) ys/\cs.length<=64/\∀H',EE H H'->Q (.bl (Ep m k cs)) H'
 | _=>False
theorem av:AT (Eg K):=λvs H Q f E h q=>by
 unfold Eg at *;walk_at "q"
theorem Y1:Ok_ P w base T.z48 4 (Eg K):=by
 refine T.z48.F.ok YZ (λvs H Q E h=>by unfold Eg at h;walk_at "e") ?_;walk_at "f";unfold Eg at h;walk_at "g"
 rename_i x z L;obtain⟨m,k,cs,ys,B,e2,v,o,u,G,q⟩:=h;subst B e2;have C:2^m<=64:=ZBL (n:=2) (by decide) v;have p:=u.length;rw[ZBB]at p;have I:=FO m (min m k) (2^m);unfold Ep at q;refine⟨_,(@AI _ _ _ (@AK _ _ _ _ (AZ (GJ (K:=K) rfl) rfl T.zZ (by rfl) (AA (Af (N':=["subset","covers"]) (own:=1) (ix:=[2]) rfl (Au (K:=K) (AG (@Jg P w K mg base T) (hr.mono (show 3<=_ by decide)) rfl T.z76.m T.z76.F.kp T.z76.b .nil AD (AA (vv 0) (AA (vv 1) AB)))) (by kernel_rfl) rfl rfl (by kernel_rfl) (λc=>AM (i:=0) (show(["subset","covers"]:List Str).Nodup by decide +kernel) rfl (by right)) (AV (by decide)) (λc=>Ag) (λc=>(AZ (QS (K:=K) rfl) rfl T.ye (by rfl) (AA (Af (N':=["cover","subset"]) (own:=1) (ix:=[0]) rfl (Au (K:=K) (vv 1)) (by kernel_rfl) rfl rfl (by kernel_rfl) (λc=>AM (i:=0) (show(["cover","subset"]:List Str).Nodup by decide +kernel) rfl (by right)) (AV (by decide)) (λc=>Ag) (λc=>(AG (@IH P w K mg base T) (hr.mono (show 1<=_ by decide)) rfl T.z82.m T.z82.F.kp T.z82.b .nil AD (AA (vv 1) (AA (zq (K:=K) (vv 0) AE) AB))))) AB)))) AB)))),?_⟩;refine⟨m,k,rfl,rfl,v,λl H1 N s1 g1=>.inl ⟨⟨_,.of g1⟩,?_⟩⟩;generalize Am m (min m k) (2^m)=ss at *
 refine Cc (xs:=iL ss) (λi zs H'=>EE H1 H'/\zs=((ss.take i).map λs=>cs.any λc=>decide (s &&& c.1=s)).map V.bl) ⟨EE.refl _,rfl⟩ (λi zs H' _ ⟨s,_⟩=>s.sqL (.of g1)) (λi zs H' hi ⟨_,e⟩=>by
  rw[Ai]at hi;rw[e,ZBB,ZBB,ZBi];exact AX (by lia)) ?_ ?_
 ·rintro i y zs H2 t ⟨s2,rfl⟩;obtain⟨c,D,_,rfl⟩:=DB t;have g:=s1.trans s2;refine .inr ⟨⟨_,g.sqT o⟩,?_⟩
  refine B6 (xs:=ys) (λj us H'=>H'=H2/\us=((cs.take j).map λd=>decide (c &&& d.1=c)).map V.bl) ⟨rfl,rfl⟩ (λj us H' _ ⟨e,_⟩=>by rw[e];exact g.sqT o) (λj us H' M ⟨_,e⟩=>by
   rw[e,ZBB,ZBB,ZBi];exact AX (by lia)) ?_ ?_
  ·rintro j y us H' t ⟨rfl,rfl⟩;obtain⟨b,d,hd,rfl,r⟩:=IU u t;refine⟨_,_,.inr (g.sqT r),Ak (n:=0) rfl rfl,c,d.1,rfl,rfl,rfl,?_⟩;rw[ZBl,hd,ZBH,ZBH];rfl
  ·rintro us H' ⟨rfl,rfl⟩ J f;rw[<- p,ZCJ];refine⟨_,.of AF,s2.trans (EE.upd f),?_⟩;rw[ZBl,D,ZBH,ZBH,List.any_map];rfl
 ·rintro zs H2 ⟨s2,rfl⟩ J f;rw[Ai,ZCJ];refine⟨_,.of AF,?_⟩;rw[List.all_map];exact q _ (s1.trans (s2.trans (EE.upd f)))
noncomputable def Cq(g:Nat->Int)(o:Nat):Nat->List Int
 | 0=>[]
 | n+1=>Cq g o n++(if n &&& o=n then [(((g n).natAbs:Nat):Int)] else [])
theorem M5(g:Nat->Int)(o:Nat):∀n,(Cq g o n).length<=n
 | 0=>ZBD _
 | n+1=>by
  have:=M5 g o n
  show(Cq g o n++_).length<=n+1
  rw[ZBS];split <;> simp <;> lia
def E1(K:W.Frag):Sp:=λvs H Q _=>match vs with
 | [.ref p,.int z]=>∃(m o:Nat) (g:Nat->Int),zr K H p (ixL g (2^m))/\z=o/\m<=6/\∀H',EE H H'->Q (.int (Cq (wt m g) o (2^m)).sum) H'
 | _=>False
theorem YB:AT (E1 K):=λvs H Q f E h q=>by
 unfold E1 at *;walk_at "q"
theorem Ws:Ok_ P w base T.z25 3 (E1 K):=by
 refine T.z25.F.ok Yx (λvs H Q E h=>by unfold E1 at h;walk_at "e") ?_;walk_at "f";unfold E1 at h;walk_at "g"
 rename_i p z;obtain⟨m,o,g,D,v,u,q⟩:=h;subst v;have B:2^m<=64:=ZBL (n:=2) (by decide) u;refine⟨_,(@AI _ _ _ (@AK _ _ _ _ (AZ (DJ (K:=K) rfl) rfl T.zV (by rfl) (AA (Af (N':=["setting","top","switches"]) (own:=2) (ix:=[1]) rfl (FK (K:=K) rfl T.zE (AA (AG (@HZ P w K mg base T) (hr.mono (show 2<=_ by decide)) rfl T.z37.m T.z37.F.kp T.z37.b .nil AD (AA (vv 0) AB)) AB)) (by kernel_rfl) rfl rfl (by kernel_rfl) (λc=>Bh (K:=K) (n:=2) rfl (Ad (AM (i:=0) (show(["setting","top","switches"]:List Str).Nodup by decide +kernel) rfl (by right)) (Ad (AM (i:=1) (show(["setting","top","switches"]:List Str).Nodup by decide +kernel) rfl (by right)) BJ))) (Ba (Al AY (BQ AY Aj) (AV (by decide)) (Al AY Aj (AV (by decide)) Bf))) (λc=>C0 (BU (AG (@IH P w K mg base T) (hr.mono (show 1<=_ by decide)) rfl T.z82.m T.z82.F.kp T.z82.b .nil AD (AA (vv 0) (AA (vv 2) AB))))) (λc=>(AZ EO rfl T.zW (by rfl) (AA (vv 1) AB)))) AB)))),?_⟩;refine⟨g,m,D,u,λl H1 I s1 g1=>⟨⟨_,.of g1⟩,?_⟩⟩;have y:ixL (Bj g m) (2^m)=ixL (wt m g) (2^m):=FF λk C=>GN C
 rw[y]at g1;generalize wt m g=G at *
 refine Fw (xs:=ixL G (2^m)) (λi zs H'=>EE H1 H'/\zs=(Cq G o i).map V.int) ⟨EE.refl _,rfl⟩ (λi zs H' _ ⟨s,_⟩=>s.sqL (.of g1)) (λi zs H' hi ⟨_,e⟩=>by
  rw[ixL_len]at hi
  have:=M5 G o i
  rw[e,ZBB];exact AX (by lia)) ?_ ?_
 ·rintro i x zs H2 pp r ⟨s2,rfl⟩ f
  have hi:i<2^m:=by
   have:=(ZBW.mp r).1
   rwa [ixL_len]at this
  rw[CH hi]at r;cases r;refine⟨pp,_,rfl,.of AF,rfl,_,_,rfl,_,_,rfl,rfl,?_⟩;refine⟨i,o,rfl,rfl,?_⟩;have t:Cq G o (i+1)=Cq G o i++(if i &&& o=i then [(((G i).natAbs:Nat):Int)] else []):=rfl;refine Aa (λe=>?_) (λe=>?_)
  ·rw[t,if_pos (ZBY e),ZBH];exact⟨s2.trans (EE.upd f),rfl⟩
  ·rw[t,if_neg (λz=>e (ZBK z)),ZBs];exact⟨s2.trans (EE.upd f),rfl⟩
 ·rintro zs H2 ⟨s2,rfl⟩ J j;rw[ixL_len];exact⟨_,.of AF,q _ (s1.trans (s2.trans (EE.upd j)))⟩
noncomputable def soB(m:Nat)(g:Nat->Int)(ld:Int)(o:Nat)(x:Str):Bool :=
 if (x==("weights" : Str))=true then decide (((List.range (2^m)).map λs=>inF g o s*inF g o s).sum<=ld*ld)
 else if (x==("whole" : Str))=true then decide ((Cq (wt m (inF g o)) o (2^m)).sum<=ld*((2^manyF m o:Nat):Int))
 else false
def EL(K:W.Frag):Sp:=λvs H Q _=>match vs with
 | [v,.int ld,.ref c]=>∃(m o:Nat) (x:Str) (g:Nat->Int),SumAt K H v m (AL g (2^m))/\m<=6/\o<2^m/\CA g /\ -64<=ld/\ld<=64/\zj K H c [.int o,.str x]/\∀H',EE H H'->Q (.bl (soB m g ld o x)) H'
 | _=>False
theorem S6:AT (EL K):=λvs H Q f E h q=>by
 unfold EL at *;walk_at "q"
theorem UL:Ok_ P w base T.z84 5 (EL K):=by
 refine T.z84.F.ok sc_z84 (λvs H Q E h=>by unfold EL at h;walk_at "e") ?_;walk_at "f";have M:AT (ED K):=Ob;have N:AT (E1 K):=YB;have O:AT DA:=FT;have R:AT DE:=Ho;unfold EL at h;walk_at "g"
 rename_i v ld c;obtain⟨m,o,x,g,S,C,L,I,l1,l2,D,q⟩:=h;have G:2^m<=64:=ZBL (n:=2) (by decide) C;refine⟨_,(@AH _ _ _ _ _ (@AO _ _ 3 _ _ _ _ sc_z84.nd rfl (by right) (AG (@RQ P w K mg base T) (hr.mono (show 4<=_ by decide)) rfl T.z31.m T.z31.F.kp T.z31.b .nil AD (AA (vv 0) (AA (zq (K:=K) (vv 2) AE) AB))) (by rfl) (by symm)) (@AH _ _ _ _ _ (@Av _ _ _ _ _ _ _ _ (Ah (kEq (K:=K) hu) (zq (K:=K) (vv 2) AE) Fa) (@AI _ _ _ (@AK _ _ _ _ (BK Ii (AZ (DJ (K:=K) rfl) rfl T.zV (by rfl) (AA (@Af _ _ _ _ _ _ _ ["weight"] 1 [] _ _ _ _ rfl (Au (K:=K) (vv 3)) (by kernel_rfl) rfl rfl (by kernel_rfl) (λc=>AM (i:=0) (show(["weight"]:List Str).Nodup by decide +kernel) rfl (by right)) (AV (by decide)) (λc=>Ag) (λc=>(AQ BB (vv 0) (vv 0))) (by intro _;rfl)) AB)) (AQ BB (vv 1) (vv 1))))) Aw) (@AH _ _ _ _ _ (@Av _ _ _ _ _ _ _ _ (Ah (kEq (K:=K) hu) (zq (K:=K) (vv 2) AE) Fa) (@AI _ _ _ (@AK _ _ _ _ (BK Ii (AG (@Ws P w K mg base T) (hr.mono (show 3<=_ by decide)) rfl T.z25.m T.z25.F.kp T.z25.b .nil AD (AA (vv 3) (AA (zq (K:=K) (vv 2) AE) AB))) (AQ BB (vv 1) (AG (@Cm P w K mg base T) (hr.mono (show 2<=_ by decide)) rfl T.z81.m T.z81.F.kp T.z81.b .nil AD (AA (AG (@FH P w K mg base T) (hr.mono (show 1<=_ by decide)) rfl T.z74.m T.z74.F.kp T.z74.b .nil AD (AA (zq (K:=K) (vv 2) AE) AB)) AB)))))) Aw) (@AI _ _ _ (@AK _ _ _ _ BE))))),?_⟩;refine As (λZ H'=>∃l:Addr,Z=[some v,some (.int ld),some (.ref c),some (.ref l)]/\EE H H'/\H' l=some (.lst (ixL (inF g o) (2^m)))) ?_ ?_ (by walk_at "sm")
 ·exact⟨_,_,.inr D,Ak (n:=0) rfl rfl,m,o,g,S,C,rfl,λl H1 W s1 g1=>⟨l,rfl,s1,g1⟩⟩
 rintro Z H1 ⟨l,rfl,s1,g1⟩;have f:=s1.sqT D
 have u:CA (inF g o):=λk=>by
  have:=I k
  unfold inF;split <;> lia
 unfold soB at q;refine As (λZ H'=>Z=[some v,some (.int ld),some (.ref c),some (.ref l)]/\H1=H'/\(x==("weights" : Str))=false) ?_ ?_ (by walk_at "sm")
 ·refine⟨_,_,.inr f,Ak (n:=1) rfl rfl,?_⟩;refine Aa (λe=>?_) (λe=>?_)
  ·have r:(x==("weights" : Str))=true:=by simpa using e
   refine .inl ⟨⟨_,.of g1⟩,?_⟩
   refine Cc (xs:=ixL (inF g o) (2^m)) (λi zs H'=>H'=H1/\zs=((List.range i).map λs=>inF g o s*inF g o s).map V.int) ⟨rfl,rfl⟩ (λi zs H' _ ⟨e,_⟩=>by rw[e];exact .of g1) (λi zs H' hi ⟨_,e⟩=>by
    rw[ixL_len]at hi;rw[e,ZBB,ZBB,ZBc];exact AX (by lia)) ?_ ?_
   ·rintro i y zs H' B ⟨rfl,rfl⟩
    have hi:i<2^m:=by
     have:=(ZBW.mp B).1
     rwa [ixL_len]at this
    rw[CH hi]at B;cases B;have U:=u i;refine⟨.inr (.inr ⟨by lia,by lia⟩),rfl,?_⟩;rw[ZBw,ZBH,ZBH];rfl
   ·rintro zs H' ⟨rfl,rfl⟩ X z;rw[ixL_len];refine⟨_,.of AF,.inr (.inr ⟨by lia,by lia⟩),?_⟩;have p:=q _ (s1.trans (EE.upd (o:=.lst (((List.range (2^m)).map λs=>inF g o s*inF g o s).map V.int)) z));rw[if_pos r]at p;exact p
  ·refine⟨rfl,rfl,?_⟩;cases j:(x==("weights" : Str)) with
   | false=>rfl
   | true=>exact absurd (show _=true by simpa using j) e
 rintro Z _ ⟨rfl,rfl,j⟩;simp only[j,ZCV,if_false]at q;refine As (λZ H'=>Z=[some v,some (.int ld),some (.ref c),some (.ref l)]/\H1=H'/\(x==("whole" : Str))=false) ?_ ?_ (by walk_at "sm")
 ·refine⟨_,_,.inr f,Ak (n:=1) rfl rfl,?_⟩;refine Aa (λe=>?_) (λe=>?_)
  ·have r:(x==("whole" : Str))=true:=by simpa using e
   refine⟨_,_,.inr f,Ak (n:=0) rfl rfl,m,o,inF g o,.of g1,rfl,C,λH2 s2=>?_⟩;have J:=GG m o;refine⟨_,_,.inr (s2.sqT f),Ak (n:=0) rfl rfl,o,rfl,by lia,?_⟩;rw[EF L (by lia)];refine⟨manyF m o,rfl,by lia,.inr (.inl ⟨by lia,by lia⟩),?_⟩;have p:=q _ (s1.trans s2);rw[if_pos r]at p;exact p
  ·refine⟨rfl,rfl,?_⟩;cases j:(x==("whole" : Str)) with
   | false=>rfl
   | true=>exact absurd (show _=true by simpa using j) e
 rintro Z _ ⟨rfl,rfl,t⟩;simp only[t,ZCV,if_false]at q;exact q _ s1
def EX(K:W.Frag):Sp:=λvs H Q _=>match vs with
 | [.int x,v]=>∃(m:Nat) (nb:List Bool) (cs:List (Nat×Str)),x=m/\1<=m/\m<=6/\nb.length=2^m/\zf K H (DW nb cs) v/\cs.length<=64/\(∀c∈cs,c.1<2^m)/\∀H',EE H H'->Q (.bl true) H'
 | _=>False
theorem Sz:AT (EX K):=λvs H Q f E h q=>by
 unfold EX at *;walk_at "q"
theorem OA{nb:List Bool}{cs:List (Nat×Str)}(h:zf K H (DW nb cs) v):∃(a z G:Addr) (ys:List V),v=.ref a/\zj K H a [.ref z,.ref G]/\zj K H z (nb.map V.bl)/\zj K H G ys/\za K H (cs.map Cd) ys:=by
 unfold DW at h;obtain⟨a,xs,rfl,ha,f⟩:=BM h;have k:=f.length
 obtain⟨x,y,rfl⟩:∃x y,xs=[x,y]:=by
  match xs,k with
  | [x,y],_=>exact⟨x,y,rfl⟩
 obtain⟨r,ex,o⟩:=f.get (i:=0) (d:=.tup (nb.map Dv.bl)) rfl;obtain⟨t,n,p⟩:=f.get (i:=1) (d:=.tup (cs.map Cd)) rfl;cases ex;cases n;obtain⟨z,xs,rfl,g,l⟩:=BM o;obtain⟨G,ys,rfl,j,m⟩:=BM p;obtain rfl:=HK nb xs l;exact⟨a,z,G,ys,rfl,ha,g,j,m⟩
theorem VD:Ok_ P w base T.z32 4 (EX K):=by
 have g:=@aO P w K mg base T;refine T.z32.F.ok Wn (λvs H Q E h=>by unfold EX at h;walk_at "e") ?_;walk_at "f";have U:AT (DT K K7):=Xa;have W:AT (Ez K):=Zr;have X:AT (D3 K):=QG;have f:=hr.mono (show 1<=_ by decide);unfold EX at h;walk_at "g"
 rename_i x v;obtain⟨m,nb,cs,I,S,r,C,D,N,z,q⟩:=h;subst I;have J:2^m<=64:=ZBL (n:=2) (by decide) r;obtain⟨a,Y,ay,ys,rfl,ha,o,j,t⟩:=OA D;have B:=t.length;rw[ZBB]at B;refine⟨_,(@AH _ _ _ _ _ (@Av _ _ _ _ _ _ _ _ (PW.pt (Ft (Do (BU (AG g f rfl T.z77.m T.z77.F.kp T.z77.b .nil AD (AA (vv 1) AB)))) (Ft (Do (BU (AG (@S8 P w K mg base T) (hr.mono (show 1<=_ by decide)) rfl T.z59.m T.z59.F.kp T.z59.b .nil AD (AA (zq (K:=K) (vv 1) AE) AB)))) (GQ (Ah (kNe (K:=K) hu) (AG (@Kc P w K mg base T) (hr.mono (show 1<=_ by decide)) rfl T.z41.m T.z41.F.kp T.z41.b .nil AD (AA (zq (K:=K) (vv 1) AE) AB)) (vv 0)))))) (@AI _ _ _ (@AK _ _ _ _ BE)) Aw) (@AH _ _ _ _ _ (@Av _ _ _ _ _ _ _ _ (PW.pt (Ft (Do (BU (AZ (EV (K:=K)) rfl T.zF (by rfl) (AA (zq (K:=K) (vv 1) AE) (AA (EY (v:=.ty "tuple") rfl T.zG (by rfl) rfl) AB))))) (GQ (Ah Ci (AZ (BO (K:=K)) rfl T.zP (by rfl) (AA (zq (K:=K) (vv 1) AE) AB)) (Qc (v:=.int 64) rfl T.zL ⟨_,rfl⟩))))) (@AI _ _ _ (@AK _ _ _ _ BE)) Aw) (@AI _ _ _ (@AK _ _ _ _ (AZ (GJ (K:=K) rfl) rfl T.zZ (by rfl) (AA (Af (N':=["cover","n"]) (own:=1) (ix:=[0]) rfl (Au (K:=K) (zq (K:=K) (vv 1) AE)) (by kernel_rfl) rfl rfl (by kernel_rfl) (λc=>AM (i:=0) (show(["cover","n"]:List Str).Nodup by decide +kernel) rfl (by right)) (AV (by decide)) (λc=>Ag) (λc=>(D8 (AG g f rfl T.z77.m T.z77.F.kp T.z77.b .nil AD (AA (vv 0) AB)) (D5 (AG (@Zh P w K mg base T) (hr.mono (show 3<=_ by decide)) rfl T.z61.m T.z61.F.kp T.z61.b .nil AD (AA (vv 1) (AA (zq (K:=K) (vv 0) AE) AB))))))) AB)))))),?_⟩;refine As (λZ H'=>Z=[some (.int m),some (.ref a)]/\EE H H') ?_ ?_ (by walk_at "sm")
 ·refine QU false ?_ ?_
  ·intro Q q;refine⟨DW nb cs,D,?_⟩;refine⟨_,_,.inr ha,Ak (n:=0) rfl rfl,m,nb,o,C,S,r,λH1 s1=>?_⟩;refine⟨_,_,.inr (s1.sqT ha),Ak (n:=0) rfl rfl,m,_,s1.sqT o,by rw[ZBB,C],r,?_⟩;have k:(true ^^ ((m:Int)==(m:Int)))=false:=by simp
   have G:=q H1 s1;rw[<- k]at G;exact G
  ·exactλH' s=>Di ⟨rfl,s⟩
 rintro Z H1 ⟨rfl,s1⟩;refine As (λZ H'=>Z=[some (.int m),some (.ref a)]/\H1=H') ?_ ?_ (by walk_at "sm")
 ·refine Hw false ?_ ?_
  ·intro Q q;refine⟨_,_,.inr (s1.sqT ha),Ak (n:=1) rfl rfl,by decide,.tup (cs.map Cd),DD (s1.sqT j) (za.same s1 _ _ t),?_⟩;refine⟨_,_,.inr (s1.sqT ha),Ak (n:=1) rfl rfl,_,.inr ⟨_,s1.sqT j,rfl⟩,?_⟩;have k:decide ((64:Int)<((ys.length:Nat):Int))=false:=ZBo (by lia);rw[<- k]at q;exact q
  ·exact Di ⟨rfl,rfl⟩
 rintro Z _ ⟨rfl,rfl⟩;refine⟨_,_,.inr (s1.sqT ha),Ak (n:=1) rfl rfl,.inr ⟨⟨_,s1.sqT j⟩,?_⟩⟩
 refine B6 (xs:=ys) (λi zs H'=>H'=H1/\zs=(List.replicate i true).map V.bl) ⟨rfl,rfl⟩ (λi zs H' _ ⟨e,_⟩=>by rw[e];exact s1.sqT j) (λi zs H' hi ⟨_,e⟩=>by
  rw[e,ZBB,ZCi];exact AX (by lia)) ?_ ?_
 ·rintro i y zs H' R ⟨rfl,rfl⟩;obtain⟨b,c,L,rfl,u⟩:=IU t R;have M:c.1<2^m:=z c (ZB3 L);have p:=s1.sqT u;refine⟨Cd c,DD p (AU A6 (AU Mw Ab)),?_⟩;refine⟨_,_,.inr p,Ak (n:=0) rfl rfl,m,rfl,r,rfl,?_⟩;rw[List.replicate_succ',ZBH,ZBK (show(0:Int)<=((c.1:Nat):Int) by lia),ZBK (show((c.1:Nat):Int)<((2^m:Nat):Int) by lia)];rfl
 ·rintro zs H' ⟨rfl,rfl⟩ l O;refine⟨_,.of AF,?_⟩;show Q (.bl ((List.replicate ys.length true).all id)) _;have k:(List.replicate ys.length true).all id=true:=by simp
  rw[k];exact q _ (s1.trans (EE.upd O))
noncomputable def Dc(m:Nat)(bs nb:List Bool):Int:=sumTo (λp=>AC bs p*AC nb p) (2^m)
theorem OC(m:Nat)(bs nb:List Bool):Dc m bs nb=((2^m:Nat):Int)-2*((BR bs nb (2^m)).length:Nat):=Eu bs nb (2^m)
theorem Z0(z:m<=6)(bs nb:List Bool) : -64<=Dc m bs nb/\Dc m bs nb<=64:=by
 have f:2^m<=64:=ZBL (n:=2) (by decide) z
 have:=Nt bs nb (2^m)
 rw[OC];generalize 2^m=M at *;lia
theorem aA(as bs:List Bool)(n:Nat):BR as bs n=BR bs as n:=by
 unfold BR;refine List.filter_congr λp _=>?_
 cases gB as p <;> cases gB bs p <;> rfl
noncomputable def FX(m k:Nat)(bs nb:List Bool)(cs:List (Nat×Str)):Bool:=decide (manyF m (Bu (Ca nb m) m)<=k/\0<=Dc m bs nb)&&(Ep m k cs&&cs.all λc=>soB m (wt m (AC bs)) (Dc m bs nb) c.1 c.2)
def JU(K:W.Frag):Sp:=λvs H Q _=>match vs with
 | [u,.int z,v]=>∃(m k:Nat) (bs nb:List Bool) (cs:List (Nat×Str)),SumAt K H u m (AL (wt m (AC bs)) (2^m))/\1<=m/\m<=6/\z=k/\nb.length=2^m/\zf K H (DW nb cs) v/\cs.length<=64/\(∀c∈cs,c.1<2^m)/\∀H',EE H H'->Q (.bl (FX m k bs nb cs)) H'
 | _=>False
theorem Xz:Ok_ P w base T.z55 6 (JU K):=by
 refine T.z55.F.ok sc_z55 (λvs H Q E h=>by unfold JU at h;walk_at "e") ?_;walk_at "f";have b0:AT (EX K):=Sz;have b1:AT (Ey K):=Yw;have b2:AT (ES K):=bu;have b3:AT (Eb K):=aH;have b4:AT DE:=Ho;have b5:AT (Eg K):=av;have b6:AT (EL K):=S6;unfold JU at h;walk_at "g"
 rename_i u z v;obtain⟨m,k,bs,nb,cs,S,m1,j,e1,X,hv,B,C,q⟩:=h;subst e1;have a0:2^m<=64:=ZBL (n:=2) (by decide) j;obtain⟨a,ax,ay,ys,rfl,ha,O,o,N⟩:=OA hv;obtain⟨L,us,rfl,x,r⟩:=Rj S;have G:=N.length;rw[ZBB]at G;obtain⟨U,W⟩:=Z0 j bs nb;refine⟨_,(@AH _ _ _ _ _ (@Av _ _ _ _ _ _ _ _ (Do (BU (AG (@VD P w K mg base T) (hr.mono (show 4<=_ by decide)) rfl T.z32.m T.z32.F.kp T.z32.b .nil AD (AA (zq (K:=K) (vv 0) AE) (AA (vv 2) AB))))) (@AI _ _ _ (@AK _ _ _ _ BE)) Aw) (@AH _ _ _ _ _ (@AO _ _ 3 _ _ _ _ sc_z55.nd rfl (by right) (AG (@QM P w K mg base T) (hr.mono (show 3<=_ by decide)) rfl T.z83.m T.z83.F.kp T.z83.b .nil AD (AA (zq (K:=K) (vv 2) AE) AB)) (by rfl) (by symm)) (@AH _ _ _ _ _ (@AO _ _ 4 _ _ _ _ sc_z55.nd rfl (by right) (AG (@XZ P w K mg base T) (hr.mono (show 4<=_ by decide)) rfl T.z72.m T.z72.F.kp T.z72.b .nil AD (AA (vv 0) (AA (vv 3) AB))) (by rfl) (by symm)) (@AH _ _ _ _ _ (@Av _ _ _ _ _ _ _ _ (PW.pt (Ft (Ah Ci (AG (@FH P w K mg base T) (hr.mono (show 1<=_ by decide)) rfl T.z74.m T.z74.F.kp T.z74.b .nil AD (AA (AG (@OT P w K mg base T) (hr.mono (show 1<=_ by decide)) rfl T.z62.m T.z62.F.kp T.z62.b .nil AD (AA (vv 3) AB)) AB)) (vv 1)) (GQ (Ah Cy (vv 4) AE)))) (@AI _ _ _ (@AK _ _ _ _ BE)) Aw) (@AI _ _ _ (@AK _ _ _ _ (D8 (AG (@Y1 P w K mg base T) (hr.mono (show 4<=_ by decide)) rfl T.z48.m T.z48.F.kp T.z48.b .nil AD (AA (zq (K:=K) (vv 0) AE) (AA (vv 1) (AA (zq (K:=K) (vv 2) AE) AB)))) (D5 (AZ (GJ (K:=K) rfl) rfl T.zZ (by rfl) (AA (Af (N':=["cover","one","lead"]) (own:=1) (ix:=[0,4]) rfl (Au (K:=K) (zq (K:=K) (vv 2) AE)) (by kernel_rfl) rfl rfl (by kernel_rfl) (λc=>AM (i:=0) (show(["cover","one","lead"]:List Str).Nodup by decide +kernel) rfl (by right)) (AV (by decide)) (λc=>Ag) (λc=>(AG (@UL P w K mg base T) (hr.mono (show 5<=_ by decide)) rfl T.z84.m T.z84.F.kp T.z84.b .nil AD (AA (vv 1) (AA (vv 2) (AA (vv 0) AB)))))) AB)))))))))),?_⟩;refine As (λZ H'=>Z=[some (.ref L),some (.int k),some (.ref a),none,none]/\EE H H') ?_ ?_ (by walk_at "sm")
 ·refine QU false ?_ ?_
  ·intro Q q;exact⟨_,_,.inr x,r,m,nb,cs,rfl,m1,j,X,hv,B,C,q⟩
  ·exactλH' s=>Di ⟨rfl,s⟩
 rintro Z H1 ⟨rfl,s1⟩;refine As (λZ H'=>∃t:V,Z=[some (.ref L),some (.int k),some (.ref a),some t,none]/\EE H1 H'/\SumAt K H' t m (AL (wt m (AC nb)) (2^m))) ?_ ?_ (by walk_at "sm")
 ·exact⟨_,_,.inr (s1.sqT ha),Ak (n:=0) rfl rfl,m,nb,j,X,s1.sqT O,λt H2 s2 St=>⟨t,rfl,s2,St⟩⟩
 rintro Z H2 ⟨t,rfl,s2,St⟩;refine As (λZ H'=>Z=[some (.ref L),some (.int k),some (.ref a),some t,some (.int (Dc m bs nb))]/\EE H2 H') ?_ ?_ (by walk_at "sm")
 ·exact⟨m,bs,nb,S.same (s1.trans s2),St,j,λJ s3=>⟨rfl,s3⟩⟩
 rintro Z J ⟨rfl,s3⟩;have s0:=s1.trans (s2.trans s3);have f:∀H',EE J H'->Q (.bl (FX m k bs nb cs)) H':=λH' s=>q H' (s0.trans s)
 unfold FX at f;clear q;have zn:=IB (Ca nb m) m;have D:=Ih m nb;generalize a4:Dc m bs nb=ld at *;generalize a3:Bu (Ca nb m) m=p at *;refine As (λZ H'=>Z=[some (.ref L),some (.int k),some (.ref a),some t,some (.int ld)]/\J=H'/\(manyF m p<=k/\0<=ld)) ?_ ?_ (by walk_at "sm")
 ·by_cases c:manyF m p<=k/\0<=ld
  ·refine Hw false ?_ ?_
   ·intro Q q;refine⟨m,_,St.same s3,?_⟩;rw[D];refine⟨p,rfl,by lia,?_⟩;rw[EF zn (by lia)];refine Aa (λe=>?_) (λ_=>?_)
    ·have:((k:Nat):Int)<((manyF m p:Nat):Int):=ZBY e
     lia
    ·have M:decide (ld<0)=false:=ZBo (by lia);rw[<- M]at q;exact q
   ·exact Di ⟨rfl,rfl,c⟩
  ·refine Hw true ?_ ?_
   ·intro Q q;refine⟨m,_,St.same s3,?_⟩;rw[D];refine⟨p,rfl,by lia,?_⟩;rw[EF zn (by lia)];refine Aa (λ_=>q) (λe=>?_)
    have:¬((k:Nat):Int)<((manyF m p:Nat):Int):=λz=>e (ZBK z)
    have M:decide (ld<0)=true:=ZBK (by lia);rw[<- M]at q;exact q
   ·refine Zw ?_
    have:=f J (EE.refl _)
    rw[ZBo c]at this;exact this
 rintro Z _ ⟨rfl,rfl,c⟩;rw[ZBK c]at f;simp only[ZCc]at f;refine⟨_,_,.inr (s0.sqT x),r,_,_,.inr (s0.sqT ha),Ak (n:=1) rfl rfl,m,k,cs,ys,rfl,rfl,j,s0.sqT o,za.same s0 _ _ N,B,λH4 s4=>?_⟩;refine Aa (λe=>?_) (λe=>?_)
 ·rw[e]at f;simp only[ZCc]at f;have g:=s0.trans s4;refine⟨_,_,.inr (g.sqT ha),Ak (n:=1) rfl rfl,.inr ⟨⟨_,g.sqT o⟩,?_⟩⟩
  refine B6 (xs:=ys) (λi zs H'=>EE H4 H'/\zs=((cs.take i).map λc=>soB m (wt m (AC bs)) ld c.1 c.2).map V.bl) ⟨EE.refl _,rfl⟩ (λi zs H' _ ⟨s,_⟩=>(g.trans s).sqT o) (λi zs H' hi ⟨_,e⟩=>by
   rw[e,ZBB,ZBB,ZBi];exact AX (by lia)) ?_ ?_
  ·rintro i y zs H5 hy ⟨s5,rfl⟩;obtain⟨b,c,Y,rfl,R⟩:=IU N hy;have I:=g.trans s5;refine⟨m,c.1,c.2,_,S.same I,j,C c (ZB3 Y),FW j bs,U,W,I.sqT R,λH6 s6=>⟨s5.trans s6,?_⟩⟩;rw[ZBl,Y,ZBH,ZBH];rfl
  ·rintro zs H5 ⟨s5,rfl⟩ l hl;rw[<- G,ZCJ];refine⟨_,.of AF,?_⟩;rw[List.all_map];exact f _ (s4.trans (s5.trans (EE.upd hl)))
 ·have e':Ep m k cs=false:=by
   cases h:Ep m k cs with
   | false=>rfl
   | true=>exact absurd h e
  rw[e']at f;exact f _ s4
theorem XC:RsAt o (2^m) ((List.range (2^m)).filter λs=>decide (s &&& o=s)):=by
 refine⟨List.nodup_range.filter _,λp f=>ZBp.mpr ⟨ZBV.mpr (ZC0 ZCk f),ZBK (by rw[Nat.and_assoc,Nat.and_self])⟩,λr hr=>⟨r,ZBV.mp (ZBp.mp hr).1,ZBY (ZBp.mp hr).2⟩,?_⟩;exact ZBq (ZCq _ _) (by rw[ZBc];exact ZBD _)
theorem RI(g:Nat->Int)(o:Nat):∀n,Cq g o n=((List.range n).filter λs=>decide (s &&& o=s)).map λs=>(((g s).natAbs:Nat):Int)
 | 0=>rfl
 | n+1=>by
  show Cq g o n++_=_;rw[RI g o n,ZBw,ZCR,ZBH]
  congr 1
  by_cases e:n &&& o=n
  ·rw[if_pos e];simp[e]
  ·rw[if_neg e];simp[e]
theorem Oc(c:Int)(f:Nat->Int):∀ts:List Nat,(ts.map λr=>c*f r).sum=c*(ts.map f).sum
 | []=>by simp
 | t::ts=>by rw[ZBU,ZCE,ZBU,ZCE,Oc c f ts,Int.mul_add]
theorem SF(z:o<2^m):(Cq (wt m (inF (wt m (AC bs)) o)) o (2^m)).sum=((2^manyF m o:Nat):Int)*(((2^m:Nat):Int)-2*(distO m bs o:Nat)):=by
 rw[RI,<- JX (bs:=bs) z XC,<- Oc]
 congr 1
 refine ZCC λs hs=>?_
 obtain⟨h1,h2⟩:=ZBp.mp hs;have h1:=ZBV.mp h1;have h2:s &&& o=s:=ZBY h2;rw[PO m (AC bs) o s z h1,h2,Int.natAbs_mul,Int.natCast_mul];rfl
theorem YE{ld:Int}(z:o<2^m):soB m (wt m (AC bs)) ld o "whole" = decide (((2^m:Nat):Int)-2*(distO m bs o:Nat)<=ld):=by
 have g:(("whole" : Str)==("weights" : Str))=false:=by decide
 have i:(("whole" : Str)==("whole" : Str))=true:=by decide
 unfold soB;rw[g,i,SF z];simp only[ZCV,if_false,if_true];have j:=ZBn (manyF m o);generalize ((2^m:Nat):Int)-2*(distO m bs o:Nat)=y;have f:(0:Int)<((2^manyF m o:Nat):Int):=by lia
 generalize ((2^manyF m o:Nat):Int)=c at *;rw[ZBv,decide_eq_true_eq,decide_eq_true_eq,Int.mul_comm c y];exact Int.mul_le_mul_iff_of_pos_right f
theorem YA(m k:Nat)(bs:List Bool):IK m k bs=DW (An m (wt m (AC bs)) (BN m k bs (BI m k))) ((Am m (min m k) (2^m)).map λs=>(s,("whole" : Str))):=by
 unfold IK DW;rw[ZBg];rfl
def One(L:Nat->Int)(S:Nat->Bool):Prop:=∀i j,S i=true->S j=true->L i=L j
noncomputable def Can(L:Nat->Int)(Y:List (Nat->Bool)):Nat->(Nat->Bool)->Prop
 | 0,S=>One L S
 | n+1,S=>One L S\/∃y∈Y,Can L Y n (λk=>S k&&y k)/\Can L Y n (λk=>S k && !y k)
section
variable {L L':Nat->Int}{Y Y':List (Nat->Bool)}{S S':Nat->Bool}{n m a b c:Nat}
theorem RC(h:∀k,S' k=true->S k=true)(o:One L S):One L S':=λi j x y=>o i j (h i x) (h j y)
theorem C5:∀{n:Nat} {S S':Nat->Bool},(∀k,S' k=true->S k=true)->Can L Y n S->Can L Y n S'
 | 0,_,_,h,o=>RC h o
 | n+1,S,S',h,.inl o=>.inl (RC h o)
 | n+1,S,S',h,.inr ⟨y,f,p,q⟩=>.inr ⟨y,f,C5 (λk z=>by simp only[ZBb]at z ⊢;exact⟨h k z.1,z.2⟩) p,C5 (λk z=>by simp only[ZBb]at z ⊢;exact⟨h k z.1,z.2⟩) q⟩
theorem GB:∀{n:Nat} {S:Nat->Bool},Can L Y n S->Can L Y (n+1) S
 | 0,_,o=>.inl o
 | n+1,S,.inl o=>.inl o
 | n+1,S,.inr ⟨y,f,p,q⟩=>.inr ⟨y,f,GB p,GB q⟩
theorem Ic(h:n<=m)(p:Can L Y n S):Can L Y m S:=by
 induction h with
 | refl=>exact p
 | step _ f=>exact GB f
def A7(L:Nat->Int)(Y:List (Nat->Bool))(S:Nat->Bool)(m:Nat):Prop:=Can L Y m S/\∀n,Can L Y n S->m<=n
theorem Mb(x:A7 L Y S a)(y:A7 L Y S b):a=b:=Nat.le_antisymm (x.2 _ y.1) (y.2 _ x.1)
def B5(S y:Nat->Bool):Prop:=(∃k,S k=true/\y k=true)/\∃k,S k=true/\y k=false
theorem not_parts{y:Nat->Bool}(h:¬B5 S y):(∀k,S k=true->(S k&&y k)=true)\/∀k,S k=true->(S k && !y k)=true:=by
 by_cases z:∃k,S k=true/\y k=true
 ·refine .inl λk f=>?_
  rw[f,ZCc];cases e:y k with
  | true=>rfl
  | false=>exact absurd ⟨z,k,f,e⟩ h
 ·refine .inr λk f=>?_
  rw[f,ZCc];cases e:y k with
  | false=>rfl
  | true=>exact absurd ⟨k,f,e⟩ z
theorem LB(G:¬One L S):∀{n:Nat},Can L Y n S->∃y∈Y,B5 S y
 | 0,o=>absurd o G
 | n+1,.inl o=>absurd o G
 | n+1,.inr ⟨y,f,p,q⟩=>by
  by_cases h:B5 S y
  ·exact⟨y,f,h⟩
  ·rcases not_parts h with z | z
   ·exact LB G (C5 z p)
   ·exact LB G (C5 z q)
theorem Wc (G:¬One L S) (h1:∃y∈Y,B5 S y/\∃b c,A7 L Y (λk=>S k&&y k) b/\A7 L Y (λk=>S k && !y k) c/\m=max b c)
 (h2:∀y∈Y,B5 S y->∃b c,A7 L Y (λk=>S k&&y k) b/\A7 L Y (λk=>S k && !y k) c/\m<=max b c):A7 L Y S (1+m):=by
 constructor
 ·obtain⟨y,f,l,b,c,p,q,e⟩:=h1;rw[ZCz];exact .inr ⟨y,f,Ic (by rw[e];exact Nat.le_max_left ..) p.1,Ic (by rw[e];exact Nat.le_max_right ..) q.1⟩
 ·intro n
  induction n with
  | zero=>exactλo=>absurd o G
  | succ n g =>
   rintro(o | ⟨y,f,p,q⟩)
   ·exact absurd o G
   ·by_cases h:B5 S y
    ·obtain⟨b,c,i,j,hm⟩:=h2 y f h;have r:=i.2 _ p;have t:=j.2 _ q;lia
    ·rcases not_parts h with z | z
     ·exact ZDH (g (C5 z p))
     ·exact ZDH (g (C5 z q))
noncomputable def A8(N:Nat)(S:Nat->Bool):Nat:=((List.range N).filter S).length
theorem Jf(N:Nat)(S:Nat->Bool):A8 (N+1) S=A8 N S+if S N=true then 1 else 0:=by
 unfold A8;rw[ZBw,ZCR,ZBS];cases h:S N <;> simp[h]
theorem Ot(N:Nat)(S y:Nat->Bool):A8 N S=A8 N (λk=>S k&&y k)+A8 N (λk=>S k && !y k):=by
 induction N with
 | zero=>rfl
 | succ N f =>
  rw[Jf,Jf,Jf,f];cases S N <;> cases y N <;> simp <;> lia
theorem Hs{S:Nat->Bool}(z:k<N)(hs:S k=true):1<=A8 N S:=ZDY (ZBp.mpr ⟨ZBV.mpr z,hs⟩)
theorem a5{S:Nat->Bool}{j:Nat}(hi:i<N)(z:j<N)(G:S i=true)(O:S j=true)(ne:i≠j):2<=A8 N S:=by
 rw[Ot N S (λk=>k==i)]
 have:=Hs (S:=λk=>S k&&k==i) hi (by simp[G])
 have:=Hs (S:=λk=>S k && !(k==i)) z (by simp[O,Ne.symm ne])
 lia
theorem Oz(z:∀k,S k=true->k<N){y:Nat->Bool}(h:B5 S y):A8 N (λk=>S k&&y k)<A8 N S/\A8 N (λk=>S k && !y k)<A8 N S:=by
 obtain⟨⟨i,hi,g⟩,j,f,l⟩:=h
 have:=Ot N S y
 have:=Hs (S:=λk=>S k&&y k) (z i hi) (by simp[hi,g])
 have:=Hs (S:=λk=>S k && !y k) (z j f) (by simp[f,l])
 lia
theorem bB(he:∀i j,i<N->j<N->(∀y∈Y,y i=y j)->L i=L j):∀(n:Nat) (S:Nat->Bool),(∀k,S k=true->k<N)->A8 N S<=n+1->Can L Y n S:=by
 intro n
 induction n with
 | zero =>
  intro S f u i j hi g
  by_cases e:i=j
  ·rw[e]
  ·have:=a5 (f i hi) (f j g) hi g e
   lia
 | succ n t =>
  intro S f u
  by_cases o:One L S
  ·exact .inl o
  ·have:∃i j,S i=true/\S j=true/\L i≠L j:=by
    refine Classical.byContradiction λz=>o λi j hi g=>Classical.byContradiction λq=>z ⟨i,j,hi,g,q⟩
   obtain⟨i,j,hi,g,ne⟩:=this
   have:∃y∈Y,y i≠y j:=by
    refine Classical.byContradiction λz=>ne (he i j (f i hi) (f j g) λy p=>Classical.byContradiction λq=>z ⟨y,p,q⟩)
   obtain⟨y,p,m⟩:=this
   have v:B5 S y:=by
    cases l:y i with
    | true =>
     refine⟨⟨i,hi,l⟩,j,g,?_⟩;cases r:y j with
     | false=>rfl
     | true=>rw[l,r]at m;exact absurd rfl m
    | false =>
     refine⟨⟨j,g,?_⟩,i,hi,l⟩;cases r:y j with
     | true=>rfl
     | false=>rw[l,r]at m;exact absurd rfl m
   obtain⟨w,x⟩:=Oz f v;exact .inr ⟨y,p,t _ (λk z=>f k (by simp only[ZBb]at z;exact z.1)) (by lia),t _ (λk z=>f k (by simp only[ZBb]at z;exact z.1)) (by lia)⟩
theorem XB:∀{n:Nat} {S:Nat->Bool},Can L Y n S->∃m,A7 L Y S m:=by
 intro n S h
 induction n with
 | zero=>exact⟨0,h,λ_ _=>ZBT _⟩
 | succ n g =>
  by_cases z:Can L Y n S
  ·exact g z
  ·exact⟨n+1,h,λk f=>by
    rcases ZCN k (n+1) with q | q
    ·exact absurd (Ic (by lia) f) z
    ·exact q⟩
end
noncomputable def msk(ts:List Nat):Nat:=(ts.map (2 ^ ·)).sum
theorem Fp(t:Nat)(ts:List Nat):msk (t::ts)=2^t+msk ts:=by unfold msk;rw[ZBU,ZCE]
theorem Um(ts us:List Nat):msk (ts++us)=msk ts+msk us:=by unfold msk;rw[ZBH,List.sum_append]
theorem OZ:∀(ts:List Nat) (N:Nat),ts.Pairwise (λa b=>b<a)->(∀t∈ts,t<N)->msk ts<2^N/\∀k,(msk ts).testBit k=decide (k∈ts)
 | [],N,_,_=>⟨ZBn N,λk=>by simp[msk]⟩
 | t::ts,N,i,g=>by
  obtain⟨h1,h2⟩:=ZDB.mp i;obtain⟨i1,i2⟩:=OZ ts t h2 h1;rw[Fp];have j:t<N:=g t (by simp);have e2:2^t+2^t<=2^N:=by rw[<- Nat.two_mul,ZB4,<- ZBf];exact ZBL (by decide) j
  refine⟨by lia,λk=>?_⟩
  rcases ZCn k t with z | z | z
  ·rw[Nat.testBit_two_pow_add_gt z,i2 k];simp only[ZBI,show k≠t by lia,false_or]
  ·subst z;rw[Nat.testBit_two_pow_add_eq,i2 k]
   have:k∉ts:=λq=>ZBa _ (h1 k q)
   simp[this]
  ·have:2^t+msk ts<2^k:=by
    have:2^(t+1)<=2^k:=ZBL (by decide) z
    rw[ZBf]at this;lia
   rw[ZCl this];have f:k∉ts:=λq=>ZBa _ (ZCH z (h1 k q))
   simp[f,show k≠t by lia]
theorem Uc(ts:List Nat):msk ts.reverse=msk ts:=by
 induction ts with
 | nil=>rfl
 | cons t ts f=>rw[ZDE,Um,f,Fp,Fp];simp[msk];lia
theorem RO{ts:List Nat}(G:ts.Pairwise (· < ·))(z:∀t∈ts,t<N):msk ts<2^N/\∀k,(msk ts).testBit k=decide (k∈ts):=by
 have:=OZ ts.reverse N (List.pairwise_reverse.mpr G) (λt f=>z t (List.mem_reverse.mp f))
 rw[Uc]at this;exact⟨this.1,λk=>by rw[this.2 k];simp⟩
theorem Jd(x y k:Nat):(x-(x &&& y)).testBit k=(x.testBit k && !y.testBit k):=by
 have e:x-(x &&& y)=x ^^^ (x &&& y):=by
  have h:∀(n x y:Nat),x<2^n->(x ^^^ (x &&& y))+(x &&& y)=x:=by
   intro n
   induction n with
   | zero=>intro x y h;have:x=0:=by simpa using h
           subst this;simp
   | succ n f =>
    intro x y h;have i:=f (x / 2) (y / 2) (by rw[ZBf]at h;lia);have j:(x ^^^ (x &&& y)) / 2=x / 2 ^^^ (x / 2 &&& y / 2):=by rw[Nat.xor_div_two,Nat.and_div_two]
    have l:(x &&& y) / 2=x / 2 &&& y / 2:=Nat.and_div_two
    have m:(x ^^^ (x &&& y))%2+(x &&& y)%2=x%2:=by
     have g:∀z:Nat,z%2=(z.testBit 0).toNat:=λz=>by rw[Nat.toNat_testBit,Nat.pow_zero,Nat.div_one]
     rw[g,g (x &&& y),g x,ZCr,ZCA];cases x.testBit 0 <;> cases y.testBit 0 <;> rfl
    lia
  have:=h x x y Nat.lt_two_pow_self
  lia
 rw[e,ZCr,ZCA];cases x.testBit k <;> cases y.testBit k <;> rfl
theorem Gu(S y:Nat):(S &&& y).testBit=λk=>S.testBit k&&y.testBit k:=funext λk=>ZCA ..
theorem Gx(S y:Nat):(S-(S &&& y)).testBit=λk=>S.testBit k && !y.testBit k:=funext λk=>Jd ..
theorem Ff(h:S<2^n)(G:S.testBit k=true):k<n:=by
 rcases ZCN k n with z | z
 ·exact z
 ·rw[ZCl (ZBZ h (ZBL (by decide) z))]at G;cases G
noncomputable def whr(bs:List Bool)(n:Nat):List Nat:=(List.range n).filter (gB bs)
theorem Rg(bs:List Bool)(n:Nat):whr bs (n+1)=whr bs n++(if gB bs n=true then [n] else []):=by
 unfold whr;rw[ZBw,ZCR];cases h:gB bs n <;> simp[h]
theorem HP(bs:List Bool)(n:Nat):(whr bs n).length<=n:=by
 have:=ZCq (gB bs) (List.range n)
 rw[ZBc]at this;exact this
theorem Nc(bs:List Bool)(n:Nat):(whr bs n).Pairwise (· < ·):=List.Pairwise.filter _ ZDU
theorem GK{t:Nat}(h:t∈whr bs n):t<n:=ZBV.mp (ZBp.mp h).1
theorem OJ{t:Nat}:t∈whr bs n ↔ t<n/\gB bs t=true:=by unfold whr;rw[ZBp,ZBV]
def Kv(K:W.Frag):Sp:=λvs H Q _=>match vs with
 | [.bl b,.ref p]=>∃rb:List Bool,zj K H p (rb.map V.bl)/\rb.length<=100/\DQ H Q (iL (whr (rb.map (· == b)) rb.length))
 | [.int z,.ref p]=>∃ls:List Int,zj K H p (ls.map V.int)/\ls.length<=100/\DQ H Q (iL (whr (ls.map (· == z)) ls.length))
 | _=>False
theorem Hn{α:Type}{f:α->Bool}{l:List α}{x:α}(h:l[i]?=some x):gB (l.map f) i=f x:=by
 unfold gB;rw[ZBO,ZBJ,h];rfl
theorem ag:Ok_ P w base T.z35 1 (Kv K):=by
 refine T.z35.F.ok Uh (λvs H Q E h=>by unfold Kv at h;walk_at "e") ?_;walk_at "f";unfold Kv at h;split at h
 ·rename_i b p;obtain⟨rb,o,m,q⟩:=h;refine⟨_,(@AI _ _ _ (@AK _ _ _ _ (@Af _ _ _ _ _ _ _ (["member","each","wanted"]) 2 [0] _ _ _ _ rfl (JC (K:=K) rfl T.zE (AA (vv 1) AB)) (by kernel_rfl) rfl rfl (by kernel_rfl) (λc=>Bh (K:=K) (n:=2) rfl (Ad (AM (i:=0) (show(["member","each","wanted"]:List Str).Nodup by decide +kernel) rfl (by right)) (Ad (AM (i:=1) (show(["member","each","wanted"]:List Str).Nodup by decide +kernel) rfl (by right)) BJ))) (Ba (Al AY (BQ AY Aj) (AV (by decide)) (Al AY Aj (AV (by decide)) Bf))) (λc=>C0 (Ah (kEq (K:=K) hu) (vv 1) (vv 2))) (λc=>(vv 0)) (by intro _;rfl)))),?_⟩;refine⟨⟨_,o⟩,?_⟩
  refine Ig (xs:=rb.map V.bl) (λi zs H'=>EE H H'/\zs=iL (whr (rb.map (· == b)) i)) ⟨EE.refl _,rfl⟩ (λi zs H' _ ⟨s,_⟩=>s.sqT o) (λi zs H' hi ⟨_,e⟩=>by
   rw[ZBB]at hi
   have:=HP (rb.map (· == b)) i
   rw[e,Ai];exact AX (by lia)) ?_ ?_
  ·rintro i x zs H2 pp g ⟨s2,rfl⟩ f;rw[ZBJ]at g;cases k:rb[i]? with
   | none=>rw[k]at g;cases g
   | some r =>
    rw[k]at g;cases g;have t:gB (rb.map (· == b)) i=(r==b):=Hn k;refine⟨pp,_,rfl,.of AF,rfl,_,_,rfl,_,_,rfl,rfl,?_⟩;rw[Rg,CK,t];refine Aa (λe=>?_) (λe=>?_)
    ·have j:(r==b)=true:=by rw[<- ZB5 (r==b)];exact e
     rw[if_pos j];exact⟨s2.trans (EE.upd f),rfl⟩
    ·have j:¬(r==b)=true:=by rw[<- ZB5 (r==b)];exact e
     rw[if_neg j];exact⟨s2.trans (EE.upd f),by show _=_++[];rw[ZBs]⟩
  ·rintro zs H2 ⟨s2,rfl⟩ l m;rw[ZBB];exact q l _ (s2.free m) (s2.trans (EE.upd m)) AF
 ·rename_i b p;obtain⟨rb,o,m,q⟩:=h;refine⟨_,(@AI _ _ _ (@AK _ _ _ _ (@Af _ _ _ _ _ _ _ (["member","each","wanted"]) 2 [0] _ _ _ _ rfl (JC (K:=K) rfl T.zE (AA (vv 1) AB)) (by kernel_rfl) rfl rfl (by kernel_rfl) (λc=>Bh (K:=K) (n:=2) rfl (Ad (AM (i:=0) (show(["member","each","wanted"]:List Str).Nodup by decide +kernel) rfl (by right)) (Ad (AM (i:=1) (show(["member","each","wanted"]:List Str).Nodup by decide +kernel) rfl (by right)) BJ))) (Ba (Al AY (BQ AY Aj) (AV (by decide)) (Al AY Aj (AV (by decide)) Bf))) (λc=>C0 (Ah (kEq (K:=K) hu) (vv 1) (vv 2))) (λc=>(vv 0)) (by intro _;rfl)))),?_⟩;refine⟨⟨_,o⟩,?_⟩
  refine Ig (xs:=rb.map V.int) (λi zs H'=>EE H H'/\zs=iL (whr (rb.map (· == b)) i)) ⟨EE.refl _,rfl⟩ (λi zs H' _ ⟨s,_⟩=>s.sqT o) (λi zs H' hi ⟨_,e⟩=>by
   rw[ZBB]at hi
   have:=HP (rb.map (· == b)) i
   rw[e,Ai];exact AX (by lia)) ?_ ?_
  ·rintro i x zs H2 pp g ⟨s2,rfl⟩ f;rw[ZBJ]at g;cases k:rb[i]? with
   | none=>rw[k]at g;cases g
   | some r =>
    rw[k]at g;cases g;have t:gB (rb.map (· == b)) i=(r==b):=Hn k;refine⟨pp,_,rfl,.of AF,rfl,_,_,rfl,_,_,rfl,rfl,?_⟩;rw[Rg,CK,t];refine Aa (λe=>?_) (λe=>?_)
    ·have j:(r==b)=true:=by rw[<- ZB5 (r==b)];exact e
     rw[if_pos j];exact⟨s2.trans (EE.upd f),rfl⟩
    ·have j:¬(r==b)=true:=by rw[<- ZB5 (r==b)];exact e
     rw[if_neg j];exact⟨s2.trans (EE.upd f),by show _=_++[];rw[ZBs]⟩
  ·rintro zs H2 ⟨s2,rfl⟩ l m;rw[ZBB];exact q l _ (s2.free m) (s2.trans (EE.upd m)) AF
 ·exact h.elim
def SqI(K:W.Frag)(H:Hp)(p:Addr)(ts:List Nat):Prop:=zr K H p (iL ts)\/zj K H p (iL ts)
def LK(K:W.Frag):Sp:=λvs H Q _=>match vs with
 | [.ref p]=>∃ts:List Nat,SqI K H p ts/\ts.length<=64/\(∀t∈ts,t<=60)/\∀H',EE H H'->Q (.int (msk ts:Nat)) H'
 | _=>False
noncomputable def C9(ts:List Nat):List V:=ts.map λt=>V.int ((2^t:Nat):Int)
theorem KI(ts:List Nat):(ts.map λt=>((2^t:Nat):Int)).sum=(msk ts:Nat):=by
 induction ts with
 | nil=>rfl
 | cons t ts f=>rw[ZBU,ZCE,f,Fp];lia
theorem ZC:Ok_ P w base T.z43 3 (LK K):=by
 refine T.z43.F.ok Wj (λvs H Q E h=>by unfold LK at h;walk_at "e") ?_;walk_at "f";unfold LK at h;walk_at "g"
 rename_i p;obtain⟨ts,f,u,v,q⟩:=h;refine⟨_,(@AI _ _ _ (@AK _ _ _ _ (AZ (DJ (K:=K) rfl) rfl T.zV (by rfl) (AA (@Af _ _ _ _ _ _ _ ["member"] 1 [] _ _ _ _ rfl (Au (K:=K) (vv 0)) (by kernel_rfl) rfl rfl (by kernel_rfl) (λc=>AM (i:=0) (show(["member"]:List Str).Nodup by decide +kernel) rfl (by right)) (AV (by decide)) (λc=>Ag) (λc=>(AG (@Cm P w K mg base T) (hr.mono (show 2<=_ by decide)) rfl T.z81.m T.z81.F.kp T.z81.b .nil AD (AA (vv 0) AB))) (by intro _;rfl)) AB)))),?_⟩
 have turn:∀(k:Nat) (x:V) (ys:List V) (H':Hp),(iL ts)[k]?=some x->(EE H H'/\ys=(ts.take k).map λt=>V.int ((2^t:Nat):Int))->∃t:Nat,x=.int (t:Nat)/\t<=60/\(ts.take (k+1)).map (λt=>V.int ((2^t:Nat):Int))=ys++[V.int ((2^t:Nat):Int)]:=by
  rintro k x ys H' n ⟨_,rfl⟩;obtain⟨t,y,j,rfl⟩:=DB n;refine⟨t,rfl,v t j,?_⟩;rw[ZBl,y,ZBH];rfl
 have fin:∀(ys:List V) (H':Hp),(EE H H'/\ys=(ts.take (iL ts).length).map λt=>V.int ((2^t:Nat):Int))->∀l,H' l=none->∃ns:List Int,zr K (upd H' l (.lst ys)) l (ns.map V.int)/\Q (.int ns.sum) (upd H' l (.lst ys)):=by
  rintro ys H' ⟨s1,rfl⟩ l u;refine⟨ts.map λt=>((2^t:Nat):Int),?_,?_⟩
  ·rw[ZBg,Ai,ZCJ];exact .of AF
  ·rw[KI];exact q _ (s1.trans (EE.upd u))
 rcases f with f | f
 ·refine .inl ⟨⟨_,f⟩,?_⟩
  refine Cc (xs:=iL ts) (λk ys H'=>EE H H'/\ys=(ts.take k).map λt=>V.int ((2^t:Nat):Int)) ⟨EE.refl _,rfl⟩ (λk ys H' _ ⟨s,_⟩=>s.sqL f) (λk ys H' o ⟨_,e⟩=>by
   rw[Ai]at o;rw[e,ZBB,ZBi];exact AX (by lia)) ?_ ?_
  ·intro k x ys H' n g;obtain⟨t,rfl,r,e⟩:=turn k x ys H' n g;refine⟨t,rfl,by lia,?_⟩;exact⟨g.1,e.symm⟩
  ·exact fin
 ·refine .inr ⟨⟨_,f⟩,?_⟩
  refine B6 (xs:=iL ts) (λk ys H'=>EE H H'/\ys=(ts.take k).map λt=>V.int ((2^t:Nat):Int)) ⟨EE.refl _,rfl⟩ (λk ys H' _ ⟨s,_⟩=>s.sqT f) (λk ys H' o ⟨_,e⟩=>by
   rw[Ai]at o;rw[e,ZBB,ZBi];exact AX (by lia)) ?_ ?_
  ·intro k x ys H' n g;obtain⟨t,rfl,r,e⟩:=turn k x ys H' n g;refine⟨t,rfl,by lia,?_⟩;exact⟨g.1,e.symm⟩
  ·exact fin
noncomputable def AN(ls:List Int)(k:Nat):Int:=ls.getD k 0
noncomputable def Ac(ys:List Nat):List (Nat->Bool):=ys.map Nat.testBit
noncomputable def Bg(a b c d:V):List (Str×V):=[("labels",a),("yeses",b),("alike",c),("known",d)]
theorem lk1(a b c d:V):(Bg a b c d).lookup ("labels" : Str)=some a:=by rfl
theorem lk2(a b c d:V):(Bg a b c d).lookup ("yeses" : Str)=some b:=by rfl
theorem lk3(a b c d:V):(Bg a b c d).lookup ("alike" : Str)=some c:=by rfl
theorem lk4(a b c d:V):(Bg a b c d).lookup ("known" : Str)=some d:=by rfl
theorem ln1(a b c d:V):(Bg a b c d).lookup ("fewest_among" : Str)=none:=by rfl
theorem ln2(a b c d:V):(Bg a b c d).lookup ("fewest_reckoned" : Str)=none:=by rfl
theorem ln3(a b c d:V):(Bg a b c d).lookup ("has_one_label" : Str)=none:=by rfl
theorem ln4(a b c d:V):(Bg a b c d).lookup ("worst_behind" : Str)=none:=by rfl
theorem ln5(a b c d:V):(Bg a b c d).lookup ("parting" : Str)=none:=by rfl
theorem ln6(a b c d:V):(Bg a b c d).lookup ("harder_left" : Str)=none:=by rfl
theorem ln7(a b c d:V):(Bg a b c d).lookup ("left_of" : Str)=none:=by rfl
theorem pf1(a:V):Aq "labels" a []=([("labels",a)]:List (Str×V)):=by rfl
theorem pf2(a b:V):Aq "yeses" b [("labels",a)]=([("labels",a),("yeses",b)]:List (Str×V)):=by rfl
theorem pf3(a b c:V):Aq "alike" c [("labels",a),("yeses",b)]=([("labels",a),("yeses",b),("alike",c)]:List (Str×V)):=by rfl
theorem pf4(a b c d:V):Aq "known" d [("labels",a),("yeses",b),("alike",c)]=Bg a b c d:=by rfl
structure Memo(ls:List Int)(ys:List Nat)(ze:List (Key×V)):Prop where
 nd:(ze.map (·.1)).Nodup
 ok:∀e∈ze,∃S m:Nat,e=((Sum.inl (S:Int):Key),V.int (m:Int))/\S<2^ls.length/\A7 (AN ls) (Ac ys) S.testBit m
theorem MQ:∀(N:Nat) (l:List Nat),l.Nodup->(∀x∈l,x<N)->l.length<=N
 | 0,l,_,h=>by
  cases l with
  | nil=>exact ZBD _
  | cons x r=>exact absurd (h x (by simp)) (by lia)
 | N+1,l,nd,h=>by
  have:=MQ N (l.erase N) (nd.erase N) (λx f=>by
   have h2:=(nd.mem_erase_iff).mp f
   have:=h x h2.2
   have:=h2.1
   lia)
  by_cases z:N∈l
  ·have e:=List.length_erase_of_mem z;lia
  ·have e:=List.erase_of_not_mem z;rw[e]at this;lia
theorem Memo.len(h:Memo ls ys ze)(G:ls.length<=16):ze.length<2^24:=by
 have k:ze.length<=2^ls.length:=by
  have e:(ze.map λe=>match e.1 with | Sum.inl z=>z.toNat | Sum.inr _=>0).length=ze.length:=ZBB ..;rw[<- e];apply MQ
  ·refine ZCI.mpr ?_;have nd:=ZCI.mp h.nd;refine List.Pairwise.imp_of_mem ?_ nd;intro a b ha i ne;obtain⟨S,m,f,_⟩:=h.ok a ha;obtain⟨S',l,g,_⟩:=h.ok b i;subst f g;intro q;apply ne
   have:(S:Int).toNat=(S':Int).toNat:=q
   have:S=S':=by lia
   rw[this]
  ·intro x j;obtain⟨a,ha,rfl⟩:=ZBN.mp j;obtain⟨S,m,f,hs,_⟩:=h.ok a ha;subst f
   show(S:Int).toNat<_
   rw[ZBj];exact hs
 have:2^ls.length<=2^16:=ZBL (by decide) G
 lia
theorem UD{k:Key}(h:valV ze k=some v):(k,v)∈ze:=by
 unfold valV at h;cases e:ze.find? λf=>decide (f.1=k) with
 | none=>rw[e]at h;cases h
 | some x =>
  rw[e]at h;have h1:=List.find?_some e;have h2:=List.mem_of_find?_eq_some e;cases h
  have:x.1=k:=ZBY h1
  rw[<- this];exact h2
theorem Memo.get(h:Memo ls ys ze)(e:valV ze (Sum.inl (S:Int):Key)=some v):∃m:Nat,v=.int m/\A7 (AN ls) (Ac ys) S.testBit m:=by
 obtain⟨S',m,f,_,hf⟩:=h.ok _ (UD e);have g:(Sum.inl (S:Int):Key)=Sum.inl (S':Int):=congrArg Prod.fst f;have e2:v=V.int m:=congrArg Prod.snd f
 have:(S:Int)=S':=Sum.inl.inj g
 have:S=S':=by lia
 subst this;exact⟨m,e2,hf⟩
theorem Memo.put(h:Memo ls ys ze)(hs:S<2^ls.length)(hf:A7 (AN ls) (Ac ys) S.testBit m):Memo ls ys (BH ze (Sum.inl (S:Int):Key) (V.int m)):=by
 unfold BH;split
 ·refine⟨?_,?_⟩
  ·have e:(ze.map (λg=>if g.1=(Sum.inl (S:Int):Key) then (g.1,V.int m) else g)).map (·.1)=ze.map (·.1):=by
    rw[ZBg];apply ZCC;intro a _;simp only[Function.comp];split <;> rfl
   rw[e];exact h.nd
  ·intro e he;obtain⟨a,ha,rfl⟩:=ZBN.mp he;split
   ·rename_i q;exact⟨S,m,by rw[q],hs,hf⟩
   ·exact h.ok a ha
 ·rename_i z;refine⟨?_,?_⟩
  ·rw[ZBH,List.nodup_append];refine⟨h.nd,by simp,?_⟩;intro a ha b i q;have f:b=(Sum.inl (S:Int):Key):=by simpa using i
   obtain⟨x,j,rfl⟩:=ZBN.mp ha;exact z (ZCY.mpr ⟨x,j,ZBK (q.trans f)⟩)
  ·intro e he
   rcases ZCB.mp he with q | q
   ·exact h.ok e q
   ·rw[ZBX]at q;exact⟨S,m,q,hs,hf⟩
def RL(ls:List Int)(as:List Nat):Prop:=∀S,S<2^ls.length->(as.any (λa=>decide (S &&& a=S))=true ↔ One (AN ls) S.testBit)
structure RkAt(K:W.Frag)(C:Addr)(ls:List Int)(ys:List Nat)(H:Hp)(p d:Addr):Prop where
 at_:∃dx tl yl al as ze,H p=some (.ins C dx (Bg (.ref tl) (.ref yl) (.ref al) (.ref d)))/\zj K H tl (ls.map V.int)/\H yl=some (.lst (iL ys))/\H al=some (.lst (iL as))/\H d=some (.dK ze)/\as.length<=100/\RL ls as/\Memo ls ys ze
 l16:ls.length<=16
 y16:ys.length<=16
theorem RkAt.same(r:RkAt K C ls ys H p d)(s:EE H H'):RkAt K C ls ys H' p d:=by
 obtain⟨dx,tl,yl,al,as,ze,h1,h2,f,g,i,j,k,l⟩:=r.at_;exact⟨⟨dx,tl,yl,al,as,ze,s _ _ h1,s.sqT h2,s _ _ f,s _ _ g,s _ _ i,j,k,l⟩,r.l16,r.y16⟩
def DZ(o:HO):Prop:=(∀xs,o≠.tup xs)/\∀f u,o≠.frz f u
theorem Ek{o:HO}(f:zp d H H')(hd:H d=some o)(no:DZ o)(h:zj K H a xs):zj K H' a xs:=by
 by_cases e:a=d
 ·subst e
  rcases h with (h | ⟨g,h⟩) | h
  ·rw[hd]at h;exact absurd (ZBQ h) (no.1 _)
  ·rw[hd]at h;exact absurd (ZBQ h) (no.2 _ _)
  ·exact .inr h
 ·exact II h λo k=>f _ _ e k
theorem Ll:DZ (.dK ze):=⟨(λ_ z=>nomatch z),(λ_ _ z=>nomatch z)⟩
theorem HN{dx:Addr}{fs:List (Str×V)}:DZ (.ins C dx fs):=⟨(λ_ z=>nomatch z),(λ_ _ z=>nomatch z)⟩
theorem RkAt.put{G:List (Key×V)}(r:RkAt K C ls ys H p d)(f:zp d H H')(hd:H' d=some (.dK G))(m:Memo ls ys G):RkAt K C ls ys H' p d:=by
 obtain⟨dx,tl,yl,al,as,ze,h1,h2,i,j,g,k,l,n⟩:=r.at_;exact⟨⟨dx,tl,yl,al,as,G,f _ _ (B7 h1 g (by intro z;cases z)) h1,Ek f g Ll h2,f _ _ (B7 i g (by intro z;cases z)) i,f _ _ (B7 j g (by intro z;cases z)) j,hd,k,l,m⟩,r.l16,r.y16⟩
theorem CM(s:EE H H'):zp t H H':=λb o _ e=>s b o e
def KY(K:W.Frag)(C:Addr):Sp:=λvs H Q _=>match vs with
 | [.ref p,.int z]=>∃ls ys d S,RkAt K C ls ys H p d/\z=(S:Nat)/\S<2^ls.length/\∀b H',(b=true ↔ One (AN ls) S.testBit)->EE H H'->Q (.bl b) H'
 | _=>False
theorem RT:Om_ P w mg base T.z16 2 (KY K T.zA):=by
 refine T.z16.F.ok Yu (λvs H Q E h=>by unfold KY at h;walk_at "e") ?_;walk_at "f";unfold KY at h;walk_at "g"
 rename_i p z;obtain⟨ls,ys,d,S,R,g,n,q⟩:=h;subst g;obtain⟨dx,tl,yl,al,as,ze,h1,h2,u,f,v,y,j,B⟩:=R.at_;refine⟨_,(@AI _ _ _ (@AK _ _ _ _ (AZ (QS (K:=K) rfl) rfl T.ye (by rfl) (AA (Af (N':=["alike","things"]) (own:=1) (ix:=[1]) rfl (Au (K:=K) (Cw T.zB T.zO (vv 0))) (by kernel_rfl) rfl rfl (by kernel_rfl) (λc=>AM (i:=0) (show(["alike","things"]:List Str).Nodup by decide +kernel) rfl (by right)) (AV (by decide)) (λc=>Ag) (λc=>(AG (@IH P w K mg base T) (hr.mono (show 1<=_ by decide)) rfl T.z82.m T.z82.F.kp T.z82.b .nil AD (AA (vv 1) (AA (vv 0) AB))))) AB)))),?_⟩;refine⟨dx,_,_,h1,lk3 _ _ _ _,.inl ⟨⟨_,.of f⟩,?_⟩⟩
 refine Cc (xs:=iL as) (λk zs H'=>EE H H'/\zs=((as.take k).map λa=>decide (S &&& a=S)).map V.bl) ⟨EE.refl _,rfl⟩ (λk zs H' _ ⟨s,_⟩=>s.sqL (.of f)) (λk zs H' o ⟨_,e⟩=>by
  rw[Ai]at o;rw[e,ZBB,ZBB,ZBi];exact AX (by lia)) ?_ ?_
 ·rintro k x zs H' t ⟨s1,rfl⟩;obtain⟨a,ha,_,rfl⟩:=DB t;refine⟨S,a,rfl,rfl,s1,?_⟩;rw[ZBl,ha,ZBH,ZBH];rfl
 ·rintro zs H' ⟨s1,rfl⟩ l r;rw[Ai,ZCJ];refine⟨_,.of AF,q _ _ ?_ (s1.trans (EE.upd r))⟩;rw[List.any_map];exact j S n
def Ra(K:W.Frag)(C:Addr):Sp:=λvs H Q _=>match vs with
 | [.ref p,.int z,.int i,.bl f]=>∃ls ys d S j y,RkAt K C ls ys H p d/\z=(S:Nat)/\i=(j:Nat)/\ys[j]?=some y/\Q (.int ((if f=true then S &&& y else S-(S &&& y):Nat):Int)) H
 | _=>False
theorem WP{j y:Nat}(h:ys[j]?=some y):atI (iL ys) ((j:Nat):Int)=some (.int (y:Nat)):=Ak rfl (by unfold iL;rw[ZBJ,h];rfl)
theorem LO:Om_ P w mg base T.z23 1 (Ra K T.zA):=by
 refine T.z23.F.ok sc_z23 (λvs H Q E h=>by unfold Ra at h;walk_at "e") ?_;walk_at "f"
 match vs,h with
 | [.ref p,.int z,.int i,.bl f],⟨ls,ys,d,S,j,y,R,g,e2,l,q⟩ =>
 subst g e2;obtain⟨dx,tl,yl,al,as,ze,h1,h2,k,o,r,t,u,v⟩:=R.at_;refine⟨_,(@AH _ _ _ _ _ (@AO _ _ 4 _ _ _ _ sc_z23.nd rfl (by right) (AQ GU (vv 1) (zq (K:=K) (Cw T.zB T.zI (vv 0)) (vv 2))) (by rfl) (by symm)) (@AI _ _ _ (@AK _ _ _ _ (DV (BU (vv 3)) (vv 4) (AQ Dt (vv 1) (vv 4)))))),?_⟩;refine⟨dx,_,_,h1,lk2 _ _ _ _,_,.int (y:Nat),.inl (.of k),WP l,?_⟩;dsimp only[AW,Gr];rw[Es];cases f with
 | true=>exact q
 | false =>
  have e:((S:Int)-((S &&& y:Nat):Int))=((S-(S &&& y):Nat):Int):=by
   have:=ZCk (n:=S) (m:=y)
   lia
  show Q (.int ((S:Int)-((S &&& y:Nat):Int))) H;rw[e];exact q
noncomputable def Cb(S y:Nat):Bool:=decide (0<S &&& y)&&decide (S &&& y<S)
noncomputable def BF(S:Nat)(ys:List Nat)(n:Nat):List Nat:=(List.range n).filter λi=>Cb S (ys.getD i 0)
theorem VZ(S:Nat)(ys:List Nat)(n:Nat):BF S ys (n+1)=BF S ys n++(if Cb S (ys.getD n 0)=true then [n] else []):=by
 unfold BF;rw[ZBw,ZCR];cases h:Cb S (ys.getD n 0) <;> simp only[List.filter_cons,List.filter_nil,h] <;> rfl
theorem No(S:Nat)(ys:List Nat)(n:Nat):(BF S ys n).length<=n:=by
 have:=ZCq (λi=>Cb S (ys.getD i 0)) (List.range n)
 rw[ZBc]at this;exact this
theorem Jw(S y:Nat):Cb S y=true ↔ B5 S.testBit y.testBit:=by
 unfold Cb B5;rw[ZBb,decide_eq_true_eq,decide_eq_true_eq]
 have h1:0<S &&& y ↔ ∃k,S.testBit k=true/\y.testBit k=true:=by
  constructor
  ·intro h;obtain⟨k,f⟩:=Nat.exists_testBit_of_ne_zero (Nat.pos_iff_ne_zero.mp h);rw[ZCA,ZBb]at f;exact⟨k,f⟩
  ·rintro⟨k,a,b⟩
   rcases ZDS (S &&& y) with z | z
   ·have:(S &&& y).testBit k=true:=by rw[ZCA,a,b];rfl
    rw[z]at this;simp at this
   ·exact z
 have h2:S &&& y<S ↔ ∃k,S.testBit k=true/\y.testBit k=false:=by
  have hle:=ZCk (n:=S) (m:=y);constructor
  ·intro h;obtain⟨k,f⟩:=Nat.exists_testBit_of_ne_zero (show S-(S &&& y)≠0 by lia);rw[Jd,ZBb]at f;exact⟨k,f.1,by simpa using f.2⟩
  ·rintro⟨k,a,b⟩
   rcases ZCN (S &&& y) S with z | z
   ·exact z
   ·have e:S &&& y=S:=by lia
    have:(S &&& y).testBit k=true:=by rw[e];exact a
    rw[ZCA,b]at this;simp at this
 rw[h1,h2]
def Lo(K:W.Frag)(C:Addr):Sp:=λvs H Q _=>match vs with
 | [.ref p,.int z]=>∃ls ys d S,RkAt K C ls ys H p d/\z=(S:Nat)/\DQ H Q (iL (BF S ys ys.length))
 | _=>False
theorem QJ:Om_ P w mg base T.z24 1 (Lo K T.zA):=by
 refine T.z24.F.ok UV (λvs H Q E h=>by unfold Lo at h;walk_at "e") ?_;walk_at "f";unfold Lo at h;walk_at "g"
 rename_i p z;obtain⟨ls,ys,d,S,R,u,q⟩:=h;subst u;obtain⟨dx,tl,yl,al,as,ze,h1,h2,r,D,G,I,J,L⟩:=R.at_;have y16:=R.y16;refine⟨_,(@AI _ _ _ (@AK _ _ _ _ (@Af _ _ _ _ _ _ _ (["question","yes","things"]) 2 [1] _ _ _ _ rfl (FK (K:=K) rfl T.zE (AA (Cw T.zB T.zI (vv 0)) AB)) (by kernel_rfl) rfl rfl (by kernel_rfl) (λc=>Bh (K:=K) (n:=2) rfl (Ad (AM (i:=0) (show(["question","yes","things"]:List Str).Nodup by decide +kernel) rfl (by right)) (Ad (AM (i:=1) (show(["question","yes","things"]:List Str).Nodup by decide +kernel) rfl (by right)) BJ))) (Ba (Al AY (BQ AY Aj) (AV (by decide)) (Al AY Aj (AV (by decide)) Bf))) (λc=>C0 (ZA Cy Cy AE (AQ GU (vv 2) (vv 1)) (vv 2))) (λc=>(vv 0)) (by intro _;rfl)))),?_⟩;refine⟨dx,_,_,h1,lk2 _ _ _ _,⟨_,.of r⟩,?_⟩
 refine Fw (xs:=iL ys) (λi zs H'=>EE H H'/\zs=iL (BF S ys i)) ⟨EE.refl _,rfl⟩ (λi zs H' _ ⟨s,_⟩=>s.sqL (.of r)) (λi zs H' hi ⟨_,e⟩=>by
  rw[Ai]at hi
  have:=No S ys i
  rw[e,Ai];exact AX (by lia)) ?_ ?_
 ·rintro i x zs H2 pp B ⟨s2,rfl⟩ m;obtain⟨y,C,_,rfl⟩:=DB B;refine⟨pp,_,rfl,.of AF,rfl,_,_,rfl,_,_,rfl,rfl,?_⟩;have v:ys.getD i 0=y:=by rw[ZBO,C];rfl
  rw[VZ,CK,v];have s3:=s2.trans (EE.upd (o:=.tup [.int (i:Nat),.int (y:Nat)]) m);have g:Builtin.bitAnd (S:Int) (y:Int)=((S &&& y:Nat):Int):=Es ..;refine Aa (λe=>?_) (λe=>?_)
  ·rw[g]at e;have j:0<S &&& y:=by have:=ZBY e;lia
   refine Aa (λf=>?_) (λf=>?_)
   ·rw[g]at f;have k:S &&& y<S:=by have:=ZBY f;lia
    rw[if_pos (show Cb S y=true by unfold Cb;rw[ZBK j,ZBK k];rfl)];exact⟨s3,rfl⟩
   ·rw[g]at f;have k:¬S &&& y<S:=λq=>f (ZBK (by lia))
    rw[if_neg (show ¬Cb S y=true by unfold Cb;rw[ZBo k,ZDG];simp)];exact⟨s3,by show _=_++[];rw[ZBs]⟩
  ·rw[g]at e;have j:¬0<S &&& y:=λq=>e (ZBK (by lia))
   rw[if_neg (show ¬Cb S y=true by unfold Cb;rw[ZBo j,ZDD];simp)];exact⟨s3,by show _=_++[];rw[ZBs]⟩
 ·rintro zs H2 ⟨s2,rfl⟩ l t;rw[Ai];exact q l _ (s2.free t) (s2.trans (EE.upd t)) AF
def Bb(K:W.Frag)(C:Addr)(c:Nat):Sp:=λvs H Q _=>match vs with
 | [.ref p,.int z]=>∃ls ys d S,RkAt K C ls ys H p d/\z=(S:Nat)/\S<2^ls.length/\(∃n,Can (AN ls) (Ac ys) n S.testBit)/\A8 ls.length S.testBit<c/\∀(m:Nat) H',A7 (AN ls) (Ac ys) S.testBit m->RkAt K C ls ys H' p d->zp d H H'->Q (.int (m:Nat)) H'
 | _=>False
theorem NU{c:Nat}:AT (Bb K C c):=λvs H Q f E h q=>by
 unfold Bb at *;walk_at "q"
def MS(K:W.Frag)(C:Addr)(c:Nat):Sp:=λvs H Q _=>match vs with
 | [.ref p,.int z,.int i]=>∃ls ys d S j y,RkAt K C ls ys H p d/\z=(S:Nat)/\S<2^ls.length/\(∃n,Can (AN ls) (Ac ys) n S.testBit)/\i=(j:Nat)/\ys[j]?=some y/\B5 S.testBit y.testBit/\A8 ls.length S.testBit<c+1 /\
  ∀(b e X:Nat) H',A7 (AN ls) (Ac ys) (S &&& y).testBit b->A7 (AN ls) (Ac ys) (S-(S &&& y)).testBit e->(X=S &&& y/\e<b\/X=S-(S &&& y)/\b<=e)->RkAt K C ls ys H' p d->zp d H H'->Q (.int (X:Nat)) H'
 | _=>False
def Ea(K:W.Frag)(C:Addr)(c:Nat):Sp:=λvs H Q _=>match vs with
 | [.ref p,.int z,.int i]=>∃ls ys d S j y,RkAt K C ls ys H p d/\z=(S:Nat)/\S<2^ls.length/\(∃n,Can (AN ls) (Ac ys) n S.testBit)/\i=(j:Nat)/\ys[j]?=some y/\B5 S.testBit y.testBit/\A8 ls.length S.testBit<c+1 /\
  ∀(b e:Nat) H',A7 (AN ls) (Ac ys) (S &&& y).testBit b->A7 (AN ls) (Ac ys) (S-(S &&& y)).testBit e->RkAt K C ls ys H' p d->zp d H H'->Q (.int (max b e:Nat)) H'
 | _=>False
theorem IZ{y c:Nat}(U:S<2^ls.length)(G:Can (AN ls) (Ac ys) n S.testBit)(hp:B5 S.testBit y.testBit)(O:A8 ls.length S.testBit<c+1) :
 (S &&& y<2^ls.length/\Can (AN ls) (Ac ys) n (S &&& y).testBit/\A8 ls.length (S &&& y).testBit<c)/\S-(S &&& y)<2^ls.length/\Can (AN ls) (Ac ys) n (S-(S &&& y)).testBit/\A8 ls.length (S-(S &&& y)).testBit<c:=by
 obtain⟨f,g⟩:=Oz (λk O=>Ff U O) hp;have hle:=ZCk (n:=S) (m:=y);rw[Gu,Gx];exact⟨⟨by lia,C5 (λk z=>by simp only[ZBb]at z;exact z.1) G,by lia⟩,by lia,C5 (λk z=>by simp only[ZBb]at z;exact z.1) G,by lia⟩
theorem Sd(c:Nat)(G:Om_ P w mg base T.z18 (4*c+4) (Bb K T.zA c)) :
 Om_ P w mg base T.z20 (4*c+5) (MS K T.zA c):=by
 have k:=@LO P w K mg base T;refine T.z20.F.ok sc_z20 (λvs H Q E h=>by unfold MS at h;walk_at "e") ?_;walk_at "f";have g:=hr.mono (show 1<=4*c+4 by lia);have f:=hr;unfold MS at h;walk_at "g"
 rename_i p z i;obtain⟨ls,ys,d,S,j,y,R,N,O,⟨n,U⟩,e2,u,W,V,q⟩:=h;subst N e2;obtain⟨⟨a1,a2,C⟩,J,L,M⟩:=IZ O U W V;obtain⟨dx,tl,yl,al,as,ze,h1,_⟩:=id R.at_;refine⟨_,(@AH _ _ _ _ _ (@AO _ _ 3 _ _ _ _ sc_z20.nd rfl (by right) (A9 (vv 0) T.zB T.z23.m k g T.z23.b .nil AD (AA (vv 1) (AA (vv 2) (AA BE AB)))) (by rfl) (by symm)) (@AH _ _ _ _ _ (@AO _ _ 4 _ _ _ _ sc_z20.nd rfl (by right) (A9 (vv 0) T.zB T.z23.m k g T.z23.b .nil AD (AA (vv 1) (AA (vv 2) (AA BE AB)))) (by rfl) (by symm)) (@AI _ _ _ (@AK _ _ _ _ (DV (Ah Ci (A9 (vv 0) T.zB T.z18.m G f T.z18.b .nil AD (AA (vv 4) AB)) (A9 (vv 0) T.zB T.z18.m G f T.z18.b .nil AD (AA (vv 3) AB))) (vv 4) (vv 3)))))),?_⟩;refine⟨p,dx,_,rfl,h1,ln7 _ _ _ _,ls,ys,d,S,j,y,R,rfl,rfl,u,?_⟩;dsimp only[AW];refine⟨p,dx,_,rfl,h1,ln7 _ _ _ _,ls,ys,d,S,j,y,R,rfl,rfl,u,?_⟩;dsimp only[AW];refine⟨p,dx,_,rfl,h1,ln1 _ _ _ _,ls,ys,d,S &&& y,R,rfl,a1,⟨n,a2⟩,C,λb H1 f1 t l=>?_⟩;obtain⟨r,Y,Z,D,I,v,X,_⟩:=id t.at_;refine⟨p,r,_,rfl,X,ln1 _ _ _ _,ls,ys,d,S-(S &&& y),t,rfl,J,⟨n,L⟩,M,λe H2 f2 R2 o=>?_⟩;refine Aa (λx=>?_) (λx=>?_)
 ·have B:e<b:=by have:=ZBY x;lia
  exact q b e _ H2 f1 f2 (.inl ⟨rfl,B⟩) R2 (l.trans o)
 ·have B:¬e<b:=λw=>x (ZBK (by lia))
  exact q b e _ H2 f1 f2 (.inr ⟨rfl,by lia⟩) R2 (l.trans o)
theorem Of(c:Nat)(G:Om_ P w mg base T.z18 (4*c+4) (Bb K T.zA c)) :
 Om_ P w mg base T.z17 (4*c+6) (Ea K T.zA c):=by
 have k:=Sd T c G;refine T.z17.F.ok T8 (λvs H Q E h=>by unfold Ea at h;walk_at "e") ?_;walk_at "f";have f:=hr.mono (show 4*c+4<=4*c+5 by lia);have g:=hr;unfold Ea at h;walk_at "g"
 rename_i p z i;obtain⟨ls,ys,d,S,j,y,R,M,r,⟨n,t⟩,e2,O,v,u,q⟩:=h;subst M e2;obtain⟨⟨a1,a2,D⟩,I,J,L⟩:=IZ r t v u;obtain⟨dx,tl,yl,al,as,ze,h1,_⟩:=id R.at_;refine⟨_,(@AI _ _ _ (@AK _ _ _ _ (A9 (vv 0) T.zB T.z18.m G f T.z18.b .nil AD (AA (A9 (vv 0) T.zB T.z20.m k g T.z20.b .nil AD (AA (vv 1) (AA (vv 2) AB))) AB)))),?_⟩;refine⟨p,dx,_,rfl,h1,ln1 _ _ _ _,p,dx,_,rfl,h1,ln6 _ _ _ _,ls,ys,d,S,j,y,R,rfl,r,⟨n,t⟩,rfl,O,v,u,λb e X H1 f1 f2 N B l=>?_⟩
 have C:X<2^ls.length/\(∃n,Can (AN ls) (Ac ys) n X.testBit)/\A8 ls.length X.testBit<c/\∀m,A7 (AN ls) (Ac ys) X.testBit m->m=max b e:=by
  rcases N with ⟨rfl,x⟩ | ⟨rfl,x⟩
  ·exact⟨a1,⟨n,a2⟩,D,λm hm=>by rw[Mb hm f1];lia⟩
  ·exact⟨I,⟨n,J⟩,L,λm hm=>by rw[Mb hm f2];lia⟩
 obtain⟨U,V,W,Y⟩:=C;refine⟨ls,ys,d,X,B,rfl,U,V,W,λm H2 hm R2 o=>?_⟩;rw[Y m hm];exact q b e H2 f1 f2 R2 (l.trans o)
def Go(ls:List Int)(ys:List Nat)(S:Nat)(z ms:List Nat):Prop:=ms.length=z.length/\∀(t i:Nat),z[t]?=some i->∃b e,A7 (AN ls) (Ac ys) (S &&& ys.getD i 0).testBit b/\A7 (AN ls) (Ac ys) (S-(S &&& ys.getD i 0)).testBit e/\ms[t]?=some (max b e)
theorem bU{G ms:List Nat}{b e:Nat}(h:Go ls ys S G ms)(f1:A7 (AN ls) (Ac ys) (S &&& ys.getD i 0).testBit b)(f2:A7 (AN ls) (Ac ys) (S-(S &&& ys.getD i 0)).testBit e):Go ls ys S (G++[i]) (ms++[max b e]):=by
 refine⟨by rw[ZBS,ZBS,h.1];rfl,λt k f=>?_⟩
 rcases ZCn t G.length with z | z | z
 ·rw[ZCu z]at f;obtain⟨g,j,g1,g2,g3⟩:=h.2 t k f;exact⟨g,j,g1,g2,by rw[ZCu (by rw[h.1];exact z)];exact g3⟩
 ·subst z;rw[ZCt (ZBD _),Nat.sub_self]at f;cases f;exact⟨b,e,f1,f2,by rw[<- h.1,ZCt (ZBD _),Nat.sub_self];rfl⟩
 ·rw[ZCt (ZBy z)]at f;rw[ZCW (by simp;lia)]at f;cases f
theorem GY(h:i∈BF S ys ys.length):ys[i]?=some (ys.getD i 0)/\B5 S.testBit (ys.getD i 0).testBit:=by
 obtain⟨h1,h2⟩:=ZBp.mp h;have h1:=ZBV.mp h1;refine⟨?_,(Jw _ _).mp h2⟩;rw[ZBO,ZBE h1];rfl
theorem X7{ms:List Nat}(z:¬One (AN ls) S.testBit)(h:Go ls ys S (BF S ys ys.length) ms)(h1:M∈ms)(h2:∀a∈ms,M<=a):A7 (AN ls) (Ac ys) S.testBit (1+M):=by
 refine Wc z ?_ ?_
 ·obtain⟨t,j,l⟩:=ZCD h1;have g:t<(BF S ys ys.length).length:=by rw[<- h.1];exact j
  obtain⟨b,e,g1,g2,g3⟩:=h.2 t _ (ZBE g);obtain⟨r,u⟩:=GY (ZCL g);rw[Gu]at g1;rw[Gx]at g2;refine⟨_,ZBN.mpr ⟨_,ZB3 r,rfl⟩,u,b,e,g1,g2,?_⟩;rw[ZBE j,l]at g3;exact ZBQ g3
 ·intro f hf o;obtain⟨y,p,rfl⟩:=ZBN.mp hf;obtain⟨i,hi,n⟩:=ZCD p;have k:ys.getD i 0=y:=by rw[ZBO,ZBE hi,n];rfl
  have m:i∈BF S ys ys.length:=ZBp.mpr ⟨ZBV.mpr hi,(Jw _ _).mpr (by rw[k];exact o)⟩;obtain⟨t,j,l⟩:=ZCD m;obtain⟨b,e,g1,g2,g3⟩:=h.2 t i (by rw[ZBE j,l]);rw[Gu,k]at g1;rw[Gx,k]at g2;exact⟨b,e,g1,g2,h2 _ (ZB3 g3)⟩
theorem Ou(G:¬One (AN ls) S.testBit)(z:Can (AN ls) (Ac ys) n S.testBit):0<(BF S ys ys.length).length:=by
 obtain⟨f,hf,k⟩:=LB G z;obtain⟨y,l,rfl⟩:=ZBN.mp hf;obtain⟨i,hi,j⟩:=ZCD l;have g:ys.getD i 0=y:=by rw[ZBO,ZBE hi,j];rfl
 exact ZDY (ZBp.mpr ⟨ZBV.mpr hi,(Jw _ _).mpr (by rw[g];exact k)⟩)
theorem SQ(c:Nat)(G:Om_ P w mg base T.z18 (4*c+4) (Bb K T.zA c)) :
 Om_ P w mg base T.z14 (4*c+7) (Bb K T.zA (c+1)):=by
 have u:=Of T c G;refine T.z14.F.ok Vp (λvs H Q E h=>by unfold Bb at h;walk_at "e") ?_;walk_at "f";have j:=hr;have g:=hr.mono (show 2<=4*c+6 by lia);have r:=hr.mono (show 1<=4*c+6 by lia);unfold Bb at h;walk_at "g"
 rename_i p z;obtain⟨ls,ys,d,S,R,e1,W,⟨n,Y⟩,hk,q⟩:=h;subst e1;obtain⟨dx,tl,yl,al,as,ze,h1,_,_,_,hd,_⟩:=id R.at_;have l16:=R.l16;have y16:=R.y16;refine⟨_,(@AH _ _ _ _ _ (@Av _ _ _ _ _ _ _ _ (BU (A9 (vv 0) T.zB T.z16.m (@RT P w K mg base T) g T.z16.b .nil AD (AA (vv 1) AB))) (@AI _ _ _ (@AK _ _ _ _ AE)) Aw) (@AI _ _ _ (@AK _ _ _ _ (AQ (Bm (K:=K)) AE (AZ (Vt (K:=K) rfl) rfl T.ya (by rfl) (AA (Af (N':=["question","self","things"]) (own:=1) (ix:=[0,1]) rfl (Au (K:=K) (A9 (vv 0) T.zB T.z24.m (@QJ P w K mg base T) r T.z24.b .nil AD (AA (vv 1) AB))) (by kernel_rfl) rfl rfl (by kernel_rfl) (λc=>AM (i:=0) (show(["question","self","things"]:List Str).Nodup by decide +kernel) rfl (by right)) (AV (by decide)) (λc=>Ag) (λc=>(A9 (vv 1) T.zB T.z17.m u j T.z17.b .nil AD (AA (vv 2) (AA (vv 0) AB))))) AB)))))),?_⟩;refine⟨p,dx,_,rfl,h1,ln3 _ _ _ _,ls,ys,d,S,R,rfl,W,λb H1 X s1=>?_⟩;have B:=R.same s1;have L:=s1 _ _ hd;cases b with
 | true=>exact q 0 H1 ⟨X.mp rfl,λ_ _=>ZBT _⟩ B (CM s1)
 | false =>
  have Z:¬One (AN ls) S.testBit:=λo=>nomatch X.mpr o
  refine⟨p,dx,_,rfl,s1 _ _ h1,ln5 _ _ _ _,ls,ys,d,S,B,rfl,λl H2 hl s2 g2=>.inl ⟨⟨_,.of g2⟩,?_⟩⟩;have R2:=B.same s2;have hd2:=s2 _ _ L;have V:l≠d:=B7 g2 hd2 (by intro z;cases z);have zk:=No S ys ys.length
  refine Cc (xs:=iL (BF S ys ys.length)) (λk zs H'=>RkAt K T.zA ls ys H' p d/\zp d H2 H'/\∃ms,zs=iL ms/\Go ls ys S ((BF S ys ys.length).take k) ms) ⟨R2,zp.refl,[],rfl,rfl,λt i ht=>by simp at ht⟩ (λk zs H' _ ⟨_,f,_⟩=>.of (f _ _ V g2)) (λk zs H' O ⟨_,_,ms,e,hw⟩=>by
   rw[Ai]at O;rw[e,Ai,hw.1,ZBi];exact AX (by lia)) ?_ ?_
  ·rintro k x zs H' hx ⟨y,D,ms,rfl,hw⟩;obtain⟨i,hi,N,rfl⟩:=DB hx;obtain⟨y1,y2⟩:=GY N;obtain⟨C,b0,b1,a3,a4,a0,k1,_⟩:=id y.at_;refine⟨p,C,_,rfl,k1,ln4 _ _ _ _,ls,ys,d,S,i,_,y,rfl,W,⟨n,Y⟩,rfl,y1,y2,hk,λb e H3 g1 I R3 f3=>?_⟩;refine⟨R3,D.trans f3,ms++[max b e],by rw[CK];rfl,?_⟩;rw[ZBl,hi];exact bU hw g1 I
  ·rintro zs H' ⟨y,D,ms,rfl,hw⟩ l2 U;rw[Ai,ZCJ]at hw;refine⟨ms.map λm=>((m:Nat):Int),by rw[ZBg];exact .of AF,by rw[ZBB,hw.1];exact Ou Z Y,λM hM hle=>?_⟩;obtain⟨v,J,rfl⟩:=ZBN.mp hM;have fm:=X7 Z hw J (λa ha=>by have:=hle _ (ZBN.mpr ⟨a,ha,rfl⟩);lia);have sl:EE H' (upd H' l2 (.lst (iL ms))):=EE.upd U;have e:(1:Int)+((v:Nat):Int)=((1+v:Nat):Int):=by lia
   show Q (.int (1+((v:Nat):Int))) _;rw[e];exact q (1+v) _ fm (y.same sl) ((CM s1).trans ((CM s2).trans (D.trans (CM sl))))
theorem Sl(c:Nat)(G:Om_ P w mg base T.z18 (4*c+4) (Bb K T.zA c)) :
 FnOk P w K mg base CX0 (4*(c+1)+4) T.z18.f T.z18.d ["self","things"] (Bb K T.zA (c+1)):=by
 have l:=SQ T c G;refine T.z18.F.ok Xm (λvs H Q E h=>by unfold Bb at h;walk_at "e") ?_;walk_at "f";have i:=hr.mono (show 4*c+7<=4*(c+1)+3 by lia);unfold Bb at h;walk_at "g"
 rename_i p z;obtain⟨ls,ys,d,S,R,L,I,N,O,q⟩:=h;subst L;obtain⟨dx,tl,yl,al,as,ze,h1,h2,X,Y,hd,h6,h7,M⟩:=id R.at_;have y:AT (Bb K T.zA (c+1)):=NU;refine⟨_,(@AH _ _ _ _ _ (@Av _ _ _ _ _ _ _ _ (Ah (Na hu) (vv 1) (Cw T.zB T.zH (vv 0))) (@AI _ _ _ (@N5 _ _ _ _ _ _ _ _ _ (IF hu) (Cw T.zB T.zH (vv 0)) (vv 1) (A9 (vv 0) T.zB T.z14.m l i T.z14.b .nil AD (AA (vv 1) AB)) (by rfl))) Aw) (@AI _ _ _ (@AK _ _ _ _ (aR (IF hu) (Cw T.zB T.zH (vv 0)) (vv 1) (by intro _ _;rfl))))),?_⟩;refine As (λZ H1=>Z=[some (.ref p),some (.int (S:Nat))]/\RkAt K T.zA ls ys H1 p d/\zp d H H1/\∃(g:List (Key×V)) (m:Nat),H1 d=some (.dK g)/\valV g (Sum.inl (S:Int):Key)=some (.int m)/\A7 (AN ls) (Ac ys) S.testBit m) ?_ ?_ (by walk_at "sm")
 ·refine⟨dx,_,_,h1,lk4 _ _ _ _,valV ze (Sum.inl (S:Int):Key),DGet.k (k:=Sum.inl (S:Int)) hd,?_⟩;cases e:valV ze (Sum.inl (S:Int):Key) with
  | some v =>
   obtain⟨m,rfl,hm⟩:=M.get e;exact⟨rfl,R,zp.refl,ze,m,hd,e,hm⟩
  | none =>
   refine⟨p,dx,_,rfl,h1,ln2 _ _ _ _,ls,ys,d,S,R,rfl,I,N,O,λm H1 hm o f1=>?_⟩;obtain⟨n,B,C,r,t,j,x,_,_,_,W,_,_,J⟩:=id o.at_;refine⟨n,_,_,x,lk4 _ _ _ _,d,_,rfl,DPut.k (k:=Sum.inl (S:Int)) W (J.len R.l16),?_⟩;have D:zp d H1 (upd H1 d (.dK (BH j (Sum.inl (S:Int):Key) (V.int m)))):=zp.updT;exact⟨rfl,o.put D AF (J.put I hm),f1.trans D,_,m,AF,by rw[VM,if_pos rfl],hm⟩
 ·rintro Z H1 ⟨rfl,o,f1,g,m,u,U,hm⟩;obtain⟨n,B,C,r,t,j,x,_⟩:=id o.at_;refine⟨n,_,_,x,lk4 _ _ _ _,d,.int m,rfl,?_,q m H1 hm o f1⟩;rw[<- U];exact DGet.k (k:=Sum.inl (S:Int)) u
theorem KC:∀c:Nat,Om_ P w mg base T.z18 (4*c+4) (Bb K T.zA c)
 | 0=>by
  have no:∀vs H Q E,¬Bb K T.zA 0 vs H Q E:=λvs H Q E h=>by
   unfold Bb at h;split at h
   ·obtain⟨ls,ys,d,S,_,_,_,_,z,_⟩:=h;exact absurd z (ZC8 _)
   ·exact h
  exact⟨λvs H Q E h=>(no _ _ _ _ h).elim,λA outer s H args us vs Q E _ _ _ _ h=>(no _ _ _ _ h).elim⟩
 | c+1=>Sl T c (KC c)
theorem MY:Om_ P w mg base T.z18 72 (Bb K T.zA 17):=KC T 17
noncomputable def GI(ts:List (List Bool)):List Dv:=ts.map λb=>.tup (b.map Dv.bl)
noncomputable def gmD(ls:List Int)(rs:List (List Bool)):Dv:=.tup [.tup (ls.map Dv.int),.tup (GI rs)]
structure Gm(ls:List Int)(rs:List (List Bool)):Prop where
 l1:1<=ls.length
 l16:ls.length<=16
 r1:1<=rs.length
 r16:rs.length<=16
 row:∀r∈rs,r.length=ls.length
 sm:∀x∈ls,x.natAbs<=100000000000000000000
theorem Qh:∀bs:List Bool,BL (bs.map Dv.bl)=0
 | []=>by simp[BL]
 | b::bs=>by
  show BL (Dv.bl b::bs.map Dv.bl)=_;unfold BL;rw[Qh bs];rfl
noncomputable def CY(m i:Nat):List Bool:=(List.range (2^m)).map λp=>p / 2^i%2==1
noncomputable def MX(bs:List Bool):List Dv:=bs.map λb=>Dv.int (if b then 1 else 0)
noncomputable def Da(bs:List Bool):List V:=bs.map λb=>V.int (if b then 1 else 0)
noncomputable def DS(m n:Nat):List Dv:=(List.range n).map λi=>.tup ((CY m i).map Dv.bl)
noncomputable def Lu(bs:List Bool)(m:Nat):Dv:=.tup [.tup (MX bs),.tup (DS m m)]
theorem Vm(m i:Nat):(CY m i).length=2^m:=by unfold CY;simp
theorem af(m n:Nat):DS m (n+1)=DS m n++[.tup ((CY m n).map Dv.bl)]:=by unfold DS;rw[ZBw,ZBH];rfl
theorem Uy(m n:Nat):(DS m n).length=n:=by unfold DS;simp
theorem OU:∀bs:List Bool,za K H (MX bs) (Da bs)
 | []=>Ab
 | b::bs=>AU A6 (OU bs)
theorem Tk(bs:List Bool):(Da bs).length=bs.length:=by unfold Da;simp
theorem az(bs cs:List Bool):Da (bs++cs)=Da bs++Da cs:=by unfold Da;simp
def V3(K:W.Frag)(H:Hp)(Q:VK)(d:Dv):Prop:=∀u H',EE H H'->zf K H' d u->Q u H'
def E2(K:W.Frag):Sp:=λvs H Q _=>match vs with
 | [.ref p]=>∃(bs:List Bool) (m:Nat),zj K H p (bs.map V.bl)/\bs.length=2^m/\1<=m/\m<=4/\V3 K H Q (Lu bs m)
 | _=>False
theorem bz:AT (E2 K):=λvs H Q k E h q=>by
 unfold E2 at *;split at q
 ·obtain⟨bs,m,h1,h2,f,g,q⟩:=q;exact⟨bs,m,h1,h2,f,g,λu H' i j=>h _ _ (q u H' i j)⟩
 ·exact False.elim q
theorem Rs{U z:Dv}(h:zf K H (.tup [U,z]) v):∃a G O,v=.ref a/\zj K H a [G,O]/\zf K H U G/\zf K H z O:=by
 obtain⟨a,xs,rfl,hs,k⟩:=BM h;obtain⟨G,r1,rfl,i,g⟩:=(show ∃x r,xs=x::r/\zf K H U x/\za K H [z] r by unfold za at k;exact k);obtain⟨O,l,rfl,j,f⟩:=(show ∃x r,r1=x::r/\zf K H z x/\za K H [] r by unfold za at g;exact g);obtain rfl:l=[]:=by unfold za at f;exact f
 exact⟨a,G,O,rfl,hs,i,j⟩
theorem QT:∀{bs:List Bool} {xs:List V},za K H (bs.map Dv.bl) xs->xs=bs.map V.bl
 | [],xs,h=>by unfold za at h;exact h
 | b::bs,xs,h=>by
  rw[ZBU]at h;unfold za at h;obtain⟨x,r,rfl,h1,h2⟩:=h;unfold zf at h1;rw[h1,QT h2];rfl
theorem Pp:∀{bs:List Int} {xs:List V},za K H (bs.map Dv.int) xs->xs=bs.map V.int
 | [],xs,h=>by unfold za at h;exact h
 | b::bs,xs,h=>by
  rw[ZBU]at h;unfold za at h;obtain⟨x,r,rfl,h1,h2⟩:=h;unfold zf at h1;rw[h1,Pp h2];rfl
structure GmAt(K:W.Frag)(H:Hp)(ls:List Int)(rs:List (List Bool))(a tl rl:Addr)(ps:List Addr):Prop where
 two:zj K H a [.ref tl,.ref rl]
 lab:zj K H tl (ls.map V.int)
 rows:zj K H rl (ps.map V.ref)
 len:ps.length=rs.length
 row:∀(i:Nat) (q:Addr) (r:List Bool),ps[i]?=some q->rs[i]?=some r->zj K H q (r.map V.bl)
theorem NY:∀{rs:List (List Bool)} {xs:List V},za K H (GI rs) xs->∃ps:List Addr,xs=ps.map V.ref/\ps.length=rs.length/\∀(i:Nat) (q:Addr) (r:List Bool),ps[i]?=some q->rs[i]?=some r->zj K H q (r.map V.bl)
 | [],xs,h=>by
  have:xs=[]:=by simpa [GI,za] using h
  exact⟨[],this,rfl,λi q r z=>by simp at z⟩
 | r::rs,xs,h=>by
  have h':za K H (Dv.tup (r.map Dv.bl)::GI rs) xs:=h;unfold za at h';obtain⟨x,ys,rfl,h1,h2⟩:=h';obtain⟨a,zs,rfl,hs,hz⟩:=BM h1;obtain rfl:=QT hz;obtain⟨ps,rfl,g,hr⟩:=NY h2;refine⟨a::ps,rfl,by rw[ZCF,ZCF,g],λi q j hi f=>?_⟩;cases i with
  | zero=>cases hi;cases f;exact hs
  | succ i=>exact hr i q j hi f
theorem PQ(h:zf K H (gmD ls rs) v):∃a tl rl ps,v=.ref a/\GmAt K H ls rs a tl rl ps:=by
 obtain⟨a,i,j,rfl,hs,h1,h2⟩:=Rs h;obtain⟨tl,zs,rfl,f,hz⟩:=BM h1;obtain rfl:=Pp hz;obtain⟨rl,ws,rfl,hr,hw⟩:=BM h2;obtain⟨ps,rfl,e,g⟩:=NY hw;exact⟨a,tl,rl,ps,rfl,hs,f,hr,e,g⟩
theorem GmAt.same{tl rl:Addr}{ps:List Addr}(g:GmAt K H ls rs a tl rl ps)(s:EE H H'):GmAt K H' ls rs a tl rl ps :=
 ⟨s.sqT g.two,s.sqT g.lab,s.sqT g.rows,g.len,λi q r x y=>s.sqT (g.row i q r x y)⟩
theorem GmAt.frm{tl rl:Addr}{ps:List Addr}{o:HO}(g:GmAt K H ls rs a tl rl ps)(f:zp t H H')(z:H t=some o)(no:DZ o):GmAt K H' ls rs a tl rl ps :=
 ⟨Ek f z no g.two,Ek f z no g.lab,Ek f z no g.rows,g.len,λi q r x y=>Ek f z no (g.row i q r x y)⟩
noncomputable def BW(r:List Bool):Nat:=msk (whr (r.map (· == true)) r.length)
noncomputable def Dj(ls:List Int)(z:Int):Nat:=msk (whr (ls.map (· == z)) ls.length)
theorem mskR_bit(r:List Bool)(k:Nat):(BW r).testBit k=gB r k:=by
 unfold BW;rw[(RO (Nc _ _) (λt f=>GK f)).2 k,ZBv,decide_eq_true_eq,OJ]
 by_cases h:k<r.length
 ·have e:gB (r.map (· == true)) k=gB r k:=by
   rw[Hn (x:=r[k]) (ZBE h)];unfold gB;rw[ZBO,ZBE h];simp
  rw[e];simp[h]
 ·have e:gB r k=false:=by unfold gB;rw[ZBO,ZCW (by lia)];rfl
  rw[e];simp[h]
theorem Pi(ls:List Int)(z:Int)(k:Nat):(Dj ls z).testBit k=(decide (k<ls.length)&&decide (AN ls k=z)):=by
 unfold Dj;rw[(RO (Nc _ _) (λt f=>GK f)).2 k,ZBv,decide_eq_true_eq,OJ]
 by_cases h:k<ls.length
 ·have e:gB (ls.map (· == z)) k=decide (AN ls k=z):=by
   rw[Hn (x:=ls[k]) (ZBE h)];unfold AN;rw[ZBO,ZBE h];rfl
  rw[e];simp[h]
 ·simp[h]
theorem Ni(rs:List (List Bool)):Ac (rs.map BW)=rs.map gB:=by
 unfold Ac;rw[ZBg];apply ZCC;intro r _
 funext k
 exact mskR_bit r k
theorem sub_bits:S &&& m=S ↔ ∀k,S.testBit k=true->m.testBit k=true:=by
 constructor
 ·intro e k f
  have:(S &&& m).testBit k=true:=by rw[e];exact f
  rw[ZCA,f]at this;simpa using this
 ·intro h;apply ZCm;intro k;rw[ZCA];cases e:S.testBit k with
  | false=>rfl
  | true=>rw[h k e];rfl
theorem UY{ms:List Int}(h1:1<=ls.length)(hm:∀z,z∈ms ↔ z∈ls):RL ls (ms.map (Dj ls)):=by
 intro S g;rw[List.any_map,ZCY];constructor
 ·rintro⟨z,hz,h⟩ i j hi m;have h:=sub_bits.mp (ZBY h);have a:=h i hi;have b:=h j m;rw[Pi,ZBb,decide_eq_true_eq,decide_eq_true_eq]at a b;rw[a.2,b.2]
 ·intro o
  by_cases e:∃k,S.testBit k=true
  ·obtain⟨k,l⟩:=e;have f:=Ff g l;refine⟨AN ls k,(hm _).mpr ?_,ZBK (sub_bits.mpr λi hi=>?_)⟩
   ·unfold AN;rw[ZBO,ZBE f];exact ZCL f
   ·rw[Pi,ZBK (Ff g hi),ZBK (o i k hi l)];rfl
  ·cases ls with
   | nil=>simp at h1
   | cons x r=>exact⟨x,(hm _).mpr (by simp),ZBK (sub_bits.mpr λi hi=>absurd ⟨i,hi⟩ e)⟩
def Mo(K:W.Frag)(C:Addr):Sp:=λvs H Q _=>match vs with
 | [.ref p,v]=>∃ls rs dx,H p=some (.ins C dx [])/\zf K H (gmD ls rs) v/\Gm ls rs/\∀d H',H d=none->RkAt K C ls (rs.map BW) H' p d->zp p H H'->Q .non H'
 | _=>False
theorem RB{α:Type}[DecidableEq α]:∀{ds ls:List α},ds.Nodup->(∀z∈ds,z∈ls)->ds.length<=ls.length
 | [],ls,_,_=>ZBT _
 | z::ds,ls,nd,h=>by
  obtain⟨h1,h2⟩:=ZCh.mp nd;have hz:z∈ls:=h z (by simp)
  have:=RB (ds:=ds) (ls:=ls.erase z) h2 (λx f=>(List.mem_erase_of_ne (λe:x=z=>h1 (e▸f))).mpr (h x (ZBd _ f)))
  have e:=List.length_erase_of_mem hz
  have:0<ls.length:=ZDY hz
  rw[ZCF];lia
theorem Zv:Om_ P w mg base T.z29 4 (Mo K T.zA):=by
 have r:=@ZC P w K mg base T;have n:=@ag P w K mg base T;refine T.z29.F.ok XS (λvs H Q E h=>by unfold Mo at h;walk_at "e") ?_;walk_at "f";have j:=hr.mono (show 3<=_ by decide);have f:=hr.mono (show 1<=_ by decide);unfold Mo at h;walk_at "g"
 rename_i p v;obtain⟨ls,rs,dx,hp,hv,G,q⟩:=h;obtain⟨a,tl,rl,ps,rfl,g⟩:=PQ hv;have l1:=G.l1;have l16:=G.l16;have r16:=G.r16;have a3:=g.len;refine⟨_,(@AH _ _ _ _ _ (HL T.zB T.zD (vv 0) (Bi (B9 (K:=K)) rfl T.zG (by rfl) (AA (zq (K:=K) (vv 1) AE) AB))) (@AH _ _ _ _ _ (HL T.zB T.zI (vv 0) (@Af _ _ _ _ _ _ _ ["row"] 1 [] _ _ _ _ rfl (Au (K:=K) (zq (K:=K) (vv 1) AE)) (by kernel_rfl) rfl rfl (by kernel_rfl) (λc=>AM (i:=0) (show(["row"]:List Str).Nodup by decide +kernel) rfl (by right)) (AV (by decide)) (λc=>Ag) (λc=>(AG r j rfl T.z43.m T.z43.F.kp T.z43.b .nil AD (AA (AG n f rfl T.z35.m T.z35.F.kp T.z35.b .nil AD (AA BE (AA (vv 0) AB))) AB))) (by intro _;rfl))) (@AH _ _ _ _ _ (HL T.zB T.zO (vv 0) (Af (N':=["label","self"]) (own:=1) (ix:=[0]) rfl (Au (K:=K) (AZ (br (P:=P) (w:=w) rfl) rfl T.zS (by rfl) (AA (Bi (bC (K:=K) (P:=P) (w:=w) rfl) rfl T.yf (by rfl) (AA (Cw T.zB T.zD (vv 0)) AB)) AB))) (by kernel_rfl) rfl rfl (by kernel_rfl) (λc=>AM (i:=0) (show(["label","self"]:List Str).Nodup by decide +kernel) rfl (by right)) (AV (by decide)) (λc=>Ag) (λc=>(AG r j rfl T.z43.m T.z43.F.kp T.z43.b .nil AD (AA (AG n f rfl T.z35.m T.z35.F.kp T.z35.b .nil AD (AA (vv 0) (AA (Cw T.zB T.zD (vv 1)) AB))) AB))))) (@AI _ _ _ (HL T.zB T.zH (vv 0) NA))))),?_⟩;refine⟨_,.ref tl,.inr g.two,rfl,_,.inr ⟨g.lab,dx,_,hp,(show 0<1000 by decide),?_⟩⟩;have f1:zp p H (upd H p (.ins T.zA dx (Aq "labels" (.ref tl) []))):=zp.updT;have c2:upd H p (.ins T.zA dx (Aq "labels" (.ref tl) [])) p=some (.ins T.zA dx [("labels",.ref tl)]):=by rw[pf1];exact AF
 have g1:=g.frm f1 hp HN;generalize upd H p (.ins T.zA dx (Aq "labels" (.ref tl) []))=H1 at *
 refine⟨_,.ref rl,.inr g1.two,rfl,.inr ⟨⟨_,g1.rows⟩,?_⟩⟩
 refine B6 (xs:=ps.map V.ref) (λk zs H'=>EE H1 H'/\zs=iL ((rs.take k).map BW)) ⟨EE.refl _,rfl⟩ (λk zs H' _ ⟨s,_⟩=>s.sqT g1.rows) (λk zs H' M ⟨_,e⟩=>by
  rw[ZBB]at M;rw[e,Ai,ZBB,ZBi];exact AX (by lia)) ?_ ?_
 ·rintro k x zs H' u ⟨s1,rfl⟩;rw[ZBJ]at u;cases y:ps[k]? with
  | none=>rw[y]at u;cases u
  | some b =>
   rw[y]at u;cases u;have M:k<rs.length:=by rw[<- a3];exact(ZBW.mp y).1
   have er:rs[k]?=some rs[k]:=ZBE M;have c6:=G.row _ (ZCL M);refine⟨rs[k],s1.sqT (g1.row k b _ y er),by lia,λl H2 hl s2 g2=>?_⟩;refine⟨_,.inl (.of g2),by have:=HP (rs[k].map (· == true)) rs[k].length;lia,λt ht=>by have:=GK ht;lia,λL s3=>?_⟩;refine⟨s1.trans (s2.trans s3),?_⟩;rw[ZBl,er,ZBH,CK];rfl
 rintro zs C ⟨s1,rfl⟩ yl c5;rw[ZBB,a3,ZCJ];have s2:EE H1 (upd C yl (.lst (iL (rs.map BW)))):=s1.trans (EE.upd c5);have W:upd C yl (.lst (iL (rs.map BW))) yl=some (.lst (iL (rs.map BW))):=AF;generalize upd C yl (.lst (iL (rs.map BW)))=H2 at *;have I:=s2 _ _ c2;have ny:yl≠p:=B7 W I (by intro z;cases z);refine⟨dx,_,I,(show 1<1000 by decide),?_⟩;have f3:zp p H2 (upd H2 p (.ins T.zA dx (Aq "yeses" (.ref yl) [("labels",.ref tl)]))):=zp.updT;have X:upd H2 p (.ins T.zA dx (Aq "yeses" (.ref yl) [("labels",.ref tl)])) p=some (.ins T.zA dx [("labels",.ref tl),("yeses",.ref yl)]):=by rw[pf2];exact AF
 have g3:=(g1.same s2).frm f3 I HN;have b3:=f3 _ _ ny W;have F3:zp p H (upd H2 p (.ins T.zA dx (Aq "yeses" (.ref yl) [("labels",.ref tl)]))):=f1.trans ((CM s2).trans f3);generalize upd H2 p (.ins T.zA dx (Aq "yeses" (.ref yl) [("labels",.ref tl)]))=L at *
 refine⟨dx,_,.ref tl,X,by rfl,ls,g3.lab,by lia,λds N nd B c4=>?_⟩;have c7:ds.length<=ls.length:=RB nd λz hz=>(B z).mp hz
 refine⟨ds,AF,by lia,λms l2 c8 c1 _ c0=>.inl ⟨⟨_,.of AF⟩,?_⟩⟩;have s4:EE L (upd (upd L N (.ext (DN P w N ds))) l2 (.lst (ms.map V.int))):=(EE.upd c4).trans (EE.upd c0);have b2:upd (upd L N (.ext (DN P w N ds))) l2 (.lst (ms.map V.int)) l2=some (.lst (ms.map V.int)):=AF;generalize upd (upd L N (.ext (DN P w N ds))) l2 (.lst (ms.map V.int))=H4 at *;have g4:=g3.same s4;have Y:=s4 _ _ X
 refine Cc (xs:=ms.map V.int) (λk zs H'=>EE H4 H'/\zs=iL ((ms.take k).map (Dj ls))) ⟨EE.refl _,rfl⟩ (λk zs H' _ ⟨s,_⟩=>s.sqL (.of b2)) (λk zs H' M ⟨_,e⟩=>by
  rw[ZBB]at M;rw[e,Ai,ZBB,ZBi];exact AX (by lia)) ?_ ?_
 ·rintro k x zs H' u ⟨s5,rfl⟩;rw[ZBJ]at u;cases y:ms[k]? with
  | none=>rw[y]at u;cases u
  | some z =>
   rw[y]at u;cases u;refine⟨dx,_,.ref tl,s5 _ _ Y,by rfl,ls,s5.sqT g4.lab,by lia,λl H2 hl O g2=>?_⟩;refine⟨_,.inl (.of g2),by have:=HP (ls.map (· == z)) ls.length;lia,λt ht=>by have:=GK ht;lia,λL s7=>?_⟩;refine⟨s5.trans (O.trans s7),?_⟩;rw[ZBl,y,ZBH,CK];rfl
 rintro zs D ⟨s5,rfl⟩ al b5;rw[ZBB,ZCJ];have O:EE H4 (upd D al (.lst (iL (ms.map (Dj ls))))):=s5.trans (EE.upd b5);have U:upd D al (.lst (iL (ms.map (Dj ls)))) al=some (.lst (iL (ms.map (Dj ls)))):=AF;generalize upd D al (.lst (iL (ms.map (Dj ls))))=R at *;have J:=O _ _ Y;have na:al≠p:=B7 U J (by intro z;cases z);refine⟨dx,_,J,(show 2<1000 by decide),?_⟩;have f7:zp p R (upd R p (.ins T.zA dx (Aq "alike" (.ref al) [("labels",.ref tl),("yeses",.ref yl)]))):=zp.updT;have Z:upd R p (.ins T.zA dx (Aq "alike" (.ref al) [("labels",.ref tl),("yeses",.ref yl)])) p=some (.ins T.zA dx [("labels",.ref tl),("yeses",.ref yl),("alike",.ref al)]):=by rw[pf3];exact AF
 have g7:=(g4.same O).frm f7 J HN;have b4:=f7 _ _ ny (O _ _ (s4 _ _ b3));have b0:=f7 _ _ na U;have F7:zp p H (upd R p (.ins T.zA dx (Aq "alike" (.ref al) [("labels",.ref tl),("yeses",.ref yl)]))):=F3.trans ((CM s4).trans ((CM O).trans f7));generalize upd R p (.ins T.zA dx (Aq "alike" (.ref al) [("labels",.ref tl),("yeses",.ref yl)]))=H7 at *
 intro d hd;have s8:EE H7 (upd H7 d (.dK [])):=EE.upd hd;have a4:d≠p:=λe=>by rw[e,Z]at hd;cases hd
 have b1:upd H7 d (.dK []) d=some (.dK []):=AF
 have b6:H d=none:=by
  cases e:H d with
  | none=>rfl
  | some o=>rw[F7 d o a4 e]at hd;cases hd
 generalize upd H7 d (.dK [])=H8 at *;have a0:=s8 _ _ Z;refine⟨dx,_,a0,(show 3<1000 by decide),?_⟩;have S:zp p H8 (upd H8 p (.ins T.zA dx (Aq "known" (.ref d) [("labels",.ref tl),("yeses",.ref yl),("alike",.ref al)]))):=zp.updT;have c3:upd H8 p (.ins T.zA dx (Aq "known" (.ref d) [("labels",.ref tl),("yeses",.ref yl),("alike",.ref al)])) p=some (.ins T.zA dx (Bg (.ref tl) (.ref yl) (.ref al) (.ref d))):=by rw[pf4];exact AF
 refine q d _ b6 ⟨⟨dx,tl,yl,al,_,[],c3,((g7.same s8).frm S a0 HN).lab,S _ _ ny (s8 _ _ b4),S _ _ na (s8 _ _ b0),S _ _ a4 b1,by rw[ZBB];lia,UY l1 (λz=>by rw[c1 z,B z]),⟨by simp,λe he=>by simp at he⟩⟩,l16,by rw[ZBB];exact r16⟩ (F7.trans ((CM s8).trans S))
theorem FZ(N:Nat)(S:Nat->Bool):A8 N S<=N:=by
 unfold A8
 have:=ZCq S (List.range N)
 rw[ZBc]at this;exact this
noncomputable def E4(rs:List (List Bool))(k:Nat):List Bool:=rs.map λr=>gB r k
noncomputable def DK(rs:List (List Bool))(n:Nat):List Dv:=(List.range n).map λk=>.lst ((E4 rs k).map Dv.bl)
def Dp(ls:List Int)(rs:List (List Bool))(i j:Nat):Prop:=i<j/\j<ls.length/\AN ls i≠AN ls j/\E4 rs i=E4 rs j
def Zd(ls:List Int)(rs:List (List Bool))(i j:Nat):Prop:=Dp ls rs i j/\∀f g,Dp ls rs f g->i<f\/i=f/\j<=g
def DF(ls:List Int)(rs:List (List Bool)):Prop:=∀i j,¬Dp ls rs i j
theorem NX:∀as bs:List Bool,BY (as.map Dv.bl) (bs.map Dv.bl)=true->as=bs
 | [],[],_=>rfl
 | [],u::us,h=>by simp[BY]at h
 | t::ts,[],h=>by simp[BY]at h
 | t::ts,u::us,h=>by
  rw[ZBU,ZBU,BY,eqD,ZBb,beq_iff_eq]at h;rw[h.1,NX ts us h.2]
theorem ZD(a b:List Bool):eqD (.lst (a.map Dv.bl)) (.lst (b.map Dv.bl))=decide (a=b):=by
 rw[K5,ZBv,decide_eq_true_eq];exact⟨NX a b,λe=>by rw[e];exact HJ _⟩
theorem X9(rs:List (List Bool))(n:Nat):DK rs (n+1)=DK rs n++[.lst ((E4 rs n).map Dv.bl)]:=by unfold DK;rw[ZBw,ZBH];rfl
theorem ZI(rs:List (List Bool))(n:Nat):(DK rs n).length=n:=by unfold DK;rw[ZBB,ZBc]
theorem Pb(rs:List (List Bool))(h:k<n):(DK rs n)[k]?=some (.lst ((E4 rs k).map Dv.bl)):=by unfold DK;rw[ZBJ,ZBx h];rfl
theorem MA(h:i<ls.length):atI (ls.map V.int) ((i:Nat):Int)=some (.int (AN ls i)):=by
 refine Ak rfl ?_;rw[ZBJ,ZBE h];unfold AN;rw[ZBO,ZBE h];rfl
def Jo(K:W.Frag):Sp:=λvs H Q _=>match vs with
 | [v]=>∃ls rs,zf K H (gmD ls rs) v/\Gm ls rs/\(∀H',EE H H'->DF ls rs->Q .non H')/\∀(i j:Nat) t H',Zd ls rs i j->H t=none->EE H H'->H' t=some (.tup [.int (i:Nat),.int (j:Nat)])->Q (.ref t) H'
 | _=>False
theorem aZ{tl rl:Addr}{ps:List Addr}(g:GmAt K H ls rs a tl rl ps)(G:Gm ls rs)(O:k<ls.length){j:Nat}{q:Addr}(z:ps[j]?=some q) :
 ∃r,rs[j]?=some r/\zj K H q (r.map V.bl)/\atI (r.map V.bl) ((k:Nat):Int)=some (.bl (gB r k)):=by
 have f:j<rs.length:=by rw[<- g.len];exact(ZBW.mp z).1
 have i:rs[j]?=some rs[j]:=ZBE f;exact⟨rs[j],i,g.row j q _ z i,K6 (by rw[G.row _ (ZCL f)];exact O)⟩
theorem ZF{ps:List Addr}{x:V}(h:(ps.map V.ref)[k]?=some x):∃q,ps[k]?=some q/\x=.ref q:=by
 rw[ZBJ]at h;cases e:ps[k]? with
 | none=>rw[e]at h;cases h
 | some q=>rw[e]at h;cases h;exact⟨q,rfl,rfl⟩
theorem Xo:Ok_ P w base T.z33 1 (Jo K):=by
 refine T.z33.F.ok sc_z33 (λvs H Q E h=>by unfold Jo at h;walk_at "e") ?_;walk_at "f";unfold Jo at h;walk_at "g"
 rename_i v;obtain⟨ls,rs,hv,G,q1,q2⟩:=h;obtain⟨a,tl,rl,ps,rfl,g⟩:=PQ hv;have l16:=G.l16;have r16:=G.r16;refine⟨_,(@AH _ _ _ _ _ (@AO _ _ 1 _ _ _ _ sc_z33.nd rfl (by right) (zq (K:=K) (vv 0) AE) (by rfl) (by symm)) (@AH _ _ _ _ _ (@C6 _ _ _ _ _ _ _ (["thing","game"]) 1 [0] _ _ _ _ 2 _ _ _ rfl sc_z33.nd rfl rfl (BG rfl T.zC (AA (AZ (BO (K:=K)) rfl T.zP (by rfl) (AA (vv 1) AB)) AB)) (by kernel_rfl) rfl rfl (by kernel_rfl) (λc=>AM (i:=0) (show(["thing","game"]:List Str).Nodup by decide +kernel) rfl (by right)) (AV (by decide)) (λc=>Ag) (λc=>(@Af _ _ _ _ _ _ _ (["row","thing"]) 1 [0] _ _ _ _ rfl (Au (K:=K) (zq (K:=K) (vv 1) AE)) (by kernel_rfl) rfl rfl (by kernel_rfl) (λc=>AM (i:=0) (show(["row","thing"]:List Str).Nodup by decide +kernel) rfl (by right)) (AV (by decide)) (λc=>Ag) (λc=>(zq (K:=K) (vv 0) (vv 1))) (by intro _;rfl))) (by rfl) (by intro _;rfl)) (@AH _ _ _ _ _ (@CU _ _ _ _ _ _ _ _ PassesOwn.never rfl (BG rfl T.zC (AA (AZ (BO (K:=K)) rfl T.zP (by rfl) (AA (vv 1) AB)) AB)) (AM (i:=3) sc_z33.nd rfl (by right)) (@AI _ _ _ (@CU _ _ _ _ _ _ _ _ PassesOwn.never rfl (X8 rfl T.zC (AA (AQ (Bm (K:=K)) (vv 3) AE) (AA (AZ (BO (K:=K)) rfl T.zP (by rfl) (AA (vv 1) AB)) AB))) (AM (i:=4) sc_z33.nd rfl (by right)) (@AI _ _ _ (@Av _ _ _ _ _ _ _ _ (PW.pt (Hz (Ah (kNe (K:=K) hu) (zq (K:=K) (vv 1) (vv 3)) (zq (K:=K) (vv 1) (vv 4))) (IE (Ah (kEq (K:=K) hu) (zq (K:=K) (vv 2) (vv 3)) (zq (K:=K) (vv 2) (vv 4)))))) (@AI _ _ _ (@AK _ _ _ _ (BS (AA (vv 3) (AA (vv 4) AB))))) Aw)) (by intro _;rfl))) (by intro _;rfl)) (@AI _ _ _ (@AK _ _ _ _ Jt))))),?_⟩;refine⟨_,.ref tl,.inr g.two,rfl,?_⟩;dsimp only[AW];refine As (λZ H'=>∃(l:Addr) (xs:List V),Z=[some (.ref a),some (.ref tl),some (.ref l),none,none]/\EE H H'/\H' l=some (.lst xs)/\za K H' (DK rs ls.length) xs) ?_ ?_ (by walk_at "sm")
 ·refine⟨ls.length,.inr ⟨_,g.lab,by rw[ZBB]⟩,(ls.length:Int),rfl,by lia,by lia,?_⟩;rw[ZBj];refine CB (λk ys H'=>EE H H'/\za K H' (DK rs k) ys) ⟨EE.refl _,Ab⟩ (λk ys H' L ⟨_,R⟩=>by rw[<- R.length,ZI];exact AX (by lia)) ?_ ?_
  ·rintro k ys H1 L ⟨s1,I⟩;have g1:=g.same s1;have J:(0:Int)+(k:Int)=((k:Nat):Int):=by lia
   rw[J];refine⟨_,.ref rl,.inr g1.two,rfl,.inr ⟨⟨_,g1.rows⟩,?_⟩⟩
   refine B6 (xs:=ps.map V.ref) (λj zs H'=>H'=H1/\zs=((rs.take j).map λr=>gB r k).map V.bl) ⟨rfl,rfl⟩ (λj zs H' _ ⟨e,_⟩=>by rw[e];exact g1.rows) (λj zs H' u ⟨_,e⟩=>by
    rw[ZBB,g1.len]at u;rw[e,ZBB,ZBB,ZBi];exact AX (by lia)) ?_ ?_
   ·rintro j x zs H' hx ⟨rfl,rfl⟩;obtain⟨b,m,rfl⟩:=ZF hx;obtain⟨r,er,hs,ha⟩:=aZ g1 G L m;refine⟨_,.bl (gB r k),.inr hs,ha,rfl,?_⟩;rw[ZBl,er,ZBH,ZBH];rfl
   ·rintro zs H' ⟨rfl,rfl⟩ l M;rw[ZBB,g1.len,ZCJ];have s2:EE H' (upd H' l (.lst ((rs.map λr=>gB r k).map V.bl))):=EE.upd M;refine⟨s1.trans s2,?_⟩;rw[X9];exact za.append (za.same s2 _ _ I) (AU (by unfold zf;exact⟨l,_,rfl,.of AF,Dg _⟩) Ab)
  ·rintro ys H1 ⟨s1,I⟩ l M;have s2:EE H1 (upd H1 l (.lst ys)):=EE.upd M;exact⟨l,ys,rfl,s1.trans s2,AF,za.same s2 _ _ I⟩
 rintro Z H1 ⟨l,xs,rfl,s1,gl,R⟩;have g1:=g.same s1;refine As (λZ H'=>H'=H1/\(∃x y,Z=[some (.ref a),some (.ref tl),some (.ref l),x,y])/\DF ls rs) ?_ ?_ (by walk_at "sm");rotate_left
 ·rintro Z H' ⟨rfl,⟨x,y,rfl⟩,he⟩;exact q1 _ s1 he
 refine⟨ls.length,.inr ⟨_,g1.lab,by rw[ZBB]⟩,(ls.length:Int),rfl,by lia,by lia,?_⟩;rw[ZBj];refine DH (λk Z H'=>H'=H1/\(∃x y,Z=[some (.ref a),some (.ref tl),some (.ref l),x,y])/\∀n f,n<k->¬Dp ls rs n f) ⟨rfl,⟨none,none,rfl⟩,λn f h=>absurd h (ZC8 _)⟩ ?_ ?_;rotate_left
 ·rintro Z H' ⟨rfl,S,h⟩;exact⟨rfl,S,λi j m=>h i j (by have:=m.1;have:=m.2.1;lia) m⟩
 rintro i Z H' hi ⟨rfl,⟨x,y,rfl⟩,B⟩;have J:(0:Int)+(i:Int)=((i:Nat):Int):=by lia
 rw[J];refine⟨ls.length,.inr ⟨_,g1.lab,by rw[ZBB]⟩,((i:Int)+1),(ls.length:Int),rfl,⟨by lia,by lia,by lia,by lia⟩,?_⟩;obtain⟨W,hW⟩:∃W:Nat,((ls.length:Int)-((i:Int)+1)).toNat=W:=⟨_,rfl⟩;rw[hW];refine DH (λk Z H2=>H2=H'/\(∃y,Z=[some (.ref a),some (.ref tl),some (.ref l),some (.int (i:Nat)),y])/\∀f,f<i+1+k->¬Dp ls rs i f) ⟨rfl,⟨y,rfl⟩,λf h m=>by have:=m.1;lia⟩ ?_ ?_;rotate_left
 ·rintro Z H2 ⟨rfl,⟨y,rfl⟩,h⟩;refine⟨rfl,⟨_,y,rfl⟩,λn f a0 m=>?_⟩
  rcases ZCN n i with z | z
  ·exact B n f z m
  ·have:n=i:=by lia
   subst this;exact h f (by have:=m.2.1;lia) m
 rintro k Z H2 L ⟨rfl,⟨y,rfl⟩,o⟩;have Y:(i:Int)+1+(k:Int)=((i+1+k:Nat):Int):=by lia
 rw[Y];have u:i+1+k<ls.length:=by lia
 have next:¬Dp ls rs i (i+1+k)->∀f,f<i+1+(k+1)->¬Dp ls rs i f:=λh f a3=>by
  rcases ZCN f (i+1+k) with z | z
  ·exact o f z
  ·have:f=i+1+k:=by lia
   rw[this];exact h
 refine⟨_,.int (AN ls i),.inr g1.lab,MA hi,_,.int (AN ls (i+1+k)),.inr g1.lab,MA u,?_⟩;refine Aa (λe=>?_) (λe=>?_)
 ·have ne:AN ls i≠AN ls (i+1+k):=by simpa using e
  obtain⟨x1,N,r1⟩:=R.get (Pb rs hi);obtain⟨x2,O,X⟩:=R.get (Pb rs u);refine⟨_,x1,.inl (.of gl),Ak rfl N,_,x2,.inl (.of gl),Ak rfl O,?_⟩;have C:=r1;have D:=X;unfold zf at C D;obtain⟨b1,_,rfl,_⟩:=C;obtain⟨b2,_,rfl,_⟩:=D;refine⟨_,_,r1,X,by unfold At;rw[Qh];lia,?_⟩;rw[ZD,ZB5];refine Aa (λe2=>?_) (λe2=>?_)
  ·have m:Dp ls rs i (i+1+k):=⟨by lia,u,ne,ZBY e2⟩;refine⟨smq rfl,λt U=>?_⟩;refine q2 i (i+1+k) t _ ⟨m,λn f p=>?_⟩ (s1.free U) (s1.trans (EE.upd U)) AF
   rcases ZCn n i with z | z | z
   ·exact absurd p (B n f z)
   ·subst z;exact .inr ⟨rfl,Nat.le_of_not_lt λw=>o f w p⟩
   ·exact .inl z
  ·exact⟨rfl,⟨_,rfl⟩,next λm=>e2 (ZBK m.2.2.2)⟩
 ·have eq:AN ls i=AN ls (i+1+k):=by simpa using e
  exact⟨rfl,⟨_,rfl⟩,next λm=>m.2.2.1 eq⟩
def FrX(X:List Addr)(H H':Hp):Prop:=∀b o,b∉X->H b=some o->H' b=some o
theorem FrX.trans{H1 H2:Hp}(a:FrX X H H1)(b:FrX X H1 H2):FrX X H H2:=λc o n e=>b c o n (a c o n e)
theorem FrX.same(s:EE H H'):FrX X H H':=λb o _ e=>s b o e
theorem FrX.frm(f:zp d H H')(h:d∈X):FrX X H H':=λb o n e=>f b o (λz=>n (z▸h)) e
theorem FrX.grow(f:zu d H H')(h:d∈X):FrX X H H':=λb o n e=>f b o (λz=>n (z▸h)) e
def Oth(X:List Addr)(H:Hp):Prop:=∀x∈X,∃o,H x=some o/\DZ o/\∀xs,o≠.lst xs
theorem FrX.sqT(f:FrX X H H')(O:Oth X H)(e:zj K H b xs):zj K H' b xs:=by
 rcases e with (e | ⟨g,e⟩) | e
 ·exact .inl (.inl (f _ _ (λz=>by obtain⟨o,h1,h2,_⟩:=O b z;rw[e]at h1;exact h2.1 xs (ZBQ h1).symm) e))
 ·exact .inl (.inr ⟨g,f _ _ (λz=>by obtain⟨o,h1,h2,_⟩:=O b z;rw[e]at h1;exact h2.2 _ _ (ZBQ h1).symm) e⟩)
 ·exact .inr e
mutual
theorem zf.mv(s:∀a xs,zj K H a xs->zj K H' a xs):∀(d:Dv) (v:V),Bd d=true->zf K H d v->zf K H' d v
 | .non,v,_,h=>by unfold zf at *;exact h
 | .bl b,v,_,h=>by unfold zf at *;exact h
 | .int i,v,_,h=>by unfold zf at *;exact h
 | .str x,v,_,h=>by unfold zf at *;exact h
 | .tup ds,v,hd,h=>by
  unfold Bd at hd;unfold zf at *;obtain⟨a,xs,e,h1,h2⟩:=h;exact⟨a,xs,e,s _ _ h1,za.mv s ds xs hd h2⟩
 | .lst ds,v,hd,h=>by unfold Bd at hd;cases hd
theorem za.mv(s:∀a xs,zj K H a xs->zj K H' a xs):∀(ds:List Dv) (xs:List V),BA ds=true->za K H ds xs->za K H' ds xs
 | [],xs,_,h=>by unfold za at *;exact h
 | d::ds,xs,hd,h=>by
  unfold BA at hd;rw[ZBb]at hd;unfold za at *;obtain⟨x,r,e,h1,h2⟩:=h;exact⟨x,r,e,zf.mv s d x hd.1 h1,za.mv s ds r hd.2 h2⟩
end
theorem FrX.rep(f:FrX X H H')(O:Oth X H){d:Dv}(hd:Bd d=true)(h:zf K H d v):zf K H' d v:=zf.mv (λ_ _ e=>f.sqT O e) d v hd h
theorem TZ(r:RkAt K C ls ys H p d):∃o,H d=some o/\DZ o/\∀xs,o≠.lst xs:=by
 obtain⟨dx,tl,yl,al,as,ze,h1,h2,g,i,f,j,k,l⟩:=r.at_;exact⟨_,f,Ll,λ_ z=>nomatch z⟩
theorem V5(l:zx Pt pos q H):∃o,H Pt=some o/\DZ o/\∀xs,o≠.lst xs:=by
 obtain⟨ps,a,_⟩:=l;exact⟨_,a,⟨(λ_ z=>nomatch z),(λ_ _ z=>nomatch z)⟩,λ_ z=>nomatch z⟩
theorem UN(h1:∃o,H a=some o/\DZ o/\∀xs,o≠.lst xs)(h2:∃o,H b=some o/\DZ o/\∀xs,o≠.lst xs):Oth [a,b] H:=λx f=>by
 rcases ZBI.mp f with rfl | f
 ·exact h1
 ·rw[ZBX.mp f];exact h2
theorem UU(l:zx Pt pos q H)(f:∀b o,(∀ps,o≠.tbl ps)\/b=Pt->(∀xs,o≠.lst xs)->(∀xs,o≠.dK xs)->(∀c x fs,o≠.ins c x fs)->H b=some o->H' b=some o):zx Pt pos q H':=by
 obtain⟨ps,a,b,c⟩:=l;refine⟨ps,f _ _ (.inr rfl) (λ_ z=>nomatch z) (λ_ z=>nomatch z) (λ_ _ _ z=>nomatch z) a,b,?_⟩
 rcases c with c | ⟨g,c,d⟩
 ·exact .inl c
 ·exact .inr ⟨g,c,f _ _ (.inl λ_ z=>nomatch z) (λ_ z=>nomatch z) (λ_ z=>nomatch z) (λ_ _ _ z=>nomatch z) d⟩
theorem Kl(l:zx Pt pos q H)(f:zp t H H'){o:HO}(G:H t=some o)(h1:(∃xs,o=.lst xs)\/(∃xs,o=.dK xs)\/∃c x fs,o=.ins c x fs):zx Pt pos q H':=by
 refine UU l λb o' _ g i j e=>f b o' (λz=>?_) e
 rw[z,G]at e;cases e
 rcases h1 with ⟨xs,rfl⟩ | ⟨xs,rfl⟩ | ⟨c,x,fs,rfl⟩
 ·exact g _ rfl
 ·exact i _ rfl
 ·exact j _ _ _ rfl
theorem Zg{ps:Array Value}(r:RkAt K C ls ys H p d)(g:zu Pt H H')(hz:H Pt=some (.tbl ps)):RkAt K C ls ys H' p d:=by
 obtain⟨dx,tl,yl,al,as,ze,h1,h2,f,i,j,k,l,m⟩:=r.at_;have st:∀{b o},H b=some o->(∀ps,o≠.tbl ps)->H' b=some o:=λ{b o} e n=>g b o (λz=>by rw[z,hz]at e;cases e;exact n _ rfl) e
 exact⟨⟨dx,tl,yl,al,as,ze,st h1 (λ_ z=>nomatch z),GR g hz h2,st f (λ_ z=>nomatch z),st i (λ_ z=>nomatch z),st j (λ_ z=>nomatch z),k,l,m⟩,r.l16,r.y16⟩
def Er:Sp:=λvs H Q _=>match vs with
 | [.int x,.int y]=>∃p i:Nat,x=p/\y=i/\i<=64/\Q (.bl (p / 2^i%2==1)) H
 | _=>False
theorem To:AT Er:=λvs H Q f E h q=>by
 unfold Er at *;walk_at "q"
theorem Pa:Ok_ P w base T.z86 3 Er:=by
 refine T.z86.F.ok Ug (λvs H Q E h=>by unfold Er at h;walk_at "e") ?_;walk_at "f";unfold Er at h;walk_at "g"
 rename_i x y;obtain⟨p,i,f,e2,hi,q⟩:=h;subst f e2;refine⟨_,(@AI _ _ _ (@AK _ _ _ _ (BK (kEq (K:=K) hu) (AQ CF (AQ Db (vv 0) (AG (@Cm P w K mg base T) (hr.mono (show 2<=_ by decide)) rfl T.z81.m T.z81.F.kp T.z81.b .nil AD (AA (vv 1) AB))) AE) AE))),?_⟩;refine⟨i,rfl,hi,?_⟩;have g:0<2^i:=ZBn i;have hle:(2:Nat)^i<=2^64:=ZBL (by decide) (by lia);refine⟨BZ (by lia) (ZC4 (ZCb.mpr hle) (by decide)),by decide,?_⟩;show Q (.bl (false ^^ (((p:Int) / ((2^i:Nat):Int)%2)==1))) H
 have e:(false ^^ (((p:Int) / ((2^i:Nat):Int)%2)==1))=(p / 2^i%2==1):=by
  rw[ZB5,<- Int.natCast_ediv,ZBv];simp only[beq_iff_eq];lia
 rw[e];exact q
noncomputable def DP(S:Nat):List Nat:=(List.range S).filter S.testBit
theorem mem_memS:k∈DP S ↔ S.testBit k=true:=by
 unfold DP;rw[ZBp,ZBV];refine⟨λh=>h.2,λh=>⟨?_,h⟩⟩;have h1:=Nat.ge_two_pow_of_testBit h;exact ZBZ Nat.lt_two_pow_self h1
theorem KU(S:Nat):∀(j n:Nat),S<2^n->(List.range (n+j)).filter S.testBit=(List.range n).filter S.testBit
 | 0,n,_=>rfl
 | j+1,n,h=>by
  rw[<- Nat.add_assoc,ZBw,ZCR,KU S j n h]
  have:S.testBit (n+j)=false:=ZCl (ZBZ h (ZBL (by decide) (by lia)))
  simp[this]
theorem Vy(h:S<2^n):(List.range n).filter S.testBit=DP S:=by
 unfold DP
 rcases Nat.le_total n S with z | z
 ·have:=KU S (S-n) n h
  rw[show n+(S-n)=S by lia]at this;exact this.symm
 ·have:=KU S (n-S) S Nat.lt_two_pow_self
  rw[show S+(n-S)=n by lia]at this;exact this
theorem Zy(S:Nat):S<2^Builtin.Int.intBits (S:Int):=by
 unfold Builtin.Int.intBits
 by_cases e:S=0
 ·subst e;decide
 ·rw[if_neg (by simpa using e),ZDI];exact Nat.lt_log2_self
theorem VU(h:S<2^n):Builtin.Int.intBits (S:Int)<=n:=by
 unfold Builtin.Int.intBits
 by_cases e:S=0
 ·subst e;simp
 ·rw[if_neg (by simpa using e),ZDI];exact(Nat.log2_lt e).mpr h
def Ec(K:W.Frag):Sp:=λvs H Q _=>match vs with
 | [.int z]=>∃S:Nat,z=S/\S<2^60/\∀p H',H p=none->EE H H'->H' p=some (.tup (iL (DP S)))->Q (.ref p) H'
 | _=>False
theorem ZT:AT (Ec K):=λvs H Q f E h q=>by
 unfold Ec at *;walk_at "q"
theorem Nd:Ok_ P w base T.z46 4 (Ec K):=by
 refine T.z46.F.ok VI (λvs H Q E h=>by unfold Ec at h;walk_at "e") ?_;walk_at "f";unfold Ec at h;walk_at "g"
 rename_i z;obtain⟨S,o,r,q⟩:=h;subst o;have x:=VU r;have f:=Zy S;refine⟨_,(@AI _ _ _ (@AK _ _ _ _ (Bi (B9 (K:=K)) rfl T.zG (by rfl) (AA (Af (N':=["member","subset"]) (own:=1) (ix:=[0]) rfl (BG rfl T.zC (AA (QQ (K:=K) (vv 0)) AB)) (by kernel_rfl) rfl rfl (by kernel_rfl) (λc=>AM (i:=0) (show(["member","subset"]:List Str).Nodup by decide +kernel) rfl (by right)) (AV (by decide)) (λc=>C0 (BU (AG (@Pa P w K mg base T) (hr.mono (show 3<=_ by decide)) rfl T.z86.m T.z86.F.kp T.z86.b .nil AD (AA (vv 1) (AA (vv 0) AB))))) (λc=>(vv 0))) AB)))),?_⟩;refine⟨rfl,((Builtin.Int.intBits (S:Int):Nat):Int),rfl,by lia,by lia,?_⟩;rw[ZBj];generalize Builtin.Int.intBits (S:Int)=n at *
 refine CB (λk zs H'=>H'=H/\zs=iL ((List.range k).filter S.testBit)) ⟨rfl,rfl⟩ (λk zs H' u ⟨_,e⟩=>by
  have:=ZCq S.testBit (List.range k)
  rw[ZBc]at this;rw[e,Ai];exact AX (by lia)) ?_ ?_
 ·rintro k zs H' u ⟨rfl,rfl⟩;have j:(0:Int)+(k:Int)=((k:Nat):Int):=by lia
  rw[j];refine⟨S,k,rfl,rfl,by lia,?_⟩;have p:(S / 2^k%2==1)=S.testBit k:=by rw[ZDZ];rfl
  rw[p,ZBw,ZCR];cases e:S.testBit k with
  | true=>exact⟨rfl,by simp[e,CK];rfl⟩
  | false=>exact⟨rfl,by simp[e]⟩
 ·rintro zs H' ⟨rfl,rfl⟩ l v;rw[Vy f];have s1:EE H' (upd H' l (.lst (iL (DP S)))):=EE.upd v;refine⟨_,.inl ⟨.of AF,λt g=>?_⟩⟩;exact q t _ (s1.free g) (s1.trans (EE.upd g)) AF
def Iu(K:W.Frag)(C:Addr):Sp:=λvs H Q _=>match vs with
 | [.ref p]=>∃ls ys d,RkAt K C ls ys H p d/\Q (.int ((2^ls.length-1:Nat):Int)) H
 | _=>False
theorem ZL:Om_ P w mg base T.z21 3 (Iu K T.zA):=by
 refine T.z21.F.ok bH (λvs H Q E h=>by unfold Iu at h;walk_at "e") ?_;walk_at "f";unfold Iu at h;walk_at "g"
 rename_i p;obtain⟨ls,ys,d,R,q⟩:=h;have l16:=R.l16;obtain⟨dx,tl,yl,al,as,ze,h1,h2,f,g,i,j,k,l⟩:=id R.at_;refine⟨_,(@AI _ _ _ (@AK _ _ _ _ (AQ Dt (AG (@Cm P w K mg base T) (hr.mono (show 2<=_ by decide)) rfl T.z81.m T.z81.F.kp T.z81.b .nil AD (AA (AZ (BO (K:=K)) rfl T.zP (by rfl) (AA (Cw T.zB T.zD (vv 0)) AB)) AB)) AE))),?_⟩;refine⟨dx,_,_,h1,lk1 _ _ _ _,ls.length,.inr ⟨_,h2,by rw[ZBB]⟩,ls.length,rfl,by lia,?_⟩
 have e:(((2^ls.length:Nat):Int)-1)=((2^ls.length-1:Nat):Int):=by
  have:=ZBn ls.length
  lia
 show Q (.int (((2^ls.length:Nat):Int)-1)) H;rw[e];exact q
def Jr(K:W.Frag)(C:Addr):Sp:=λvs H Q _=>match vs with
 | [.ref p,.int z]=>∃ls ys d S,RkAt K C ls ys H p d/\z=(S:Nat)/\S<2^ls.length/\S≠0/\∀k H',S.testBit k=true->EE H H'->Q (.int (AN ls k)) H'
 | _=>False
theorem bh(h:S≠0):∃k,S.testBit k=true/\atI (iL (DP S)) 0=some (.int (k:Nat)):=by
 obtain⟨i,hi⟩:=Nat.exists_testBit_of_ne_zero h;have hm:=mem_memS.mpr hi;cases e:DP S with
 | nil=>rw[e]at hm;cases hm
 | cons k r=>exact⟨k,mem_memS.mp (by rw[e];exact ZBh ..),Ak (n:=0) rfl rfl⟩
theorem U7:Om_ P w mg base T.z22 5 (Jr K T.zA):=by
 refine T.z22.F.ok XM (λvs H Q E h=>by unfold Jr at h;walk_at "e") ?_;walk_at "f";unfold Jr at h;walk_at "g"
 rename_i p z;obtain⟨ls,ys,d,S,R,g,i,h0,q⟩:=h;subst g;have l16:=R.l16;obtain⟨dx,tl,yl,al,as,ze,h1,h2,j,l,n,o,r,u⟩:=id R.at_;have hle:2^ls.length<=2^60:=ZBL (by decide) (by lia);obtain⟨k,f,ha⟩:=bh h0;refine⟨_,(@AI _ _ _ (@AK _ _ _ _ (zq (K:=K) (Cw T.zB T.zD (vv 0)) (zq (K:=K) (AG (@Nd P w K mg base T) (hr.mono (show 4<=_ by decide)) rfl T.z46.m T.z46.F.kp T.z46.b .nil AD (AA (vv 1) AB)) AE)))),?_⟩;exact⟨dx,_,_,h1,lk1 _ _ _ _,S,rfl,by lia,λt H1 v s1 g1=>⟨_,_,.inr (.of g1),ha,_,_,.inr (s1.sqT h2),MA (Ff i f),q k H1 f s1⟩⟩
theorem UH:Ok_ P w base T.z73 4 (E2 K):=by
 refine T.z73.F.ok sc_z73 (λvs H Q E h=>by unfold E2 at h;walk_at "e") ?_;walk_at "f";have N:AT Er:=To;have O:AT (D3 K):=QG;unfold E2 at h;walk_at "g"
 rename_i p;obtain⟨bs,m,y,J,S,M,q⟩:=h;have I:2^m<=16:=ZBL (n:=2) (by decide) M;have t:(bs.map V.bl).length=2^m:=by rw[ZBB];exact J
 refine⟨_,(@AH _ _ _ _ _ (@C6 _ _ _ _ _ _ _ ["answer"] 1 [] _ _ _ _ 1 _ _ _ rfl sc_z73.nd rfl rfl (Au (K:=K) (vv 0)) (by kernel_rfl) rfl rfl (by kernel_rfl) (λc=>AM (i:=0) (show(["answer"]:List Str).Nodup by decide +kernel) rfl (by right)) (AV (by decide)) (λc=>Ag) (λc=>(DV (BU (vv 0)) AE AE)) (by rfl) (by intro _;rfl)) (@AH _ _ _ _ _ (@C6 _ _ _ _ _ _ _ (["switch","table"]) 1 [0] _ _ _ _ 2 _ _ _ rfl sc_z73.nd rfl rfl (BG rfl T.zC (AA (AG (@Kc P w K mg base T) (hr.mono (show 1<=_ by decide)) rfl T.z41.m T.z41.F.kp T.z41.b .nil AD (AA (vv 0) AB)) AB)) (by kernel_rfl) rfl rfl (by kernel_rfl) (λc=>AM (i:=0) (show(["switch","table"]:List Str).Nodup by decide +kernel) rfl (by right)) (AV (by decide)) (λc=>Ag) (λc=>(Bi (B9 (K:=K)) rfl T.zG (by rfl) (AA (Af (N':=["place","switch"]) (own:=1) (ix:=[0]) rfl (BG rfl T.zC (AA (AZ (BO (K:=K)) rfl T.zP (by rfl) (AA (vv 1) AB)) AB)) (by kernel_rfl) rfl rfl (by kernel_rfl) (λc=>AM (i:=0) (show(["place","switch"]:List Str).Nodup by decide +kernel) rfl (by right)) (AV (by decide)) (λc=>Ag) (λc=>(AG (@Pa P w K mg base T) (hr.mono (show 3<=_ by decide)) rfl T.z86.m T.z86.F.kp T.z86.b .nil AD (AA (vv 0) (AA (vv 1) AB))))) AB))) (by rfl) (by intro _;rfl)) (@AI _ _ _ (@AK _ _ _ _ (BS (AA (Bi (B9 (K:=K)) rfl T.zG (by rfl) (AA (vv 1) AB)) (AA (Bi (B9 (K:=K)) rfl T.zG (by rfl) (AA (vv 2) AB)) AB))))))),?_⟩;refine As (λZ H'=>∃l:Addr,Z=[some (.ref p),some (.ref l),none]/\EE H H'/\H' l=some (.lst (Da bs))) ?_ ?_ (by walk_at "sm")
 ·refine .inr ⟨⟨_,y⟩,?_⟩
  refine B6 (xs:=bs.map V.bl) (λi ys H'=>H'=H/\ys=Da (bs.take i)) ⟨rfl,rfl⟩ (λi ys H' _ ⟨e,_⟩=>by rw[e];exact y) (λi ys H' hi ⟨_,e⟩=>by
   rw[e,Tk,ZBi];exact AX (by lia)) ?_ ?_
  ·rintro i x ys H' C ⟨rfl,rfl⟩
   have hi:i<bs.length:=by
    have:=(ZBW.mp C).1
    rwa [ZBB]at this
   rw[ZBJ,ZBE hi]at C;cases C;rw[ZBl,ZBE hi,az];generalize bs[i]=b;cases b with
   | true=>exact⟨rfl,rfl⟩
   | false=>exact⟨rfl,rfl⟩
  ·rintro ys H' ⟨rfl,rfl⟩ k g;rw[ZB0 (by rw[ZBB];exact ZBD _)];exact⟨k,rfl,EE.upd g,AF⟩
 rintro Z H1 ⟨l,rfl,z,g1⟩;refine As (λZ H'=>∃(l2:Addr) (rs:List V),Z=[some (.ref p),some (.ref l),some (.ref l2)]/\EE H1 H'/\H' l2=some (.lst rs)/\za K H' (DS m m) rs) ?_ ?_ (by walk_at "sm")
 ·refine⟨m,_,z.sqT y,t,by lia,(m:Int),rfl,by lia,by lia,?_⟩
  refine CB (λi ys H'=>EE H1 H'/\za K H' (DS m i) ys) ⟨EE.refl _,Ab⟩ (λi ys H' hi ⟨_,r⟩=>by
   have:=r.length
   rw[Uy]at this;exact AX (by lia)) ?_ ?_
  ·rintro i ys H' hi ⟨s2,R2⟩;have L:i<m:=by lia
   refine⟨2^m,.inr ⟨_,(z.trans s2).sqT y,t.symm⟩,((2^m:Nat):Int),rfl,by lia,by lia,?_⟩
   refine CB (λk zs v=>v=H'/\zs=((List.range k).map (λq=>q / 2^i%2==1)).map V.bl) ⟨rfl,rfl⟩ (λk zs v g ⟨_,e⟩=>by
    rw[e,ZBB,ZBB,ZBc];exact AX (by lia)) ?_ ?_
   ·rintro k zs v g ⟨rfl,rfl⟩;rw[show(0:Int)+(k:Int)=(k:Int) from ZCQ _,show(0:Int)+(i:Int)=(i:Int) from ZCQ _];refine⟨k,i,rfl,rfl,by lia,rfl,?_⟩;rw[MI]
   ·rintro zs v ⟨rfl,rfl⟩ k g;rw[ZBj];refine⟨_,.inl ⟨.of AF,λG f=>?_⟩⟩;have j:((List.range (2^m)).map (λq=>q / 2^i%2==1)).map V.bl=(CY m i).map V.bl:=rfl;rw[j];have s3:=(EE.upd (o:=.lst ((CY m i).map V.bl)) g).trans (EE.upd (o:=.tup ((CY m i).map V.bl)) f);refine⟨s2.trans s3,?_⟩;rw[af];exact za.append (za.same s3 _ _ R2) (AU (Ax AF (Dg _)) Ab)
  ·rintro ys H' ⟨s2,R2⟩ k g;have e:(m:Int).toNat=m:=by lia
   rw[e]at R2;exact⟨k,_,rfl,s2.trans (EE.upd g),AF,za.same (EE.upd g) _ _ R2⟩
 rintro Z H2 ⟨l2,rs,rfl,D,g2,R2⟩;refine⟨_,.inl ⟨.of (D _ _ g1),λG f=>?_⟩⟩;refine⟨_,.inl ⟨.of (EE.upd f _ _ g2),λR B=>?_⟩⟩;refine⟨smq rfl,λU u=>?_⟩;have s5:=(EE.upd (o:=.tup rs) B).trans (EE.upd (o:=.tup [.ref G,.ref R]) u);refine q _ _ (z.trans (D.trans ((EE.upd f).trans s5))) ?_;refine Ax AF (AU (Ax (s5 _ _ AF) (OU bs)) (AU (Ax (EE.upd u _ _ AF) ?_) Ab));exact za.same ((EE.upd f).trans s5) _ _ R2
noncomputable def Br(ls:List Int)(ys:List Nat)(S:Nat):Nat:=by classical exact if h:∃m,A7 (AN ls) (Ac ys) S.testBit m then h.choose else 0
theorem Dy(h:A7 (AN ls) (Ac ys) S.testBit m):Br ls ys S=m:=by
 have z:∃m,A7 (AN ls) (Ac ys) S.testBit m:=⟨m,h⟩;unfold Br;rw[dif_pos z];exact Mb z.choose_spec h
theorem NO(h:Can (AN ls) (Ac ys) n S.testBit):A7 (AN ls) (Ac ys) S.testBit (Br ls ys S):=by
 obtain⟨m,hm⟩:=XB h;rw[Dy hm];exact hm
noncomputable def wst(ls:List Int)(ys:List Nat)(S j:Nat):Nat:=max (Br ls ys (S &&& ys.getD j 0)) (Br ls ys (S-(S &&& ys.getD j 0)))
structure FirstQ(ls:List Int)(ys:List Nat)(S j:Nat):Prop where
 mem:j∈BF S ys ys.length
 le:∀i∈BF S ys ys.length,wst ls ys S j<=wst ls ys S i
 lt:∀i∈BF S ys ys.length,i<j->wst ls ys S j<wst ls ys S i
theorem P1(y:Nat)(h:Can (AN ls) (Ac ys) n S.testBit):Can (AN ls) (Ac ys) n (S &&& y).testBit/\Can (AN ls) (Ac ys) n (S-(S &&& y)).testBit:=by
 rw[Gu,Gx];exact⟨C5 (λk z=>by simp only[ZBb]at z;exact z.1) h,C5 (λk z=>by simp only[ZBb]at z;exact z.1) h⟩
theorem Z9:Om_ P w mg base T.z17 74 (Ea K T.zA 17):=Of T 17 (KC T 17)
noncomputable def ZE(b:List Stmt):Expr:=match b with
 | [.Return (some (.Call _ _ (k::_) _)) _]=>k.value
 | _=>.Name "" ⟨0,0,0,0⟩
noncomputable def Hx(e:Expr):Arguments:=match e with
 | .Lambda p _ _ _=>p
 | _=>{ posonlyargs:=[],args:=[],vararg:=none,kwonlyargs:=[],kw_defaults:=[],kwarg:=none,defaults:=[] }
noncomputable def Ht(e:Expr):Expr:=match e with
 | .Lambda _ b _ _=>b
 | e=>e
noncomputable def EJ(e:Expr):Scope:=match e with
 | .Lambda _ _ s _=>s
 | _=>{ kind:=.function,names:=[],isGenerator:=false,isCoroutine:=false }
noncomputable def B8:Expr:=ZE (Bo C2)
def KP(K:W.Frag)(C:Addr)(z G v:V)(H:Hp)(Q:VK):Prop:=Ea K C 17 [G,z,v] H Q E0
theorem bV (T:Txt K mg) {zz ca U c':Addr} {pm G uA uB:Value} {vA vB:V} (hl:base.get? zz=some (W.kla_obj "<lambda>" Cg (Hx B8) (Ht B8) (EJ B8) [("things",ca),("self",U)] pm c' G)) (O:ca≠U)
 (a0:base.IsCell ca (some uA)) (rA:zi vA uA) (a3:base.IsCell U (some uB)) (rB:zi vB uB) :
 FnOk P w K mg base CX0 75 zz (W.kla_fn "<lambda>" Cg (Hx B8) (Ht B8) (EJ B8) [("things",ca),("self",U)] pm (.ref c') G) ["question"] (Fm c' Cg (KP K T.zA vA vB)):=by
 refine TK (k:=74) hl a0 rA a3 rB (by decide) O rfl rfl rfl ?_ rfl rfl rfl ?_ λA outer s H v Q hr h=>?_
 ·intro y x;have h:=ZCT.mp (show(EJ B8).names.all (λp=>p.2 != .free||p.1 == "things" || p.1 == "self")=true by decide +kernel) _ (PySem.mem_of_lookup x);simpa [or_assoc] using h
 ·decide +kernel
 have f:=hr;unfold KP Ea at h;walk_at "g"
 rename_i p z i l;cases l;obtain⟨ls,ys,d,S,j,y,R,g,n,o,e2,r,u,t,q⟩:=h;subst g e2;obtain⟨dx,tl,yl,al,as,ze,h1,_⟩:=id R.at_;refine⟨_,(A9 (vv 2) T.zB T.z17.m (@Z9 P w K mg base T) f T.z17.b .nil AD (AA (vv 1) (AA (vv 0) AB))),?_⟩;exact⟨p,dx,_,rfl,h1,ln4 _ _ _ _,ls,ys,d,S,j,y,R,rfl,n,o,rfl,r,u,t,q⟩
def IM(K:W.Frag)(C Pt:Addr):Sp:=λvs H Q _=>match vs with
 | [.ref p,.int z]=>∃ls ys d S,RkAt K C ls ys H p d/\z=(S:Nat)/\S<2^ls.length/\(∃n,Can (AN ls) (Ac ys) n S.testBit)/\¬One (AN ls) S.testBit/\zx Pt F9 Cg H /\
  ∀(j:Nat) H',FirstQ ls ys S j->RkAt K C ls ys H' p d->FrX [d,Pt] H H'->zx Pt F9 Cg H'->Q (.int (j:Nat)) H'
 | _=>False
theorem Vh(B:BMn mg base):Om_ P w mg base T.z15 77 (IM K T.zA T.zT):=by
 refine T.z15.F.okC T.Z0c Wp (λvs H Q E h=>by unfold IM at h;walk_at "e") (λA outer s H vs Q E hr h=>?_);have hu:=AS hr;have b5:=hr;unfold IM at h;walk_at "g"
 rename_i p z;obtain⟨ls,ys,d,S,R,e1,hS,⟨n,hc⟩,ho,hL,q⟩:=h;subst e1;obtain⟨dx,tl,yl,al,as,ze,h1,_⟩:=id R.at_;have l16:=R.l16;let spB:V->V->V->Hp->VK->Prop:=KP K T.zA
 have a3:∀(g:Heap) (zz ca r N:Addr) (pm y uA uB:Value) (vA vB:V),(∀b o,base.get? b=some o->g.get? b=some o)->g.get? zz=some (W.kla_obj "<lambda>" Cg (Hx B8) (Ht B8) (EJ B8) [("things",ca),("self",r)] pm N y)->ca≠r->g.IsCell ca (some uA)->zi vA uA->g.IsCell r (some uB)->zi vB uB ->
  FnOk P w K mg g CX0 75 zz (W.kla_fn "<lambda>" Cg (Hx B8) (Ht B8) (EJ B8) [("things",ca),("self",r)] pm (.ref N) y) ["question"] (Fm N Cg (spB vA vB)) :=
  λg zz ca r N pm y uA uB vA vB _ hl a4 b0 rA b1 rB=>bV (base:=g) T hl a4 b0 rA b1 rB
 have X:∀ca r,(PyProof.Rows.envOfC "Reckoner.first_question" (AJ C2) s.heap.objs.size T.z15.f (.ref T.yc)).cells.lookup (PySem.Str.ofString "things")=some ca->(PyProof.Rows.envOfC "Reckoner.first_question" (AJ C2) s.heap.objs.size T.z15.f (.ref T.yc)).cells.lookup (PySem.Str.ofString "self")=some r ->
  closureFor (EJ B8) (PyProof.Rows.envOfC "Reckoner.first_question" (AJ C2) s.heap.objs.size T.z15.f (.ref T.yc))=pure [((PySem.Str.ofString "things" : Str),ca),((PySem.Str.ofString "self" : Str),r)]:=λca r h1 h2=>by
  have e1:some (s.heap.objs.size+2)=some ca:=h1;have e2:some (s.heap.objs.size+1)=some r:=h2;cases e1;cases e2;rfl
 refine⟨_,(@AI _ _ _ (@AK _ _ _ _ (Tf (c:=T.yc) (Pt:=T.zT) (qual:=Cg) (i:=1) (j:=0) (a:="things") (b:="self") (spB:=spB) (A9 (vv 0) T.zB T.z24.m (@QJ P w K mg base T) (hr.mono (show 1<=_ by decide)) T.z24.b .nil AD (AA (vv 1) AB)) T.ya b5 rfl rfl T.Z0e B rfl rfl rfl rfl X rfl rfl rfl rfl (by decide) (λ_ _ _ _ _ _=>rfl) a3))),?_⟩;refine⟨p,dx,_,rfl,h1,ln5 _ _ _ _,ls,ys,d,S,R,rfl,λl H1 nl s1 g1=>?_⟩;have L1:=hL.same s1;have R1:=R.same s1;refine⟨l,_,_,_,rfl,by rw[Ai];exact Ou ho hc,rfl,rfl,L1,λN H2 I a0 U=>?_⟩;obtain⟨pz,hP,_⟩:=id L1;have R2:=Zg R1 I hP;have g2:H2 l=_:=I _ _ (λz=>by rw[z,hP]at g1;cases g1) g1;obtain⟨c2,c3,c4,c0,c1,b6,k1,_,_,_,k5,_⟩:=id R2.at_;have b3:l≠d:=B7 g2 k5 (by intro z;cases z);have b2:N≠d:=B7 U k5 (by intro z;cases z);refine⟨λ_ x=>RkAt K T.zA ls ys x p d/\zp d H2 x,λn=>(wst ls ys S ((BF S ys ys.length).getD n 0):Nat),⟨R2,zp.refl⟩,λn x ⟨_,G⟩=>⟨.of (G _ _ b3 g2),G _ _ b2 U⟩,?_,?_⟩
 ·rintro m v x hv ⟨R3,G⟩;obtain⟨i,hi,L,rfl⟩:=DB hv;obtain⟨y1,y2⟩:=GY L;have Z:(BF S ys ys.length).getD m 0=i:=by rw[ZBO,hi];rfl
  refine⟨ls,ys,d,S,i,_,R3,rfl,hS,⟨n,hc⟩,rfl,y1,y2,by have:=FZ ls.length S.testBit;lia,λb e H4 f1 f2 R4 f4=>?_⟩;refine⟨?_,R4,G.trans f4⟩;dsimp only;rw[Z];unfold wst;rw[Dy f1,Dy f2]
 ·rintro m v x hv t ⟨R3,G⟩;obtain⟨i,hi,L,rfl⟩:=DB hv;have Z:(BF S ys ys.length).getD m 0=i:=by rw[ZBO,hi];rfl
  have fr:FrX [d,T.zT] H x:=(FrX.same s1).trans ((FrX.grow I (by simp)).trans (FrX.frm G (by simp)));refine q i x ⟨L,λi' J=>?_,λi' J zn=>?_⟩ R3 fr (Kl a0 G k5 (.inr (.inl ⟨_,rfl⟩)))
  ·obtain⟨u,k,D⟩:=ZCD J;have O:=(t u (by rw[Ai];exact k)).1;have C:(BF S ys ys.length).getD u 0=i':=by rw[ZBO,ZBE k,D];rfl
   dsimp only at O;rw[Z,C]at O;lia
  ·obtain⟨u,k,D⟩:=ZCD J;have b4:=(ZBW.mp hi);obtain⟨hm,em⟩:=b4;have M:(BF S ys ys.length).Pairwise (· < ·):=List.Pairwise.filter _ ZDU
   have Y:u<m:=by
    rcases ZCn u m with z | z | z
    ·exact z
    ·subst z;lia
    ·have:=List.pairwise_iff_getElem.mp M m u hm k z
     lia
   have O:=(t u (by rw[Ai];exact k)).2 Y;have C:(BF S ys ys.length).getD u 0=i':=by rw[ZBO,ZBE k,D];rfl
   dsimp only at O;rw[Z,C]at O;lia
theorem TL(he:DF ls rs):∀i j,i<ls.length->j<ls.length->(∀y∈rs.map gB,y i=y j)->AN ls i=AN ls j:=by
 have key:∀i j,i<j->j<ls.length->(∀y∈rs.map gB,y i=y j)->AN ls i=AN ls j:=λi j f g h =>
  Classical.byContradiction λne=>he i j ⟨f,g,ne,by
   unfold E4;apply ZCC;intro r hr;exact h _ (ZBN.mpr ⟨r,hr,rfl⟩)⟩
 intro i j hi g h
 rcases ZCn i j with z | z | z
 ·exact key i j z g h
 ·rw[z]
 ·exact(key j i z hi λy k=>(h y k).symm).symm
inductive Tr where
 | say (i:Int)
 | ask (q:Nat) (n y:Tr)
noncomputable def Tr.dv:Tr->Dv
 | .say i=>.tup [.str (Str.ofString "say"),.int i]
 | .ask q n y=>.tup [.str (Str.ofString "ask"),.int (q:Int),n.dv,y.dv]
theorem Tr.tups:∀t:Tr,Bd t.dv=true
 | .say i=>rfl
 | .ask q n y=>by
  unfold Tr.dv Bd BA BA BA BA BA;rw[Tr.tups n,Tr.tups y];rfl
theorem ln8(a b c d:V):(Bg a b c d).lookup ("label_of" : Str)=none:=by rfl
theorem ln9(a b c d:V):(Bg a b c d).lookup ("first_question" : Str)=none:=by rfl
theorem lnA(a b c d:V):(Bg a b c d).lookup ("harder_lefts" : Str)=none:=by rfl
theorem lnB(a b c d:V):(Bg a b c d).lookup ("everything" : Str)=none:=by rfl
noncomputable def HF(ls:List Int)(ys:List Nat):Tr->Nat->Prop
 | .say i,S=>One (AN ls) S.testBit/\∃k,S.testBit k=true/\i=AN ls k
 | .ask q n y,S=>¬One (AN ls) S.testBit/\FirstQ ls ys S q/\HF ls ys n (S-(S &&& ys.getD q 0))/\HF ls ys y (S &&& ys.getD q 0)
def Dn(K:W.Frag)(C Pt:Addr)(c:Nat):Sp:=λvs H Q _=>match vs with
 | [.ref p,.int z]=>∃ls ys d S,RkAt K C ls ys H p d/\z=(S:Nat)/\S<2^ls.length/\S≠0/\(∃n,Can (AN ls) (Ac ys) n S.testBit)/\A8 ls.length S.testBit<c/\zx Pt F9 Cg H /\
  ∀(t:Tr) v H',HF ls ys t S->zf K H' t.dv v->RkAt K C ls ys H' p d->FrX [d,Pt] H H'->zx Pt F9 Cg H'->Q v H'
 | _=>False
theorem Ua{y:Nat}(h:B5 S.testBit y.testBit):S &&& y≠0/\S-(S &&& y)≠0:=by
 obtain⟨⟨i,h1,h2⟩,j,f,g⟩:=h;constructor
 ·intro z
  have:(S &&& y).testBit i=true:=by rw[ZCA,h1,h2];rfl
  rw[z]at this;simp at this
 ·intro z
  have:(S-(S &&& y)).testBit j=true:=by rw[Jd,f,g];rfl
  rw[z]at this;simp at this
theorem W2(B:BMn mg base)(c:Nat)(G:Ok_ P w base T.z54 (78+c) (Dn K T.zA T.zT c)) :
 FnOk P w K mg base CX0 (78+(c+1)) T.z54.f T.z54.d ["reckoner","things"] (Dn K T.zA T.zT (c+1)):=by
 have l:=@LO P w K mg base T;refine T.z54.F.ok sc_z54 (λvs H Q E h=>by unfold Dn at h;walk_at "e") ?_;walk_at "f";have u:=hr.mono (show 2<=78+c by lia);have v:=hr.mono (show 5<=78+c by lia);have g:=hr.mono (show 1<=78+c by lia);have r:=hr.mono (show 77<=78+c by lia);have i:=hr;unfold Dn at h;walk_at "g"
 rename_i p z;obtain⟨ls,ys,d,S,R,e1,C,h0,⟨n,hc⟩,hk,hL,q⟩:=h;subst e1;obtain⟨dx,tl,yl,al,as,ze,h1,_⟩:=id R.at_;refine⟨_,(@AH _ _ _ _ _ (@Av _ _ _ _ _ _ _ _ (BU (A9 (vv 0) T.zB T.z16.m (@RT P w K mg base T) u T.z16.b .nil AD (AA (vv 1) AB))) (@AI _ _ _ (@AK _ _ _ _ (BS (AA Fa (AA (A9 (vv 0) T.zB T.z22.m (@U7 P w K mg base T) v T.z22.b .nil AD (AA (vv 1) AB)) AB))))) Aw) (@AH _ _ _ _ _ (@AO _ _ 2 _ _ _ _ sc_z54.nd rfl (by right) (A9 (vv 0) T.zB T.z15.m (@Vh P w K mg base T B) r T.z15.b .nil AD (AA (vv 1) AB)) (by rfl) (by symm)) (@AH _ _ _ _ _ (@AO _ _ 3 _ _ _ _ sc_z54.nd rfl (by right) (AG G i rfl T.z54.m T.z54.F.kp T.z54.b .nil AD (AA (vv 0) (AA (A9 (vv 0) T.zB T.z23.m l g T.z23.b .nil AD (AA (vv 1) (AA (vv 2) (AA BE AB)))) AB))) (by rfl) (by symm)) (@AH _ _ _ _ _ (@AO _ _ 4 _ _ _ _ sc_z54.nd rfl (by right) (AG G i rfl T.z54.m T.z54.F.kp T.z54.b .nil AD (AA (vv 0) (AA (A9 (vv 0) T.zB T.z23.m l g T.z23.b .nil AD (AA (vv 1) (AA (vv 2) (AA BE AB)))) AB))) (by rfl) (by symm)) (@AI _ _ _ (@AK _ _ _ _ (BS (AA Fa (AA (vv 2) (AA (vv 3) (AA (vv 4) AB))))))))))),?_⟩;refine⟨p,dx,_,rfl,h1,ln3 _ _ _ _,ls,ys,d,S,R,rfl,C,λb H1 hb s1=>?_⟩;have I:=R.same s1;have x:=s1 _ _ h1;have Y:=hL.same s1;cases b with
 | true =>
  refine⟨p,dx,_,rfl,x,ln8 _ _ _ _,ls,ys,d,S,I,rfl,C,h0,λk H2 O s2=>⟨smq rfl,λt U=>?_⟩⟩;have s3:EE H2 (upd H2 t (.tup [.str (Str.ofString "say"),.int (AN ls k)])):=EE.upd U;exact q (.say (AN ls k)) _ _ ⟨hb.mp rfl,k,O,rfl⟩ (DD (.of AF) (AU (by unfold zf;rfl) (AU (by unfold zf;rfl) Ab))) ((I.same s2).same s3) (.same (s1.trans (s2.trans s3))) ((Y.same s2).same s3)
 | false =>
  have ho:¬One (AN ls) S.testBit:=λo=>nomatch hb.mpr o
  dsimp only[EH];refine⟨p,dx,_,rfl,x,ln9 _ _ _ _,ls,ys,d,S,I,rfl,C,⟨n,hc⟩,ho,Y,λj H2 hj R2 f2 D=>?_⟩;dsimp only[AW];obtain⟨y1,y2⟩:=GY hj.mem;obtain⟨⟨a1,a2,a3⟩,b1,b2,b3⟩:=IZ C hc y2 hk;obtain⟨n1,n2⟩:=Ua y2;obtain⟨M,c0,c2,b0,b5,a0,k2,_⟩:=id R2.at_;refine⟨p,M,_,rfl,k2,ln7 _ _ _ _,ls,ys,d,S,j,_,R2,rfl,rfl,y1,?_⟩;refine⟨ls,ys,d,_,R2,rfl,b1,n2,⟨n,b2⟩,b3,D,λtn vn H3 J V y f3 Z=>?_⟩;dsimp only[AW];obtain⟨N,c1,c3,b4,b6,a4,k3,_⟩:=id y.at_;refine⟨p,N,_,rfl,k3,ln7 _ _ _ _,ls,ys,d,S,j,_,y,rfl,rfl,y1,?_⟩;refine⟨ls,ys,d,_,y,rfl,a1,n1,⟨n,a2⟩,a3,Z,λty vy X L W R4 f4 L4=>⟨smq rfl,λt U=>?_⟩⟩;have O3:=UN (TZ y) (V5 Z);have s5:EE X (upd X t (.tup [.str (Str.ofString "ask"),.int (j:Nat),vn,vy])):=EE.upd U;refine q (.ask j tn ty) _ _ ⟨ho,hj,J,L⟩ ?_ (R4.same s5) ((FrX.same s1).trans (f2.trans (f3.trans (f4.trans (.same s5))))) (L4.same s5);exact DD (.of AF) (AU (by unfold zf;rfl) (AU (by unfold zf;rfl) (AU (zf.same s5 _ _ (f4.rep O3 tn.tups V)) (AU (zf.same s5 _ _ W) Ab))))
theorem Pj(B:BMn mg base):∀c:Nat,Ok_ P w base T.z54 (78+c) (Dn K T.zA T.zT c)
 | 0=>by
  have no:∀vs H Q E,¬Dn K T.zA T.zT 0 vs H Q E:=λvs H Q E h=>by
   unfold Dn at h;split at h
   ·obtain⟨ls,ys,d,S,_,_,_,_,_,z,_⟩:=h;exact absurd z (ZC8 _)
   ·exact h
  exact⟨λvs H Q E h=>(no _ _ _ _ h).elim,λA outer s H args us vs Q E _ _ _ _ h=>(no _ _ _ _ h).elim⟩
 | c+1=>W2 T B c (Pj B c)
theorem S3(B:BMn mg base):Ok_ P w base T.z54 95 (Dn K T.zA T.zT 17):=Pj T B 17
noncomputable def GD(ls:List Int)(ys:List Nat)(S j X:Nat):Prop :=
 (X=S &&& ys.getD j 0/\Br ls ys (S-(S &&& ys.getD j 0))<Br ls ys (S &&& ys.getD j 0))\/(X=S-(S &&& ys.getD j 0)/\Br ls ys (S &&& ys.getD j 0)<=Br ls ys (S-(S &&& ys.getD j 0)))
section
variable {ls:List Int}{ys:List Nat}{S X Y j n:Nat}
theorem Za(h:GD ls ys S j X)(z:S<2^n):X<2^n:=by
 have:=ZCk (n:=S) (m:=ys.getD j 0)
 rcases h with ⟨e,_⟩ | ⟨e,_⟩ <;> lia
theorem Xf(h:GD ls ys S j X)(z:Can (AN ls) (Ac ys) n S.testBit):Can (AN ls) (Ac ys) n X.testBit:=by
 obtain⟨f,g⟩:=P1 (ys.getD j 0) z
 rcases h with ⟨rfl,_⟩ | ⟨rfl,_⟩
 ·exact f
 ·exact g
end
def MC(K:W.Frag)(C:Addr):Sp:=λvs H Q _=>match vs with
 | [.ref p,.int z,.int i]=>∃ls ys d S j,RkAt K C ls ys H p d/\z=(S:Nat)/\S<2^ls.length/\(∃n,Can (AN ls) (Ac ys) n S.testBit)/\i=(j:Nat)/\j<ys.length /\
  ∀(X:Nat) H',GD ls ys S j X->RkAt K C ls ys H' p d->zp d H H'->Q (.int (X:Nat)) H'
 | _=>False
theorem SZ:Om_ P w mg base T.z20 73 (MC K T.zA):=by
 have l:=@LO P w K mg base T;have k:=@MY P w K mg base T;refine T.z20.F.ok sc_z20 (λvs H Q E h=>by unfold MC at h;walk_at "e") ?_;walk_at "f";have g:=hr.mono (show 1<=_ by decide);have f:=hr.mono (show 72<=_ by decide);unfold MC at h;walk_at "g"
 rename_i p z i;obtain⟨ls,ys,d,S,j,R,v,W,⟨n,J⟩,e2,L,q⟩:=h;subst v e2;have l16:=R.l16;have y:ys[j]?=some (ys.getD j 0):=by rw[ZBO,ZBE L];rfl
 obtain⟨G,I⟩:=P1 (ys.getD j 0) J;have hle:=ZCk (n:=S) (m:=ys.getD j 0);have cd:∀U:Nat,A8 ls.length U.testBit<17:=λU=>by have:=FZ ls.length U.testBit;lia
 obtain⟨dx,tl,yl,al,as,ze,h1,_⟩:=id R.at_;refine⟨_,(@AH _ _ _ _ _ (@AO _ _ 3 _ _ _ _ sc_z20.nd rfl (by right) (A9 (vv 0) T.zB T.z23.m l g T.z23.b .nil AD (AA (vv 1) (AA (vv 2) (AA BE AB)))) (by rfl) (by symm)) (@AH _ _ _ _ _ (@AO _ _ 4 _ _ _ _ sc_z20.nd rfl (by right) (A9 (vv 0) T.zB T.z23.m l g T.z23.b .nil AD (AA (vv 1) (AA (vv 2) (AA BE AB)))) (by rfl) (by symm)) (@AI _ _ _ (@AK _ _ _ _ (DV (Ah Ci (A9 (vv 0) T.zB T.z18.m k f T.z18.b .nil AD (AA (vv 4) AB)) (A9 (vv 0) T.zB T.z18.m k f T.z18.b .nil AD (AA (vv 3) AB))) (vv 4) (vv 3)))))),?_⟩;refine⟨p,dx,_,rfl,h1,ln7 _ _ _ _,ls,ys,d,S,j,_,R,rfl,rfl,y,?_⟩;dsimp only[AW];refine⟨p,dx,_,rfl,h1,ln7 _ _ _ _,ls,ys,d,S,j,_,R,rfl,rfl,y,?_⟩;dsimp only[AW];refine⟨p,dx,_,rfl,h1,ln1 _ _ _ _,ls,ys,d,S &&& ys.getD j 0,R,rfl,by lia,⟨n,G⟩,cd _,λb H1 f1 u o=>?_⟩;obtain⟨t,N,V,C,D,B,M,_⟩:=id u.at_;refine⟨p,t,_,rfl,M,ln1 _ _ _ _,ls,ys,d,S-(S &&& ys.getD j 0),u,rfl,by lia,⟨n,I⟩,cd _,λe H2 f2 R2 r=>?_⟩;have v:=Dy f1;have e2:=Dy f2;refine Aa (λx=>?_) (λx=>?_)
 ·have O:e<b:=by have:=ZBY x;lia
  exact q _ H2 (.inl ⟨rfl,by lia⟩) R2 (o.trans r)
 ·have O:¬e<b:=λw=>x (ZBK (by lia))
  exact q _ H2 (.inr ⟨rfl,by lia⟩) R2 (o.trans r)
def E5(K:W.Frag)(C:Addr):Sp:=λvs H Q _=>match vs with
 | [.ref p,.int z]=>∃ls ys d S,RkAt K C ls ys H p d/\z=(S:Nat)/\S<2^ls.length/\(∃n,Can (AN ls) (Ac ys) n S.testBit) /\
  ∀(f:List Nat) l H',f.length=ys.length->(∀j X,f[j]?=some X->GD ls ys S j X)->RkAt K C ls ys H' p d->zp d H H'->H l=none->H' l=some (.lst (iL f))->Q (.ref l) H'
 | _=>False
theorem ZB:AT (E5 K C):=λvs H Q f E h q=>by
 unfold E5 at *;walk_at "q"
theorem PM{o:HO}(f:zp d H H')(hd:H' d=some o)(h:H' l=none):H l=none:=by
 cases e:H l with
 | none=>rfl
 | some u =>
  have g:l≠d:=λz=>by rw[z,hd]at h;cases h
  rw[f l u g e]at h;cases h
theorem Yh:Om_ P w mg base T.z19 74 (E5 K T.zA):=by
 refine T.z19.F.ok Xh (λvs H Q E h=>by unfold E5 at h;walk_at "e") ?_;walk_at "f";unfold E5 at h;walk_at "g"
 rename_i p z;obtain⟨ls,ys,d,S,R,G,J,L,q⟩:=h;subst G;have y16:=R.y16;obtain⟨dx,tl,yl,al,as,ze,h1,h2,I,_⟩:=id R.at_;refine⟨_,(@AI _ _ _ (@AK _ _ _ _ (@Af _ _ _ _ _ _ _ (["question","self","things"]) 1 ([0,1]) _ _ _ _ rfl (BG rfl T.zC (AA (AZ (BO (K:=K)) rfl T.zP (by rfl) (AA (Cw T.zB T.zI (vv 0)) AB)) AB)) (by kernel_rfl) rfl rfl (by kernel_rfl) (λc=>AM (i:=0) (show(["question","self","things"]:List Str).Nodup by decide +kernel) rfl (by right)) (AV (by decide)) (λc=>Ag) (λc=>(A9 (vv 1) T.zB T.z20.m (@SZ P w K mg base T) (hr.mono (show 73<=_ by decide)) T.z20.b .nil AD (AA (vv 2) (AA (vv 0) AB)))) (by intro _;rfl)))),?_⟩;refine⟨dx,_,_,h1,lk2 _ _ _ _,ys.length,.inl ⟨_,.of I,by rw[Ai]⟩,ys.length,rfl,by lia,by lia,?_⟩;rw[ZBj];refine CB (λk zs H'=>RkAt K T.zA ls ys H' p d/\zp d H H'/\∃f:List Nat,zs=iL f/\f.length=k/\∀j X,f[j]?=some X->GD ls ys S j X) ⟨R,zp.refl,[],rfl,rfl,λj X z=>by simp at z⟩ (λk zs H' C ⟨_,_,f,e,n,_⟩=>by rw[e,Ai,n];exact AX (by lia)) ?_ ?_
 ·rintro k zs H1 C ⟨o,f1,f,rfl,n,x⟩;have D:(0:Int)+(k:Int)=((k:Nat):Int):=by lia
  rw[D];obtain⟨r,y,B,u,v,t,N,_⟩:=id o.at_;refine⟨p,r,_,rfl,N,ln6 _ _ _ _,ls,ys,d,S,k,o,rfl,J,L,rfl,C,λX H2 M R2 f2=>?_⟩;refine⟨R2,f1.trans f2,f++[X],by rw[CK];rfl,by rw[ZBS,n];rfl,λj Y g=>?_⟩
  rcases ZCn j f.length with z | z | z
  ·rw[ZCu z]at g;exact x j Y g
  ·subst z;rw[ZCt (ZBD _),Nat.sub_self]at g;cases g;rw[n];exact M
  ·rw[ZCW (by rw[ZBS];show f.length+1<=j;lia)]at g;cases g
 ·rintro zs H1 ⟨o,f1,f,rfl,n,x⟩ l nl;obtain⟨r,y,B,u,v,t,_,_,_,_,O,_⟩:=id o.at_;have s2:EE H1 (upd H1 l (.lst (iL f))):=EE.upd nl;exact q f l _ n x (o.same s2) (f1.trans (CM s2)) (PM f1 O nl) AF
noncomputable def kvE(es:List (Nat×Nat)):List (Key×V):=es.map λe=>((Sum.inl (e.1:Int):Key),V.int (e.2:Int))
theorem Pn:∀(es:List (Nat×Nat)) (S:Nat),(valV (kvE es) (Sum.inl (S:Int):Key)).isSome=decide (S∈es.map (·.1))
 | [],S=>rfl
 | e::es,S=>by
  by_cases z:e.1=S
  ·have:valV (kvE (e::es)) (Sum.inl (S:Int):Key)=some (V.int (e.2:Int)):=CJ (by rw[<- z])
   rw[this];simp[z]
  ·have:valV (kvE (e::es)) (Sum.inl (S:Int):Key)=valV (kvE es) (Sum.inl (S:Int):Key):=CQ (λq=>z (by injection q with q;lia))
   rw[this,Pn es S];simp[Ne.symm z]
theorem X3{es:List (Nat×Nat)}(h:S∉es.map (·.1)):BH (kvE es) (Sum.inl (S:Int):Key) (V.int (m:Int))=kvE (es++[(S,m)]):=by
 unfold BH;rw[if_neg]
 ·unfold kvE;rw[ZBH];rfl
 ·intro z;obtain⟨x,f,e⟩:=ZCY.mp z;obtain⟨a,ha,rfl⟩:=ZBN.mp f;have e:(Sum.inl (a.1:Int):Key)=Sum.inl (S:Int):=ZBY e;injection e with e
  exact h (ZBN.mpr ⟨a,ha,by lia⟩)
structure PInv(ls:List Int)(ys:List Nat)(n:Nat)(es:List (Nat×Nat))(pd:List Nat):Prop where
 nd:(es.map (·.1)).Nodup
 ok:∀e∈es,e.1<2^ls.length
 pe:∀X∈pd,X<2^ls.length/\Can (AN ls) (Ac ys) n X.testBit
section
variable {ls:List Int}{ys:List Nat}{n X m:Nat}{es:List (Nat×Nat)}{pd more:List Nat}
theorem PInv.skip(h:PInv ls ys n es (X::pd)):PInv ls ys n es pd:=⟨h.nd,h.ok,λY f=>h.pe Y (ZBd _ f)⟩
theorem PInv.enter(h:PInv ls ys n es (X::pd))(G:X∉es.map (·.1))(h2:∀Y∈more,Y<2^ls.length/\Can (AN ls) (Ac ys) n Y.testBit):PInv ls ys n (es++[(X,m)]) (pd++more):=by
 refine⟨?_,λe he=>?_,λY f=>?_⟩
 ·rw[ZBH,List.nodup_append];refine⟨h.nd,by simp,λa ha b g q=>?_⟩;have q:a=X:=q.trans (ZBX.mp g);exact G (q▸ha)
 ·rcases ZCB.mp he with z | z
  ·exact h.ok e z
  ·rw[ZBX.mp z];exact(h.pe X (ZBh ..)).1
 ·rcases ZCB.mp f with z | z
  ·exact h.pe Y (ZBd _ z)
  ·exact h2 Y z
theorem PInv.len(h:PInv ls ys n es pd)(z:ls.length<=16):es.length<=65536:=by
 have:=MQ (2^ls.length) (es.map (·.1)) h.nd (λx f=>by
  obtain⟨e,he,rfl⟩:=ZBN.mp f;exact h.ok e he)
 rw[ZBB]at this;have h2:2^ls.length<=2^16:=ZBL (by decide) z;have g:(2:Nat)^16=65536:=by decide
 lia
end
theorem O9{H2:Hp}(R:RkAt K C ls ys H p d)(G:RkAt K C ls ys H' p d)(f:zp d H H')(nb:H b=none)(a:∀c,c≠b->H2 c=H' c):RkAt K C ls ys H2 p d:=by
 obtain⟨dx,tl,yl,al,as,ze,h1,h2,t,w,o,_⟩:=R.at_;obtain⟨m,i,j,g,l,k,r,x,y,B,D,I,J,L⟩:=G.at_;have e:=f _ _ (B7 h1 o (by intro z;cases z)) h1;rw[r]at e;have e:=ZBQ e;injection e with _ n e2
 have g1:some (V.ref i)=some (V.ref tl):=by rw[<- lk1 (.ref i) (.ref j) (.ref g) (.ref d),e2,lk1]
 have g2:some (V.ref j)=some (V.ref yl):=by rw[<- lk2 (.ref i) (.ref j) (.ref g) (.ref d),e2,lk2]
 have g3:some (V.ref g)=some (V.ref al):=by rw[<- lk3 (.ref i) (.ref j) (.ref g) (.ref d),e2,lk3]
 cases g1;cases g2;cases g3
 have st:∀{c:Addr} {u v:HO},H c=some u->H' c=some v->H2 c=some v:=λ{c u v} n e2=>by
  rw[a c (By n nb)];exact e2
 refine⟨⟨m,tl,yl,al,l,k,st h1 r,?_,st t y,st w B,st o D,I,J,L⟩,R.l16,R.y16⟩
 have go:H tl≠none->zj K H2 tl (ls.map V.int):=λhn=>by
  have M:tl≠b:=λz=>hn (by rw[z];exact nb)
  exact II x λu e=>by rw[a _ M];exact e
 rcases h2 with (h2 | ⟨_,h2⟩) | h2
 ·exact go (by rw[h2];simp)
 ·exact go (by rw[h2];simp)
 ·exact .inr h2
theorem Pd{o:HO}(R:RkAt K C ls ys H p d)(z:RkAt K C ls ys H' p d)(f:zp d H H')(nb:H b=none):RkAt K C ls ys (upd H' b o) p d:=O9 R z f nb λc h=>AR h
theorem Qr{o:HO}(f:zp d H H')(nb:H b=none):zp d H (upd H' b o):=λc u n e=>by
 rw[AR (By e nb)];exact f c u n e
noncomputable def Nv(e:Nat×Nat):Dv:=.tup [.tup (iD (DP e.1)),.int (e.2:Nat)]
noncomputable def OD(es:List (Nat×Nat)):Dv:=.tup (es.map Nv)
def Jh(K:W.Frag)(C:Addr):Sp:=λvs H Q _=>match vs with
 | [.ref p,.int z]=>∃ls ys d S n,RkAt K C ls ys H p d/\z=(S:Nat)/\S<2^ls.length/\Can (AN ls) (Ac ys) n S.testBit /\
  ∀es v H',zf K H' (OD es) v->RkAt K C ls ys H' p d->zp d H H'->Q v H'
 | _=>False
theorem Ut:Ok_ P w base T.z49 75 (Jh K T.zA):=by
 refine T.z49.F.ok sc_z49 (λvs H Q E h=>by unfold Jh at h;walk_at "e") ?_;walk_at "f";have i1:AT (Bb K T.zA 17):=NU;have i2:AT (E5 K T.zA):=ZB;have i3:AT (Ec K):=ZT;unfold Jh at h;walk_at "g"
 rename_i p z;obtain⟨ls,ys,d,S,n,R,e1,hS,hc,q⟩:=h;subst e1;have l16:=R.l16;have y16:=R.y16;obtain⟨dx,tl,yl,al,as,ze,h1,_,_,_,e0,_⟩:=id R.at_;have h8:2^ls.length<=2^60:=ZBL (by decide) (by lia);have cd:∀U:Nat,A8 ls.length U.testBit<17:=λU=>by have:=FZ ls.length U.testBit;lia
 refine⟨_,(@AH _ _ _ _ _ (@AO _ _ 2 _ _ _ _ sc_z49.nd rfl (by right) NA (by rfl) (by symm)) (@AH _ _ _ _ _ (@AO _ _ 3 _ _ _ _ sc_z49.nd rfl (by right) (@Cs _ _ _ _ (AA (vv 1) AB)) (by rfl) (by symm)) (@AH _ _ _ _ _ (@HY _ _ _ _ _ _ PassesOwn.never (Ah Ci (AZ (BO (K:=K)) rfl T.zP (by rfl) (AA (vv 3) AB)) AE) (@AH _ _ _ _ _ (@AO _ _ 4 _ _ _ _ sc_z49.nd rfl (by right) (@Cs _ _ _ _ AB) (by rfl) (by symm)) (@AH _ _ _ _ _ (@CU _ _ _ _ _ _ _ _ PassesOwn.never rfl (Au (K:=K) (vv 3)) (AM (i:=5) sc_z49.nd rfl (by right)) (@AH _ _ _ _ _ (@AO _ _ 6 _ _ _ _ sc_z49.nd rfl (by right) (A9 (vv 0) T.zB T.z18.m (@MY P w K mg base T) (hr.mono (show 72<=_ by decide)) T.z18.b .nil AD (AA (vv 5) AB)) (by rfl) (by symm)) (@AI _ _ _ (@Av _ _ _ _ _ _ _ _ (PW.pt (Hz (Ah Ci (vv 6) AE) (IE (Ah (Na hu) (vv 5) (vv 2))))) (@AH _ _ _ _ _ (@N5 _ _ _ _ _ _ _ _ _ (IF hu) (vv 2) (vv 5) (vv 6) (by rfl)) (@AI _ _ _ (@Iv _ _ _ _ (VP (K:=K) (vv 4) (AA (DV (Ah Ci (vv 6) AE) (A9 (vv 0) T.zB T.z19.m (@Yh P w K mg base T) (hr.mono (show 74<=_ by decide)) T.z19.b .nil AD (AA (vv 5) AB)) (@Cs _ _ _ _ AB)) AB)) (by rfl)))) Aw))) (by intro _;rfl)) (@AI _ _ _ (@AO _ _ 3 _ _ _ _ sc_z49.nd rfl (by right) (vv 4) (by rfl) (by symm)))))) (@AI _ _ _ (@AK _ _ _ _ (Bi (B9 (K:=K)) rfl T.zG (by rfl) (AA (Af (N':=["each","number"]) (own:=2) (ix:=[]) rfl (SD (vv 2)) (by kernel_rfl) rfl rfl (by kernel_rfl) (λc=>Bh (K:=K) (n:=2) rfl (Ad (AM (i:=0) (show(["each","number"]:List Str).Nodup by decide +kernel) rfl (by right)) (Ad (AM (i:=1) (show(["each","number"]:List Str).Nodup by decide +kernel) rfl (by right)) BJ))) (Ba (Al AY (BQ AY Aj) (AV (by decide)) (Al AY Aj (AV (by decide)) Bf))) (λc=>Ag) (λc=>(BS (AA (AG (@Nd P w K mg base T) (hr.mono (show 4<=_ by decide)) rfl T.z46.m T.z46.F.kp T.z46.b .nil AD (AA (vv 0) AB)) (AA (vv 1) AB))))) AB))))))),?_⟩;intro x nE;dsimp only[AW];have s1:EE H (upd H x (.dK [])):=EE.upd nE;have c6:upd H x (.dK []) x=some (.dK (kvE [])):=AF;generalize upd H x (.dK [])=H1 at *;refine⟨smq rfl,λl nl=>?_⟩;dsimp only[AW];have e9:H l=none:=s1.free nl;have s2:EE H1 (upd H1 l (.lst [.int (S:Int)])):=EE.upd nl;have d3:upd H1 l (.lst [.int (S:Int)]) l=some (.lst (iL [S])):=AF;have c7:=s2 _ _ c6;have S2:=s1.trans s2;generalize upd H1 l (.lst [.int (S:Int)])=H2 at *;have P2:PInv ls ys n [] [S]:=⟨List.nodup_nil,(λe he=>by cases he),λX hX=>by rw[ZBX.mp hX];exact⟨hS,hc⟩⟩;have R2:=R.same S2;have I:∀{b:Addr},H b=none->b≠d:=λ{b} nb z=>by rw[z,e0]at nb;cases nb
 refine As (λZ H'=>∃(es:List (Nat×Nat)) (z3 z4 W z6:Option V),Z=[some (.ref p),some (.int (S:Nat)),some (.ref x),z3,z4,W,z6]/\RkAt K T.zA ls ys H' p d/\zp d H H'/\H' x=some (.dK (kvE es))/\PInv ls ys n es []) ?_ ?_ (by walk_at "sm")
 ·refine⟨λmm Z H'=>∃(es:List (Nat×Nat)) (B:List Nat) (l:Addr) (z4 W z6:Option V),mm=(65536-es.length)*2+(if B=[] then 0 else 1)/\Z=[some (.ref p),some (.int (S:Nat)),some (.ref x),some (.ref l),z4,W,z6]/\RkAt K T.zA ls ys H' p d/\zp d H H'/\H' x=some (.dK (kvE es))/\H l=none/\H' l=some (.lst (iL B))/\PInv ls ys n es B,
   ⟨_,[],[S],l,none,none,none,rfl,rfl,R2,CM S2,c7,e9,d3,P2⟩,?_⟩
  rintro mm Z H3 ⟨es,B,l,z4,W,z6,rfl,rfl,R3,f3,G,nl,a3,P3⟩;have d7:=P3.len l16;refine⟨B.length,.inl ⟨_,.of a3,by rw[Ai]⟩,?_⟩;refine Aa (λe=>?_) (λe=>?_);rotate_left
  ·have hz:B=[]:=by
    have:¬(0:Int)<(B.length:Int):=λz=>e (ZBK z)
    exact List.eq_nil_of_length_eq_zero (by lia)
   subst hz;exact⟨es,_,_,_,_,rfl,R3,f3,G,P3⟩
  have c1:B≠[]:=λz=>by
   have:(0:Int)<(B.length:Int):=ZBY e
   rw[z]at this;simp at this
  refine⟨ZBT _,λb nb=>?_⟩;dsimp only[AW];obtain⟨_,_,_,_,_,_,_,_,_,_,e4,_⟩:=id R3.at_;have O:H b=none:=PM f3 e4 nb;have s4:EE H3 (upd H3 b (.lst [])):=EE.upd nb;have d1:upd H3 b (.lst []) b=some (.lst (iL [])):=AF;have d9:b≠l:=λz=>by rw[z,a3]at nb;cases nb
  have c0:b≠x:=λz=>by rw[z,G]at nb;cases nb
  have e6:l≠x:=B7 a3 G (by intro z;cases z);have R4:=R3.same s4;have f4:zp d H (upd H3 b (.lst [])):=f3.trans (CM s4);have c8:=s4 _ _ G;have b6:=s4 _ _ a3;generalize upd H3 b (.lst [])=H4 at *;refine As (λZ H'=>∃(f:List (Nat×Nat)) (y:List Nat) (W z6:Option V),Z=[some (.ref p),some (.int (S:Nat)),some (.ref x),some (.ref l),some (.ref b),W,z6]/\RkAt K T.zA ls ys H' p d/\zp d H H'/\H' x=some (.dK (kvE f))/\H' b=some (.lst (iL y))/\PInv ls ys n f y/\es.length<=f.length/\(y≠[]->es.length<f.length)) ?_ ?_ (by walk_at "sm");rotate_left
  ·rintro Z H5 ⟨f,y,c2,c3,rfl,R5,f5,M,N,J,h5,h6⟩;have h9:=J.len l16;refine⟨_,?_,f,y,b,_,_,_,rfl,rfl,R5,f5,M,O,N,J⟩;rw[if_neg c1]
   by_cases zb:y=[]
   ·rw[if_pos zb];lia
   ·rw[if_neg zb];have:=h6 zb;lia
  refine .inl ⟨⟨_,.inl (.of b6)⟩,?_⟩
  refine YX (xs:=iL B) (λk Z H'=>∃(f:List (Nat×Nat)) (y:List Nat) (W z6:Option V),Z=[some (.ref p),some (.int (S:Nat)),some (.ref x),some (.ref l),some (.ref b),W,z6]/\RkAt K T.zA ls ys H' p d/\zp d H H'/\H' x=some (.dK (kvE f))/\H' l=some (.lst (iL B))/\H' b=some (.lst (iL y))/\PInv ls ys n f (B.drop k++y)/\es.length<=f.length/\(y≠[]->es.length<f.length)/\y.length<=16*f.length)
   ⟨es,[],_,_,rfl,R4,f4,c8,b6,d1,by rw[List.drop_zero,ZBs];exact P3,ZBD _,λz=>absurd rfl z,ZBT _⟩ (λk Z H' _ ⟨_,_,_,_,_,_,_,_,g,_⟩=>.inl (.of g)) ?_ ?_
  rotate_left
  ·rintro Z H5 ⟨f,y,c2,c3,rfl,R5,f5,M,_,N,J,h5,h6,_⟩;rw[Ai,List.drop_length,List.nil_append]at J;exact⟨f,y,_,_,rfl,R5,f5,M,N,J,h5,h6⟩
  rintro k xv Z H5 e8 ⟨f,y,c2,c3,rfl,R5,f5,M,d4,N,J,h5,h6,h7⟩;obtain⟨X,hX,_,rfl⟩:=DB e8;have hk:=(ZBW.mp hX).1
  have ed:B.drop k++y=X::(B.drop (k+1)++y):=by
   rw[ZDQ hk,(ZBW.mp hX).2];rfl
  rw[ed]at J;obtain⟨b3,b4⟩:=J.pe X (ZBh ..);obtain⟨c4,i4,i6,g8,h3,g4,k1,_,_,_,k5,_⟩:=id R5.at_;dsimp only[AW];refine⟨p,c4,_,rfl,k1,ln1 _ _ _ _,ls,ys,d,X,R5,rfl,b3,⟨n,b4⟩,cd X,λm H6 hm R6 L=>?_⟩;dsimp only[AW];have em:=Dy hm;have f6:zp d H H6:=f5.trans L;have a0:=L _ _ (I nE) M;have b2:=L _ _ (I nl) d4;have b0:=L _ _ (I O) N;clear k1 k5 L;refine Aa (λe1=>?_) (λe1=>?_);rotate_left
  ·have m0:m=0:=by
    have:¬(0:Int)<(m:Int):=λz=>e1 (ZBK z)
    lia
   exact⟨f,y,_,_,rfl,R6,f6,a0,b2,b0,J.skip,h5,h6,h7⟩
  have m0:0<m:=by
   have:(0:Int)<(m:Int):=ZBY e1
   lia
  have C:=Pn f X;refine⟨valV (kvE f) (Sum.inl (X:Int):Key),DGet.k (k:=Sum.inl (X:Int)) a0,?_⟩;cases e2:valV (kvE f) (Sum.inl (X:Int):Key) with
  | some v =>
   rw[e2]at C;exact⟨f,y,_,_,rfl,R6,f6,a0,b2,b0,J.skip,h5,h6,h7⟩
  | none =>
   rw[e2]at C;have a4:X∉f.map (·.1):=of_decide_eq_false C.symm;have i0:=J.len l16;refine⟨x,_,rfl,DPut.k (k:=Sum.inl (X:Int)) a0 (by unfold kvE;rw[ZBB,sizeLine_eq];lia),?_⟩;rw[X3 a4];have R7:=Pd R R6 f6 nE (o:=.dK (kvE (f++[(X,m)])));have f7:=Qr f6 nE (o:=.dK (kvE (f++[(X,m)])));have c9:upd H6 x (.dK (kvE (f++[(X,m)]))) x=some (.dK (kvE (f++[(X,m)]))):=AF;have d5:upd H6 x (.dK (kvE (f++[(X,m)]))) l=_:=(AR e6).trans b2;have b1:upd H6 x (.dK (kvE (f++[(X,m)]))) b=_:=(AR c0).trans b0;generalize upd H6 x (.dK (kvE (f++[(X,m)])))=H7 at *;have g7:(f++[(X,m)]).length=f.length+1:=by rw[ZBS];rfl
   refine⟨.inl ⟨rfl,_,.of b1⟩,?_⟩
   have fin:∀(Xs:List Nat) (l2:Addr) (H8:Hp),Xs.length<=16->(∀Y∈Xs,Y<2^ls.length/\Can (AN ls) (Ac ys) n Y.testBit)->RkAt K T.zA ls ys H8 p d->zp d H7 H8->H7 l2=none->H8 l2=some (.lst (iL Xs)) ->
    FU K (.ref b) [.ref l2] H8 λ_ H9=>∃(f:List (Nat×Nat)) (y:List Nat) (W z6:Option V),[some (V.ref p),some (.int (S:Nat)),some (.ref x),some (.ref l),some (.ref b),some (.int (X:Nat)),some (.int (m:Nat))]=[some (.ref p),some (.int (S:Nat)),some (.ref x),some (.ref l),some (.ref b),W,z6]/\RkAt K T.zA ls ys H9 p d/\zp d H H9/\H9 x=some (.dK (kvE f))/\H9 l=some (.lst (iL B))/\H9 b=some (.lst (iL y))/\PInv ls ys n f (B.drop (k+1)++y)/\es.length<=f.length/\(y≠[]->es.length<f.length)/\y.length<=16*f.length:=by
    intro Xs l2 H8 e5 e7 R8 D n2 g2;have f8:zp d H H8:=f7.trans D;have d0:=D _ _ (I nE) c9;have d6:=D _ _ (I nl) d5;have d2:=D _ _ (I O) b1;refine⟨iL y,iL Xs,d2,.of g2,(λz=>by rw[z,b1]at n2;cases n2),by rw[Ai,Ai];lia,f++[(X,m)],y++Xs,_,_,rfl,Pd R R8 f8 O,Qr f8 O,?_,?_,?_,?_,by lia,λ_=>by lia,by rw[ZBS];lia⟩
    ·rw[AR (Ne.symm c0)];exact d0
    ·rw[AR (Ne.symm d9)];exact d6
    ·rw[AF,CK]
    ·rw[<- ZCj];exact J.enter a4 e7
   refine Aa (λe3=>?_) (λe3=>?_)
   ·have m1:1<m:=by
     have:(1:Int)<(m:Int):=ZBY e3
     lia
    obtain⟨c5,i5,i7,g9,h4,g5,k1,_⟩:=id R7.at_;refine⟨p,c5,_,rfl,k1,lnA _ _ _ _,ls,ys,d,X,R7,rfl,b3,⟨n,b4⟩,λXs l2 H8 e5 d8 R8 D n2 g2=>?_⟩;refine fin Xs l2 H8 (by lia) (λY hY=>?_) R8 D n2 g2;obtain⟨j,hj,ej⟩:=ZCD hY;have hh:=d8 j Y (by rw[ZBE hj,ej]);exact⟨Za hh b3,Xf hh b4⟩
   ·have m1:¬1<m:=λz=>e3 (ZBK (by lia))
    refine⟨ZBT _,λl2 n2=>?_⟩;have s8:EE H7 (upd H7 l2 (.lst [])):=EE.upd n2;exact fin [] l2 _ (ZBT _) (λY hY=>by cases hY) (R7.same s8) (CM s8) n2 AF
 rintro Z H3 ⟨es,z3,z4,W,z6,rfl,R3,f3,G,P3⟩;have d7:=P3.len l16;refine .inl ⟨kvE es,G,λo=>?_⟩;have a1:upd H3 x (.frz o (.dK (kvE es))) x=some (.frz o (.dK (kvE es))):=AF;have a2:∀b,b≠x->upd H3 x (.frz o (.dK (kvE es))) b=H3 b:=λb hb=>AR hb
 generalize upd H3 x (.frz o (.dK (kvE es)))=H4 at *;have f4:zp d H H4:=λc u n e=>by rw[a2 c (By e nE)];exact f3 c u n e
 have R4:=O9 R R3 f3 nE a2
 refine Se (ze:=kvE es) (λj zs H'=>EE H4 H'/\za K H' ((es.take j).map Nv) zs) ⟨EE.refl _,Ab⟩ (λj zs H' _ ⟨s5,_⟩=>s5 _ _ a1) (λj zs H' hj ⟨_,r⟩=>by
  unfold kvE at hj;rw[ZBB]at hj;rw[<- r.length,ZBB,ZBi,sizeLine_eq];lia) ?_ ?_
 ·rintro j r pp zs H5 b5 ⟨s5,r5⟩ g0;unfold kvE at b5;rw[ZBJ]at b5;obtain⟨e,he,rfl⟩:=ZDR.mp b5;have hb:=P3.ok e (ZB3 he);refine⟨pp,_,rfl,.of AF,rfl,_,_,rfl,_,_,rfl,rfl,?_⟩;refine⟨e.1,rfl,by lia,λt H6 nt s6 g6=>⟨smq rfl,λt2 n2=>?_⟩⟩;have s7:EE H6 (upd H6 t2 (.tup [.ref t,.int (e.2:Nat)])):=EE.upd n2;have s0:=EE.upd (o:=.tup [kV (Sum.inl (e.1:Int):Key),V.int (e.2:Int)]) g0;have S7:=s0.trans (s6.trans s7);refine⟨s5.trans S7,?_⟩;rw[ZBl,he,ZBH];exact za.append (za.same S7 _ _ r5) (AU (DD (.of AF) (AU (DD (.of (s7 _ _ g6)) (Ke _)) (AU (by unfold zf;rfl) Ab))) Ab)
 ·rintro zs H5 ⟨s5,r5⟩ l2 f9;have s6:EE H5 (upd H5 l2 (.lst zs)):=EE.upd f9;refine⟨_,.inl ⟨.of AF,λt nt=>?_⟩⟩;have S7:=s6.trans (EE.upd (o:=.tup zs) nt);rw[show(kvE es).length=es.length by unfold kvE;rw[ZBB],ZCJ]at r5;exact q es _ _ (DD (.of AF) (za.same S7 _ _ r5)) (R4.same (s5.trans S7)) (f4.trans (CM (s5.trans S7)))
def IT(K:W.Frag):Sp:=λvs H Q _=>match vs with
 | [v]=>∃ls rs,zf K H (gmD ls rs) v/\Gm ls rs/\DF ls rs/\∀H',EE H H'->Q .non H'
 | _=>False
theorem Tm:Ok_ P w base T.z26 2 (IT K):=by
 refine T.z26.F.ok sc_z26 (λvs H Q E h=>by unfold IT at h;walk_at "e") ?_;walk_at "f";unfold IT at h;walk_at "g"
 rename_i v;obtain⟨ls,rs,f,G,he,q⟩:=h;refine⟨_,(@AH _ _ _ _ _ (@AO _ _ 1 _ _ _ _ sc_z26.nd rfl (by right) (AG (@Xo P w K mg base T) (hr.mono (show 1<=_ by decide)) rfl T.z33.m T.z33.F.kp T.z33.b .nil AD (AA (vv 0) AB)) (by rfl) (by symm)) (@AI _ _ _ (@Av _ _ _ _ _ _ _ _ (Ah Zu (vv 1) Jt) (@AI _ _ _ Oj) Aw))),?_⟩;exact⟨ls,rs,f,G,λH1 s1 _=>q H1 s1,λi j t H1 hf _ _ _=>absurd hf.1 (he i j)⟩
theorem Ln(he:DF ls rs):∀X,X<2^ls.length->Can (AN ls) (Ac (rs.map BW)) ls.length X.testBit:=λX f=>by
 rw[Ni];exact bB (TL he) _ _ (λk g=>Ff f g) (by have:=FZ ls.length X.testBit;lia)
abbrev En(Pt:Addr)(H:Hp):Prop:=zx Pt F9 Cg H
def Ef(K:W.Frag)(Pt:Addr):Sp:=λvs H Q _=>match vs with
 | [v]=>∃ls rs,zf K H (gmD ls rs) v/\Gm ls rs/\DF ls rs/\En Pt H /\
  ∀t es u H',HF ls (rs.map BW) t (2^ls.length-1)->zf K H' (.tup [.int (Br ls (rs.map BW) (2^ls.length-1):Nat),t.dv,OD es]) u->zu Pt H H'->En Pt H'->Q u H'
 | _=>False
theorem VJ:AT (Ef K Pt):=λvs H Q f E h q=>by
 unfold Ef at *;walk_at "q"
theorem ZU(B:BMn mg base):Ok_ P w base T.z79 96 (Ef K T.zT):=by
 refine T.z79.F.ok sc_z79 (λvs H Q E h=>by unfold Ef at h;walk_at "e") ?_;walk_at "f";have k:=hr.mono (show 4<=_ by decide);have f:=hr.mono (show 4+1<=_ by decide);unfold Ef at h;walk_at "g"
 rename_i v;obtain⟨ls,rs,W,G,he,hL,q⟩:=h;have l1:=G.l1;have l16:=G.l16;have cd:∀U:Nat,A8 ls.length U.testBit<17:=λU=>by have:=FZ ls.length U.testBit;lia
 have b0:=ZBn ls.length;have b1:2^1<=2^ls.length:=ZBL (by decide) l1;have j:2^ls.length-1<2^ls.length:=by lia
 have C:=Ln he _ j;refine⟨_,(@AH _ _ _ _ _ (@Iv _ _ _ _ (AG (@Tm P w K mg base T) (hr.mono (show 2<=_ by decide)) rfl T.z26.m T.z26.F.kp T.z26.b .nil AD (AA (vv 0) AB)) (by rfl)) (@AH _ _ _ _ _ (@AO _ _ 1 _ _ _ _ sc_z79.nd rfl (by right) (a7 T.zQ (@Zv P w K mg base T) f rfl T.Z0a T.z29.b .nil AD (AA (vv 0) AB)) (by rfl) (by symm)) (@AH _ _ _ _ _ (@AO _ _ 2 _ _ _ _ sc_z79.nd rfl (by right) (bf (vv 1) T.zB T.z21.m (@ZL P w K mg base T) (hr.mono (show 3<=_ by decide)) T.z21.b .nil AD) (by rfl) (by symm)) (@AI _ _ _ (@AK _ _ _ _ (BS (AA (A9 (vv 1) T.zB T.z18.m (@MY P w K mg base T) (hr.mono (show 72<=_ by decide)) T.z18.b .nil AD (AA (vv 2) AB)) (AA (AG (@S3 P w K mg base T B) (hr.mono (show 95<=_ by decide)) rfl T.z54.m T.z54.F.kp T.z54.b .nil AD (AA (vv 1) (AA (vv 2) AB))) (AA (AG (@Ut P w K mg base T) (hr.mono (show 75<=_ by decide)) rfl T.z49.m T.z49.F.kp T.z49.b .nil AD (AA (vv 1) (AA (vv 2) AB))) AB))))))))),?_⟩;refine⟨ls,rs,W,G,he,λH0 s0=>?_⟩;intro x dx X I zw
 have s1:EE H0 (upd (upd H0 dx (.own x)) x (.ins T.zA dx [])):=(EE.upd (o:=.own x) I).trans (λb o e=>by
  have:b≠x:=λz=>by
   rw[z,AR (Ne.symm zw),X]at e;cases e
  rw[AR this];exact e)
 have J:upd (upd H0 dx (.own x)) x (.ins T.zA dx []) x=some (.ins T.zA dx []):=AF;generalize upd (upd H0 dx (.own x)) x (.ins T.zA dx [])=H1 at *;have r:=s0.trans s1;refine⟨ls,rs,dx,J,W.same r,G,λd H2 hd R f2=>⟨rfl,?_⟩⟩;dsimp only[AW];have D:H d=none:=r.free hd;have L:H x=none:=s0.free X;have s2:EE H H2:=λb o e=>f2 b o (By e L) (r _ _ e)
 have p:=hL.same s2;generalize b2:rs.map BW=ys at *;obtain⟨i,b3,b4,a0,a3,Z,Y,_,_,_,k5,_⟩:=id R.at_;refine⟨x,i,_,rfl,Y,lnB _ _ _ _,ls,ys,d,R,?_⟩;dsimp only[AW];generalize a4:2^ls.length-1=S at *;have h0:S≠0:=by lia
 refine⟨x,i,_,rfl,Y,ln1 _ _ _ _,ls,ys,d,S,R,rfl,j,⟨_,C⟩,cd S,λm H3 hm R3 V=>?_⟩;have L3:=Kl p V k5 (.inr (.inl ⟨_,rfl⟩));refine⟨ls,ys,d,S,R3,rfl,j,h0,⟨_,C⟩,cd S,L3,λt vt H4 bt rp N f4 L4=>?_⟩;obtain⟨_,_,_,_,_,_,_,_,_,_,O,_⟩:=id N.at_;refine⟨ls,ys,d,S,_,N,rfl,j,C,λes ve n r5 R5 y=>⟨smq rfl,λu nu=>?_⟩⟩;have L5:=Kl L4 y O (.inr (.inl ⟨_,rfl⟩));have l:EE n (upd n u (.tup [.int (m:Nat),vt,ve])):=EE.upd nu;have M:zf K n t.dv vt:=zf.mv (λa xs h=>Ek y O Ll h) _ _ t.tups rp;rw[Dy hm]at q;refine q t es _ _ bt (DD (.of AF) (AU (by unfold zf;rfl) (AU (zf.same l _ _ M) (AU (zf.same l _ _ r5) Ab)))) (λb o hb e=>?_) (L5.same l);have g:b≠d:=By e D;exact l _ _ (y _ _ g (f4 _ _ (by simp[g,hb]) (V _ _ g (s2 _ _ e))))
theorem P9(bs:List Bool)(m:Nat):Lu bs m=gmD (bs.map λb=>if b then 1 else 0) ((List.range m).map (CY m)):=by
 unfold Lu gmD MX DS GI;rw[ZBg,ZBg];rfl
noncomputable def Be(bs:List Bool):List Int:=bs.map λb=>if b then 1 else 0
noncomputable def Ce(m:Nat):List (List Bool):=(List.range m).map (CY m)
theorem EM(bs:List Bool):(Be bs).length=bs.length:=ZBB ..
theorem Nm(m:Nat):(Ce m).length=m:=by unfold Ce;rw[ZBB,ZBc]
theorem N8{p:Nat}(h:p<bs.length):AN (Be bs) p=if gB bs p=true then 1 else 0:=by
 show(List.map _ bs).getD p 0=if bs.getD p false=true then 1 else 0
 rw[ZBO,ZBO,ZBJ,ZBE h];rfl
theorem OE{p q:Nat}(z:p<bs.length)(G:q<bs.length):AN (Be bs) p=AN (Be bs) q ↔ gB bs p=gB bs q:=by
 rw[N8 z,N8 G];cases gB bs p <;> cases gB bs q <;> simp
theorem IA{p:Nat}(z:p<2^m):gB (CY m i) p=p.testBit i:=by
 show(List.map _ (List.range (2^m))).getD p false=_
 rw[ZBO,ZBJ,ZBx z,ZDZ]
 show(p / 2^i%2==1)=decide (p / 2^i%2=1)
 rfl
theorem RS(h:bs.length=2^m)(z:1<=m)(G:m<=4):Gm (Be bs) (Ce m):=by
 have f:2^m<=16:=ZBL (n:=2) (j:=4) (by decide) G;have h2:2<=2^m:=ZBL (n:=2) (i:=1) (by decide) z;refine⟨by rw[EM];lia,by rw[EM];lia,by rw[Nm];lia,by rw[Nm];lia,λr hr=>?_,λx g=>?_⟩
 ·obtain⟨i,_,rfl⟩:=ZBN.mp hr;rw[Vm,EM,h]
 ·obtain⟨b,_,rfl⟩:=ZBN.mp g;cases b <;> decide
theorem VR{y:Nat->Bool}(h:y∈(Ce m).map gB):∃i,i<m/\∀p,p<2^m->y p=p.testBit i:=by
 obtain⟨r,hr,rfl⟩:=ZBN.mp h;obtain⟨i,hi,rfl⟩:=ZBN.mp hr;exact⟨i,ZBV.mp hi,λp f=>IA f⟩
theorem Z2(h:i<m):gB (CY m i)∈(Ce m).map gB:=ZBN.mpr ⟨_,ZBN.mpr ⟨i,ZBV.mpr h,rfl⟩,rfl⟩
theorem Gs{p q:Nat}(G:p<2^m)(O:q<2^m)(h:∀i,i<m->p.testBit i=q.testBit i):p=q:=by
 apply ZCm;intro i
 by_cases z:i<m
 ·exact h i z
 ·have hi:2^m<=2^i:=ZBL (by decide) (by lia);rw[ZCl (by lia),ZCl (by lia)]
theorem GZ(h:bs.length=2^m):DF (Be bs) (Ce m):=λi j ⟨h1,h2,f,g⟩=>f (by
 rw[EM,h]at h2
 rw[Gs (m:=m) (p:=i) (q:=j) (by lia) h2 λk l=>by
  have:=List.map_inj_left.mp g (CY m k) (ZBN.mpr ⟨k,ZBV.mpr l,rfl⟩)
  rw[IA (by lia),IA h2]at this;exact this])
theorem Qq{c d:Nat->Nat}(G:∀x,x<N->c x<N)(hd:∀x,x<N->d x<N)(h1:∀x,x<N->d (c x)=x)(h2:∀x,x<N->c (d x)=x)(h:Nat->Int):sumTo (λx=>h (c x)) N=sumTo h N:=by
 have i:sumTo (λx=>h (c x)) N=sumTo (λx=>sumTo (λy=>if c x=y then h y else 0) N) N:=Ae λx f=>by rw[Et,if_pos (G x f)]
 rw[i,GE];refine Ae λy g=>?_
 have e2:sumTo (λx=>if c x=y then h y else 0) N=sumTo (λx=>if d y=x then h y else 0) N:=Ae λx f=>by
  by_cases z:c x=y
  ·rw[if_pos z,if_pos (by rw[<- z,h1 x f])]
  ·rw[if_neg z,if_neg λw=>z (by rw[<- w,h2 y g])]
 rw[e2,Et (λ_=>h y),if_pos (hd y g)]
structure Pm(m:Nat)(t s:Nat->Nat):Prop where
 tl:∀j,j<m->t j<m
 sl:∀j,j<m->s j<m
 ts:∀j,j<m->t (s j)=j
 st:∀j,j<m->s (t j)=j
noncomputable def rn(m:Nat)(t:Nat->Nat)(x:Nat):Nat:=Bu (λj=>if x.testBit (t j)=true then 1 else 0) m
section
variable {m r x y:Nat}{t s:Nat->Nat}
theorem Pm.inv(h:Pm m t s):Pm m s t:=⟨h.sl,h.tl,h.st,h.ts⟩
theorem Ao(m:Nat)(t:Nat->Nat)(x:Nat):rn m t x<2^m:=IB _ _
theorem Bv(m:Nat)(t:Nat->Nat)(x j:Nat):(rn m t x).testBit j=(decide (j<m)&&x.testBit (t j)):=by
 unfold rn;rw[Fh];cases x.testBit (t j) <;> simp
theorem Bt(h:Pm m t s)(z:x<2^m):rn m s (rn m t x)=x:=Gs (Ao ..) z λj f=>by
 rw[Bv,Bv,ZBK f,ZBK (h.sl j f),h.ts j f];rfl
theorem Pf(h:Pm m t s):rn m t (x &&& y)=rn m t x &&& rn m t y:=ZCm λj=>by
 rw[ZCA,Bv,Bv,Bv,ZCA];cases decide (j<m) <;> rfl
theorem RA(h:Pm m t s):rn m t (x ^^^ y)=rn m t x ^^^ rn m t y:=ZCm λj=>by
 rw[ZCr,Bv,Bv,Bv,ZCr];cases decide (j<m) <;> simp
theorem E7(h:Pm m t s):manyF m (rn m t x)=manyF m x:=by
 have e:∀x,((manyF m x:Nat):Int)=sumTo (λi=>if x.testBit i=true then 1 else 0) m:=λx=>by
  rw[PH];refine Ae λi hi=>?_
  by_cases z:x.testBit i=true
  ·rw[if_pos z,if_pos ((De m i x hi).mpr z)]
  ·rw[if_neg z,if_neg λw=>z ((De m i x hi).mp w)]
 have e2:((manyF m (rn m t x):Nat):Int)=(manyF m x:Nat):=by
  rw[e,e,<- Qq h.tl h.sl h.st h.ts (λi=>if x.testBit i=true then 1 else 0)];refine Ae λi hi=>?_
  rw[Bv,ZBK hi];rfl
 lia
theorem P7(h:Pm m t s):chi m (rn m t x) (rn m t y)=chi m x y:=by rw[E3,E3,<- Pf h,E7 h]
theorem Hq(h:Pm m t s)(f:Nat->Int):sumTo (λx=>f (rn m t x)) (2^m)=sumTo f (2^m):=Qq (λx _=>Ao ..) (λx _=>Ao ..) (λx g=>Bt h g) (λx g=>Bt h.inv g) f
theorem DR(z:x<2^m)(G:y<2^m):x ^^^ y<2^m:=Nat.xor_lt_two_pow z G
theorem GT(x y:Nat):x ^^^ y ^^^ y=x:=by rw[Nat.xor_assoc,Nat.xor_self,Nat.xor_zero]
def Tw(m:Nat)(t s:Nat->Nat)(r:Nat)(o:Bool)(f g:List Bool):Prop:=∀p,p<2^m->gB g (rn m t p ^^^ r)=(gB f p ^^ o)
variable {o:Bool}{f g:List Bool}
theorem Tw.inv(h:Pm m t s)(hr:r<2^m)(w:Tw m t s r o f g):Tw m s t (rn m s r) o g f:=λq i=>by
 have:=w (rn m s q ^^^ rn m s r) (DR (Ao ..) (Ao ..))
 rw[RA h,Bt h.inv i,Bt h.inv hr,GT]at this;rw[this];cases gB f (rn m s q ^^^ rn m s r) <;> cases o <;> rfl
theorem Tw.val(w:Tw m t s r o f g){p:Nat}(z:p<2^m):AC g (rn m t p ^^^ r)=Cn o*AC f p:=by
 have:=w p z
 show Cn (gB g _)=_*Cn (gB f p);rw[this];cases gB f p <;> cases o <;> rfl
theorem M7(h:Pm m t s)(hr:r<2^m)(f:Nat->Int):sumTo (λp=>f (rn m t p ^^^ r)) (2^m)=sumTo f (2^m):=by
 rw[Hq h (λq=>f (q ^^^ r))];exact LD m f r hr
theorem bc(h:Pm m t s)(hr:r<2^m)(w:Tw m t s r o f g)(S:Nat):wt m (AC g) (rn m t S)=Cn o*chi m (rn m t S) r*wt m (AC f) S:=by
 unfold wt;rw[<- M7 h hr (λp=>chi m (rn m t S) p*AC g p),Ch];refine Ae λp i=>?_
 rw[w.val i,Fc,P7 h];simp only[Int.mul_assoc,Int.mul_left_comm,Int.mul_comm]
theorem EU(h:Pm m t s)(hr:r<2^m)(w:Tw m t s r o f g)(S:Nat):wt m (AC g) (rn m t S)*wt m (AC g) (rn m t S)=wt m (AC f) S*wt m (AC f) S/\(wt m (AC g) (rn m t S)).natAbs=(wt m (AC f) S).natAbs:=by
 rw[bc h hr w];generalize wt m (AC f) S=a
 rcases chi_one m (rn m t S) r with z | z <;> rw[z] <;> cases o <;> simp[Cn,Int.neg_mul_neg]
theorem Xv(h:Pm m t s)(hr:r<2^m)(w:Tw m t s r o f g)(j:Nat):lvF m (wt m (AC g)) (2^m) j=lvF m (wt m (AC f)) (2^m) j:=by
 unfold lvF;rw[<- Hq h];refine Ae λS _=>?_
 rw[E7 h,(EU h hr w S).1]
theorem Rt(h:Pm m t s)(hr:r<2^m)(w:Tw m t s r o f g):Ct m (wt m (AC g))=Ct m (wt m (AC f)):=by
 unfold Ct;rw[<- Hq h];refine Ae λS _=>?_
 rw[E7 h,Int.mul_assoc,(EU h hr w S).1,Int.mul_assoc]
theorem U2(h:Pm m t s)(hr:r<2^m)(w:Tw m t s r o f g)(S:Nat):Bl m (wt m (AC g)) (rn m t S)=Bl m (wt m (AC f)) S:=by
 unfold Bl;rw[<- Hq h];refine Ae λS' _=>?_
 rw[P7 h,(EU h hr w S').1]
theorem Rm(h:Pm m t s)(hr:r<2^m)(w:Tw m t s r o f g):orL 0 (AL (wt m (AC g)) (2^m))=rn m t (orL 0 (AL (wt m (AC f)) (2^m))):=by
 have lt:∀f,orL 0 (AL (wt m (AC f)) (2^m))<2^m:=λf=>OI _ _ (ZBn m) λq l=>(CV l).1
 have bit:∀f j,(orL 0 (AL (wt m (AC f)) (2^m))).testBit j=true ↔ ∃S,S<2^m/\wt m (AC f) S≠0/\S.testBit j=true:=λf j=>by
  rw[Me,Nat.zero_testBit,Bool.false_or,ZCY];constructor
  ·rintro⟨q,l,e⟩;obtain⟨h1,h2,i⟩:=CV l;exact⟨q.1,h1,h2▸i,e⟩
  ·rintro⟨S,h1,h2,i⟩;exact⟨_,Fq h1 h2,i⟩
 refine Gs (lt g) (Ao ..) λj k=>?_
 rw[Bv,ZBK k,ZCc,ZBv,bit,bit]
 have n:∀S,wt m (AC g) (rn m t S)≠0 ↔ wt m (AC f) S≠0:=λS=>by
  have:=(EU h hr w S).2
  lia
 constructor
 ·rintro⟨S,h1,h2,i⟩;refine⟨rn m s S,Ao ..,(n _).mp (by rw[Bt h.inv h1];exact h2),?_⟩;rw[Bv,ZBK (h.tl j k),h.st j k,i];rfl
 ·rintro⟨S,h1,h2,i⟩;refine⟨rn m t S,Ao ..,(n S).mpr h2,?_⟩;rw[Bv,ZBK k,i];rfl
end
theorem OB{f:Nat->Int}:∀rs:List Nat,(∀r∈rs,f r<=g r)->(rs.map f).sum<=(rs.map g).sum
 | [],_=>Int.le_refl _
 | r::rs,h=>by
  rw[ZBU,ZCE,ZBU,ZCE];have h1:=h r ZBh;have h2:=OB rs λx i=>h x (ZBd _ i)
  lia
theorem ZK(z:o<2^m)(h:Nat->Bool):distO m bs o<=(BR ((List.range (2^m)).map λp=>h (p &&& o)) bs (2^m)).length:=by
 obtain⟨rs,R⟩:=Ms o (2^m);have h1:=JX (bs:=bs) z R;have h2:=Eu ((List.range (2^m)).map λp=>h (p &&& o)) bs (2^m)
 have i:sumTo (λp=>AC ((List.range (2^m)).map λp=>h (p &&& o)) p*AC bs p) (2^m)=sumTo (λp=>(if h (p &&& o)=true then -1 else 1)*AC bs p) (2^m):=Ae λp j=>by
  have e:AC ((List.range (2^m)).map λp=>h (p &&& o)) p=if gB ((List.range (2^m)).map λp=>h (p &&& o)) p=true then -1 else 1:=rfl
  have e2:gB ((List.range (2^m)).map λp=>h (p &&& o)) p=h (p &&& o):=by
   unfold gB;simp[ZBO,j]
  rw[e,e2]
 rw[i,<- Ky (v:=AC bs) (g:=λr=>if h r=true then -1 else 1) R.nd R.has]at h2
 have k:=OB (f:=λr=>(if h r=true then -1 else 1)*BC (AC bs) o (2^m) r) (g:=λr=>(((BC (AC bs) o (2^m) r).natAbs:Nat):Int)) rs λr _=>by
  show(if h r=true then -1 else 1)*BC (AC bs) o (2^m) r<=_
  split <;> lia
 lia
theorem PN{s:Nat}(h1:s<2^m)(h2:manyF m s=k):s∈Am m k (2^m):=by
 unfold Am;exact ZBp.mpr ⟨ZBV.mpr h1,ZBK h2⟩
theorem O7(N k:Nat):(2^N-1).testBit k=decide (k<N):=Nat.testBit_two_pow_sub_one ..
theorem Qa(N:Nat):2^N-1<2^N:=by have:=ZBn N;lia
theorem EA{L L':Nat->Int}{Y Y':List (Nat->Bool)}{f:Nat->Nat}(z:∀i j,i<N->j<N->L (f i)=L (f j)->L' i=L' j)(G:∀y∈Y,(∃O∈Y',∃b:Bool,∀i,i<N->O i=(y (f i) ^^ b))\/∃b:Bool,∀i,i<N->y (f i)=b):∀(n:Nat) (S S':Nat->Bool),(∀i,S' i=true->i<N/\S (f i)=true)->Can L Y n S->Can L' Y' n S'
 | 0,S,S',h,o=>λi j a b=>z i j (h i a).1 (h j b).1 (o _ _ (h i a).2 (h j b).2)
 | n+1,S,S',h,.inl o=>.inl λi j a b=>z i j (h i a).1 (h j b).1 (o _ _ (h i a).2 (h j b).2)
 | n+1,S,S',h,.inr ⟨y,m,k,l⟩=>by
  rcases G y m with ⟨O,g,b,e⟩ | ⟨b,e⟩
  ·cases b with
   | false =>
    refine .inr ⟨O,g,EA z G n _ _ (λi hi=>?_) k,EA z G n _ _ (λi hi=>?_) l⟩
    ·rw[ZBb]at hi;obtain⟨h1,h2⟩:=h i hi.1;rw[e i h1,Bool.xor_false]at hi;exact⟨h1,by rw[h2,hi.2];rfl⟩
    ·rw[ZBb]at hi;obtain⟨h1,h2⟩:=h i hi.1;rw[e i h1,Bool.xor_false]at hi;exact⟨h1,by rw[h2,hi.2];rfl⟩
   | true =>
    refine .inr ⟨O,g,EA z G n _ _ (λi hi=>?_) l,EA z G n _ _ (λi hi=>?_) k⟩
    ·rw[ZBb]at hi;obtain⟨h1,h2⟩:=h i hi.1;rw[e i h1,Bool.xor_true]at hi;exact⟨h1,by rw[h2,hi.2];rfl⟩
    ·rw[ZBb]at hi;obtain⟨h1,h2⟩:=h i hi.1;rw[e i h1,Bool.xor_true,Bool.not_not]at hi;exact⟨h1,by rw[h2,hi.2];rfl⟩
  ·cases b with
   | true=>exact GB (EA z G n _ _ (λi hi=>⟨(h i hi).1,by rw[(h i hi).2,e i (h i hi).1];rfl⟩) k)
   | false=>exact GB (EA z G n _ _ (λi hi=>⟨(h i hi).1,by rw[(h i hi).2,e i (h i hi).1];rfl⟩) l)
theorem YR{z:List Int}{G:List (List Bool)}(he:DF ls rs)(O:DF z G)(h1:∀n,Can (AN ls) (rs.map gB) n (2^ls.length-1).testBit->Can (AN z) (G.map gB) n (2^z.length-1).testBit)(h2:∀n,Can (AN z) (G.map gB) n (2^z.length-1).testBit->Can (AN ls) (rs.map gB) n (2^ls.length-1).testBit):Br z (G.map BW) (2^z.length-1)=Br ls (rs.map BW) (2^ls.length-1):=by
 have a:=NO (Ln he _ (Qa _));have b:=NO (Ln O _ (Qa _));rw[Ni]at a b;exact Nat.le_antisymm (b.2 _ (h1 _ a.1)) (a.2 _ (h2 _ b.1))
section
variable {m r k S:Nat}{t s:Nat->Nat}{o:Bool}{f g as bs:List Bool}
theorem RY(h:Pm m t s)(hr:r<2^m)(w:Tw m t s r o f g)(v:Tw m t s r o as bs):(BR bs g (2^m)).length=(BR as f (2^m)).length:=by
 have e:sumTo (λp=>AC bs p*AC g p) (2^m)=sumTo (λp=>AC as p*AC f p) (2^m):=by
  rw[<- M7 h hr (λp=>AC bs p*AC g p)];refine Ae λp i=>?_
  rw[w.val i,v.val i];cases o <;> simp[Cn,Int.neg_mul_neg]
 rw[Eu,Eu]at e;lia
theorem Rf{h':Nat->Bool}(e:∀p,p<2^m->h' p=(gB f (rn m s (p ^^^ r)) ^^ o))(h:Pm m t s)(hr:r<2^m):Tw m t s r o f ((List.range (2^m)).map h'):=λp i=>by
 have g:=DR (Ao m t p) hr
 show(List.map h' (List.range (2^m))).getD _ false=_
 rw[ZBO,ZBJ,ZBx g];show h' _=_;rw[e _ g,GT,Bt h i]
theorem bJ(G:Nat->Int){p:Nat}(O:p<2^m)(U:S<2^m):gB (An m G S) p=gB (An m G S) (p &&& S):=by
 have at_:∀p,p<2^m->gB (An m G S) p=decide (wt m (inF G S) p<0):=λp O=>by
  show(List.map _ (List.range (2^m))).getD p false=_
  rw[ZBO,ZBJ,ZBx O];rfl
 rw[at_ p O,at_ _ (Nat.and_lt_two_pow _ U)]
 have e:wt m (inF G S) p=wt m (inF G S) (p &&& S):=Ae λq _=>by
  unfold inF
  by_cases z:q &&& S=q
  ·rw[E3,E3,Nat.and_assoc,Nat.and_comm S q,z]
  ·rw[if_neg z,Int.mul_zero,Int.mul_zero]
 rw[e]
theorem OS(h:Pm m t s)(hr:r<2^m)(w:Tw m t s r o f g)(z:S<2^m):distO m g (rn m t S)<=distO m f S:=by
 have d:=ZK (bs:=g) (Ao m t S) (λx=>gB (An m (wt m (AC f)) S) (rn m s x ^^^ (rn m s r &&& S)) ^^ o);rw[RY h hr w (Rf (f:=An m (wt m (AC f)) S) (λp i=>?_) h hr)]at d
 ·exact d
 ·rw[Pf h.inv,Bt h z,bJ _ (Ao ..) z,RA h.inv,Nat.and_xor_distrib_right]
theorem Rp(h:Pm m t s)(hr:r<2^m)(w:Tw m t s r o f g)(z:S<2^m):distO m g (rn m t S)=distO m f S:=by
 refine Nat.le_antisymm (OS h hr w z) ?_
 have:=OS h.inv (Ao m s r) (w.inv h hr) (Ao m t S)
 rw[Bt h z]at this;exact this
theorem PP(h:Pm m t s)(hr:r<2^m)(w:Tw m t s r o f g):distO m g (BN m k g (BI m k))<=distO m f (BN m k f (BI m k)):=by
 have h1:=Qm m k f;have h2:=Qu (bs:=g) (PN (Ao m t (BN m k f (BI m k))) (by rw[E7 h];exact Lw h1));rw[Rp h hr w (FV h1)]at h2;exact h2
theorem Tp(h:Pm m t s)(hr:r<2^m)(w:Tw m t s r o f g):distO m g (BN m k g (BI m k))=distO m f (BN m k f (BI m k)):=Nat.le_antisymm (PP h hr w) (PP h.inv (Ao m s r) (w.inv h hr))
theorem Wf(h:Pm m t s)(hr:r<2^m)(w:Tw m t s r o f g){nb:List Bool}(v:Tw m t s r o (An m (wt m (AC f)) (BN m k f (BI m k))) nb):FX m k g nb (((Am m (min m k) (2^m)).reverse).map λS=>(rn m t S,("whole" : Str)))=true:=by
 have p:=Qm m k f;have n:=FV p
 have z:Dc m g nb=((2^m:Nat):Int)-2*(distO m f (BN m k f (BI m k)):Nat):=by
  rw[OC,aA,RY h hr w v];rfl
 have j:=Wi (bs:=f) n;have l:=Vk (bs:=f) n;have u:Bu (Ca nb m) m=rn m t (Bu (Ca (An m (wt m (AC f)) (BN m k f (BI m k))) m) m):=by rw[<- Ih,<- Ih,Rm h hr v]
 rw[Lw p,<- E7 h (x:=Bu _ m),<- u]at l;unfold FX;rw[z,ZBK ⟨by lia,j⟩,ZCc,ZBb];constructor
 ·unfold Ep;rw[ZCT];intro S i;rw[ZCY];have B:=FV i;exact⟨_,ZBN.mpr ⟨rn m s S,List.mem_reverse.mpr (PN (Ao ..) (by rw[E7 h.inv];exact Lw i)),rfl⟩,ZBK (by rw[Bt h.inv B];exact Nat.and_self S)⟩
 ·rw[ZCT];intro c y;obtain⟨S,i,rfl⟩:=ZBN.mp y;have i:=List.mem_reverse.mp i;show soB m _ _ (rn m t S) "whole" = true;rw[YE (Ao ..),Rp h hr w (FV i)]
  have:=Qu (bs:=f) i
  exact ZBK (by lia)
theorem Y9(h:Pm m t s)(hr:r<2^m)(w:Tw m t s r o f g)(hf:f.length=2^m)(z:g.length=2^m):Br (Be g) ((Ce m).map BW) (2^(Be g).length-1)=Br (Be f) ((Ce m).map BW) (2^(Be f).length-1):=by
 have mv:∀{t s r f g},Pm m t s->r<2^m->Tw m t s r o f g->f.length=2^m->g.length=2^m->∀n,Can (AN (Be f)) ((Ce m).map gB) n (2^(Be f).length-1).testBit->Can (AN (Be g)) ((Ce m).map gB) n (2^(Be g).length-1).testBit:=by
  intro t s r f g h hr w hf z n;have k:=w.inv h hr;refine EA (N:=2^m) (f:=λq=>rn m s q ^^^ rn m s r) (λi j hi l e=>?_) (λy u=>?_) n _ _ λi hi=>?_
  ·have li:=DR (Ao m s i) (Ao m s r);have v:=DR (Ao m s j) (Ao m s r);rw[OE (by lia) (by lia),k i hi,k j l]at e;rw[OE (by lia) (by lia)];revert e;cases gB g i <;> cases gB g j <;> cases o <;> simp
  ·obtain⟨i,hi,e⟩:=VR u;refine .inl ⟨_,Z2 (h.sl i hi),r.testBit (s i),λq p=>?_⟩;rw[IA p,e _ (DR (Ao ..) (Ao ..)),ZCr,Bv,Bv,ZBK hi];cases q.testBit (s i) <;> cases r.testBit (s i) <;> rfl
  ·rw[O7,EM,z,decide_eq_true_iff]at hi;rw[O7,EM,hf,decide_eq_true_iff];exact⟨hi,DR (Ao ..) (Ao ..)⟩
 exact YR (GZ hf) (GZ z) (mv h hr w hf z) (mv h.inv (Ao m s r) (w.inv h hr) z hf)
end
theorem QD{ps:Array Value}(T:Tape K H t a ns)(z:H Pt=some (.tbl ps))(G:zu Pt H H'):Tape K H' t a ns:=by
 obtain⟨i,r,c,h1,h2,f⟩:=T.at_;refine⟨⟨i,r,c,h1,h2,G _ _ (λe=>by rw[e,z]at f;cases f) f⟩,?_⟩
 rcases T.scr with ⟨h | ⟨o,h⟩,n⟩ | h
 ·exact .inl ⟨.inl (G _ _ (λe=>by rw[e,z]at h;cases h) h),n⟩
 ·exact .inl ⟨.inr ⟨o,G _ _ (λe=>by rw[e,z]at h;cases h) h⟩,n⟩
 ·exact .inr h
theorem UQ(l:zx Pt pos q H)(F:∃zs,H t=some (.lst zs))(f:zp t H H'):zx Pt pos q H':=by
 obtain⟨ps,h1,h2,g⟩:=l;obtain⟨zs,hz⟩:=F;refine⟨ps,f _ _ (λe=>by rw[e,hz]at h1;cases h1) h1,h2,?_⟩
 rcases g with g | ⟨j,k,i⟩
 ·exact .inl g
 ·exact .inr ⟨j,k,f _ _ (λe=>by rw[e,hz]at i;cases i) i⟩
theorem Dk(l:zx Pt pos q H)(F:Tape K H t a ns)(f:zp t H H'):zx Pt pos q H':=UQ l F.lst f
noncomputable def nth(p:List Nat)(i:Nat):Nat:=p.getD i 0
abbrev Ord(n:Nat)(p:List Nat):Prop:=p.Perm (List.range n)
theorem Fb{p:List Nat}(h:i<p.length):p[i]=nth p i:=by
 unfold nth;rw[ZBO,ZBE h];rfl
theorem Ord.len{p:List Nat}(h:Ord n p):p.length=n:=by rw[h.length_eq,ZBc]
theorem Ord.lt{p:List Nat}(h:Ord n p)(z:k<n):nth p k<n:=by
 have z:k<p.length:=by rw[Ord.len h];exact z
 rw[<- Fb z];exact ZBV.mp (h.mem_iff.mp (ZCL z))
theorem Ord.pm{p:List Nat}(h:Ord n p):Pm n p.idxOf (nth p):=by
 have i:=Ord.len h;have ix:∀j,j<n->p.idxOf j<p.length:=λj f=>List.idxOf_lt_length_iff.mpr (h.mem_iff.mpr (ZBV.mpr f))
 refine⟨λj f=>by rw[<- i];exact ix j f,λk g=>Ord.lt h g,λk g=>?_,λj f=>?_⟩
 ·have g:k<p.length:=by rw[i];exact g
  rw[<- Fb g];exact(h.nodup_iff.mpr List.nodup_range).idxOf_getElem k g
 ·rw[<- Fb (ix j f)];exact List.getElem_idxOf (ix j f)
theorem Qe{p:List Nat}(h:k<p.length):(iL p)[k]?=some (.int (nth p k:Nat)):=by
 unfold iL;rw[ZBJ,ZBE h,Fb h];rfl
theorem Yd{L q:List Nat}{j x:Nat}(h:L[j]?=some x):(L.eraseIdx j++(q++[x])).Perm (L++q):=by
 obtain⟨i,e⟩:=ZBW.mp h;have f:L=L.take j++x::L.drop (j+1):=by rw[<- e,<- ZDQ i,List.take_append_drop]
 have e2:L.eraseIdx j++(q++[x])=(L.eraseIdx j++q)++x::[]:=by rw[ZCj]
 rw[e2];refine List.perm_middle.trans ?_;have g:L++q=L.take j++x::(L.drop (j+1)++q):=by rw[<- List.cons_append,<- ZCj,<- f]
 rw[ZBs,ZDV,ZCj,g];exact List.perm_middle.symm
theorem Ov{o:HO}(T0:Tape K H0 t a ns)(T:Tape K H t a ns)(f:zp t H0 H)(z:H0 l=none)(nl:l≠t):Tape K (upd H l o) t a ns:=by
 obtain⟨i,r,c,h1,h2,g⟩:=T.at_;exact⟨⟨i,r,c,h1,h2,by rw[AR (Ne.symm nl)];exact g⟩,T0.scr.stay λo n e=>by rw[AR (By e z)];exact f a o n e⟩
def LI(K:W.Frag):Sp:=λvs H Q _=>match vs with
 | [.ref t,.int z]=>∃(a:Addr) (ns:List Int) (n:Nat),Tape K H t a ns/\z=n/\n<=5/\∀p l H',Ord n p->H l=none->H' l=some (.lst (iL p))->Tape K H' t a ns->zp t H H'->Q (.ref l) H'
 | _=>False
theorem am:Ok_ P w base T.z50 2 (LI K):=by
 refine T.z50.F.ok sc_z50 (λvs H Q E h=>by unfold LI at h;walk_at "e") ?_;walk_at "f";unfold LI at h;walk_at "g"
 rename_i t z;obtain⟨a,ns,n,T0,e1,h5,q⟩:=h;subst e1;refine⟨_,(@AH _ _ _ _ _ (@AO _ _ 2 _ _ _ _ sc_z50.nd rfl (by right) (Yi rfl rfl T.zX rfl T.zC (AA (vv 1) AB)) (by rfl) (by symm)) (@AH _ _ _ _ _ (@AO _ _ 3 _ _ _ _ sc_z50.nd rfl (by right) (@Cs _ _ _ _ AB) (by rfl) (by symm)) (@AH _ _ _ _ _ (@CU _ _ _ _ _ _ _ _ PassesOwn.never rfl (BG rfl T.zC (AA (vv 1) AB)) (AM (i:=4) sc_z50.nd rfl (by right)) (@AI _ _ _ (@Iv _ _ _ _ (Zs (K:=K) (vv 3) (AA (Yl (K:=K) (vv 2) (AA (AG (@LQ P w K mg base T) (hr.mono (show 1<=_ by decide)) rfl T.z53.m T.z53.F.kp T.z53.b .nil AD (AA (vv 0) (AA (AZ (BO (K:=K)) rfl T.zP (by rfl) (AA (vv 2) AB)) AB))) AB)) AB)) (by rfl))) (by intro _;rfl)) (@AI _ _ _ (@AK _ _ _ _ (vv 3)))))),?_⟩;refine⟨n,rfl,by lia,λlf v=>?_⟩;dsimp only[AW];rw[show upd H lf (.lst ((List.range n).map λ(k:Nat)=>V.int (k:Int)))=upd H lf (.lst (iL (List.range n))) from rfl];have s1:=EE.upd (o:=.lst (iL (List.range n))) v;have g1:upd H lf (.lst (iL (List.range n))) lf=some (.lst (iL (List.range n))):=AF;generalize upd H lf (.lst (iL (List.range n)))=H1 at *;refine⟨ZBT _,λlo no=>?_⟩;dsimp only[AW];have s2:=s1.trans (EE.upd (o:=.lst []) no);have g2:upd H1 lo (.lst []) lo=some (.lst (iL [])):=AF;have B:=(EE.upd (o:=.lst []) no) _ _ g1;have f:=s1.free no;have ne:lf≠lo:=λz=>by rw[z,no]at g1;cases g1
 generalize upd H1 lo (.lst [])=H2 at *;have r:=T0.neT v;have u:=T0.neT f;refine⟨(n:Int),rfl,by lia,by lia,?_⟩;rw[ZBj];refine DH (λi Z H'=>∃(M:Option V) (L q:List Nat),Z=[some (.ref t),some (.int (n:Nat)),some (.ref lf),some (.ref lo),M]/\H' lf=some (.lst (iL L))/\H' lo=some (.lst (iL q))/\(L++q).Perm (List.range n)/\q.length=i/\Tape K H' t a ns/\zp t H H') ⟨none,List.range n,[],rfl,B,g2,by rw[ZBs],rfl,T0.same s2,s2.frm⟩ ?_ ?_
 ·rintro i Z R hi ⟨M,L,p,rfl,gl,go,l,U,y,x⟩;have ln:=l.length_eq;rw[ZBS,ZBc]at ln;refine⟨.inl ⟨rfl,_,.of go⟩,.inl ⟨rfl,_,.of gl⟩,L.length,.inl ⟨_,.of gl,by rw[Ai]⟩,a,ns,y,BZ (by lia) (by lia),λd g S d1 W f4=>?_⟩;obtain⟨j,rfl⟩:=ZC2 S;have J:j<L.length:=by lia
  have C:g lf=some (.lst (iL L)):=by rw[f4 lf r];exact gl
  have G:g lo=some (.lst (iL p)):=by rw[f4 lo u];exact go
  have N:zp t H g:=λb o nb e=>by rw[f4 b nb];exact x b o nb e
  refine⟨_,_,C,S,by lia,Qe J,?_⟩;rw[ZBj];have O:zp t H (upd g lf (.lst ((iL L).eraseIdx j))):=HE N v;have X:=Ov (o:=.lst ((iL L).eraseIdx j)) T0 W N v r;have I:upd g lf (.lst ((iL L).eraseIdx j)) lo=some (.lst (iL p)):=by rw[AR (Ne.symm ne)];exact G
  have D:upd g lf (.lst ((iL L).eraseIdx j)) lf=some (.lst (iL (L.eraseIdx j))):=by rw[AF];unfold iL;rw[ZDV,ZDV,ZBH,List.map_take,List.map_drop]
  generalize upd g lf (.lst ((iL L).eraseIdx j))=H5 at *;refine⟨_,I,AX (by rw[Ai];lia),_,L.eraseIdx j,p++[nth L j],rfl,by rw[AR ne];exact D,by rw[AF,CK];rfl,(Yd (by rw[ZBE J,Fb J])).trans l,by rw[ZBS,U];rfl,Ov T0 X O f u,HE O f⟩
 ·rintro Z R ⟨M,L,p,rfl,gl,go,l,U,y,x⟩;have ln:=l.length_eq;rw[ZBS,ZBc]at ln;have Y:L=[]:=ZDW.mp (by lia);subst Y;exact q p lo R l f go y x
theorem WU{p:Nat}(h:p.testBit k=false):p ^^^ 2^k=p+2^k:=by
 have e:p &&& 2^k=0:=by
  refine ZCm λi=>?_
  rw[ZCA,Nat.testBit_two_pow,Nat.zero_testBit]
  by_cases e:k=i
  ·subst e;rw[h];rfl
  ·simp[e]
 have:=PY p (2^k)
 rw[e]at this;lia
theorem Qi:∀{ts:List Nat},ts.Nodup->∀k,(msk ts).testBit k=decide (k∈ts)
 | [],_,k=>by simp[msk]
 | t::ts,h,k=>by
  have h:=ZCh.mp h;have f:=Qi h.2;rw[Fp,ZCz,<- WU (by rw[f,ZBo h.1]),ZCr,f,Nat.testBit_two_pow,ZBv]
  by_cases z:t=k
  ·subst z;simp[h.1]
  ·simp[z,Ne.symm z]
noncomputable def onL(n S:Nat)(s:Nat->Nat):List Nat:=((List.range n).filter S.testBit).map s
theorem PJ(n S:Nat)(s:Nat->Nat):onL (n+1) S s=onL n S s++(if S.testBit n=true then [s n] else []):=by
 unfold onL;rw[ZBw,ZCR,ZBH]
 by_cases h:S.testBit n=true
 ·rw[if_pos h,List.filter_cons_of_pos h];rfl
 ·rw[if_neg h,List.filter_cons_of_neg h];rfl
theorem Nw(n S:Nat)(s:Nat->Nat):(onL n S s).length<=n:=by
 unfold onL;rw[ZBB];exact ZBq (ZCq _ _) (by rw[ZBc];exact ZBD _)
theorem OP{t:Nat->Nat}(h:Pm n t s):msk (onL n S s)=rn n t S:=by
 have nd:(onL n S s).Nodup:=by
  unfold onL List.Nodup;rw[ZCI];refine(List.Pairwise.filter _ List.nodup_range).imp_of_mem λf g ne e=>ne ?_
  have f:=ZBV.mp (ZBp.mp f).1;have g:=ZBV.mp (ZBp.mp g).1;rw[<- h.ts _ f,e,h.ts _ g]
 refine ZCm λj=>?_
 rw[Qi nd,Bv,ZBv,decide_eq_true_iff,ZBb,decide_eq_true_iff];unfold onL;constructor
 ·intro z;obtain⟨k,i,rfl⟩:=ZBN.mp z;obtain⟨h1,h2⟩:=ZBp.mp i;have h1:=ZBV.mp h1;exact⟨h.sl k h1,by rw[h.ts k h1];exact h2⟩
 ·rintro⟨h1,h2⟩;exact ZBN.mpr ⟨t j,ZBp.mpr ⟨ZBV.mpr (h.tl j h1),h2⟩,h.st j h1⟩
theorem YW(h:S<2^n):msk (onL n S id)=S:=by
 have p:Pm n id id:=⟨λ_ h=>h,λ_ h=>h,λ_ _=>rfl,λ_ _=>rfl⟩;rw[OP p]
 have:=Bt p h
 refine Gs (Ao ..) h λj f=>?_
 rw[Bv,ZBK f];rfl
theorem Pe{y:Nat}(h:i<m):atI ((Ar m y).map V.bl) (i:Int)=some (.bl (y.testBit i)):=Ak (n:=i) rfl (by
 unfold Ar;rw[ZBJ,ZBJ,ZBx h,ZDZ];rfl)
def K0(K:W.Frag):Sp:=λvs H Q _=>match vs with
 | [.int z,.int x,.ref l]=>∃(n S:Nat) (p:List Nat),z=n/\n<=5/\x=S/\Ord n p/\zr K H l (iL p)/\out H Q (.int (rn n p.idxOf S:Nat))
 | _=>False
theorem HS:Ok_ P w base T.z40 3 (K0 K):=by
 refine T.z40.F.ok sc_z40 (λvs H Q E h=>by unfold K0 at h;walk_at "e") ?_;walk_at "f";unfold K0 at h;walk_at "g"
 rename_i z x l;obtain⟨n,S,p,j,u,e2,g,k,q⟩:=h;subst j e2;have v:=Ord.len g;refine⟨_,(@AH _ _ _ _ _ (@AO _ _ 3 _ _ _ _ sc_z40.nd rfl (by right) (AG (@GS P w K mg base T) (hr.mono (show 2<=_ by decide)) rfl T.z52.m T.z52.F.kp T.z52.b .nil AD (AA (vv 0) (AA (vv 1) AB))) (by rfl) (by symm)) (@AI _ _ _ (@AK _ _ _ _ (AZ (DJ (K:=K) rfl) rfl T.zV (by rfl) (AA (Af (N':=["_law_k","_law_order_here","_law_bits_here"]) (own:=1) (ix:=[2,3]) rfl (BG rfl T.zC (AA (vv 0) AB)) (by kernel_rfl) rfl rfl (by kernel_rfl) (λc=>AM (i:=0) (show(["_law_k","_law_order_here","_law_bits_here"]:List Str).Nodup by decide +kernel) rfl (by right)) (AV (by decide)) (λc=>C0 (BU (zq (K:=K) (vv 2) (vv 0)))) (λc=>(AG (@FN P w K mg base T) (hr.mono (show 1<=_ by decide)) rfl T.z60.m T.z60.F.kp T.z60.b .nil AD (AA (zq (K:=K) (vv 1) (vv 0)) AB)))) AB))))),?_⟩;refine⟨n,S,rfl,rfl,by lia,λB H1 y s1 g1=>?_⟩;dsimp only[AW];refine⟨(n:Int),rfl,by lia,by lia,?_⟩;rw[ZBj]
 refine CB (λi ys H'=>EE H1 H'/\ys=C9 (onL i S (nth p))) ⟨EE.refl _,rfl⟩ (λi ys H' hi ⟨_,e⟩=>by
  rw[e]
  have:=Nw i S (nth p)
  exact AX (by unfold C9;rw[ZBB];lia)) ?_ ?_
 ·rintro i ys H' hi ⟨s2,rfl⟩;rw[ZCQ];refine⟨_,_,.inl (.of (s2 _ _ g1)),Pe hi,?_⟩;have f:=PJ i S (nth p);refine Aa (λe=>?_) (λe=>?_)
  ·have e:S.testBit i=true:=e;rw[if_pos e]at f;have lt:=Ord.lt g hi;refine⟨_,_,.inl ((s1.trans s2).sqL k),Ak (n:=i) rfl (Qe (by lia)),by lia,by lia,λr s3=>⟨s2.trans s3,?_⟩⟩;rw[f,ZBj];unfold C9;rw[ZBH];show _++[V.int ((2:Int)^nth p i)]=_++[V.int ((2^nth p i:Nat):Int)];rw[ZC1];rfl
  ·have e:¬S.testBit i=true:=e;rw[if_neg e,ZBs]at f;exact⟨s2,by rw[f]⟩
 ·rintro ys H' ⟨s2,rfl⟩ p2 o;refine⟨(onL n S (nth p)).map λt=>((2^t:Nat):Int),.of (by rw[AF];unfold C9;rw[ZBg];rfl),?_⟩;rw[KI,OP (Ord.pm g)];exact q _ ((s1.trans s2).trans (EE.upd o))
noncomputable def anB(n:Nat)(s:Nat->Nat)(r:Nat)(o:Bool)(f:List Bool):List Bool:=(List.range (2^n)).map λq=>(gB f (rn n s (q ^^^ r)) ^^ o)
theorem Pl(n:Nat)(s:Nat->Nat)(r:Nat)(o:Bool)(f:List Bool):(anB n s r o f).length=2^n:=by unfold anB;rw[ZBB,ZBc]
theorem LF{t:Nat->Nat}(h:Pm n t s)(hr:r<2^n)(o:Bool)(f:List Bool):Tw n t s r o f (anB n s r o f):=Rf (λ_ _=>rfl) h hr
noncomputable def anV(n:Nat)(s:Nat->Nat)(r:Nat)(o:Bool)(f:List Bool)(i:Nat):List V:=(List.range (2^n)).map λq=>if rn n s (q ^^^ r)<i then V.bl (gB f (rn n s (q ^^^ r)) ^^ o) else .non
theorem TB{t:Nat->Nat}(h:Pm n t s)(hr:r<2^n)(o:Bool)(f:List Bool)(hi:i<2^n):(anV n s r o f i).set (rn n t i ^^^ r) (.bl (gB f i ^^ o))=anV n s r o f (i+1):=by
 unfold anV;refine List.ext_getElem? λq=>?_
 rw[List.getElem?_set]
 by_cases g:q<2^n
 ·have j:rn n t i ^^^ r=q ↔ rn n s (q ^^^ r)=i:=by
   constructor
   ·rintro rfl;rw[GT,Bt h hi]
   ·intro e;rw[<- e,Bt h.inv (DR g hr),GT]
  rw[ZBB,ZBc,ZBJ,ZBJ,ZBx g]
  show(if _ then (if _ then some (V.bl (gB f i ^^ o)) else none) else some (if _ then _ else _))=some (if _ then _ else _)
  by_cases z:rn n t i ^^^ r=q
  ·rw[if_pos z,if_pos (by rw[z];exact g),j.mp z,if_pos (ZBu i)]
  ·have k:=λe=>z (j.mpr e)
   rw[if_neg z]
   by_cases y:rn n s (q ^^^ r)<i
   ·rw[if_pos y,if_pos (ZB6 y)]
   ·rw[if_neg y,if_neg (by lia)]
 ·have:(List.range (2^n))[q]?=none:=ZCW (by rw[ZBc];lia)
  rw[ZBJ,ZBJ,this,if_neg λz=>g (by rw[<- z];exact DR (Ao ..) hr)];rfl
theorem SB(n:Nat)(s:Nat->Nat)(r:Nat)(o:Bool)(f:List Bool):anV n s r o f (2^n)=(anB n s r o f).map V.bl:=by
 unfold anV anB;rw[ZBg];refine ZCC λq _=>?_
 rw[if_pos (Ao ..)];rfl
theorem Sy(n:Nat)(s:Nat->Nat)(r:Nat)(o:Bool)(f:List Bool):(List.replicate (2^n) [V.non]).flatten=anV n s r o f 0:=by
 unfold anV;rw[List.flatten_replicate_singleton];refine List.ext_getElem? λq=>?_
 rw[ZDL,ZBJ]
 by_cases g:q<2^n
 ·rw[if_pos g,ZBx g];rfl
 ·rw[if_neg g,ZCW (by rw[ZBc];lia)];rfl
theorem ak(x y i:Nat):(true ^^ ((x / 2^i%2==1)==(y / 2^i%2==1)))=((x ^^^ y) / 2^i%2==1):=by
 have e:∀x:Nat,(x / 2^i%2==1)=x.testBit i:=λx=>by rw[ZDZ];rfl
 rw[e,e,e,ZCr];cases x.testBit i <;> cases y.testBit i <;> rfl
def MJ(K:W.Frag):Sp:=λvs H Q _=>match vs with
 | [.int z,.ref tp,.ref l,.int g,.bl o]=>∃(n r:Nat) (f:List Bool) (p:List Nat),z=n/\n<=5/\zj K H tp (f.map V.bl)/\f.length=2^n/\Ord n p/\zr K H l (iL p)/\g=r/\r<2^n/\MP H Q ((anB n (nth p) r o f).map V.bl)
 | _=>False
theorem Rq:Ok_ P w base T.z58 4 (MJ K):=by
 have k:=@GS P w K mg base T;refine T.z58.F.ok sc_z58 (λvs H Q E h=>by unfold MJ at h;walk_at "e") ?_;walk_at "f";have g:=hr.mono (show 2<=_ by decide);unfold MJ at h;walk_at "g"
 rename_i z tp l rr o;obtain⟨n,r,f,p,e1,h5,R,hf,hp,hl,e2,C,q⟩:=h;subst e1 e2;have lf:(f.map V.bl).length=2^n:=by rw[ZBB];exact hf
 have pm:=Ord.pm hp;have a0:2^n<=32:=ZBL (n:=2) (j:=5) (by decide) h5;refine⟨_,(@AH _ _ _ _ _ (@AO _ _ 5 _ _ _ _ sc_z58.nd rfl (by right) (AQ BB (@Cs _ _ _ _ (AA Jt AB)) (AZ (BO (K:=K)) rfl T.zP (by rfl) (AA (vv 1) AB))) (by rfl) (by symm)) (@AH _ _ _ _ _ (@CU _ _ _ _ _ _ _ _ PassesOwn.never rfl (BG rfl T.zC (AA (AZ (BO (K:=K)) rfl T.zP (by rfl) (AA (vv 1) AB)) AB)) (AM (i:=6) sc_z58.nd rfl (by right)) (@AH _ _ _ _ _ (@AO _ _ 7 _ _ _ _ sc_z58.nd rfl (by right) (AG (@HS P w K mg base T) (hr.mono (show 3<=_ by decide)) rfl T.z40.m T.z40.F.kp T.z40.b .nil AD (AA (vv 0) (AA (vv 6) (AA (vv 2) AB)))) (by rfl) (by symm)) (@AH _ _ _ _ _ (@AO _ _ 8 _ _ _ _ sc_z58.nd rfl (by right) (@Af _ _ _ _ _ _ _ (["_law_a","_law_b"]) 2 [] _ _ _ _ rfl (Kg (K:=K) rfl T.yb (AA (AG k g rfl T.z52.m T.z52.F.kp T.z52.b .nil AD (AA (vv 0) (AA (vv 7) AB))) (AA (AG k g rfl T.z52.m T.z52.F.kp T.z52.b .nil AD (AA (vv 0) (AA (vv 3) AB))) AB))) (by kernel_rfl) rfl rfl (by kernel_rfl) (λc=>Bh (K:=K) (n:=2) rfl (Ad (AM (i:=0) (show(["_law_a","_law_b"]:List Str).Nodup by decide +kernel) rfl (by right)) (Ad (AM (i:=1) (show(["_law_a","_law_b"]:List Str).Nodup by decide +kernel) rfl (by right)) BJ))) (Ba (Al AY (BQ AY Aj) (AV (by decide)) (Al AY Aj (AV (by decide)) Bf))) (λc=>Ag) (λc=>(BK (kNe (K:=K) hu) (vv 0) (vv 1))) (by intro _;rfl)) (by rfl) (by symm)) (@AI _ _ _ (@Cu _ _ _ _ _ _ (BK (kNe (K:=K) hu) (zq (K:=K) (vv 1) (vv 6)) (vv 4)) (C7 (vv 5) (AZ (DJ (K:=K) rfl) rfl T.zV (by rfl) (AA (Af (N':=["_law_k","_law_bits_here"]) (own:=1) (ix:=[8]) rfl (BG rfl T.zC (AA (vv 0) AB)) (by kernel_rfl) rfl rfl (by kernel_rfl) (λc=>AM (i:=0) (show(["_law_k","_law_bits_here"]:List Str).Nodup by decide +kernel) rfl (by right)) (AV (by decide)) (λc=>C0 (BU (zq (K:=K) (vv 1) (vv 0)))) (λc=>(AG (@FN P w K mg base T) (hr.mono (show 1<=_ by decide)) rfl T.z60.m T.z60.F.kp T.z60.b .nil AD (AA (vv 0) AB)))) AB)) DY) (by rfl) (by rfl) (by rfl))))) (by intro _;rfl)) (@AI _ _ _ (@AK _ _ _ _ (Bi (B9 (K:=K)) rfl T.zG (by rfl) (AA (vv 5) AB)))))),?_⟩;refine⟨smq rfl,λM n0=>?_⟩;have s0:=EE.upd (o:=.lst [.non]) n0;have g0:upd H M (.lst [.non]) M=some (.lst [.non]):=AF;generalize upd H M (.lst [.non])=H0 at *;refine⟨_,.inr ⟨_,s0.sqT R,rfl⟩,M,_,_,rfl,rfl,g0,by rw[lf];lia,by rw[lf];lia,by rw[lf,ZBj];exact EN (show 1*2^n<=1000 by lia),λla na=>?_⟩;rw[lf,ZBj,Sy n (nth p) r o f];dsimp only[AW];have s1:=s0.trans (EE.upd (o:=.lst (anV n (nth p) r o f 0)) na);have g1:upd H0 la (.lst (anV n (nth p) r o f 0)) la=some (.lst (anV n (nth p) r o f 0)):=AF;have S:=s0.free na;generalize upd H0 la (.lst (anV n (nth p) r o f 0))=H1 at *;refine⟨_,.inr ⟨_,s1.sqT R,rfl⟩,((2^n:Nat):Int),by rw[lf],by lia,by lia,?_⟩;rw[ZBj];refine DH (λi Z H'=>∃(W X Y:Option V),Z=[some (.int (n:Nat)),some (.ref tp),some (.ref l),some (.int (r:Nat)),some (.bl o),some (.ref la),W,X,Y]/\EE H H'/\H' la=some (.lst (anV n (nth p) r o f i))) ⟨_,_,_,rfl,s1,g1⟩ ?_ ?_
 ·rintro i Z H2 hi ⟨W,X,Y,rfl,s2,g2⟩;rw[ZCQ];refine⟨n,i,p,rfl,h5,rfl,hp,s2.sqL hl,λH3 s3=>?_⟩;dsimp only[AW];refine⟨n,_,rfl,rfl,by lia,λp4 H4 n4 s4 g4=>⟨n,r,rfl,rfl,by lia,λp5 H5 n5 s5 g5=>?_⟩⟩;have B:=s5 _ _ g4;refine⟨⟨_,.of B⟩,⟨_,.of g5⟩,?_⟩
  refine LH (xs:=(Ar n (rn n p.idxOf i)).map V.bl) (ys:=(Ar n r).map V.bl) (λj zs H'=>EE H5 H'/\zs=((Ar n (rn n p.idxOf i ^^^ r)).take j).map V.bl) ⟨EE.refl _,rfl⟩ (by rw[ZBB,ZBB,BP,BP])
   (λj zs H' _ ⟨s,_⟩=>⟨.of (s _ _ B),.of (s _ _ g5)⟩) (λj zs H' x ⟨_,e⟩=>by
    rw[ZBB,BP]at x;rw[e];exact AX (by rw[ZBB,ZBi];lia)) ?_ ?_
  ·rintro j u v zs N p6 y hy ⟨U,rfl⟩ n6
   have x:j<n:=by
    have:=(ZBW.mp y).1
    rw[ZBB,BP]at this;exact this
   have ex:u=.bl (rn n p.idxOf i / 2^j%2==1):=by
    rw[ZBJ,show Ar n (rn n p.idxOf i)=(List.range n).map _ from rfl,ZBJ,ZBx x]at y;exact(ZBQ y).symm
   have ey:v=.bl (r / 2^j%2==1):=by
    rw[ZBJ,show Ar n r=(List.range n).map _ from rfl,ZBJ,ZBx x]at hy;exact(ZBQ hy).symm
   subst ex ey;refine⟨p6,_,rfl,.of AF,rfl,_,_,rfl,_,_,rfl,rfl,U.trans (EE.upd n6),?_⟩;rw[Pc x,ZBH,<- ak];rfl
  ·rintro zs N ⟨U,rfl⟩ lb nb;rw[ZBB,BP,ZB0 (by rw[BP];lia)];dsimp only[AW];have s7:=EE.upd (o:=.lst ((Ar n (rn n p.idxOf i ^^^ r)).map V.bl)) nb;have g7:upd N lb (.lst ((Ar n (rn n p.idxOf i ^^^ r)).map V.bl)) lb=some (.lst ((Ar n (rn n p.idxOf i ^^^ r)).map V.bl)):=AF;have D:=(((s3.trans s4).trans s5).trans U).trans s7;generalize upd N lb (.lst ((Ar n (rn n p.idxOf i ^^^ r)).map V.bl))=H7 at *;refine⟨_,_,.inr ((s2.trans D).sqT R),K6 (by rw[hf];exact hi),(n:Int),rfl,by lia,by lia,?_⟩;rw[ZBj]
   refine CB (λj ys H'=>EE H7 H'/\ys=C9 (onL j (rn n p.idxOf i ^^^ r) id)) ⟨EE.refl _,rfl⟩ (λj ys H' x ⟨_,e⟩=>by
    rw[e]
    have:=Nw j (rn n p.idxOf i ^^^ r) id
    exact AX (by unfold C9;rw[ZBB];lia)) ?_ ?_
   ·rintro j ys H8 x ⟨I,rfl⟩;rw[ZCQ];refine⟨_,_,.inl (.of (I _ _ g7)),Pe x,?_⟩;have J:=PJ j (rn n p.idxOf i ^^^ r) id;refine Aa (λe=>?_) (λe=>?_)
    ·have e:(rn n p.idxOf i ^^^ r).testBit j=true:=e;rw[if_pos e]at J;refine⟨by lia,by lia,λH9 s9=>⟨I.trans s9,?_⟩⟩;rw[J,ZBj];unfold C9;rw[ZBH];show _++[V.int ((2:Int)^j)]=_++[V.int ((2^j:Nat):Int)];rw[ZC1];rfl
    ·have e:¬(rn n p.idxOf i ^^^ r).testBit j=true:=e;rw[if_neg e,ZBs]at J;exact⟨I,by rw[J]⟩
   ·rintro ys H8 ⟨I,rfl⟩ pa L;have y:=DR (Ao n p.idxOf i) C;refine⟨(onL n (rn n p.idxOf i ^^^ r) id).map λt=>((2^t:Nat):Int),.of (by rw[AF];unfold C9;rw[ZBg];rfl),?_⟩;rw[KI,YW y];have G:=(D.trans I).trans (EE.upd (o:=.lst (C9 (onL n (rn n p.idxOf i ^^^ r) id))) L);have O:=G _ _ g2;generalize upd H8 pa (.lst (C9 (onL n (rn n p.idxOf i ^^^ r) id)))=Ha at *;refine⟨_,rn n p.idxOf i ^^^ r,O,FQ (by unfold anV;rw[ZBB,ZBc];exact y),_,_,_,rfl,KR (s2.trans G) S,?_⟩;rw[AF,<- TB pm C o f hi,show(true ^^ (gB f i==o))=(gB f i ^^ o) by cases gB f i <;> cases o <;> rfl]
 ·rintro Z H2 ⟨W,X,Y,rfl,s2,g2⟩;rw[SB]at g2;exact⟨_,.inl ⟨.of g2,λp9 L=>q p9 _ (s2.free L) (s2.trans (EE.upd L)) AF⟩⟩
theorem Mm(g:Nat->Int):∀n,(AL g n).Pairwise (λa b=>a.1<b.1)
 | 0=>.nil
 | n+1=>by
  show(AL g n++(if g n=0 then [] else [(n,g n)])).Pairwise _
  rw[List.pairwise_append];refine⟨Mm g n,?_,λa ha b f=>?_⟩
  ·split
   ·exact .nil
   ·exact List.pairwise_singleton _ _
  ·split at f
   ·cases f
   ·rw[ZBX.mp f];exact(CV ha).1
theorem XF{α:Type}(key:α->Nat){l r:List α}(h1:l.Pairwise λa b=>key a<key b)(h2:r.Pairwise λa b=>key a<key b)(h:∀x,x∈l ↔ x∈r):l=r:=by
 have nd:∀{l:List α},(l.Pairwise λa b=>key a<key b)->l.Nodup:=λp=>p.imp λz e=>by rw[e]at z;exact ZBa _ z
 have go:∀{l r:List α},l.Perm r->(l.Pairwise λa b=>key a<key b)->(r.Pairwise λa b=>key a<key b)->l=r:=by
  intro l
  induction l with
  | nil=>intro r h _ _;exact h.nil_eq
  | cons a l g =>
   intro r h f p2;cases r with
   | nil=>exact absurd h.length_eq (by simp)
   | cons b r =>
    have e:a=b:=by
     rcases ZBI.mp (h.mem_iff.mp ZBh) with z | z
     ·exact z
     ·rcases ZBI.mp (h.mem_iff.mpr (ZBh (a:=b) (l:=r))) with y | y
      ·exact y.symm
      ·have h1:=(ZDB.mp p2).1 a z;have h2:=(ZDB.mp f).1 b y;lia
    subst e;rw[g h.cons_inv (ZDB.mp f).2 (ZDB.mp p2).2]
 exact go ((List.perm_ext_iff_of_nodup (nd h1) (nd h2)).mpr h) h1 h2
noncomputable def prD(e:Nat×Nat):Dv:=.tup [.int (e.1:Nat),.int (e.2:Nat)]
noncomputable def prV(e:Nat×Nat):List V:=[.int (e.1:Nat),.int (e.2:Nat)]
noncomputable def back(r:Int×Addr×V):Nat×Nat:=(r.1.toNat,match r.2.2 with | .int y=>y.toNat | _=>0)
theorem QF:∀{rs:List (Int×Addr×V)},(∀r∈rs,H r.2.1=some (.tup (prV (back r))))->za K H ((rs.map back).map prD) ((rs.map λq=>q.2.1).map V.ref)
 | [],_=>Ab
 | r::rs,h=>AU (Ax (h r ZBh) (AU A6 (AU A6 Ab))) (QF λx f=>h x (ZBd _ f))
noncomputable def Fj(z:Addr×Nat×Nat):Int×Addr×V:=((z.2.1:Nat),z.1,.int (z.2.2:Nat))
theorem bF{t:Nat->Nat}{o:Bool}{f g:List Bool}(h:Pm n t s)(hr:r<2^n)(w:Tw n t s r o f g)(x:Nat×Nat):x∈(AL (wt n (AC f)) (2^n)).map (λq=>(rn n t q.1,q.2.natAbs)) ↔ x∈(AL (wt n (AC g)) (2^n)).map (λq=>(q.1,q.2.natAbs)):=by
 constructor
 ·intro z;obtain⟨q,i,rfl⟩:=ZBN.mp z;obtain⟨h1,h2,j⟩:=CV i;have e:=(EU h hr w q.1).2;rw[<- h2]at e;exact ZBN.mpr ⟨_,Fq (Ao n t q.1) (by lia),by rw[e]⟩
 ·intro z;obtain⟨q,i,rfl⟩:=ZBN.mp z;obtain⟨h1,h2,j⟩:=CV i;have e:=(EU h hr w (rn n s q.1)).2;rw[Bt h.inv h1,<- h2]at e;exact ZBN.mpr ⟨_,Fq (Ao n s q.1) (by lia),by rw[Bt h.inv h1,e]⟩
theorem WX{α β:Type}{as:List α}{bs:List β}(h:as.length=bs.length):(as.zip bs).map (·.1)=as/\(as.zip bs).map (·.2)=bs:=⟨List.map_fst_zip (by lia),List.map_snd_zip (by lia)⟩
def KG(K:W.Frag):Sp:=λvs H Q _=>match vs with
 | [.int z,u,v,.ref l]=>∃(n r:Nat) (o:Bool) (f g:List Bool) (p:List Nat),z=n/\n<=5/\Ord n p/\zr K H l (iL p)/\SumAt K H u n (AL (wt n (AC f)) (2^n))/\SumAt K H v n (AL (wt n (AC g)) (2^n))/\r<2^n/\Tw n p.idxOf (nth p) r o f g/\out H Q (.bl true)
 | _=>False
theorem WM:Ok_ P w base T.z30 4 (KG K):=by
 refine T.z30.F.ok sc_z30 (λvs H Q E h=>by unfold KG at h;walk_at "e") ?_;walk_at "f";unfold KG at h;walk_at "g"
 rename_i z u v l;obtain⟨n,r,o,f,g,p,e1,h5,hp,hl,Su,Sv,a0,hw,q⟩:=h;subst e1;have pm:=Ord.pm hp;have b4:2^n<=32:=ZBL (n:=2) (j:=5) (by decide) h5;have N:=bF pm a0 hw;have r1:=Mm (wt n (AC f)) (2^n);have r2:=Mm (wt n (AC g)) (2^n);have l1:=Ee (wt n (AC f)) (2^n);have l2:=Ee (wt n (AC g)) (2^n);have k1:∀q∈AL (wt n (AC f)) (2^n),q.1<2^n:=λq D=>(CV D).1
 generalize AL (wt n (AC f)) (2^n)=ts at *;generalize AL (wt n (AC g)) (2^n)=us at *;obtain⟨ua,ub,Y,rfl,a3,O,R⟩:=id Su.at_;obtain⟨va,vb,Z,rfl,b0,S,U⟩:=id Sv.at_;have a4:Y.length=ts.length:=by have:=R.length;rw[ZBB]at this;lia
 have b1:Z.length=us.length:=by have:=U.length;rw[ZBB]at this;lia
 refine⟨_,(@AH _ _ _ _ _ (@AO _ _ 4 _ _ _ _ sc_z30.nd rfl (by right) (AZ aS rfl T.zS (by rfl) (AA (Af (N':=["_law_one","_law_weight","_law_n","_law_order_here"]) (own:=2) (ix:=[0,3]) rfl (Au (K:=K) (zq (K:=K) (vv 1) AE)) (by kernel_rfl) rfl rfl (by kernel_rfl) (λc=>Bh (K:=K) (n:=2) rfl (Ad (AM (i:=0) (show(["_law_one","_law_weight","_law_n","_law_order_here"]:List Str).Nodup by decide +kernel) rfl (by right)) (Ad (AM (i:=1) (show(["_law_one","_law_weight","_law_n","_law_order_here"]:List Str).Nodup by decide +kernel) rfl (by right)) BJ))) (Ba (Al AY (BQ AY Aj) (AV (by decide)) (Al AY Aj (AV (by decide)) Bf))) (λc=>Ag) (λc=>(BS (AA (AG (@HS P w K mg base T) (hr.mono (show 3<=_ by decide)) rfl T.z40.m T.z40.F.kp T.z40.b .nil AD (AA (vv 2) (AA (vv 0) (AA (vv 3) AB)))) (AA (AZ EO rfl T.zW (by rfl) (AA (vv 1) AB)) AB))))) AB)) (by rfl) (by symm)) (@AI _ _ _ (@AK _ _ _ _ (BK (kEq (K:=K) hu) (vv 4) (Af (N':=["_law_one","_law_weight"]) (own:=2) (ix:=[]) rfl (Au (K:=K) (zq (K:=K) (vv 2) AE)) (by kernel_rfl) rfl rfl (by kernel_rfl) (λc=>Bh (K:=K) (n:=2) rfl (Ad (AM (i:=0) (show(["_law_one","_law_weight"]:List Str).Nodup by decide +kernel) rfl (by right)) (Ad (AM (i:=1) (show(["_law_one","_law_weight"]:List Str).Nodup by decide +kernel) rfl (by right)) BJ))) (Ba (Al AY (BQ AY Aj) (AV (by decide)) (Al AY Aj (AV (by decide)) Bf))) (λc=>Ag) (λc=>(BS (AA (vv 0) (AA (AZ EO rfl T.zW (by rfl) (AA (vv 1) AB)) AB))))))))),?_⟩;refine⟨_,.ref ub,.inr a3,rfl,.inr ⟨⟨_,O⟩,?_⟩⟩;refine B6 (xs:=Y) (λi ys H'=>EE H H'/\∃as:List Addr,ys=as.map V.ref/\as.length=i/\∀z∈as.zip ((ts.take i).map λq=>(rn n p.idxOf q.1,q.2.natAbs)),H' z.1=some (.tup (prV z.2))) ⟨EE.refl _,[],rfl,rfl,λz hz=>by cases hz⟩ (λi ys H' _ ⟨s,_⟩=>s.sqT O) (λi ys H' hi ⟨_,as,e,ea,_⟩=>by rw[e,ZBB];exact AX (by lia)) ?_ ?_
 ·rintro i x ys H' hx ⟨s1,as,rfl,ea,hz⟩;obtain⟨⟨k,I⟩,c,D,rfl,hc⟩:=Dl R hx;refine⟨c,_,rfl,s1.sqT hc,rfl,_,_,rfl,_,_,rfl,rfl,?_⟩;refine⟨n,k,p,rfl,h5,rfl,hp,s1.sqL hl,λH2 s2=>⟨smq rfl,λpa na=>?_⟩⟩;have s3:=EE.upd (o:=.tup (prV (rn n p.idxOf k,I.natAbs))) na;have hi:=(ZBW.mp D).1;refine⟨(s1.trans s2).trans s3,as++[pa],by rw[ZBH];rfl,by rw[ZBS,ea];rfl,λz G=>?_⟩;rw[ZBl,D,ZBH,List.zip_append (by rw[ZBB,ZBi];lia)]at G
  rcases ZCB.mp G with y | y
  ·exact s3 _ _ (s2 _ _ (hz z y))
  ·have:z=(pa,rn n p.idxOf k,I.natAbs):=by simpa using y
   rw[this];exact AF
 rintro ys H1 ⟨s1,as,rfl,ea,hz⟩ pl nl;rw[a4,ZB0 (ZBD _)]at hz;have zg:=WX (as:=as) (bs:=ts.map λq=>(rn n p.idxOf q.1,q.2.natAbs)) (by rw[ZBB];lia)
 have hL:∀e∈ts.map (λq=>(rn n p.idxOf q.1,q.2.natAbs)),∃q∈ts,e.1=rn n p.idxOf q.1:=λe he=>by
  obtain⟨q,D,rfl⟩:=ZBN.mp he;exact⟨q,D,rfl⟩
 have nd:((ts.map λq=>(rn n p.idxOf q.1,q.2.natAbs)).map λe:Nat×Nat=>((e.1:Nat):Int)).Nodup:=by
  rw[ZBg];unfold List.Nodup;rw[ZCI];refine r1.imp_of_mem λ{a b} ha hb ne e=>?_
  have e:((rn n p.idxOf a.1:Nat):Int)=(rn n p.idxOf b.1:Nat):=e;have e2:=congrArg (rn n (nth p)) (Int.ofNat.inj e);rw[Bt pm (k1 _ ha),Bt pm (k1 _ hb)]at e2;lia
 have lL:(ts.map λq=>(rn n p.idxOf q.1,q.2.natAbs)).length<=32:=by rw[ZBB];lia
 generalize ts.map (λq=>(rn n p.idxOf q.1,q.2.natAbs))=J at *;have s2:=EE.upd (o:=.lst (as.map V.ref)) nl;have g2:upd H1 pl (.lst (as.map V.ref)) pl=some (.lst (as.map V.ref)):=AF;have W:∀z∈as.zip J,upd H1 pl (.lst (as.map V.ref)) z.1=some (.tup (prV z.2)):=λz h=>s2 _ _ (hz z h)
 have s2:=s1.trans s2;generalize upd H1 pl (.lst (as.map V.ref))=H2 at *;have lq:(as.zip J).length<=32:=by rw[List.length_zip];lia
 refine⟨(as.zip J).map Fj,?_,λq D=>?_,?_,by rw[ZBB];lia,λrs X B C b2=>?_⟩
 ·have e:((as.zip J).map Fj).map (λq:Int×Addr×V=>q.2.1)=as:=by rw[ZBg];exact zg.1
  rw[g2,e]
 ·obtain⟨z,G,rfl⟩:=ZBN.mp D;exact W z G
 ·rw[ZBg];have e:(as.zip J).map ((λq:Int×Addr×V=>q.1) ∘ Fj)=((as.zip J).map (·.2)).map λe:Nat×Nat=>((e.1:Nat):Int):=by rw[ZBg];rfl
  rw[e,zg.2];exact nd
 have t:∀r∈rs,∃z∈as.zip J,r=Fj z:=λr M=>by
  obtain⟨z,h1,h2⟩:=ZBN.mp (B.mem_iff.mp M);exact⟨z,h1,h2.symm⟩
 have eR:rs.map back=us.map λq=>(q.1,q.2.natAbs):=by
  refine XF (·.1) ?_ ?_ λx=>?_
  ·rw[ZCI]at C ⊢;refine C.imp_of_mem λ{a b} ha hb z=>?_
   obtain⟨z1,_,rfl⟩:=t a ha;obtain⟨z2,_,rfl⟩:=t b hb;have z:((z1.2.1:Nat):Int)<(z2.2.1:Nat):=z;show z1.2.1<z2.2.1;lia
  ·rw[ZCI];exact r2
  ·rw[<- N x,(B.map back).mem_iff,ZBg,show(back ∘ Fj)=(·.2) from rfl,zg.2]
 dsimp only[AW];have s3:=EE.upd (o:=.lst ((rs.map λq=>q.2.1).map V.ref)) b2;have g3:upd H2 X (.lst ((rs.map λq=>q.2.1).map V.ref)) X=some (.lst ((rs.map λq=>q.2.1).map V.ref)):=AF
 have b3:∀r∈rs,upd H2 X (.lst ((rs.map λq=>q.2.1).map V.ref)) r.2.1=some (.tup (prV (back r))):=λr M=>by
  obtain⟨z,h1,rfl⟩:=t r M;exact s3 _ _ (W z h1)
 have s3:=s2.trans s3;generalize upd H2 X (.lst ((rs.map λq=>q.2.1).map V.ref))=H3 at *;have rp:=QF (K:=K) b3;rw[eR]at rp;refine⟨_,.ref vb,.inr (s3.sqT b0),rfl,.inr ⟨⟨_,s3.sqT S⟩,?_⟩⟩;refine B6 (xs:=Z) (λi ys H'=>EE H3 H'/\ys.length=i/\za K H' (((us.take i).map λq=>(q.1,q.2.natAbs)).map prD) ys) ⟨EE.refl _,rfl,Ab⟩ (λi ys H' _ ⟨s,_⟩=>(s3.trans s).sqT S) (λi ys H' hi ⟨_,e,_⟩=>by rw[e];exact AX (by lia)) ?_ ?_
 ·rintro i x ys H' hx ⟨s4,ey,ry⟩;obtain⟨⟨k,I⟩,c,D,rfl,hc⟩:=Dl U hx;refine⟨c,_,rfl,(s3.trans s4).sqT hc,rfl,_,_,rfl,_,_,rfl,rfl,smq rfl,λpa na=>?_⟩;have s5:=EE.upd (o:=.tup (prV (k,I.natAbs))) na;refine⟨s4.trans s5,by rw[ZBS,ey];rfl,?_⟩;rw[ZBl,D,ZBH,ZBH];exact(za.same s5 _ _ ry).append (AU (Ax AF (AU A6 (AU A6 Ab))) Ab)
 rintro ys H4 ⟨s4,ey,ry⟩ p9 n9;rw[b1,ZB0 (ZBD _)]at ry;have s5:=EE.upd (o:=.lst ys) n9
 have dp:∀L:List (Nat×Nat),BL (L.map prD)<=1:=λL=>by
  induction L with
  | nil=>exact ZBT _
  | cons e L ih=>rw[ZBU];unfold BL;have:At (prD e)<=1:=by simp[prD,At,BL]
                 lia
 refine⟨.lst ((us.map λq=>(q.1,q.2.natAbs)).map prD),.lst ((us.map λq=>(q.1,q.2.natAbs)).map prD),by unfold zf;exact⟨X,_,rfl,.of (s5 _ _ (s4 _ _ g3)),za.same (s4.trans s5) _ _ rp⟩,by unfold zf;exact⟨p9,_,rfl,.of AF,za.same s5 _ _ ry⟩,by unfold At;have:=dp (us.map λq=>(q.1,q.2.natAbs));lia,?_⟩;rw[Ei];exact q _ ((s3.trans s4).trans s5)
noncomputable def CW(m:Nat)(f:List Bool)(i:Nat):List Nat:=(List.range i).map λk=>distO m f (BN m k f (BI m k))
noncomputable def Cz(m:Nat)(f:List Bool)(x y:Int):Dv:=.lst ([.lst (lvD m (wt m (AC f)) (m+1)),shD (Ct m (wt m (AC f))) ((2^(2*m):Nat):Int),shD (stW m y+stP m (wt m (AC f)) x y (m+1)) (2*stW m y)]++iD (CW m f 4))
theorem Vs{t:Nat->Nat}{o:Bool}{f g:List Bool}(h:Pm m t s)(hr:r<2^m)(w:Tw m t s r o f g)(x y:Int):Cz m g x y=Cz m f x y:=by
 have e:lvF m (wt m (AC g)) (2^m)=lvF m (wt m (AC f)) (2^m):=funext λj=>Xv h hr w j
 unfold Cz lvD stP CW;rw[e,Rt h hr w]
 congr 4
 funext k
 exact Tp h hr w
theorem a6(m:Nat)(f:List Bool)(x y:Int):At (Cz m f x y)<=60:=by
 have g:∀n,BL (lvD m (wt m (AC f)) n)<=1:=λn=>by
  unfold lvD;generalize List.range n=l
  induction l with
  | nil=>exact ZBT _
  | cons k l j=>rw[ZBU];unfold BL;have:∀a b,At (shD a b)<=1:=λa b=>by simp[shD,At,BL]
                have:=this (lvF m (wt m (AC f)) (2^m) k) ((2^(2*m):Nat):Int)
                lia
 have e2:=g (m+1);have i:=Oa (CW m f 4);unfold Cz shD;simp only[At,BL,List.cons_append,List.nil_append];lia
def Mg(K:W.Frag)(Pt:Addr):Sp:=λvs H Q _=>match vs with
 | [u,.ref ps]=>∃(m:Nat) (f:List Bool) (x y:Int),SumAt K H u m (AL (wt m (AC f)) (2^m))/\m<=5/\f.length=2^m/\zj K H ps [.int x,.int y]/\0<y/\Nb x 66/\Nb y 66/\zx Pt CL CD H /\
  ∀v H',zu Pt H H'->zx Pt CL CD H'->zf K H' (Cz m f x y) v->Q v H'
 | _=>False
theorem bo(B:BMn mg base):Ok_ P w base T.z36 7 (Mg K T.zU):=by
 refine T.z36.F.ok sc_z36 (λvs H Q E h=>by unfold Mg at h;walk_at "e") ?_;walk_at "f";unfold Mg at h;walk_at "g"
 rename_i u ps;obtain⟨m,f,x,y,S,m5,hf,Z,hy,nx,ny,X,q⟩:=h;have k:m<=6:=by lia
 have li:=FW k f;refine⟨_,(@AH _ _ _ _ _ (@AO _ _ 2 _ _ _ _ sc_z36.nd rfl (by right) (@Cs _ _ _ _ (AA (AG (@Ru P w K mg base T) (hr.mono (show 4<=_ by decide)) rfl T.z80.m T.z80.F.kp T.z80.b .nil AD (AA (vv 0) AB)) (AA (AG (@Tt P w K mg base T) (hr.mono (show 4<=_ by decide)) rfl T.z45.m T.z45.F.kp T.z45.b .nil AD (AA (vv 0) AB)) (AA (AG (@UJ P w K mg base T) (hr.mono (show 4<=_ by decide)) rfl T.z85.m T.z85.F.kp T.z85.b .nil AD (AA (vv 0) (AA (vv 1) AB))) AB)))) (by rfl) (by symm)) (@AI _ _ _ (@AK _ _ _ _ (AQ (Bm (K:=K)) (vv 2) (Af (N':=["_law_k","_law_whole"]) (own:=1) (ix:=[0]) rfl (BG rfl T.zC (AA AE AB)) (by kernel_rfl) rfl rfl (by kernel_rfl) (λc=>AM (i:=0) (show(["_law_k","_law_whole"]:List Str).Nodup by decide +kernel) rfl (by right)) (AV (by decide)) (λc=>Ag) (λc=>(zq (K:=K) (AG (@N6 P w K mg base T B) (hr.mono (show 6<=_ by decide)) rfl T.z75.m T.z75.F.kp T.z75.b .nil AD (AA (vv 1) (AA (vv 0) AB))) AE))))))),?_⟩;generalize T.zU=Pt at *;refine⟨m,_,S,k,li,λl vs H1 n1 s1 g1 r1=>?_⟩;refine⟨m,_,S.same s1,k,li,λp2 H2 n2 s2 g2=>?_⟩;refine⟨m,_,x,y,S.same (s1.trans s2),k,li,(s1.trans s2).sqT Z,hy,nx,ny,λg N n3 s3 g3=>?_⟩;refine⟨smq rfl,λt nf=>?_⟩;dsimp only[AW];have s4:=EE.upd (o:=.lst [.ref l,.ref p2,.ref g]) nf;have G:upd N t (.lst [.ref l,.ref p2,.ref g]) t=some (.lst [.ref l,.ref p2,.ref g]):=AF;generalize upd N t (.lst [.ref l,.ref p2,.ref g])=O at *;have sa:=((s1.trans s2).trans s3).trans s4;have V:=S.same sa;have R:=X.same sa
 have r4:za K O [.lst (lvD m (wt m (AC f)) (m+1)),shD (Ct m (wt m (AC f))) ((2^(2*m):Nat):Int),shD (stW m y+stP m (wt m (AC f)) x y (m+1)) (2*stW m y)] [.ref l,.ref p2,.ref g] :=
  AU (by unfold zf;exact⟨l,_,rfl,.of (((s2.trans s3).trans s4) _ _ g1),za.same ((s2.trans s3).trans s4) _ _ r1⟩) (AU (Ax ((s3.trans s4) _ _ g2) (AU A6 (AU A6 Ab))) (AU (Ax (s4 _ _ g3) (AU A6 (AU A6 Ab))) Ab))
 obtain⟨pz,J,_⟩:=id R;refine⟨4,rfl,by decide,by decide,?_⟩;refine CB (λi ys H'=>zu Pt O H'/\zx Pt CL CD H'/\ys=iL (CW m f i)) ⟨zu.refl _ _,R,rfl⟩ (λi ys H' hi ⟨_,_,e⟩=>by rw[e,Ai];unfold CW;rw[ZBB,ZBc];exact AX (by have:i<4:=hi;lia)) ?_ ?_
 ·rintro i ys v hi ⟨j,C,rfl⟩;rw[ZCQ];refine⟨m,i,f,.of (zf.tab j J _ _ V.rep),k,hf,rfl,C,λu U p D r6=>?_⟩;obtain⟨b,z,rfl,Y⟩:=P8 r6;refine⟨_,_,.inr Y,Ak (n:=1) rfl rfl,j.trans p,D,?_⟩;unfold CW;rw[ZBw,ZBH,CK];rfl
 ·rintro ys v ⟨j,C,rfl⟩ r n5;rw[show Int.toNat 4=4 from rfl];have L:=EE.upd (o:=.lst (iL (CW m f 4))) n5;have W:upd v r (.lst (iL (CW m f 4))) r=some (.lst (iL (CW m f 4))):=AF;have I:=L _ _ (j _ _ (λz=>by rw[z,J]at G;cases G) G);have p:=j.trans (zu.same L);have D:=C.same L;generalize upd v r (.lst (iL (CW m f 4)))=U at *;refine .inl ⟨t,r,_,_,rfl,rfl,I,W,EN (by rw[Ai];unfold CW;rw[ZBB,ZBc];exact(show 3+4<=1000 by decide)),λp7 n7=>?_⟩;have M:=EE.upd (o:=.lst ([.ref l,.ref p2,.ref g]++iL (CW m f 4))) n7;refine q _ _ (((zu.same sa).trans p).trans (zu.same M)) (D.same M) ?_;unfold Cz zf;exact⟨p7,_,rfl,.of AF,(za.same M _ _ (za.tab p J _ _ r4)).append (Ke _)⟩
def Eo(K:W.Frag)(Pt:Addr):Sp:=λvs H Q _=>match vs with
 | [.int z,u,v,.ref l,.ref tn,.int g]=>∃(n r k:Nat) (o:Bool) (f:List Bool) (p:List Nat),z=n/\1<=n/\n<=5/\Ord n p/\zr K H l (iL p)/\f.length=2^n/\SumAt K H u n (AL (wt n (AC f)) (2^n))/\SumAt K H v n (AL (wt n (AC (anB n (nth p) r o f))) (2^n))/\r<2^n/\zj K H tn [.int (r:Nat),.bl o]/\g=k/\zx Pt CL CD H /\
  ∀H',zu Pt H H'->zx Pt CL CD H'->Q (.bl true) H'
 | _=>False
theorem Tu:AT (Eo K Pt):=λvs H Q f E h q=>by
 unfold Eo at *;walk_at "q"
theorem Dm{d:Dv}{ds:List Dv}(h:za K H (d::ds) xs):∃x l,xs=x::l/\zf K H d x/\za K H ds l:=by unfold za at h;exact h
theorem aq(B:BMn mg base):Ok_ P w base T.z28 8 (Eo K T.zU):=by
 refine T.z28.F.ok sc_z28 (λvs H Q E h=>by unfold Eo at h;walk_at "e") ?_;walk_at "f";unfold Eo at h;walk_at "g"
 rename_i z u v l tn kk;obtain⟨n,r,k,o,f,p,D,n1,n5,hp,hl,hf,Su,Sv,t,a4,e2,hL,q⟩:=h;subst D e2;have pm:=Ord.pm hp;have n6:n<=6:=by lia
 refine⟨_,(@AH _ _ _ _ _ (@Cu _ _ _ _ _ _ (AG (@VX P w K mg base T B) (hr.mono (show 7<=_ by decide)) rfl T.z47.m T.z47.F.kp T.z47.b .nil AD (AA (vv 1) (AA (vv 5) AB))) (HR (K:=K) (n:=2) rfl (Ad (AM (i:=6) sc_z28.nd rfl (by right)) (Ad (AM (i:=7) sc_z28.nd rfl (by right)) BJ))) (by rfl) (by rfl) (by rfl)) (@AH _ _ _ _ _ (@AO _ _ 8 _ _ _ _ sc_z28.nd rfl (by right) (BS (AA (AG (@Rq P w K mg base T) (hr.mono (show 4<=_ by decide)) rfl T.z58.m T.z58.F.kp T.z58.b .nil AD (AA (vv 0) (AA (vv 6) (AA (vv 3) (AA (zq (K:=K) (vv 4) AE) (AA (zq (K:=K) (vv 4) AE) AB)))))) (AA (BS AB) AB))) (by rfl) (by symm)) (@AH _ _ _ _ _ (@AO _ _ 9 _ _ _ _ sc_z28.nd rfl (by right) (Bi (B9 (K:=K)) rfl T.zG (by rfl) (AA (Af (N':=["_law_one","_law_reason","_law_n","_law_order_here"]) (own:=2) (ix:=[0,3]) rfl (Uo (K:=K) rfl T.zR (AA (vv 7) AB)) (by kernel_rfl) rfl rfl (by kernel_rfl) (λc=>Bh (K:=K) (n:=2) rfl (Ad (AM (i:=0) (show(["_law_one","_law_reason","_law_n","_law_order_here"]:List Str).Nodup by decide +kernel) rfl (by right)) (Ad (AM (i:=1) (show(["_law_one","_law_reason","_law_n","_law_order_here"]:List Str).Nodup by decide +kernel) rfl (by right)) BJ))) (Ba (Al AY (BQ AY Aj) (AV (by decide)) (Al AY Aj (AV (by decide)) Bf))) (λc=>Ag) (λc=>(BS (AA (AG (@HS P w K mg base T) (hr.mono (show 3<=_ by decide)) rfl T.z40.m T.z40.F.kp T.z40.b .nil AD (AA (vv 2) (AA (vv 0) (AA (vv 3) AB)))) (AA (vv 1) AB))))) AB)) (by rfl) (by symm)) (@AI _ _ _ (@AK _ _ _ _ (BK Ta (AG (@Xz P w K mg base T) (hr.mono (show 6<=_ by decide)) rfl T.z55.m T.z55.F.kp T.z55.b .nil AD (AA (vv 2) (AA (vv 5) (AA (BS (AA (zq (K:=K) (vv 8) AE) (AA (vv 9) AB))) AB)))) BE)))))),?_⟩;generalize T.zU=Pt at *;obtain⟨pz,hP,_⟩:=id hL;refine⟨n,k,f,Su,n6,hf,rfl,hL,λw1 H1 U L1 r1=>?_⟩;rw[YA]at r1;have Z:SumAt K H1 v n _:=.of (zf.tab U hP _ _ Sv.rep);have M:zr K H1 l (iL p):=Kw U hP hl;have y:zj K H1 tn [.int (r:Nat),.bl o]:=GR U hP a4;have hb:=QI n (wt n (AC f)) (BN n k f (BI n k));have tw:=LF pm t o (An n (wt n (AC f)) (BN n k f (BI n k)));have ok:=Wf (k:=k) pm t (LF pm t o f) tw;have b6:=FO n (min n k) (2^n);have c0:∀S∈Am n (min n k) (2^n),S<2^n:=λS hS=>FV hS
 generalize An n (wt n (AC f)) (BN n k f (BI n k))=bb at *;generalize Am n (min n k) (2^n)=sl at *;have b5:2^n<=32:=ZBL (n:=2) (j:=5) (by decide) n5;unfold DW at r1;obtain⟨wa,xs,rfl,b0,C⟩:=BM r1;obtain⟨x1,xs,rfl,rb,C⟩:=Dm C;obtain⟨x2,xs,rfl,rc,C⟩:=Dm C;have e0:xs=[]:=by unfold za at C;exact C
 subst e0;obtain⟨tb,ys,rfl,a3,rb⟩:=BM rb;obtain⟨cv,cs,rfl,L,rc⟩:=BM rc;have eb:=HK _ _ rb;subst eb;have lc:=rc.length;rw[ZBB,ZBB]at lc;refine⟨[.ref tb,.ref cv],.inr b0,rfl,_,_,rfl,_,_,rfl,rfl,?_⟩;dsimp only[AW];refine⟨_,_,.inr y,Ak (n:=0) rfl rfl,_,_,.inr y,Ak (n:=1) rfl rfl,n,r,bb,p,rfl,n5,a3,hb,hp,M,rfl,t,λN H2 na s2 g2=>?_⟩;refine⟨ZBT _,λpe ne=>⟨smq rfl,λpp np=>?_⟩⟩;dsimp only[AW];have s3:=EE.upd (o:=.tup []) ne;have s4:=EE.upd (o:=.tup [.ref N,.ref pe]) np;have g4:upd (upd H2 pe (.tup [])) pp (.tup [.ref N,.ref pe]) pp=some (.tup [.ref N,.ref pe]):=AF;have a0:=s4 _ _ (s3 _ _ g2);have g:=(s2.trans s3).trans s4;generalize upd (upd H2 pe (.tup [])) pp (.tup [.ref N,.ref pe])=H4 at *;refine⟨cs,g.sqT L,by lia,?_⟩;refine aQ (xs:=cs) (by lia) (λi ys H'=>EE H4 H'/\ys.length=i/\za K H' (((sl.reverse.take i).map λS=>(rn n p.idxOf S,Str.ofString "whole")).map Cd) ys) ⟨EE.refl _,rfl,Ab⟩ (λi ys H' _ ⟨s,_⟩=>(g.trans s).sqT L) (λi ys H' hi ⟨_,e,_⟩=>by rw[e];exact AX (by lia)) ?_ ?_
 ·rintro i x ys X hx ⟨s5,ey,V⟩
  have hi:i<cs.length:=by
   have:=(ZBW.mp hx).1
   rwa [List.length_reverse]at this
  have hk:sl.length-1-i<sl.length:=by lia
  have hS:sl.reverse[i]?=some sl[sl.length-1-i]:=by rw[List.getElem?_reverse (by lia),ZBE hk]
  rw[List.getElem?_reverse hi]at hx;obtain⟨x',D,C⟩:=rc.get (show((sl.map λs=>(s,Str.ofString "whole")).map Cd)[cs.length-1-i]?=some (Cd (sl[sl.length-1-i],Str.ofString "whole")) by rw[ZBg,ZBJ,show cs.length-1-i=sl.length-1-i by lia,ZBE hk];rfl);rw[hx]at D;cases D;obtain⟨c,us,rfl,hc,J⟩:=BM C;obtain⟨y1,us,rfl,D,J⟩:=Dm J;obtain⟨y2,us,rfl,e2,J⟩:=Dm J;have e0:us=[]:=by unfold za at J;exact J
  unfold zf at D e2;subst e0 D e2;refine⟨c,_,rfl,(g.trans s5).sqT hc,rfl,_,_,rfl,_,_,rfl,rfl,n,_,p,rfl,n5,rfl,hp,(g.trans s5).sqL M,λY O=>⟨smq rfl,λpc nc=>?_⟩⟩;have R:=EE.upd (o:=.tup [.int (rn n p.idxOf sl[sl.length-1-i]:Nat),.str (Str.ofString "whole")]) nc;refine⟨(s5.trans O).trans R,by rw[ZBS,ey];rfl,?_⟩;rw[ZBl,hS,ZBH,ZBH];exact(za.same (O.trans R) _ _ V).append (AU (Ax AF (AU A6 (AU Mw Ab))) Ab)
 rintro ys X ⟨s5,ey,V⟩ lq nq;rw[show cs.length=sl.reverse.length by rw[List.length_reverse];lia,ZCJ]at V;have O:=EE.upd (o:=.lst ys) nq;have g6:upd X lq (.lst ys) lq=some (.lst ys):=AF;have b2:=za.same O _ _ V;have b4:=s5.trans O;generalize upd X lq (.lst ys)=Y at *;refine⟨ys,.inl ⟨.of g6,λpt nt=>?_⟩⟩;dsimp only[AW];have R:=EE.upd (o:=.tup ys) nt;have g7:upd Y pt (.tup ys) pt=some (.tup ys):=AF;have b3:=za.same R _ _ b2;have I:=b4.trans R;generalize upd Y pt (.tup ys)=H7 at *;refine⟨_,_,.inr (.of (I _ _ g4)),Ak (n:=0) rfl rfl,smq rfl,λpq b1=>?_⟩;have W:=EE.upd (o:=.tup [.ref N,.ref pt]) b1;have G:=(g.trans I).trans W;refine⟨n,k,anB n (nth p) r o f,anB n (nth p) r o bb,(sl.reverse).map λS=>(rn n p.idxOf S,Str.ofString "whole"),Z.same G,n1,n6,rfl,Pl ..,?_,by rw[ZBB,List.length_reverse];lia,λc hc=>?_,λH9 s9=>?_⟩
 ·unfold DW;exact Ax AF (AU (Ax (W _ _ (I _ _ a0)) (Dg _)) (AU (Ax (W _ _ g7) (za.same W _ _ b3)) Ab))
 ·obtain⟨S,_,rfl⟩:=ZBN.mp hc;exact Ao ..
 ·rw[ok];exact q _ (U.trans (zu.same (G.trans s9))) (L1.same (G.trans s9))
theorem UT{x:Int}(z:0<y):shT x y*y=x*shB x y/\0<shB x y:=by
 have k:0<(x.gcd y:Int):=by
  have:x.gcd y≠0:=λe=>by
   have:=(Int.gcd_eq_zero_iff.mp e).2
   lia
  lia
 obtain⟨a,i⟩:=Int.gcd_dvd_left (a:=x) (b:=y);obtain⟨b,f⟩:=Int.gcd_dvd_right (a:=x) (b:=y)
 have j:shT x y=a:=by
  unfold shT
  conv=>lhs;lhs;rw[i]
  exact Int.mul_ediv_cancel_left _ (by lia)
 have e2:shB x y=b:=by
  unfold shB
  conv=>lhs;lhs;rw[f]
  exact Int.mul_ediv_cancel_left _ (by lia)
 rw[j,e2];generalize (x.gcd y:Int)=g at *;refine⟨by rw[f,i];ac_rfl,?_⟩;rw[f]at z;exact Int.pos_of_mul_pos_right z (by lia)
theorem Dq(h:∀b,b≠t->H' b=H b):zp t H H':=λb o n e=>by rw[h b n];exact e
theorem Ol{G:Addr}{O:Array Value}(l:zx Pt pos q H)(g:zu G H H')(ne:Pt≠G)(hu:H G=some (.tbl O)):zx Pt pos q H':=by
 obtain⟨ps,a,b,c⟩:=l;refine⟨ps,g _ _ ne a,b,?_⟩
 rcases c with c | ⟨f,c,d⟩
 ·exact .inl c
 ·exact .inr ⟨f,c,g _ _ (λz=>by rw[z,hu]at d;cases d) d⟩
structure G94(K:W.Frag)(PA PB:Addr)(H:Hp)(t a:Addr)(ns:List Int)(l:Addr)(p:List Nat)(ds:List Dv)(xs:List V):Prop where
 F:Tape K H t a ns
 A:zx PA CL CD H
 B:En PB H
 ne:l≠t
 l:H l=some (.lst (iL p))
 tu:BA ds=true
 r:za K H ds xs
section
variable {PA PB:Addr}{H H':Hp}{t a l:Addr}{ns:List Int}{p:List Nat}{ds:List Dv}{xs:List V}
theorem G94.same(n:G94 K PA PB H t a ns l p ds xs)(s:EE H H'):G94 K PA PB H' t a ns l p ds xs:=⟨n.F.same s,n.A.same s,n.B.same s,n.ne,s _ _ n.l,n.tu,za.same s _ _ n.r⟩
theorem G94.frm(n:G94 K PA PB H t a ns l p ds xs)(F:Tape K H' t a ns)(f:zp t H H'):G94 K PA PB H' t a ns l p ds xs:=⟨F,Dk n.A n.F f,Dk n.B n.F f,n.ne,f _ _ n.ne n.l,n.tu,za.frm f n.F.lst _ _ n.tu n.r⟩
theorem G94.growA(n:G94 K PA PB H t a ns l p ds xs)(ne:PA≠PB)(g:zu PA H H')(L:zx PA CL CD H'):G94 K PA PB H' t a ns l p ds xs:=by
 obtain⟨i,f,_⟩:=id n.A;exact⟨QD n.F f g,L,Ol n.B g (Ne.symm ne) f,n.ne,g _ _ (λz=>by rw[<- z,n.l]at f;cases f) n.l,n.tu,za.tab g f _ _ n.r⟩
theorem G94.growB(n:G94 K PA PB H t a ns l p ds xs)(ne:PA≠PB)(g:zu PB H H')(L:En PB H'):G94 K PA PB H' t a ns l p ds xs:=by
 obtain⟨i,f,_⟩:=id n.B;exact⟨QD n.F f g,Ol n.A g ne f,L,n.ne,g _ _ (λz=>by rw[<- z,n.l]at f;cases f) n.l,n.tu,za.tab g f _ _ n.r⟩
end
theorem LN{tp:Addr}{f:List Bool}(h:zf K H (.tup (f.map Dv.bl)) (.ref tp)):zj K H tp (f.map V.bl):=by
 obtain⟨b,ys,e,h1,h2⟩:=BM h;cases e;rw[HK _ _ h2]at h1;exact h1
theorem Mz{tp:Addr}{d e:Dv}{x y:V}(hd:∀z,zf K H d z->z=x)(he:∀z,zf K H e z->z=y)(h:zf K H (.tup [d,e]) (.ref tp)):zj K H tp [x,y]:=by
 obtain⟨b,ys,z,h1,h2⟩:=BM h;cases z;obtain⟨i,l1,rfl,r1,h2⟩:=Dm h2;obtain⟨j,l2,rfl,g,h2⟩:=Dm h2;have f:l2=[]:=by unfold za at h2;exact h2
 subst f;rw[hd _ r1,he _ g]at h1;exact h1
theorem MZ{i:Int}(z:V)(h:zf K H (.int i) z):z=.int i:=by unfold zf at h;exact h
theorem Uw{b:Bool}(z:V)(h:zf K H (.bl b) z):z=.bl b:=by unfold zf at h;exact h
noncomputable def d94(n r:Nat)(o:Bool)(f g:List Bool)(x y:Int):List Dv:=[.tup (f.map Dv.bl),.tup (g.map Dv.bl),.tup [.int (r:Nat),.bl o],CZ n (AL (wt n (AC f)) (2^n)),CZ n (AL (wt n (AC g)) (2^n)),.tup [.int x,.int y]]
structure P94(K:W.Frag)(H:Hp)(n r:Nat)(o:Bool)(f g:List Bool)(x y:Int)(tp ap tn:Addr)(u v:V)(ps:Addr):Prop where
 tp:zj K H tp (f.map V.bl)
 ap:zj K H ap (g.map V.bl)
 tn:zj K H tn [.int (r:Nat),.bl o]
 u:SumAt K H u n (AL (wt n (AC f)) (2^n))
 v:SumAt K H v n (AL (wt n (AC g)) (2^n))
 ps:zj K H ps [.int x,.int y]
theorem G94.all{PA PB:Addr}{tp ap tn ps:Addr}{p:List Nat}{o:Bool}{f g:List Bool}{x:Int}{u:V}(G:G94 K PA PB H t a ns l p (d94 n r o f g x y) [.ref tp,.ref ap,.ref tn,u,v,.ref ps]):P94 K H n r o f g x y tp ap tn u v ps:=by
 have h:=G.r;unfold d94 at h
 have at_:∀i d z,(d94 n r o f g x y)[i]?=some d->([.ref tp,.ref ap,.ref tn,u,v,.ref ps]:List V)[i]?=some z->zf K H d z:=λi d z h1 h2=>by
  obtain⟨k,j,e2⟩:=G.r.get h1;rw[h2]at j;cases j;exact e2
 exact⟨LN (at_ 0 _ _ rfl rfl),LN (at_ 1 _ _ rfl rfl),Mz MZ Uw (at_ 2 _ _ rfl rfl),.of (at_ 3 _ _ rfl rfl),.of (at_ 4 _ _ rfl rfl),Mz MZ MZ (at_ 5 _ _ rfl rfl)⟩
theorem Va(n r:Nat)(o:Bool)(f g:List Bool)(x y:Int):BA (d94 n r o f g x y)=true:=by
 have i:=λh=>HI (AL (wt n (AC h)) (2^n))
 unfold d94 CZ;simp[BA,Bd,i,Em]
theorem Z7(B:BMn mg base):FnOk P w K mg base CX0 97 T.yn T.yo ["_law_script"] (IC K [T.zU,T.zT]):=by
 have D:=@LQ P w K mg base T;have b0:=@FN P w K mg base T;have c0:=@QM P w K mg base T;have a3:=@bo P w K mg base T B;have b1:=@OT P w K mg base T;have a4:=@HS P w K mg base T;have b3:=@TN P w K mg base T;have b6:=@ZU P w K mg base T B;have b5:=@UH P w K mg base T;refine T.Z0f.ok sc_law (λvs H Q E h=>by obtain⟨a,ns,rfl,_⟩:=h;rfl) ?_;walk_at "f";have C:=hr.mono (show 1<=_ by decide);have R:=hr.mono (show 1<=_ by decide);have a0:=hr.mono (show 3<=_ by decide);have M:=hr.mono (show 7<=_ by decide);have U:=hr.mono (show 1<=_ by decide);have O:=hr.mono (show 3<=_ by decide);have W:=hr.mono (show 5<=_ by decide);have Y:=hr.mono (show 96<=_ by decide);have X:=hr.mono (show 4<=_ by decide);obtain⟨a,ns,rfl,hS,zk,d2,q⟩:=h;refine⟨_,(@AH _ _ _ _ _ (@AO _ _ 1 _ _ _ _ sc_law.nd rfl (by right) (AG (@Uv P w K mg base T) (hr.mono (show 1<=_ by decide)) rfl T.z57.m T.z57.F.kp T.z57.b .nil AD (AA (vv 0) AB)) (by rfl) (by symm)) (@AH _ _ _ _ _ (@CU _ _ _ _ _ _ _ _ PassesOwn.never rfl (BG rfl T.zC (AA AE AB)) (AM (i:=2) sc_law.nd rfl (by right)) (@AH _ _ _ _ _ (@AO _ _ 3 _ _ _ _ sc_law.nd rfl (by right) (AQ (Bm (K:=K)) AE (AG D C rfl T.z53.m T.z53.F.kp T.z53.b .nil AD (AA (vv 1) (AA AE AB)))) (by rfl) (by symm)) (@AH _ _ _ _ _ (@AO _ _ 4 _ _ _ _ sc_law.nd rfl (by right) (AG (@Sx P w K mg base T) (hr.mono (show 4<=_ by decide)) rfl T.z51.m T.z51.F.kp T.z51.b .nil AD (AA (vv 1) (AA (vv 3) AB))) (by rfl) (by symm)) (@AH _ _ _ _ _ (@AO _ _ 5 _ _ _ _ sc_law.nd rfl (by right) (AG (@am P w K mg base T) (hr.mono (show 2<=_ by decide)) rfl T.z50.m T.z50.F.kp T.z50.b .nil AD (AA (vv 1) (AA (vv 3) AB))) (by rfl) (by symm)) (@AH _ _ _ _ _ (@AO _ _ 6 _ _ _ _ sc_law.nd rfl (by right) (BS (AA (AG D C rfl T.z53.m T.z53.F.kp T.z53.b .nil AD (AA (vv 1) (AA (AG b0 R rfl T.z60.m T.z60.F.kp T.z60.b .nil AD (AA (vv 3) AB)) AB))) (AA (BK (kEq (K:=K) hu) (AG D C rfl T.z53.m T.z53.F.kp T.z53.b .nil AD (AA (vv 1) (AA AE AB))) AE) AB))) (by rfl) (by symm)) (@AH _ _ _ _ _ (@AO _ _ 7 _ _ _ _ sc_law.nd rfl (by right) (AG (@Rq P w K mg base T) (hr.mono (show 4<=_ by decide)) rfl T.z58.m T.z58.F.kp T.z58.b .nil AD (AA (vv 3) (AA (vv 4) (AA (vv 5) (AA (zq (K:=K) (vv 6) AE) (AA (zq (K:=K) (vv 6) AE) AB)))))) (by rfl) (by symm)) (@AH _ _ _ _ _ (@AO _ _ 8 _ _ _ _ sc_law.nd rfl (by right) (AG c0 a0 rfl T.z83.m T.z83.F.kp T.z83.b .nil AD (AA (vv 4) AB)) (by rfl) (by symm)) (@AH _ _ _ _ _ (@AO _ _ 9 _ _ _ _ sc_law.nd rfl (by right) (AG c0 a0 rfl T.z83.m T.z83.F.kp T.z83.b .nil AD (AA (vv 7) AB)) (by rfl) (by symm)) (@AH _ _ _ _ _ (@AO _ _ 10 _ _ _ _ sc_law.nd rfl (by right) (AQ (Bm (K:=K)) AE (AG D C rfl T.z53.m T.z53.F.kp T.z53.b .nil AD (AA (vv 1) (AA AE AB)))) (by rfl) (by symm)) (@AH _ _ _ _ _ (@AO _ _ 11 _ _ _ _ sc_law.nd rfl (by right) (AG (@Jm P w K mg base T) (hr.mono (show 2<=_ by decide)) rfl T.z69.m T.z69.F.kp T.z69.b .nil AD (AA (AG D C rfl T.z53.m T.z53.F.kp T.z53.b .nil AD (AA (vv 1) (AA (AQ (Bm (K:=K)) (vv 10) AE) AB))) (AA (vv 10) AB))) (by rfl) (by symm)) (@AH _ _ _ _ _ (@Av _ _ _ _ _ _ _ _ (Do (BU (AG (@WM P w K mg base T) (hr.mono (show 4<=_ by decide)) rfl T.z30.m T.z30.F.kp T.z30.b .nil AD (AA (vv 3) (AA (vv 8) (AA (vv 9) (AA (vv 5) AB))))))) (@AI _ _ _ (@AK _ _ _ _ BE)) Aw) (@AH _ _ _ _ _ (@Av _ _ _ _ _ _ _ _ (Ah (kNe (K:=K) hu) (AG a3 M rfl T.z36.m T.z36.F.kp T.z36.b .nil AD (AA (vv 8) (AA (vv 11) AB))) (AG a3 M rfl T.z36.m T.z36.F.kp T.z36.b .nil AD (AA (vv 9) (AA (vv 11) AB)))) (@AI _ _ _ (@AK _ _ _ _ BE)) Aw) (@AH _ _ _ _ _ (@Av _ _ _ _ _ _ _ _ (Ah (kNe (K:=K) hu) (AG b1 U rfl T.z62.m T.z62.F.kp T.z62.b .nil AD (AA (vv 9) AB)) (AG a4 O rfl T.z40.m T.z40.F.kp T.z40.b .nil AD (AA (vv 3) (AA (AG b1 U rfl T.z62.m T.z62.F.kp T.z62.b .nil AD (AA (vv 8) AB)) (AA (vv 5) AB))))) (@AI _ _ _ (@AK _ _ _ _ BE)) Aw) (@AH _ _ _ _ _ (@CU _ _ _ _ _ _ _ _ PassesOwn.never rfl (BG rfl T.zC (AA AE AB)) (AM (i:=12) sc_law.nd rfl (by right)) (@AH _ _ _ _ _ (@AO _ _ 13 _ _ _ _ sc_law.nd rfl (by right) (AG D C rfl T.z53.m T.z53.F.kp T.z53.b .nil AD (AA (vv 1) (AA (AG b0 R rfl T.z60.m T.z60.F.kp T.z60.b .nil AD (AA (vv 3) AB)) AB))) (by rfl) (by symm)) (@AI _ _ _ (@Av _ _ _ _ _ _ _ _ (Ah (kNe (K:=K) hu) (AG b3 W rfl T.z70.m T.z70.F.kp T.z70.b .nil AD (AA (vv 8) (AA (vv 13) AB))) (AG b3 W rfl T.z70.m T.z70.F.kp T.z70.b .nil AD (AA (vv 9) (AA (AG a4 O rfl T.z40.m T.z40.F.kp T.z40.b .nil AD (AA (vv 3) (AA (vv 13) (AA (vv 5) AB)))) AB)))) (@AI _ _ _ (@AK _ _ _ _ BE)) Aw))) (by intro _;rfl)) (@AH _ _ _ _ _ (@Av _ _ _ _ _ _ _ _ (PW.pt (Hz (Ah Cy (vv 3) AE) (IE (Ah (kNe (K:=K) hu) (zq (K:=K) (AG b6 Y rfl T.z79.m T.z79.F.kp T.z79.b .nil AD (AA (AG b5 X rfl T.z73.m T.z73.F.kp T.z73.b .nil AD (AA (vv 4) AB)) AB)) AE) (zq (K:=K) (AG b6 Y rfl T.z79.m T.z79.F.kp T.z79.b .nil AD (AA (AG b5 X rfl T.z73.m T.z73.F.kp T.z73.b .nil AD (AA (vv 7) AB)) AB)) AE))))) (@AI _ _ _ (@AK _ _ _ _ BE)) Aw) (@AI _ _ _ (@Av _ _ _ _ _ _ _ _ (Do (BU (AG (@aq P w K mg base T B) (hr.mono (show 8<=_ by decide)) rfl T.z28.m T.z28.F.kp T.z28.b .nil AD (AA (vv 3) (AA (vv 8) (AA (vv 9) (AA (vv 5) (AA (vv 6) (AA (AG D C rfl T.z53.m T.z53.F.kp T.z53.b .nil AD (AA (vv 1) (AA AE AB))) AB))))))))) (@AI _ _ _ (@AK _ _ _ _ BE)) Aw)))))))))))))))) (by intro _;rfl)) (@AI _ _ _ (@AK _ _ _ _ BE)))),?_⟩;have np:=T.np_0;have A0:zx T.zU CL CD H:=Ph (d2 _ (by simp));have B0:En T.zT H:=Ph (d2 _ (by simp));generalize T.zU=PA at *;generalize T.zT=PB at *;refineλt ht=>?_
 dsimp only[AW];have F1:=SX ht hS;have s1:=EE.upd (o:=.lst [.ref a,.int 0,.int 0,.int 0]) ht;have A1:=A0.same s1;have B1:=B0.same s1;generalize upd H t (.lst [.ref a,.int 0,.int 0,.int 0])=H1 at *;refine⟨3,rfl,by decide,by decide,?_⟩;refine DH (λi Z H'=>(∃z2 z3 z4 z5 z6 z7 z8 z9 d5 d6 J L:Option V,Z=[some (.ref a),some (.ref t),z2,z3,z4,z5,z6,z7,z8,z9,d5,d6,J,L])/\Tape K H' t a ns/\zx PA CL CD H'/\En PB H') ⟨⟨_,_,_,_,_,_,_,_,_,_,_,_,rfl⟩,F1,A1,B1⟩ ?_ (λZ H' _=>q H');clear F1 A1 B1 A0 B0 s1 ht H1;rintro i Z H2 hi ⟨⟨z2,z3,z4,z5,z6,z7,z8,z9,d5,d6,J,L,rfl⟩,F2,A2,B2⟩;refine⟨a,ns,F2,BZ (by decide) (by decide),λd1 H3 g5 g6 F3 f3=>?_⟩;dsimp only[D4,AW];obtain⟨m,em⟩:∃m:Nat,1+d1=(m:Int):=⟨(1+d1).toNat,by lia⟩;rw[em];have m1:1<=m:=by lia
 have m5:m<=5:=by lia
 have m6:m<=6:=by lia
 have h6:2^m<=32:=ZBL (n:=2) (j:=5) (by decide) m5;have fu:=Dq f3;have A3:=Dk A2 F2 fu;have B3:=Dk B2 F2 fu;clear F2 A2 B2 f3 fu;refine⟨a,ns,m,F3,rfl,m1,m6,λf tp H4 hf g0 c9 F4 c4=>?_⟩;dsimp only[AW];have A4:=Dk A3 F3 c4;have B4:=Dk B3 F3 c4;have r4:zf K H4 (.tup (f.map Dv.bl)) (.ref tp):=Ax c9 (Dg _);clear A3 B3 c4 c9 g0 F3;refine⟨a,ns,m,F4,rfl,m5,λp l H5 hp nl gl F5 c2=>?_⟩;dsimp only[AW];have e9:=F4.neT nl;have G5:G94 K PA PB H5 t a ns l p [.tup (f.map Dv.bl)] [.ref tp]:=⟨F5,Dk A4 F4 c2,Dk B4 F4 c2,e9,gl,by unfold BA Bd;rw[Em];rfl,AU (zf.frm c2 F4.lst _ _ (by unfold Bd;exact Em _) r4) Ab⟩;clear A4 B4 r4 F5 c2 gl nl F4 H4;have c1:((2:Int)^(m:Int).toNat)=((2^m:Nat):Int):=by rw[ZBj,ZC1];rfl
 have c8:okDiv ((2:Int)^(m:Int).toNat):=BZ (by rw[c1];have:=ZBn m;lia) (by rw[c1];exact ZC4 (b:=1000) (by lia) (by decide));refine⟨by lia,by lia,λH6 s6=>⟨a,ns,(G5.same s6).F,c8,λd7 H7 c6 c7 F7 f7=>?_⟩⟩;have G7:=(G5.same s6).frm F7 (Dq f7);refine⟨a,ns,F7,BZ (by decide) (by decide),λd8 H8 d9 e0 F8 f8=>?_⟩;have G8:=G7.frm F8 (Dq f8);rw[c1]at c7;obtain⟨r,rfl⟩:=ZC2 c6;have I:r<2^m:=by lia
 refine⟨smq rfl,λtn f9=>?_⟩;dsimp only[AW];rw[show(V.bl (false ^^ (d8==0)))=V.bl (d8==0) by rw[ZB5]];generalize (d8==0)=o at *;have s9:=EE.upd (o:=.tup [.int (r:Nat),.bl o]) f9;have g9:upd H8 tn (.tup [.int (r:Nat),.bl o]) tn=some (.tup [.int (r:Nat),.bl o]):=AF;have G9:=G8.same s9;generalize upd H8 tn (.tup [.int (r:Nat),.bl o])=H9 at *;clear G5 G7 G8 s6 f7 f8 s9 F7 F8 d9 e0 c6 c7;obtain⟨x1,e1,r1⟩:=G9.r.get (i:=0) rfl;cases e1;have st:=LN r1;refine⟨_,_,.inr (.of g9),Ak (n:=0) rfl rfl,_,_,.inr (.of g9),Ak (n:=1) rfl rfl,m,r,f,p,rfl,m5,st,hf,hp,.of G9.l,rfl,I,λap Ha na sa ga=>?_⟩;dsimp only[AW];have lg:=Pl m (nth p) r o f;have pm:=Ord.pm hp;have tw:=LF pm I o f;generalize hg:anB m (nth p) r o f=g at *;refine⟨m,f,m6,hf,sa.sqT st,λu Hb sb Su=>?_⟩;dsimp only[AW];refine⟨m,g,m6,lg,.of (sb _ _ ga),λv Hc sc Sv=>?_⟩;dsimp only[AW];have c5:=(sa.trans sb).trans sc;have Gc:=G9.same c5;refine⟨a,ns,Gc.F,BZ (by decide) (by decide),λdb Hd g8 h3 Fd fd=>?_⟩;dsimp only[D4,AW];have c3:=Dq fd;have Gd:=Gc.frm Fd c3
 have rest:za K Hd [.tup (g.map Dv.bl),.tup [.int (r:Nat),.bl o],CZ m (AL (wt m (AC f)) (2^m)),CZ m (AL (wt m (AC g)) (2^m))] [.ref ap,.ref tn,u,v] :=
  za.frm c3 Gc.F.lst _ _ (by have e1:=λh=>HI (AL (wt m (AC h)) (2^m));unfold CZ;simp[BA,Bd,e1,Em]) (AU (Ax ((sb.trans sc) _ _ ga) (Dg _)) (AU (Ax (c5 _ _ g9) (AU A6 (AU Nj Ab))) (AU (zf.same sc _ _ Su.rep) (AU Sv.rep Ab))))
 refine⟨a,ns,Gd.F,BZ (by lia) (ZC4 (b:=1000) (by lia) (by decide)),λdt He h4 h5 Fe fe=>?_⟩;have Ge:=Gd.frm Fe (Dq fe);have rest:=za.frm (Dq fe) Gd.F.lst _ _ (by have e1:=λh=>HI (AL (wt m (AC h)) (2^m));unfold CZ;simp[BA,Bd,e1,Em]) rest;have e6:(1000:Nat)<2^1000:=by decide
 refine⟨by lia,by lia,by lia,λps f5=>?_⟩;dsimp only[AW];have sm:=Qx (a:=dt) (b:=1+db) (N:=2^66) (by lia) (by lia) (by lia);have sp:=(UT (x:=dt) (y:=1+db) (by lia)).2;have sf:=EE.upd (o:=.tup [.int (shT dt (1+db)),.int (shB dt (1+db))]) f5;have gf:upd He ps (.tup [.int (shT dt (1+db)),.int (shB dt (1+db))]) ps=some (.tup [.int (shT dt (1+db)),.int (shB dt (1+db))]):=AF;have Gf:=Ge.same sf;have rest:=za.same sf _ _ rest;generalize upd He ps (.tup [.int (shT dt (1+db)),.int (shB dt (1+db))])=Hf at *;generalize shT dt (1+db)=x at *;generalize shB dt (1+db)=y at *;have G:G94 K PA PB Hf t a ns l p (d94 m r o f g x y) [.ref tp,.ref ap,.ref tn,u,v,.ref ps]:=⟨Gf.F,Gf.A,Gf.B,Gf.ne,Gf.l,Va ..,Gf.r.append (rest.append (AU (Ax gf (AU A6 (AU A6 Ab))) Ab))⟩;clear Gf rest gf sf Ge Gd Gc G9 Su Sv c5 sa sb sc ga g9 st r1 fd c3 fe Fd Fe;refine⟨m,r,o,f,g,p,rfl,m5,hp,.of G.l,G.all.u,G.all.v,I,tw,λHg sg=>?_⟩;have Gg:=G.same sg;dsimp only[EH];refine⟨m,f,x,y,Gg.all.u,m5,hf,Gg.all.ps,sp,sm.1,sm.2.1,Gg.A,λv1 Hh gh lh rh=>?_⟩;have Gh:=Gg.growA np gh lh;obtain⟨pz,hP,_⟩:=id Gh.A;refine⟨m,g,x,y,Gh.all.v,m5,lg,Gh.all.ps,sp,sm.1,sm.2.1,Gh.A,λv2 Hi gi li ri=>?_⟩;have Gi:=Gh.growA np gi li;have rh:=zf.tab gi hP _ _ rh;rw[Vs pm I tw]at ri;obtain⟨q1,rfl⟩:∃q1,v1=.ref q1:=by unfold Cz zf at rh;obtain⟨q1,_,e,_⟩:=rh;exact⟨q1,e⟩
 obtain⟨q2,rfl⟩:∃q2,v2=.ref q2:=by unfold Cz zf at ri;obtain⟨q2,_,e,_⟩:=ri;exact⟨q2,e⟩
 refine⟨_,_,rh,ri,a6 ..,?_⟩
 show(if (true ^^ eqD (Cz m f x y) (Cz m f x y))=true then _ else _)
 rw[Ei];refine Di ?_;clear rh ri G Gg Gh hP gh gi lh li;dsimp only[EH];refine⟨m,_,Gi.all.v,m,_,Gi.all.u,m,_,p,rfl,m5,rfl,hp,.of Gi.l,λHj sj=>?_⟩;have Gj:=Gi.same sj
 show(if (true ^^ (((orL 0 (AL (wt m (AC g)) (2^m)):Nat):Int)==((rn m p.idxOf (orL 0 (AL (wt m (AC f)) (2^m))):Nat):Int)))=true then _ else _)
 rw[Rm pm I tw,show ∀z:Int,(true ^^ (z==z))=false fromλz=>by simp];refine Di ?_;clear Gi;dsimp only[EH];refine⟨6,rfl,by decide,by decide,?_⟩;refine DH (λi' Z H'=>(∃J L:Option V,Z=[some (.ref a),some (.ref t),some (.int (0+(i:Int))),some (.int (m:Nat)),some (.ref tp),some (.ref l),some (.ref tn),some (.ref ap),some u,some v,some (.int (1+db)),some (.ref ps),J,L])/\G94 K PA PB H' t a ns l p (d94 m r o f g x y) [.ref tp,.ref ap,.ref tn,u,v,.ref ps]) ⟨⟨_,_,rfl⟩,Gj⟩ ?_ ?_
 ·rintro i' Z Hk h7 ⟨⟨J,L,rfl⟩,Gk⟩;refine⟨by lia,by lia,λHl sl=>⟨a,ns,(Gk.same sl).F,c8,λd H6 d0 d1 F6 f6=>?_⟩⟩;have G6:=(Gk.same sl).frm F6 (Dq f6);rw[c1]at d1;obtain⟨S,rfl⟩:=ZC2 d0;dsimp only[AW];have e7:=FW m6 f;have e8:=FW m6 g;refine⟨m,S,_,G6.all.u,m6,e7,rfl,λp7 H7 n7 s7 g7=>?_⟩;have G7:=G6.same s7;refine⟨m,S,p,rfl,m5,rfl,hp,.of G7.l,λH8 s8=>⟨m,rn m p.idxOf S,_,(G7.same s8).all.v,m6,e8,rfl,λp9 H9 n9 s9 g9=>?_⟩⟩;rw[U2 pm I tw]at g9;have G9:=(G7.same s8).same s9;refine⟨shD (Bl m (wt m (AC f)) S) ((2^(2*m):Nat):Int),shD (Bl m (wt m (AC f)) S) ((2^(2*m):Nat):Int),Ax ((s8.trans s9) _ _ g7) (AU A6 (AU A6 Ab)),Ax g9 (AU A6 (AU A6 Ab)),by unfold shD;simp[At,BL],?_⟩;rw[Ei];exact⟨⟨_,_,rfl⟩,G9⟩
 rintro Z Hk ⟨⟨J,L,rfl⟩,Gk⟩;clear Gj;have h8:AT (Ef K PB):=VJ;have h9:AT (E2 K):=bz;have i0:AT (Eo K PA):=Tu;dsimp only;refine As (λZ H'=>Z=[some (.ref a),some (.ref t),some (.int (0+(i:Int))),some (.int (m:Nat)),some (.ref tp),some (.ref l),some (.ref tn),some (.ref ap),some u,some v,some (.int (1+db)),some (.ref ps),J,L]/\G94 K PA PB H' t a ns l p (d94 m r o f g x y) [.ref tp,.ref ap,.ref tn,u,v,.ref ps]) ?_ ?_ (by walk_at "sm")
 ·refine Aa (λe=>?_) (λe=>?_);rotate_left
  ·exact⟨rfl,Gk⟩
  have e:((m:Nat):Int)<5:=ZBY e;have m4:m<=4:=by lia
  refine⟨f,m,Gk.all.tp,hf,m1,m4,λu1 H1 s1 r1=>?_⟩;rw[P9]at r1;have G1:=Gk.same s1;refine⟨_,_,r1,RS hf m1 m4,GZ hf,G1.B,λtr es u2 H2 _ r2 g2 l2=>?_⟩;have G2:=G1.growB np g2 l2;obtain⟨b2,i1,rfl,e3,d3⟩:=BM r2;obtain⟨w2,l3,rfl,e2,d3⟩:=Dm d3;unfold zf at e2;subst e2;refine⟨_,_,.inr e3,Ak (n:=0) rfl rfl,?_⟩;refine⟨g,m,G2.all.ap,lg,m1,m4,λu3 H3 s3 r3=>?_⟩;rw[P9]at r3;have G3:=G2.same s3;refine⟨_,_,r3,RS lg m1 m4,GZ lg,G3.B,λtr es u4 H4 _ r4 g4 l4=>?_⟩;have G4:=G3.growB np g4 l4;obtain⟨b4,i2,rfl,e5,d4⟩:=BM r4;obtain⟨w4,l5,rfl,e4,d4⟩:=Dm d4;unfold zf at e4;subst e4;refine⟨_,_,.inr e5,Ak (n:=0) rfl rfl,?_⟩;have en:=Y9 pm I tw hf lg
  show(if (true ^^ (((Br (Be f) ((Ce m).map BW) (2^(Be f).length-1):Nat):Int)==((Br (Be g) ((Ce m).map BW) (2^(Be g).length-1):Nat):Int)))=true then _ else _)
  rw[en,show ∀z:Int,(true ^^ (z==z))=false fromλz=>by simp];exact Di ⟨rfl,G4⟩
 rintro _ Hl ⟨rfl,Gl⟩;refine⟨a,ns,Gl.F,BZ (by decide) (by decide),λdk H6 d0 d1 F6 f6=>?_⟩;have G6:=Gl.frm F6 (Dq f6);obtain⟨k,rfl⟩:=ZC2 d0;refine⟨m,r,k,o,f,p,rfl,m1,m5,hp,.of G6.l,hf,G6.all.u,by rw[hg];exact G6.all.v,I,G6.all.tn,rfl,G6.A,λH7 g7 l7=>?_⟩;have G7:=G6.growA np g7 l7;exact⟨⟨_,_,_,_,_,_,_,_,_,_,_,_,rfl⟩,G7.F,G7.A,G7.B⟩
end
abbrev DI(K:W.Frag)(n:Str)(st:Stmt)(f:Addr):Prop:=∃(oc kV dc pm cd ct:Value) (od an:Option Addr) (sl:Array (Option Value)),W.nsIn K mainGlobals n=some (some (.ref f))/\K.lookup f=some ⟨oc,od,.func (W.fnOf n n (CG st) (Bo st) (AJ st) .none kV dc pm an cd ct),sl⟩/\W.codeIn K cd n=true/\W.keepIn K (.ref f)=true
structure FD(K:W.Frag)(mg:Str->Option Value)(n:Str)(st:Stmt)(ps:List Str)(f:Addr) where
 d:FuncData
 F:Fun K n n st f d
 b:Binds K d ps []
 m:mg n=some (.ref f)
theorem DI.fd{h:Heap}{mg:Str->Option Value}{n:Str}{st:Stmt}{f:Addr}{ps:List Str}(i:DI K n st f)(X:K.In h)(G:h.Ns mainGlobals mg)(hb:∀(kV doc pm:Value) (an:Option Addr) (zy ct:Value) (us:List Value),us.length=ps.length->bindArgs (W.fnOf n n (CG st) (Bo st) (AJ st) .none kV doc pm an zy ct) ⟨us,[]⟩=pure (ps.zip us)):Nonempty (FD K mg n st ps f):=by
 obtain⟨oc,kV,dc,pm,cd,ct,od,an,sl,a,l,c,k⟩:=i;exact⟨⟨_,Dz l c k,(Dz l c k).binds hb,W.mg_of X G a⟩⟩
abbrev DM(K:W.Frag)(C:Addr)(n q:Str)(st:Stmt)(f:Addr):Prop:=∃(oc kV dc pm cd ct:Value) (od an:Option Addr) (sl:Array (Option Value)),W.findIn K (.ref C) n=some (some (.ref f))/\W.isFn K (.ref f)=true/\K.lookup f=some ⟨oc,od,.func (W.fnOf n q (CG st) (Bo st) (AJ st) .none kV dc pm an cd ct),sl⟩/\W.codeIn K cd q=true/\W.keepIn K (.ref f)=true
structure FM(K:W.Frag)(C:Addr)(n q:Str)(st:Stmt)(ps:List Str)(f:Addr) where
 d:FuncData
 F:Fun K n q st f d
 b:Binds K d ps []
 m:Meth K C n f
theorem DM.fm{n:Str}{st:Stmt}{f:Addr}{ps:List Str}(i:DM K C n q st f)(hb:∀(kV doc pm:Value) (an:Option Addr) (zy ct:Value) (us:List Value),us.length=ps.length->bindArgs (W.fnOf n q (CG st) (Bo st) (AJ st) .none kV doc pm an zy ct) ⟨us,[]⟩=pure (ps.zip us)):Nonempty (FM K C n q st ps f):=by
 obtain⟨oc,kV,dc,pm,cd,ct,od,an,sl,a,i,l,c,k⟩:=i;exact⟨⟨_,Dz l c k,(Dz l c k).binds hb,⟨a,i,k⟩⟩⟩
theorem all_di{n:Str}{st:Stmt}{f:Addr}{oc kV dc pm cd ct:Value}{od an:Option Addr}{sl:Array (Option Value)}(a:W.nsIn K mainGlobals n=some (some (.ref f)))(l:K.lookup f=some ⟨oc,od,.func (W.fnOf n n (CG st) (Bo st) (AJ st) .none kV dc pm an cd ct),sl⟩)(c:W.codeIn K cd n=true)(k:W.keepIn K (.ref f)=true):DI K n st f:=⟨_,_,_,_,_,_,_,_,_,a,l,c,k⟩
theorem all_dm{n:Str}{st:Stmt}{f:Addr}{oc kV dc pm cd ct:Value}{od an:Option Addr}{sl:Array (Option Value)}(a:W.findIn K (.ref C) n=some (some (.ref f)))(i:W.isFn K (.ref f)=true)(l:K.lookup f=some ⟨oc,od,.func (W.fnOf n q (CG st) (Bo st) (AJ st) .none kV dc pm an cd ct),sl⟩)(c:W.codeIn K cd q=true)(k:W.keepIn K (.ref f)=true):DM K C n q st f:=⟨_,_,_,_,_,_,_,_,_,a,i,l,c,k⟩
theorem all_mk {l:W.OpenLaw} {w:World} {h:Heap} {mg:Str->Option Value} {fa:Addr} (X:K.In h) (G:h.Ns mainGlobals mg) (hfa:mg "law" = some (.ref fa))
 {zA:Addr}
 {f26:Addr} {oc26 kV26 dc26 pm26 ct26:Value} {od26 an26:Option Addr} {sl26:Array (Option Value)} {g26 p26:Addr} {cvs26:Array Value} {cod26:Option Addr} {csl26:Array (Option Value)}
 {f39:Addr} {oc39 kV39 dc39 pm39 ct39:Value} {od39 an39:Option Addr} {sl39:Array (Option Value)} {g39 p39:Addr} {cvs39:Array Value} {cod39:Option Addr} {csl39:Array (Option Value)}
 {f76:Addr} {oc76 kV76 dc76 pm76 cd76 ct76:Value} {od76 an76:Option Addr} {sl76:Array (Option Value)}
 {ac_TABLE_LENGTHS:Addr} {sl_TABLE_LENGTHS:Array (Option Value)} {nc_TABLE_LENGTHS:Nat} {t_TABLE_LENGTHS_0 t_TABLE_LENGTHS_1 t_TABLE_LENGTHS_2 t_TABLE_LENGTHS_3 t_TABLE_LENGTHS_4 t_TABLE_LENGTHS_5:Tok}
 {zM:Tok}
 {f0 f1 f2 f3 f4 f5 f6 f7 f8 f9 f10 f11 f12 f13 f14 f15 f16 f17 f18 f19 f20 f21 f22 f23 f24 f25 f27 f28 f29 f30 f31 f32 f33 f34 f35 f36 f37 f38 f40 f41 f42 f43 f44 f45 f46 f47 f48 f49 f50 f51 f52 f53 f54 f55 f56 f57 f58 f59 f60 f61 f62 f63 f64 f65 f66 f67 f68 f69 f70 f71 f72 f73 f74 f75:Addr}
 (aC_Reckoner:W.nsIn K mainGlobals "Reckoner" = some (some (.ref zA)))
 (pg_Reckoner:W.plainGet K zA Str.empty=true)
 (hd_Reckoner:W.hasDictIn K zA=true)
 (po_Reckoner:W.plainOver K zA=true)
 (sa_Reckoner:W.findIn K (.ref zA) "__setattr__" = some (some (.builtin "object.__setattr__")))
 (zQ:W.makesIn K zA=true)
 (kc_Reckoner:W.keepIn K (.ref zA)=true)
 (na_labels_Reckoner:W.findIn K (.ref zA) "labels" = some none)
 (na_yeses_Reckoner:W.findIn K (.ref zA) "yeses" = some none)
 (na_alike_Reckoner:W.findIn K (.ref zA) "alike" = some none)
 (na_known_Reckoner:W.findIn K (.ref zA) "known" = some none)
 (i0:DI K "is_whole" KQ f0)
 (i1:DI K "is_below" Lz f1)
 (i2:DI K "two_to" Ik f2)
 (i3:DI K "power_of" J6 f3)
 (i4:DI K "is_place" LZ f4)
 (i5:DI K "is_table" JK f5)
 (i6:DI K "switches_of" MN f6)
 (i7:DI K "is_on" JD f7)
 (i8:DI K "sign" Iw f8)
 (i9:DI K "within" MR f9)
 (i10:DI K "many_in" JE f10)
 (i11:DI K "set_holding" IQ f11)
 (i12:DI K "members_of" Jl f12)
 (i13:DI K "sets_of" MF f13)
 (i14:DI K "share_of" Lq f14)
 (i15:DI K "common_divisor" IR f15)
 (i16:DI K "is_pair" J8 f16)
 (i17:DI K "sum_of" IN f17)
 (i18:DI K "told" Ip f18)
 (i19:DI K "weights_of" Kt f19)
 (i20:DI K "weights_within" L7 f20)
 (i21:DI K "sum_from" KD f21)
 (i22:DI K "times_signs" Jb f22)
 (i23:DI K "crossed" Ji f23)
 (i24:DI K "best_on" Kq f24)
 (i25:DI K "differences" JW f25)
 (a26:W.nsIn K mainGlobals "nearest" = some (some (.ref f26)))
 (l26:K.lookup f26=some ⟨oc26,od26,.func (W.fnOf "nearest" "nearest" (CG EW) (Bo EW) (AJ EW) .none kV26 dc26 pm26 an26 (.ref g26) ct26),sl26⟩)
 (c26:W.codeIn K (.ref g26) "nearest" = true)
 (k26:W.keepIn K (.ref f26)=true)
 (lc26:K.lookup g26=some ⟨.type "code",cod26,.fields cvs26,csl26⟩)
 (pv26:cvs26[11]?=some (.ref p26))
 (gh26:W.codeHdIn K g26 p26=true)
 (gt26:h.get? p26=some (W.tabObj #[]))
 (i27:DI K "near_paper" KO f27)
 (i28:DM K zA "__init__" "Reckoner.__init__" Js f28)
 (i29:DM K zA "everything" "Reckoner.everything" Ki f29)
 (i30:DM K zA "has_one_label" "Reckoner.has_one_label" IW f30)
 (i31:DM K zA "label_of" "Reckoner.label_of" MK f31)
 (i32:DM K zA "left_of" "Reckoner.left_of" Ib f32)
 (i33:DM K zA "fewest_among" "Reckoner.fewest_among" MB f33)
 (i34:DM K zA "fewest_reckoned" "Reckoner.fewest_reckoned" Je f34)
 (i35:DM K zA "parting" "Reckoner.parting" Iq f35)
 (i36:DM K zA "worst_behind" "Reckoner.worst_behind" K8 f36)
 (i37:DM K zA "harder_left" "Reckoner.harder_left" Mi f37)
 (i38:DM K zA "harder_lefts" "Reckoner.harder_lefts" MO f38)
 (a39:W.findIn K (.ref zA) "first_question" = some (some (.ref f39)))
 (i39:W.isFn K (.ref f39)=true)
 (l39:K.lookup f39=some ⟨oc39,od39,.func (W.fnOf "first_question" "Reckoner.first_question" (CG C2) (Bo C2) (AJ C2) .none kV39 dc39 pm39 an39 (.ref g39) ct39),sl39⟩)
 (c39:W.codeIn K (.ref g39) "Reckoner.first_question" = true)
 (k39:W.keepIn K (.ref f39)=true)
 (lc39:K.lookup g39=some ⟨.type "code",cod39,.fields cvs39,csl39⟩)
 (pv39:cvs39[11]?=some (.ref p39))
 (gh39:W.codeHdIn K g39 p39=true)
 (gt39:h.get? p39=some (W.tabObj #[]))
 (i40:DI K "members_where" KS f40)
 (i41:DI K "game_of" JJ f41)
 (i42:DI K "refuse_without_end" Li f42)
 (i43:DI K "first_unparted" L9 f43)
 (i44:DI K "fewest" Ml f44)
 (i45:DI K "best_tree" Mq f45)
 (i46:DI K "hard_paper" JA f46)
 (i47:DI K "matters" JZ f47)
 (i48:DI K "odd_squares" MM f48)
 (i49:DI K "is_odd_with" KH f49)
 (i50:DI K "hangs_on" Mh f50)
 (i51:DI K "altogether" Mu f51)
 (i52:DI K "levels" Ku f52)
 (i53:DI K "squares_by_level" Jv f53)
 (i54:DI K "over_all" KZ f54)
 (i55:DI K "met" Io f55)
 (i56:DI K "lets_near" LR f56)
 (i57:DI K "has_paper_form" J3 f57)
 (i58:DI K "lead_of" K2 f58)
 (i59:DI K "covers_all" Jk f59)
 (i60:DI K "is_so" MV f60)
 (i61:DI K "setting_by_setting" MH f61)
 (i62:DI K "stays" K4 f62)
 (i63:DI K "stays_by" J1 f63)
 (i64:DI K "_law_tape" Kp f64)
 (i65:DI K "_law_next" Lg f65)
 (i66:DI K "_law_two" JI f66)
 (i67:DI K "_law_bits" ML f67)
 (i68:DI K "_law_sign" IV f68)
 (i69:DI K "_law_table" Im f69)
 (i70:DI K "_law_order" J7 f70)
 (i71:DI K "_law_called" KB f71)
 (i72:DI K "_law_anew" Ks f72)
 (i73:DI K "_law_sums_right" LL f73)
 (i74:DI K "_law_measures" J4 f74)
 (i75:DI K "_law_paper_right" Il f75)
 (a76:W.nsIn K mainGlobals "law" = some (some (.ref f76)))
 (l76:K.lookup f76=some ⟨oc76,od76,.func (W.fnOf "law" "law" (CG DG) (Bo DG) (AJ DG) .none kV76 dc76 pm76 an76 cd76 ct76),sl76⟩)
 (c76:W.codeIn K cd76 "law" = true)
 (k76:W.keepIn K (.ref f76)=true)
 (zW:W.nsIn K mainGlobals "abs" = some none)
 (zZ:W.nsIn K mainGlobals "all" = some none)
 (ye:W.nsIn K mainGlobals "any" = some none)
 (zY:W.nsIn K mainGlobals "bool" = some none)
 (zE:W.nsIn K mainGlobals "enumerate" = some none)
 (yd:W.nsIn K mainGlobals "int" = some none)
 (zF:W.nsIn K mainGlobals "isinstance" = some none)
 (zP:W.nsIn K mainGlobals "len" = some none)
 (zX:W.nsIn K mainGlobals "list" = some none)
 (yg:W.nsIn K mainGlobals "max" = some none)
 (ya:W.nsIn K mainGlobals "min" = some none)
 (zC:W.nsIn K mainGlobals "range" = some none)
 (zR:W.nsIn K mainGlobals "reversed" = some none)
 (yf:W.nsIn K mainGlobals "set" = some none)
 (zS:W.nsIn K mainGlobals "sorted" = some none)
 (zV:W.nsIn K mainGlobals "sum" = some none)
 (zG:W.nsIn K mainGlobals "tuple" = some none)
 (yb:W.nsIn K mainGlobals "zip" = some none)
 (zK:W.nsIn K mainGlobals "TABLE_LENGTHS" = some (some (.ref ac_TABLE_LENGTHS)))
 (zJ:K.lookup ac_TABLE_LENGTHS=some ⟨.type "tuple",none,.seq #[.int 2 t_TABLE_LENGTHS_0,.int 4 t_TABLE_LENGTHS_1,.int 8 t_TABLE_LENGTHS_2,.int 16 t_TABLE_LENGTHS_3,.int 32 t_TABLE_LENGTHS_4,.int 64 t_TABLE_LENGTHS_5] nc_TABLE_LENGTHS,sl_TABLE_LENGTHS⟩)
 (zL:W.nsIn K mainGlobals "MOST_COVERS" = some (some (.int 64 zM)))
 (hnt:W.noTabs K=true)
 (np_0:p26≠p39) :
 ∃(fd:FuncData) (ts:List (Addr×Addr)),W.TabsAt ts h/\W.noTabs K=true/\(∀(s:Shared) (v:Value),BindsTo s fd ⟨[v],[]⟩ [("_law_script",v)])/\∀base:Heap,K.In base->base.Ns mainGlobals mg->BMn mg base->FnOk l.prog w K mg base CX0 97 fa fd ["_law_script"] (IC K (ts.map (·.2))):=by
 have e:=hfa.symm.trans (W.mg_of X G a76);cases e;obtain⟨Q0⟩:=i0.fd X G (ps:=["thing"]) λ_ _ _ _ _ _=>L2.on1 (λ_=>rfl)
 obtain⟨Q1⟩:=i1.fd X G (ps:=["bound","thing"]) λ_ _ _ _ _ _=>L2.on2 (λ_ _=>rfl)
 obtain⟨Q2⟩:=i2.fd X G (ps:=["n"]) λ_ _ _ _ _ _=>L2.on1 (λ_=>rfl)
 obtain⟨Q3⟩:=i3.fd X G (ps:=["base","times"]) λ_ _ _ _ _ _=>L2.on2 (λ_ _=>rfl)
 obtain⟨Q4⟩:=i4.fd X G (ps:=["n","thing"]) λ_ _ _ _ _ _=>L2.on2 (λ_ _=>rfl)
 obtain⟨Q5⟩:=i5.fd X G (ps:=["thing"]) λ_ _ _ _ _ _=>L2.on1 (λ_=>rfl)
 obtain⟨Q6⟩:=i6.fd X G (ps:=["table"]) λ_ _ _ _ _ _=>L2.on1 (λ_=>rfl)
 obtain⟨Q7⟩:=i7.fd X G (ps:=["place","switch"]) λ_ _ _ _ _ _=>L2.on2 (λ_ _=>rfl)
 obtain⟨Q8⟩:=i8.fd X G (ps:=["subset","place"]) λ_ _ _ _ _ _=>L2.on2 (λ_ _=>rfl)
 obtain⟨Q9⟩:=i9.fd X G (ps:=["subset","other"]) λ_ _ _ _ _ _=>L2.on2 (λ_ _=>rfl)
 obtain⟨Q10⟩:=i10.fd X G (ps:=["subset"]) λ_ _ _ _ _ _=>L2.on1 (λ_=>rfl)
 obtain⟨Q11⟩:=i11.fd X G (ps:=["members"]) λ_ _ _ _ _ _=>L2.on1 (λ_=>rfl)
 obtain⟨Q12⟩:=i12.fd X G (ps:=["subset"]) λ_ _ _ _ _ _=>L2.on1 (λ_=>rfl)
 obtain⟨Q13⟩:=i13.fd X G (ps:=["n","k"]) λ_ _ _ _ _ _=>L2.on2 (λ_ _=>rfl)
 obtain⟨Q14⟩:=i14.fd X G (ps:=["top","bottom"]) λ_ _ _ _ _ _=>L2.on2 (λ_ _=>rfl)
 obtain⟨Q15⟩:=i15.fd X G (ps:=["one","other"]) λ_ _ _ _ _ _=>L2.on2 (λ_ _=>rfl)
 obtain⟨Q16⟩:=i16.fd X G (ps:=["thing"]) λ_ _ _ _ _ _=>L2.on1 (λ_=>rfl)
 obtain⟨Q17⟩:=i17.fd X G (ps:=["table"]) λ_ _ _ _ _ _=>L2.on1 (λ_=>rfl)
 obtain⟨Q18⟩:=i18.fd X G (ps:=["one"]) λ_ _ _ _ _ _=>L2.on1 (λ_=>rfl)
 obtain⟨Q19⟩:=i19.fd X G (ps:=["one"]) λ_ _ _ _ _ _=>L2.on1 (λ_=>rfl)
 obtain⟨Q20⟩:=i20.fd X G (ps:=["one","outer"]) λ_ _ _ _ _ _=>L2.on2 (λ_ _=>rfl)
 obtain⟨Q21⟩:=i21.fd X G (ps:=["n","weights"]) λ_ _ _ _ _ _=>L2.on2 (λ_ _=>rfl)
 obtain⟨Q22⟩:=i22.fd X G (ps:=["numbers"]) λ_ _ _ _ _ _=>L2.on1 (λ_=>rfl)
 obtain⟨Q23⟩:=i23.fd X G (ps:=["numbers","step","place"]) λ_ _ _ _ _ _=>L2.on3 (λ_ _ _=>rfl)
 obtain⟨Q24⟩:=i24.fd X G (ps:=["one","subset"]) λ_ _ _ _ _ _=>L2.on2 (λ_ _=>rfl)
 obtain⟨Q25⟩:=i25.fd X G (ps:=["table","other"]) λ_ _ _ _ _ _=>L2.on2 (λ_ _=>rfl)
 have F26:=Dz (st:=EW) l26 c26 k26;have b26:=F26.binds (ps:=["one","k"]) λ_ _ _ _ _ _=>L2.on2 (λ_ _=>rfl)
 obtain⟨Q27⟩:=i27.fd X G (ps:=["one","k"]) λ_ _ _ _ _ _=>L2.on2 (λ_ _=>rfl)
 obtain⟨Q28⟩:=i28.fm (ps:=["self","game"]) λ_ _ _ _ _ _=>L2.on2 (λ_ _=>rfl)
 obtain⟨Q29⟩:=i29.fm (ps:=["self"]) λ_ _ _ _ _ _=>L2.on1 (λ_=>rfl)
 obtain⟨Q30⟩:=i30.fm (ps:=["self","things"]) λ_ _ _ _ _ _=>L2.on2 (λ_ _=>rfl)
 obtain⟨Q31⟩:=i31.fm (ps:=["self","things"]) λ_ _ _ _ _ _=>L2.on2 (λ_ _=>rfl)
 obtain⟨Q32⟩:=i32.fm (ps:=["self","things","question","answer"]) λ_ _ _ _ _ _=>L2.on4 (λ_ _ _ _=>rfl)
 obtain⟨Q33⟩:=i33.fm (ps:=["self","things"]) λ_ _ _ _ _ _=>L2.on2 (λ_ _=>rfl)
 obtain⟨Q34⟩:=i34.fm (ps:=["self","things"]) λ_ _ _ _ _ _=>L2.on2 (λ_ _=>rfl)
 obtain⟨Q35⟩:=i35.fm (ps:=["self","things"]) λ_ _ _ _ _ _=>L2.on2 (λ_ _=>rfl)
 obtain⟨Q36⟩:=i36.fm (ps:=["self","things","question"]) λ_ _ _ _ _ _=>L2.on3 (λ_ _ _=>rfl)
 obtain⟨Q37⟩:=i37.fm (ps:=["self","things","question"]) λ_ _ _ _ _ _=>L2.on3 (λ_ _ _=>rfl)
 obtain⟨Q38⟩:=i38.fm (ps:=["self","things"]) λ_ _ _ _ _ _=>L2.on2 (λ_ _=>rfl)
 have F39:=Dz (st:=C2) l39 c39 k39;have b39:=F39.binds (ps:=["self","things"]) λ_ _ _ _ _ _=>L2.on2 (λ_ _=>rfl)
 obtain⟨Q40⟩:=i40.fd X G (ps:=["wanted","values"]) λ_ _ _ _ _ _=>L2.on2 (λ_ _=>rfl)
 obtain⟨Q41⟩:=i41.fd X G (ps:=["table"]) λ_ _ _ _ _ _=>L2.on1 (λ_=>rfl)
 obtain⟨Q42⟩:=i42.fd X G (ps:=["game"]) λ_ _ _ _ _ _=>L2.on1 (λ_=>rfl)
 obtain⟨Q43⟩:=i43.fd X G (ps:=["game"]) λ_ _ _ _ _ _=>L2.on1 (λ_=>rfl)
 obtain⟨Q44⟩:=i44.fd X G (ps:=["game"]) λ_ _ _ _ _ _=>L2.on1 (λ_=>rfl)
 obtain⟨Q45⟩:=i45.fd X G (ps:=["reckoner","things"]) λ_ _ _ _ _ _=>L2.on2 (λ_ _=>rfl)
 obtain⟨Q46⟩:=i46.fd X G (ps:=["reckoner","things"]) λ_ _ _ _ _ _=>L2.on2 (λ_ _=>rfl)
 obtain⟨Q47⟩:=i47.fd X G (ps:=["one","subset"]) λ_ _ _ _ _ _=>L2.on2 (λ_ _=>rfl)
 obtain⟨Q48⟩:=i48.fd X G (ps:=["one","subset"]) λ_ _ _ _ _ _=>L2.on2 (λ_ _=>rfl)
 obtain⟨Q49⟩:=i49.fd X G (ps:=["one","other"]) λ_ _ _ _ _ _=>L2.on2 (λ_ _=>rfl)
 obtain⟨Q50⟩:=i50.fd X G (ps:=["one"]) λ_ _ _ _ _ _=>L2.on1 (λ_=>rfl)
 obtain⟨Q51⟩:=i51.fd X G (ps:=["one"]) λ_ _ _ _ _ _=>L2.on1 (λ_=>rfl)
 obtain⟨Q52⟩:=i52.fd X G (ps:=["one"]) λ_ _ _ _ _ _=>L2.on1 (λ_=>rfl)
 obtain⟨Q53⟩:=i53.fd X G (ps:=["one"]) λ_ _ _ _ _ _=>L2.on1 (λ_=>rfl)
 obtain⟨Q54⟩:=i54.fd X G (ps:=["one","squares"]) λ_ _ _ _ _ _=>L2.on2 (λ_ _=>rfl)
 obtain⟨Q55⟩:=i55.fd X G (ps:=["terms","weights","apart"]) λ_ _ _ _ _ _=>L2.on3 (λ_ _ _=>rfl)
 obtain⟨Q56⟩:=i56.fd X G (ps:=["one","k","thing"]) λ_ _ _ _ _ _=>L2.on3 (λ_ _ _=>rfl)
 obtain⟨Q57⟩:=i57.fd X G (ps:=["n","thing"]) λ_ _ _ _ _ _=>L2.on2 (λ_ _=>rfl)
 obtain⟨Q58⟩:=i58.fd X G (ps:=["one","total"]) λ_ _ _ _ _ _=>L2.on2 (λ_ _=>rfl)
 obtain⟨Q59⟩:=i59.fd X G (ps:=["n","k","covers"]) λ_ _ _ _ _ _=>L2.on3 (λ_ _ _=>rfl)
 obtain⟨Q60⟩:=i60.fd X G (ps:=["one","lead","cover"]) λ_ _ _ _ _ _=>L2.on3 (λ_ _ _=>rfl)
 obtain⟨Q61⟩:=i61.fd X G (ps:=["weights","switches"]) λ_ _ _ _ _ _=>L2.on2 (λ_ _=>rfl)
 obtain⟨Q62⟩:=i62.fd X G (ps:=["one","share"]) λ_ _ _ _ _ _=>L2.on2 (λ_ _=>rfl)
 obtain⟨Q63⟩:=i63.fd X G (ps:=["n","squares","share"]) λ_ _ _ _ _ _=>L2.on3 (λ_ _ _=>rfl)
 obtain⟨Q64⟩:=i64.fd X G (ps:=["_law_script"]) λ_ _ _ _ _ _=>L2.on1 (λ_=>rfl)
 obtain⟨Q65⟩:=i65.fd X G (ps:=["_law_tape_here","_law_many"]) λ_ _ _ _ _ _=>L2.on2 (λ_ _=>rfl)
 obtain⟨Q66⟩:=i66.fd X G (ps:=["_law_k"]) λ_ _ _ _ _ _=>L2.on1 (λ_=>rfl)
 obtain⟨Q67⟩:=i67.fd X G (ps:=["_law_n","_law_number"]) λ_ _ _ _ _ _=>L2.on2 (λ_ _=>rfl)
 obtain⟨Q68⟩:=i68.fd X G (ps:=["_law_n","_law_one","_law_place"]) λ_ _ _ _ _ _=>L2.on3 (λ_ _ _=>rfl)
 obtain⟨Q69⟩:=i69.fd X G (ps:=["_law_tape_here","_law_n"]) λ_ _ _ _ _ _=>L2.on2 (λ_ _=>rfl)
 obtain⟨Q70⟩:=i70.fd X G (ps:=["_law_tape_here","_law_n"]) λ_ _ _ _ _ _=>L2.on2 (λ_ _=>rfl)
 obtain⟨Q71⟩:=i71.fd X G (ps:=["_law_n","_law_some","_law_order_here"]) λ_ _ _ _ _ _=>L2.on3 (λ_ _ _=>rfl)
 obtain⟨Q72⟩:=i72.fd X G (ps:=["_law_n","_law_table_here","_law_order_here","_law_turned_ones","_law_other_answer"]) λ_ _ _ _ _ _=>L2.on5 (λ_ _ _ _ _=>rfl)
 obtain⟨Q73⟩:=i73.fd X G (ps:=["_law_n","_law_whole","_law_more","_law_order_here"]) λ_ _ _ _ _ _=>L2.on4 (λ_ _ _ _=>rfl)
 obtain⟨Q74⟩:=i74.fd X G (ps:=["_law_whole","_law_share"]) λ_ _ _ _ _ _=>L2.on2 (λ_ _=>rfl)
 obtain⟨Q75⟩:=i75.fd X G (ps:=["_law_n","_law_whole","_law_more","_law_order_here","_law_turning","_law_k"]) λ_ _ _ _ _ _=>L2.on6 (λ_ _ _ _ _ _=>rfl)
 have F76:=Dz (st:=DG) l76 c76 k76;have b76:=F76.binds (ps:=["_law_script"]) λ_ _ _ _ _ _=>L2.on1 (λ_=>rfl)
 let T:Txt K mg:={ zA:=zA,Z0a:=W.mg_of X G aC_Reckoner,zB:=⟨pg_Reckoner,hd_Reckoner,po_Reckoner,sa_Reckoner⟩,zD:=na_labels_Reckoner,zI:=na_yeses_Reckoner,zO:=na_alike_Reckoner,zH:=na_known_Reckoner,z68:=⟨f0,Q0.d,Q0.F,Q0.b,Q0.m⟩,z66:=⟨f1,Q1.d,Q1.F,Q1.b,Q1.m⟩,z81:=⟨f2,Q2.d,Q2.F,Q2.b,Q2.m⟩,z65:=⟨f3,Q3.d,Q3.F,Q3.b,Q3.m⟩,z61:=⟨f4,Q4.d,Q4.F,Q4.b,Q4.m⟩,z59:=⟨f5,Q5.d,Q5.F,Q5.b,Q5.m⟩,z41:=⟨f6,Q6.d,Q6.F,Q6.b,Q6.m⟩,z86:=⟨f7,Q7.d,Q7.F,Q7.b,Q7.m⟩,z88:=⟨f8,Q8.d,Q8.F,Q8.b,Q8.m⟩,z82:=⟨f9,Q9.d,Q9.F,Q9.b,Q9.m⟩,z74:=⟨f10,Q10.d,Q10.F,Q10.b,Q10.m⟩,z43:=⟨f11,Q11.d,Q11.F,Q11.b,Q11.m⟩,z46:=⟨f12,Q12.d,Q12.F,Q12.b,Q12.m⟩,z76:=⟨f13,Q13.d,Q13.F,Q13.b,Q13.m⟩,z69:=⟨f14,Q14.d,Q14.F,Q14.b,Q14.m⟩,z34:=⟨f15,Q15.d,Q15.F,Q15.b,Q15.m⟩,z77:=⟨f16,Q16.d,Q16.F,Q16.b,Q16.m⟩,z83:=⟨f17,Q17.d,Q17.F,Q17.b,Q17.m⟩,z87:=⟨f18,Q18.d,Q18.F,Q18.b,Q18.m⟩,z44:=⟨f19,Q19.d,Q19.F,Q19.b,Q19.m⟩,z31:=⟨f20,Q20.d,Q20.F,Q20.b,Q20.m⟩,z67:=⟨f21,Q21.d,Q21.F,Q21.b,Q21.m⟩,z37:=⟨f22,Q22.d,Q22.F,Q22.b,Q22.m⟩,z78:=⟨f23,Q23.d,Q23.F,Q23.b,Q23.m⟩,z71:=⟨f24,Q24.d,Q24.F,Q24.b,Q24.m⟩,z42:=⟨f25,Q25.d,Q25.F,Q25.b,Q25.m⟩,ym:=g26,zU:=p26,Z0d:=rfl,Z0b:=gh26,z75:=⟨f26,_,F26,b26,W.mg_of X G a26⟩,z47:=⟨f27,Q27.d,Q27.F,Q27.b,Q27.m⟩,z29:=⟨f28,Q28.d,Q28.F,Q28.b,Q28.m⟩,zQ:=⟨zQ,Q28.m.at_,Q28.m.fn,kc_Reckoner⟩,z21:=⟨f29,Q29.d,Q29.F,Q29.b,Q29.m⟩,z16:=⟨f30,Q30.d,Q30.F,Q30.b,Q30.m⟩,z22:=⟨f31,Q31.d,Q31.F,Q31.b,Q31.m⟩,z23:=⟨f32,Q32.d,Q32.F,Q32.b,Q32.m⟩,z18:=⟨f33,Q33.d,Q33.F,Q33.b,Q33.m⟩,z14:=⟨f34,Q34.d,Q34.F,Q34.b,Q34.m⟩,z24:=⟨f35,Q35.d,Q35.F,Q35.b,Q35.m⟩,z17:=⟨f36,Q36.d,Q36.F,Q36.b,Q36.m⟩,z20:=⟨f37,Q37.d,Q37.F,Q37.b,Q37.m⟩,z19:=⟨f38,Q38.d,Q38.F,Q38.b,Q38.m⟩,yc:=g39,zT:=p39,Z0c:=rfl,Z0e:=gh39,z15:=⟨f39,_,F39,b39,⟨a39,i39,k39⟩⟩,z35:=⟨f40,Q40.d,Q40.F,Q40.b,Q40.m⟩,z73:=⟨f41,Q41.d,Q41.F,Q41.b,Q41.m⟩,z26:=⟨f42,Q42.d,Q42.F,Q42.b,Q42.m⟩,z33:=⟨f43,Q43.d,Q43.F,Q43.b,Q43.m⟩,z79:=⟨f44,Q44.d,Q44.F,Q44.b,Q44.m⟩,z54:=⟨f45,Q45.d,Q45.F,Q45.b,Q45.m⟩,z49:=⟨f46,Q46.d,Q46.F,Q46.b,Q46.m⟩,z70:=⟨f47,Q47.d,Q47.F,Q47.b,Q47.m⟩,z38:=⟨f48,Q48.d,Q48.F,Q48.b,Q48.m⟩,z39:=⟨f49,Q49.d,Q49.F,Q49.b,Q49.m⟩,z62:=⟨f50,Q50.d,Q50.F,Q50.b,Q50.m⟩,z45:=⟨f51,Q51.d,Q51.F,Q51.b,Q51.m⟩,z80:=⟨f52,Q52.d,Q52.F,Q52.b,Q52.m⟩,z27:=⟨f53,Q53.d,Q53.F,Q53.b,Q53.m⟩,z63:=⟨f54,Q54.d,Q54.F,Q54.b,Q54.m⟩,yk:=f55,yh:=Q55.d,yp:=Q55.F,Z0h:=Q55.b,Z0g:=Q55.m,z55:=⟨f56,Q56.d,Q56.F,Q56.b,Q56.m⟩,z32:=⟨f57,Q57.d,Q57.F,Q57.b,Q57.m⟩,z72:=⟨f58,Q58.d,Q58.F,Q58.b,Q58.m⟩,z48:=⟨f59,Q59.d,Q59.F,Q59.b,Q59.m⟩,z84:=⟨f60,Q60.d,Q60.F,Q60.b,Q60.m⟩,z25:=⟨f61,Q61.d,Q61.F,Q61.b,Q61.m⟩,z85:=⟨f62,Q62.d,Q62.F,Q62.b,Q62.m⟩,z64:=⟨f63,Q63.d,Q63.F,Q63.b,Q63.m⟩,z57:=⟨f64,Q64.d,Q64.F,Q64.b,Q64.m⟩,z53:=⟨f65,Q65.d,Q65.F,Q65.b,Q65.m⟩,z60:=⟨f66,Q66.d,Q66.F,Q66.b,Q66.m⟩,z52:=⟨f67,Q67.d,Q67.F,Q67.b,Q67.m⟩,z56:=⟨f68,Q68.d,Q68.F,Q68.b,Q68.m⟩,z51:=⟨f69,Q69.d,Q69.F,Q69.b,Q69.m⟩,z50:=⟨f70,Q70.d,Q70.F,Q70.b,Q70.m⟩,z40:=⟨f71,Q71.d,Q71.F,Q71.b,Q71.m⟩,z58:=⟨f72,Q72.d,Q72.F,Q72.b,Q72.m⟩,z30:=⟨f73,Q73.d,Q73.F,Q73.b,Q73.m⟩,z36:=⟨f74,Q74.d,Q74.F,Q74.b,Q74.m⟩,z28:=⟨f75,Q75.d,Q75.F,Q75.b,Q75.m⟩,yn:=fa,yo:=_,Z0f:=F76,Z0i:=b76,Z0j:=W.mg_of X G a76,zW:=W.mg_none_of X G zW,zZ:=W.mg_none_of X G zZ,ye:=W.mg_none_of X G ye,zY:=W.mg_none_of X G zY,zE:=W.mg_none_of X G zE,yd:=W.mg_none_of X G yd,zF:=W.mg_none_of X G zF,zP:=W.mg_none_of X G zP,zX:=W.mg_none_of X G zX,yg:=W.mg_none_of X G yg,ya:=W.mg_none_of X G ya,zC:=W.mg_none_of X G zC,zR:=W.mg_none_of X G zR,yf:=W.mg_none_of X G yf,zS:=W.mg_none_of X G zS,zV:=W.mg_none_of X G zV,zG:=W.mg_none_of X G zG,yb:=W.mg_none_of X G yb,zN:=ac_TABLE_LENGTHS,zK:=W.mg_of X G zK,zJ:=λH=>.inr ⟨_,_,_,zJ,rfl,rfl,rfl,(show 6<=sizeLine by decide),(.cons ⟨_,rfl⟩ (.cons ⟨_,rfl⟩ (.cons ⟨_,rfl⟩ (.cons ⟨_,rfl⟩ (.cons ⟨_,rfl⟩ (.cons ⟨_,rfl⟩ .nil))))))⟩,zM:=zM,zL:=W.mg_of X G zL,np_0:=np_0 };exact⟨W.fnOf "law" "law" (CG DG) (Bo DG) (AJ DG) .none kV76 dc76 pm76 an76 cd76 ct76,[(g26,p26),(g39,p39)],List.forall_mem_cons.mpr ⟨⟨W.codeHd_of_K X gh26,gt26⟩,List.forall_mem_cons.mpr ⟨⟨W.codeHd_of_K X gh39,gt39⟩,λ_ z=>nomatch z⟩⟩,hnt,λs v=>.of_eq rfl,λbase _ _ B=>Z7 T B⟩
theorem walk {l:W.OpenLaw} {q:Program} {loose:List Str} {XP:(Str->Option Value)->Heap->Prop} {YP:World->Heap->Prop} {d:DefRec} {K:Params->W.Frag} (hn:l.most=some 63) (hdf:d.params.defaults=[])
 (hY:∀(w:World) (h:Heap),YP w h->(K w.params).In h)
 (F:∀(w:World) (mg:Str->Option Value) (fa:Addr) (h:Heap),YP w h->(K w.params).In h->h.Ns mainGlobals mg->mg d.name=some (.ref fa) ->
   ∃(fd:FuncData) (ts:List (Addr×Addr)),W.TabsAt ts h/\W.noTabs (K w.params)=true/\(∀(s:Shared) (u:Value),BindsTo s fd ⟨[u],[]⟩ [("_law_script",u)])/\∀base:Heap,(K w.params).In base->base.Ns mainGlobals mg->BMn mg base->FnOk l.prog w (K w.params) mg base CX0 97 fa fd ["_law_script"] (IC (K w.params) (ts.map (·.2)))) :
 W.WalkO q loose XP YP l.row.toRowW d [] (λf vs=>PySem.call f vs) :=
 L2.walk_ofT (n:=63) (k:=97) (x:="_law_script") (sp:=λw ts=>IC (K w.params) ts) hn (by decide) hdf ⟨rfl,by decide,by decide,rfl⟩ hY F (λ_ _ a ns ts hl hO hS=>⟨a,ns,rfl,hS,hl,hO,λ_=>rfl⟩)
end Mine
structure PySem.W.Fast:Prop where(tw7784655050923593849 tw12597600882978229023 tw5345503199097445895 tw3234551714071914073 tw7987926263690908474 tw11508295360719974362 tw13767515627590755620 tw2795536770932301832 tw9226396274666425088 tw13514283777708455415 tw15169413878926553836 tw9712568836791306865 tw6746787500204353022 tw9754441322288410137 tw14409291895218507012 tw15428398650616016301 tw17398218254896964802 tw18235928173166402959 tw17110017427328368679 tw17584923706222571442 tw3809110453125894324 tw2396058902114454558 tw6608712182192280325 tw1836694018804269480 tw14110590042073997534 tw12384527521543160872 tw6880700352693134638 tw6194745255693237973 tw13526048019472957987 tw12517529965118009113 tw783504857343459832 tw12156075906130771518 tw12814066506362211192 tw12959925094504947744 tw5355402430926592141 tw4863227722868749378 tw12665827546727312239 tw4671925028480676230 tw2286369797147716606 tw8695865367091130991 tw16163814779960143635 tw14655418202165173439 tw16893292996978543874 tw8229499363934138528 tw2842097895828489878 tw15381207557586382937 tw9916443351241228214 tw2008268863637325771 tw8563836728027900040 tw12220273552733633280 tw3564869179001350366 tw5892741179155875105 tw15751533584040898883 tw6940615541879762680 tw1561457855711225283 tw12344316152596972087 tw17043725921006600467 tw6250785661099200611 tw14924041806849814208 tw11590138646767830341 tw15333271224289840329 tw16498932524105583314 tw4802800676077322459 tw9008590715835896900 tw14888073700312487352 tw18066353259984654099 tw2615509426834460763 tw2134244545662479114 tw17451228028337005357 tw1372779759791618819 tw10227407011403704277 tw8946783984486148895 tw11447194251592299085 tw1052638616454364650 tw13152134547232049518 tw11397171393014051593 tw4538152365197429568 tw3236183560795193098 tw2117801539440591079 tw15914662762774223198 tw5903770120354613898 tw12128300243409412301 tw8315219179765083810 tw6800367300541342602 tw354034517579596029 tw16625005345287062192 tw9125176708507231419 tw15906218711523016016 tw6369647955688940027 tw14903688529363211859 tw9263913791155937156 tw17190884697485581979 tw14373395113717709755 tw11590693323972440583 tw3874646267240870976 tw12591951751720276796 tw16137642801660237150 tw16256210332149461189 tw3279918873239903916 tw1513226274348499562 tw4472257081705104131 tw11221804477148658260 tw4915359871943379331 tw2719058576920233352 tw7879169065996961800 tw648246283366187248 tw15468113974737993482 tw6767545700460134473 tw5186833299555022618 tw15307446740823620356 tw7495930352342026189 tw18046345961438270027 tw13757940306552910895 tw5320887306621454732 tw8482803019172450606 tw15784369705019789197 tw778646313148926783 tw5028515103259784144 tw13765980185373888682 tw16226691944520704308 tw7334842507418243386 tw9960349236510151320 tw5149988673539755339 tw2839883170070075299 tw6311324837834707804 tw5583606310451201573 tw9001401312720933334 tw3505470658049843389 tw10725959534997615148 tw5022247087283954302 tw5733611915220718269 tw10632542348295875743 tw11334706125774149665 tw249324253296437800 tw9712838536016673476 tw6342235511377606185 tw12702346465140626060 tw4504084477638274732 tw200368912101452613 tw51958806239763502 tw17076429370458947638 tw11017178693971057311 tw2808306907293955007 tw6899425958412973705 tw13694955203509059411:True)
open PySem PySem.W PyProof.Rows
local macro_rules | `(tactic| walk_at "k")=>`(tactic| (refine' Mine.all_di ?a ?b ?c ?d;(case a=>k_is);(case b=>k_is);(case c=>k_is);(case d=>k_is)))
local macro_rules | `(tactic| walk_at "l")=>`(tactic| (refine' Mine.all_dm ?a ?e ?b ?c ?d;(case a=>k_is);(case e=>k_is);(case b=>k_is);(case c=>k_is);(case d=>k_is)))
set_option maxRecDepth 100000 in
set_option maxHeartbeats 0 in
theorem PySem.Challenge.cw_flips_k94_whole_called_otherwise_holds : PySem.Challenge.rw_flips_k94_whole_called_otherwise.Holds := by
 w_on;o_law;k_head;(case hw=>w_witness2)
 k_fill
 refine Mine.walk (l:=PySem.Challenge.rw_flips_k94_whole_called_otherwise) rfl rfl (fun w h Y=>PySem.W.km_in_of Y) ?F
 case F =>
  intro w mg fa h Y KX G hmg
  refine' Mine.all_mk KX G hmg ?aC_Reckoner ?pg_Reckoner ?hd_Reckoner ?po_Reckoner ?sa_Reckoner ?zQ ?kc_Reckoner ?na_labels_Reckoner ?na_yeses_Reckoner ?na_alike_Reckoner ?na_known_Reckoner ?i0 ?i1 ?i2 ?i3 ?i4 ?i5 ?i6 ?i7 ?i8 ?i9 ?i10 ?i11 ?i12 ?i13 ?i14 ?i15 ?i16 ?i17 ?i18 ?i19 ?i20 ?i21 ?i22 ?i23 ?i24 ?i25 ?a26 ?l26 ?c26 ?k26 ?lc26 ?pv26 ?gh26 ?gt26 ?i27 ?i28 ?i29 ?i30 ?i31 ?i32 ?i33 ?i34 ?i35 ?i36 ?i37 ?i38 ?a39 ?i39 ?l39 ?c39 ?k39 ?lc39 ?pv39 ?gh39 ?gt39 ?i40 ?i41 ?i42 ?i43 ?i44 ?i45 ?i46 ?i47 ?i48 ?i49 ?i50 ?i51 ?i52 ?i53 ?i54 ?i55 ?i56 ?i57 ?i58 ?i59 ?i60 ?i61 ?i62 ?i63 ?i64 ?i65 ?i66 ?i67 ?i68 ?i69 ?i70 ?i71 ?i72 ?i73 ?i74 ?i75 ?a76 ?l76 ?c76 ?k76 ?zW ?zZ ?ye ?zY ?zE ?yd ?zF ?zP ?zX ?yg ?ya ?zC ?zR ?yf ?zS ?zV ?zG ?yb ?zK ?zJ ?zL ?hnt ?np_0
  (case aC_Reckoner | pg_Reckoner | hd_Reckoner | po_Reckoner | sa_Reckoner | zQ | kc_Reckoner | na_labels_Reckoner | na_yeses_Reckoner | na_alike_Reckoner | na_known_Reckoner | a26 | l26 | c26 | k26 | lc26 | a39 | i39 | l39 | c39 | k39 | lc39 | a76 | l76 | c76 | k76 | zW | zZ | ye | zY | zE | yd | zF | zP | zX | yg | ya | zC | zR | yf | zS | zV | zG | yb | zK | zJ | zL=>k_is)
  (case i0=>walk_at "k")
  (case i1=>walk_at "k")
  (case i2=>walk_at "k")
  (case i3=>walk_at "k")
  (case i4=>walk_at "k")
  (case i5=>walk_at "k")
  (case i6=>walk_at "k")
  (case i7=>walk_at "k")
  (case i8=>walk_at "k")
  (case i9=>walk_at "k")
  (case i10=>walk_at "k")
  (case i11=>walk_at "k")
  (case i12=>walk_at "k")
  (case i13=>walk_at "k")
  (case i14=>walk_at "k")
  (case i15=>walk_at "k")
  (case i16=>walk_at "k")
  (case i17=>walk_at "k")
  (case i18=>walk_at "k")
  (case i19=>walk_at "k")
  (case i20=>walk_at "k")
  (case i21=>walk_at "k")
  (case i22=>walk_at "k")
  (case i23=>walk_at "k")
  (case i24=>walk_at "k")
  (case i25=>walk_at "k")
  (case pv26=>rfl)
  (case gh26=>kernel_rfl)
  (case gt26=>exact PySem.W.km_tabs_of Y _ (by k_mem))
  (case i27=>walk_at "k")
  (case i28=>walk_at "l")
  (case i29=>walk_at "l")
  (case i30=>walk_at "l")
  (case i31=>walk_at "l")
  (case i32=>walk_at "l")
  (case i33=>walk_at "l")
  (case i34=>walk_at "l")
  (case i35=>walk_at "l")
  (case i36=>walk_at "l")
  (case i37=>walk_at "l")
  (case i38=>walk_at "l")
  (case pv39=>rfl)
  (case gh39=>kernel_rfl)
  (case gt39=>exact PySem.W.km_tabs_of Y _ (by k_mem))
  (case i40=>walk_at "k")
  (case i41=>walk_at "k")
  (case i42=>walk_at "k")
  (case i43=>walk_at "k")
  (case i44=>walk_at "k")
  (case i45=>walk_at "k")
  (case i46=>walk_at "k")
  (case i47=>walk_at "k")
  (case i48=>walk_at "k")
  (case i49=>walk_at "k")
  (case i50=>walk_at "k")
  (case i51=>walk_at "k")
  (case i52=>walk_at "k")
  (case i53=>walk_at "k")
  (case i54=>walk_at "k")
  (case i55=>walk_at "k")
  (case i56=>walk_at "k")
  (case i57=>walk_at "k")
  (case i58=>walk_at "k")
  (case i59=>walk_at "k")
  (case i60=>walk_at "k")
  (case i61=>walk_at "k")
  (case i62=>walk_at "k")
  (case i63=>walk_at "k")
  (case i64=>walk_at "k")
  (case i65=>walk_at "k")
  (case i66=>walk_at "k")
  (case i67=>walk_at "k")
  (case i68=>walk_at "k")
  (case i69=>walk_at "k")
  (case i70=>walk_at "k")
  (case i71=>walk_at "k")
  (case i72=>walk_at "k")
  (case i73=>walk_at "k")
  (case i74=>walk_at "k")
  (case i75=>walk_at "k")
  (case hnt=>kernel_rfl)
  (case np_0=>first | decide | exact fun z=>nomatch z)
