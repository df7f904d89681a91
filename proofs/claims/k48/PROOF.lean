import PyProof.Rows.All
import Wide.All
import OpenK.AllK
import Wide.FinOn
import Lean
import PyProof.EqAt
import PyProof.EqKinds
import PyProof.TupleCall
import PyProof.NeKinds
import PyProof.ReprRoads
import PyProof.ReprBulk
import PyProof.Draws
import PyProof.EnumMake
import KE.BitLaws
import PyProof.ListIndex
import PyProof.AttrMissHeap
import PyProof.DictUpdate
import KE.KDictOf
import PyProof.FactsAll.enumerate_1
import PyProof.FactsAll.tuple_2
import PyProof.ListMulRoad
import PyProof.ListRange
import PyProof.FactsAll.list_3
import PyProof.Rows.SortWalk
import PyProof.Rows.MinMaxN
import KE.KEqDict
import KE.KDictSum
import PyProof.WalksMore
import PyProof.Rows.SetFrom
import PyProof.SetRoads
import PyProof.FactsAll.set_1
import KE.KItemsList
import KE.KSortTup
import KE.KLam
import PyProof.FactsAll.dict_1
import PyProof.StrBlockH
import PyProof.StrLawsTight
import PyProof.StrLawsOccR
import PyProof.StrLawsJoin
import PyProof.StationsW
import PyProof.NsDelKeeps
import PyProof.RulesAs
import PyProof.ExcInit
import KE.KTryMore
import PyProof.ExcClass3
import PyProof.ExcBaseAll.ValueError
import OpenK.KOwn
import PyProof.ExcArgsOwn
import PyProof.InstStoreFacts
import PyProof.FactsAll.tuple_2
import PyProof.FactsAll.tuple_3
import PyProof.TupleOfStr
import KE.KMinKey
import PyProof.FactsAll.list_4
import PySem.Challenge.RW_flips_k48_askings_by_turns
set_option Elab.async false
set_option linter.all false
set_option compiler.extract_closed false
set_option bootstrap.genMatcherCode false
set_option maxRecDepth 100000
set_option maxHeartbeats 0
section
open PySem PySem.Spec PyProof.Rows PySem.W
theorem ZA:type_of% @PySem.wpAny_bind:=@PySem.wpAny_bind
theorem ZB:type_of% @PySem.wpAny_pure:=@PySem.wpAny_pure
theorem ZC:type_of% @List.length_map:=@List.length_map
theorem ZD:type_of% @Nat.le_refl:=@Nat.le_refl
theorem ZE:type_of% @List.getElem?_eq_getElem:=@List.getElem?_eq_getElem
theorem ZF:type_of% @List.mem_singleton:=@List.mem_singleton
theorem ZG:type_of% @PySem.Heap.lt_size:=@PySem.Heap.lt_size
theorem ZH:type_of% @PySem.Heap.get?_push_of_some:=@PySem.Heap.get?_push_of_some
theorem ZI:type_of% @List.mem_cons:=@List.mem_cons
theorem ZJ:type_of% @List.size_toArray:=@List.size_toArray
theorem ZK:type_of% @Nat.ne_of_lt:=@Nat.ne_of_lt
theorem ZL:type_of% @List.length_append:=@List.length_append
theorem ZM:type_of% @PySem.Heap.get?_push_size:=@PySem.Heap.get?_push_size
theorem ZN:type_of% @List.map_append:=@List.map_append
theorem ZO:type_of% @PySem.wpAny_mono:=@PySem.wpAny_mono
theorem ZP:type_of% @Nat.zero_le:=@Nat.zero_le
theorem ZQ:type_of% @Option.some.inj:=@Option.some.inj
theorem ZR:type_of% @List.getElem?_map:=@List.getElem?_map
theorem ZS:type_of% @Nat.lt_of_lt_of_le:=@Nat.lt_of_lt_of_le
theorem ZT:type_of% @decide_eq_true:=@decide_eq_true
theorem ZU:type_of% @List.mem_map:=@List.mem_map
theorem ZV:type_of% @List.getD_eq_getElem?_getD:=@List.getD_eq_getElem?_getD
theorem ZW:type_of% @List.mem_cons_of_mem:=@List.mem_cons_of_mem
theorem ZX:type_of% @List.mem_append_right:=@List.mem_append_right
theorem ZY:type_of% @Bool.and_eq_true:=@Bool.and_eq_true
theorem ZZ:type_of% @of_decide_eq_true:=@of_decide_eq_true
theorem Za:type_of% @Nat.le_trans:=@Nat.le_trans
theorem Zb:type_of% @Int.toNat_natCast:=@Int.toNat_natCast
theorem Zc:type_of% @Nat.lt_irrefl:=@Nat.lt_irrefl
theorem Zd:type_of% @Array.length_toList:=@Array.length_toList
theorem Ze:type_of% @PySem.wpAny_holding:=@PySem.wpAny_holding
theorem Zf:type_of% @List.length_take:=@List.length_take
theorem Zg:type_of% @List.mem_cons_self:=@List.mem_cons_self
theorem Zh:type_of% @List.mem_append:=@List.mem_append
theorem Zi:type_of% @List.map_cons:=@List.map_cons
theorem Zj:type_of% @Nat.pow_le_pow_right:=@Nat.pow_le_pow_right
theorem Zk:type_of% @List.length_cons:=@List.length_cons
theorem Zl:type_of% @List.getElem_mem:=@List.getElem_mem
theorem Zm:type_of% @List.mem_filter:=@List.mem_filter
theorem Zn:type_of% @List.mem_range:=@List.mem_range
theorem Zo:type_of% @Bool.false_ne_true:=@Bool.false_ne_true
theorem Zp:type_of% @PySem.wpAny_newObj_type:=@PySem.wpAny_newObj_type
theorem Zq:type_of% @Nat.le_of_lt:=@Nat.le_of_lt
theorem Zr:type_of% @List.getElem?_eq_some_iff:=@List.getElem?_eq_some_iff
theorem Zs:type_of% @Bool.false_xor:=@Bool.false_xor
theorem Zt:type_of% @PySem.wpAny_ite_split:=@PySem.wpAny_ite_split
theorem Zu:type_of% @PySem.Heap.size_push:=@PySem.Heap.size_push
theorem Zv:type_of% @List.lookup_cons:=@List.lookup_cons
theorem Zw:type_of% @PySem.Heap.SameBut.update:=@PySem.Heap.SameBut.update
theorem Zx:type_of% @decide_eq_false:=@decide_eq_false
theorem Zy:type_of% @List.append_nil:=@List.append_nil
theorem Zz:type_of% @List.mem_of_getElem?:=@List.mem_of_getElem?
theorem Z0:type_of% @PySem.Heap.get?_update_other:=@PySem.Heap.get?_update_other
theorem Z1:type_of% @Nat.lt_or_ge:=@Nat.lt_or_ge
theorem Z2:type_of% @Nat.lt_trichotomy:=@Nat.lt_trichotomy
theorem Z3:type_of% @List.map_map:=@List.map_map
theorem Z4:type_of% @PySem.codeAny_mono:=@PySem.codeAny_mono
theorem Z5:type_of% @PySem.wpAny_field:=@PySem.wpAny_field
theorem Z6:type_of% @PySem.wpAny_call_entry:=@PySem.wpAny_call_entry
theorem Z7:type_of% @List.not_mem_nil:=@List.not_mem_nil
theorem Z8:type_of% @List.length_range:=@List.length_range
theorem Z9:type_of% @List.any_cons:=@List.any_cons
theorem ZBA:type_of% @PySem.wpAny_setField:=@PySem.wpAny_setField
theorem ZBB:type_of% @Bool.eq_iff_iff:=@Bool.eq_iff_iff
theorem ZBC:type_of% @List.take_add_one:=@List.take_add_one
theorem ZBD:type_of% @List.getElem?_append_right:=@List.getElem?_append_right
theorem ZBE:type_of% @List.length_drop:=@List.length_drop
theorem ZBF:type_of% @Nat.lt_trans:=@Nat.lt_trans
theorem ZBG:type_of% @List.mem_nil_iff:=@List.mem_nil_iff
theorem ZBH:type_of% @List.getElem_of_mem:=@List.getElem_of_mem
theorem ZBI:type_of% @PySem.wpAny_standAt:=@PySem.wpAny_standAt
theorem ZBJ:type_of% @Nat.lt_succ_self:=@Nat.lt_succ_self
theorem ZBK:type_of% @List.getElem?_append_left:=@List.getElem?_append_left
theorem ZBL:type_of% @PySem.Heap.get?_update_self:=@PySem.Heap.get?_update_self
theorem ZBM:type_of% @List.range_succ:=@List.range_succ
theorem ZBN:type_of% @PySem.codeAny_builtin:=@PySem.codeAny_builtin
theorem ZBO:type_of% @PySem.plainId_quiet:=@PySem.plainId_quiet
theorem ZBP:type_of% @Nat.testBit_and:=@Nat.testBit_and
theorem ZBQ:type_of% @PySem.Heap.get?_none_of_le:=@PySem.Heap.get?_none_of_le
theorem ZBR:type_of% @List.mem_append_left:=@List.mem_append_left
theorem ZBS:type_of% @PySem.wpAny_truthy_bool:=@PySem.wpAny_truthy_bool
theorem ZBT:type_of% @Nat.le_succ:=@Nat.le_succ
theorem ZBU:type_of% @List.length_set:=@List.length_set
theorem ZBV:type_of% @List.take_of_length_le:=@List.take_of_length_le
theorem ZBW:type_of% @PySem.Around.under_plainId:=@PySem.Around.under_plainId
theorem ZBX:type_of% @Array.getElem?_eq_getElem:=@Array.getElem?_eq_getElem
theorem ZBY:type_of% @List.take_length:=@List.take_length
theorem ZBZ:type_of% @List.getElem?_eq_none:=@List.getElem?_eq_none
theorem ZBa:type_of% @Nat.ne_of_gt:=@Nat.ne_of_gt
theorem ZBb:type_of% @Nat.le_of_eq:=@Nat.le_of_eq
theorem ZBc:type_of% @Option.map_some:=@Option.map_some
theorem ZBd:type_of% @Nat.two_pow_pos:=@Nat.two_pow_pos
theorem ZBe:type_of% @List.filterMap_cons:=@List.filterMap_cons
theorem ZBf:type_of% @List.nodup_cons:=@List.nodup_cons
theorem ZBg:type_of% @List.length_replicate:=@List.length_replicate
theorem ZBh:type_of% @Nat.not_lt_zero:=@Nat.not_lt_zero
theorem ZBi:type_of% @Nat.le_of_succ_le:=@Nat.le_of_succ_le
theorem ZBj:type_of% @List.all_eq_true:=@List.all_eq_true
theorem ZBk:type_of% @Int.eq_ofNat_of_zero_le:=@Int.eq_ofNat_of_zero_le
theorem ZBl:type_of% @List.find?_cons:=@List.find?_cons
theorem ZBm:type_of% @List.any_eq_true:=@List.any_eq_true
theorem ZBn:type_of% @List.pairwise_lt_range:=@List.pairwise_lt_range
theorem ZBo:type_of% @PySem.wpAny_tryCatch:=@PySem.wpAny_tryCatch
theorem ZBp:type_of% @List.filter_append:=@List.filter_append
theorem ZBq:type_of% @List.length_filter_le:=@List.length_filter_le
theorem ZBr:type_of% @List.replicate_succ:=@List.replicate_succ
theorem ZBs:type_of% @List.getElem_toArray:=@List.getElem_toArray
theorem ZBt:type_of% @Array.getElem?_eq_some_iff:=@Array.getElem?_eq_some_iff
theorem ZBu:type_of% @Array.getElem?_toList:=@Array.getElem?_toList
theorem ZBv:type_of% @List.pairwise_map:=@List.pairwise_map
theorem ZBw:type_of% @List.getElem?_set_ne:=@List.getElem?_set_ne
theorem ZBx:type_of% @Int.natCast_nonneg:=@Int.natCast_nonneg
theorem ZBy:type_of% @Bool.false_eq_true:=@Bool.false_eq_true
theorem ZBz:type_of% @Option.map_eq_some_iff:=@Option.map_eq_some_iff
theorem ZB0:type_of% @Nat.eq_zero_or_pos:=@Nat.eq_zero_or_pos
theorem ZB1:type_of% @List.pairwise_cons:=@List.pairwise_cons
theorem ZB2:type_of% @List.length_eq_zero_iff:=@List.length_eq_zero_iff
theorem ZB3:type_of% @List.map_congr_left:=@List.map_congr_left
theorem ZB4:type_of% @Nat.eq_of_testBit_eq:=@Nat.eq_of_testBit_eq
end
-- CHANGE: your row's module here,as the last of these rows
namespace L2
open PySem PySem.Spec PyProof.Rows
variable {us:List Value}{x:Str}{u:Value}{H:Hp}{C a b:Addr}{o:HO}{base h:Heap}{P:Program}{w:World}{i k t':Nat}{A:Around}{E Q:Value->Shared->Prop}{v:V}{s:Shared}{pos:Pos}{Ya:List (Addr × Obj)}{σ:St}{K:W.Frag}{mg:Str->Option Value}
noncomputable abbrev Key:=Sum Int Str
noncomputable def Dd:Key->Value->Bool
 | .inl k,v=>Value.isInt k v
 | .inr x,v=>Value.isStrOf x v
noncomputable def Ri(w:World):Key->Int
 | .inl k=>hashInt k
 | .inr x=>hashStr w x
theorem keyIs_shape:∀{k:Key} {v:Value},Dd k v=true->(∃i t,k=Sum.inl i/\v=Value.int i t)\/(∃x t,k=Sum.inr x/\v=Value.str x t)
 | .inl i,v,h=>by
  obtain⟨t,e⟩:=Value.isInt_shape (k:=i) (v:=v) h;exact .inl ⟨i,t,rfl,e⟩
 | .inr x,v,h=>by
  obtain⟨t,e⟩:=Value.isStrOf_shape (x:=x) (v:=v) h;exact .inr ⟨x,t,rfl,e⟩
theorem Rr(i:Int)(t:Tok):Dd (.inl i) (.int i t)=true:=by simp[Dd,Value.isInt]
theorem SH(x:Str)(t:Tok):Dd (.inr x) (.str x t)=true:=by simp[Dd,Value.isStrOf]
theorem Ul(a b:Int):decide ((Sum.inl a:Key)=Sum.inl b)=(a == b):=by
 by_cases e:a=b
 ·subst e;simp
 ·have h:¬(Sum.inl a:Key)=Sum.inl b:=fun q=>e (Sum.inl.inj q)
  rw[Zx h];exact(beq_eq_false_iff_ne.mpr e).symm
theorem SK(a b:Str):decide ((Sum.inr a:Key)=Sum.inr b)=decide (a=b):=by
 by_cases e:a=b
 ·subst e;simp
 ·have h:¬(Sum.inr a:Key)=Sum.inr b:=fun q=>e (Sum.inr.inj q)
  rw[Zx h,Zx e]
theorem UC(a:Int)(b:Str):decide ((Sum.inl a:Key)=Sum.inr b)=false:=Zx (fun q=>nomatch q)
theorem QH(a:Str)(b:Int):decide ((Sum.inr a:Key)=Sum.inl b)=false:=Zx (fun q=>nomatch q)
noncomputable def Bm(prog:Program)(w:World):PySem.KeyKind prog w Key where
 is:=Dd
 hash:=Ri w
 inj:=fun v a b ha hb=>by
  rcases keyIs_shape ha with ⟨i,t,rfl,rfl⟩ | ⟨x,t,rfl,rfl⟩
  ·rcases keyIs_shape hb with ⟨j,u,rfl,e⟩ | ⟨y,u,rfl,e⟩
   ·injection e with e1 _;rw[e1]
   ·exact nomatch e
  ·rcases keyIs_shape hb with ⟨j,u,rfl,e⟩ | ⟨y,u,rfl,e⟩
   ·exact nomatch e
   ·injection e with e1 _;rw[e1]
 byValue:=fun k v h=>by
  rcases keyIs_shape h with ⟨i,t,rfl,rfl⟩ | ⟨x,t,rfl,rfl⟩ <;> rfl
 pyHash:=fun hv h=>by
  rcases keyIs_shape hv with ⟨i,t,rfl,rfl⟩ | ⟨x,t,rfl,rfl⟩
  ·exact wpAny_pyHash_int h
  ·exact wpAny_pyHash_str h
 eqBool:=fun hu hv h=>by
  rcases keyIs_shape hu with ⟨i,t,rfl,rfl⟩ | ⟨x,t,rfl,rfl⟩
  ·rcases keyIs_shape hv with ⟨j,u,rfl,rfl⟩ | ⟨y,u,rfl,rfl⟩
   ·rw[Ul]at h;exact wpAny_eqBool_int h
   ·rw[UC]at h;exact SeqAt.EqAt.int_str i t y u _ _ _ _ h
  ·rcases keyIs_shape hv with ⟨j,u,rfl,rfl⟩ | ⟨y,u,rfl,rfl⟩
   ·rw[QH]at h;exact SeqAt.EqAt.str_int x t j u _ _ _ _ h
   ·rw[SK]at h;exact wpAny_eqBool_str h
 «strs»:=fun k x t v h=>by
  rcases keyIs_shape h with ⟨i,u,rfl,e⟩ | ⟨y,u,rfl,e⟩
  ·exact nomatch e
  ·injection e with e1 _
   subst e1;cases v <;> rfl
theorem QD(prog:Program)(w:World)(i:Int)(t:Tok):(Bm prog w).is (.inl i) (.int i t)=true:=Rr i t
theorem Uz(prog:Program)(w:World)(x:Str)(t:Tok):(Bm prog w).is (.inr x) (.str x t)=true:=SH x t
inductive V where
 | non | bl (b:Bool) | int (i:Int) | str (x:Str) | byt (b:Array UInt8) | flt (b:UInt64) | ref (a:Addr) | ty (n:String)
 deriving DecidableEq
noncomputable def Yj:V->Value->Prop
 | .non,u=>u=Value.none
 | .bl b,u=>u=Value.bool b
 | .int i,u=>∃t,u=Value.int i t
 | .str x,u=>∃t,u=Value.str x t
 | .byt b,u=>∃t,u=Value.bytes b t
 | .flt b,u=>∃t,u=Value.float b t
 | .ref a,u=>u=Value.ref a
 | .ty n,u=>u=Value.type n
noncomputable abbrev Yi:List V->List Value->Prop:=Paired Yj
theorem Yi.length{xs:List V}(r:Yi xs us):xs.length=us.length:=Paired.length r
theorem Yi.get:∀{xs:List V} {us:List Value} {i:Nat} {x:V},Yi xs us->xs[i]? = some x->∃u,us[i]? = some u/\Yj x u
 | _,_,_,_,.nil,e=>by simp at e
 | _,_,0,_,.cons r _,e=>by simp at e;subst e;exact⟨_,rfl,r⟩
 | _,_,i+1,x,.cons _ t,e=>by
  obtain⟨u,h1,h2⟩:=Yi.get (i:=i) (x:=x) t (by simpa using e);exact⟨u,by simpa using h1,h2⟩
theorem Yi.set{x:V}(r:Yj x u):∀{xs:List V} {us:List Value} (i:Nat),Yi xs us->Yi (xs.set i x) (us.set i u)
 | _,_,_,.nil=>.nil
 | _,_,0,.cons _ t=>.cons r t
 | _,_,i+1,.cons q t=>.cons q (Yi.set r i t)
theorem Yi.append:∀{xs ys:List V} {us ws:List Value},Yi xs us->Yi ys ws->Yi (xs++ys) (us++ws)
 | _,_,_,_,.nil,s=>s
 | _,_,_,_,.cons r t,s=>.cons r (Yi.append t s)
theorem Yi.take:∀{xs:List V} {us:List Value} (n:Nat),Yi xs us->Yi (xs.take n) (us.take n)
 | _,_,0,_=>.nil
 | _,_,_+1,.nil=>.nil
 | _,_,n+1,.cons r t=>.cons r (Yi.take n t)
theorem Yi.drop:∀{xs:List V} {us:List Value} (n:Nat),Yi xs us->Yi (xs.drop n) (us.drop n)
 | _,_,0,r=>r
 | _,_,_+1,.nil=>.nil
 | _,_,n+1,.cons _ t=>Yi.drop n t
noncomputable def RelO:Option V->Option Value->Prop
 | some v,some u=>Yj v u
 | none,none=>True
 | _,_=>False
noncomputable def KV{κ:Type}:List (κ × V)->List (κ × Value)->Prop:=Paired fun(p:κ × V) (q:κ × Value)=>p.1=q.1/\Yj p.2 q.2
noncomputable def kV:Key->V
 | .inl i=>.int i
 | .inr x=>.str x
inductive HO where
 | lst (xs:List V)
 | tup (xs:List V)
 | dK (Yg:List (Key × V)) | dT (Yg:List (List Key × V))
 | set (S:Int->Bool) (n:Nat)
 | ins (C dx:Addr) (fs:List (Str × V))
 | own (x:Addr)
 | xd (fs:List (Str × V))
 | met (f x:Addr)
 | rng (lo hi:Int)
 | frz (o:Obj) (u:HO)
 | tbl (ps:Array Value)
 | ext (φ:Heap->Prop)
noncomputable abbrev Hp:=Addr->Option HO
noncomputable def upd(H:Hp)(a:Addr)(o:HO):Hp:=fun b=>if b=a then some o else H b
theorem AC:upd H a o a=some o:=by unfold upd;rw[if_pos rfl]
theorem AH(h:b≠a):upd H a o b=H b:=by unfold upd;rw[if_neg h]
theorem AN{u:HO}(h:H a=some o)(h':H b=some u)(d:o≠u):a≠b:=by
 intro e;subst e;rw[h]at h';exact d (ZQ h')
theorem BD(h:H a=some o)(h':H b=none):a≠b:=by
 intro e;subst e;rw[h]at h';cases h'
noncomputable def IsTupN(h:Heap)(a:Addr)(items:Array Value):Prop:=∃o,h.get? a=some o/\o.cls=.type "tuple" /\ (∃n,o.data=.seq items n)/\o.dict=none
theorem IsTupN.tup{items:Array Value}(x:IsTupN h a items):PyProof.Rows.IsTup h a items:=by
 obtain⟨o,e,c,d,_⟩:=x;exact⟨o,e,c,d⟩
theorem IsTupN.new(h:Heap)(items:Array Value):IsTupN (h.push { cls:=.type "tuple",data:=.seq items }) h.objs.size items:=⟨_,ZM _ rfl,rfl,⟨_,rfl⟩,rfl⟩
section
variable (P:Program)(w:World)
noncomputable def ObjOk(H:Hp)(h:Heap)(a:Addr):HO->Prop
 | .lst xs=>xs.length<=sizeLine/\∃(Ye:List Value) (n:Nat),Yi xs Ye/\h.get? a=some { cls:=.type "list",data:=.seq Ye.toArray n }
 | .tup xs=>xs.length<=sizeLine/\∃Ye:List Value,Yi xs Ye/\IsTupN h a Ye.toArray
 | .dK Yg=>Yg.length<=sizeLine/\(a == sysModules)=false/\∃vs,KV Yg vs/\h.DictOf (Bm P w) a vs
 | .dT Yg=>Yg.length<=sizeLine/\(a == sysModules)=false/\∃xs:List (List Key × Addr × Value),
  Paired (fun(p:List Key × V) (q:List Key × Addr × Value)=>p.1=q.1/\H q.2.1=some (.tup (p.1.map kV))/\Yj p.2 q.2.2) Yg xs /\
  ∃o es ep,h.get? a=some o/\o.ExactDict/\o.data=.dict es ep/\es.toList=xs.map (entryOfKey (tupleKind (Bm P w)))/\(xs.map (·.1)).Nodup
 | .set S n=>h.SetOf (intKind P w) a S n
 | .ins C dx fs=>H dx=some (.own a)/\fs.length<=1000/\dx≠a/\h.get? a=some (PySem.W.instObj C dx) /\
  ∃mA,h.Ns1 dx mA/\(∀f,RelO (fs.lookup f) (mA f))/\PySem.Within mA (fs.map (·.1))
 | .own _=>∃o,h.get? a=some o
 | .xd fs=>∃mA,h.Ns1 a mA/\∀f,RelO (fs.lookup f) (mA f)
 | .rng lo hi=>∃t u v,h.get? a=some { cls:=.type "range",data:=.fields #[.int lo t,.int hi u,.int 1 v] }
 | .frz o u=>h.get? a=some o/\ObjOk H h a u
 | .tbl ps=>h.get? a=some { cls:=.none,data:=.fields ps }
 | .met f x=>h.get? a=some (PySem.W.methodObj (.ref f) (.ref x))
 | .ext φ=>φ h/\(∃o,h.get? a=some o)/\∀h1 h2:Heap,φ h1->(∀o,h1.get? a=some o->h2.get? a=some o)->φ h2
noncomputable def HOk(H:Hp)(h:Heap):Prop:=∀a o,H a=some o->ObjOk P w H h a o
end
section
variable {P:Program}{w:World}{H H':Hp}{h h':Heap}{a:Addr}{o:HO}
theorem ObjOk.lt(x:ObjOk P w H h a o):a < h.objs.size:=by
 cases o with
 | lst xs=>obtain⟨_,_,_,_,e⟩:=x;exact ZG e
 | tup xs=>obtain⟨_,_,_,p⟩:=x;exact p.tup.lt
 | dK Yg=>obtain⟨_,_,_,_,o,_,_,e,_⟩:=x;exact ZG e
 | dT Yg=>obtain⟨_,_,_,_,o,_,_,e,_⟩:=x;exact ZG e
 | set S n=>obtain⟨o,_,_,_,e,_⟩:=x;exact ZG e
 | ins C dx fs=>obtain⟨_,_,_,e,_⟩:=x;exact ZG e
 | own y=>obtain⟨_,e⟩:=x;exact ZG e
 | xd fs=>obtain⟨_,⟨_,_,_,e,_⟩,_⟩:=x;exact ZG e
 | rng lo hi=>obtain⟨_,_,_,e⟩:=x;exact ZG e
 | frz ob u=>obtain⟨e,_⟩:=x;exact ZG e
 | tbl ps=>exact ZG (show h.get? a=some _ from x)
 | met f y=>exact ZG (show h.get? a=some _ from x)
 | ext φ=>obtain⟨_,⟨_,e⟩,_⟩:=x;exact ZG e
theorem Paired.mapP{α β:Type}{F G:α->β->Prop}:∀{l₁:List α} {l₂:List β},Paired F l₁ l₂->(∀a b,F a b->G a b)->Paired G l₁ l₂
 | _,_,.nil,_=>.nil
 | _,_,.cons r t,f=>.cons (f _ _ r) (Paired.mapP t f)
theorem ObjOk.stay (x:ObjOk P w H h a o) (k:∀b u,(b=a\/H b=some (.own a))->h.get? b=some u->h'.get? b=some u)
 (ho:∀b,H b=some (.own a)->H' b=some (.own a)) (ht:∀b xs,H b=some (.tup xs)->H' b=some (.tup xs)):ObjOk P w H' h' a o:=by
 induction o with
 | lst xs=>obtain⟨z,Ye,n,r,e⟩:=x;exact⟨z,Ye,n,r,k _ _ (.inl rfl) e⟩
 | tup xs=>obtain⟨z,Ye,r,ob,e,c⟩:=x;exact⟨z,Ye,r,ob,k _ _ (.inl rfl) e,c⟩
 | dK Yg=>obtain⟨z,y,vs,r,ob,es,ep,e,c⟩:=x;exact⟨z,y,vs,r,ob,es,ep,k _ _ (.inl rfl) e,c⟩
 | dT Yg =>
  obtain⟨z,y,xs,r,ob,es,ep,e,c⟩:=x;exact⟨z,y,xs,Paired.mapP r fun p q z=>⟨z.1,ht _ _ z.2.1,z.2.2⟩,ob,es,ep,k _ _ (.inl rfl) e,c⟩
 | set S n=>obtain⟨ob,es,ep,t,e,c⟩:=x;exact⟨ob,es,ep,t,k _ _ (.inl rfl) e,c⟩
 | ins C dx fs =>
  obtain⟨d,z,ne,e,mA,⟨od,es,ep,e2,c⟩,r⟩:=x;exact⟨ho _ d,z,ne,k _ _ (.inl rfl) e,mA,⟨od,es,ep,k _ _ (.inr d) e2,c⟩,r⟩
 | own y=>obtain⟨ob,e⟩:=x;exact⟨ob,k _ _ (.inl rfl) e⟩
 | xd fs=>obtain⟨mA,⟨od,es,ep,e,c⟩,r⟩:=x;exact⟨mA,⟨od,es,ep,k _ _ (.inl rfl) e,c⟩,r⟩
 | rng lo hi=>obtain⟨t,u,v,e⟩:=x;exact⟨t,u,v,k _ _ (.inl rfl) e⟩
 | frz ob u ih=>obtain⟨e,q⟩:=x;exact⟨k _ _ (.inl rfl) e,ih q⟩
 | tbl ps =>
  have e:h.get? a=some { cls:=.none,data:=.fields ps }:=x;show h'.get? a=some { cls:=.none,data:=.fields ps };exact k a _ (.inl rfl) e
 | met f y =>
  have e:h.get? a=some (PySem.W.methodObj (.ref f) (.ref y)):=x;show h'.get? a=some (PySem.W.methodObj (.ref f) (.ref y));exact k a _ (.inl rfl) e
 | ext φ=>obtain⟨p,⟨o,e⟩,st⟩:=x;exact⟨st _ _ p fun o q=>k _ _ (.inl rfl) q,⟨o,k _ _ (.inl rfl) e⟩,st⟩
theorem HOk.lt(x:HOk P w H h)(e:H a=some o):a < h.objs.size:=(x a o e).lt
theorem HOk.fresh(x:HOk P w H h)(e:h.objs.size<=a):H a=none:=by
 cases q:H a with
 | none=>rfl
 | some u=>exact absurd (ZS (x.lt q) e) (Zc _)
theorem HOk.kept(x:HOk P w H h)(k:∀b u,h.get? b=some u->h'.get? b=some u):HOk P w H h':=fun a o e =>
 (x a o e).stay (fun b u _ q=>k b u q) (fun _ q=>q) fun _ _ q=>q
theorem HOk.laid(x:HOk P w H h)(k:∀b u,h.get? b=some u->h'.get? b=some u)(hp:h.objs.size<=a)(new:ObjOk P w (upd H a o) h' a o):HOk P w (upd H a o) h':=fun b u e=>by
 have hn:=x.fresh hp
 by_cases hb:b=a
 ·subst hb;rw[AC]at e;cases e;exact new
 ·rw[AH hb]at e;exact(x b u e).stay (fun c v _ q=>k c v q) (fun c q=>by rw[AH (BD q hn)];exact q) fun c xs q=>by rw[AH (BD q hn)];exact q
end
noncomputable def Rd(H:Hp)(a:Addr)(u:HO):Prop:=H a=some u\/∃o,H a=some (.frz o u)
theorem Rd.ok{u:HO}(r:Rd H a u)(x:HOk P w H h):ObjOk P w H h a u:=by
 rcases r with r | ⟨o,r⟩
 ·exact x a u r
 ·obtain⟨_,q⟩:=x a _ r;exact q
noncomputable def Mut:Option HO->Prop
 | some (.lst _)=>True
 | some (.dK _)=>True
 | some (.dT _)=>True
 | some (.set _ _)=>True
 | some (.ins _ _ _)=>True
 | some (.ext _)=>True
 | _=>False
section
variable {P:Program}{w:World}{H:Hp}{h h':Heap}{x e:Addr}{o':HO}
theorem HOk.write (ok:HOk P w H h) (mu:Mut (H x)) (he:e=x\/H e=some (.own x)) (k:∀b u,b≠e->h.get? b=some u->h'.get? b=some u) (heo:∃u,h'.get? e=some u)
 (new:ObjOk P w (upd H x o') h' x o'):HOk P w (upd H x o') h':=fun b u q=>by
 have nown:∀c y,H c=some (.own y)->c≠x:=fun c y r z=>by subst z;rw[r]at mu;exact mu
 have ntup:∀c xs,H c=some (.tup xs)->c≠x:=fun c xs r z=>by subst z;rw[r]at mu;exact mu
 by_cases hb:b=x
 ·subst hb;rw[AC]at q;cases q;exact new
 ·rw[AH hb]at q
  by_cases hbe:b=e
  ·have q':H b=some (.own x):=by
    rcases he with z | z
    ·exact absurd (hbe.trans z) hb
    ·rw[hbe];exact z
   rw[q]at q';cases q';obtain⟨v,hv⟩:=heo;exact⟨v,by rw[hbe];exact hv⟩
  ·refine(ok b u q).stay (fun c v hc r=>k c v ?_ r) (fun c r=>by rw[AH (nown c b r)];exact r) fun c xs r=>by rw[AH (ntup c xs r)];exact r
   rcases hc with rfl | hc
   ·exact hbe
   ·rintro rfl
    rcases he with z | z
    ·exact nown c b hc z
    ·rw[hc]at z;cases z;exact hb rfl
end
structure Un(fs ex:List Addr)(H H':Hp)(h h':Heap):Prop where
 keep:∀b o,h.get? b=some o->H b=none->b∉fs->b∉ex->h'.get? b=some o
 slot:∀b o,h.get? b=some o->H b=none->b∈fs->b∉ex->∃sl,h'.get? b=some { o with slots:=sl }
 free:∀b o,h.get? b=some o->H b=none->b∉ex->H' b=none
 there:∀b o,h.get? b=some o->b∉ex->∃o',h'.get? b=some o'
 tups:∀b xs,H b=some (.tup xs)->H' b=some (.tup xs)
 frzs:∀b o u,H b=some (.frz o u)->H' b=some (.frz o u)
 tbls:∀b ps,H b=some (.tbl ps)->∃more,H' b=some (.tbl (ps++more))
section
variable {fs fs' ex ex':List Addr}{H H1 H2:Hp}{h h1 h2 h':Heap}{a x e:Addr}{o:HO}
theorem Un.any(u:Un fs ex H H1 h h1){ob:Obj}(q:h.get? b=some ob)(n:H b=none)(hx:b∉ex):∃sl,h1.get? b=some { ob with slots:=sl }:=by
 by_cases hb:b∈fs
 ·exact u.slot b ob q n hb hx
 ·exact⟨ob.slots,u.keep b ob q n hb hx⟩
theorem Un.kept(k:∀b u,h.get? b=some u->h'.get? b=some u):Un fs ex H H h h' :=
 ⟨fun b ob q _ _ _=>k b ob q,fun b ob q _ _ _=>⟨ob.slots,k b ob q⟩,fun _ _ _ n _=>n,fun b ob q _=>⟨ob,k b ob q⟩,fun _ _ q=>q,fun _ _ _ q=>q,fun _ ps q=>⟨#[],by rw[q];simp⟩⟩
theorem Un.refl:Un fs ex H H h h:=Un.kept fun _ _ q=>q
theorem Un.laid(k:∀b u,h.get? b=some u->h'.get? b=some u)(hp:h.objs.size<=a)(hn:H a=none):Un fs ex H (upd H a o) h h' where
 keep:=fun b u q _ _ _=>k b u q
 slot:=fun b u q _ _ _=>⟨u.slots,k b u q⟩
 free:=fun b u q n _=>by rw[AH (ZK (ZS (ZG q) hp))];exact n
 there:=fun b u q _=>⟨u,k b u q⟩
 tups:=fun b xs q=>by rw[AH (BD q hn)];exact q
 frzs:=fun b u xs q=>by rw[AH (BD q hn)];exact q
 tbls:=fun b ps q=>⟨#[],by rw[AH (BD q hn),q];simp⟩
theorem Un.write(mu:Mut (H x))(he:e=x\/H e=some (.own x))(k:∀b u,b≠e->h.get? b=some u->h'.get? b=some u)(heo:∃u,h'.get? e=some u):Un fs ex H (upd H x o) h h':=by
 have hx:∀b,H b=none->b≠x:=fun b n z=>by subst z;rw[n]at mu;exact mu
 have hb:∀b,H b=none->b≠e:=fun b n z=>by
  subst z
  rcases he with r | r
  ·exact hx b n r
  ·rw[n]at r;cases r
 have hm:∀b u,H b=some u->¬Mut (some u)->b≠x:=fun b u q nm z=>by subst z;rw[q]at mu;exact nm mu
 refine⟨fun b u q n _ _=>k b u (hb b n) q,fun b u q n _ _=>⟨u.slots,k b u (hb b n) q⟩,fun b u q n _=>by rw[AH (hx b n)];exact n,fun b u q _=>?_,
  fun b xs q=>by rw[AH (hm b _ q fun z=>z)];exact q,fun b u xs q=>by rw[AH (hm b _ q fun z=>z)];exact q,fun b ps q=>⟨#[],by rw[AH (hm b _ q fun z=>z),q];simp⟩⟩
 by_cases hbe:b=e
 ·subst hbe;exact heo
 ·exact⟨u,k b u hbe q⟩
end
noncomputable def trk(h:Heap)(H:Hp):List Addr:=(List.range h.objs.size).filter fun a=>(H a).isSome
noncomputable def B8(h:Heap)(H:Hp):Heap:=PySem.W.hideAll h (trk h H)
theorem LK(h:Heap)(H:Hp):(B8 h H).objs.size=h.objs.size:=PySem.W.hideAll_size _ _
theorem LQ{o:Obj}(e:h.get? b=some o)(n:H b=none):(B8 h H).get? b=some o :=
 PySem.W.hideAll_get _ e fun hm=>by
  have q:(H b).isSome=true:=(Zm.mp hm).2;rw[n]at q;simp at q
theorem MN{o:Obj}(e:(B8 h H).get? b=some o):h.get? b=some o/\H b=none:=by
 have e':h.get? b=some o:=PySem.W.of_hideAll (trk h H) e;refine⟨e',?_⟩;cases q:H b with
 | none=>rfl
 | some x =>
  have hm:b∈trk h H:=Zm.mpr ⟨Zn.mpr (ZG e'),by simp[q]⟩;have z:(B8 h H).get? b=none:=PySem.W.hideAll_none (trk h H) hm;rw[z]at e;cases e
structure Mod(K:W.Frag)(mg:Str->Option Value)(base:Heap):Prop where
 kin:K.In base
 glob:base.Ns mainGlobals mg
 blt:∃mb,base.Ns builtinsNs mb/\∀x:Str,x ≠ "__name__" -> mb x=bootBuiltins x
 nolimit:base.NoLimit
structure Cx where
 prog:Program
 w:World
 K:W.Frag
 mg:Str->Option Value
 base:Heap
 A:Around
 N:List Str
 s₀:Shared
 H₀:Hp
 env:Env
 outer:List Env
 stack:List Env
 ex:List Addr
 fn:Str->Bool
 calm:Bool
 pn:List (Addr × Obj)
 xe:Value->Shared->Prop
noncomputable def frs(l:List Env):List Addr:=l.filterMap (·.frame)
noncomputable abbrev Cx.fs(X:Cx):List Addr:=frs X.outer
noncomputable def Vis(sc:Scope)(x:Str):Prop:=sc.names.lookup x=some .local\/sc.names.lookup x=some .cell\/sc.names.lookup x=some .free
noncomputable def Loc(sc:Scope)(x:Str):Prop:=sc.names.lookup x=some .local\/sc.names.lookup x=some .cell
noncomputable def Oh(env:Env)(h:Heap)(m:Str->Option Value)(x:Str)(u:Value):Prop :=
 (env.kindOf x=some .local/\m x=some u)\/((env.kindOf x=some .cell\/env.kindOf x=some .free)/\∃c,env.cells.lookup x=some c/\h.IsCell c (some u))
structure Cx.Ok(X:Cx):Prop where
 mod:Mod X.K X.mg X.base
 kind:X.env.scope.kind=.function
 glob:X.env.globals=mainGlobals
 blt:X.env.builtins=builtinsNs
 above:X.s₀.heap.objs.size<=X.env.locals
 inj:∀x y c,X.env.cells.lookup x=some c->X.env.cells.lookup y=some c->x=y
 has:∀x,(X.env.kindOf x=some .cell\/X.env.kindOf x=some .free)->∃c,X.env.cells.lookup x=some c
 cab:∀x c,X.fn x=true->X.env.cells.lookup x=some c->X.s₀.heap.objs.size<=c
 hd:X.calm=true->X.A.handled=none
 frames:X.A.frames=some X.stack
 stk:X.stack=X.outer\/(X.stack=X.env::X.outer/\X.env.frame=some X.env.locals)
 exf:∀b∈X.ex,b≠X.env.locals/\∀x c,X.env.cells.lookup x=some c->c≠b
 bs:∀b o,X.base.get? b=some o->X.s₀.heap.get? b=some o/\X.H₀ b=none
 bsz:X.base.objs.size<=X.s₀.heap.objs.size
 noex:∀b o,X.base.get? b=some o->b∉X.ex
 exfs:∀b∈X.ex,b∉X.fs
 funs:X.s₀.heap.FunFrames X.base X.outer
 frf:∀b∈X.fs,X.H₀ b=none
structure Yf(X:Cx)(Ya:List (Addr × Obj))(σ:List (Option V))(H:Hp)(s:Shared):Prop where
 ok:X.Ok
 os:s.os=X.s₀.os
 bare:AllBare s.gens
 base:Un X.fs X.ex X.H₀ H X.s₀.heap s.heap
 loc:∃m,s.heap.Ns X.env.locals m/\∀(i:Nat) (x:Str) (v:V),X.N[i]? = some x->σ[i]? = some (some v)->Vis X.env.scope x->∃u,Yj v u/\Oh X.env s.heap m x u
 cell:∀x c,X.env.cells.lookup x=some c->∃v,s.heap.IsCell c v
 free:H X.env.locals=none
 freeC:∀x c,X.env.cells.lookup x=some c->H c=none
 pin:∀p∈X.pn++Ya,s.heap.get? p.1=some p.2/\H p.1=none/\p.1≠X.env.locals/\p.1∉X.fs/\∀v,p.2.data≠.cell v
 hok:HOk X.prog X.w H s.heap
 len:σ.length=X.N.length
section
variable {X:Cx}{Ya:List (Addr × Obj)}{σ:List (Option V)}{H H':Hp}{s:Shared}{h':Heap}
theorem Cx.Ok.nofr(ok:X.Ok){o:Obj}(e:X.base.get? b=some o):b∉X.fs:=fun hb=>by
 have:=(ok.funs.mem hb).1
 rw[e]at this;cases this
theorem Yf.bs(I:Yf X Ya σ H s):∀b o,X.base.get? b=some o->s.heap.get? b=some o/\H b=none:=fun b o e =>
 ⟨I.base.keep b o (I.ok.bs b o e).1 (I.ok.bs b o e).2 (I.ok.nofr e) (I.ok.noex b o e),I.base.free b o (I.ok.bs b o e).1 (I.ok.bs b o e).2 (I.ok.noex b o e)⟩
theorem Yf.bk(I:Yf X Ya σ H s):∀b o,X.base.get? b=some o->s.heap.get? b=some o:=fun b o e=>(I.bs b o e).1
theorem Yf.mod(I:Yf X Ya σ H s):Mod X.K X.mg X.base:=I.ok.mod
theorem Yf.kIn(I:Yf X Ya σ H s):X.K.In s.heap:=I.ok.mod.kin.keeps I.bk
theorem Yf.lt(I:Yf X Ya σ H s):X.env.locals < s.heap.objs.size:=let ⟨_,hn,_⟩:=I.loc;hn.lt
theorem Yf.sz(I:Yf X Ya σ H s):X.s₀.heap.objs.size<=s.heap.objs.size:=Za I.ok.above (Zq I.lt)
theorem Yf.nofs(I:Yf X Ya σ H s)(h:s.heap.objs.size<=a):a∉X.fs:=fun hb=>by
 obtain⟨_,o,ho,_⟩:=I.ok.funs.mem hb;exact absurd (ZS (ZG ho) (Za I.sz h)) (Zc _)
theorem Yf.cne(I:Yf X Ya σ H s):∀x c,X.env.cells.lookup x=some c->c≠X.env.locals:=fun x c e z=>by
 obtain⟨v,o,ho,hd⟩:=I.cell x c e;obtain⟨m,⟨o',es,ep,ho',hd',_⟩,_⟩:=I.loc;rw[z,ho']at ho;cases ho;rw[hd']at hd;cases hd
theorem Yf.funs(I:Yf X Ya σ H s):s.heap.FunFrames X.base X.outer:=by
 have all:∀(l:List Env),(∀b∈frs l,b∈X.fs)->X.s₀.heap.FunFrames X.base l->s.heap.FunFrames X.base l:=by
  intro l
  induction l with
  | nil=>intro _ _;trivial
  | cons env r ih =>
   intro hs hl;obtain⟨hk,⟨L,o,hf,hn,ho,hd⟩,hr⟩:=hl;have hL:L∈X.fs:=hs L (by unfold frs;rw[ZBe,hf];exact Zg);obtain⟨sl,e⟩:=I.base.slot L o ho (I.ok.frf L hL) hL fun z=>I.ok.exfs L z hL
   exact⟨hk,⟨L,_,hf,hn,e,hd⟩,ih (fun b hb=>hs b (by unfold frs;rw[ZBe,hf];exact ZW _ hb)) hr⟩
 exact all X.outer (fun _ hb=>hb) I.ok.funs
theorem Yf.stack(I:Yf X Ya σ H s):s.heap.FunFrames X.base X.stack:=by
 rcases I.ok.stk with e | ⟨e,hf⟩
 ·rw[e];exact I.funs
 ·rw[e];obtain⟨m,hn,_⟩:=I.loc;refine .cons (by rw[I.ok.kind];decide) hf hn ?_ I.funs;exact ZBQ (Za I.ok.bsz I.ok.above)
theorem Yf.stkSub(I:Yf X Ya σ H s):∀b∈frs X.stack,b∈X.env.locals::X.fs:=fun b hb=>by
 rcases I.ok.stk with e | ⟨e,hf⟩
 ·rw[e]at hb;exact ZW _ hb
 ·rw[e]at hb;unfold frs at hb;rw[ZBe,hf]at hb;exact hb
theorem Yf.stkFree(I:Yf X Ya σ H s):∀b∈frs X.stack,H b=none:=fun b hb=>by
 rcases ZI.mp (I.stkSub b hb) with e | hb
 ·rw[e];exact I.free
 ·obtain⟨_,o,ho,_⟩:=I.ok.funs.mem hb;exact I.base.free b o ho (I.ok.frf b hb) fun z=>I.ok.exfs b z hb
theorem Yf.step {g':Array GenState} {d':Drawn} {ch:List Addr} (I:Yf X Ya σ H s)
 (hch:∀b∈ch,(b∈X.ex\/X.s₀.heap.objs.size<=b)/\b≠X.env.locals/\(∀x c,X.env.cells.lookup x=some c->c≠b)/\∀p∈X.pn++Ya,p.1≠b)
 (keep:∀b o,b≠X.env.locals->b∉X.fs->b∉ch->s.heap.get? b=some o->H b=none->h'.get? b=some o)
 (slot:∀b o,b≠X.env.locals->b∈X.fs->b∉ch->s.heap.get? b=some o->H b=none->∃sl,h'.get? b=some { o with slots:=sl }) (free:∀b o,b∉ch->s.heap.get? b=some o->H b=none->H' b=none)
 (there:∀b o,b∉ch->s.heap.get? b=some o->∃o',h'.get? b=some o')
 (tups:∀b xs,H b=some (.tup xs)->H' b=some (.tup xs)) (frzs:∀b o u,H b=some (.frz o u)->H' b=some (.frz o u)) (tbls:∀b ps,H b=some (.tbl ps)->∃more,H' b=some (.tbl (ps++more)))
 (ns:∀m,s.heap.Ns X.env.locals m->h'.Ns X.env.locals m) (hok:HOk X.prog X.w H' h') (hg:AllBare g') :
 Yf X Ya σ H' { s with heap:=h',gens:=g',drawn:=d',toks:=t' }:=by
 have neL:∀b o,X.s₀.heap.get? b=some o->b≠X.env.locals:=fun b o e=>ZK (ZS (ZG e) I.ok.above)
 have neC:∀b o,X.s₀.heap.get? b=some o->b∉X.ex->b∉ch:=fun b o e hx hb=>by
  rcases(hch b hb).1 with z | z
  ·exact hx z
  ·exact absurd (ZS (ZG e) z) (Zc _)
 have cellK:∀x c,X.env.cells.lookup x=some c->∀v,s.heap.IsCell c v->h'.IsCell c v:=fun x c e v ⟨o,ho,hd⟩=>by
  have nch:c∉ch:=fun z=>(hch c z).2.2.1 x c e rfl
  by_cases hc:c∈X.fs
  ·obtain⟨sl,q⟩:=slot c o (I.cne x c e) hc nch ho (I.freeC x c e);exact⟨_,q,hd⟩
  ·exact⟨o,keep c o (I.cne x c e) hc nch ho (I.freeC x c e),hd⟩
 refine⟨I.ok,I.os,hg,⟨fun b o e n hb hx=>?_,fun b o e n hb hx=>?_,fun b o e n hx=>?_,fun b o e hx=>?_,fun b xs e=>tups b xs (I.base.tups b xs e),fun b o xs e=>frzs b o xs (I.base.frzs b o xs e),fun b ps e=>?_⟩,?_,fun x c e=>?_,?_,fun x c e=>?_,fun p hp=>?_,hok,I.len⟩
 ·exact keep b o (neL b o e) hb (neC b o e hx) (I.base.keep b o e n hb hx) (I.base.free b o e n hx)
 ·obtain⟨sl,e1⟩:=I.base.slot b o e n hb hx;obtain⟨sl',e2⟩:=slot b _ (neL b o e) hb (neC b o e hx) e1 (I.base.free b o e n hx);exact⟨sl',e2⟩
 ·obtain⟨o',e1⟩:=I.base.there b o e hx;exact free b o' (neC b o e hx) e1 (I.base.free b o e n hx)
 ·obtain⟨o',e1⟩:=I.base.there b o e hx;exact there b o' (neC b o e hx) e1
 ·obtain⟨m1,e1⟩:=I.base.tbls b ps e;obtain⟨m2,e2⟩:=tbls b _ e1;exact⟨m1++m2,by rw[e2,Array.append_assoc]⟩
 ·obtain⟨m,hn,hl⟩:=I.loc;refine⟨m,ns m hn,fun i x v e1 e2 e3=>?_⟩;obtain⟨u,r,l⟩:=hl i x v e1 e2 e3;refine⟨u,r,?_⟩
  rcases l with l | ⟨k,c,e,z⟩
  ·exact .inl l
  ·exact .inr ⟨k,c,e,cellK x c e _ z⟩
 ·obtain⟨v,z⟩:=I.cell x c e;exact⟨v,cellK x c e v z⟩
 ·obtain⟨m,⟨o,_,_,ho,_⟩,_⟩:=I.loc;exact free _ o (fun z=>(hch _ z).2.1 rfl) ho I.free
 ·obtain⟨v,o,ho,hd⟩:=I.cell x c e;exact free c o (fun z=>(hch c z).2.2.1 x c e rfl) ho (I.freeC x c e)
 ·obtain⟨e,n,ne,nf,d⟩:=I.pin p hp;have nch:p.1∉ch:=fun z=>(hch p.1 z).2.2.2 p hp rfl
  exact⟨keep p.1 p.2 ne nf nch e n,free p.1 p.2 nch e n,ne,nf,d⟩
theorem Yf.un(I:Yf X Ya σ H s)(u:Un X.fs [] H H' s.heap h')(hok:HOk X.prog X.w H' h'):Yf X Ya σ H' { s with heap:=h',toks:=t' }:=by
 obtain⟨m,⟨o,es,ep,ho,r⟩,_⟩:=id I.loc;obtain⟨sl,hL⟩:=u.any ho I.free (by simp)
 exact I.step (g':=s.gens) (d':=s.drawn) (ch:=[]) (fun _ z=>nomatch z) (fun b o _ hb _ e n=>u.keep b o e n hb (by simp)) (fun b o _ hb _ e n=>u.slot b o e n hb (by simp)) (fun b o _ e n=>u.free b o e n (by simp)) (fun b o _ e=>u.there b o e (by simp)) u.tups u.frzs u.tbls (fun m' hm=>by
  obtain⟨o',es',ep',ho',r'⟩:=hm;rw[ho]at ho';cases ho';exact⟨_,es',ep',hL,r'⟩) hok I.bare
theorem Yf.call {g':Array GenState} {d':Drawn} {ch:List Addr} (I:Yf X Ya σ H s) (u:Un (frs X.stack) ch H H' s.heap h') (hok:HOk X.prog X.w H' h') (hg:AllBare g')
 (hch:∀b∈ch,(b∈X.ex\/X.s₀.heap.objs.size<=b)/\b≠X.env.locals/\(∀x c,X.env.cells.lookup x=some c->c≠b)/\∀p∈X.pn++Ya,p.1≠b) :
 Yf X Ya σ H' { s with heap:=h',gens:=g',drawn:=d',toks:=t' }:=by
 obtain⟨m,⟨o,es,ep,ho,r⟩,_⟩:=id I.loc;obtain⟨sl,hL⟩:=u.any ho I.free fun z=>(hch _ z).2.1 rfl
 exact I.step (ch:=ch) hch (fun b o hL hb hc e n=>u.keep b o e n (fun z=>(ZI.mp (I.stkSub b z)).elim hL hb) hc) (fun b o _ _ hc e n=>u.any e n hc) (fun b o hc e n=>u.free b o e n hc) (fun b o hc e=>u.there b o e hc) u.tups u.frzs u.tbls (fun m' hm=>by
  obtain⟨o',es',ep',ho',r'⟩:=hm;rw[ho]at ho';cases ho';exact⟨_,es',ep',hL,r'⟩) hok hg
theorem Yf.turned {it:Addr} (I:Yf X Ya σ H s) (k:∀b o,b≠it->s.heap.get? b=some o->h'.get? b=some o) (hn:H it=none) (hL:it≠X.env.locals)
 (h1:it∈X.ex\/X.s₀.heap.objs.size<=it) (h2:∀x c,X.env.cells.lookup x=some c->c≠it) (h3:∀p∈X.pn++Ya,p.1≠it):Yf X Ya σ H { s with heap:=h',toks:=t' }:=by
 have nit:∀b u,H b=some u->b≠it:=fun b u e z=>by rw[z,hn]at e;cases e
 refine I.step (g':=s.gens) (d':=s.drawn) (ch:=[it]) (fun b hb=>?_) (fun b o _ _ hc e _=>k b o (fun z=>hc (by simp[z])) e) (fun b o _ _ hc e _=>⟨o.slots,k b o (fun z=>hc (by simp[z])) e⟩) (fun _ _ _ _ n=>n)
  (fun b o hc e=>⟨o,k b o (fun z=>hc (by simp[z])) e⟩) (fun _ _ e=>e) (fun _ _ _ e=>e) (fun b ps e=>⟨#[],by rw[e];simp⟩) (fun m hm=>?_) (fun b u e=>?_) I.bare
 ·have e:b=it:=by simpa using hb
  subst e;exact⟨h1,hL,h2,h3⟩
 ·obtain⟨o,es,ep,ho,r⟩:=hm;exact⟨o,es,ep,k _ o (Ne.symm hL) ho,r⟩
 ·refine(I.hok b u e).stay (fun c v hc q=>k c v ?_ q) (fun _ q=>q) fun _ _ q=>q
  rcases hc with z | z
  ·rw[z];exact nit b u e
  ·exact nit c _ z
theorem Yf.tok(I:Yf X Ya σ H s)(t:Nat):Yf X Ya σ H { s with toks:=t }:=I.un (h':=s.heap) (t':=t) Un.refl I.hok
theorem Yf.kept(I:Yf X Ya σ H s)(k:∀b u,s.heap.get? b=some u->h'.get? b=some u):Yf X Ya σ H { s with heap:=h',toks:=t' }:=I.un (Un.kept k) (I.hok.kept k)
theorem Yf.laid(I:Yf X Ya σ H s)(k:∀b u,s.heap.get? b=some u->h'.get? b=some u)(hp:s.heap.objs.size<=a)(new:ObjOk X.prog X.w (upd H a o) h' a o) :
 Yf X Ya σ (upd H a o) { s with heap:=h',toks:=t' }:=I.un (Un.laid k hp (I.hok.fresh hp)) (I.hok.laid k hp new)
theorem Yf.write {x e:Addr} (I:Yf X Ya σ H s) (mu:Mut (H x)) (he:e=x\/H e=some (.own x)) (k:∀b u,b≠e->s.heap.get? b=some u->h'.get? b=some u) (heo:∃u,h'.get? e=some u)
 (new:ObjOk X.prog X.w (upd H x o) h' x o):Yf X Ya σ (upd H x o) { s with heap:=h',toks:=t' }:=I.un (Un.write mu he k heo) (I.hok.write mu he k heo new)
theorem Yf.weak{σ':List (Option V)}(I:Yf X Ya σ H s)(hl:σ'.length=σ.length)(w:∀(i:Nat) v,σ'[i]? = some (some v)->σ[i]? = some (some v)):Yf X Ya σ' H s :=
 ⟨I.ok,I.os,I.bare,I.base,let ⟨m,hn,hl'⟩:=I.loc;⟨m,hn,fun i x v e1 e2 e3=>hl' i x v e1 (w i v e2) e3⟩,I.cell,I.free,I.freeC,I.pin,I.hok,hl.trans I.len⟩
theorem Yf.pins_of{pins':List (Addr × Obj)}(I:Yf X Ya σ H s)(h:∀p∈pins',s.heap.get? p.1=some p.2/\H p.1=none/\p.1≠X.env.locals/\p.1∉X.fs/\∀v,p.2.data≠.cell v):Yf X pins' σ H s :=
 ⟨I.ok,I.os,I.bare,I.base,I.loc,I.cell,I.free,I.freeC,fun p hp=>(Zh.mp hp).elim (fun z=>I.pin p (ZBR _ z)) (h p),I.hok,I.len⟩
theorem GG{N:List Str}(hN:N.Nodup){j:Nat}(a:N[i]? = some x)(b:N[j]? = some x):i=j:=by
 obtain⟨h1,e1⟩:=Zr.mp a;obtain⟨h2,e2⟩:=Zr.mp b;exact(List.getElem_inj hN).mp (e1.trans e2.symm)
theorem NV {M:Model} {Q:Unit->Shared->Prop} (I:Yf X Ya σ H s) (hN:X.N.Nodup) (hi:X.N[i]? = some x) (hx:Loc X.env.scope x) (r:Yj v u)
 (h:∀s',Yf X Ya (σ.set i (some v)) H s'->(∃a,Heap.SameBut a s.heap s'.heap/\(a=X.env.locals\/X.env.cells.lookup x=some a))->Q () s') (hf:X.fn x=true\/X.env.scope.names.lookup x=some .local:=by first | exact .inl rfl | exact .inr rfl | assumption):wpAny M A (storeName X.env x u) Q E s:=by
 obtain⟨m,hn,hl⟩:=id I.loc;have hcls:(X.env.scope.kind == .class || (X.env.scope.kind == .module && X.env.locals != X.env.globals))=false:=by rw[I.ok.kind];rfl
 have hiσ:i < σ.length:=by rw[I.len];exact(Zr.mp hi).1
 have cne:=I.cne
 have tracked:∀{a:Addr} {h':Heap},(∃o,s.heap.get? a=some o/\H a=none)->Heap.SameBut a s.heap h'->HOk X.prog X.w H h':=fun {a h'} ha hs b ob e=>by
  obtain⟨_,_,hfree⟩:=ha;refine(I.hok b ob e).stay (fun c w' hc q=>(hs.2 c ?_).trans q) (fun _ q=>q) fun _ _ q=>q
  rintro rfl
  rcases hc with rfl | hc
  ·rw[hfree]at e;cases e
  ·rw[hfree]at hc;cases hc
 rcases hx with hk | hk
 ·refine wpAny_storeName_local hk hn (fun h' hn' hs=>?_) hcls;obtain⟨oL,_,_,hoL,_⟩:=id hn;refine h _ ⟨I.ok,I.os,I.bare,⟨fun b o e n hb hx=>?_,fun b o e n hb hx=>?_,I.base.free,fun b o e hx=>?_,I.base.tups,I.base.frzs,I.base.tbls⟩,⟨_,hn',fun j y v' e1 e2 e3=>?_⟩,fun y c e=>?_,I.free,I.freeC,fun p hp=>?_,tracked ⟨oL,hoL,I.free⟩ hs,by simpa using I.len⟩ ⟨_,hs,.inl rfl⟩
  ·exact(hs.2 b (ZK (ZS (ZG e) I.ok.above))).trans (I.base.keep b o e n hb hx)
  ·obtain⟨sl,e1⟩:=I.base.slot b o e n hb hx;exact⟨sl,(hs.2 b (ZK (ZS (ZG e) I.ok.above))).trans e1⟩
  ·obtain⟨o',e1⟩:=I.base.there b o e hx;exact⟨o',(hs.2 b (ZK (ZS (ZG e) I.ok.above))).trans e1⟩
  ·by_cases hj:j=i
   ·subst hj;rw[hi]at e1;cases e1;rw[List.getElem?_set_self hiσ]at e2;cases e2;exact⟨u,r,.inl ⟨hk,by simp⟩⟩
   ·rw[ZBw (Ne.symm hj)]at e2;obtain⟨u',r',q⟩:=hl j y v' e1 e2 e3;refine⟨u',r',?_⟩
    rcases q with ⟨k,e⟩ | ⟨k,c,e,z⟩
    ·refine .inl ⟨k,?_⟩
     have:y≠x:=fun e=>hj (GG hN e1 (e ▸ hi))
     simp[this,e]
    ·exact .inr ⟨k,c,e,z.sameBut hs (cne y c e)⟩
  ·obtain⟨w',z⟩:=I.cell y c e;exact⟨w',z.sameBut hs (cne y c e)⟩
  ·obtain⟨e,n,ne,nf,d⟩:=I.pin p hp;exact⟨(hs.2 p.1 ne).trans e,n,ne,nf,d⟩
 ·have hfn:X.fn x=true:=by
   rcases hf with z | z
   ·exact z
   ·rw[z]at hk;cases hk
  obtain⟨c,hc⟩:=I.ok.has x (.inl hk);obtain⟨w',z⟩:=I.cell x c hc;refine wpAny_storeName_cell I.ok.kind hk hc z (fun h' hc' hs=>?_);obtain⟨oc,hoc,hocd⟩:=id z;refine h { s with heap:=h' } ⟨I.ok,I.os,I.bare,⟨fun b o e n hb hx=>?_,fun b o e n hb hx=>?_,I.base.free,fun b o e hx=>?_,I.base.tups,I.base.frzs,I.base.tbls⟩,⟨m,hn.sameBut hs (Ne.symm (cne x c hc)),fun j y v' e1 e2 e3=>?_⟩,fun y c' e=>?_,I.free,I.freeC,fun p hp=>?_,tracked ⟨oc,hoc,I.freeC x c hc⟩ hs,by simpa using I.len⟩ ⟨c,hs,.inr hc⟩
  ·exact(hs.2 b (ZK (ZS (ZG e) (I.ok.cab x c hfn hc)))).trans (I.base.keep b o e n hb hx)
  ·obtain⟨sl,e1⟩:=I.base.slot b o e n hb hx;exact⟨sl,(hs.2 b (ZK (ZS (ZG e) (I.ok.cab x c hfn hc)))).trans e1⟩
  ·obtain⟨o',e1⟩:=I.base.there b o e hx;exact⟨o',(hs.2 b (ZK (ZS (ZG e) (I.ok.cab x c hfn hc)))).trans e1⟩
  ·by_cases hj:j=i
   ·subst hj;rw[hi]at e1;cases e1;rw[List.getElem?_set_self hiσ]at e2;cases e2;exact⟨u,r,.inr ⟨.inl hk,c,hc,hc'⟩⟩
   ·rw[ZBw (Ne.symm hj)]at e2;obtain⟨u',r',q⟩:=hl j y v' e1 e2 e3;refine⟨u',r',?_⟩
    rcases q with q | ⟨k,c',e,z'⟩
    ·exact .inl q
    ·refine .inr ⟨k,c',e,z'.sameBut hs ?_⟩;rintro rfl;exact hj (GG hN e1 (I.ok.inj _ _ _ e hc ▸ hi))
  ·by_cases hcc:c'=c
   ·subst hcc;exact⟨_,hc'⟩
   ·obtain⟨w2,z2⟩:=I.cell y c' e;exact⟨w2,z2.sameBut hs hcc⟩
  ·obtain⟨e,n,ne,nf,d⟩:=I.pin p hp;refine⟨(hs.2 p.1 ?_).trans e,n,ne,nf,d⟩;intro q;rw[q,hoc]at e;have q':oc=p.2:=ZQ e;exact d w' (by rw[<- q'];exact hocd)
theorem D6 {M:Model} {Q:Unit->Shared->Prop} (I:Yf X Ya σ H s) (hN:X.N.Nodup) (hi:X.N[i]? = some x) (hx:Loc X.env.scope x) (r:Yj v u)
 (h:∀s',Yf X Ya (σ.set i (some v)) H s'->Q () s') (hf:X.fn x=true\/X.env.scope.names.lookup x=some .local:=by first | exact .inl rfl | exact .inr rfl | assumption):wpAny M A (storeName X.env x u) Q E s :=
 NV I hN hi hx r (fun s' I' _=>h s' I') hf
theorem Yf.call' {s':Shared} {ch:List Addr} (I:Yf X Ya σ H s) (ho:s'.os=s.os) (u:Un (frs X.stack) ch H H' s.heap s'.heap) (hok:HOk X.prog X.w H' s'.heap) (hg:AllBare s'.gens)
 (hch:∀b∈ch,(b∈X.ex\/X.s₀.heap.objs.size<=b)/\b≠X.env.locals/\(∀x c,X.env.cells.lookup x=some c->c≠b)/\∀p∈X.pn++Ya,p.1≠b):Yf X Ya σ H' s':=by
 obtain⟨h',g',d',t',o'⟩:=s';have e:o'=s.os:=ho;subst e;exact I.call (g':=g') (t':=t') (d':=d') u hok hg hch
end
noncomputable abbrev XK:=Value->Option Addr->Hp->Prop
noncomputable abbrev St:=List (Option V)
noncomputable abbrev VK:=V->Hp->Prop
noncomputable abbrev TE:=St->Hp->VK->Prop
noncomputable abbrev TT:=St->Hp->(Bool->Hp->Prop)->Prop
noncomputable abbrev TA:=St->Hp->(List V->Hp->Prop)->Prop
structure Ends where
 nx:St->Hp->Prop
 rt:VK
 bk:St->Hp->Prop:=fun _ _=>False
 ct:St->Hp->Prop:=fun _ _=>False
noncomputable abbrev TS:=Ends->St->Hp->Prop
noncomputable def EP(X:Cx)(Ya:List (Addr × Obj))(σ:St)(Q:VK)(u:Value)(s':Shared):Prop:=∃v H',Yf X Ya σ H' s'/\Yj v u/\Q v H'
noncomputable def TP(X:Cx)(Ya:List (Addr × Obj))(σ:St)(Q:Bool->Hp->Prop)(b:Bool)(s':Shared):Prop:=∃H',Yf X Ya σ H' s'/\Q b H'
noncomputable def AP(X:Cx)(Ya:List (Addr × Obj))(σ:St)(Q:List V->Hp->Prop)(us:List Value)(s':Shared):Prop:=∃vs H',Yf X Ya σ H' s'/\Yi vs us/\Q vs H'
noncomputable def SP(X:Cx)(Ya:List (Addr × Obj))(D:Ends)(f:Flow)(s':Shared):Prop :=
 match f with
 | .next=>∃σ' H',Yf X Ya σ' H' s'/\D.nx σ' H'
 | .brk=>∃σ' H',Yf X Ya σ' H' s'/\D.bk σ' H'
 | .cont=>∃σ' H',Yf X Ya σ' H' s'/\D.ct σ' H'
 | .ret u=>∃v σ' H',Yf X Ya σ' H' s'/\Yj v u/\D.rt v H'
noncomputable def PE(X:Cx)(e:Expr)(t:TE):Prop :=
 ∀(Ya:List (Addr × Obj)) (s:Shared) (σ:St) (H:Hp) (Q:VK),Yf X Ya σ H s->t σ H Q->wpAny (model X.prog X.w) X.A (eval e X.env) (EP X Ya σ Q) X.xe s
noncomputable def PT(X:Cx)(e:Expr)(t:TT):Prop :=
 ∀(Ya:List (Addr × Obj)) (s:Shared) (σ:St) (H:Hp) (Q:Bool->Hp->Prop),Yf X Ya σ H s->t σ H Q->wpAny (model X.prog X.w) X.A (isTrue e X.env (eval e X.env)) (TP X Ya σ Q) X.xe s
noncomputable def PW(X:Cx)(e:Expr)(t:TT):Prop :=
 ∀(whole:Sem Value) (Ya:List (Addr × Obj)) (s:Shared) (σ:St) (H:Hp) (Q:Bool->Hp->Prop),Yf X Ya σ H s->t σ H Q->wpAny (model X.prog X.w) X.A (isTrue e X.env whole) (TP X Ya σ Q) X.xe s
theorem PW.pt{X:Cx}{e:Expr}{t:TT}(h:PW X e t):PT X e t:=h _
noncomputable def PA(X:Cx)(es:List Expr)(t:TA):Prop :=
 ∀(pos:Pos) (Ya:List (Addr × Obj)) (s:Shared) (σ:St) (H:Hp) (Q:List V->Hp->Prop),Yf X Ya σ H s->t σ H Q->wpAny (model X.prog X.w) X.A (spliced (backTo pos (starEach es X.env))) (AP X Ya σ Q) X.xe s
noncomputable def PS(X:Cx)(st:Stmt)(t:TS):Prop :=
 ∀(Ya:List (Addr × Obj)) (s:Shared) (σ:St) (H:Hp) (D:Ends),Yf X Ya σ H s->t D σ H->wpAny (model X.prog X.w) X.A (exec st X.env) (SP X Ya D) X.xe s
noncomputable def PSs(X:Cx)(st:List Stmt)(t:TS):Prop :=
 ∀(Ya:List (Addr × Obj)) (s:Shared) (σ:St) (H:Hp) (D:Ends),Yf X Ya σ H s->t D σ H->wpAny (model X.prog X.w) X.A (execs st X.env) (SP X Ya D) X.xe s
theorem Yn{α:Type}{t:Sem α}{Q Q':α->Shared->Prop}{M:Model}(h:wpAny M A t Q E s)(hQ:∀a s,Q a s->Q' a s):wpAny M A t Q' E s:=ZO h hQ fun _ _ x=>x
section
variable {X:Cx}
noncomputable def TV(i:Nat):TE:=fun σ H Q=>∃v,σ[i]? = some (some v)/\Q v H
noncomputable def tC(v:V):TE:=fun _ H Q=>Q v H
theorem O6(hN:X.N[i]? = some x)(hv:Vis X.env.scope x)(hd:(x == ("__debug__" : Str))=false:=by decide)(hcd:(x == ("__classdict__" : Str))=false:=by decide):PE X (.Name x pos) (TV i):=by
 intro Ya s σ H Q I h;obtain⟨v,e,h⟩:=h;obtain⟨m,hn,hl⟩:=I.loc;obtain⟨u,r,l⟩:=hl i x v hN e hv;have fin:EP X Ya σ Q u s:=⟨v,H,I,r,h⟩
 rcases l with ⟨hk,hm⟩ | ⟨hk,c,hc,hcell⟩
 ·exact wpAny_Name (wpAny_loadName_local I.ok.kind hk hn hm fin) hd
 ·rcases hk with hk | hk
  ·exact wpAny_Name (wpAny_loadName_cell I.ok.kind hk hc hcell fin) hd
  ·exact wpAny_Name (wpAny_loadName_free I.ok.kind hk hc hcell fin hcd) hd
theorem AD{i j pos}:PE X (.Constant (.int i) j pos) (tC (.int i)):=fun _ _ _ H _ I h=>wpAny_Constant_int ⟨.int i,H,I.tok _,⟨_,rfl⟩,h⟩
theorem Bs{b j pos}:PE X (.Constant (.bool b) j pos) (tC (.bl b)):=fun _ _ _ H _ I h=>Constant_bool ⟨.bl b,H,I,rfl,h⟩
theorem B7{j pos}:PE X (.Constant .none j pos) (tC .non):=fun _ _ _ H _ I h=>Constant_none ⟨.non,H,I,rfl,h⟩
theorem EA{x j pos}:PE X (.Constant (.str x) j pos) (tC (.str x)):=fun _ _ _ H _ I h=>Calls.Constant_str ⟨.str x,H,I.tok _,⟨_,rfl⟩,h⟩
noncomputable def Gl(X:Cx)(x:Str):Prop:=X.env.kindOf x=some .globalImplicit
theorem Cw (I:Yf X Ya σ H s) (hg:Gl X x) (hm:X.mg x=some u) (h:Q u s)
 (hd:(x == ("__debug__" : Str))=false:=by decide):wpAny (model X.prog X.w) X.A (eval (.Name x pos) X.env) Q E s :=
 Calls.Name_function_global I.ok.kind hg (Calls.loadGlobal_global (by rw[I.ok.glob];exact I.mod.glob.keeps I.bk) hm h) hd
theorem Cs (I:Yf X Ya σ H s) (hg:Gl X x) (hm:X.mg x=none) (hv:bootBuiltins x=some u) (h:Q u s)
 (hn:x ≠ "__name__":=by decide) (hd:(x == ("__debug__" : Str))=false:=by decide):wpAny (model X.prog X.w) X.A (eval (.Name x pos) X.env) Q E s:=by
 obtain⟨mb,h1,h2⟩:=I.mod.blt;exact Calls.Name_function_global I.ok.kind hg (Calls.loadGlobal_builtin (by rw[I.ok.glob];exact I.mod.glob.keeps I.bk) hm (by rw[I.ok.blt];exact h1.keeps I.bk) ((h2 x hn).trans hv) h) hd
theorem C6(hg:Gl X x)(hm:X.mg x=some u)(r:Yj v u)(hd:(x == ("__debug__" : Str))=false:=by decide):PE X (.Name x pos) (tC v) :=
 fun _ _ _ H _ I h=>Cw I hg hm ⟨v,H,I,r,h⟩ hd
theorem Nm(hg:Gl X x)(hm:X.mg x=none)(hv:bootBuiltins x=some u)(r:Yj v u)(hn:x ≠ "__name__":=by decide)(hd:(x == ("__debug__" : Str))=false:=by decide):PE X (.Name x pos) (tC v) :=
 fun _ _ _ H _ I h=>Cs I hg hm hv ⟨v,H,I,r,h⟩ hn hd
variable {a b:Expr}{ta tb:TE}{pos:Pos}
theorem Fz(b:Expr){op:CmpOp}(h:op≠.In)(h2:op≠.NotIn):behindInMarks op b=false:=by
 have e1:(op == CmpOp.In)=false:=by cases op <;> first | rfl | exact absurd rfl h
 have e2:(op == CmpOp.NotIn)=false:=by cases op <;> first | rfl | exact absurd rfl h2
 cases b <;> simp[behindInMarks,e1,e2]
variable {tA tB':TT}{rest:List Expr}
noncomputable def Ki(t u:TT):TT:=fun σ H Q=>t σ H fun c H1=>if c=true then u σ H1 Q else Q false H1
noncomputable def KZ(t:TT):TT:=fun σ H Q=>t σ H fun c H1=>Q (!c) H1
theorem EF(ha:PT X a tA):PW X (.BoolOp .And [a] pos) tA:=by
 intro wh Ya s σ H Q I h;refine isTrue_and (Yn (ha Ya s σ H Q I h) fun c s1 e=>?_);cases c with
 | true=>exact isTrue_and_nil e
 | false=>exact e
theorem De(ha:PT X a tA)(hb:PW X (.BoolOp .And (b::rest) pos) tB'):PW X (.BoolOp .And (a::b::rest) pos) (Ki tA tB'):=by
 intro wh Ya s σ H Q I h;refine isTrue_and (Yn (ha Ya s σ H _ I h) fun c s1 ⟨H1,I1,q1⟩=>?_);cases c with
 | true=>exact hb wh Ya s1 σ H1 Q I1 q1
 | false=>exact⟨H1,I1,q1⟩
theorem IF(ha:PT X a tA):PT X (.UnaryOp .Not a pos) (KZ tA):=by
 intro Ya s σ H Q I h;exact isTrue_not (ha Ya s σ H (fun c H1=>Q (!c) H1) I h)
noncomputable def Tb(ta tb:TE):TE:=fun σ H Q=>ta σ H fun x H1=>∃c,x=.bl c/\if c=true then tb σ H1 Q else Q (.bl false) H1
noncomputable def OY(ta:TE):TE:=fun σ H Q=>ta σ H fun x H1=>∃c,x=.bl c/\Q (.bl (!c)) H1
theorem Rl{op}{t:TE}(h:PE X a t):PE X (.BoolOp op [a] pos) t:=fun Ya s σ H Q I hw=>BoolOp_one (h Ya s σ H Q I hw)
theorem N3(ha:PE X a ta)(hb:PE X (.BoolOp .And (b::rest) pos) tb):PE X (.BoolOp .And (a::b::rest) pos) (Tb ta tb):=by
 intro Ya s σ H Q I h;refine BoolOp_and (Yn (ha Ya s σ H _ I h) fun v s1 ⟨x,H1,I1,r1,q1⟩=>?_);obtain⟨c,rfl,q1⟩:=q1;cases r1;refine ZBS ?_;cases c with
 | true=>exact hb Ya s1 σ H1 Q I1 q1
 | false=>exact⟨.bl false,H1,I1,rfl,q1⟩
theorem Ts(ha:PE X a ta):PE X (.UnaryOp .Not a pos) (OY ta):=by
 intro Ya s σ H Q I h;refine UnaryOp_ (Yn (ha Ya s σ H _ I h) fun v s1 ⟨x,H1,I1,r1,q1⟩=>?_);obtain⟨c,rfl,q1⟩:=q1;cases r1;exact not_of (ZBS ⟨.bl (!c),H1,I1,rfl,q1⟩)
noncomputable def tIf(t:TT)(ta tb:TE):TE:=fun σ H Q=>t σ H fun c H1=>if c=true then ta σ H1 Q else tb σ H1 Q
theorem DQ{c:Expr}(hc:PT X c tA)(ha:PE X a ta)(hb:PE X b tb):PE X (.IfExp c a b pos) (tIf tA ta tb):=by
 intro Ya s σ H Q I h;refine wpAny_IfExp (Yn (hc Ya s σ H _ I h) fun d s1 ⟨H1,I1,q1⟩=>?_);cases d with
 | true=>exact ha Ya s1 σ H1 Q I1 q1
 | false=>exact hb Ya s1 σ H1 Q I1 q1
end
noncomputable def Yt(K:W.Frag)(H:Hp)(a:Addr)(xs:List V):Prop :=
 Rd H a (.lst xs) \/
  ∃(o:Obj) (Ye:Array Value) (n:Nat),K.lookup a=some o/\o.cls=.type "list" /\ o.dict=none/\o.data=.seq Ye n/\Ye.size<=sizeLine/\Yi xs Ye.toList
noncomputable def Yq(K:W.Frag)(H:Hp)(a:Addr)(xs:List V):Prop :=
 Rd H a (.tup xs) \/
  ∃(o:Obj) (Ye:Array Value) (n:Nat),K.lookup a=some o/\o.cls=.type "tuple" /\ o.dict=none/\o.data=.seq Ye n/\Ye.size<=sizeLine/\Yi xs Ye.toList
noncomputable def RZ:Value->Option V
 | .none=>some .non
 | .bool b=>some (.bl b)
 | .int i _=>some (.int i)
 | .str x _=>some (.str x)
 | .bytes b _=>some (.byt b)
 | .float b _=>some (.flt b)
 | .ref a=>some (.ref a)
 | .type n=>some (.ty n)
 | _=>none
theorem Yj.abs{x:V}(r:Yj x u):RZ u=some x:=by
 cases x with
 | non=>cases r;rfl
 | bl _=>cases r;rfl
 | int _=>obtain⟨t,rfl⟩:=r;rfl
 | str _=>obtain⟨t,rfl⟩:=r;rfl
 | byt _=>obtain⟨t,rfl⟩:=r;rfl
 | flt _=>obtain⟨t,rfl⟩:=r;rfl
 | ref _=>cases r;rfl
 | ty _=>cases r;rfl
theorem Yj.inj{x y:V}(r:Yj x u)(q:Yj y u):x=y:=ZQ (r.abs.symm.trans q.abs)
theorem Yi.inj:∀{xs ys:List V} {us:List Value},Yi xs us->Yi ys us->xs=ys
 | _,_,_,.nil,.nil=>rfl
 | _,_,_,.cons r t,.cons r' t'=>by rw[r.inj r',Yi.inj t t']
section
variable {X:Cx}{Ya:List (Addr × Obj)}{σ:St}{H:Hp}{s:Shared}{a:Addr}{xs ys:List V}
theorem Yt.of(h:H a=some (.lst xs)):Yt K H a xs:=.inl (.inl h)
theorem Yq.of(h:H a=some (.tup xs)):Yq K H a xs:=.inl (.inl h)
theorem Yf.list(I:Yf X Ya σ H s)(h:Yt X.K H a xs):∃Ye:List Value,Yi xs Ye/\PlainL s.heap a Ye.toArray/\xs.length<=sizeLine:=by
 rcases h with h | ⟨o,Ye,n,hk,hc,hd,hs,hz,r⟩
 ·obtain⟨z,Ye,n,r,e⟩:=h.ok I.hok;exact⟨Ye,r,⟨_,n,e,rfl,rfl,rfl⟩,z⟩
 ·refine⟨Ye.toList,r,⟨o,n,I.kIn a o hk,hc,hd,by simpa using hs⟩,?_⟩;have e:=r.length;simp only[Zd]at e;lia
theorem Yf.tuple(I:Yf X Ya σ H s)(h:Yq X.K H a xs):∃Ye:List Value,Yi xs Ye/\IsTup s.heap a Ye.toArray/\xs.length<=sizeLine:=by
 rcases h with h | ⟨o,Ye,n,hk,hc,hdd,hs,hz,r⟩
 ·obtain⟨z,Ye,r,p⟩:=h.ok I.hok;exact⟨Ye,r,p.tup,z⟩
 ·refine⟨Ye.toList,r,⟨o,I.kIn a o hk,hc,n,by simpa using hs⟩,?_⟩;have e:=r.length;simp only[Zd]at e;lia
theorem Yf.list_inj(I:Yf X Ya σ H s)(h:Yt X.K H a xs)(h':Yt X.K H a ys):xs=ys:=by
 obtain⟨Ye,r,⟨o,n,e,_,_,d⟩,_⟩:=I.list h;obtain⟨its',r',⟨o',n',e',_,_,d'⟩,_⟩:=I.list h';rw[e]at e';cases e';rw[d]at d';injection d' with d1 _
 have:Ye=its':=by simpa using congrArg Array.toList d1
 subst this;exact r.inj r'
theorem Yf.tuple_inj(I:Yf X Ya σ H s)(h:Yq X.K H a xs)(h':Yq X.K H a ys):xs=ys:=by
 obtain⟨Ye,r,⟨o,e,_,n,d⟩,_⟩:=I.tuple h;obtain⟨its',r',⟨o',e',_,n',d'⟩,_⟩:=I.tuple h';rw[e]at e';cases e';rw[d]at d';injection d' with d1 _
 have:Ye=its':=by simpa using congrArg Array.toList d1
 subst this;exact r.inj r'
end
noncomputable abbrev Cx.wish(X:Cx)(E:Value->Shared->Prop):Cx:={ X with xe:=E }
noncomputable abbrev Cx.nox(X:Cx):Cx:=X.wish fun _ _=>False
theorem Cx.Ok.wish{X:Cx}(ok:X.Ok)(E:Value->Shared->Prop):(X.wish E).Ok :=
 ⟨ok.mod,ok.kind,ok.glob,ok.blt,ok.above,ok.inj,ok.has,ok.cab,ok.hd,ok.frames,ok.stk,ok.exf,ok.bs,ok.bsz,ok.noex,ok.exfs,ok.funs,ok.frf⟩
theorem Cx.Ok.unwish{X:Cx}(ok:(X.wish E).Ok):X.Ok :=
 ⟨ok.mod,ok.kind,ok.glob,ok.blt,ok.above,ok.inj,ok.has,ok.cab,ok.hd,ok.frames,ok.stk,ok.exf,ok.bs,ok.bsz,ok.noex,ok.exfs,ok.funs,ok.frf⟩
section
variable {X:Cx}{Ya:List (Addr × Obj)}{σ:St}{H:Hp}{s:Shared}{E:Value->Shared->Prop}
theorem Yf.wish(I:Yf X Ya σ H s)(E:Value->Shared->Prop):Yf (X.wish E) Ya σ H s:=⟨I.ok.wish E,I.os,I.bare,I.base,I.loc,I.cell,I.free,I.freeC,I.pin,I.hok,I.len⟩
theorem Yf.unwish(I:Yf (X.wish E) Ya σ H s):Yf X Ya σ H s:=⟨I.ok.unwish,I.os,I.bare,I.base,I.loc,I.cell,I.free,I.freeC,I.pin,I.hok,I.len⟩
theorem SP.unwish{D:Ends}{f:Flow}{s':Shared}(h:SP (X.wish E) Ya D f s'):SP X Ya D f s':=by
 cases f with
 | next=>obtain⟨σ',H',I,q⟩:=h;exact⟨σ',H',I.unwish,q⟩
 | brk=>obtain⟨σ',H',I,q⟩:=h;exact⟨σ',H',I.unwish,q⟩
 | cont=>obtain⟨σ',H',I,q⟩:=h;exact⟨σ',H',I.unwish,q⟩
 | ret u=>obtain⟨v,σ',H',I,r,q⟩:=h;exact⟨v,σ',H',I.unwish,r,q⟩
theorem PT.nox{e:Expr}{t:TT}(h:PT X.nox e t):PT X e t:=fun Ya s σ H Q I hw =>
 ZO (h Ya s σ H Q (I.wish _) hw) (fun _ _ ⟨H',I',q⟩=>⟨H',I'.unwish,q⟩) fun _ _ z=>False.elim z
theorem PSs.nox{st:List Stmt}{t:TS}(h:PSs X.nox st t):PSs X st t:=fun Ya s σ H D I hw =>
 ZO (h Ya s σ H D (I.wish _) hw) (fun _ _ q=>q.unwish) fun _ _ z=>False.elim z
end
section
variable {X:Cx}{st:Stmt}{rest:List Stmt}{t u:TS}{e:Expr}{te:TE}{pos:Pos}
noncomputable def CJ:TS:=fun D σ H=>D.nx σ H
noncomputable def IG(t u:TS):TS:=fun D σ H=>t { D with nx:=u D } σ H
theorem Av:PSs X [] CJ:=fun _ _ σ H _ I h=>wpAny_execs_nil ⟨σ,H,I,h⟩
theorem AF(h1:PS X st t)(h2:PSs X rest u):PSs X (st::rest) (IG t u):=by
 intro Ya s σ H D I h;refine wpAny_execs_cons (Yn (h1 Ya s σ H { D with nx:=u D } I h) fun f s1 q=>?_);cases f with
 | next =>
  obtain⟨σ',H',I',q⟩:=q;exact h2 Ya s1 σ' H' D I' q
 | ret v=>exact q
 | brk=>exact q
 | cont=>exact q
theorem AI(h1:PS X st t):PSs X [st] t:=by
 intro Ya s σ H D I h;refine wpAny_execs_cons (Yn (h1 Ya s σ H D I h) fun f s1 q=>?_);cases f with
 | next=>exact wpAny_execs_nil q
 | ret v=>exact q
 | brk=>exact q
 | cont=>exact q
theorem Yf.quiet(I:Yf X Ya σ H s):interactive X.env=false:=by simp[interactive,I.ok.kind]
noncomputable def JJ(te:TE):TS:=fun D σ H=>te σ H fun _ H1=>D.nx σ H1
theorem DJ(he:PE X e te)(hs:swapsWith e none pos.line X.env=pure false:=by rfl):PS X (.Expr e pos) (JJ te):=by
 intro Ya s σ H D I h;exact wpAny_Expr_any (Yn (he Ya s σ H _ I h) fun v s1 ⟨x,H1,I1,r1,q1⟩=>⟨σ,H1,I1,q1⟩) I.quiet hs
noncomputable def NR(te:TE):TS:=fun D σ H=>te σ H D.rt
theorem AR(he:PE X e te):PS X (.Return (some e) pos) (NR te):=by
 intro Ya s σ H D I h;exact wpAny_Return_some (Yn (he Ya s σ H _ I h) fun v s1 ⟨x,H1,I1,r1,q1⟩=>⟨x,σ,H1,I1,r1,q1⟩)
noncomputable def Ms(c:TT)(t u:TS):TS:=fun D σ H=>c σ H fun b H1=>if b=true then t D σ H1 else u D σ H1
theorem Aw{c:Expr}{a b:List Stmt}{tc:TT}(hc:PT X c tc)(ha:PSs X a t)(hb:PSs X b u):PS X (.If c a b pos) (Ms tc t u):=by
 intro Ya s σ H D I h;refine wpAny_If (Yn (hc Ya s σ H _ I h) fun d s1 ⟨H1,I1,q1⟩=>?_);cases d with
 | true=>exact ha Ya s1 σ H1 D I1 q1
 | false=>exact hb Ya s1 σ H1 D I1 q1
end
noncomputable abbrev TG:=V->St->Hp->(St->Hp->Prop)->Prop
noncomputable abbrev TGs:=List V->St->Hp->(St->Hp->Prop)->Prop
noncomputable def PG(X:Cx)(target:Expr)(t:TG):Prop :=
 ∀(Ya:List (Addr × Obj)) (s:Shared) (σ:St) (H:Hp) (v:V) (u:Value) (Q:St->Hp->Prop),Yf X Ya σ H s->Yj v u->t v σ H Q ->
  wpAny (model X.prog X.w) X.A (assign target X.env u) (fun _ s'=>∃σ' H',Yf X Ya σ' H' s'/\Q σ' H') X.xe s
noncomputable def PGs(X:Cx)(ts:List Expr)(t:TGs):Prop :=
 ∀(Ya:List (Addr × Obj)) (s:Shared) (σ:St) (H:Hp) (vs:List V) (us:List Value) (Q:St->Hp->Prop),Yf X Ya σ H s->Yi vs us->t vs σ H Q ->
  wpAny (model X.prog X.w) X.A (assignInOrder ((assignEach ts X.env).map (·.2)) us) (fun _ s'=>∃σ' H',Yf X Ya σ' H' s'/\Q σ' H') X.xe s
noncomputable abbrev DU:=V->V->V->Hp->(Hp->Prop)->Prop
noncomputable def Gf(X:Cx)(t:DU):Prop :=
 ∀(Ya:List (Addr × Obj)) (s:Shared) (σ:St) (H:Hp) (o i v:V) (ov iv u:Value) (Q:Hp->Prop),Yf X Ya σ H s->Yj o ov->Yj i iv->Yj v u->t o i v H Q ->
  wpAny (model X.prog X.w) X.A (setItem ov iv u) (fun _ s'=>∃H',Yf X Ya σ H' s'/\Q H') X.xe s
section
variable {X:Cx}{pos:Pos}
noncomputable def Af(i:Nat):TG:=fun v σ H Q=>Q (σ.set i (some v)) H
theorem AT(hN:X.N.Nodup)(hi:X.N[i]? = some x)(hx:Loc X.env.scope x)(hf:X.fn x=true\/X.env.scope.names.lookup x=some .local:=by first | exact .inl rfl | exact .inr rfl | assumption):PG X (.Name x pos) (Af i):=by
 intro Ya s σ H v u Q I r h;exact wpAny_assign_Name (D6 I hN hi hx r (fun s' I'=>⟨_,H,I',h⟩) hf)
noncomputable def Go:TGs:=fun vs σ H Q=>vs=[]/\Q σ H
noncomputable def IJ(t:TG)(u:TGs):TGs:=fun vs σ H Q=>∃v r,vs=v::r/\t v σ H fun σ' H'=>u r σ' H' Q
theorem E6:PGs X [] Go:=by
 intro Ya s σ H vs us Q I r h;obtain⟨e,h⟩:=h;subst e;cases r;exact assignInOrder_nil ⟨σ,H,I,h⟩
theorem CO {e:Expr} {es:List Expr} {t:TG} {u:TGs} (h1:PG X e t) (h2:PGs X es u)
 (hs:(assignEach (e::es) X.env).map (·.2)=assign e X.env::(assignEach es X.env).map (·.2):=by rfl):PGs X (e::es) (IJ t u):=by
 intro Ya s σ H vs us Q I r h;obtain⟨v,vr,e1,h⟩:=h;subst e1;cases r with
 | cons r rr =>
  rw[hs];refine assignInOrder_cons (Yn (h1 Ya s σ H _ _ _ I r h) fun _ s1 ⟨σ1,H1,I1,q1⟩=>?_);exact h2 Ya s1 σ1 H1 _ _ Q I1 rr q1
noncomputable def Ie(K:W.Frag)(n:Nat)(t:TGs):TG:=fun v σ H Q=>∃a xs,v=.ref a/\Yq K H a xs/\xs.length=n/\t xs σ H Q
theorem NO {es:List Expr} {t:TGs} {n:Nat} (hc:X.calm=true) (h:PGs X es t)
 (hn:(assignEach es X.env).length=n:=by rfl) (hst:(assignEach es X.env).findIdx? (·.1)=none:=by rfl):PG X (.Tuple es k pos) (Ie X.K n t):=by
 intro Ya s σ H v u Q I r hw;obtain⟨a,xs,e1,hq,hl,hw⟩:=hw;subst e1;cases r;obtain⟨Ye,rv,ht,hz⟩:=I.tuple hq;refine assign_Tuple_tuple (I.ok.hd hc) ht (by simp[hn,<- hl,rv.length]) hst fun h' hx=>?_
 have I1:Yf X Ya σ H { s with heap:=h' }:=I.kept (t':=s.toks) fun b o e=>hx b o (ZK (ZG e)) e
 exact h Ya _ σ H xs _ Q I1 (by simpa using rv) hw
noncomputable def NB(to ti:TE)(t:DU):TG:=fun v σ H Q=>to σ H fun o H1=>ti σ H1 fun i H2=>t o i v H2 fun H3=>Q σ H3
theorem C1 {o i:Expr} {to ti:TE} {t:DU} (ho:PE X o to) (hi:PE X i ti) (hs:Gf X t)
 (ha:∀v,assign (.Subscript o i pos) X.env v=(do
   let ov <- holding [v] (eval o X.env);let iv <- holding [v,ov] (eval i X.env)
   standAt pos
   holding [v,ov,iv] (setItem ov iv v)
   release [v,ov,iv] []):=by intro _;rfl):PG X (.Subscript o i pos) (NB to ti t):=by
 intro Ya s σ H v u Q I r h;rw[ha];refine ZA (Ze (Yn (ho Ya s σ H _ I h) fun ov s1 ⟨x,H1,I1,r1,q1⟩=>?_));refine ZA (Ze (Yn (hi Ya s1 σ H1 _ I1 q1) fun iv s2 ⟨y,H2,I2,r2,q2⟩=>?_));refine ZA (ZBI (ZA (Ze (Yn (hs Ya s2 σ H2 x y v ov iv u _ I2 r1 r2 r q2) fun _ s3 ⟨H3,I3,q3⟩=>?_))));exact wpAny_release ⟨σ,H3,I3,q3⟩
noncomputable def DS(te:TE)(g:TG):TS:=fun D σ H=>te σ H fun x H1=>g x σ H1 D.nx
theorem Ct {tg e:Expr} {te:TE} {g:TG} (he:PE X e te) (hg:PG X tg g) (hs:swapsWithSole [tg] e pos.line X.env=pure false:=by rfl) (hw:swappedStores [tg] e X.env=pure none:=by rfl)
 (h1:(assignEach [tg] X.env).map (·.2)=[assign tg X.env]:=by rfl):PS X (.Assign [tg] e pos) (DS te g):=by
 intro Ya s σ H D I h;refine wpAny_Assign_stores (Yn (he Ya s σ H _ I h) fun v s1 ⟨x,H1,I1,r1,q1⟩=>?_) hs hw;rw[h1];exact Yn (hg Ya s1 σ H1 x v _ I1 r1 q1) fun _ s2 q=>q
theorem AO{i:Nat}{x:Str}{e:Expr}{te:TE}{pos':Pos}(hN:X.N.Nodup)(hi:X.N[i]? = some x)(hx:Loc X.env.scope x)(he:PE X e te)(hs:swapsWith e (some (.Name x pos')) pos.line X.env=pure false:=by rfl)(hf:X.fn x=true\/X.env.scope.names.lookup x=some .local:=by first | exact .inl rfl | exact .inr rfl | assumption) :
 PS X (.Assign [.Name x pos'] e pos) (DS te (Af i)):=by
 intro Ya s σ H D I h;refine wpAny_Assign_Name (Yn (he Ya s σ H _ I h) fun v s1 ⟨y,H1,I1,r1,q1⟩=>?_) hs;exact D6 I1 hN hi hx r1 (fun s2 I2=>⟨_,H1,I2,q1⟩) hf
end
structure It where
 go:Nat->Hp->Prop
 yld:Nat->Hp->V->Hp->Prop
 stop:Nat->Hp->Prop
noncomputable def A7(X:Cx)(Ya:List (Addr × Obj))(H:Hp)(b:Addr):Prop :=
 H b=none/\b≠X.env.locals/\b∉X.fs/\(b∈X.ex\/X.s₀.heap.objs.size<=b)/\(∀x c,X.env.cells.lookup x=some c->c≠b)/\∀p∈X.pn++Ya,p.1≠b
theorem Yf.fpOk{X:Cx}{H':Hp}(I:Yf X Ya σ H s)(hb:s.heap.objs.size<=b)(hn:H' b=none):A7 X Ya H' b:=by
 refine⟨hn,ZBa (ZS I.lt hb),I.nofs hb,.inr (Za I.sz hb),fun x c e z=>?_,fun p hp z=>?_⟩
 ·obtain⟨v,q⟩:=I.cell x c e;exact absurd (ZS q.lt (by rw[z];exact hb)) (Zc _)
 ·exact absurd (ZS (ZG (I.pin p hp).1) (by rw[z];exact hb)) (Zc _)
structure Turn(P:Program)(w:World)(K:W.Frag)(tg:Expr)(J:It)(fp:List Addr)(it:Addr)(tn:Nat->Heap->Prop):Prop where
 mem:it∈fp
 obj:∀i h,tn i h->∀b∈fp,∃o,h.get? b=some o/\∀v,o.data≠.cell v
 keep:∀i h h',tn i h->(∀b∈fp,∀o,h.get? b=some o->h'.get? b=some o)->tn i h'
 item:∀(X:Cx),X.prog=P->X.w=w->X.K=K->X.calm=true->∀(i:Nat) (Ya:List (Addr × Obj)) (s:Shared) (σ:St) (H:Hp) (E:Value->Shared->Prop),Yf X Ya σ H s->(∀b∈fp,A7 X Ya H b)->tn i s.heap->J.go i H ->
  wpAny (model P w) X.A (pyNext (.ref it)) (fun r s1=>∃u,r=some u /\
   wpAny (model P w) X.A (letOwnedTupleGo tg (.ref it) u) (fun _ s2=>∃x H',Yf X Ya σ H' s2/\Yj x u/\J.yld i H x H'/\tn (i+1) s2.heap/\∀b∈fp,H' b=none) E s1) E s
 done:∀(X:Cx),X.prog=P->X.w=w->X.K=K->X.calm=true->∀(i:Nat) (Ya:List (Addr × Obj)) (s:Shared) (σ:St) (H:Hp) (E:Value->Shared->Prop),Yf X Ya σ H s->(∀b∈fp,A7 X Ya H b)->tn i s.heap->J.stop i H ->
  wpAny (model P w) X.A (pyNext (.ref it)) (fun r s1=>r=none/\Yf X Ya σ H s1) E s
 self:∀(A:Around) (i:Nat) (s:Shared) (Q:Value->Shared->Prop) (E:Value->Shared->Prop),tn i s.heap->Q (.ref it) s->wpAny (model P w) A (pyIter (.ref it)) Q E s
noncomputable abbrev TI:=St->Hp->(It->Hp->Prop)->Prop
noncomputable def PIE(X:Cx)(Ya:List (Addr × Obj))(σ:St)(tg:Expr)(R:It->Hp->Prop)(itv:Value)(s2:Shared):Prop :=
 ∃(it:Addr) (fp:List Addr) (tn:Nat->Heap->Prop) (J:It) (H':Hp),itv=.ref it/\Yf X Ya σ H' s2/\Turn X.prog X.w X.K tg J fp it tn/\tn 0 s2.heap/\(∀b∈fp,A7 X Ya H' b)/\R J H'
noncomputable def PI(X:Cx)(tg iter:Expr)(wi:TI):Prop :=
 ∀(Ya:List (Addr × Obj)) (s:Shared) (σ:St) (H:Hp) (R:It->Hp->Prop),Yf X Ya σ H s->wi σ H R ->
  wpAny (model X.prog X.w) X.A (eval iter X.env) (fun v s1=>wpAny (model X.prog X.w) X.A (pyIter v) (PIE X Ya σ tg R) X.xe s1) X.xe s
theorem IE {M:Model} {tg:Expr} {it:Addr} {o:Obj} {n:String} {vs:Array Value} {Q:Unit->Shared->Prop} (ho:s.heap.get? it=some o) (hc:o.cls=.type n) (hd:o.data=.fields vs)
 (hn:["enumerate","zip","dict_itemiterator","dict_reverseitemiterator","odict_iterator","itertools.zip_longest","itertools.pairwise"].contains n=false) (hQ:Q () s):wpAny M A (letOwnedTupleGo tg (.ref it) u) Q E s:=by
 unfold letOwnedTupleGo
 cases tg <;> first
  | exact ZB hQ
  | (cases u <;> first
      | exact ZB hQ
      | (refine ZA (wpAny_load ho ?_)
         rw[hc,hd];show wpAny M A (if (["enumerate","zip","dict_itemiterator","dict_reverseitemiterator","odict_iterator","itertools.zip_longest","itertools.pairwise"].contains n && vs[0]? == some (rawInt _))=true then _ else _) Q E s;rw[if_neg (by intro h;rw[hn,Bool.false_and]at h;cases h)];exact ZB hQ))
noncomputable def Itl(K:W.Frag)(a:Addr):It :=
 ⟨fun i H=>∃xs x,Yt K H a xs/\xs[i]? = some x,fun i H x H'=>H'=H/\∀xs,Yt K H a xs->xs[i]? = some x,fun i H=>∃xs,Yt K H a xs/\xs.length<=i⟩
noncomputable def Itt(K:W.Frag)(a:Addr):It :=
 ⟨fun i H=>∃xs x,Yq K H a xs/\xs[i]? = some x,fun i H x H'=>H'=H/\∀xs,Yq K H a xs->xs[i]? = some x,fun i H=>∃xs,Yq K H a xs/\xs.length<=i⟩
noncomputable def Itr(lo:Int)(n:Nat):It:=⟨fun i _=>i < n,fun i H x H'=>H'=H/\x=.int (lo+i),fun i _=>n<=i⟩
theorem Pa{tg:Expr}(a it:Addr):Turn P w K tg (Itl K a) [it] it (fun i h=>h.IsListIter it a i) where
 mem:=by simp
 obj:=fun i h st b hb=>by
  have e:b=it:=by simpa using hb
  subst e;obtain⟨o,e,c,d⟩:=st;exact⟨o,e,fun v z=>by rw[d]at z;cases z⟩
 keep:=fun i h h' st k=>st.at fun o e=>k it (by simp) o e
 item:=by
  intro X hP hw hK hc i Ya s σ H E I hf st hg;subst hP hw hK;obtain⟨xs,x,hq,hx⟩:=hg;obtain⟨Ye,rv,p,hz⟩:=I.list hq;obtain⟨u,hu,ru⟩:=rv.get hx;obtain⟨f0,f1,f2,f3,f4,f5⟩:=hf it (by simp);refine wpAny_pyNext_list_item st p.isList (x:=u) (by simpa using hu) fun h' st' sb=>?_
  have I1:Yf X Ya σ H { s with heap:=h' }:=I.turned (t':=s.toks) (fun b o hb e=>(sb.2 b hb).trans e) f0 f1 f3 f4 f5;obtain⟨o,e,c,d⟩:=id st';exact⟨u,rfl,IE (s:={ s with heap:=h' }) e c d (by decide) ⟨x,H,I1,ru,⟨rfl,fun ys hy=>by rw[I.list_inj hy hq];exact hx⟩,st',fun b hb=>(hf b hb).1⟩⟩
 done:=by
  intro X hP hw hK hc i Ya s σ H E I hf st hg;subst hP hw hK;obtain⟨xs,hq,hx⟩:=hg;obtain⟨Ye,rv,p,hz⟩:=I.list hq;obtain⟨f0,f1,f2,f3,f4,f5⟩:=hf it (by simp);have hl:=rv.length;exact wpAny_pyNext_list_end (I.ok.hd hc) st p.isList (by simp;lia) fun h' eb=>⟨rfl,I.turned (t':=s.toks) (fun b o hb e=>eb b o hb e) f0 f1 f3 f4 f5⟩
 self:=fun _ _ _ _ _ st h=>wpAny_pyIter_listiter st h
theorem TN{tg:Expr}(a it:Addr):Turn P w K tg (Itt K a) [it] it (fun i h=>h.IsTupleIter it a i) where
 mem:=by simp
 obj:=fun i h st b hb=>by
  have e:b=it:=by simpa using hb
  subst e;obtain⟨o,e,c,d⟩:=st;exact⟨o,e,fun v z=>by rw[d]at z;cases z⟩
 keep:=fun i h h' st k=>st.at fun o e=>k it (by simp) o e
 item:=by
  intro X hP hw hK hc i Ya s σ H E I hf st hg;subst hP hw hK;obtain⟨xs,x,hq,hx⟩:=hg;obtain⟨Ye,rv,p,hz⟩:=I.tuple hq;obtain⟨u,hu,ru⟩:=rv.get hx;obtain⟨f0,f1,f2,f3,f4,f5⟩:=hf it (by simp);refine wpAny_pyNext_tuple_item st (show s.heap.IsTuple a Ye.toArray from p) (x:=u) (by simpa using hu) fun h' st' sb=>?_
  have I1:Yf X Ya σ H { s with heap:=h' }:=I.turned (t':=s.toks) (fun b o hb e=>(sb.2 b hb).trans e) f0 f1 f3 f4 f5;obtain⟨o,e,c,d⟩:=id st';exact⟨u,rfl,IE (s:={ s with heap:=h' }) e c d (by decide) ⟨x,H,I1,ru,⟨rfl,fun ys hy=>by rw[I.tuple_inj hy hq];exact hx⟩,st',fun b hb=>(hf b hb).1⟩⟩
 done:=by
  intro X hP hw hK hc i Ya s σ H E I hf st hg;subst hP hw hK;obtain⟨xs,hq,hx⟩:=hg;obtain⟨Ye,rv,p,hz⟩:=I.tuple hq;obtain⟨f0,f1,f2,f3,f4,f5⟩:=hf it (by simp);have hl:=rv.length;exact wpAny_pyNext_tuple_end (I.ok.hd hc) st (show s.heap.IsTuple a Ye.toArray from p) (by simp;lia) fun h' eb=>⟨rfl,I.turned (t':=s.toks) (fun b o hb e=>eb b o hb e) f0 f1 f3 f4 f5⟩
 self:=fun _ _ _ _ _ st h=>wpAny_pyIter_tupleiter st h
theorem QB{tg:Expr}(it:Addr)(lo:Int)(n:Nat):Turn P w K tg (Itr lo n) [it] it (fun i h=>IsRangeIter h it (lo+(i:Nat) * 1) ((n:Int) - (i:Nat)) 1) where
 mem:=by simp
 obj:=fun i h st b hb=>by
  have e:b=it:=by simpa using hb
  subst e
  exact⟨_,st,fun v z=>by
   have z':Data.fields _=Data.cell v:=z;cases z'⟩
 keep:=fun i h h' st k=>k it (by simp) _ st
 item:=by
  intro X hP hw hK hc i Ya s σ H E I hf st hg;subst hP hw hK;obtain⟨f0,f1,f2,f3,f4,f5⟩:=hf it (by simp);have W:=Walks.range (prog:=X.prog) (w:=X.w) (I.ok.hd hc) it lo 1 n;refine W.item i s _ _ hg st fun v h' tk hv st' kk=>?_
  obtain⟨t,rfl⟩:=hv;have I1:Yf X Ya σ H { s with heap:=h',toks:=tk }:=I.turned (fun b o hb e=>kk b o (by simpa using hb) e) f0 f1 f3 f4 f5;refine⟨_,rfl,IE (s:={ s with heap:=h',toks:=tk }) (n:="range_iterator") st' rfl rfl (by decide) ⟨.int (lo+i),H,I1,⟨t,?_⟩,⟨rfl,rfl⟩,st',fun b hb=>(hf b hb).1⟩⟩;rw[Int.mul_one]
 done:=by
  intro X hP hw hK hc i Ya s σ H E I hf st hg;subst hP hw hK;obtain⟨f0,f1,f2,f3,f4,f5⟩:=hf it (by simp);exact wpAny_pyNext_range_end (I.ok.hd hc) st (by have:n<=i:=hg;lia) fun h' eb=>⟨rfl,I.turned (t':=s.toks) (fun b o hb e=>eb b o hb e) f0 f1 f3 f4 f5⟩
 self:=fun _ _ _ _ _ st h=>wpAny_pyIter_rangeiter st h
section
variable {X:Cx}{tg:Expr}
theorem Jf {R:It->Hp->Prop} {lo hi:Int} {t u v:Tok} {tk:Nat} (I:Yf X Ya σ H s) (h1 : -(2 ^ 62)<=lo) (h2:lo < 2 ^ 62) (h3 : -(2 ^ 62)<=hi) (h4:hi < 2 ^ 62)
 (q:R (Itr lo (hi - lo).toNat) H):wpAny (model X.prog X.w) X.A (pyIter (.ref s.heap.objs.size)) (PIE X Ya σ tg R) E { s with heap:=s.heap.push { cls:=.type "range",data:=.fields #[.int lo t,.int hi u,.int 1 v] },toks:=tk }:=by
 refine wpAny_pyIter_range (IsRange.new ..) (small_one h1 h2 h3 h4) ?_;have I1:Yf X Ya σ H { s with heap:=s.heap.push { cls:=.type "range",data:=.fields #[.int lo t,.int hi u,.int 1 v] },toks:=tk }:=I.kept fun b o e=>ZH _ e
 refine⟨(s.heap.push { cls:=.type "range",data:=.fields #[.int lo t,.int hi u,.int 1 v] }).objs.size,[(s.heap.push { cls:=.type "range",data:=.fields #[.int lo t,.int hi u,.int 1 v] }).objs.size],_,_,H,rfl,
  I1.kept (t':=tk) fun b o e=>ZH _ e,QB _ lo (hi - lo).toNat,?_,fun b hb=>?_,q⟩
 ·have e1:lo+((0:Nat):Int) * 1=lo:=by simp
  have e2:(((hi - lo).toNat:Nat):Int) - ((0:Nat):Int)=Builtin.Range.rangeSize lo hi 1:=by rw[rangeSize_one];split <;> lia
  show IsRangeIter _ _ (lo+((0:Nat):Int) * 1) ((((hi - lo).toNat:Nat):Int) - ((0:Nat):Int)) 1;rw[e1,e2];exact ZM _ rfl
 ·have e:b=(s.heap.push { cls:=.type "range",data:=.fields #[.int lo t,.int hi u,.int 1 v] }).objs.size:=by simpa using hb
  subst e;exact I1.fpOk (ZD _) (I1.hok.fresh (ZD _))
noncomputable def Lf(ta:TA):TI:=fun σ H R=>ta σ H fun vs H1=>∃j:Int,vs=[.int j] /\ -(2 ^ 62)<=j/\j < 2 ^ 62/\R (Itr 0 j.toNat) H1
noncomputable def KG(ta:TA):TI:=fun σ H R=>ta σ H fun vs H1=>∃i j:Int,vs=[.int i,.int j]/\(-(2 ^ 62)<=i/\i < 2 ^ 62 /\ -(2 ^ 62)<=j/\j < 2 ^ 62)/\R (Itr i (j - i).toNat) H1
theorem A3{a:Expr}{ta:TA}{p:Pos}(hg:Gl X "range")(hm:X.mg "range" = none)(ha:PA X [a] ta)(hs:starEach [a] X.env=[(false,eval a X.env)]:=by rfl):PI X tg (.Call (.Name "range" p) [a] [] pos) (Lf ta):=by
 intro Ya s σ H R I h;refine Call_ (Cs I hg hm boot_range (PyProof.Rows.callWith_type1 (Yn (ha pos Ya s σ H _ I h) fun us s1 ⟨vs,H1,I1,r1,q1⟩=>?_) hs rfl));obtain⟨j,e,q1,q2,q⟩:=q1;subst e;cases r1 with
 | cons r rr =>
  cases rr;obtain⟨t,rfl⟩:=r;exact call_range_1 (Jf I1 (by lia) (by lia) q1 q2 (by simpa using q))
theorem Hu{a b:Expr}{ta:TA}{p:Pos}(hg:Gl X "range")(hm:X.mg "range" = none)(ha:PA X [a,b] ta)(hs:starEach [a,b] X.env=[(false,eval a X.env),(false,eval b X.env)]:=by rfl)(hs2:starEach [b] X.env=[(false,eval b X.env)]:=by rfl) :
 PI X tg (.Call (.Name "range" p) [a,b] [] pos) (KG ta):=by
 intro Ya s σ H R I h;refine Call_ (Cs I hg hm boot_range (PyProof.Rows.callWith_type1 (Yn (ha pos Ya s σ H _ I h) fun us s1 ⟨vs,H1,I1,r1,q1⟩=>?_) (by rw[hs,hs2]) (by rw[hs2];rfl)));obtain⟨i,j,e,⟨q1,q2,q3,q4⟩,q⟩:=q1;subst e;cases r1 with
 | cons r rr =>
  cases rr with
  | cons r' rr =>
   cases rr;obtain⟨t,rfl⟩:=r;obtain⟨t',rfl⟩:=r';exact call_range_2 (Jf I1 q1 q2 q3 q4 q)
noncomputable def Ju(wi:TI)(g:TG)(tb:TS):TS:=fun D σ H=>wi σ H fun J H1=>∃W:Nat->Nat->St->Hp->Prop,(∃m,W 0 m σ H1)/\∀i m σ H,W i m σ H ->
 (J.stop i H/\D.nx σ H)\/(J.go i H/\∃N:St->Hp->Prop,(∀σ' H',N σ' H'->∃m',m' < m/\W (i+1) m' σ' H')/\∀x H',J.yld i H x H'->g x σ H' fun σ2 H2=>tb { D with nx:=N,ct:=N,bk:=D.nx } σ2 H2)
noncomputable def By(fp:List Addr)(h:Heap):List (Addr × Obj):=fp.filterMap fun b=>(h.get? b).map fun o=>(b,o)
theorem CH{fp:List Addr}{o:Obj}(hb:b∈fp)(e:h.get? b=some o):(b,o)∈By fp h:=List.mem_filterMap.mpr ⟨b,hb,by rw[e];rfl⟩
theorem JH{fp:List Addr}{p:Addr × Obj}(hp:p∈By fp h):p.1∈fp/\h.get? p.1=some p.2:=by
 obtain⟨b,hb,e⟩:=List.mem_filterMap.mp hp;cases q:h.get? b with
 | none=>rw[q]at e;cases e
 | some o =>
  rw[q]at e;have e':(b,o)=p:=ZQ e;subst e';exact⟨hb,q⟩
theorem Yf.pinned{fp:List Addr}(I:Yf X Ya σ H s)(hf:∀b∈fp,A7 X Ya H b)(ho:∀b∈fp,∃o,s.heap.get? b=some o/\∀v,o.data≠.cell v):Yf X (Ya++By fp s.heap) σ H s :=
 I.pins_of fun p hp=>(Zh.mp hp).elim (fun z=>I.pin p (ZX _ z)) fun z=>by
  obtain⟨hb,e⟩:=JH z;obtain⟨f0,f1,f2,_⟩:=hf p.1 hb;obtain⟨o,e',d⟩:=ho p.1 hb;rw[e]at e';cases e';exact⟨e,f0,f1,f2,d⟩
theorem Yf.unpinned{pl:List (Addr × Obj)}(I:Yf X (Ya++pl) σ H s):Yf X Ya σ H s:=I.pins_of fun p hp=>I.pin p (ZX _ (ZBR _ hp))
theorem Bq {iter:Expr} {body:List Stmt} {wi:TI} {g:TG} {tb:TS} {pos:Pos} (hp:PassesOwn (model X.prog X.w) X.A X.env X.xe) (hc:X.calm=true) (hi:PI X tg iter wi) (hg:PG X tg g) (hb:PSs X body tb)
 (hs:∀x,foldedSetIterable iter X.env x=pure x:=by intro _;rfl):PS X (.For tg iter body [] pos) (Ju wi g tb):=by
 intro Ya s σ H D I h;refine wpAny_For (Yn (hi Ya s σ H _ I h) fun v s1 h1=>Yn h1 fun itv s2 h2=>?_) hs;obtain⟨it,fp,tn,J,H2,e,I2,T,st2,f2,W,⟨m0,w0⟩,turn⟩:=h2;subst e
 -- what stays true of the iterator's objects through the loop
 have stat:∀{H':Hp},(∀b∈fp,H' b=none)->∀b∈fp,A7 X Ya H' b:=fun hn b hb=>⟨hn b hb,(f2 b hb).2⟩
 refine codeAny_forLoop_any (fun n s'=>∃i σ' H',Yf X Ya σ' H' s'/\tn i s'.heap/\(∀b∈fp,H' b=none)/\W i n σ' H') ?_ m0 ⟨0,σ,H2,I2,st2,fun b hb=>(f2 b hb).1,w0⟩;rintro n s3 ⟨i,σ3,H3,I3,st3,fr3,w3⟩
 rcases turn i n σ3 H3 w3 with ⟨stop,qn⟩ | ⟨go,N,hN,step⟩
 ·refine wpAny_passesOwn hp (Yn (T.done X rfl rfl rfl hc i Ya s3 σ3 H3 X.xe I3 (stat fr3) st3 stop) fun r s4 ⟨hr,I4⟩=>?_);subst hr;exact wpAny_execs_nil ⟨σ3,H3,I4,qn⟩
 ·refine wpAny_passesOwn hp (Yn (T.item X rfl rfl rfl hc i Ya s3 σ3 H3 X.xe I3 (stat fr3) st3 go) fun r s4 ⟨u,hr,h4⟩=>?_);subst hr;refine wpAny_passesOwn hp (Yn h4 fun _ s5 ⟨x,H5,I5,r5,y5,st5,fr5⟩=>?_);have I5':=I5.pinned (stat fr5) (T.obj _ _ st5);refine wpAny_passesOwn hp (Yn (hg _ s5 σ3 H5 x u _ I5' r5 (step x H5 y5)) fun _ s6 ⟨σ6,H6,I6,q6⟩=>?_);refine wpAny_passesOwn hp (Yn (hb _ s6 σ6 H6 _ I6 q6) fun f s7 q7=>?_)
  have again:∀{σ7:St} {H7:Hp},Yf X (Ya++By fp s5.heap) σ7 H7 s7->N σ7 H7->∃m,m < n/\∃i σ' H',Yf X Ya σ' H' s7/\tn i s7.heap/\(∀b∈fp,H' b=none)/\W i m σ' H':=fun {σ7 H7} I7 n7=>by
   obtain⟨m',hm,w7⟩:=hN σ7 H7 n7;refine⟨m',hm,i+1,σ7,H7,I7.unpinned,T.keep _ _ _ st5 fun b hb o e=>(I7.pin (b,o) (ZX _ (ZX _ (CH hb e)))).1,fun b hb=>?_,w7⟩;obtain⟨o,e,d⟩:=T.obj _ _ st5 b hb;exact(I7.pin (b,o) (ZX _ (ZX _ (CH hb e)))).2.1
  cases f with
  | next=>obtain⟨σ7,H7,I7,n7⟩:=q7;exact again I7 n7
  | cont=>obtain⟨σ7,H7,I7,n7⟩:=q7;exact again I7 n7
  | brk=>obtain⟨σ7,H7,I7,q7⟩:=q7;exact⟨σ7,H7,I7.unpinned,q7⟩
  | ret v=>obtain⟨x7,σ7,H7,I7,r7,q7⟩:=q7;exact⟨x7,σ7,H7,I7.unpinned,r7,q7⟩
end
theorem VI {xs:List V} {g:TG} {tb:TS} {D:Ends} (Pv:Nat->St->Hp->Prop) (h0:Pv 0 σ H) (hl:∀i σ H,i<=xs.length->Pv i σ H->Yt K H a xs)
 (hs:∀i x σ H,xs[i]? = some x->Pv i σ H->g x σ H fun σ2 H2=>tb { D with nx:=Pv (i+1),ct:=Pv (i+1),bk:=D.nx } σ2 H2) (hd:∀σ H,Pv xs.length σ H->D.nx σ H) :
 ∃W:Nat->Nat->St->Hp->Prop,(∃m,W 0 m σ H)/\∀i m σ H,W i m σ H ->
  ((Itl K a).stop i H/\D.nx σ H)\/((Itl K a).go i H/\∃N:St->Hp->Prop,(∀σ' H',N σ' H'->∃m',m' < m/\W (i+1) m' σ' H')/\∀x H',(Itl K a).yld i H x H'->g x σ H' fun σ2 H2=>tb { D with nx:=N,ct:=N,bk:=D.nx } σ2 H2):=by
 refine⟨fun i m σ H=>m=xs.length - i/\i<=xs.length/\Pv i σ H,⟨xs.length,by simp,ZP _,h0⟩,?_⟩;rintro i m σ H ⟨rfl,hi,p⟩;have q:=hl i σ H hi p
 by_cases Ym:i < xs.length
 ·refine .inr ⟨⟨xs,xs[i],q,by simp[Ym]⟩,Pv (i+1),fun σ' H' p'=>⟨xs.length - (i+1),by lia,rfl,Ym,p'⟩,fun x H' y=>?_⟩;obtain⟨e,y⟩:=y;subst e;exact hs i x σ _ (y xs q) p
 ·have e:i=xs.length:=by lia
  subst e;exact .inl ⟨⟨xs,q,ZD _⟩,hd σ H p⟩
theorem Tq {xs:List V} {g:TG} {tb:TS} {D:Ends} (Pv:Nat->St->Hp->Prop) (h0:Pv 0 σ H) (hl:∀i σ H,i<=xs.length->Pv i σ H->Yq K H a xs)
 (hs:∀i x σ H,xs[i]? = some x->Pv i σ H->g x σ H fun σ2 H2=>tb { D with nx:=Pv (i+1),ct:=Pv (i+1),bk:=D.nx } σ2 H2) (hd:∀σ H,Pv xs.length σ H->D.nx σ H) :
 ∃W:Nat->Nat->St->Hp->Prop,(∃m,W 0 m σ H)/\∀i m σ H,W i m σ H ->
  ((Itt K a).stop i H/\D.nx σ H)\/((Itt K a).go i H/\∃N:St->Hp->Prop,(∀σ' H',N σ' H'->∃m',m' < m/\W (i+1) m' σ' H')/\∀x H',(Itt K a).yld i H x H'->g x σ H' fun σ2 H2=>tb { D with nx:=N,ct:=N,bk:=D.nx } σ2 H2):=by
 refine⟨fun i m σ H=>m=xs.length - i/\i<=xs.length/\Pv i σ H,⟨xs.length,by simp,ZP _,h0⟩,?_⟩;rintro i m σ H ⟨rfl,hi,p⟩;have q:=hl i σ H hi p
 by_cases Ym:i < xs.length
 ·refine .inr ⟨⟨xs,xs[i],q,by simp[Ym]⟩,Pv (i+1),fun σ' H' p'=>⟨xs.length - (i+1),by lia,rfl,Ym,p'⟩,fun x H' y=>?_⟩;obtain⟨e,y⟩:=y;subst e;exact hs i x σ _ (y xs q) p
 ·have e:i=xs.length:=by lia
  subst e;exact .inl ⟨⟨xs,q,ZD _⟩,hd σ H p⟩
theorem CK {lo:Int} {n:Nat} {g:TG} {tb:TS} {D:Ends} (Pv:Nat->St->Hp->Prop) (h0:Pv 0 σ H)
 (hs:∀i σ H,i < n->Pv i σ H->g (.int (lo+i)) σ H fun σ2 H2=>tb { D with nx:=Pv (i+1),ct:=Pv (i+1),bk:=D.nx } σ2 H2) (hd:∀σ H,Pv n σ H->D.nx σ H) :
 ∃W:Nat->Nat->St->Hp->Prop,(∃m,W 0 m σ H)/\∀i m σ H,W i m σ H ->
  ((Itr lo n).stop i H/\D.nx σ H)\/((Itr lo n).go i H/\∃N:St->Hp->Prop,(∀σ' H',N σ' H'->∃m',m' < m/\W (i+1) m' σ' H')/\∀x H',(Itr lo n).yld i H x H'->g x σ H' fun σ2 H2=>tb { D with nx:=N,ct:=N,bk:=D.nx } σ2 H2):=by
 refine⟨fun i m σ H=>m=n - i/\i<=n/\Pv i σ H,⟨n,by simp,ZP _,h0⟩,?_⟩;rintro i m σ H ⟨rfl,hi,p⟩
 by_cases Ym:i < n
 ·refine .inr ⟨Ym,Pv (i+1),fun σ' H' p'=>⟨n - (i+1),by lia,rfl,Ym,p'⟩,fun x H' y=>?_⟩;obtain⟨e,y⟩:=y;subst e y;exact hs i σ _ Ym p
 ·have e:i=n:=by lia
  subst e;exact .inl ⟨ZD _,hd σ H p⟩
noncomputable abbrev R2:=V->V->Hp->VK->Prop
noncomputable def Ys(X:Cx)(f:Value->Value->Sem Value)(r:R2):Prop :=
 ∀(Ya:List (Addr × Obj)) (s:Shared) (σ:St) (H:Hp) (x y:V) (v u:Value) (Q:VK),Yf X Ya σ H s->Yj x v->Yj y u->r x y H Q ->
  wpAny (model X.prog X.w) X.A (f v u) (EP X Ya σ Q) X.xe s
noncomputable def UnR(X:Cx)(f:Value->Sem Value)(r:V->Hp->VK->Prop):Prop :=
 ∀(Ya:List (Addr × Obj)) (s:Shared) (σ:St) (H:Hp) (x:V) (v:Value) (Q:VK),Yf X Ya σ H s->Yj x v->r x H Q ->
  wpAny (model X.prog X.w) X.A (f v) (EP X Ya σ Q) X.xe s
noncomputable def CallR(X:Cx)(f:Value)(r:List V->Hp->VK->Prop):Prop :=
 ∀(Ya:List (Addr × Obj)) (s:Shared) (σ:St) (H:Hp) (xs:List V) (us:List Value) (Q:VK),Yf X Ya σ H s->Yi xs us->r xs H Q ->
  wpAny (model X.prog X.w) X.A (call f us) (EP X Ya σ Q) X.xe s
noncomputable def tOp(r:R2)(ta tb:TE):TE:=fun σ H Q=>ta σ H fun x H1=>tb σ H1 fun y H2=>r x y H2 Q
noncomputable def tUn(r:V->Hp->VK->Prop)(ta:TE):TE:=fun σ H Q=>ta σ H fun x H1=>r x H1 Q
noncomputable def rI(C:Int->Int->Prop)(g:Int->Int->V):R2:=fun x y H Q=>∃i j,x=.int i/\y=.int j/\C i j/\Q (g i j) H
noncomputable def rI0(g:Int->Int->V):R2:=fun x y H Q=>∃i j,x=.int i/\y=.int j/\Q (g i j) H
noncomputable def rU(g:Int->V):V->Hp->VK->Prop:=fun x H Q=>∃i,x=.int i/\Q (g i) H
section
variable {X:Cx}{a b c:Expr}{ta tb tc:TE}{pos:Pos}
theorem Ja (ha:PE X a ta) (hb:PE X b tb) {R:V->V->Hp->Prop} (I:Yf X Ya σ H s)
 (h:ta σ H fun x H1=>tb σ H1 fun y H2=>R x y H2) {f:Value->Value->Sem Value}
 (hf:∀v u s2 x y H2,Yf X Ya σ H2 s2->Yj x v->Yj y u->R x y H2->wpAny (model X.prog X.w) X.A (f v u) Q X.xe s2) :
 wpAny (model X.prog X.w) X.A (eval a X.env) (fun v s₁=>wpAny (model X.prog X.w) X.A (eval b X.env) (fun u s₂=>wpAny (model X.prog X.w) X.A (f v u) Q X.xe s₂) X.xe s₁) X.xe s:=by
 refine Yn (ha Ya s σ H _ I h) fun v s1 ⟨x,H1,I1,r1,q1⟩=>?_
 refine Yn (hb Ya s1 σ H1 _ I1 q1) fun u s2 ⟨y,H2,I2,r2,q2⟩=>?_
 exact hf v u s2 x y H2 I2 r1 r2 q2
theorem AQ{op:Operator}{r:R2}(ho:Ys X (binaryOp op) r)(ha:PE X a ta)(hb:PE X b tb):PE X (.BinOp a op b pos) (tOp r ta tb):=by
 intro Ya s σ H Q I h;exact wpAny_BinOp (Ja ha hb I h fun v u s2 x y H2 I2 rx ry q=>ho Ya s2 σ H2 x y v u Q I2 rx ry q)
theorem RD{op:UnaryOp}{r:V->Hp->VK->Prop}(ho:UnR X (unaryOp op) r)(ha:PE X a ta):PE X (.UnaryOp op a pos) (tUn r ta):=by
 intro Ya s σ H Q I h;exact UnaryOp_ (Yn (ha Ya s σ H _ I h) fun v s1 ⟨x,H1,I1,r1,q1⟩=>ho Ya s1 σ H1 x v Q I1 r1 q1)
theorem opI {f:Value->Value->Sem Value} {C:Int->Int->Prop} {g:Int->Int->Int}
 (rule:∀(i j:Int) (t u:Tok) (s:Shared) (Q:Value->Shared->Prop) (E:Value->Shared->Prop),C i j->Q (.int (g i j) s.toks) { s with toks:=s.toks+1 } -> wpAny (model X.prog X.w) X.A (f (.int i t) (.int j u)) Q E s) :
 Ys X f (rI C fun i j=>.int (g i j)):=by
 intro Ya s σ H x y v u Q I rx ry h;obtain⟨i,j,rfl,rfl,hc,q⟩:=h;obtain⟨t,rfl⟩:=rx;obtain⟨t',rfl⟩:=ry;exact rule i j t t' s _ _ hc ⟨.int (g i j),H,I.tok _,⟨_,rfl⟩,q⟩
theorem Fv {f:Value->Value->Sem Value} {g:Int->Int->Int}
 (rule:∀(i j:Int) (t u:Tok) (s:Shared) (Q:Value->Shared->Prop) (E:Value->Shared->Prop),Q (.int (g i j) s.toks) { s with toks:=s.toks+1 } -> wpAny (model X.prog X.w) X.A (f (.int i t) (.int j u)) Q E s) :
 Ys X f (rI0 fun i j=>.int (g i j)):=by
 intro Ya s σ H x y v u Q I rx ry h;obtain⟨i,j,rfl,rfl,q⟩:=h;obtain⟨t,rfl⟩:=rx;obtain⟨t',rfl⟩:=ry;exact rule i j t t' s _ _ ⟨.int (g i j),H,I.tok _,⟨_,rfl⟩,q⟩
theorem Kx {f:Value->Value->Sem Value} {g:Int->Int->Bool}
 (rule:∀(i j:Int) (t u:Tok) (s:Shared) (Q:Value->Shared->Prop) (E:Value->Shared->Prop),Q (.bool (g i j)) s->wpAny (model X.prog X.w) X.A (f (.int i t) (.int j u)) Q E s) :
 Ys X f (rI0 fun i j=>.bl (g i j)):=by
 intro Ya s σ H x y v u Q I rx ry h;obtain⟨i,j,rfl,rfl,q⟩:=h;obtain⟨t,rfl⟩:=rx;obtain⟨t',rfl⟩:=ry;exact rule i j t t' s _ _ ⟨.bl (g i j),H,I,rfl,q⟩
noncomputable def FS(i j:Int):Prop:=0<=j/\j<=1000000/\i.natAbs < 2 ^ 64
noncomputable def CMul(i j:Int):Prop:=(-(2 ^ 64) < i/\i < 2 ^ 64)\/(-(2 ^ 64) < j/\j < 2 ^ 64)
theorem CMul.ok{i j:Int}(h:CMul i j):IntMulOk i j:=by
 rcases h with ⟨h1,h2⟩ | ⟨h1,h2⟩
 ·exact .of_left (intBits_le_64 h1 h2)
 ·exact .of_right (intBits_le_64 h1 h2)
theorem SV(k:Nat):(0:Int)<=2 ^ k:=by
 rw[two_pow_cast];exact ZBx _
theorem LA:Ys X (binaryOp .Add) (rI0 fun i j=>.int (i+j)):=Fv fun _ _ _ _ _ _ _ q=>add_int q
theorem Ti:Ys X (binaryOp .Sub) (rI0 fun i j=>.int (i - j)):=Fv fun _ _ _ _ _ _ _ q=>sub_int q
theorem Ta:Ys X (binaryOp .Mod) (rI (fun _ j=>0 < j) fun i j=>.int (i % j)):=opI fun i j _ _ _ _ _ hc q=>by
 have h1:(0:Int) < j:=hc;exact mod_int' (by lia) (by rw[Int.fmod_eq_emod_of_nonneg i (by lia)];exact q)
theorem R8:Ys X (binaryOp .Pow) (rI FS fun i j=>.int (i ^ j.toNat)):=opI fun _ _ _ _ _ _ _ hc q=>pow_int_small hc.1 hc.2.1 hc.2.2 q
theorem Pl:Ys X (binaryOp .LShift) (rI FS fun i j=>.int (i * 2 ^ j.toNat)):=opI fun _ _ _ _ _ _ _ hc q=>lshift_int_small hc.1 hc.2.1 hc.2.2 q
theorem VZ:Ys X (binaryOp .RShift) (rI (fun _ j=>0<=j) fun i j=>.int (i / 2 ^ j.toNat)):=opI fun i j _ _ _ _ _ hc q =>
 rshift_int hc (by rw[Int.fdiv_eq_ediv_of_nonneg i (SV _)];exact q)
theorem Pb:Ys X (binaryOp .BitAnd) (rI0 fun i j=>.int (Builtin.bitAnd i j)):=Fv fun _ _ _ _ _ _ _ q=>and_int q
theorem unI {f:Value->Sem Value} {g:Int->Int}
 (rule:∀(i:Int) (t:Tok) (s:Shared) (Q:Value->Shared->Prop) (E:Value->Shared->Prop),Q (.int (g i) s.toks) { s with toks:=s.toks+1 } -> wpAny (model X.prog X.w) X.A (f (.int i t)) Q E s) :
 UnR X f (rU fun i=>.int (g i)):=by
 intro Ya s σ H x v Q I rx h;obtain⟨i,rfl,q⟩:=h;obtain⟨t,rfl⟩:=rx;exact rule i t s _ _ ⟨.int (g i),H,I.tok _,⟨_,rfl⟩,q⟩
theorem QE:UnR X (unaryOp .USub) (rU fun i=>.int (-i)):=unI fun _ _ _ _ _ q=>neg_int q
end
section
variable {X:Cx}{a b c:Expr}{ta tb tc:TE}{pos:Pos}
theorem Rw{Q:VK}{k k':Bool}(I:Yf X Ya σ H s)(q:Q (.bl k) H)(e:k=k'):EP X Ya σ Q (.bool k') s:=by
 subst e;exact⟨.bl k,H,I,rfl,q⟩
theorem Q0:Ys X (compareOp .Lt) (rI0 fun i j=>.bl (decide (i < j))):=Kx fun _ _ _ _ _ _ _ q=>lt_int q
theorem Nf:Ys X (compareOp .Gt) (rI0 fun i j=>.bl (decide (j < i))):=Kx fun _ _ _ _ _ _ _ q=>gt_int q
theorem VT:Ys X (compareOp .IsNot) (fun x y H Q=>y=.non/\Q (.bl (!decide (x=.non))) H):=by
 intro Ya s σ H x y v u Q I rx ry h;obtain⟨rfl,q⟩:=h;cases ry;refine isnot_none_gen (Rw I q ?_)
 cases x <;> first
  | (cases rx;rfl)
  | (obtain⟨t,rfl⟩:=rx;rfl)
theorem Rc{op:CmpOp}{r:R2}(ho:Ys X (compareOp op) r)(ha:PE X a ta)(hb:PE X b tb)(hm:behindInMarks op b=false):PE X (.Compare a [op] [b] pos) (tOp r ta tb):=by
 intro Ya s σ H Q I h;exact wpAny_Compare1 (Ja ha hb I h fun v u s2 x y H2 I2 rx ry q=>ho Ya s2 σ H2 x y v u Q I2 rx ry q) hm
theorem DY:(sizeLine:Nat) < 2 ^ 63:=by rw[sizeLine_eq];decide
theorem Vo:Ys X (binaryOp .Add) (fun x y H Q=>∃i j,x=.str i/\y=.str j/\i.length+j.length<=sizeLine/\Q (.str (i++j)) H):=by
 intro Ya s σ H x y v u Q I rx ry h;obtain⟨i,j,rfl,rfl,hz,q⟩:=h;obtain⟨t,rfl⟩:=rx;obtain⟨t',rfl⟩:=ry;exact add_str (fun t' tk=>⟨.str (i++j),H,I.tok _,⟨_,rfl⟩,q⟩) hz
theorem Bd{x:V}(r:Yi [x] us):∃u,us=[u]/\Yj x u:=by
 cases r with
 | cons r1 r2=>cases r2;exact⟨_,rfl,r1⟩
theorem Hg{x y:V}(r:Yi [x,y] us):∃u w',us=[u,w']/\Yj x u/\Yj y w':=by
 cases r with
 | cons r1 r2 =>
  cases r2 with
  | cons r3 r4=>cases r4;exact⟨_,_,rfl,r1,r3⟩
theorem Rz(hc:X.calm=true):CallR X (.builtin "min") (fun xs H Q=>∃i j,xs=[.int i,.int j]/\Q (.int (if j < i then j else i)) H):=by
 intro Ya s σ H xs us Q I r h;obtain⟨i,j,rfl,q⟩:=h;obtain⟨u,w',rfl,⟨t,rfl⟩,⟨t',rfl⟩⟩:=Hg r;refine min_two_ints (I.ok.hd hc) fun h' tk k=>⟨_,H,I.kept k,?_,q⟩
 by_cases hj:j < i
 ·rw[if_pos hj,if_pos hj];exact⟨_,rfl⟩
 ·rw[if_neg hj,if_neg hj];exact⟨_,rfl⟩
theorem call_int1:CallR X (.type "int") (fun xs H Q=>(∃i,xs=[.int i]/\Q (.int i) H)\/∃k,xs=[.bl k]/\Q (.int (if k then 1 else 0)) H):=by
 intro Ya s σ H xs us Q I r h
 rcases h with ⟨i,rfl,q⟩ | ⟨k,rfl,q⟩
 ·obtain⟨u,rfl,t,rfl⟩:=Bd r;exact call_int_int ⟨.int i,H,I,⟨_,rfl⟩,q⟩
 ·obtain⟨u,rfl,r1⟩:=Bd r;cases r1;exact call_int_bool ⟨.int (if k then 1 else 0),H,I.tok _,⟨_,rfl⟩,q⟩
noncomputable def Lh(K:W.Frag)(x:V)(H:Hp)(n:Nat):Prop :=
 match x with
 | .str y=>y.length<=sizeLine/\n=y.length
 | .byt y=>y.size<=sizeLine/\n=y.size
 | .ref p=>(∃xs,Yt K H p xs/\n=xs.length)\/∃xs,Yq K H p xs/\n=xs.length
 | _=>False
theorem call_len:CallR X (.builtin "len") (fun xs H Q=>∃x n,xs=[x]/\Lh X.K x H n/\Q (.int n) H):=by
 intro Ya s σ H xs us Q I r h;obtain⟨x,n,rfl,e,q⟩:=h;obtain⟨u,rfl,rx⟩:=Bd r;have hl:=DY;have hs:sizeLine=16777216:=sizeLine_eq;cases x with
 | str y =>
  obtain⟨t,rfl⟩:=rx;obtain⟨hy,e'⟩:y.length<=sizeLine/\n=y.length:=e;subst e';exact len_str (by lia) ⟨.int _,H,I.tok _,⟨_,rfl⟩,q⟩
 | byt y =>
  obtain⟨t,rfl⟩:=rx;obtain⟨hy,e'⟩:y.size<=sizeLine/\n=y.size:=e;subst e';exact PySem.W.len_bytes (by lia) ⟨.int _,H,I.tok _,⟨_,rfl⟩,q⟩
 | ref p =>
  cases rx;have e':(∃xs,Yt X.K H p xs/\n=xs.length)\/∃xs,Yq X.K H p xs/\n=xs.length:=e
  rcases e' with ⟨xs,hx,e'⟩ | ⟨xs,hx,e'⟩
  ·subst e';obtain⟨Ye,r',pl,hz⟩:=I.list hx;have Yl:=r'.length;exact Calls.call_len_list pl.isList (by simp only[ZJ];lia) ⟨.int xs.length,H,I.tok _,⟨_,by simp only[ZJ];rw[Yl]⟩,q⟩
  ·subst e';obtain⟨Ye,r',pl,hz⟩:=I.tuple hx;have Yl:=r'.length;exact len_tuple pl (by simp only[ZJ];lia) ⟨.int xs.length,H,I.tok _,⟨_,by simp only[ZJ];rw[Yl]⟩,q⟩
 | _=>exact(show False from e).elim
end
structure ObjM(h:Heap)(x dx C:Addr)(mA:Str->Option Value):Prop where
 obj:h.get? x=some (PySem.W.instObj C dx)
 ns:h.Ns1 dx mA
 ne:dx≠x
theorem NQ{dx:Addr}{mA:Str->Option Value}(n:h.Ns1 dx mA):∃od,h.get? dx=some od/\∀name,PySem.W.lookIn name od=some (mA name):=by
 obtain⟨o,es,ep,ho,hd,hk,_,hm⟩:=n;refine⟨o,ho,fun name=>?_⟩;have e:=hm name;unfold nsFind findBy at e;rw[<- Array.find?_toList]at e;unfold PySem.W.lookIn;rw[hd];dsimp only;split
 ·rename_i y q;rw[q]at e;exact congrArg some e
 ·rename_i q;rw[q]at e
  have a:es.toList.any (·.refKey)=false:=by
   rw[List.any_eq_false];intro y hy;obtain⟨z,t,hkey⟩:=hk y (Array.mem_toList_iff.mp hy);simp[DictEntry.refKey,hkey]
  have a':¬es.toList.any (·.refKey)=true:=by rw[a];exact Zo
  rw[if_neg a'];exact congrArg some e
theorem ObjM.look{x dx:Addr}{mA:Str->Option Value}(I:ObjM h x dx C mA):∃od,PySem.W.InstAt h x (PySem.W.instObj C dx) C (some od)/\∀name,PySem.W.lookIn name od=some (mA name) :=
 let ⟨od,ho,hl⟩:=NQ I.ns
 ⟨od,⟨I.obj,rfl,rfl,ho⟩,hl⟩
section
variable {prog:Program}{w:World}{A:Around}{E:Value->Shared->Prop}{s:Shared}{K:W.Frag}{x dx C f:Addr}{mA:Str->Option Value}{name:Str}{v:Value}
theorem RG {expr:Bool} (X:K.In s.heap) (I:ObjM s.heap x dx C mA) (hg:PySem.W.plainGet K C name=true) (hh:PySem.W.hasDictIn K C=true)
 (ha:PySem.W.findIn K (.ref C) name=some none) (hv:mA name=some v) (hv':PySem.W.handedIn v=true) (h:Q v { s with toks:=s.toks+1 }) :
 wpAny (model prog w) A (getAttr (.ref x) name expr) Q E s:=by
 obtain⟨od,J,hl⟩:=I.look;exact PySem.W.get_value X J (PySem.W.plainGet_of hg).1 (PySem.W.findObj_own hh ha rfl (by rw[hl,hv])) hv' h
theorem Nn {pl:Sem Bool} {Q:Value × List Value->Shared->Prop} (X:K.In s.heap) (I:ObjM s.heap x dx C mA) (hg:PySem.W.plainGet K C name=true)
 (hf:PySem.W.findIn K (.ref C) name=some (some (.ref f))) (ht:PySem.W.isFn K (.ref f)=true) (hv:mA name=none) (h:Q (.ref f,[.ref x]) s) :
 wpAny (model prog w) A (getMethod (.ref x) name pl) Q E s:=by
 obtain⟨od,J,hl⟩:=I.look;exact PySem.W.method_fn X J (PySem.W.plainGet_of hg).1 (PySem.W.plainGet_of hg).2 hf (beq_iff_eq.mp ht) (by show(PySem.W.lookIn name od).map (·.isSome)=some false;rw[hl,hv];rfl) h
theorem Ou {ns:List Str} {Q:Unit->Shared->Prop} (X:K.In s.heap) (I:ObjM s.heap x dx C mA)
 (hs:PySem.W.findIn K (.ref C) "__setattr__" = some (some (.builtin "object.__setattr__"))) (hp:PySem.W.plainOver K C=true) (ht:PySem.W.takerIn K C name=some none) (hh:PySem.W.hasDictIn K C=true)
 (hw:PySem.Within mA ns) (hsz:ns.length<=sizeLine)
 (h:∀h',ObjM h' x dx C (fun y=>if y=name then some v else mA y)->Heap.SameBut dx s.heap h'->Q () { s with heap:=h',toks:=s.toks+2 }) :
 wpAny (model prog w) A (setAttr (.ref x) name v) Q E s:=by
 obtain⟨od,J,hl⟩:=I.look;refine PySem.W.set_plain X J hs (PySem.W.osa_open (s:={ s with toks:=s.toks+1 }) (r:=none) X J hp ht fun b=>?_);obtain⟨cd,hc,hd'⟩:=PySem.W.any_some hh;have hx:s.heap.get? x=some ⟨.ref C,some dx,.plain,#[]⟩:=I.obj;refine ZA (ZB (ZA (ZA (wpAny_loadPart hx (ZA (PySem.W.Looks.here (s:={ s with toks:=s.toks+1 }) (PySem.W.looks_clsIn X hc) ?_))))));rw[hd'];refine ZB (a:=some dx) (ZA (ZB (ZA ?_)));refine wpAny_nsSet1 (s:={ s with toks:=s.toks+1 }) I.ns fun h' hn2 hs2=>?_
 obtain⟨oD,esD,epD,hoD,hdD,hcD⟩:=hn2.count (PySem.Within.cons name v hw);refine ZA (wpAny_lookBehind hoD (by rw[hdD];exact pastItsLine_dict (Za hcD (by rw[Zk];lia))) ?_);exact ZB (h _ ⟨(hs2.2 _ (Ne.symm I.ne)).trans I.obj,hn2,I.ne⟩ hs2)
theorem LU {R:Result->Shared->Prop} {vs:List Value} {kw:List (Str × Value)} (X:K.In s.heap) (hm:PySem.W.makesIn K C=true)
 (hi:PySem.W.findIn K (.ref C) "__init__" = some (some (.ref f))) (hf:PySem.W.typeIn K (.ref f)=some (.type "function"))
 (h:codeAny (model prog w) (A.under (.builtin "type.__call__" ⟨.ref C::vs,kw⟩)) (.call (.ref f) ⟨.ref (s.heap.objs.size+1)::vs,kw⟩) (PySem.W.InitBack (s.heap.objs.size+1) R)
   { s with heap:=(s.heap.push PySem.W.emptyDict).push (PySem.W.instObj C s.heap.objs.size) }) :
 codeAny (model prog w) A (.call (.ref C) ⟨vs,kw⟩) R s:=by
 obtain⟨hh,g,d,t,os⟩:=s;exact PySem.W.make_core (PySem.W.makes_of X hm) (PySem.W.looks_findIn X hi) (fun self=>PySem.W.bind_fn X self hf) (.inl rfl) h
end
noncomputable def Ac(f:Str)(v:V):List (Str × V)->List (Str × V)
 | []=>[(f,v)]
 | (g,x)::r=>if g=f then (g,v)::r else (g,x)::Ac f v r
theorem Fp(f g:Str)(v:V):∀fs:List (Str × V),(Ac f v fs).lookup g=if g=f then some v else fs.lookup g
 | []=>by
  show List.lookup g [(f,v)]=_
  by_cases h:g=f
  ·have hb:(g == f)=true:=beq_iff_eq.mpr h;simp only[List.lookup,hb,if_pos h]
  ·have hb:(g == f)=false:=beq_eq_false_iff_ne.mpr h;simp only[List.lookup,hb,if_neg h]
 | (k,x)::r=>by
  have ih:=Fp f g v r;rw[show Ac f v ((k,x)::r)=(if k=f then (k,v)::r else (k,x)::Ac f v r) from rfl]
  by_cases hk:k=f
  ·rw[if_pos hk]
   by_cases h:g=k
   ·have hb:(g == k)=true:=beq_iff_eq.mpr h;simp only[List.lookup,hb,if_pos (h.trans hk)]
   ·have hb:(g == k)=false:=beq_eq_false_iff_ne.mpr h;simp only[List.lookup,hb,if_neg (fun e:g=f=>h (e.trans hk.symm))]
  ·rw[if_neg hk]
   by_cases h:g=k
   ·have hb:(g == k)=true:=beq_iff_eq.mpr h;simp only[List.lookup,hb,if_neg (fun e:g=f=>hk (h.symm.trans e))]
   ·have hb:(g == k)=false:=beq_eq_false_iff_ne.mpr h;simp only[List.lookup,hb];exact ih
theorem Gr(f:Str)(v:V):∀fs:List (Str × V),f∈(Ac f v fs).map (·.1)/\∀g,g∈fs.map (·.1)->g∈(Ac f v fs).map (·.1)
 | []=>⟨by simp[Ac],fun g h=>by simp at h⟩
 | (k,x)::r=>by
  obtain⟨i1,i2⟩:=Gr f v r;rw[show Ac f v ((k,x)::r)=(if k=f then (k,v)::r else (k,x)::Ac f v r) from rfl]
  by_cases hk:k=f
  ·rw[if_pos hk];subst hk;exact⟨by simp,fun g h=>by simpa using h⟩
  ·rw[if_neg hk];refine⟨?_,fun g h=>?_⟩
   ·rw[Zi];exact ZW _ i1
   ·rw[Zi]at h ⊢
    rcases ZI.mp h with e | e
    ·exact ZI.mpr (.inl e)
    ·exact ZW _ (i2 g e)
theorem LR(f:Str)(v:V):∀fs:List (Str × V),(Ac f v fs).length<=fs.length+1
 | []=>by simp[Ac]
 | (k,x)::r=>by
  have ih:=LR f v r;rw[show Ac f v ((k,x)::r)=(if k=f then (k,v)::r else (k,x)::Ac f v r) from rfl]
  by_cases hk:k=f
  ·rw[if_pos hk,Zk,Zk];lia
  ·rw[if_neg hk,Zk,Zk];lia
theorem RelO.some_of{o:Option Value}(r:RelO (some v) o):∃u,o=some u/\Yj v u:=by
 cases o with
 | none=>exact(show False from r).elim
 | some u=>exact⟨u,rfl,r⟩
theorem RelO.none_of{o:Option Value}(r:RelO none o):o=none:=by
 cases o with
 | none=>rfl
 | some u=>exact(show False from r).elim
theorem KN(r:Yj v u):PySem.W.handedIn u=true:=by
 cases v with
 | non=>cases (show u=Value.none from r);rfl
 | bl b=>cases (show u=Value.bool b from r);rfl
 | int i=>obtain⟨t,e⟩:=(show ∃t,u=Value.int i t from r);cases e;rfl
 | str x=>obtain⟨t,e⟩:=(show ∃t,u=Value.str x t from r);cases e;rfl
 | byt b=>obtain⟨t,e⟩:=(show ∃t,u=Value.bytes b t from r);cases e;rfl
 | flt b=>obtain⟨t,e⟩:=(show ∃t,u=Value.float b t from r);cases e;rfl
 | ref a=>cases (show u=Value.ref a from r);rfl
 | ty n=>cases (show u=Value.type n from r);rfl
section
variable {P:Program}{w:World}{H H':Hp}{h h':Heap}{a C dx:Addr}{fs fs':List (Str × V)}
theorem JN(hok:HOk P w H h)(e:H a=some (.ins C dx fs)):∃mA,ObjM h a dx C mA/\(∀f,RelO (fs.lookup f) (mA f))/\PySem.Within mA (fs.map (·.1))/\fs.length<=1000/\H dx=some (.own a):=by
 obtain⟨d,z,ne,ob,mA,n,r,q⟩:=(show ObjOk P w H h a (.ins C dx fs) from hok a _ e);exact⟨mA,⟨ob,n,ne⟩,r,q,z,d⟩
end
structure Cls(K:W.Frag)(C:Addr):Prop where
 pg:PySem.W.plainGet K C Str.empty=true
 hd:PySem.W.hasDictIn K C=true
 po:PySem.W.plainOver K C=true
 sa:PySem.W.findIn K (.ref C) "__setattr__" = some (some (.builtin "object.__setattr__"))
theorem Cls.get(c:Cls K C)(f:Str):PySem.W.plainGet K C f=true:=c.pg
noncomputable def NoAttr(K:W.Frag)(C:Addr)(f:Str):Prop:=PySem.W.findIn K (.ref C) f=some none
theorem NoAttr.taker{f:Str}(n:NoAttr K C f):PySem.W.takerIn K C f=some none:=by
 unfold PySem.W.takerIn;rw[show PySem.W.findIn K (.ref C) f=some none from n];rfl
structure Meth(K:W.Frag)(C:Addr)(m:Str)(f:Addr):Prop where
 at_:PySem.W.findIn K (.ref C) m=some (some (.ref f))
 fn:PySem.W.isFn K (.ref f)=true
 kp:PySem.W.keepIn K (.ref f)=true
section
variable {X:Cx}{Ya:List (Addr × Obj)}{σ:St}{H:Hp}{s:Shared}{a C dx:Addr}{fs:List (Str × V)}{f:Str}{v:V}{A:Around}{E:Value->Shared->Prop}
theorem Vk {b:Bool} (I:Yf X Ya σ H s) (e:H a=some (.ins C dx fs)) (c:Cls X.K C) (n:NoAttr X.K C f) (l:fs.lookup f=some v)
 (h:∀u s',Yf X Ya σ H s'->Yj v u->Q u s'):wpAny (model X.prog X.w) A (getAttr (.ref a) f b) Q E s:=by
 obtain⟨mA,O,r,_,_,_⟩:=JN I.hok e;obtain⟨u,hu,ru⟩:=RelO.some_of (v:=v) (o:=mA f) (by rw[<- l];exact r f);exact RG I.kIn O (c.get f) c.hd n hu (KN ru) (h u _ (I.tok _) ru)
theorem GK {m:Str} {g:Addr} {pl:Sem Bool} {Q:Value × List Value->Shared->Prop} (I:Yf X Ya σ H s) (e:H a=some (.ins C dx fs)) (c:Cls X.K C) (k:Meth X.K C m g) (l:fs.lookup m=none)
 (h:Q (.ref g,[.ref a]) s):wpAny (model X.prog X.w) A (getMethod (.ref a) m pl) Q E s:=by
 obtain⟨mA,O,r,_,_,_⟩:=JN I.hok e;have hn:mA m=none:=RelO.none_of (by rw[<- l];exact r m);exact Nn I.kIn O (c.get m) k.at_ k.fn hn h
theorem Nu {y:V} {Q:Unit->Shared->Prop} (I:Yf X Ya σ H s) (e:H a=some (.ins C dx fs)) (c:Cls X.K C) (n:NoAttr X.K C f) (hl:fs.length < 1000) (ry:Yj y u)
 (h:∀s',Yf X Ya σ (upd H a (.ins C dx (Ac f y fs))) s'->Q () s'):wpAny (model X.prog X.w) A (setAttr (.ref a) f u) Q E s:=by
 obtain⟨mA,O,r,wi,_,ho⟩:=JN I.hok e;have hz:(fs.map (·.1)).length<=sizeLine:=by rw[ZC,sizeLine_eq];lia
 refine Ou I.kIn O c.sa c.po n.taker c.hd wi hz fun h' O' sb=>h _ ?_
 have hd:∃o,h'.get? dx=some o:=let ⟨o,_,_,e',_⟩:=O'.ns;⟨o,e'⟩;refine I.write (x:=a) (e:=dx) (by rw[e];exact True.intro) (.inr ho) (fun b q hb z=>(sb.2 b hb).trans z) hd ?_;refine⟨by rw[AH O.ne];exact ho,?_,O.ne,O'.obj,_,O'.ns,fun g=>?_,fun g hg=>?_⟩
 ·have:=LR f y fs;lia
 ·show RelO ((Ac f y fs).lookup g) (if g=f then some u else mA g);rw[Fp]
  by_cases q:g=f
  ·rw[if_pos q,if_pos q];exact ry
  ·rw[if_neg q,if_neg q];exact r g
 ·by_cases q:g=f
  ·rw[q];exact(Gr f y fs).1
  ·refine(Gr f y fs).2 g (wi g fun z=>hg ?_)
   show(if g=f then some u else mA g)=none
   rw[if_neg q];exact z
theorem Yf.made(I:Yf X Ya σ H s):Yf X Ya σ (upd (upd H s.heap.objs.size (.own (s.heap.objs.size+1))) (s.heap.objs.size+1) (.ins C s.heap.objs.size []))
 { s with heap:=(s.heap.push PySem.W.emptyDict).push (PySem.W.instObj C s.heap.objs.size) }:=by
 have e1:(s.heap.push PySem.W.emptyDict).get? s.heap.objs.size=some PySem.W.emptyDict:=ZM s.heap rfl
 have e2:((s.heap.push PySem.W.emptyDict).push (PySem.W.instObj C s.heap.objs.size)).get? (s.heap.objs.size+1)=some (PySem.W.instObj C s.heap.objs.size):=by
  have:=ZM (s.heap.push PySem.W.emptyDict) (o:=PySem.W.instObj C s.heap.objs.size) rfl
  rwa [Zu]at this
 have e3:(s.heap.push PySem.W.emptyDict).Ns s.heap.objs.size (fun _=>none):=⟨PySem.W.emptyDict,#[],_,e1,rfl,(fun e he=>absurd he (by simp)),fun _=>rfl⟩;have I1:=I.laid (a:=s.heap.objs.size) (o:=.own (s.heap.objs.size+1)) (h':=s.heap.push PySem.W.emptyDict) (t':=s.toks) (fun b u q=>ZH _ q) (ZD _) ⟨_,e1⟩;refine I1.laid (a:=s.heap.objs.size+1) (o:=.ins C s.heap.objs.size []) (t':=s.toks) (fun b u q=>ZH _ q) (ZBb (Zu _ _)) ?_;have ne:s.heap.objs.size≠s.heap.objs.size+1:=ZK (ZBJ _);refine⟨by rw[AH ne,AC],ZP _,ne,e2,fun _=>none,(Heap.Ns1.of_empty e3).at fun o q=>ZH _ q,fun _=>True.intro,fun y hy=>absurd rfl hy⟩
theorem NM {prog:Program} {env:Env} {e:Expr} {f:Str} (hb:attributeBase e f env (eval e env)=eval e env)
 (h:wpAny (model prog w) A (eval e env) (fun o s₁=>wpAny (model prog w) A (getAttr o f true) Q E s₁) E s):wpAny (model prog w) A (eval (.Attribute e f pos) env) Q E s :=
 Attribute_any_ h (by rw[arm_eval_Attribute,hb])
end
structure Room(k:Nat)(A:Around):Prop where
 hd:A.handled=none
 dp:A.depth+3 * k+5 < recursionLimit
 un:A.units+16 * k+200 < cLine
 gd:A.guards=some []
theorem Room.mono{j:Nat}(r:Room k A)(h:j<=k):Room j A:=⟨r.hd,by have:=r.dp;lia,by have:=r.un;lia,r.gd⟩
theorem Room.deeper(r:Room (k+1) A)(env:Env):Room k (A.deeper env) :=
 ⟨r.hd,by have:=r.dp;show A.depth+1+3 * k+5 < _;lia,by have:=r.un;show A.units+3+16 * k+200 < _;lia,r.gd⟩
theorem Room.in1(r:Room (k+1) A):Room k A.in1 :=
 ⟨r.hd,by have:=r.dp;show A.depth+3 * k+5 < _;lia,by have:=r.un;show A.units+1+16 * k+200 < _;lia,r.gd⟩
theorem Pf{kw:List (Str × Value)}:(A.under (.builtin "type.__call__" ⟨.ref C::us,kw⟩)).depth=A.depth+1:=by
 first | rfl | simp[Around.under,Code.weight,Code.isCreation,Code.isGuard,Code.isCaller,Code.frames,Code.isFrame,guardIds]
theorem SM{kw:List (Str × Value)}:(A.under (.builtin "type.__call__" ⟨.ref C::us,kw⟩)).units=A.units+1:=by
 first | rfl | simp[Around.under,Code.cUnits,Code.frames,Code.isFrame]
theorem Room.make(r:Room (k+1) A)(C:Addr)(us:List Value)(kw:List (Str × Value)):Room k (A.under (.builtin "type.__call__" ⟨.ref C::us,kw⟩)) :=
 ⟨r.hd,by have:=r.dp;rw[Pf];lia,by have:=r.un;rw[SM];lia,by first | exact r.gd | (simpa [Around.under,Code.guards,Code.isGuard,guardIds,pushGuards] using r.gd)⟩
theorem Room.depth(r:Room k A):A.depth < recursionLimit:=by have:=r.dp;lia
noncomputable def Fj:TA:=fun _ H Q=>Q [] H
noncomputable def Gz(ta:TE)(tr:TA):TA:=fun σ H Q=>ta σ H fun x H1=>tr σ H1 fun xs H2=>Q (x::xs) H2
section
variable {X:Cx}{e:Expr}{es:List Expr}{te:TE}{t:TA}{pos:Pos}
theorem AB:PA X [] Fj:=fun _ _ _ _ H Q I h=>Calls.spliced_nil ⟨[],H,I,.nil,h⟩
theorem AA(ha:PE X e te)(hr:PA X es t)(hs:starEach (e::es) X.env=(false,eval e X.env)::starEach es X.env:=by rfl):PA X (e::es) (Gz te t):=by
 intro pos Ya s σ H Q I h;rw[hs];show wpAny _ _ (spliced ((false,eval e X.env)::backTo pos (starEach es X.env))) _ _ s;refine Calls.spliced_cons (Yn (ha Ya s σ H _ I h) fun u s1 ⟨x,H1,I1,r1,q1⟩=>?_);exact Yn (hr pos Ya s1 σ H1 _ I1 q1) fun us s2 ⟨xs,H2,I2,r2,q2⟩=>⟨x::xs,H2,I2,.cons r1 r2,q2⟩
noncomputable def Jh(t:TA):TE:=fun σ H Q=>t σ H fun xs H1=>xs.length<=sizeLine/\∀p,H1 p=none->Q (.ref p) (upd H1 p (.tup xs))
noncomputable def LY(t:TA):TE:=fun σ H Q=>t σ H fun xs H1=>xs.length<=sizeLine/\∀p,H1 p=none->Q (.ref p) (upd H1 p (.lst xs))
theorem A2{x1}(h:PA X es t):PE X (.Tuple es x1 pos) (Jh t):=by
 intro Ya s σ H Q I hq;refine wpAny_Tuple_spliced (Yn (h pos Ya s σ H _ I hq) fun us s1 ⟨xs,H1,I1,r,z,q⟩=>⟨by rw[<- r.length];exact z,?_⟩);have hf:H1 s1.heap.objs.size=none:=I1.hok.fresh (ZD _);refine⟨.ref s1.heap.objs.size,upd H1 s1.heap.objs.size (.tup xs),I1.laid (t':=s1.toks) (fun b u e=>ZH _ e) (ZD _) ?_,rfl,q _ hf⟩;exact⟨z,us,r,⟨_,ZM _ rfl,rfl,⟨_,rfl⟩,rfl⟩⟩
theorem A6(h:PA X es t):PE X (.List es pos) (LY t):=by
 intro Ya s σ H Q I hq;refine wpAny_List_spliced (Yn (h pos Ya s σ H _ I hq) fun us s1 ⟨xs,H1,I1,r,z,q⟩=>⟨by rw[<- r.length];exact z,?_⟩);have hf:H1 s1.heap.objs.size=none:=I1.hok.fresh (ZD _);refine⟨.ref s1.heap.objs.size,upd H1 s1.heap.objs.size (.lst xs),I1.laid (t':=s1.toks) (fun b u e=>ZH _ e) (ZD _) ?_,rfl,q _ hf⟩;exact⟨z,us,0,r,ZM _ rfl⟩
end
noncomputable abbrev Sp:=List V->Hp->VK->XK->Prop
noncomputable abbrev CXT:=List Env->Hp->Shared->XK->Value->Shared->Prop
structure Env0(P:Program)(w:World)(K:W.Frag)(mg:Str->Option Value)(base:Heap)(A:Around)(outer:List Env)(s:Shared)(H:Hp):Prop where
 frames:A.frames=some outer
 mod:Mod K mg base
 bs:∀b o,base.get? b=some o->s.heap.get? b=some o/\H b=none
 bsz:base.objs.size<=s.heap.objs.size
 funs:s.heap.FunFrames base outer
 frf:∀b∈frs outer,H b=none
 hok:HOk P w H s.heap
 bare:AllBare s.gens
noncomputable def CE(outer:List Env)(P:Program)(w:World)(H:Hp)(s:Shared)(Q:VK)(u:Value)(s':Shared):Prop :=
 ∃v H',s'.os=s.os/\AllBare s'.gens/\Un (frs outer) [] H H' s.heap s'.heap/\HOk P w H' s'.heap/\Yj v u/\Q v H'
noncomputable def CR(CX:CXT)(outer:List Env)(P:Program)(w:World)(H:Hp)(s:Shared)(Q:VK)(E:XK)(r:Result)(s':Shared):Prop :=
 match r with
 | .ok (.ret u)=>CE outer P w H s Q u s'
 | .ok _=>False
 | .error e=>CX outer H s E e s'
structure FnOk(P:Program)(w:World)(K:W.Frag)(mg:Str->Option Value)(base:Heap)(CX:CXT)(k:Nat)(f:Addr)(fd:FuncData)(ps:List Str)(sp:Sp):Prop where
 len:∀vs H Q E,sp vs H Q E->vs.length=ps.length
 run:∀(A:Around) (outer:List Env) (s:Shared) (H:Hp) (args:Args) (us:List Value) (vs:List V) (Q:VK) (E:XK),Room k A->Env0 P w K mg base A outer s H->BindsTo s fd args (ps.zip us)->Yi vs us->sp vs H Q E ->
  codeAny (model P w) A (.call (.ref f) args) (CR CX outer P w H s Q E) s
theorem FnOk.imp {CX:CXT} {f:Addr} {fd:FuncData} {ps:List Str} {sp sp':Sp} (F:FnOk P w K mg base CX k f fd ps sp)
 (h:∀vs H Q E,sp' vs H Q E->sp vs H Q E):FnOk P w K mg base CX k f fd ps sp' :=
 ⟨fun vs H Q E q=>F.len vs H Q E (h _ _ _ _ q),fun A outer s H args us vs Q E hr he hb hv hs=>F.run A outer s H args us vs Q E hr he hb hv (h _ _ _ _ hs)⟩
theorem Env0.make{outer:List Env}(e:Env0 P w K mg base A outer s H)(C:Addr)(us:List Value)(kw:List (Str × Value)) :
 Env0 P w K mg base (A.under (.builtin "type.__call__" ⟨.ref C::us,kw⟩)) outer s H:=⟨by first | exact e.frames | (simpa [Around.under,Code.envs,Code.isFrame,pushEnvs] using e.frames),e.mod,e.bs,e.bsz,e.funs,e.frf,e.hok,e.bare⟩
theorem Env0.in1{outer:List Env}(e:Env0 P w K mg base A outer s H) :
 Env0 P w K mg base A.in1 outer s H:=⟨e.frames,e.mod,e.bs,e.bsz,e.funs,e.frf,e.hok,e.bare⟩
section
variable {X:Cx}{Ya:List (Addr × Obj)}{σ:St}{H:Hp}{s s':Shared}
theorem Yf.env0(I:Yf X Ya σ H s):Env0 X.prog X.w X.K X.mg X.base X.A X.stack s H :=
 ⟨I.ok.frames,I.ok.mod,I.bs,Za I.ok.bsz I.sz,I.stack,I.stkFree,I.hok,I.bare⟩
theorem Yf.after{Q:VK}(I:Yf X Ya σ H s)(h:CE X.stack X.prog X.w H s Q u s'):EP X Ya σ Q u s':=by
 obtain⟨v,H',os,bare,un,hok,r,q⟩:=h;obtain⟨hh,g,d,t,os'⟩:=s';obtain rfl:os'=s.os:=os;exact⟨v,H',I.call (h':=hh) (g':=g) (d':=d) (t':=t) (ch:=[]) un hok bare (fun b z=>absurd z (by simp)),r,q⟩
end
noncomputable def Lx(sp:Sp)(dvs:List V)(E:XK)(t:TA):TE:=fun σ H Q=>t σ H fun vs H1=>sp (vs++dvs) H1 Q E
noncomputable def JX(C:Addr)(m:Str)(sp:Sp)(dvs:List V)(E:XK)(ta:TE)(t:TA):TE:=fun σ H Q=>ta σ H fun x H1=>∃a dx fs,x=.ref a/\H1 a=some (.ins C dx fs)/\fs.lookup m=none /\
 t σ H1 fun vs H2=>sp (x::(vs++dvs)) H2 Q E
noncomputable def K7(C:Addr)(sp:Sp)(dvs:List V)(E:XK)(t:TA):TE:=fun σ H Q=>t σ H fun vs H1=>∀x dx,H1 x=none->H1 dx=none->dx≠x ->
 sp (.ref x::(vs++dvs)) (upd (upd H1 dx (.own x)) x (.ins C dx [])) (fun v H2=>v=.non/\Q (.ref x) H2) E
noncomputable def Binds(K:W.Frag)(fd:FuncData)(ps:List Str)(ds:List Value):Prop :=
 ∀(s:Shared) (us:List Value),K.In s.heap->(us++ds).length=ps.length->BindsTo s fd ⟨us,[]⟩ (ps.zip (us++ds))
theorem Binds.all{fd:FuncData}{ps:List Str}(h:∀us:List Value,us.length=ps.length->bindArgs fd ⟨us,[]⟩=pure (ps.zip us)):Binds K fd ps []:=fun s us _ hl=>by
 rw[Zy]at hl ⊢;exact .of_eq (h us hl)
noncomputable def Cu(CX:CXT)(X:Cx)(E:XK):Prop:=∀(Ya:List (Addr × Obj)) (σ:St) (H:Hp) (s:Shared) (e:Value) (s':Shared),Yf X Ya σ H s->CX X.stack H s E e s'->X.xe e s'
section
variable {X:Cx}{CX:CXT}{k:Nat}{f C:Addr}{fd:FuncData}{ps:List Str}{sp:Sp}{dvs:List V}{ds:List Value}{E:XK}{x m:Str}{p pos apos:Pos}{e o:Expr}{es:List Expr}{ta:TE}{t:TA}
theorem HJ {Q:VK} {vs:List V} (F:FnOk X.prog X.w X.K X.mg X.base CX k f fd ps sp) (hr:Room k X.A) (hb:Binds X.K fd ps ds) (hd:Yi dvs ds) (hx:Cu CX X E)
 (I:Yf X Ya σ H s) (r:Yi vs us) (h:sp (vs++dvs) H Q E):wpAny (model X.prog X.w) X.A (call (.ref f) us) (EP X Ya σ Q) X.xe s:=by
 have r2:Yi (vs++dvs) (us++ds):=r.append hd;have hl:(us++ds).length=ps.length:=by rw[<- r2.length];exact F.len _ _ _ _ h
 refine wpAny_call (Z4 (F.run X.A X.stack s H ⟨us,[]⟩ (us++ds) (vs++dvs) Q E hr I.env0 (hb s us I.kIn hl) r2 h) fun r s' hq=>?_);cases r with
 | error e=>exact hx Ya σ H s e s' I hq
 | ok fl =>
  cases fl with
  | ret u=>exact I.after hq
  | next=>exact False.elim hq
  | brk=>exact False.elim hq
  | cont=>exact False.elim hq
theorem AJ (F:FnOk X.prog X.w X.K X.mg X.base CX k f fd ps sp) (hr:Room k X.A) (hg:Gl X x) (hm:X.mg x=some (.ref f)) (hk:PySem.W.keepIn X.K (.ref f)=true) (hb:Binds X.K fd ps ds) (hd:Yi dvs ds) (hx:Cu CX X E)
 (ha:PA X (e::es) t) (hdb:(x == ("__debug__" : Str))=false:=by decide) (he:starEach (e::es) X.env=(false,eval e X.env)::starEach es X.env:=by rfl) (hpl:(backTo pos (starEach es X.env)).any (·.1)=false:=by rfl) :
 PE X (.Call (.Name x p) (e::es) [] pos) (Lx sp dvs E t):=by
 intro Ya s σ H Q I h;refine wpAny_Call_Name_kw (Cw I hg hm ?_ hdb);refine PySem.W.callWith_K (h₀:=X.base) I.ok.mod.kin hk (Yn (ha pos Ya s σ H _ I h) fun us s1 ⟨vs,H1,I1,r,q⟩=>⟨I1.kIn,?_⟩) he hpl;exact HJ F hr hb hd hx I1 r q
theorem BN {pl:Sem Bool} (he:PE X o ta) (c:Cls X.K C) (hm:Meth X.K C m f) (F:FnOk X.prog X.w X.K X.mg X.base CX k f fd ps sp) (hr:Room k X.A) (hb:Binds X.K fd ps ds) (hd:Yi dvs ds) (hx:Cu CX X E) (ha:PA X (e::es) t)
 (hst:starEach (e::es) X.env=(false,eval e X.env)::starEach es X.env:=by rfl) (hpl:(backTo pos (starEach es X.env)).any (·.1)=false:=by rfl)
 (ht:eval (.Call (.Attribute o m apos) (e::es) [] pos) X.env=(do
   let ov <- eval o X.env
   standAt apos.atName
   let (f,first) <- holding [ov] (getMethod ov m pl)
   callWith pos f first (backTo pos (starEach (e::es) X.env)) (backToKw pos (keywordEach [] X.env))):=by rfl) :
 PE X (.Call (.Attribute o m apos) (e::es) [] pos) (JX C m sp dvs E ta t):=by
 intro Ya s σ H Q I h;refine PySem.W.methodCall_KW (pl:=pl) (Yn (he Ya s σ H _ I h) fun u s1 ⟨x,H1,I1,rx,a,dx,fs,ex,ea,l,q⟩=>?_) ht;subst ex;obtain rfl:u=Value.ref a:=rx;refine GK I1 ea c hm l ?_;refine PySem.W.callWith_K (first:=[.ref a]) (h₀:=X.base) I.ok.mod.kin hm.kp (Yn (ha pos Ya s1 σ H1 _ I1 q) fun us s2 ⟨vs,H2,I2,r,q2⟩=>⟨I2.kIn,?_⟩) hst hpl;exact HJ (us:=.ref a::us) (vs:=.ref a::vs) F hr hb hd hx I2 (.cons rfl r) q2
theorem EN {pl:Sem Bool} (he:PE X o ta) (c:Cls X.K C) (hm:Meth X.K C m f) (F:FnOk X.prog X.w X.K X.mg X.base CX k f fd ps sp) (hr:Room k X.A) (hb:Binds X.K fd ps ds) (hd:Yi dvs ds) (hx:Cu CX X E)
 (ht:eval (.Call (.Attribute o m apos) [] [] pos) X.env=(do
   let ov <- eval o X.env
   standAt apos.atName
   let (f,first) <- holding [ov] (getMethod ov m pl)
   callWith pos f first (backTo pos (starEach [] X.env)) (backToKw pos (keywordEach [] X.env))):=by rfl) :
 PE X (.Call (.Attribute o m apos) [] [] pos) (JX C m sp dvs E ta Fj):=by
 intro Ya s σ H Q I h;refine PySem.W.methodCall_KW (pl:=pl) (Yn (he Ya s σ H _ I h) fun u s1 ⟨x,H1,I1,rx,a,dx,fs,ex,ea,l,q⟩=>?_) ht;subst ex;obtain rfl:u=Value.ref a:=rx;refine GK I1 ea c hm l ?_;exact PySem.W.callWith_K0 (first:=[.ref a]) I1.kIn hm.kp (HJ (us:=[.ref a]) (vs:=[.ref a]) F hr hb hd hx I1 (.cons rfl .nil) q)
structure Mk(K:W.Frag)(C f:Addr):Prop where
 makes:PySem.W.makesIn K C=true
 init:PySem.W.findIn K (.ref C) "__init__" = some (some (.ref f))
 fn:PySem.W.isFn K (.ref f)=true
 kp:PySem.W.keepIn K (.ref C)=true
theorem Tc {Q:VK} {vs:List V} (M:Mk X.K C f) (F:FnOk X.prog X.w X.K X.mg X.base CX k f fd ps sp) (hr:Room (k+1) X.A) (hb:Binds X.K fd ps ds) (hd:Yi dvs ds)
 (hx:Cu CX X E) (I:Yf X Ya σ H s) (r:Yi vs us)
 (h:∀x dx,H x=none->H dx=none->dx≠x->sp (.ref x::(vs++dvs)) (upd (upd H dx (.own x)) x (.ins C dx [])) (fun v H2=>v=.non/\Q (.ref x) H2) E) :
 wpAny (model X.prog X.w) X.A (call (.ref C) us) (EP X Ya σ Q) X.xe s:=by
 have hq:=h (s.heap.objs.size+1) s.heap.objs.size (I.hok.fresh (ZBT _)) (I.hok.fresh (ZD _)) (ZK (ZBJ _));have I2:=Yf.made (C:=C) I;have r2:Yi (V.ref (s.heap.objs.size+1)::(vs++dvs)) (Value.ref (s.heap.objs.size+1)::(us++ds)):=.cons rfl (r.append hd)
 have hl:(Value.ref (s.heap.objs.size+1)::us++ds).length=ps.length:=by
  have e:=r2.length;rw[F.len _ _ _ _ hq]at e;exact e.symm
 refine wpAny_call (LU (f:=f) I.kIn M.makes M.init (beq_iff_eq.mp M.fn) (Z4 (F.run _ X.stack _ _ ⟨Value.ref (s.heap.objs.size+1)::us,[]⟩ (Value.ref (s.heap.objs.size+1)::(us++ds)) _ _ E (hr.make C us [])
  (I2.env0.make C us []) (hb _ (Value.ref (s.heap.objs.size+1)::us) I2.kIn hl) r2 hq) fun r s' hq'=>?_))
 cases r with
 | error e=>exact hx Ya σ _ _ e s' I2 hq'
 | ok fl =>
  cases fl with
  | ret u =>
   obtain⟨v,H',I3,rv,ev,q3⟩:=I2.after hq';subst ev;exact⟨rv,⟨V.ref (s.heap.objs.size+1),H',I3,rfl,q3⟩⟩
  | next=>exact False.elim hq'
  | brk=>exact False.elim hq'
  | cont=>exact False.elim hq'
theorem KD (M:Mk X.K C f) (F:FnOk X.prog X.w X.K X.mg X.base CX k f fd ps sp) (hr:Room (k+1) X.A) (hg:Gl X x) (hm:X.mg x=some (.ref C)) (hb:Binds X.K fd ps ds) (hd:Yi dvs ds) (hx:Cu CX X E)
 (ha:PA X (e::es) t) (hdb:(x == ("__debug__" : Str))=false:=by decide) (he:starEach (e::es) X.env=(false,eval e X.env)::starEach es X.env:=by rfl) (hpl:(backTo pos (starEach es X.env)).any (·.1)=false:=by rfl) :
 PE X (.Call (.Name x p) (e::es) [] pos) (K7 C sp dvs E t):=by
 intro Ya s σ H Q I h;refine wpAny_Call_Name_kw (Cw I hg hm ?_ hdb);refine PySem.W.callWith_K (h₀:=X.base) I.ok.mod.kin M.kp (Yn (ha pos Ya s σ H _ I h) fun us s1 ⟨vs,H1,I1,r,q⟩=>⟨I1.kIn,?_⟩) he hpl;exact Tc M F hr hb hd hx I1 r q
end
structure FnScope(N P:List Str)(sc:Scope):Prop where
 kind:sc.kind=.function
 co:sc.isCoroutine=false
 gen:sc.isGenerator=false
 nd:N.Nodup
 pre:N.take P.length=P
 par:∀x∈P,sc.names.lookup x=some .local\/sc.names.lookup x=some .cell
 nofree:∀y∈sc.names,y.2≠.free
theorem Me{kindOf:Str->Option NameKind}:∀{binds:List (Str × Value)} {m:Str->Option Value},(∀v,(x,v)∉binds)->bindL kindOf binds m x=m x
 | [],_,_=>rfl
 | (n,v)::r,m,h=>by
  unfold bindL;rw[Me fun w hw=>h w (ZW _ hw)];split
  ·have:x≠n:=by rintro rfl;exact h v Zg
   simp[this]
  ·rfl
theorem Kl{kindOf:Str->Option NameKind}:∀{binds:List (Str × Value)} {m:Str->Option Value},(∀v,(x,v)∉binds)->bindC kindOf binds m x=m x
 | [],_,_=>rfl
 | (n,v)::r,m,h=>by
  unfold bindC;rw[Kl fun w hw=>h w (ZW _ hw)];split
  ·rfl
  ·have:x≠n:=by rintro rfl;exact h v Zg
   simp[this]
theorem Mg{kindOf:Str->Option NameKind}{v:Value}:∀{P:List Str} {vs:List Value} {i:Nat} {m:Str->Option Value},P.Nodup->P[i]? = some x->vs[i]? = some v->kindOf x=some .local ->
 bindL kindOf (P.zip vs) m x=some v
 | [],_,_,_,_,h,_,_=>by simp at h
 | _::_,[],_,_,_,_,h,_=>by simp at h
 | p::P,w::vs,0,m,nd,h1,h2,hk=>by
  simp at h1 h2;subst h1;subst h2;show bindL kindOf ((p,w)::P.zip vs) m p=_;unfold bindL;rw[Me fun v hv=>(ZBf.mp nd).1 (List.of_mem_zip hv).1,if_pos hk];simp
 | p::P,w::vs,i+1,m,nd,h1,h2,hk=>by
  show bindL kindOf ((p,w)::P.zip vs) m x=_;unfold bindL;exact Mg (i:=i) (ZBf.mp nd).2 (by simpa using h1) (by simpa using h2) hk
theorem Lr{kindOf:Str->Option NameKind}{v:Value}:∀{P:List Str} {vs:List Value} {i:Nat} {m:Str->Option Value},P.Nodup->P[i]? = some x->vs[i]? = some v->kindOf x≠some .local ->
 bindC kindOf (P.zip vs) m x=some v
 | [],_,_,_,_,h,_,_=>by simp at h
 | _::_,[],_,_,_,_,h,_=>by simp at h
 | p::P,w::vs,0,m,nd,h1,h2,hk=>by
  simp at h1 h2;subst h1;subst h2;show bindC kindOf ((p,w)::P.zip vs) m p=_;unfold bindC;rw[Kl fun v hv=>(ZBf.mp nd).1 (List.of_mem_zip hv).1,if_neg hk];simp
 | p::P,w::vs,i+1,m,nd,h1,h2,hk=>by
  show bindC kindOf ((p,w)::P.zip vs) m x=_;unfold bindC;exact Lr (i:=i) (ZBf.mp nd).2 (by simpa using h1) (by simpa using h2) hk
noncomputable def CG(N:List Str)(vs:List V):St:=vs.map some++List.replicate (N.length - vs.length) none
noncomputable def Bx(CX:CXT)(P:Program)(w:World)(K:W.Frag)(mg:Str->Option Value)(base:Heap)(N:List Str)(qual:Str)(scope:Scope)(f:Addr)(cd:Value)(A:Around)(outer:List Env)(s:Shared)(H:Hp)(E:XK):Cx where
 prog:=P
 w:=w
 K:=K
 mg:=mg
 base:=base
 A:=A.deeper (envOfC qual scope s.heap.objs.size f cd)
 N:=N
 s₀:=s
 H₀:=H
 env:=envOfC qual scope s.heap.objs.size f cd
 outer:=outer
 stack:=envOfC qual scope s.heap.objs.size f cd::outer
 ex:=[]
 calm:=true
 fn:=fun _=>true
 pn:=[]
 xe:=fun e s'=>wpAny (model P w) (A.deeper (envOfC qual scope s.heap.objs.size f cd)) (leaving (envOfC qual scope s.heap.objs.size f cd) e) (fun _ s''=>CX outer H s E e s'') (fun e' s''=>CX outer H s E e' s'') s'
theorem LN{sc:Scope}{n:Nat}(h:sc.names.lookup x=some .cell):∃c,(cellsFrom n sc.names []).lookup x=some c:=by
 have q:=PySem.W.cellsFrom_some sc.names n [] (.inl h);exact Option.isSome_iff_exists.mp q
theorem QV {CX:CXT} {N ps:List Str} {qual:Str} {scope:Scope} {f:Addr} {cd:Value} {outer:List Env} {s1:Shared} {E:XK} {vs:List V}
 (S:FnScope N ps scope) (hd:A.handled=none) (e0:Env0 P w K mg base A outer s H) (hl:vs.length=ps.length) (r:Yi vs us)
 (x:InCallC s s.heap.objs.size (bindL (envOfC qual scope s.heap.objs.size f cd).kindOf (ps.zip us) fun _=>none) (cellsFrom (s.heap.objs.size+1) scope.names []) (bindC (envOfC qual scope s.heap.objs.size f cd).kindOf (ps.zip us) fun _=>none) s1) :
 Yf (Bx CX P w K mg base N qual scope f cd A outer s H E) [] (CG N vs) H s1:=by
 have hpl:ps.length<=N.length:=by have:=congrArg List.length S.pre;rw[Zf]at this;lia
 obtain⟨h1,tk,rfl,hk⟩:=x.done;have noA:∀b:Addr,b∉(Bx CX P w K mg base N qual scope f cd A outer s H E).ex:=fun b z=>absurd (show b∈([]:List Addr) from z) (by simp)
 refine⟨⟨e0.mod,S.kind,rfl,rfl,ZD _,fun y z c h1 h2=>?_,fun y hy=>?_,fun y c _ h=>?_,fun _=>hd,Around.frames_deeper e0.frames,.inr ⟨rfl,rfl⟩,fun b z=>absurd z (noA b),e0.bs,e0.bsz,fun b _ _=>noA b,fun b z=>absurd z (noA b),e0.funs,e0.frf⟩,
  rfl,e0.bare,Un.kept hk,⟨_,x.toInCall.ns,fun i y v h1 h2 h3=>?_⟩,fun y c h=>⟨_,x.cell y c h⟩,e0.hok.fresh (ZD _),fun y c h=>?_,fun p hp=>absurd (show p∈([]:List (Addr × Obj)) from hp) (by simp),e0.hok.kept hk,?_⟩
 ·exact name_of_addr x.apart (PySem.mem_of_lookup h1) (PySem.mem_of_lookup h2)
 ·have hy:scope.names.lookup y=some .cell\/scope.names.lookup y=some .free:=hy
  rcases hy with hy | hy
  ·exact LN hy
  ·exact absurd rfl (S.nofree _ (PySem.mem_of_lookup hy))
 ·exact Zq (x.above y c (PySem.mem_of_lookup h))
 ·have hi:i < vs.length:=by
   unfold CG at h2
   by_cases hi:i < vs.length
   ·exact hi
   ·rw[ZBD (by simpa using hi)]at h2;rw[List.getElem?_replicate]at h2;split at h2 <;> cases h2
  have ha:vs[i]? = some v:=by
   unfold CG at h2;rw[ZBK (by simpa using hi),ZR]at h2;cases e:vs[i]? with
   | none=>rw[e]at h2;cases h2
   | some a=>rw[e]at h2;cases h2;rfl
  obtain⟨u,hu,rv⟩:=r.get ha
  have hp:ps[i]? = some y:=by
   rw[<- S.pre,List.getElem?_take_of_lt (by lia)];exact h1
  have ndP:ps.Nodup:=by rw[<- S.pre];exact S.nd.sublist (List.take_sublist _ _)
  refine⟨u,rv,?_⟩
  rcases S.par y (Zz hp) with k | k
  ·exact .inl ⟨k,Mg ndP hp hu k⟩
  ·obtain⟨c,e⟩:=LN (n:=s.heap.objs.size+1) k;refine .inr ⟨.inl k,c,e,?_⟩;have q:=x.cell y c e;rw[Lr ndP hp hu (by show scope.names.lookup y≠_;rw[k];decide)]at q;exact q
 ·exact e0.hok.fresh (Zq (x.above y c (PySem.mem_of_lookup h)))
 ·unfold CG;show _=N.length;rw[ZL,ZC,ZBg];lia
theorem IT {CX:CXT} {f:Addr} {name qual:Str} {params:Arguments} {body:List Stmt} {scope:Scope} {dV kV doc pm Yu ct oc:Value} {an od:Option Addr}
 {osl:Array (Option Value)} {N ps:List Str} {sp:Sp} (lk:K.lookup f=some ⟨oc,od,.func (PySem.W.fnOf name qual params body scope dV kV doc pm an Yu ct),osl⟩) (hcd:PySem.W.codeIn K Yu qual=true) (S:FnScope N ps scope)
 (len:∀vs H Q E,sp vs H Q E->vs.length=ps.length)
 (hbody:∀(A:Around) (outer:List Env) (s:Shared) (H:Hp) (vs:List V) (Q:VK) (E:XK),Room k (A.deeper (envOfC qual scope s.heap.objs.size f Yu))->sp vs H Q E ->
   ∃t,PSs (Bx CX P w K mg base N qual scope f Yu A outer s H E) body t/\t { nx:=fun _ H'=>Q .non H',rt:=Q } (CG N vs) H) :
 FnOk P w K mg base CX (k+1) f (PySem.W.fnOf name qual params body scope dV kV doc pm an Yu ct) ps sp:=by
 refine⟨len,fun A outer s H args us vs Q E hr e0 hb r hsp=>?_⟩;have hl:=len _ _ _ _ hsp;have KX:K.In s.heap:=e0.mod.kin.keeps fun b o e=>(e0.bs b o e).1
 have lim:s.heap.NoLimit:=e0.mod.nolimit.keeps fun b o e=>(e0.bs b o e).1
 have hkind:∀y∈ps.zip us,scope.names.lookup y.1=some .local\/(scope.names.lookup y.1=some .cell/\((cellsFrom (s.heap.objs.size+1) scope.names []).lookup y.1).isSome=true):=fun⟨n,v⟩ hy=>by
  rcases S.par n (List.of_mem_zip hy).1 with q | q
  ·exact .inl q
  ·exact .inr ⟨q,PySem.W.cellsFrom_some _ _ _ (.inl q)⟩
 refine codeAny_call_function hr.depth (KX _ _ lk) rfl S.co S.gen rfl (PySem.W.codeRec_of KX hcd) (hb _ _ _ _ ?_);refine wpAny_newFunctionEnv_cells S.kind hkind fun env he s1 x=>?_
 subst he;refine⟨lim.keeps x.toInCall.keep,codeAny_func ?_⟩;obtain⟨t,ht,hq⟩:=hbody A outer s H vs Q E (hr.deeper _) hsp;have I:Yf (Bx CX P w K mg base N qual scope f Yu A outer s H E) [] (CG N vs) H s1:=QV S hr.hd e0 hl r x;refine ZO (ht [] s1 (CG N vs) H _ I hq) (fun fl s' hs=>?_) fun e s' hs=>hs
 have fin:∀{σ':St} {H':Hp} {v:V} {u:Value},Yf (Bx CX P w K mg base N qual scope f Yu A outer s H E) [] σ' H' s'->Yj v u->Q v H'->CE outer P w H s Q u s' :=
  fun {σ' H' v u} J rv q=>⟨v,H',J.os,J.bare,J.base,J.hok,rv,q⟩
 cases fl with
 | ret u =>
  obtain⟨v,σ',H',J,rv,q⟩:=hs;exact fin J rv q
 | next =>
  obtain⟨σ',H',J,q⟩:=hs;exact fin (v:=V.non) (u:=Value.none) J rfl q
 | brk =>
  obtain⟨_,_,_,q⟩:=hs;exact False.elim q
 | cont =>
  obtain⟨_,_,_,q⟩:=hs;exact False.elim q
section
variable {X:Cx}{x:Str}{p pos:Pos}{e:Expr}{es:List Expr}{t:TA}{id T:String}{r:List V->Hp->VK->Prop}
noncomputable def tCB(r:List V->Hp->VK->Prop)(t:TA):TE:=fun σ H Q=>t σ H fun vs H1=>r vs H1 Q
theorem AX (hc:CallR X (.builtin id) r) (hg:Gl X x) (hm:X.mg x=none) (hv:bootBuiltins x=some (.builtin id)) (ha:PA X (e::es) t) (hn:x ≠ "__name__":=by decide) (hdb:(x == ("__debug__" : Str))=false:=by decide)
 (he:starEach (e::es) X.env=(false,eval e X.env)::starEach es X.env:=by rfl) (hpl:(backTo pos (starEach es X.env)).any (·.1)=false:=by rfl):PE X (.Call (.Name x p) (e::es) [] pos) (tCB r t):=by
 intro Ya s σ H Q I h;refine wpAny_Call_Name_kw (Cs I hg hm hv ?_ hn hdb);exact PyProof.Rows.callWith_builtin1 (Yn (ha pos Ya s σ H _ I h) fun us s1 ⟨vs,H1,I1,r1,q1⟩=>hc Ya s1 σ H1 vs us Q I1 r1 q1) he hpl
theorem Ar (hc:CallR X (.type T) r) (hg:Gl X x) (hm:X.mg x=none) (hv:bootBuiltins x=some (.type T)) (ha:PA X (e::es) t) (hn:x ≠ "__name__":=by decide) (hdb:(x == ("__debug__" : Str))=false:=by decide)
 (he:starEach (e::es) X.env=(false,eval e X.env)::starEach es X.env:=by rfl) (hpl:(backTo pos (starEach es X.env)).any (·.1)=false:=by rfl):PE X (.Call (.Name x p) (e::es) [] pos) (tCB r t):=by
 intro Ya s σ H Q I h;refine wpAny_Call_Name_kw (Cs I hg hm hv ?_ hn hdb);exact PyProof.Rows.callWith_type1 (Yn (ha pos Ya s σ H _ I h) fun us s1 ⟨vs,H1,I1,r1,q1⟩=>hc Ya s1 σ H1 vs us Q I1 r1 q1) he hpl
end
end L2
namespace HT
open PySem PyProof.Rows
section
open PySem.SeqAt
open PySem.AutoSeq1 (wpAny_loadPart')
open PySem.MeetsSeq PySem.MeetsSeq2 PySem.MeetsSeq3
end
section
variable {prog:Program}{w:World}{A:Around}{E:Value->Shared->Prop}{s:Shared}
theorem cat_tup {t b:Addr} {vs ws:List Value} {Q:Value->Shared->Prop} (ht:IsTup s.heap t vs.toArray) (hb:IsTup s.heap b ws.toArray) (hv:vs≠[])
 (h1:ws=[]->Q (.ref t) s) (h2:ws≠[]->Q (.ref s.heap.objs.size) { s with heap:=s.heap.push { cls:=.type "tuple",data:=.seq (vs++ws).toArray } })
 (hsz:vs.length+ws.length<=sizeLine):wpAny (model prog w) A (binaryOp .Add (.ref t) (.ref b)) Q E s:=by
 obtain⟨⟨cls,dd,data,sl⟩,ho,hc,n,hd⟩:=id ht;obtain⟨⟨cls2,dd2,data2,sl2⟩,ho2,hc2,n2,hd2⟩:=id hb;simp only at hc hd hc2 hd2;subst hc hd hc2 hd2;have e:vs.toArray++ws.toArray=(vs++ws).toArray:=by simp
 by_cases hw:ws=[]
 ·exact concat_meets ⟨_,ho,rfl⟩ ⟨_,ho2,rfl⟩ noFill_tuple_add seq_tuple_add PySem.F.slot_tuple_add PySem.F.entry_tuple_add (PySem.F.args_tuple_add_2 _ _)
   (tuple_addW1 t b vs.toArray ws.toArray n n2 dd dd2 sl sl2 (by simpa using hv) (by simp[hw])) ⟨ho,ho2,h1 hw⟩
 ·refine concat_meets ⟨_,ho,rfl⟩ ⟨_,ho2,rfl⟩ noFill_tuple_add seq_tuple_add PySem.F.slot_tuple_add PySem.F.entry_tuple_add (PySem.F.args_tuple_add_2 _ _)
   (tuple_addW2 t b vs.toArray ws.toArray n n2 dd dd2 sl sl2 (by simpa using hv) (by simpa using hw) (by rw[ZJ,ZJ];exact hsz)) ⟨ho,ho2,?_⟩
  rw[e];exact h2 hw
noncomputable def sIx(n d:Nat):Option Int->Nat
 | none=>d
 | some v=>if v < 0 then (v+(n:Int)).toNat else min v.toNat n
theorem sIx_none(n d:Nat):sIx n d none=d:=rfl
theorem sIx_nat(n d k:Nat):sIx n d (some (k:Int))=min k n:=by
 show(if (k:Int) < 0 then ((k:Int)+(n:Int)).toNat else min (k:Int).toNat n)=min k n
 rw[if_neg (by lia),Zb]
theorem VX(n d:Nat)(hd:d<=n)(o:Option Int):sIx n d o<=n:=by
 cases o with
 | none=>exact hd
 | some v =>
  show(if v < 0 then (v+(n:Int)).toNat else min v.toNat n)<=n
  by_cases hv:v < 0
  ·rw[if_pos hv];lia
  ·rw[if_neg hv];exact Nat.min_le_right _ _
theorem KI(v:Int)(n d:Nat):(if v < 0 then max (v+(n:Int)) 0 else min v (n:Int))=((sIx n d (some v):Nat):Int):=by
 show(if v < 0 then max (v+(n:Int)) 0 else min v (n:Int))=(((if v < 0 then (v+(n:Int)).toNat else min v.toNat n):Nat):Int)
 by_cases hv:v < 0
 ·simp only[if_pos hv];lia
 ·simp only[if_neg hv];lia
theorem SE(lo hi:Option Int)(n:Nat):Builtin.Slice.sliceAdjust lo hi 1 (n:Int)=(((sIx n 0 lo:Nat):Int),((sIx n n hi:Nat):Int)):=by
 have h1:¬((1:Int) < 0):=by lia
 unfold Builtin.Slice.sliceAdjust;simp only[h1,if_false];refine Prod.ext ?_ ?_
 ·cases lo with
  | none=>rfl
  | some v=>exact KI v n 0
 ·cases hi with
  | none=>rfl
  | some v=>exact KI v n n
theorem Vb(i j:Nat):Builtin.Slice.slicePlaces (i:Int) (j:Int) 1=j - i:=by
 unfold Builtin.Slice.slicePlaces;have h1:(1:Int) > 0:=by lia
 simp only[h1,if_true,Int.ediv_one];split <;> lia
theorem Kk{v:Value}{o:Option Int}{Q:Option Int->Shared->Prop}(p:IsPart v o)(h:Q o s):wpAny (model prog w) A (Builtin.Slice.slicePartIndex v) Q E s:=by
 cases p with
 | none=>exact slicePart_none h
 | int i t=>exact slicePart_int h
theorem LC {sl:Addr} {vl vu:Value} {lo hi:Option Int} {n:Nat} {Q:Int × Int × Nat->Shared->Prop} (hs:s.heap.IsSliceOf sl vl vu .none) (pl:IsPart vl lo) (pu:IsPart vu hi)
 (h:Q (((sIx n 0 lo:Nat):Int),1,sIx n n hi - sIx n 0 lo) s):wpAny (model prog w) A (Builtin.Slice.sliceApplied (.ref sl) (pure (n:Int))) Q E s:=by
 obtain⟨os,hos,hcs,hds⟩:=id hs;unfold Builtin.Slice.sliceApplied Builtin.Slice.sliceFields;refine ZA (ZA (Z5 hos hds (x:=vl) rfl (ZA (Z5 hos hds (x:=vu) rfl (ZA (Z5 hos hds (x:=.none) rfl (ZB ?_)))))));refine ZA (slicePart_none ?_);show wpAny _ _ (if ((1:Int) == 0)=true then _ else _) _ _ s;rw[if_neg (by decide)];refine ZA (Kk pl (ZA (Kk pu (ZA (ZB ?_)))));show wpAny _ _ (match Builtin.Slice.sliceAdjust lo hi 1 (n:Int) with | (lo,hi)=>pure (lo,(1:Int),Builtin.Slice.slicePlaces lo hi 1)) _ _ s;rw[SE lo hi n];show wpAny _ _ (pure (((sIx n 0 lo:Nat):Int),(1:Int),Builtin.Slice.slicePlaces ((sIx n 0 lo:Nat):Int) ((sIx n n hi:Nat):Int) 1)) _ _ s;rw[Vb];exact ZB h
theorem UX(xs:Array Value)(i k:Nat):((List.range k).filterMap fun(m:Nat)=>xs[((i:Int)+(m:Int) * 1).toNat]?).toArray=((xs.toList.drop i).take k).toArray:=by
 have e:(fun(m:Nat)=>xs[((i:Int)+(m:Int) * 1).toNat]?)=fun m=>xs[i+m]?:=by
  funext m
  have:((i:Int)+(m:Int) * 1).toNat=i+m:=by lia
  rw[this]
 rw[e]
 have:=pick_run xs i k
 rw[List.filterMap_map]at this;have e2:((fun x=>xs[x]?) ∘ fun x=>i+x)=fun m=>xs[i+m]?:=rfl
 rw[e2]at this;rw[this]
theorem getItem_tuple_cut {t sl:Addr} {items:Array Value} {vl vu:Value} {lo hi:Option Int} {Q:Value->Shared->Prop} (ht:IsTup s.heap t items) (hs:s.heap.IsSliceOf sl vl vu .none) (pl:IsPart vl lo) (pu:IsPart vu hi)
 (hw:¬(sIx items.size 0 lo=0/\sIx items.size items.size hi=items.size))
 (h:Q (.ref s.heap.objs.size) { s with heap:=s.heap.push { cls:=.type "tuple",data:=.seq ((items.toList.drop (sIx items.size 0 lo)).take (sIx items.size items.size hi - sIx items.size 0 lo)).toArray } })
 (hsz:items.size<=sizeLine):wpAny (model prog w) A (getItem (.ref t) (.ref sl)) Q E s:=by
 have htake:sizeOk (.seq ((items.toList.drop (sIx items.size 0 lo)).take (sIx items.size items.size hi - sIx items.size 0 lo)).toArray):=by
  show((items.toList.drop (sIx items.size 0 lo)).take (sIx items.size items.size hi - sIx items.size 0 lo)).toArray.size<=sizeLine
  rw[ZJ,Zf,ZBE,Zd];lia
 have hj:sIx items.size items.size hi<=items.size:=VX _ _ (ZD _) hi;obtain⟨os,hos,hcs,hds⟩:=id hs;have hTs:s.TypeIs (.ref sl) "slice":=⟨os,hos,hcs⟩;unfold getItem
 try with_reducible refine Ze ?_
 first | refine ZA (ZB ?_) | skip
 refine ZA (wpAny_sequenceKey ht.typeIs (by decide) ?_)
 refine ZA (wpAny_callSpecial?_slot (name:=Str.ofString "__getitem__") ht.typeIs PyProof.Rows.slot_tuple_getitem
  (Z6 PyProof.Rows.slot_tuple_getitem ht.typeIs entry_tuple_getitem ?_ (args_tuple_getitem _ _)))
 show wpAny _ _ (Builtin.Tuple.tupleItemsOf (.ref t) >>= _) _ _ s;refine ZA (tupleItemsOf_ ht ?_);refine ZA (wpAny_typeOf hTs ?_);rw[if_pos (by decide)];refine ZA (LC hs pl pu ?_)
 have hno:¬((((sIx items.size 0 lo:Nat):Int) == 0 && (1:Int) == 1 && (sIx items.size items.size hi - sIx items.size 0 lo) == items.size)=true):=by
  intro q;rw[ZY,ZY]at q;have q1:((sIx items.size 0 lo:Nat):Int)=0:=eq_of_beq q.1.1;have q2:sIx items.size items.size hi - sIx items.size 0 lo=items.size:=eq_of_beq q.2;exact hw ⟨by lia,by lia⟩
 show wpAny _ _ (if (((sIx items.size 0 lo:Nat):Int) == 0 && (1:Int) == 1 && (sIx items.size items.size hi - sIx items.size 0 lo) == items.size)=true then _ else _) _ _ s;rw[if_neg hno,UX]
 first
  | exact ZA (m:=Builtin.Tuple.tupleExact _) (Zp (ZB ⟨_,rfl,ZB h⟩) htake)
  | exact ZA (m:=Builtin.Tuple.tupleExact _) (Zp (ZA (ZB (ZB ⟨_,rfl,ZB h⟩))) htake)
  | exact ZA (ZA (m:=Builtin.Tuple.tupleExact _) (Zp (ZB (ZB ⟨_,rfl,ZB h⟩)) htake))
  | exact ZA (ZA (m:=Builtin.Tuple.tupleExact _) (Zp (ZB ⟨_,rfl,ZB h⟩) htake))
end
end HT
namespace L2
open PySem PySem.Spec PyProof.Rows
variable {s:Shared}{x:V}
noncomputable abbrev TO:=St->Hp->(Option Int->Hp->Prop)->Prop
noncomputable def PO(X:Cx)(e:Option Expr)(t:TO):Prop :=
 ∀(Ya:List (Addr × Obj)) (s:Shared) (σ:St) (H:Hp) (Q:Option Int->Hp->Prop),Yf X Ya σ H s->t σ H Q ->
  wpAny (model X.prog X.w) X.A (evalPart e X.env) (fun u s'=>∃o H',Yf X Ya σ H' s'/\IsPart u o/\Q o H') X.xe s
noncomputable def K2:TO:=fun _ H Q=>Q none H
noncomputable def Kd(t:TE):TO:=fun σ H Q=>t σ H fun x H1=>∃i,x=.int i/\Q (some i) H1
theorem D8{ns:List Int}:∀{us:List Value},Yi (ns.map V.int) us->IntsAre us ns:=by
 induction ns with
 | nil=>intro us r;rw[List.map_nil]at r;cases r;exact .nil
 | cons n ns ih =>
  intro us r;rw[Zi]at r;cases r with
  | cons r1 r2 =>
   obtain⟨t,e⟩:=r1;subst e;exact .cons n t (ih r2)
section
variable {X:Cx}{e:Expr}{te:TE}{lo hi:Option Expr}{tl th:TO}{pos p2:Pos}
theorem Fy:PO X none K2:=by
 intro Ya s σ H Q I h;rw[evalPart_none];exact ZB ⟨none,H,I,.none,h⟩
theorem Ij(h:PE X e te):PO X (some e) (Kd te):=by
 intro Ya s σ H Q I hw;rw[evalPart_some];refine Yn (h Ya s σ H _ I hw) fun u s1 ⟨x,H1,I1,r1,q1⟩=>?_
 obtain⟨i,rfl,q⟩:=q1;obtain⟨t,rfl⟩:=r1;exact⟨some i,H1,I1,.int i t,q⟩
noncomputable def SlR(X:Cx)(r:V->Option Int->Option Int->Hp->VK->Prop):Prop :=
 ∀(Ya:List (Addr × Obj)) (s:Shared) (σ:St) (H:Hp) (x:V) (v vl vu:Value) (lo hi:Option Int) (sl:Addr) (Q:VK),Yf X Ya σ H s->Yj x v->s.heap.IsSliceOf sl vl vu .none->IsPart vl lo->IsPart vu hi->r x lo hi H Q ->
  ∃T id,typeLookup (.type T) "__getitem__" = pure (some (.builtin id))/\s.TypeIs v T/\wpAny (model X.prog X.w) X.A (getItem v (.ref sl)) (EP X Ya σ Q) X.xe s
noncomputable def tSl(r:V->Option Int->Option Int->Hp->VK->Prop)(te:TE)(tl th:TO):TE:=fun σ H Q=>te σ H fun x H1=>tl σ H1 fun l H2=>th σ H2 fun u H3=>r x l u H3 Q
theorem Mn{r:V->Option Int->Option Int->Hp->VK->Prop}(hr:SlR X r)(he:PE X e te)(hl:PO X lo tl)(hu:PO X hi th):PE X (.Subscript e (.Slice lo hi none p2) pos) (tSl r te tl th):=by
 intro Ya s σ H Q I h;refine Subscript_ (Yn (he Ya s σ H _ I h) fun v s1 ⟨x,H1,I1,r1,q1⟩=>?_);refine wpAny_Slice (Yn (hl Ya s1 σ H1 _ I1 q1) fun vl s2 ⟨l,H2,I2,pl,q2⟩=>Yn (hu Ya s2 σ H2 _ I2 q2) fun vu s3 ⟨u,H3,I3,pu,q3⟩=>?_);rw[evalPart_none];refine ZB ?_;have I4:Yf X Ya σ H3 { s3 with heap:=s3.heap.push { cls:=.type "slice",data:=.fields #[vl,vu,.none] } }:=I3.kept (t':=s3.toks) fun b ob q=>ZH _ q
 obtain⟨T,id,hT,ht,hg⟩:=hr Ya { s3 with heap:=s3.heap.push { cls:=.type "slice",data:=.fields #[vl,vu,.none] } } σ H3 x v vl vu l u s3.heap.objs.size Q I4 r1 (Heap.IsSliceOf.new ..) pl pu q3;show wpAny (model X.prog X.w) X.A (subscriptTail e (.Slice lo hi none p2) v (.ref s3.heap.objs.size)) (EP X Ya σ Q) X.xe { s3 with heap:=s3.heap.push { cls:=.type "slice",data:=.fields #[vl,vu,.none] } };exact tail_any (ops:=[.ref s3.heap.objs.size,v]) ht hT hg (by with_unfolding_all rfl)
noncomputable def BO(xs:List V)(lo hi:Option Int):List V:=(xs.drop (HT.sIx xs.length 0 lo)).take (HT.sIx xs.length xs.length hi - HT.sIx xs.length 0 lo)
theorem Kq(xs:List V)(lo hi:Option Int):(BO xs lo hi).length<=xs.length:=by
 unfold BO;rw[Zf,ZBE];lia
noncomputable def RM(K:W.Frag):V->Option Int->Option Int->Hp->VK->Prop:=fun x lo hi H Q=>∃a xs,x=.ref a/\Yq K H a xs /\
 ¬(HT.sIx xs.length 0 lo=0/\HT.sIx xs.length xs.length hi=xs.length)/\∀p,H p=none->Q (.ref p) (upd H p (.tup (BO xs lo hi)))
theorem LV:SlR X (RM X.K):=by
 intro Ya s σ H x v vl vu lo hi sl Q I rx hs pl pu h;obtain⟨a,xs,rfl,hx,hw,q⟩:=h;cases rx;obtain⟨Ye,r,ht,hz⟩:=I.tuple hx;have Yl:Ye.toArray.size=xs.length:=by rw[ZJ];exact r.length.symm
 refine⟨"tuple",_,PyProof.Rows.slot_tuple_getitem.lookup,ht.typeIs,?_⟩;refine HT.getItem_tuple_cut ht hs pl pu (by rw[Yl];exact hw) ?_ (by rw[Yl];exact hz);rw[Yl];refine⟨.ref s.heap.objs.size,_,I.laid (t':=s.toks) (o:=.tup (BO xs lo hi)) (fun b ob q=>ZH _ q) (ZD _) ?_,rfl,q _ (I.hok.fresh (ZD _))⟩;exact⟨Za (Kq xs lo hi) hz,_,(r.drop (HT.sIx xs.length 0 lo)).take (HT.sIx xs.length xs.length hi - HT.sIx xs.length 0 lo),IsTupN.new _ _⟩
noncomputable def LX(K:W.Frag):R2:=fun x y H Q=>∃a b xs ys,x=.ref a/\y=.ref b/\Yq K H a xs/\Yq K H b ys/\xs≠[]/\xs.length+ys.length<=sizeLine /\
 (ys=[]->Q (.ref a) H)/\(ys≠[]->∀p,H p=none->Q (.ref p) (upd H p (.tup (xs++ys))))
theorem Yi.nil_iff{xs:List V}{us:List Value}(r:Yi xs us):us=[] ↔ xs=[]:=by
 cases r with
 | nil=>simp
 | cons _ _=>simp
theorem K6:Ys X (binaryOp .Add) (LX X.K):=by
 intro Ya s σ H x y v u Q I rx ry h;obtain⟨a,b,xs,ys,rfl,rfl,ha,hb,hx,hz,q1,q2⟩:=h;cases rx;cases ry;obtain⟨Ye,r1,p1,_⟩:=I.tuple ha;obtain⟨its2,r2,p2,_⟩:=I.tuple hb;refine HT.cat_tup p1 p2 (fun z=>hx (r1.nil_iff.mp z)) (fun z=>⟨.ref a,H,I,rfl,q1 (r2.nil_iff.mp z)⟩) (fun z=>?_) (by rw[<- r1.length,<- r2.length];exact hz);refine⟨.ref s.heap.objs.size,_,I.laid (t':=s.toks) (o:=.tup (xs++ys)) (fun b ob q=>ZH _ q) (ZD _) ?_,rfl,q2 (fun w=>z (r2.nil_iff.mpr w)) _ (I.hok.fresh (ZD _))⟩;exact⟨by rw[ZL];exact hz,_,r1.append r2,IsTupN.new _ _⟩
end
noncomputable def ixN(n:Nat)(i:Int):Option Nat:=if 0<=i then (if i < n then some i.toNat else none) else if -(n:Int)<=i then some (i+n).toNat else none
noncomputable def atI{α:Type}(xs:List α)(i:Int):Option α:=(ixN xs.length i).bind fun j=>xs[j]?
theorem Lg{n:Nat}{i:Int}{j:Nat}(h:ixN n i=some j):seqIndex? i n=some j/\j < n /\ -(n:Int)<=i/\i < n:=by
 unfold ixN at h
 by_cases h0:0<=i
 ·rw[if_pos h0]at h
  by_cases h1:i < n
  ·rw[if_pos h1]at h;have e:i.toNat=j:=ZQ h;exact⟨by rw[seqIndex_of h0 h1,e],by lia,by lia,h1⟩
  ·rw[if_neg h1]at h;cases h
 ·rw[if_neg h0]at h
  by_cases h1 : -(n:Int)<=i
  ·rw[if_pos h1]at h;have e:(i+n).toNat=j:=ZQ h;exact⟨by rw[seqIndex_neg (by lia) h1,e],by lia,h1,by lia⟩
  ·rw[if_neg h1]at h;cases h
theorem Gi{α:Type}{xs:List α}{i:Int}{v:α}(h:atI xs i=some v):∃j,seqIndex? i xs.length=some j/\xs[j]? = some v/\j < xs.length /\ -(xs.length:Int)<=i/\i < xs.length:=by
 unfold atI at h;cases e:ixN xs.length i with
 | none=>rw[e]at h;cases h
 | some j =>
  rw[e]at h;obtain⟨h1,h2,h3,h4⟩:=Lg e;exact⟨j,h1,h,h2,h3,h4⟩
noncomputable def HQ(b:Expr):Prop:=∀o i,subscripted b false o i=operate [o,i] (getItem o i)
noncomputable def IxR(X:Cx)(r:R2):Prop :=
 ∀(value slice:Expr) (Ya:List (Addr × Obj)) (s:Shared) (σ:St) (H:Hp) (x y:V) (v u:Value) (Q:VK),Yf X Ya σ H s->Yj x v->Yj y u->r x y H Q ->
  subscripted slice false v u=operate [v,u] (getItem v u)->wpAny (model X.prog X.w) X.A (subscriptTail value slice v u) (EP X Ya σ Q) X.xe s
noncomputable def MtR(X:Cx)(id:String)(r:V->List V->Hp->VK->Prop):Prop :=
 ∀(Ya:List (Addr × Obj)) (s:Shared) (σ:St) (H:Hp) (x:V) (xs:List V) (v:Value) (us:List Value) (Q:VK),Yf X Ya σ H s->Yj x v->Yi xs us->r x xs H Q ->
  wpAny (model X.prog X.w) X.A (call (.builtin id) (v::us)) (EP X Ya σ Q) X.xe s
section
variable {X:Cx}{a b:Expr}{ta tb:TE}{pos:Pos}
theorem IxR.or{r r':R2}(h:IxR X r)(h':IxR X r'):IxR X (fun x y H Q=>r x y H Q\/r' x y H Q):=by
 intro value slice Ya s σ H x y v u Q I rx ry q hs
 rcases q with q | q
 ·exact h value slice Ya s σ H x y v u Q I rx ry q hs
 ·exact h' value slice Ya s σ H x y v u Q I rx ry q hs
theorem Oo{r:R2}(hr:IxR X r)(ha:PE X a ta)(hb:PE X b tb)(hs:HQ b):PE X (.Subscript a b pos) (tOp r ta tb):=by
 intro Ya s σ H Q I h;exact Subscript_ (Ja ha hb I h fun v u s2 x y H2 I2 rx ry q=>hr a b Ya s2 σ H2 x y v u Q I2 rx ry q (hs _ _))
noncomputable def MI(K:W.Frag):R2:=fun x y H Q=>∃p xs i v,x=.ref p/\y=.int i/\Yt K H p xs/\atI xs i=some v/\Q v H
noncomputable def Ld(K:W.Frag):R2:=fun x y H Q=>∃p xs i v,x=.ref p/\y=.int i/\Yq K H p xs/\atI xs i=some v/\Q v H
noncomputable def MA:R2:=fun x y H Q=>∃z i c,x=.str z/\y=.int i/\z.length<=sizeLine/\atI z.cps.toList i=some c/\Q (.str ⟨#[c]⟩) H
theorem ix_list:IxR X (MI X.K):=by
 intro value slice Ya s σ H x y v u Q I rx ry h hs;obtain⟨p,xs,i,z,rfl,rfl,hq,he,q⟩:=h;cases rx;obtain⟨t,rfl⟩:=ry;obtain⟨Ye,r,pl,hz⟩:=I.list hq;obtain⟨j,h1,h2,h3,h4,h5⟩:=Gi he;obtain⟨w,ew,rw'⟩:=r.get h2;have hl:=r.length;have hn:=DY;have fin:EP X Ya σ Q w s:=⟨z,H,I,rw',q⟩
 by_cases h0:0<=i
 ·have hj:i.toNat=j:=by
   rw[seqIndex_of h0 h5]at h1;exact ZQ h1
  exact item_listR pl.isList h0 (by lia) (by rw[hj];simpa using ew) fin hs
 ·have hj:(i+(Ye.toArray.size:Int)).toNat=j:=by
   rw[seqIndex_neg (by lia) h4]at h1;rw[ZJ,<- hl];exact ZQ h1
  exact subscriptTail_builtinR (x:=w) pl.isList.typeIs slot_list_getitem.lookup
   (wpAny_getItem_list_neg (Q:=fun r s'=>r=w/\EP X Ya σ Q r s') pl.isList (by lia) (by rw[ZJ] <;> lia) (by lia) (by rw[hj];simpa using ew) ⟨rfl,fin⟩) hs
theorem ix_tup:IxR X (Ld X.K):=by
 intro value slice Ya s σ H x y v u Q I rx ry h hs;obtain⟨p,xs,i,z,rfl,rfl,hq,he,q⟩:=h;cases rx;obtain⟨t,rfl⟩:=ry;obtain⟨Ye,r,pl,hz⟩:=I.tuple hq;obtain⟨j,h1,h2,h3,h4,h5⟩:=Gi he;obtain⟨w,ew,rw'⟩:=r.get h2;have hl:=r.length;have hn:=DY;have fin:EP X Ya σ Q w s:=⟨z,H,I,rw',q⟩
 exact subscriptTail_builtinR (x:=w) pl.typeIs slot_tuple_getitem.lookup
  (getItem_tuple (j:=j) (Q:=fun r s'=>r=w/\EP X Ya σ Q r s') pl (by lia) (by lia) (by rw[ZJ,<- hl];exact h1) (by simpa using ew) ⟨rfl,fin⟩) hs
theorem VG:IxR X MA:=by
 intro value slice Ya s σ H x y v u Q I rx ry h hs;obtain⟨z,i,c,rfl,rfl,hz,he,q⟩:=h;obtain⟨t,rfl⟩:=rx;obtain⟨t',rfl⟩:=ry;obtain⟨j,h1,h2,h3,h4,h5⟩:=Gi he;have hl:z.cps.toList.length=z.length:=by simp[Str.length]
 rw[hl]at h1 h4 h5;have hn:=DY
 exact tail_any (typeIs_str s z t) slot_str_getitem.lookup (getItem_str (c:=c) (by
  have e1:decide (i < -(2 ^ 63:Int))=false:=Zx (by lia);have e2:decide (i ≥ 2 ^ 63)=false:=Zx (by lia);rw[e1,e2,Bool.or_false]) (by rw[h1];simpa using h2) ⟨.str ⟨#[c]⟩,H,I.tok _,⟨_,rfl⟩,q⟩) hs
noncomputable def rIx(K:W.Frag):R2:=fun x y H Q=>MI K x y H Q\/Ld K x y H Q\/MA x y H Q
theorem ix_seq:IxR X (rIx X.K):=ix_list.or (ix_tup.or VG)
theorem Vj(Ye:List Value)(n j:Nat)(u:Value):Obj.mapSeq (·.setIfInBounds j u) { cls:=.type "list",data:=.seq Ye.toArray n } = { cls:=.type "list",data:=.seq (Ye.set j u).toArray n }:=by
 simp[Obj.mapSeq]
theorem Yf.lst{Ya:List (Addr × Obj)}{σ:St}{H:Hp}{p:Addr}{xs:List V}(I:Yf X Ya σ H s)(h:H p=some (.lst xs)) :
 ∃(Ye:List Value) (n:Nat),Yi xs Ye/\s.heap.get? p=some { cls:=.type "list",data:=.seq Ye.toArray n } /\ xs.length<=sizeLine:=by
 obtain⟨z,Ye,n,r,e⟩:=I.hok p _ h;exact⟨Ye,n,r,e,z⟩
theorem Yf.lstUpd {Ya:List (Addr × Obj)} {σ:St} {H:Hp} {p:Addr} {xs ys:List V} {Ye its':List Value} {n n':Nat} {f:Obj->Obj} (I:Yf X Ya σ H s) (h:H p=some (.lst xs))
 (ho:s.heap.get? p=some { cls:=.type "list",data:=.seq Ye.toArray n }) (hf:f { cls:=.type "list",data:=.seq Ye.toArray n } = { cls:=.type "list",data:=.seq its'.toArray n' }) (r:Yi ys its') (hz:ys.length<=sizeLine) (t:Nat) :
 Yf X Ya σ (upd H p (.lst ys)) { s with heap:=s.heap.update p f,toks:=t }:=by
 have e:(s.heap.update p f).get? p=some { cls:=.type "list",data:=.seq its'.toArray n' }:=by
  rw[ZBL f ho (by rw[hf] <;> rfl),hf]
 refine I.write (x:=p) (e:=p) (by rw[h];trivial) (.inl rfl) (fun b u hb q=>(Z0 _ _ (Ne.symm hb)).trans q) ⟨_,e⟩ ?_;exact⟨hz,its',n',r,e⟩
noncomputable def Vl:V->V->V->Hp->(Hp->Prop)->Prop:=fun o i v H Q=>∃p xs k j,o=.ref p/\i=.int k/\H p=some (.lst xs)/\ixN xs.length k=some j/\Q (upd H p (.lst (xs.set j v)))
theorem TJ:Gf X Vl:=by
 intro Ya s σ H o i v ov iv u Q I ro ri rv h;obtain⟨p,xs,k,j,rfl,rfl,hp,hj,q⟩:=h;cases ro;obtain⟨t,rfl⟩:=ri;obtain⟨Ye,n,r,ho,hz⟩:=I.lst hp;obtain⟨h1,h2,h3,h4⟩:=Lg hj;have hl:=r.length;have hn:=DY
 have I':Yf X Ya σ (upd H p (.lst (xs.set j v))) { s with heap:=s.heap.update p (Obj.mapSeq (·.setIfInBounds j u)) } :=
  I.lstUpd hp ho (Vj Ye n j u) (r.set rv j) (by rw[ZBU];exact hz) s.toks
 by_cases h0:0<=k
 ·have hk:k.toNat=j:=by
   rw[seqIndex_of h0 h4]at h1;exact ZQ h1
  exact PySem.W.ki_setAt ho h0 (by lia) (by rw[ZJ,<- hl];exact h4) (by rw[hk];exact⟨_,I',q⟩)
 ·have hk:(k+(Ye.toArray.size:Int)).toNat=j:=by
   rw[seqIndex_neg (by lia) h3]at h1;rw[ZJ,<- hl];exact ZQ h1
  exact PySem.W.ki_setBack ho (by lia) (by rw[ZJ,<- hl];exact h3) (by lia) (by rw[hk];exact⟨_,I',q⟩)
theorem UQ(lo hi:Option Int)(n:Nat):(sliceBounds lo hi none n).1=((HT.sIx n 0 lo:Nat):Int)/\(sliceBounds lo hi none n).2.1=((HT.sIx n n hi:Nat):Int)/\(sliceBounds lo hi none n).2.2=1:=by
 refine⟨?_,?_,rfl⟩
 ·cases lo with
  | none=>simp[sliceBounds,HT.sIx]
  | some i =>
   simp only[sliceBounds,HT.sIx,Option.getD_none,show(1:Int) > 0 by decide,if_true]
   by_cases h:i < 0
   ·simp only[h,if_true] <;> lia
   ·simp only[h,if_false] <;> lia
 ·cases hi with
  | none=>simp[sliceBounds,HT.sIx]
  | some i =>
   simp only[sliceBounds,HT.sIx,Option.getD_none,show(1:Int) > 0 by decide,if_true]
   by_cases h:i < 0
   ·simp only[h,if_true] <;> lia
   ·simp only[h,if_false] <;> lia
theorem SG(Ye:List Value)(lo hi:Option Int):slicePick Ye.toArray lo hi none=((Ye.drop (HT.sIx Ye.length 0 lo)).take (HT.sIx Ye.length Ye.length hi - HT.sIx Ye.length 0 lo)).toArray:=by
 obtain⟨h1,h2,h3⟩:=UQ lo hi Ye.toArray.size;unfold slicePick;rw[h1,h2,h3];simp only[sliceRange_one,pick_run,ZJ] <;> rfl
noncomputable def QP(K:W.Frag):V->Option Int->Option Int->Hp->VK->Prop:=fun x lo hi H Q=>∃a xs,x=.ref a/\Yt K H a xs/\∀p,H p=none->Q (.ref p) (upd H p (.lst (BO xs lo hi)))
theorem VJ:SlR X (QP X.K):=by
 intro Ya s σ H x v vl vu lo hi sl Q I rx hs pl pu h;obtain⟨a,xs,rfl,hx,q⟩:=h;cases rx;obtain⟨Ye,r,ht,hz⟩:=I.list hx;have Yl:=r.length;refine⟨"list",_,slot_list_getitem.lookup,ht.isList.typeIs,?_⟩;refine wpAny_getItem_list_slice ht.isList hs pl pu .none (by simp) ?_ (by rw[ZJ] <;> lia);rw[SG,<- Yl];refine⟨.ref s.heap.objs.size,_,I.laid (t':=s.toks) (o:=.lst (BO xs lo hi)) (fun b ob q=>ZH _ q) (ZD _) ?_,rfl,q _ (I.hok.fresh (ZD _))⟩;exact⟨Za (Kq xs lo hi) hz,_,0,(r.drop (HT.sIx xs.length 0 lo)).take (HT.sIx xs.length xs.length hi - HT.sIx xs.length 0 lo),ZM _ rfl⟩
noncomputable def Bg:V->Bool
 | .non=>true
 | .bl _=>true
 | .int _=>true
 | .str _=>true
 | _=>false
noncomputable def eqV:V->V->Bool
 | .non,.non=>true
 | .bl a,.bl b=>a == b
 | .bl a,.int b=>(if a then 1 else 0) == b
 | .int a,.bl b=>a == (if b then 1 else 0)
 | .int a,.int b=>a == b
 | .str a,.str b=>a == b
 | _,_=>false
theorem TR{A:Around}{y:V}{u v:Value}(ry:Yj y u)(rx:Yj x v)(fy:Bg y=true)(fx:Bg x=true):SeqAt.EqAt A s u v (eqV y x):=by
 cases y with
 | non =>
  cases ry;cases x with
  | non=>cases rx;exact SeqAt.EqAt.same _
  | bl b=>cases rx;exact SeqAt.EqAt.none_bool b
  | int b=>obtain⟨t,rfl⟩:=rx;exact SeqAt.EqAt.none_int b t
  | str b=>obtain⟨t,rfl⟩:=rx;exact SeqAt.EqAt.none_str b t
  | _=>exact absurd (show false=true from fx) Zo
 | bl a =>
  cases ry;cases x with
  | non=>cases rx;exact SeqAt.EqAt.bool_none a
  | bl b=>cases rx;exact SeqAt.EqAt.bool_bool a b
  | int b=>obtain⟨t,rfl⟩:=rx;exact SeqAt.EqAt.bool_int a b t
  | str b=>obtain⟨t,rfl⟩:=rx;exact SeqAt.EqAt.bool_str a b t
  | _=>exact absurd (show false=true from fx) Zo
 | int a =>
  obtain⟨t',rfl⟩:=ry;cases x with
  | non=>cases rx;exact SeqAt.EqAt.int_none a t'
  | bl b=>cases rx;exact SeqAt.EqAt.int_bool a t' b
  | int b=>obtain⟨t,rfl⟩:=rx;exact SeqAt.EqAt.int_int a t' b t
  | str b=>obtain⟨t,rfl⟩:=rx;exact SeqAt.EqAt.int_str a t' b t
  | _=>exact absurd (show false=true from fx) Zo
 | str a =>
  obtain⟨t',rfl⟩:=ry;cases x with
  | non=>cases rx;exact SeqAt.EqAt.str_none a t'
  | bl b=>cases rx;exact SeqAt.EqAt.str_bool a t' b
  | int b=>obtain⟨t,rfl⟩:=rx;exact SeqAt.EqAt.str_int a t' b t
  | str b=>obtain⟨t,rfl⟩:=rx;exact SeqAt.EqAt.str_str a t' b t
  | _=>exact absurd (show false=true from fx) Zo
 | _=>exact absurd (show false=true from fy) Zo
noncomputable def eqU(x:V)(u:Value):Bool:=match u with
 | .none=>eqV .non x
 | .bool b=>eqV (.bl b) x
 | .int i _=>eqV (.int i) x
 | .str z _=>eqV (.str z) x
 | _=>false
theorem Hk{y:V}{u:Value}(r:Yj y u)(f:Bg y=true):eqU x u=eqV y x:=by
 cases y with
 | non=>cases r;rfl
 | bl b=>cases r;rfl
 | int i=>obtain⟨t,rfl⟩:=r;rfl
 | str z=>obtain⟨t,rfl⟩:=r;rfl
 | _=>exact absurd (show false=true from f) Zo
theorem HM:∀{xs:List V} {us:List Value},Yi xs us->xs.all Bg=true->us.any (eqU x)=xs.any fun y=>eqV y x
 | _,_,.nil,_=>rfl
 | y::xs,u::us,.cons r t,f=>by
  rw[List.all_cons,ZY]at f;rw[Z9,Z9,Hk r f.1,HM t f.2]
theorem FT{A:Around}{v:Value}(rx:Yj x v)(fx:Bg x=true):∀{xs:List V} {us:List Value},Yi xs us->xs.all Bg=true->∀u∈us,SeqAt.EqAt A s u v (eqU x u)
 | _,_,.nil,_=>fun u hu=>by cases hu
 | y::xs,u::us,.cons r t,f=>fun u' hu=>by
  rw[List.all_cons,ZY]at f
  rcases ZI.mp hu with rfl | hu
  ·rw[Hk r f.1];exact TR r rx f.1 fx
  ·exact FT rx fx t f.2 u' hu
noncomputable def inV(x:V)(xs:List V):Bool:=xs.any fun y=>eqV y x
noncomputable def rIn(K:W.Frag)(neg:Bool):R2:=fun x y H Q=>∃p xs,y=.ref p/\(Yt K H p xs\/Yq K H p xs)/\Bg x=true/\xs.all Bg=true/\Q (.bl (if neg then !inV x xs else inV x xs)) H
theorem PK:Ys X (compareOp .NotIn) (rIn X.K true):=by
 intro Ya s σ H x y v u Q I rx ry h;obtain⟨p,xs,rfl,hq,fx,fs,q⟩:=h;cases ry
 rcases hq with hq | hq
 ·obtain⟨Ye,r,pl,hz⟩:=I.list hq;refine SeqAt.notIn_listAt (eqU x) pl.isList (fun w hw=>FT rx fx r fs w (by simpa using hw)) ⟨.bl _,H,I,rfl,?_⟩;rw[show Ye.toArray.any (eqU x)=Ye.any (eqU x) by simp,HM r fs];exact q
 ·obtain⟨Ye,r,pl,hz⟩:=I.tuple hq;refine SeqAt.notIn_tupleAt (eqU x) pl (fun w hw=>FT rx fx r fs w (by simpa using hw)) ⟨.bl _,H,I,rfl,?_⟩;rw[show Ye.toArray.any (eqU x)=Ye.any (eqU x) by simp,HM r fs];exact q
theorem call_list_of:CallR X (.type "list") (fun xs H Q=>∃p ys,xs=[.ref p]/\(Yt X.K H p ys\/Yq X.K H p ys)/\∀l,H l=none->Q (.ref l) (upd H l (.lst ys))):=by
 intro Ya s σ H xs us Q I r h;obtain⟨p,ys,rfl,hq,q⟩:=h;obtain⟨u,rfl,rx⟩:=Bd r;cases rx
 have fin:∀(Ye:List Value),Yi ys Ye->ys.length<=sizeLine->∀(h':Heap) (c':Nat),(∀b o',s.heap.get? b=some o'->h'.get? b=some o') ->
  h'.get? s.heap.objs.size=some { cls:=.type "list",dict:=none,data:=.seq Ye.toArray c',slots:=#[] } -> EP X Ya σ Q (.ref s.heap.objs.size) { s with heap:=h' }:=fun Ye r' hz h' c' kp e =>
  ⟨.ref s.heap.objs.size,_,I.laid (t':=s.toks) kp (ZD _) (show ObjOk X.prog X.w _ h' _ (.lst ys) from⟨hz,Ye,c',r',e⟩),rfl,q _ (I.hok.fresh (ZD _))⟩
 rcases hq with hq | hq
 ·obtain⟨Ye,r',pl,hz⟩:=I.list hq;have Yl:=r'.length;obtain⟨o,ho,hc,n,hd⟩:=pl.isList;exact call_list_seq p (.inl rfl) ho hc hd (fun h' c' kp e=>fin Ye r' hz h' c' kp e) (by simp only[ZJ] <;> lia)
 ·obtain⟨Ye,r',pl,hz⟩:=I.tuple hq;have Yl:=r'.length;obtain⟨o,ho,hc,n,hd⟩:=pl;exact call_list_seq p (.inr rfl) ho hc hd (fun h' c' kp e=>fin Ye r' hz h' c' kp e) (by simp only[ZJ] <;> lia)
theorem call_tuple_of:CallR X (.type "tuple") (fun xs H Q=>∃p ys,xs=[.ref p]/\((Yt X.K H p ys/\∀l,H l=none->Q (.ref l) (upd H l (.tup ys)))\/(Yq X.K H p ys/\Q (.ref p) H))):=by
 intro Ya s σ H xs us Q I r h;obtain⟨p,ys,rfl,h⟩:=h;obtain⟨u,rfl,rx⟩:=Bd r;cases rx
 rcases h with ⟨hq,q⟩ | ⟨hq,q⟩
 ·obtain⟨Ye,r',pl,hz⟩:=I.list hq;have Yl:=r'.length;refine call_tuple_list pl.isList (fun h' kp=>?_) (by simp only[ZJ] <;> lia);have I1:Yf X Ya σ H { s with heap:=h' }:=I.kept (t':=s.toks) kp
  have I2:Yf X Ya σ (upd H h'.objs.size (.tup ys)) { s with heap:=h'.push { cls:=.type "tuple",data:=.seq Ye.toArray } } :=
   I1.laid (t':=s.toks) (fun b o e=>ZH _ e) (ZD _) (show ObjOk X.prog X.w _ _ _ (.tup ys) from⟨hz,Ye,r',IsTupN.new _ _⟩)
  exact⟨.ref h'.objs.size,_,I2,rfl,q _ (I1.hok.fresh (ZD _))⟩
 ·obtain⟨Ye,r',pl,hz⟩:=I.tuple hq;exact call_tuple_same pl ⟨.ref p,H,I,rfl,q⟩
noncomputable def tyV(K:W.Frag)(T:String)(x:V)(H:Hp):Prop:=match x with
 | .str _=>T = "str"
 | .int _=>T = "int"
 | .ref p=>(T = "list" /\ ∃xs,Yt K H p xs)\/(T = "tuple" /\ ∃o,K.lookup p=some o/\o.cls=.type "tuple" /\ o.dict=none) \/
  (T = "dict" /\ ((∃Yg,H p=some (.dK Yg))\/∃Yg,H p=some (.dT Yg)))\/(T = "set" /\ ∃S n,H p=some (.set S n))
 | _=>False
theorem Js{Ya:List (Addr × Obj)}{σ:St}{H:Hp}{T:String}{v:Value}(I:Yf X Ya σ H s)(r:Yj x v)(ty:tyV X.K T x H) :
 s.TypeIs v T/\∀a,v=.ref a->∃ob,s.heap.get? a=some ob/\ob.dict=none:=by
 cases x with
 | str z =>
  obtain⟨t,rfl⟩:=r;cases (show T = "str" from ty);exact⟨typeIs_str s z t,fun _ e=>nomatch e⟩
 | int i =>
  obtain⟨t,rfl⟩:=r;cases (show T = "int" from ty);exact⟨typeIs_int s i t,fun _ e=>nomatch e⟩
 | ref p =>
  cases r
  rcases ty with ⟨rfl,xs,hq⟩ | ⟨rfl,o,hk,hc,hd⟩ | ⟨rfl,hk⟩ | ⟨rfl,S,n,hk⟩
  ·obtain⟨Ye,_,pl,_⟩:=I.list hq;refine⟨pl.isList.typeIs,fun a e=>?_⟩;cases e;obtain⟨o,n,e,c,hd,_⟩:=pl;exact⟨o,e,hd⟩
  ·refine⟨⟨o,I.kIn p o hk,hc⟩,fun a e=>?_⟩;cases e;exact⟨o,I.kIn _ o hk,hd⟩
  ·have z:∃o,s.heap.get? p=some o/\o.ExactDict:=by
    rcases hk with ⟨Yg,hk⟩ | ⟨Yg,hk⟩
    ·obtain⟨_,_,_,_,o,_,_,e,ex,_⟩:=I.hok p _ hk;exact⟨o,e,ex⟩
    ·obtain⟨_,_,_,_,o,_,_,e,ex,_⟩:=I.hok p _ hk;exact⟨o,e,ex⟩
   obtain⟨o,e,ex⟩:=z;refine⟨⟨o,e,ex.1⟩,fun a e2=>?_⟩;cases e2;exact⟨o,e,ex.2.1⟩
  ·obtain⟨o,_,_,_,e,ex,_⟩:=I.hok p _ hk;refine⟨⟨o,e,ex.1⟩,fun a e2=>?_⟩;cases e2;exact⟨o,e,ex.2.1⟩
 | _=>exact False.elim ty
noncomputable def KS(K:W.Frag)(T:String)(r:V->List V->Hp->VK->Prop)(to:TE):TE:=fun σ H Q=>to σ H fun x H1=>tyV K T x H1/\r x [] H1 Q
noncomputable def tBM(K:W.Frag)(T:String)(r:V->List V->Hp->VK->Prop)(to:TE)(t:TA):TE:=fun σ H Q=>to σ H fun x H1=>tyV K T x H1/\t σ H1 fun xs H2=>r x xs H2 Q
variable {o e:Expr}{es:List Expr}{to:TE}{t:TA}{name:Str}{apos cpos:Pos}{T id:String}{r:V->List V->Hp->VK->Prop}
theorem RQ (pa:PlainAttrs T) (slot:Slot T name id) (hty:typeOf (.builtin id)=pure (.type "method_descriptor")) (hm:MtR X id r) (ho:PE X o to)
 (hbase:attributeBase o name X.env (eval o X.env)=eval o X.env:=by rfl) (hline:(apos.endLine == cpos.line)=true:=by rfl):PE X (.Call (.Attribute o name apos) [] [] cpos) (KS X.K T r to):=by
 intro Ya s σ H Q I h;refine wpAny_Call_method0_late hbase hline (Yn (ho Ya s σ H _ I h) fun v s1 ⟨x,H1,I1,r1,ty,q1⟩=>?_);obtain⟨h1,h2⟩:=Js I1 r1 ty;exact⟨T,id,pa,slot,hty,h1,h2,Calls.callWith_builtin rfl (PySem.evalArgs_none (hm Ya s1 σ H1 x [] v [] Q I1 r1 .nil q1))⟩
theorem GI (pa:PlainAttrs T) (slot:Slot T name id) (hty:typeOf (.builtin id)=pure (.type "method_descriptor")) (hm:MtR X id r) (ho:PE X o to) (ha:PA X (e::es) t)
 (hbase:attributeBase o name X.env (eval o X.env)=eval o X.env:=by rfl)
 (hfew:((backTo cpos (starEach (e::es) X.env)).all (fun x=>!x.1) && (backToKw cpos (keywordEach [] X.env)).all (fun x=>x.1.isSome)
   && decide ((e::es).length+([]:List Keyword).length+(if ([]:List Keyword).isEmpty then 0 else 1) < 30))=true:=by rfl)
 (hline:(apos.endLine == cpos.line)=true:=by rfl) (hs:starEach (e::es) X.env=(false,eval e X.env)::starEach es X.env:=by rfl) (hplain:(backTo cpos (starEach es X.env)).any (·.1)=false:=by rfl) :
 PE X (.Call (.Attribute o name apos) (e::es) [] cpos) (tBM X.K T r to t):=by
 intro Ya s σ H Q I h;refine wpAny_Call_method_late hbase hfew hline rfl (Yn (ho Ya s σ H _ I h) fun v s1 ⟨x,H1,I1,r1,ty,q1⟩=>?_);obtain⟨h1,h2⟩:=Js I1 r1 ty;refine⟨T,id,pa,slot,hty,h1,h2,?_⟩;have hA:=ha cpos Ya s1 σ H1 _ I1 q1;rw[hs]at hA ⊢;refine Calls.callWith_builtin (by show(false || (backTo cpos (starEach es X.env)).any (·.1))=false;rw[hplain] <;> rfl) (Calls.evalArgs_plain ?_);exact Yn hA fun us s2 ⟨vs,H2,I2,r2,q2⟩=>hm Ya s2 σ H2 x vs v us Q I2 r1 r2 q2
end
noncomputable def MtM(X:Cx)(id:String)(r:V->List V->Hp->VK->Prop):Prop :=
 ∀(Ya:List (Addr × Obj)) (s:Shared) (σ:St) (H:Hp) (x:V) (xs:List V) (v:Value) (us:List Value) (Q:VK),Yf X Ya σ H s->Yj x v->Yi xs us->r x xs H Q ->
  wpAny (model X.prog X.w) X.A (call (.builtin id) (v::us)) (EP X Ya σ Q) X.xe s
theorem Yi.one:∀{x:V} {us:List Value},Yi [x] us->∃u,us=[u]/\Yj x u
 | _,_,.cons r .nil=>⟨_,rfl,r⟩
theorem Yi.rep{xs:List V}{us:List Value}(h:Yi xs us):∀k:Nat,Yi (List.replicate k xs).flatten (List.replicate k us).flatten
 | 0=>.nil
 | k+1=>by
  rw[ZBr,ZBr,List.flatten_cons,List.flatten_cons];exact Yi.append h (Yi.rep h k)
theorem Lc(Ye:List Value):∀(k:Nat) (Yp:List Value),
 List.foldl (fun x1 x2=>x1++x2) Yp.toArray (List.replicate k Ye.toArray)=(Yp++(List.replicate k Ye).flatten).toArray
 | 0,Yp=>by simp
 | k+1,Yp=>by
  have e:Yp.toArray++Ye.toArray=(Yp++Ye).toArray:=by simp
  have e2:(Yp++Ye)++(List.replicate k Ye).flatten=Yp++(List.replicate (k+1) Ye).flatten:=by
   rw[ZBr,List.flatten_cons,List.append_assoc]
  rw[<- e2,<- Lc Ye k (Yp++Ye),<- e,ZBr,List.foldl_cons]
section
variable {X:Cx}{Ya:List (Addr × Obj)}{σ:St}{H:Hp}{s:Shared}{l b:Addr}{xs ys zs:List V}
theorem Yf.lset {Ye its':List Value} {n:Nat} {f:Array Value->Array Value} {t':Nat} (I:Yf X Ya σ H s) (hH:H l=some (.lst xs))
 (e:s.heap.get? l=some { cls:=.type "list",data:=.seq Ye.toArray n }) (hf:f Ye.toArray=its'.toArray) (hv:Yi ys its') (hz:ys.length<=sizeLine) :
 Yf X Ya σ (upd H l (.lst ys)) { s with heap:=s.heap.update l (Obj.mapSeq f),toks:=t' }:=by
 have q:=PySem.IsL.update e f;rw[hf]at q;refine I.write (x:=l) (e:=l) (by rw[hH];exact trivial) (.inl rfl) (fun b' u hb hu=>(Z0 s.heap (Obj.mapSeq f) (Ne.symm hb)).trans hu) ⟨_,q⟩ ?_;exact⟨hz,its',_,hv,q⟩
theorem Yf.lnew{Ye:List Value}{t':Nat}(I:Yf X Ya σ H s)(hv:Yi ys Ye)(hz:ys.length<=sizeLine) :
 Yf X Ya σ (upd H s.heap.objs.size (.lst ys)) { s with heap:=s.heap.push { cls:=.type "list",data:=.seq Ye.toArray },toks:=t' } :=
 I.laid (fun _ _ q=>ZH _ q) (ZD _) ⟨hz,Ye,0,hv,ZM _ rfl⟩
theorem Yf.fresh(I:Yf X Ya σ H s):H s.heap.objs.size=none:=I.hok.fresh (ZD _)
theorem Yf.lstM(I:Yf X Ya σ H s)(hH:H l=some (.lst xs)):xs.length<=sizeLine/\∃(Ye:List Value) (n:Nat),Yi xs Ye/\xs.length=Ye.length/\s.heap.get? l=some { cls:=.type "list",data:=.seq Ye.toArray n }:=by
 obtain⟨z,Ye,n,r,e⟩:=I.hok l _ hH;exact⟨z,Ye,n,r,r.length,e⟩
theorem TH{n:Nat}(h:n<=sizeLine):Builtin.List.listTooLong n=false:=by
 unfold Builtin.List.listTooLong;exact Zx (by lia)
end
section
variable {X:Cx}
noncomputable def O7:V->List V->Hp->VK->Prop:=fun x vs H Q=>∃l xs y,x=.ref l/\vs=[y]/\H l=some (.lst xs)/\xs.length < sizeLine/\Q .non (upd H l (.lst (xs++[y])))
theorem Va:MtM X "list.append" O7:=by
 intro Ya s σ H x vs v us Q I rx rv h;obtain⟨l,xs,y,rfl,rfl,hH,hz,q⟩:=h;cases rx;obtain⟨u,rfl,ru⟩:=rv.one;obtain⟨z,Ye,n,r,hl,e⟩:=I.lstM hH;refine call_meets F.slot_list_append ⟨_,e,rfl⟩ F.entry_list_append (F.args_list_append_2 _ _) (PySem.list_append l Ye.toArray n u (by rw[ZJ];lia)) ⟨e,?_⟩;refine⟨.non,_,I.lset (its':=Ye++[u]) hH e (by simp) (r.append (.cons ru .nil)) ?_,rfl,q⟩;rw[ZL,List.length_singleton];lia
noncomputable def Iw:R2:=fun x y H Q=>∃l b xs zs,x=.ref l/\y=.ref b/\H l=some (.lst xs)/\H b=some (.lst zs)/\xs.length+zs.length<=sizeLine/\∀p,H p=none->Q (.ref p) (upd H p (.lst (xs++zs)))
theorem KF:Ys X (binaryOp .Add) Iw:=by
 intro Ya s σ H x y v u Q I rx ry h;obtain⟨l,b,xs,zs,rfl,rfl,hH,hB,hz,q⟩:=h;cases rx;cases ry;obtain⟨z,Ye,n,r,hl,e⟩:=I.lstM hH;obtain⟨z2,its2,n2,r2,hl2,e2⟩:=I.lstM hB;refine PySem.P.add_list e e2 ?_ (by rw[ZJ,ZJ];lia);have ea:Ye.toArray++its2.toArray=(Ye++its2).toArray:=by simp
 rw[ea];exact⟨.ref _,_,I.lnew (t':=s.toks) (r.append r2) (by rw[ZL];lia),rfl,q _ I.fresh⟩
noncomputable def Jk:R2:=fun x y H Q=>∃l k xs,x=.ref l/\y=.int k/\H l=some (.lst xs) /\ -(2 ^ 63)<=k/\k < 2 ^ 63/\xs.length * k.toNat<=sizeLine /\
 ∀p,H p=none->Q (.ref p) (upd H p (.lst (List.replicate k.toNat xs).flatten))
theorem VQ{α:Type}(xs:List α)(k:Nat):(List.replicate k xs).flatten.length=k * xs.length:=by
 induction k with
 | zero=>simp
 | succ k ih=>rw[ZBr,List.flatten_cons,ZL,ih,Nat.succ_mul,Nat.add_comm]
theorem QL:Ys X (binaryOp .Mult) Jk:=by
 intro Ya s σ H x y v u Q I rx ry h;obtain⟨l,k,xs,rfl,rfl,hH,h1,h2,hz,q⟩:=h;cases rx;obtain⟨t,rfl⟩:=ry;obtain⟨z,Ye,n,r,hl,e⟩:=I.lstM hH;have Yl:Ye.toArray.size * k.toNat<=sizeLine:=by rw[ZJ,<- hl];exact hz
 have hcap:¬Ye.toArray.size * k.toNat > (2 ^ 63 - 1) / 8:=by
  have:(sizeLine:Nat)<=(2 ^ 63 - 1) / 8:=by decide
  lia
 have hfit:¬(!Builtin.List.listFitsIndex k)=true:=by
  rw[fitsIndex_both h1 h2];exact Zo
 have hlong:¬Builtin.List.listTooLong (Ye.toArray.size * k.toNat)=true:=by
  rw[TH Yl];exact Zo
 have hnew:List.foldl (fun x1 x2=>x1++x2) #[] (List.replicate (if Ye.toArray.isEmpty=true then 0 else k.toNat) Ye.toArray)=(List.replicate k.toNat Ye).flatten.toArray:=by
  have f0:∀m:Nat,List.foldl (fun x1 x2=>x1++x2) #[] (List.replicate m Ye.toArray)=(List.replicate m Ye).flatten.toArray:=fun m=>by
   have:=Lc Ye m []
   rw[List.nil_append]at this;exact this
  rw[f0];cases Ye with
  | nil=>simp
  | cons a r'=>rw[if_neg (by simp)]
 refine wpAny_binaryOp_repeat_ref (T:="list") (U:="int") (by decide) ⟨_,e,rfl⟩ (fun s'=>typeIs_int s' k t) noFill_list_mul F.fills_int_mul F.slot_int_rmul repeat_list F.slot_int_index.lookup
  (call_meets F.slot_int_rmul (typeIs_int s k t) F.entry_int_rmul (F.args_int_rmul_2 _ _) (int___rmul___int_list k t l Ye.toArray n)
    ⟨e,rfl,⟨_,e,rfl⟩,call_meets F.slot_list_mul ⟨_,e,rfl⟩ F.entry_list_mul (F.args_list_mul_2 _ _) (AutoListH.list___mul___list_int_3 l Ye.toArray n k t hfit hcap hlong) ⟨e,?_⟩⟩)
 rw[hnew];exact⟨.ref _,_,I.lnew (t':=s.toks) (r.rep k.toNat) (by rw[VQ,Nat.mul_comm];exact hz),rfl,q _ I.fresh⟩
end
end L2
namespace Att
open PySem PySem.W PySem.Calls PyProof.Rows
theorem UH{P:Params}{h:Heap}:∀(ns:List Int) (vs:List Value),WellAll P h vs (ns.map WData.int)->IntsAre vs ns:=by
 intro ns
 induction ns with
 | nil =>
  intro vs w;rw[List.map_nil]at w;cases w;exact .nil
 | cons n ns ih =>
  intro vs w;rw[Zi]at w;cases w with
  | cons a b =>
   cases a;exact .cons _ _ (ih _ b)
theorem UU {l:OpenLaw} {n:Nat} (hn:l.most=some n) {P:Params} {h:Heap} {args:List WData} {vals:List Value}
 (hpre:l.row.toRowW.claim.pre args=true) (hwl:WellAll P h vals args) :
 ∃a vs ns,vals=[Value.ref a]/\args=[WData.list (ns.map WData.int)]/\h.get? a=some { cls:=.type "list",data:=.seq vs.toArray } /\ IntsAre vs ns/\ns.length<=n:=by
 have hsh:WShape.hasAll [] args [.list .int]=true:=(pre_splitW hpre).1;have hc:l.pre.holds [] { args:=args } = true:=(pre_splitW hpre).2;obtain⟨d,r,rfl,h1,h2⟩:=hasAllW_cons hsh;obtain rfl:=hasAllW_nil h2;obtain⟨xs,rfl,h3⟩:=hasW_list h1;obtain⟨ns,rfl⟩:=items_int h3
 have Yl:ns.length<=n:=by
  unfold OpenLaw.pre at hc
  have h4:(WTm.not (.lt (.lit (.int (n:Int))) (.len (.arg 0)))).holds [] { args:=[.list (ns.map .int)] } = true:=by
   have h4:=(holds_andW hc).1;rw[hn]at h4;exact h4
  have h5:=condW_of h4 (w_not (w_lt w_lit (w_len_list (w_arg rfl))));rw[ZC]at h5;refine Nat.le_of_not_lt fun q=>?_
  have q':(n:Int) < ((ns.length:Nat):Int):=by lia
  first
   | (rw[ZT q']at h5;exact absurd h5 (by decide))
   | (simp at h5;lia)
 cases hwl with
 | cons w1 w2 =>
  cases w2;cases w1 with
  | list ho hall=>exact⟨_,_,ns,rfl,rfl,ho,UH ns _ hall,Yl⟩
theorem OP(l:OpenLaw)(args:List WData):l.row.toRowW.claim.post args (.bool true) args=true :=
 postW_of (r:=l.row.toRowW) (X:=(true == true))
  (show WShape.has [] (.bool true) .bool=true by first | rfl | decide | simp[WShape.has,WShape.arms,WShape.armsAll])
  (show(WTm.eq .res (.lit (.bool true))).value [] { args:=args,res:=some (.bool true),after:=args } = some (.bool (true == true)) from w_eq_bool (w_res rfl) w_lit) rfl
theorem attach_call {l:OpenLaw} {n:Nat} {q:Program} {loose:List Str} {XP:(Str->Option Value)->Heap->Prop} {YP:World->Heap->Prop} {d:DefRec}
 (hn:l.most=some n) (hdf:d.params.defaults=[])
 (call:∀(w:World) (s₀ s₁:Shared) (mg mb:Str->Option Value) (fa:Addr) (o:Obj) (pm cd doc:Value) (a:Addr) (vs:List Value) (ns:List Int),
   Ground q loose [] XP w s₀ mg mb s₁.heap->YP w s₁.heap ->
   s₁.heap.get? fa=some o->o.data=.func (docDef d.name d.params d.body d.scope pm cd doc)->s₁.heap.CodeRec cd d.name->mg d.name=some (.ref fa) ->
   s₁.heap.get? a=some { cls:=.type "list",data:=.seq vs.toArray } -> IntsAre vs ns->ns.length<=n->s₁.gens = #[] ->
   codeAny (model l.prog w) callerA (.call (.ref fa) ⟨[.ref a],[]⟩) (fun r s'=>r=.ok (.ret (.bool true))/\OldK s₁.heap s'.heap/\s'.os=s₁.os/\AllBare s'.gens) s₁) :
 WalkO q loose XP YP l.row.toRowW d [] (fun f vs=>PySem.call f vs):=by
 intro w s₀ s₁ mg mb G Y fa o pm cd doc dV kV ho hd hcd hD hmg hg args vals as hpre hlay hrd hwl hlo;obtain rfl:dV=.none:=Dflts.none hD hdf;obtain rfl:kV=.none:=Dflts.noKw hD;obtain⟨a,vs,ns,rfl,rfl,hobj,hints,Yl⟩:=UU hn hpre hwl;refine enter_call (Z4 (call w s₀ s₁ mg mb fa o pm cd doc a vs ns G Y ho (fd_plain hd) hcd hmg hobj hints Yl hg) fun r s' hq=>?_);obtain⟨rfl,h2,h3,h4⟩:=hq;exact⟨.inl ⟨.bool true,.bool true,[],rfl,fun _=>rfl,.bool true,OP l _,fun _=>⟨List.Pairwise.nil,fun _ hm=>(nomatch hm)⟩⟩,h2,h3,h4⟩
section
variable {prog:Program}{w:World}{A:Around}{E:Value->Shared->Prop}{s:Shared}{K:Frag}
noncomputable def FP(h:Heap):Heap:={ h with objs:=#[] }
theorem J9(h:Heap)(b:Addr):(FP h).get? b=none:=by
 cases e:(FP h).get? b with
 | none=>rfl
 | some o=>exact absurd (ZG e) (ZBh _)
theorem UL{h:Heap}{L:Addr}{m:Str->Option Value}(n:h.Ns L m):Fr (FP h) L h m :=
 ⟨n,fun b o e=>(by rw[J9]at e;cases e),ZP _⟩
end
end Att
namespace L2
open PySem PySem.Spec PyProof.Rows
variable {X:Cx}{x:Str}{i n own:Nat}{H H':Hp}{a b l:Addr}{pos:Pos}{K:W.Frag}{v y:V}{r:R2}{ds:List Dv}{xs:List V}{A:Around}{Q:VK}{σc:St}{o:HO}{ta te:TE}{es:List Expr}{u:Value}{P:Program}{w:World}{Yg:List (List Key × V)}
theorem MC:∀{vs:List Value} {ns:List Int},IntsAre vs ns->Yi (ns.map V.int) vs
 | _,_,.nil=>.nil
 | _,_,.cons n t h=>.cons ⟨t,rfl⟩ (MC h)
noncomputable def BH(s:Stmt)(j:Nat):Stmt:=match s with
 | .ClassDef _ _ _ body _ _ _ _ _ _ _=>body.getD j (.Pass ⟨0,0,0,0⟩)
 | _=>.Pass ⟨0,0,0,0⟩
noncomputable def BZ(s:Stmt):Arguments:=match s with
 | .FunctionDef _ a _ _ _ _ _ _ _ _=>a
 | _=>{ posonlyargs:=[],args:=[],vararg:=none,kwonlyargs:=[],kw_defaults:=[],kwarg:=none,defaults:=[] }
noncomputable def BE(s:Stmt):List Stmt:=match s with
 | .FunctionDef _ _ b _ _ _ _ _ _ _=>b
 | _=>[]
noncomputable def AL(s:Stmt):Scope:=match s with
 | .FunctionDef _ _ _ _ _ _ sc _ _ _=>sc
 | _=>{ kind:=.function,names:=[],isGenerator:=false,isCoroutine:=false }
noncomputable abbrev CX0:CXT:=fun _ _ _ _ _ _=>False
noncomputable abbrev E0:XK:=fun _ _ _=>False
theorem AG:Cu CX0 X E0:=fun _ _ _ _ _ _ _ h=>h.elim
structure Fun(K:W.Frag)(x qual:Str)(st:Stmt)(f:Addr)(fd:FuncData):Prop where
 ex:∃(oc:Value) (od:Option Addr) (kV doc pm:Value) (an:Option Addr) (Yu ct:Value) (osl:Array (Option Value)),
  fd=PySem.W.fnOf x qual (BZ st) (BE st) (AL st) .none kV doc pm an Yu ct/\K.lookup f=some ⟨oc,od,.func fd,osl⟩/\PySem.W.codeIn K Yu qual=true
 kp:PySem.W.keepIn K (.ref f)=true
section
variable {P:Program}{w:World}{K:W.Frag}{mg:Str->Option Value}{base:Heap}
theorem Fun.ok {qual:Str} {st:Stmt} {f:Addr} {fd:FuncData} {N ps:List Str} {k:Nat} {sp:Sp} (F:Fun K x qual st f fd) (S:FnScope N ps (AL st)) (len:∀vs H Q E,sp vs H Q E->vs.length=ps.length)
 (hbody:∀(Yu:Value) (A:Around) (outer:List Env) (s:Shared) (H:Hp) (vs:List V) (Q:VK) (E:XK),Room k (A.deeper (envOfC qual (AL st) s.heap.objs.size f Yu))->sp vs H Q E ->
   ∃t,PSs (Bx CX0 P w K mg base N qual (AL st) f Yu A outer s H E).nox (BE st) t/\t { nx:=fun _ H'=>Q .non H',rt:=Q } (CG N vs) H):FnOk P w K mg base CX0 (k+1) f fd ps sp:=by
 obtain⟨oc,od,kV,doc,pm,an,Yu,ct,osl,rfl,lk,hcd⟩:=F.ex;refine IT lk hcd S len fun A outer s H vs Q E hr hsp=>?_
 obtain⟨t,h,q⟩:=hbody Yu A outer s H vs Q E hr hsp;exact⟨t,h.nox,q⟩
theorem Fun.binds {qual:Str} {st:Stmt} {f:Addr} {fd:FuncData} {ps:List Str} (F:Fun K x qual st f fd)
 (h:∀(kV doc pm:Value) (an:Option Addr) (Yu ct:Value) (us:List Value),us.length=ps.length->bindArgs (PySem.W.fnOf x qual (BZ st) (BE st) (AL st) .none kV doc pm an Yu ct) ⟨us,[]⟩=pure (ps.zip us)):Binds K fd ps []:=by
 obtain⟨oc,od,kV,doc,pm,an,Yu,ct,osl,rfl,lk,hcd⟩:=F.ex;exact .all (h kV doc pm an Yu ct)
theorem Ch {qual:Str} {st:Stmt} {f:Addr} {oc:Value} {od an:Option Addr} {osl:Array (Option Value)} {kV doc pm Yu ct:Value} (l:K.lookup f=some ⟨oc,od,.func (PySem.W.fnOf x qual (BZ st) (BE st) (AL st) .none kV doc pm an Yu ct),osl⟩)
 (c:PySem.W.codeIn K Yu qual=true) (k:PySem.W.keepIn K (.ref f)=true):Fun K x qual st f (PySem.W.fnOf x qual (BZ st) (BE st) (AL st) .none kV doc pm an Yu ct):=⟨⟨oc,od,kV,doc,pm,an,Yu,ct,osl,rfl,l,c⟩,k⟩
end
theorem Ad(h:n<=1000):n < sizeLine:=Nat.lt_of_le_of_lt h (by decide)
theorem Ao{c A B:Prop}[Decidable c](h1:c->A)(h2:¬c->B):if c then A else B:=by
 by_cases h:c
 ·rw[if_pos h];exact h1 h
 ·rw[if_neg h];exact h2 h
noncomputable def Yc(H H':Hp):Prop:=∀b o,H b=some o->H' b=some o
theorem Yc.refl(H:Hp):Yc H H:=fun _ _ h=>h
theorem Yc.trans{H1 H2:Hp}(a:Yc H H1)(b:Yc H1 H2):Yc H H2:=fun c o h=>b c o (a c o h)
theorem Yc.free(e:Yc H H')(h:H' l=Option.none):H l=Option.none:=by
 cases q:H l with
 | none=>rfl
 | some o =>
  rw[e l o q]at h;cases h
theorem Dn:∀(names:List (Str × NameKind)) (n:Nat) (Yp:List (Str × Addr)),cellsFrom n names Yp=cellsFrom n names []++Yp
 | [],_,_=>rfl
 | (name,kind)::r,n,Yp=>by
  unfold cellsFrom;split
  ·rw[Dn r (n+1) ((name,n)::Yp),Dn r (n+1) [(name,n)],List.append_assoc];rfl
  ·exact Dn r n Yp
theorem cellsFrom_kind:∀(names:List (Str × NameKind)) (n:Nat) (Yp:List (Str × Addr)) (x:Str) (c:Addr),(x,c)∈cellsFrom n names Yp->(x,c)∈Yp\/(x,NameKind.cell)∈names
 | [],_,_,_,_,h=>.inl h
 | (name,kind)::r,n,Yp,x,c,h=>by
  unfold cellsFrom at h;split at h
  ·rename_i hk
   rcases cellsFrom_kind r _ _ x c h with h | h
   ·rcases ZI.mp h with e | h
    ·cases e
     have:kind=.cell:=by simpa using hk
     subst this;exact .inr Zg
    ·exact .inl h
   ·exact .inr (ZW _ h)
  ·rcases cellsFrom_kind r _ _ x c h with h | h
   ·exact .inl h
   ·exact .inr (ZW _ h)
theorem FJ{α:Type}:∀(l r:List (Str × α)),(l++r).lookup x=(match l.lookup x with | some c=>some c | none=>r.lookup x)
 | [],r=>rfl
 | (k,v)::l,r=>by
  show List.lookup x ((k,v)::(l++r))=_;rw[Zv,Zv];cases x == k with
  | true=>rfl
  | false=>exact FJ l r
theorem Jn{α:Type}:∀{l:List (Str × α)},(∀c,(x,c)∉l)->l.lookup x=none
 | [],_=>rfl
 | (k,v)::l,h=>by
  rw[Zv];cases hb:x == k with
  | true =>
   have:x=k:=by simpa using hb
   subst this;exact absurd Zg (h v)
  | false=>exact Jn fun c hc=>h c (ZW _ hc)
noncomputable def BK(cells:List (Str × Addr)):List (Str × NameKind)->List (Str × Addr)->List (Str × Addr)
 | [],Yp=>Yp
 | (n,k)::r,Yp=>if k == .free then BK cells r ((n,(cells.lookup n).getD 0)::Yp) else BK cells r Yp
theorem K9{scope:Scope}{env:Env}(h:∀y∈scope.names,y.2=.free->∃c,env.cells.lookup y.1=some c):closureFor scope env=pure (BK env.cells scope.names []):=by
 have all:∀(names:List (Str × NameKind)) (Yp:List (Str × Addr)),(∀y∈names,y.2=.free->∃c,env.cells.lookup y.1=some c) ->
  (forIn names Yp fun(x:Str × NameKind) cs=>(if (x.2 == NameKind.free)=true then (do let a <- cellOf env x.1;pure (ForInStep.yield ((x.1,a)::cs))) else pure (ForInStep.yield cs):Sem (ForInStep (List (Str × Addr)))))=(pure (BK env.cells names Yp):Sem _):=by
  intro names
  induction names with
  | nil=>intro Yp _;rfl
  | cons y r ih =>
   intro Yp hy;obtain⟨n,k⟩:=y;rw[List.forIn_cons];have hr:∀y∈r,y.2=.free->∃c,env.cells.lookup y.1=some c:=fun y hm=>hy y (ZW _ hm)
   unfold BK
   by_cases hk:(k == NameKind.free)=true
   ·obtain⟨c,e⟩:=hy (n,k) Zg (by simpa using hk);rw[if_pos hk,if_pos hk];have e2:cellOf env n=pure c:=by unfold cellOf;rw[show env.cells.lookup n=some c from e]
    rw[e2];rw[show env.cells.lookup n=some c from e];exact ih _ hr
   ·rw[if_neg hk,if_neg hk];exact ih _ hr
 have q:=all scope.names [] h;unfold closureFor;refine Eq.trans ?_ (congrArg (fun t=>t >>= pure) q |>.trans (by rfl))
 congr 1
theorem clOf_mem{cells:List (Str × Addr)}:∀(names:List (Str × NameKind)) (Yp:List (Str × Addr)) (x:Str) (c:Addr),(∀y∈names,y.2=.free->∃c,cells.lookup y.1=some c)->(x,c)∈BK cells names Yp->(x,c)∈Yp\/((x,NameKind.free)∈names/\cells.lookup x=some c)
 | [],_,_,_,_,h=>.inl h
 | (n,k)::r,Yp,x,c,hy,h=>by
  have hr:∀y∈r,y.2=.free->∃c,cells.lookup y.1=some c:=fun y hm=>hy y (ZW _ hm)
  unfold BK at h;split at h
  ·rename_i hk;have hk':k=.free:=by simpa using hk
   subst hk';obtain⟨d,e⟩:=hy (n,.free) Zg rfl
   rcases clOf_mem r _ x c hr h with h | ⟨h,h'⟩
   ·rcases ZI.mp h with e' | h
    ·obtain⟨e1,e2⟩:=Prod.mk.inj e';rw[show cells.lookup n=some d from e]at e2;subst e1;exact .inr ⟨Zg,by rw[e2];exact e⟩
    ·exact .inl h
   ·exact .inr ⟨ZW _ h,h'⟩
  ·rcases clOf_mem r _ x c hr h with h | ⟨h,h'⟩
   ·exact .inl h
   ·exact .inr ⟨ZW _ h,h'⟩
theorem Fs{cells:List (Str × Addr)}:∀(names:List (Str × NameKind)) (Yp:List (Str × Addr)),(∃c,(x,c)∈Yp)->∃c,(x,c)∈BK cells names Yp
 | [],_,h=>h
 | (n,k)::r,Yp,⟨c,h⟩=>by
  unfold BK;split
  ·exact Fs r _ ⟨c,ZW _ h⟩
  ·exact Fs r _ ⟨c,h⟩
theorem JU{cells:List (Str × Addr)}:∀(names:List (Str × NameKind)) (Yp:List (Str × Addr)),(x,NameKind.free)∈names->∃c,(x,c)∈BK cells names Yp
 | (n,k)::r,Yp,h=>by
  unfold BK
  rcases ZI.mp h with e | h
  ·cases e;rw[if_pos (by decide)];exact Fs r _ ⟨_,Zg⟩
  ·split
   ·exact JU r _ h
   ·exact JU r _ h
theorem MB{α:Type}:∀{l:List (Str × α)},(∃c,(x,c)∈l)->∃c,l.lookup x=some c
 | (k,v)::l,⟨c,h⟩=>by
  rw[Zv];cases hb:x == k with
  | true=>exact⟨v,rfl⟩
  | false =>
   rcases ZI.mp h with e | h
   ·cases e;simp at hb
   ·exact MB ⟨c,h⟩
noncomputable def Dw(scope sc:Scope):Scope :=
 { scope with names:=scope.names.map fun(n,k)=>if (k == .free && sc.kind == .function && sc.names.lookup n == some .cell) then (n,.cell) else (n,k) }
structure CompScope(scope sc:Scope):Prop where
 kind:scope.kind=.function
 nd:(scope.names.map (·.1)).Nodup
 fr:∀y∈scope.names,y.2=.free->sc.names.lookup y.1=some .cell\/sc.names.lookup y.1=some .free
theorem DF{α:Type}:∀{l:List (Str × α)} {x:Str} {c:α},(l.map (·.1)).Nodup->(x,c)∈l->l.lookup x=some c
 | (k,v)::l,x,c,nd,h=>by
  obtain⟨n1,n2⟩:=ZBf.mp (show(k::l.map (·.1)).Nodup from nd);rw[Zv]
  rcases ZI.mp h with e | h
  ·cases e;simp
  ·have Yr:¬x=k:=fun e=>n1 (by rw[<- e];exact ZU.mpr ⟨(x,c),h,rfl⟩)
   have:(x == k)=false:=by simpa using Yr
   rw[this];exact DF n2 h
theorem KP{scope sc:Scope}:(Dw scope sc).names.lookup x=(scope.names.lookup x).map fun k=>if (k == .free && sc.kind == .function && sc.names.lookup x == some .cell) then NameKind.cell else k:=by
 show(scope.names.map _).lookup x=_
 generalize scope.names=names
 induction names with
 | nil=>rfl
 | cons y r ih =>
  obtain⟨n,k⟩:=y;rw[Zi]
  by_cases hc:(k == .free && sc.kind == .function && sc.names.lookup n == some .cell)=true
  ·show List.lookup x ((if (k == .free && sc.kind == .function && sc.names.lookup n == some .cell)=true then (n,NameKind.cell) else (n,k))::_)=_;rw[if_pos hc,Zv,Zv];cases hb:x == n with
   | true =>
    have hx:x=n:=by simpa using hb
    subst hx;show some NameKind.cell=some (if _ then _ else _);rw[if_pos hc]
   | false=>exact ih
  ·show List.lookup x ((if (k == .free && sc.kind == .function && sc.names.lookup n == some .cell)=true then (n,NameKind.cell) else (n,k))::_)=_;rw[if_neg hc,Zv,Zv];cases hb:x == n with
   | true =>
    have hx:x=n:=by simpa using hb
    subst hx;show some k=some (if _ then _ else _);rw[if_neg hc]
   | false=>exact ih
structure CArgs where
 Ya:List (Addr × Obj)
 cells:List (Str × Addr)
 s:Shared
 H:Hp
 fp:List Addr
 C:Addr
noncomputable def Cx.comp(X:Cx)(scope:Scope)(N':List Str)(c:CArgs):Cx where
 prog:=X.prog
 w:=X.w
 K:=X.K
 mg:=X.mg
 base:=X.base
 A:=X.A
 N:=N'
 s₀:=c.s
 H₀:=c.H
 env:=compEnvC scope c.cells c.C X.env
 outer:=X.stack
 stack:=X.stack
 ex:=c.fp
 fn:=fun x=>scope.names.lookup x == some .cell
 calm:=X.calm
 pn:=X.pn++c.Ya
 xe:=fun _ _=>False
noncomputable def cSt(own:Nat)(ix:List Nat)(σ:St):St:=List.replicate own none++ix.map fun i=>(σ[i]?).join
section
variable {X:Cx}{Ya:List (Addr × Obj)}{σ:St}{H:Hp}{s s4:Shared}{fp:List Addr}{scope:Scope}{N':List Str}{own:Nat}{ix:List Nat}
theorem Tg (I:Yf X Ya σ H s) (f2:∀b∈fp,A7 X Ya H b) (hob:∀b∈fp,∃o,s.heap.get? b=some o) (S:CompScope scope X.env.scope)
 (Yl:N'.length=own+ix.length) (hN:(N'.drop own).map some=ix.map (X.N[·]?)) (hfr:∀x∈N'.drop own,scope.names.lookup x=some .free)
 {C:Addr} (hC:s.heap.objs.size < C) (k4:∀b o,s.heap.get? b=some o->s4.heap.get? b=some o) (os4:s4.os=s.os) (g4:s4.gens=s.gens)
 (n4:∃m,s4.heap.Ns C m) (own4:∀x c,(x,c)∈cellsFrom (C+1) scope.names []->s4.heap.IsCell c none/\C+1<=c)
 (apart:(cellsFrom (C+1) scope.names []).Pairwise fun x y=>x.2≠y.2) :
 Yf (X.comp scope N' ⟨Ya,cellsFrom (C+1) scope.names (BK X.env.cells scope.names []),s,H,fp,C⟩) [] (cSt own ix σ) H s4:=by
 have hfree:∀y∈scope.names,y.2=.free->∃c,X.env.cells.lookup y.1=some c:=fun y hy h=>I.ok.has y.1 (S.fr y hy h)
 -- a cell of the block
 have cases:∀x c,(cellsFrom (C+1) scope.names (BK X.env.cells scope.names [])).lookup x=some c ->
  ((x,c)∈cellsFrom (C+1) scope.names []/\scope.names.lookup x=some .cell)\/((x,NameKind.free)∈scope.names/\X.env.cells.lookup x=some c):=fun x c h=>by
  rw[Dn,FJ]at h;cases e:(cellsFrom (C+1) scope.names []).lookup x with
  | some d =>
   rw[e]at h;cases h;have m:=mem_of_lookup e
   rcases cellsFrom_kind _ _ _ _ _ m with z | z
   ·exact absurd z (by simp)
   ·exact .inl ⟨m,DF S.nd z⟩
  | none =>
   rw[e]at h
   rcases clOf_mem _ _ _ _ hfree (mem_of_lookup h) with z | z
   ·exact absurd z (by simp)
   ·exact .inr z
 have oldlt:∀x c,X.env.cells.lookup x=some c->c < s.heap.objs.size:=fun x c e=>let ⟨v,q⟩:=I.cell x c e;q.lt
 have kin:∀x,(Dw scope X.env.scope).names.lookup x=some .cell\/(Dw scope X.env.scope).names.lookup x=some .free->(scope.names.lookup x=some .cell\/scope.names.lookup x=some .free):=fun x h=>by
  rw[KP]at h;cases e:scope.names.lookup x with
  | none=>rw[e]at h;simp at h
  | some k =>
   rw[e]at h;cases k with
   | cell=>exact .inl rfl
   | free=>exact .inr rfl
   | _=>exact absurd h (by simp)
 have hCn:∀b o,s.heap.get? b=some o->b≠C:=fun b o e z=>by have:=ZG e;rw[z]at this;exact Zc _ (ZBF this hC)
 have lk:∀x,(x,NameKind.free)∈scope.names->∀c,X.env.cells.lookup x=some c->(cellsFrom (C+1) scope.names (BK X.env.cells scope.names [])).lookup x=some c:=fun x hx c hc=>by
  have hl:scope.names.lookup x=some .free:=DF S.nd hx;rw[Dn,FJ,Jn (l:=cellsFrom (C+1) scope.names []) fun d hd=>?_]
  ·obtain⟨d,hd⟩:=MB (JU (cells:=X.env.cells) scope.names [] hx)
   rcases clOf_mem _ _ _ _ hfree (mem_of_lookup hd) with z | ⟨_,z⟩
   ·exact absurd z (by simp)
   ·rw[hc]at z;cases z;exact hd
  ·rcases cellsFrom_kind _ _ _ _ _ hd with z | z
   ·exact absurd z (by simp)
   ·rw[DF S.nd z]at hl;cases hl
 refine⟨⟨I.ok.mod,S.kind,I.ok.glob,I.ok.blt,Zq hC,fun x y c hx hy=>?_,fun x hx=>?_,fun x c hf hx=>?_,I.ok.hd,I.ok.frames,.inl rfl,fun b hb=>⟨?_,fun x c hx=>?_⟩,fun b o e=>I.bs b o e,Za I.ok.bsz I.sz,fun b o e hb=>?_,fun b hb z=>?_,I.stack,I.stkFree⟩,
  os4,by rw[g4];exact I.bare,Un.kept k4,?_,fun x c hx=>?_,?_,fun x c hx=>?_,fun p hp=>?_,I.hok.kept k4,?_⟩
 ·-- inj
  rcases cases x c hx with ⟨m1,_⟩ | ⟨_,m1⟩ <;> rcases cases y c hy with ⟨m2,_⟩ | ⟨_,m2⟩
  ·exact name_of_addr apart m1 m2
  ·exact absurd (ZS (ZBF (oldlt y c m2) hC) (ZBi (own4 x c m1).2)) (Zc _)
  ·exact absurd (ZS (ZBF (oldlt x c m1) hC) (ZBi (own4 y c m2).2)) (Zc _)
  ·exact I.ok.inj x y c m1 m2
 ·-- has
  rcases kin x hx with h | h
  ·have q:=PySem.W.cellsFrom_some scope.names (C+1) (BK X.env.cells scope.names []) (.inl h);exact Option.isSome_iff_exists.mp q
  ·obtain⟨c,e⟩:=hfree (x,.free) (mem_of_lookup h) rfl;exact⟨c,lk x (mem_of_lookup h) c e⟩
 ·-- cab
  rcases cases x c hx with ⟨m1,_⟩ | ⟨m1,_⟩
  ·exact Zq (ZS hC (ZBi (own4 x c m1).2))
  ·have hl:=DF S.nd m1;have hf':(scope.names.lookup x == some NameKind.cell)=true:=hf;rw[hl]at hf';cases hf'
 ·obtain⟨o,e⟩:=hob b hb;exact hCn b o e
 ·intro z;obtain⟨o,e⟩:=hob b hb;have Ym:=ZG e
  rcases cases x c hx with ⟨m1,_⟩ | ⟨_,m1⟩
  ·subst z;exact absurd (ZS (ZBF Ym hC) (ZBi (own4 x c m1).2)) (Zc _)
  ·exact(f2 b hb).2.2.2.2.1 x c m1 z
 ·-- noex
  have e1:=(I.ok.bs b o e).1
  rcases(f2 b hb).2.2.2.1 with z | z
  ·exact I.ok.noex b o e z
  ·exact absurd (ZS (ZG e1) z) (Zc _)
 ·-- exfs
  rcases ZI.mp (I.stkSub b z) with e | z
  ·exact(f2 b hb).2.1 e
  ·exact(f2 b hb).2.2.1 z
 ·-- loc
  obtain⟨m,hm⟩:=n4;obtain⟨m0,hn0,hl0⟩:=I.loc;refine⟨m,hm,fun i x v h1 h2 h3=>?_⟩;have h1:N'[i]? = some x:=h1;unfold cSt at h2
  by_cases hi:i < own
  ·rw[ZBK (by simpa using hi),List.getElem?_replicate]at h2;split at h2 <;> cases h2
  ·rw[ZBD (by simpa using hi),ZBg,ZR]at h2;obtain⟨j,hj⟩:∃j,i=own+j:=⟨i - own,by lia⟩;subst hj;rw[Nat.add_sub_cancel_left]at h2;cases e:ix[j]? with
   | none=>rw[e]at h2;cases h2
   | some q =>
    rw[e]at h2;have h2:some (σ[q]?).join=some (some v):=h2;have h2:(σ[q]?).join=some v:=ZQ h2
    have hσ:σ[q]? = some (some v):=by
     cases eq:σ[q]? with
     | none=>rw[eq]at h2;cases h2
     | some z=>rw[eq]at h2;simp at h2;rw[h2]
    have hx:(N'.drop own)[j]? = some x:=by rw[List.getElem?_drop];exact h1
    have hNq:X.N[q]? = some x:=by
     have:=congrArg (·[j]?) hN
     simp only[ZR,hx,e,ZBc]at this;exact(ZQ this).symm
    have hfx:=hfr x (Zz hx);have hmem:=mem_of_lookup hfx;have kx:=S.fr (x,.free) hmem rfl;have vis:Vis X.env.scope x:=.inr kx;obtain⟨u,r,l⟩:=hl0 q x v hNq hσ vis;refine⟨u,r,?_⟩
    rcases l with ⟨k,_⟩ | ⟨k,c,hc,z⟩
    ·exfalso;have k':X.env.scope.names.lookup x=some .local:=k
     rcases kx with kx | kx
     ·rw[show X.env.scope.names.lookup x=some .cell from kx]at k';cases k'
     ·rw[show X.env.scope.names.lookup x=some .free from kx]at k';cases k'
    ·refine .inr ⟨?_,c,lk x hmem c hc,z.keeps k4⟩
     show(Dw scope X.env.scope).names.lookup x=some .cell\/(Dw scope X.env.scope).names.lookup x=some .free
     rw[KP,hfx]
     by_cases hc:(NameKind.free == .free && X.env.scope.kind == .function && X.env.scope.names.lookup x == some .cell)=true
     ·exact .inl (by rw[ZBc,if_pos hc])
     ·exact .inr (by rw[ZBc,if_neg hc])
 ·rcases cases x c hx with ⟨m1,_⟩ | ⟨_,m1⟩
  ·exact⟨_,(own4 x c m1).1⟩
  ·obtain⟨v,q⟩:=I.cell x c m1;exact⟨v,q.keeps k4⟩
 ·exact I.hok.fresh (Zq hC)
 ·rcases cases x c hx with ⟨m1,_⟩ | ⟨_,m1⟩
  ·exact I.hok.fresh (Zq (ZS hC (ZBi (own4 x c m1).2)))
  ·exact I.freeC x c m1
 ·have hp:p∈X.pn++Ya:=by
   have:p∈(X.pn++Ya)++[]:=hp
   rwa [Zy]at this
  obtain⟨e,n,ne,nf,d⟩:=I.pin p hp;refine⟨k4 _ _ e,n,hCn _ _ e,fun z=>?_,d⟩
  rcases ZI.mp (I.stkSub _ z) with q | q
  ·exact ne q
  ·exact nf q
 ·unfold cSt;rw[ZL,ZBg,ZC];exact Yl.symm
end
section
variable {prog:Program}{w:World}{A:Around}{R:Result->Shared->Prop}{s:Shared}
theorem OF {elt target iter:Expr} {ifs:List Expr} {scope:Scope} {it Yp:Value} {env:Env} (I:Nat->Shared->Prop)
 (turn:∀n s,I n s->wpAny (model prog w) A (pyNext it) (fun r s₁=>match r with
   | none=>R (.ok .next) s₁
   | some v=>wpAny (model prog w) A (letOwnedTupleGo target it v) (fun _ s₁'=>wpAny (model prog w) A (assign target env v) (fun _ s₂ =>
    wpAny (model prog w) A (forIn ifs true fun c r=>if r=true then do let ok <- isTrue c env (eval c env);pure (ForInStep.yield ok) else pure (ForInStep.yield r)) (fun ok s₃ =>
     if ok=true then wpAny (model prog w) A (eval elt env) (fun x s₄ =>
      wpAny (model prog w) A (call (.builtin "list.append") [Yp,x]) (fun _ s₅=>∃m,m < n/\I m s₅) (fun _ _=>False) s₄) (fun _ _=>False) s₃
     else ∃m,m < n/\I m s₃) (fun _ _=>False) s₂) (fun _ _=>False) s₁') (fun _ _=>False) s₁) (fun _ _=>False) s)
 (n:Nat) (h:I n s) :
 codeAny (model prog w) A (.compLoop (.ListComp elt [⟨target,iter,ifs,0⟩] scope pos) 0 it Yp env) R s:=by
 refine codeAny_loop rfl I (fun n s hI=>?_) n h;show wpAny _ A ((compTurn (.ListComp elt [⟨target,iter,ifs,0⟩] scope pos) 0 it Yp env).onRaise (fun x=>do noteFrame x env;theTreesLotGoes x)) _ _ s;refine wpAny_noted ?_;rw[compTurn_list];refine ZA (ZBI (ZA (ZO (turn n s hI) (fun r s₁ h₁=>?_) fun _ _ h'=>h'.elim)));cases r with
 | none=>exact ZB h₁
 | some v =>
  refine ZA (ZO h₁ (fun _ s₁' h₁'=>?_) fun _ _ h'=>h'.elim);refine ZA (ZO h₁' (fun _ s₂ h₂=>ZA (ZO h₂ (fun ok s₃ h₃=>?_) fun _ _ h'=>h'.elim)) fun _ _ h'=>h'.elim);cases ok with
  | false=>exact ZB ⟨rfl,h₃⟩
  | true =>
   exact ZA (ZA (ZO h₃ (fun x s₄ h₄=>ZA (ZO h₄ (fun _ s₅ h₅=>ZB (ZB ⟨rfl,h₅⟩)) fun _ _ h'=>h'.elim)) fun _ _ h'=>h'.elim))
end
noncomputable def PTs(X:Cx)(ifs:List Expr)(t:TT):Prop :=
 ∀(Ya:List (Addr × Obj)) (s:Shared) (σ:St) (H:Hp) (Q:Bool->Hp->Prop),Yf X Ya σ H s->t σ H Q ->
  wpAny (model X.prog X.w) X.A (forIn ifs true fun c r=>if r=true then do let ok <- isTrue c X.env (eval c X.env);pure (ForInStep.yield ok) else pure (ForInStep.yield r)) (TP X Ya σ Q) X.xe s
noncomputable def P3:TT:=fun _ H Q=>Q true H
theorem Ap:PTs X [] P3:=fun _ _ _ H _ I h=>wpAny_tests_nil ⟨H,I,h⟩
theorem Dt{c:Expr}{t:TT}(h:PT X c t):PTs X [c] t:=fun Ya s σ H Q I hq=>wpAny_tests_one (h Ya s σ H Q I hq)
noncomputable def Cv(own:Nat)(g:TG):Prop:=∀x σ H Q,g x σ H Q->g x σ H fun σ' H'=>(σ'.length=σ.length/\∀i,own<=i->σ'[i]? = σ[i]?)/\Q σ' H'
noncomputable def Ea(own:Nat)(g:TGs):Prop:=∀x σ H Q,g x σ H Q->g x σ H fun σ' H'=>(σ'.length=σ.length/\∀i,own<=i->σ'[i]? = σ[i]?)/\Q σ' H'
theorem Ah(h:i < own):Cv own (Af i):=fun x σ H Q q =>
 ⟨⟨by simp,fun j hj=>by rw[ZBw (by lia)]⟩,q⟩
theorem Fq:Ea own Go:=fun x σ H Q ⟨e,q⟩=>⟨e,⟨rfl,fun _ _=>rfl⟩,q⟩
noncomputable def DZ(g:TG):Prop:=∀x σ H (Q Q':St->Hp->Prop),(∀σ H,Q σ H->Q' σ H)->g x σ H Q->g x σ H Q'
noncomputable def FG(g:TGs):Prop:=∀x σ H (Q Q':St->Hp->Prop),(∀σ H,Q σ H->Q' σ H)->g x σ H Q->g x σ H Q'
theorem CM:DZ (Af i):=fun _ _ _ _ _ h q=>h _ _ q
theorem Cz:FG Go:=fun _ _ _ _ _ h ⟨e,q⟩=>⟨e,h _ _ q⟩
theorem Fg{t:TG}{u:TGs}(h1:DZ t)(h2:FG u):FG (IJ t u):=fun _ _ _ _ _ h ⟨v,r,e,q⟩=>⟨v,r,e,h1 _ _ _ _ _ (fun _ _ q=>h2 _ _ _ _ _ h q) q⟩
theorem Df{t:TG}{u:TGs}(m:DZ t)(mu:FG u)(h1:Cv own t)(h2:Ea own u):Ea own (IJ t u):=fun x σ H Q ⟨v,r,e,q⟩ =>
 ⟨v,r,e,m _ _ _ _ _ (fun σ' H' ⟨⟨e1,e2⟩,q⟩=>mu _ _ _ _ _ (fun σ'' H'' ⟨⟨e3,e4⟩,q⟩=>⟨⟨e3.trans e1,fun i hi=>(e4 i hi).trans (e2 i hi)⟩,q⟩) (h2 r σ' H' Q q)) (h1 v σ H _ q)⟩
theorem Hw{t:TGs}(h:Ea own t):Cv own (Ie K n t):=fun x σ H Q ⟨a,xs,e,s,l,q⟩=>⟨a,xs,e,s,l,h _ _ _ _ q⟩
theorem VN{ix:List Nat}{σ:St}(h:(cSt own ix σ)[i]? = some (some v)):own<=i:=by
 unfold cSt at h
 by_cases hi:i < own
 ·rw[ZBK (by simpa using hi),List.getElem?_replicate]at h;split at h <;> cases h
 ·lia
noncomputable def C4(J:It)(g:TG)(tc:TT)(te:TE)(σc:St)(Q:VK)(H1:Hp):Prop :=
 ∃W:Nat->Nat->List V->Hp->Prop,(∃m,W 0 m [] H1)/\∀i m ys H,W i m ys H ->
  (J.stop i H/\∀p,H p=none->Q (.ref p) (upd H p (.lst ys))) \/
  (J.go i H/\ys.length < sizeLine/\∃N:List V->Hp->Prop,(∀ys' H',N ys' H'->∃m',m' < m/\W (i+1) m' ys' H')/\∀x H',J.yld i H x H'->g x σc H' fun σ4 H4=>tc σ4 H4 fun b H5 =>
    if b=true then te σ4 H5 fun y H6=>N (ys++[y]) H6 else N ys H5)
noncomputable def Dr(wi:TI)(own:Nat)(ix:List Nat)(g:TG)(tc:TT)(te:TE):TE:=fun σ H Q=>wi σ H fun J H1=>C4 J g tc te (cSt own ix σ) Q H1
section
variable {X:Cx}{Ya:List (Addr × Obj)}{σ:St}{H:Hp}{s:Shared}{fp:List Addr}{it:Addr}{tn:Nat->Heap->Prop}{J:It}{tg iter elt:Expr}{ifs:List Expr}{scope:Scope}{pos:Pos}{N':List Str}{own:Nat}{ix:List Nat}{g:TG}{tc:TT}{te:TE}{Q:VK}{E:Value->Shared->Prop}
theorem Mt (I:Yf X Ya σ H s) (T:Turn X.prog X.w X.K tg J fp it tn) (st:tn 0 s.heap) (f2:∀b∈fp,A7 X Ya H b) (hc:X.calm=true) (S:CompScope scope X.env.scope)
 (Yl:N'.length=own+ix.length) (hN:(N'.drop own).map some=ix.map (X.N[·]?)) (hfr:∀x∈N'.drop own,scope.names.lookup x=some .free)
 (hg:∀c,PG (X.comp scope N' c) tg g) (hgo:Cv own g) (ht:∀c,PTs (X.comp scope N' c) ifs tc) (he:∀c,PE (X.comp scope N' c) elt te)
 (hq:C4 J g tc te (cSt own ix σ) Q H) {RR:Value->Addr->Result->Shared->Prop}
 (fin:∀(D C:Addr) (s':Shared) (H':Hp) (ys:List V) (Ye:List Value) (n:Nat),s'.os=s.os->AllBare s'.gens->Un (frs X.stack) fp H H' s.heap s'.heap->HOk X.prog X.w H' s'.heap->(∃m,s'.heap.Ns C m)->H' C=none->s.heap.objs.size<=C ->
   H' D=none->s.heap.objs.size<=D->D≠C->s'.heap.get? D=some { cls:=.type "list",data:=.seq Ye.toArray n } -> Yi ys Ye->ys.length<=sizeLine->(∀p,H' p=none->Q (.ref p) (upd H' p (.lst ys)))->RR (.ref D) C (.ok .next) s') :
 wpAny (model X.prog X.w) X.A (newList []) (fun Yp s₃=>wpAny (model X.prog X.w) X.A (newFunctionEnv scope X.env.globals (BK X.env.cells scope.names []) [] X.env.qual none .none (some X.env)) (fun cenv s₄ =>
  codeAny (model X.prog X.w) X.A (.compStart (.ListComp elt [⟨tg,iter,ifs,0⟩] scope pos) 0 (.ref it) Yp { cenv with scope:=relabel scope X.env }) (RR Yp cenv.locals) s₄) E s₃) E s:=by
 obtain⟨W,⟨m0,w0⟩,turn⟩:=hq;have hob:∀b∈fp,∃o,s.heap.get? b=some o:=fun b hb=>let ⟨o,e,_⟩:=T.obj 0 _ st b hb;⟨o,e⟩
 refine Zp ?_;generalize hH1:s.heap.push { cls:=.type "list",dict:=none,data:=.seq ([]:List Value).toArray } = h1;have hs1:h1.objs.size=s.heap.objs.size+1:=by rw[<- hH1,Zu]
 have k1:∀b o,s.heap.get? b=some o->h1.get? b=some o:=fun b o e=>by rw[<- hH1];exact ZH _ e
 have d1:h1.get? s.heap.objs.size=some { cls:=.type "list",data:=.seq ([]:List Value).toArray }:=by rw[<- hH1];exact ZM _ rfl
 simp only[newFunctionEnv,Option.isSome_some,if_true];refine ZA (wpAny_alloc ?_);generalize hH2:(({ s with heap:=h1 }:Shared).heap.push { cls:=.type "dict",data:=.dict #[] })=h2;have hH2':h1.push { cls:=.type "dict",data:=.dict #[] } = h2:=hH2;have hs2:h2.objs.size=h1.objs.size+1:=by rw[<- hH2',Zu]
 have k2:∀b o,h1.get? b=some o->h2.get? b=some o:=fun b o e=>by rw[<- hH2'];exact ZH _ e
 have n2:h2.Ns h1.objs.size (fun _=>none):=by rw[<- hH2'];exact Heap.Ns.new h1 (.type "dict")
 refine ZA (wpAny_layCells _ (fun name kind cells=>by cases hkc:kind == NameKind.cell <;> simp[hkc]) _ _ _ _ ?_);have ok:=cellsFrom_ok scope.names h2 (h1.objs.size+1) [] ⟨fun _ _ hm=>(nomatch hm),List.Pairwise.nil⟩ (by rw[hs2];exact ZD _);rw[hs2]at ok;show wpAny _ _ (forIn ([]:List (Str × Value)) PUnit.unit _ >>= _) _ _ _;rw[List.forIn_nil];refine ZA (ZB (ZB ?_));show codeAny _ _ (.compStart _ 0 (.ref it) (.ref s.heap.objs.size) (compEnvC scope (cellsFrom h2.objs.size scope.names (BK X.env.cells scope.names [])) h1.objs.size X.env)) (RR (.ref s.heap.objs.size) h1.objs.size) { s with heap:=pushCells h2 scope.names };rw[hs2];generalize hH3:pushCells h2 scope.names=h3 at ok ⊢;have k3:∀b o,h2.get? b=some o->h3.get? b=some o:=fun b o e=>by rw[<- hH3];exact pushCells_keeps _ _ b o e
 have kk:∀b o,s.heap.get? b=some o->h3.get? b=some o:=fun b o e=>k3 b o (k2 b o (k1 b o e))
 have d3:h3.get? s.heap.objs.size=some { cls:=.type "list",data:=.seq ([]:List Value).toArray }:=k3 _ _ (k2 _ _ d1);have hC:s.heap.objs.size < h1.objs.size:=by rw[hs1];exact ZBJ _
 have I3:Yf (X.comp scope N' ⟨Ya,cellsFrom (h1.objs.size+1) scope.names (BK X.env.cells scope.names []),s,H,fp,h1.objs.size⟩) [] (cSt own ix σ) H { s with heap:=h3 } :=
  Tg (s4:={ s with heap:=h3 }) I f2 hob S Yl hN hfr hC kk rfl rfl ⟨_,n2.keeps k3⟩ (fun x c hm=>ok.empty x c hm) ok.apart
 generalize hcs:cellsFrom (h1.objs.size+1) scope.names (BK X.env.cells scope.names [])=cs at I3 ⊢;generalize hCC:h1.objs.size=C at *;generalize hDD:s.heap.objs.size=D at *;have hY:=I3.ok
 -- what is fixed of the records
 have sD:D≠C/\(∀x c,cs.lookup x=some c->c≠D)/\D∉frs X.stack/\∀p∈X.pn++Ya,p.1≠D:=by
  refine⟨ZK hC,fun x c e z=>?_,fun z=>?_,fun p hp z=>?_⟩
  ·subst z;have e':=e;rw[<- hcs,Dn,FJ]at e';cases q:(cellsFrom (C+1) scope.names []).lookup x with
   | some d =>
    rw[q]at e';cases e'
    have:=(ok.empty x c (mem_of_lookup q)).2
    exact absurd (ZS hC (ZBi this)) (Zc _)
   | none =>
    rw[q]at e';have hfree:∀y∈scope.names,y.2=.free->∃c,X.env.cells.lookup y.1=some c:=fun y hy h=>I.ok.has y.1 (S.fr y hy h)
    rcases clOf_mem _ _ _ _ hfree (mem_of_lookup e') with z | ⟨_,z⟩
    ·exact absurd z (by simp)
    ·obtain⟨v,q⟩:=I.cell x c z
     have:=q.lt
     rw[hDD]at this;exact Zc _ this
  ·exact(I3.nofs (a:=D) (by exact absurd z (by
    intro z';obtain⟨_,o,ho,_⟩:=(show s.heap.FunFrames X.base X.stack from I.stack).mem z'
    have:=ZG ho
    rw[hDD]at this;exact Zc _ this))) z
  ·have:=ZG (I.pin p hp).1
   rw[z,hDD]at this;exact Zc _ this
 have stat:∀{H':Hp},(∀b∈fp,H' b=none)->∀b∈fp,A7 (X.comp scope N' ⟨Ya,cs,s,H,fp,C⟩) [] H' b:=fun {H'} hn b hb=>by
  refine⟨hn b hb,(hY.exf b hb).1,hY.exfs b hb,.inl hb,(hY.exf b hb).2,fun p hp=>?_⟩;have hp:p∈(X.pn++Ya)++[]:=hp;rw[Zy]at hp;exact(f2 b hb).2.2.2.2.2 p hp
 have statD:∀{H':Hp},H' D=none->A7 (X.comp scope N' ⟨Ya,cs,s,H,fp,C⟩) [] H' D:=fun {H'} hn=>by
  refine⟨hn,sD.1,sD.2.2.1,.inr (ZBb hDD),sD.2.1,fun p hp=>?_⟩;have hp:p∈(X.pn++Ya)++[]:=hp;rw[Zy]at hp;exact sD.2.2.2 p hp
 have loop:codeAny (model X.prog X.w) X.A (.compLoop (.ListComp elt [⟨tg,iter,ifs,0⟩] scope pos) 0 (.ref it) (.ref D) (compEnvC scope cs C X.env)) (RR (.ref D) C) { s with heap:=h3 }:=by
  refine OF (fun n s'=>∃(i:Nat) (H':Hp) (ys:List V) (Ye:List Value) (k:Nat),Yf (X.comp scope N' ⟨Ya,cs,s,H,fp,C⟩) [] (cSt own ix σ) H' s'/\tn i s'.heap/\(∀b∈fp,H' b=none)/\H' D=none /\
   s'.heap.get? D=some { cls:=.type "list",data:=.seq Ye.toArray k } /\ Yi ys Ye/\ys.length<=sizeLine/\W i n ys H') ?_ m0
   ⟨0,H,[],[],0,I3,T.keep _ _ _ st fun b _ o e=>kk b o e,fun b hb=>(f2 b hb).1,I.hok.fresh (ZBb hDD),d3,.nil,ZP _,w0⟩
  rintro n s4 ⟨i,H4,ys,Ye,k,I4,st4,fr4,dn4,d4,rv4,z4,w4⟩
  rcases turn i n ys H4 w4 with ⟨stop,qn⟩ | ⟨go,zl,N,hN2,step⟩
  ·have ID:=I4.pinned (fp:=[D]) (fun b hb=>by rw[ZF.mp hb];exact statD dn4) (fun b hb=>by rw[ZF.mp hb];exact⟨_,d4,fun v z=>nomatch z⟩)
   have nD:∀b∈fp,b≠D:=fun b hb z=>by
    obtain⟨o,e⟩:=hob b hb
    have:=ZG e
    rw[z,hDD]at this;exact Zc _ this
   have stat':∀b∈fp,A7 (X.comp scope N' ⟨Ya,cs,s,H,fp,C⟩) ([]++By [D] s4.heap) H4 b:=fun b hb=>by
    obtain⟨q1,q2,q3,q4,q5,q6⟩:=stat fr4 b hb;refine⟨q1,q2,q3,q4,q5,fun p hp=>?_⟩
    rcases Zh.mp hp with z | z
    ·exact q6 p (ZBR _ z)
    ·have:=(JH (by simpa using z:p∈By [D] s4.heap)).1
     rw[ZF.mp this];exact fun z=>nD b hb z.symm
   refine Yn (T.done (X.comp scope N' ⟨Ya,cs,s,H,fp,C⟩) rfl rfl rfl hc i _ s4 _ H4 (fun _ _=>False) ID stat' st4 stop) fun r s5 ⟨hr,I5⟩=>?_
   subst hr;obtain⟨m,hm,_⟩:=I5.loc;refine fin D C s5 H4 ys Ye k I5.os I5.bare I5.base I5.hok ⟨m,hm⟩ I5.free (Zq hC) dn4 (ZD _) sD.1 ?_ rv4 z4 qn
   ·exact(I5.pin (D,_) (ZX _ (ZX _ (CH (ZF.mpr rfl) d4)))).1
  ·have nD:∀b∈fp,b≠D:=fun b hb z=>by
    obtain⟨o,e⟩:=hob b hb
    have:=ZG e
    rw[z,hDD]at this;exact Zc _ this
   have ID:=I4.pinned (fp:=[D]) (fun b hb=>by rw[ZF.mp hb];exact statD dn4) (fun b hb=>by rw[ZF.mp hb];exact⟨_,d4,fun v z=>nomatch z⟩)
   have statP:∀{H':Hp},(∀b∈fp,H' b=none)->∀b∈fp,A7 (X.comp scope N' ⟨Ya,cs,s,H,fp,C⟩) ([]++By [D] s4.heap) H' b:=fun {H'} hn b hb=>by
    obtain⟨q1,q2,q3,q4,q5,q6⟩:=stat hn b hb;refine⟨q1,q2,q3,q4,q5,fun p hp=>?_⟩
    rcases Zh.mp hp with z | z
    ·exact q6 p (ZBR _ z)
    ·have:=(JH (by simpa using z:p∈By [D] s4.heap)).1
     rw[ZF.mp this];exact fun z=>nD b hb z.symm
   refine Yn (T.item (X.comp scope N' ⟨Ya,cs,s,H,fp,C⟩) rfl rfl rfl hc i _ s4 _ H4 (fun _ _=>False) ID (statP fr4) st4 go) fun r s5 ⟨u,hr,h5⟩=>?_
   subst hr;refine Yn h5 fun _ s6 ⟨x,H6,I6,r6,y6,st6,fr6⟩=>?_
   have I6':=I6.pinned (statP fr6) (T.obj _ _ st6);refine Yn (hg _ _ s6 _ H6 x u _ I6' r6 (hgo _ _ _ _ (step x H6 y6))) fun _ s7 ⟨σ7,H7,I7,⟨e7,k7⟩,q7⟩=>?_
   have I7':Yf (X.comp scope N' ⟨Ya,cs,s,H,fp,C⟩) ([]++By [D] s4.heap++By fp s6.heap) σ7 H7 s7:=I7;refine Yn (ht _ _ s7 σ7 H7 _ I7' q7) fun b s8 ⟨H8,I8,q8⟩=>?_
   -- what is kept through the turn
   have back:∀{s9:Shared} {H9:Hp},Yf (X.comp scope N' ⟨Ya,cs,s,H,fp,C⟩) ([]++By [D] s4.heap++By fp s6.heap) σ7 H9 s9 ->
    Yf (X.comp scope N' ⟨Ya,cs,s,H,fp,C⟩) [] (cSt own ix σ) H9 s9/\tn (i+1) s9.heap/\(∀b∈fp,H9 b=none)/\H9 D=none/\s9.heap.get? D=some { cls:=.type "list",data:=.seq Ye.toArray k }:=fun {s9 H9} I9=>by
    have pD:=I9.pin (D,_) (ZX _ (ZBR _ (ZX _ (CH (ZF.mpr rfl) d4))));refine⟨I9.unpinned.unpinned.weak (by rw[e7]) fun j v hj=>?_,T.keep _ _ _ st6 fun b hb o e=>(I9.pin (b,o) (ZX _ (ZX _ (CH hb e)))).1,fun b hb=>?_,pD.2.1,pD.1⟩
    ·rw[k7 j (VN hj)];exact hj
    ·obtain⟨o,e,_⟩:=T.obj _ _ st6 b hb;exact(I9.pin (b,o) (ZX _ (ZX _ (CH hb e)))).2.1
   cases b with
   | false =>
    rw[if_neg Zo]at q8;obtain⟨m',hm,w8⟩:=hN2 _ _ q8;obtain⟨b1,b2,b3,b4,b5⟩:=back I8;exact⟨m',hm,i+1,H8,ys,Ye,k,b1,b2,b3,b4,b5,rv4,z4,w8⟩
   | true =>
    rw[if_pos rfl]at q8;rw[if_pos rfl];refine Yn (he _ _ s8 σ7 H8 _ I8 q8) fun yv s9 ⟨y,H9,I9,r9,q9⟩=>?_
    obtain⟨m',hm,w9⟩:=hN2 _ _ q9;obtain⟨b1,b2,b3,b4,b5⟩:=back I9;have hl:=rv4.length;refine call_meets F.slot_list_append ⟨_,b5,rfl⟩ F.entry_list_append (F.args_list_append_2 _ _) (PySem.list_append D Ye.toArray k yv (by rw[ZJ];lia)) ⟨b5,?_⟩;have up:=PySem.IsL.update b5 (fun a=>a.push yv);have keep:∀b o,b≠D->s9.heap.get? b=some o->(s9.heap.update D (Obj.mapSeq fun a=>a.push yv)).get? b=some o:=fun b o hb q=>(Z0 _ _ (Ne.symm hb)).trans q
    obtain⟨f0,f1,f2',f3,f4,f5⟩:=statD b4;refine⟨m',hm,i+1,H9,ys++[y],Ye++[yv],(if ((Ye.toArray.push yv).size == Ye.toArray.size)=true then k else k+1),b1.turned (t':=s9.toks) keep b4 f1 f3 f4 f5,?_,b3,b4,?_,rv4.append (.cons r9 .nil),?_,w9⟩
    ·exact T.keep _ _ _ b2 fun b hb o e=>keep b o (nD b hb) e
    ·have e2:(Ye.toArray.push yv)=(Ye++[yv]).toArray:=by simp
     rw[<- e2];exact up
    ·rw[ZL,List.length_singleton];lia
 exact codeAny_compStart_list loop (T.self X.A 0 _ _ _ (T.keep _ _ _ st fun b _ o e=>kk b o e) loop)
end
section
variable {X:Cx}{Ya:List (Addr × Obj)}{σ:St}{H:Hp}{s:Shared}{fp:List Addr}{it:Addr}{tn:Nat->Heap->Prop}{J:It}{tg iter elt:Expr}{ifs:List Expr}{scope:Scope}{pos:Pos}{N':List Str}{own:Nat}{ix:List Nat}{g:TG}{tc:TT}{te:TE}{wi:TI}{E:Value->Shared->Prop}
theorem Jd {s':Shared} {D:Addr} {ys:List V} {Ye:List Value} (I:Yf X Ya σ H s) (f2:∀b∈fp,A7 X Ya H b) (ho:s'.os=s.os) (hg:AllBare s'.gens) (u:Un (frs X.stack) fp H H' s.heap s'.heap) (hok:HOk X.prog X.w H' s'.heap)
 (dn:H' D=none) (ds:s.heap.objs.size<=D) (d:s'.heap.get? D=some { cls:=.type "list",data:=.seq Ye.toArray n }) (rv:Yi ys Ye) (z:ys.length<=sizeLine):Yf X Ya σ (upd H' D (.lst ys)) s':=by
 have nD:∀b o,s.heap.get? b=some o->b≠D:=fun b o e q=>by rw[q,ZBQ ds]at e;cases e
 have nH:∀b o,H' b=some o->b≠D:=fun b o e q=>by rw[q,dn]at e;cases e
 refine I.call' (ch:=fp) ho ⟨u.keep,u.slot,fun b o e q hx=>?_,u.there,fun b xs e=>?_,fun b o v e=>?_,fun b ps e=>?_⟩ (fun b o e=>?_) hg fun b hb=>?_
 ·rw[AH (nD b o e)];exact u.free b o e q hx
 ·have:=u.tups b xs e
  rw[AH (nH _ _ this)];exact this
 ·have:=u.frzs b o v e
  rw[AH (nH _ _ this)];exact this
 ·obtain⟨more,q⟩:=u.tbls b ps e;exact⟨more,by rw[AH (nH _ _ q)];exact q⟩
 ·by_cases hb:b=D
  ·subst hb;rw[AC]at e;cases e;exact⟨z,Ye,n,rv,d⟩
  ·rw[AH hb]at e;exact(hok b o e).stay (fun _ _ _ q=>q) (fun c q=>by rw[AH (nH _ _ q)];exact q) fun c xs q=>by rw[AH (nH _ _ q)];exact q
 ·obtain⟨q1,q2,q3,q4,q5,q6⟩:=f2 b hb;exact⟨q4,q2,q5,q6⟩
theorem Yf.dictGone{s':Shared}{h':Heap}{C:Addr}{σ':St}(I:Yf X Ya σ H s)(J:Yf X Ya σ' H' s')(hC:s.heap.objs.size<=C)(hn:H' C=none)(k:Heap.SameBut C s'.heap h'):Yf X Ya σ' H' { s' with heap:=h' }:=by
 have hC0:=ZBQ hC;refine J.turned (t':=s'.toks) (fun b o hb e=>(k.2 b hb).trans e) hn (fun z=>?_) (.inr (Za I.sz hC)) (fun x c e z=>?_) fun p hp z=>?_
 ·obtain⟨m,⟨o,_,_,ho,_⟩,_⟩:=I.loc;rw[<- z,hC0]at ho;cases ho
 ·obtain⟨v,o,ho,_⟩:=I.cell x c e;rw[z,hC0]at ho;cases ho
 ·have:=(I.pin p hp).1
  rw[z,hC0]at this;cases this
theorem Qm (hc:X.calm=true) (hi:PI X tg iter wi) (S:CompScope scope X.env.scope)
 (Yl:N'.length=own+ix.length) (hN:(N'.drop own).map some=ix.map (X.N[·]?)) (hfr:∀x∈N'.drop own,scope.names.lookup x=some .free)
 (hg:∀c,PG (X.comp scope N' c) tg g) (hgo:Cv own g) (ht:∀c,PTs (X.comp scope N' c) ifs tc) (he:∀c,PE (X.comp scope N' c) elt te)
 (hs:∀x,foldedSetIterable iter X.env x=pure x:=by intro _;rfl):PE X (.ListComp elt [⟨tg,iter,ifs,0⟩] scope pos) (Dr wi own ix g tc te):=by
 intro Ya s σ H Q I h;rw[eval_ListComp];have hfree:∀y∈scope.names,y.2=.free->∃c,X.env.cells.lookup y.1=some c:=fun y hy h=>I.ok.has y.1 (S.fr y hy h)
 refine wpAny_comprehension_free (use:=none) rfl hs (K9 hfree) S.kind (fun y hy hl=>DF S.nd (by rw[<- hl];exact hy)) ?_;refine Yn (hi Ya s σ H _ I h) fun v s1 h1=>Yn h1 fun itv s2 h2=>?_
 obtain⟨it,fp,tn,J,H2,e,I2,T,st2,f2,q2⟩:=h2;subst e;refine Mt (RR:=fun Yp C=>compPost (model X.prog X.w) X.A X.xe none (EP X Ya σ Q) Yp C) I2 T st2 f2 hc S Yl hN hfr hg hgo ht he q2 ?_;intro D C s' H' ys Ye n ho hgn u hok hm hC hCs hD hDs hDC d rv z q;obtain⟨m,hm⟩:=hm;have I3:=Jd I2 f2 ho hgn u hok hD hDs d rv z;refine⟨m,hm,fun h' hs'=>?_⟩;exact⟨.ref D,_,I2.dictGone I3 hCs (by rw[AH (Ne.symm hDC)];exact hC) hs',rfl,q D hD⟩
theorem QF {y:Str} {py spos:Pos} (hc:X.calm=true) (hnd:X.N.Nodup) (hiy:X.N[i]? = some y) (hy:X.env.scope.names.lookup y=some .local) (hi:PI X tg iter wi) (S:CompScope scope X.env.scope)
 (Yl:N'.length=own+ix.length) (hN:(N'.drop own).map some=ix.map (X.N[·]?)) (hfr:∀x∈N'.drop own,scope.names.lookup x=some .free)
 (hg:∀c,PG (X.comp scope N' c) tg g) (hgo:Cv own g) (ht:∀c,PTs (X.comp scope N' c) ifs tc) (he:∀c,PE (X.comp scope N' c) elt te)
 (hsw:swapsWith (.ListComp elt [⟨tg,iter,ifs,0⟩] scope pos) (some (.Name y py)) spos.line X.env=pure true)
 (hs:∀x,foldedSetIterable iter X.env x=pure x:=by intro _;rfl):PS X (.Assign [.Name y py] (.ListComp elt [⟨tg,iter,ifs,0⟩] scope pos) spos) (DS (Dr wi own ix g tc te) (Af i)):=by
 intro Ya s σ H D I h;rw[exec_Assign_Name_used _ _ _ _ hsw];refine ZA (ZBI (ZA ?_));show wpAny _ _ (do let _ <- comprehension (.ListComp elt [⟨tg,iter,ifs,0⟩] scope pos) scope X.env _ (newList []) false (eval iter X.env) (some (assign (.Name y py) X.env))) _ _ s;have hfree:∀y∈scope.names,y.2=.free->∃c,X.env.cells.lookup y.1=some c:=fun y hy h=>I.ok.has y.1 (S.fr y hy h)
 refine ZA (ZO (wpAny_comprehension_free (use:=some (assign (.Name y py) X.env)) (Q:=fun _ s'=>SP X Ya D .next s') rfl hs (K9 hfree) S.kind (fun y hy hl=>DF S.nd (by rw[<- hl];exact hy)) ?_) (fun _ s' hq=>ZB (ZB hq)) fun _ _ e=>e);refine Yn (hi Ya s σ H _ I h) fun v s1 h1=>Yn h1 fun itv s2 h2=>?_
 obtain⟨it,fp,tn,J,H2,e,I2,T,st2,f2,q2⟩:=h2;subst e;refine Mt (RR:=fun Yp C=>compPost (model X.prog X.w) X.A X.xe (some (assign (.Name y py) X.env)) (fun _ s'=>SP X Ya D .next s') Yp C) I2 T st2 f2 hc S Yl hN hfr hg hgo ht he q2 ?_;intro d C s' H' ys Ye n ho hgn u hok hm hC hCs hD hDs hDC hd rv z q;obtain⟨m,hm⟩:=hm;have I3:=Jd I2 f2 ho hgn u hok hD hDs hd rv z;show wpAny _ _ (assign (.Name y py) X.env (.ref d)) _ _ s';have hCn:(upd H' d (.lst ys)) C=none:=by rw[AH (Ne.symm hDC)];exact hC
 refine wpAny_assign_Name (NV I3 hnd hiy (.inl hy) (v:=.ref d) rfl (fun s3 I4 ⟨a,sb,ha⟩=>?_) (.inr hy))
 have ha':a≠C:=fun e=>by
  have hC0:=ZBQ hCs
  rcases ha with z | z
  ·obtain⟨m,⟨o,_,_,ho,_⟩,_⟩:=I2.loc;rw[<- z,e,hC0]at ho;cases ho
  ·obtain⟨v,o,ho,_⟩:=I2.cell y a z;rw[e,hC0]at ho;cases ho
 refine⟨m,hm.sameBut sb (Ne.symm ha'),fun h' hs'=>?_⟩;exact⟨_,_,I2.dictGone I4 hCs hCn hs',q d hD⟩
end
section
variable {X:Cx}
theorem PE.imp{e:Expr}{t t':TE}(h:PE X e t)(f:∀σ H Q,t' σ H Q->t σ H Q):PE X e t':=fun Ya s σ H Q I q=>h Ya s σ H Q I (f σ H Q q)
theorem Ys.imp{f:Value->Value->Sem Value}{r':R2}(h:Ys X f r)(g:∀x y H Q,r' x y H Q->r x y H Q):Ys X f r':=fun Ya s σ H x y v u Q I rx ry q=>h Ya s σ H x y v u Q I rx ry (g _ _ _ _ q)
theorem CallR.imp{f:Value}{r r':List V->Hp->VK->Prop}(h:CallR X f r)(g:∀x H Q,r' x H Q->r x H Q):CallR X f r':=fun Ya s σ H xs us Q I r q=>h Ya s σ H xs us Q I r (g _ _ _ q)
noncomputable def FW(i:Nat):TE:=fun σ H Q=>match σ[i]? with
 | some (some v)=>Q v H
 | _=>False
theorem vv (i:Nat) (hN:X.N[i]? = some x:=by rfl) (hv:Vis X.env.scope x:=by first | exact Or.inl rfl | exact Or.inr (Or.inl rfl) | exact Or.inr (Or.inr rfl)) (hd:(x == ("__debug__" : Str))=false:=by decide)
 (hcd:(x == ("__classdict__" : Str))=false:=by decide):PE X (.Name x pos) (FW i):=(O6 hN hv hd hcd).imp fun σ H Q q=>by
 unfold FW at q;split at q
 ·rename_i v e;exact⟨v,e,q⟩
 ·exact q.elim
noncomputable def okMul(i j:Int):Prop:=(i.natAbs < 2 ^ 4096/\j.natAbs < 2 ^ 4096)\/(-(2 ^ 64) < i/\i < 2 ^ 64)\/(-(2 ^ 64) < j/\j < 2 ^ 64)
theorem Lj{i:Int}(h:i.natAbs < 2 ^ 4096):Builtin.Int.intBits i<=2 ^ 20:=by
 unfold Builtin.Int.intBits;split
 ·exact ZP _
 ·rename_i hz
  have Yr:i.natAbs≠0:=by
   have:¬i=0:=by simpa using hz
   lia
  have:=(Nat.log2_lt Yr).mpr h
  have e:(2:Nat) ^ 20=1048576:=by decide
  lia
theorem okMul.ok{i j:Int}(h:okMul i j):IntMulOk i j:=by
 rcases h with ⟨h1,h2⟩ | h | h
 ·exact .of_bits (Lj h1) (Lj h2)
 ·exact CMul.ok (.inl h)
 ·exact CMul.ok (.inr h)
noncomputable def okDiv(j:Int):Prop:=0 < j/\j < 2 ^ 4096
theorem okDiv.ok{i j:Int}(h:okDiv j):Builtin.divisionGoesByPylong i j=false:=by
 refine PyProof.noPylong_of_log2 ?_;obtain⟨h1,h2⟩:=h;have Yr:j.natAbs≠0:=by lia
 have h3:j.natAbs < 2 ^ 4096:=by
  have e:((j.natAbs:Int))=j:=by lia
  have h2':((j.natAbs:Nat):Int) < ((2 ^ 4096:Nat):Int):=by rw[e,Int.natCast_pow];exact h2
  exact Int.ofNat_lt.mp h2'
 have:=(Nat.log2_lt Yr).mpr h3
 lia
noncomputable def DO(K:W.Frag):R2:=fun x y H Q=>match x,y with
 | .int i,.int j=>Q (.int (i+j)) H
 | .str a,.str b=>a.length+b.length<=sizeLine/\Q (.str (a++b)) H
 | .ref a,.ref b=>Iw (.ref a) (.ref b) H Q\/LX K (.ref a) (.ref b) H Q
 | _,_=>False
theorem OU:Ys X (binaryOp .Add) (DO X.K):=by
 intro Ya s σ H x y v u Q I rx ry q
 cases x <;> cases y <;> first
  | exact False.elim q
  | exact LA Ya s σ H _ _ v u Q I rx ry ⟨_,_,rfl,rfl,q⟩
  | exact Vo Ya s σ H _ _ v u Q I rx ry ⟨_,_,rfl,rfl,q.1,q.2⟩
  | (rcases q with q | q
     ·exact KF Ya s σ H _ _ v u Q I rx ry q
     ·exact K6 Ya s σ H _ _ v u Q I rx ry q)
noncomputable def VU:R2:=fun x y H Q=>match x,y with
 | .int i,.int j=>Q (.int (i - j)) H
 | _,_=>False
theorem Ka:Ys X (binaryOp .Sub) VU:=by
 intro Ya s σ H x y v u Q I rx ry q
 cases x <;> cases y <;> first
  | exact False.elim q
  | exact Ti Ya s σ H _ _ v u Q I rx ry ⟨_,_,rfl,rfl,q⟩
noncomputable def Iy:R2:=fun x y H Q=>match x,y with
 | .int i,.int j=>okMul i j/\Q (.int (i * j)) H
 | .ref a,.int k=>Jk (.ref a) (.int k) H Q
 | _,_=>False
theorem Ca:Ys X (binaryOp .Mult) Iy:=by
 have hI:Ys X (binaryOp .Mult) (rI okMul fun i j=>.int (i * j)):=opI fun _ _ _ _ _ _ _ hc q=>mul_int q hc.ok
 intro Ya s σ H x y v u Q I rx ry q
 cases x <;> cases y <;> first
  | exact False.elim q
  | exact hI Ya s σ H _ _ v u Q I rx ry ⟨_,_,rfl,rfl,q.1,q.2⟩
  | exact QL Ya s σ H _ _ v u Q I rx ry q
noncomputable def GQ:R2:=fun x y H Q=>match x,y with
 | .int i,.int j=>okDiv j/\Q (.int (i / j)) H
 | _,_=>False
theorem D5:Ys X (binaryOp .FloorDiv) GQ:=by
 have hI:Ys X (binaryOp .FloorDiv) (rI (fun _ j=>okDiv j) fun i j=>.int (i / j)):=opI fun i j _ _ _ _ _ hc q=>by
  refine floordiv_int (by have:=hc.1;lia) ?_ (.inl hc.ok);rw[Int.fdiv_eq_ediv_of_nonneg i (by have:=hc.1;lia)];exact q
 intro Ya s σ H x y v u Q I rx ry q
 cases x <;> cases y <;> first
  | exact False.elim q
  | exact hI Ya s σ H _ _ v u Q I rx ry ⟨_,_,rfl,rfl,q.1,q.2⟩
noncomputable def Gj:R2:=fun x y H Q=>match x,y with
 | .int i,.int j=>0 < j/\Q (.int (i % j)) H
 | _,_=>False
theorem Ck:Ys X (binaryOp .Mod) Gj:=by
 intro Ya s σ H x y v u Q I rx ry q
 cases x <;> cases y <;> first
  | exact False.elim q
  | exact Ta Ya s σ H _ _ v u Q I rx ry ⟨_,_,rfl,rfl,q.1,q.2⟩
noncomputable def JO:R2:=fun x y H Q=>match x,y with
 | .int i,.int j=>FS i j/\Q (.int (i ^ j.toNat)) H
 | _,_=>False
theorem Ks:Ys X (binaryOp .Pow) JO:=by
 intro Ya s σ H x y v u Q I rx ry q
 cases x <;> cases y <;> first
  | exact False.elim q
  | exact R8 Ya s σ H _ _ v u Q I rx ry ⟨_,_,rfl,rfl,q.1,q.2⟩
noncomputable def Jj(f:Int->Int->Int):R2:=fun x y H Q=>match x,y with
 | .int i,.int j=>Q (.int (f i j)) H
 | _,_=>False
theorem Eg:Ys X (binaryOp .BitAnd) (Jj Builtin.bitAnd):=by
 intro Ya s σ H x y v u Q I rx ry q
 cases x <;> cases y <;> first
  | exact False.elim q
  | exact Pb Ya s σ H _ _ v u Q I rx ry ⟨_,_,rfl,rfl,q⟩
noncomputable def Ni:R2:=fun x y H Q=>match x,y with
 | .int i,.int j=>0<=j/\Q (.int (i / 2 ^ j.toNat)) H
 | _,_=>False
theorem Ph:Ys X (binaryOp .RShift) Ni:=by
 intro Ya s σ H x y v u Q I rx ry q
 cases x <;> cases y <;> first
  | exact False.elim q
  | exact VZ Ya s σ H _ _ v u Q I rx ry ⟨_,_,rfl,rfl,q.1,q.2⟩
noncomputable def HU:R2:=fun x y H Q=>match x,y with
 | .int i,.int j=>FS i j/\Q (.int (i * 2 ^ j.toNat)) H
 | _,_=>False
theorem LL:Ys X (binaryOp .LShift) HU:=by
 intro Ya s σ H x y v u Q I rx ry q
 cases x <;> cases y <;> first
  | exact False.elim q
  | exact Pl Ya s σ H _ _ v u Q I rx ry ⟨_,_,rfl,rfl,q.1,q.2⟩
noncomputable def Ik:V->Hp->VK->Prop:=fun x H Q=>match x with
 | .int i=>Q (.int (-i)) H
 | _=>False
theorem Oj:UnR X (unaryOp .USub) Ik:=by
 intro Ya s σ H x v Q I rx q
 cases x <;> first
  | exact False.elim q
  | exact QE Ya s σ H _ v Q I rx ⟨_,rfl,q⟩
noncomputable def Em(p:Int->Int->Bool):R2:=fun x y H Q=>match x,y with
 | .int i,.int j=>Q (.bl (p i j)) H
 | _,_=>False
theorem C3:Ys X (compareOp .Lt) (Em fun i j=>decide (i < j)):=by
 intro Ya s σ H x y v u Q I rx ry q
 cases x <;> cases y <;> first
  | exact False.elim q
  | exact Q0 Ya s σ H _ _ v u Q I rx ry ⟨_,_,rfl,rfl,q⟩
theorem Hr:Ys X (compareOp .Gt) (Em fun i j=>decide (j < i)):=by
 intro Ya s σ H x y v u Q I rx ry q
 cases x <;> cases y <;> first
  | exact False.elim q
  | exact Nf Ya s σ H _ _ v u Q I rx ry ⟨_,_,rfl,rfl,q⟩
end
inductive Dv where
 | non | bl (b:Bool) | int (i:Int) | str (x:Str) | tup (ds:List Dv) | lst (ds:List Dv)
mutual
noncomputable def Yh(K:W.Frag)(H:Hp):Dv->V->Prop
 | .non,v=>v=.non
 | .bl b,v=>v=.bl b
 | .int i,v=>v=.int i
 | .str x,v=>v=.str x
 | .tup ds,v=>∃a xs,v=.ref a/\Yq K H a xs/\Yd K H ds xs
 | .lst ds,v=>∃a xs,v=.ref a/\Yt K H a xs/\Yd K H ds xs
noncomputable def Yd(K:W.Frag)(H:Hp):List Dv->List V->Prop
 | [],xs=>xs=[]
 | d::ds,xs=>∃x r,xs=x::r/\Yh K H d x/\Yd K H ds r
end
mutual
noncomputable def eqD:Dv->Dv->Bool
 | .non,.non=>true
 | .bl a,.bl b=>a == b
 | .bl a,.int b=>(if a then 1 else 0) == b
 | .int a,.bl b=>a == (if b then 1 else 0)
 | .int a,.int b=>a == b
 | .str a,.str b=>a == b
 | .tup ds,.tup es=>BL ds es
 | .lst ds,.lst es=>BL ds es
 | _,_=>false
noncomputable def BL:List Dv->List Dv->Bool
 | [],[]=>true
 | d::ds,e::es=>eqD d e && BL ds es
 | _,_=>false
end
mutual
noncomputable def AY:Dv->Nat
 | .tup ds=>BJ ds+1
 | .lst ds=>BJ ds+1
 | _=>0
noncomputable def BJ:List Dv->Nat
 | []=>0
 | d::ds=>max (AY d) (BJ ds)
end
theorem Lw(ds es:List Dv):eqD (.tup ds) (.tup es)=BL ds es:=by rw[eqD]
theorem FR(ds es:List Dv):eqD (.lst ds) (.lst es)=BL ds es:=by rw[eqD]
theorem Yd.length:∀{ds:List Dv} {xs:List V},Yd K H ds xs->ds.length=xs.length
 | [],xs,h=>by unfold Yd at h;subst h;rfl
 | d::ds,xs,h=>by
  unfold Yd at h;obtain⟨x,r,rfl,_,h⟩:=h;rw[Zk,Zk,Yd.length h]
theorem Yd.get:∀{ds:List Dv} {xs:List V} {i:Nat} {d:Dv},Yd K H ds xs->ds[i]? = some d->∃x,xs[i]? = some x/\Yh K H d x
 | [],_,_,_,_,e=>by simp at e
 | d::ds,xs,0,_,h,e=>by
  unfold Yd at h;obtain⟨x,r,rfl,h1,_⟩:=h;simp at e;subst e;exact⟨x,rfl,h1⟩
 | d::ds,xs,i+1,_,h,e=>by
  unfold Yd at h;obtain⟨x,r,rfl,_,h⟩:=h;obtain⟨y,h1,h2⟩:=Yd.get (i:=i) h (by simpa using e);exact⟨y,by simpa using h1,h2⟩
theorem Je{d:Dv}(h:ds[i]? = some d):AY d<=BJ ds:=by
 induction ds generalizing i with
 | nil=>simp at h
 | cons e es ih =>
  unfold BJ;cases i with
  | zero=>simp at h;subst h;lia
  | succ i=>have:=ih (i:=i) (by simpa using h);lia
theorem Fu:∀(ds es:List Dv),ds.length=es.length->BL ds es=(List.range ds.length).all fun i=>match ds[i]?,es[i]? with | some d,some e=>eqD d e | _,_=>false
 | [],[],_=>by unfold BL;rfl
 | d::ds,e::es,h=>by
  unfold BL;rw[Zk,List.range_succ_eq_map,List.all_cons,List.all_map,Fu ds es (by simpa using h)]
  congr 1
 | [],e::es,h=>by simp at h
 | d::ds,[],h=>by simp at h
theorem IB:∀(ds es:List Dv),ds.length≠es.length->BL ds es=false
 | [],[],h=>absurd rfl h
 | [],_::_,_=>by unfold BL;rfl
 | _::_,[],_=>by unfold BL;rfl
 | d::ds,e::es,h=>by unfold BL;rw[IB ds es (fun z=>h (by simp[z])),Bool.and_false]
mutual
theorem Ec:∀d:Dv,eqD d d=true
 | .non=>by unfold eqD;rfl
 | .bl b=>by unfold eqD;simp
 | .int i=>by unfold eqD;simp
 | .str x=>by unfold eqD;simp
 | .tup ds=>by unfold eqD;exact FI ds
 | .lst ds=>by unfold eqD;exact FI ds
theorem FI:∀ds:List Dv,BL ds ds=true
 | []=>by unfold BL;rfl
 | d::ds=>by unfold BL;rw[Ec d,FI ds];rfl
end
section
variable {X:Cx}{Ya:List (Addr × Obj)}{σ:St}{H:Hp}{s:Shared}
theorem Jt{ys:List V}(I:Yf X Ya σ H s)(h:Yt X.K H a xs)(h':Yq X.K H a ys):False:=by
 obtain⟨Ye,_,⟨o,n,e,c,_⟩,_⟩:=I.list h;obtain⟨its',_,⟨o',e',c',_⟩,_⟩:=I.tuple h';rw[e]at e';cases e';rw[c]at c';exact absurd c' (by decide)
mutual
theorem Ez(I:Yf X Ya σ H s):∀(d e:Dv) (x:V),Yh X.K H d x->Yh X.K H e x->d=e
 | .non,e,x,h,h'=>by
  unfold Yh at h;subst h;cases e <;> unfold Yh at h' <;> first | rfl | (obtain⟨a,xs,q,_⟩:=h';cases q;done) | (cases h';done)
 | .bl b,e,x,h,h'=>by
  unfold Yh at h;subst h;cases e <;> unfold Yh at h' <;> first | (obtain⟨a,xs,q,_⟩:=h';cases q;done) | (cases h';rfl) | (cases h';done)
 | .int b,e,x,h,h'=>by
  unfold Yh at h;subst h;cases e <;> unfold Yh at h' <;> first | (obtain⟨a,xs,q,_⟩:=h';cases q;done) | (cases h';rfl) | (cases h';done)
 | .str b,e,x,h,h'=>by
  unfold Yh at h;subst h;cases e <;> unfold Yh at h' <;> first | (obtain⟨a,xs,q,_⟩:=h';cases q;done) | (cases h';rfl) | (cases h';done)
 | .tup ds,e,x,h,h'=>by
  unfold Yh at h;obtain⟨a,xs,rfl,hs,hr⟩:=h;cases e with
  | tup es =>
   unfold Yh at h';obtain⟨b,ys,q,hs',hr'⟩:=h';cases q;rw[I.tuple_inj hs' hs]at hr';rw[Hz I ds es xs hr hr']
  | lst es =>
   unfold Yh at h';obtain⟨b,ys,q,hs',hr'⟩:=h';cases q;exact(Jt I hs' hs).elim
  | _=>unfold Yh at h';cases h'
 | .lst ds,e,x,h,h'=>by
  unfold Yh at h;obtain⟨a,xs,rfl,hs,hr⟩:=h;cases e with
  | lst es =>
   unfold Yh at h';obtain⟨b,ys,q,hs',hr'⟩:=h';cases q;rw[I.list_inj hs' hs]at hr';rw[Hz I ds es xs hr hr']
  | tup es =>
   unfold Yh at h';obtain⟨b,ys,q,hs',hr'⟩:=h';cases q;exact(Jt I hs hs').elim
  | _=>unfold Yh at h';cases h'
theorem Hz(I:Yf X Ya σ H s):∀(ds es:List Dv) (xs:List V),Yd X.K H ds xs->Yd X.K H es xs->ds=es
 | [],es,xs,h,h'=>by
  unfold Yd at h;subst h;cases es with
  | nil=>rfl
  | cons e es=>unfold Yd at h';obtain⟨x,r,q,_⟩:=h';cases q
 | d::ds,es,xs,h,h'=>by
  unfold Yd at h;obtain⟨x,r,rfl,h1,h2⟩:=h;cases es with
  | nil=>unfold Yd at h';cases h'
  | cons e es =>
   unfold Yd at h';obtain⟨y,r',q,h3,h4⟩:=h';cases q;rw[Ez I d e _ h1 h3,Hz I ds es _ h2 h4]
end
noncomputable abbrev Eq3(A:Around)(s:Shared)(u v:Value)(b:Bool):Prop:=SeqAt.EqAt A s u v b/\SeqAt.RcAt A s u v b/\SeqAt.RcNeAt A s u v (!b)
theorem Ny {ys:List V} {es:List Dv} (I:Yf X Ya σ H s) (hu:A.units < cLine) (ha:Yq X.K H a xs) (hb:Yq X.K H b ys) (hd:Yd X.K H ds xs) (he:Yd X.K H es ys)
 (ih:∀(i:Nat) (d e:Dv) (x y:V) (u v:Value),ds[i]? = some d->es[i]? = some e->xs[i]? = some x->ys[i]? = some y->Yj x u->Yj y v->SeqAt.EqAt A.in1 s u v (eqD d e)):Eq3 A s (.ref a) (.ref b) (eqD (.tup ds) (.tup es)):=by
 obtain⟨Ye,r1,p1,_⟩:=I.tuple ha;obtain⟨its2,r2,p2,_⟩:=I.tuple hb;have l1:=hd.length;have l2:=he.length;have l3:=r1.length;have l4:=r2.length
 have hitem:∀j (h1:j < Ye.toArray.size) (h2:j < its2.toArray.size),SeqAt.EqAt A.in1 s Ye.toArray[j] its2.toArray[j] (match ds[j]?,es[j]? with | some d,some e=>eqD d e | _,_=>false):=fun j h1 h2=>by
  rw[ZJ]at h1 h2;have e1:ds[j]? = some ds[j]:=ZE (by lia);have e2:es[j]? = some es[j]:=ZE (by lia);have e3:xs[j]? = some xs[j]:=ZE (by lia);have e4:ys[j]? = some ys[j]:=ZE (by lia);obtain⟨u,q1,q2⟩:=r1.get e3;obtain⟨v,q3,q4⟩:=r2.get e4;rw[e1,e2];have z1:Ye.toArray[j]=u:=by rw[ZBs];rw[ZE h1]at q1;exact ZQ q1
  have z2:its2.toArray[j]=v:=by rw[ZBs];rw[ZE h2]at q3;exact ZQ q3
  rw[z1,z2];exact ih j _ _ _ _ _ _ e1 e2 e3 e4 q2 q4
 have val:((List.range (min Ye.toArray.size its2.toArray.size)).all (fun j=>match ds[j]?,es[j]? with | some d,some e=>eqD d e | _,_=>false) && Ye.toArray.size == its2.toArray.size)=eqD (.tup ds) (.tup es):=by
  rw[ZJ,ZJ,<- l3,<- l4,<- l1,<- l2,Lw]
  by_cases h:ds.length=es.length
  ·rw[h,Nat.min_self,<- h,Fu ds es h];simp
  ·rw[IB ds es h]
   have:(ds.length == es.length)=false:=by simpa using h
   rw[this,Bool.and_false]
 have R:=SeqAt.RcAt.tuples (A:=A) p1 p2 hu hitem;have N:=SeqAt.RcNeAt.tuples (A:=A) p1 p2 hu hitem;rw[val]at R N;refine⟨?_,R,N⟩
 by_cases hab:a=b
 ·subst hab
  have e:ds=es:=by
   have:=Ez I (.tup ds) (.tup es) (.ref a) (by unfold Yh;exact⟨a,xs,rfl,ha,hd⟩) (by unfold Yh;exact⟨a,ys,rfl,hb,he⟩)
   cases this;rfl
  subst e;rw[Ec];exact SeqAt.EqAt.same _
 ·exact .of_refs hab R
theorem Vc {ys:List V} {es:List Dv} (I:Yf X Ya σ H s) (hu:A.units < cLine) (ha:Yt X.K H a xs) (hb:Yt X.K H b ys) (hd:Yd X.K H ds xs) (he:Yd X.K H es ys)
 (ih:∀(i:Nat) (d e:Dv) (x y:V) (u v:Value),ds[i]? = some d->es[i]? = some e->xs[i]? = some x->ys[i]? = some y->Yj x u->Yj y v->SeqAt.EqAt A.in1 s u v (eqD d e)):Eq3 A s (.ref a) (.ref b) (eqD (.lst ds) (.lst es)):=by
 obtain⟨Ye,r1,p1,_⟩:=I.list ha;obtain⟨its2,r2,p2,_⟩:=I.list hb;have l1:=hd.length;have l2:=he.length;have l3:=r1.length;have l4:=r2.length
 have hitem:∀j (h1:j < Ye.toArray.size) (h2:j < its2.toArray.size),SeqAt.EqAt A.in1 s Ye.toArray[j] its2.toArray[j] (match ds[j]?,es[j]? with | some d,some e=>eqD d e | _,_=>false):=fun j h1 h2=>by
  rw[ZJ]at h1 h2;have e1:ds[j]? = some ds[j]:=ZE (by lia);have e2:es[j]? = some es[j]:=ZE (by lia);have e3:xs[j]? = some xs[j]:=ZE (by lia);have e4:ys[j]? = some ys[j]:=ZE (by lia);obtain⟨u,q1,q2⟩:=r1.get e3;obtain⟨v,q3,q4⟩:=r2.get e4;rw[e1,e2];have z1:Ye.toArray[j]=u:=by rw[ZBs];rw[ZE h1]at q1;exact ZQ q1
  have z2:its2.toArray[j]=v:=by rw[ZBs];rw[ZE h2]at q3;exact ZQ q3
  rw[z1,z2];exact ih j _ _ _ _ _ _ e1 e2 e3 e4 q2 q4
 have RN:SeqAt.RcAt A s (.ref a) (.ref b) (eqD (.lst ds) (.lst es))/\SeqAt.RcNeAt A s (.ref a) (.ref b) (!eqD (.lst ds) (.lst es)):=by
  by_cases h:ds.length=es.length
  ·have hsz:Ye.toArray.size=its2.toArray.size:=by rw[ZJ,ZJ];lia
   have val:(List.range Ye.toArray.size).all (fun j=>match ds[j]?,es[j]? with | some d,some e=>eqD d e | _,_=>false)=eqD (.lst ds) (.lst es):=by
    rw[FR,ZJ,<- l3,<- l1,Fu ds es h]
   have R:=SeqAt.RcAt.lists (A:=A) p1.isList p2.isList hsz hu hitem;have N:=SeqAt.RcNeAt.lists (A:=A) p1.isList p2.isList hsz hu hitem;rw[val]at R N;exact⟨R,N⟩
  ·have hsz:(Ye.toArray.size != its2.toArray.size)=true:=by rw[ZJ,ZJ];simp;lia
   have val:eqD (.lst ds) (.lst es)=false:=by rw[FR];exact IB ds es h
   rw[val];exact⟨SeqAt.RcAt.lists_lengths p1.isList p2.isList hsz hu,SeqAt.RcNeAt.lists_lengths p1.isList p2.isList hsz hu⟩
 refine⟨?_,RN.1,RN.2⟩
 by_cases hab:a=b
 ·subst hab
  have e:ds=es:=by
   have:=Ez I (.lst ds) (.lst es) (.ref a) (by unfold Yh;exact⟨a,xs,rfl,ha,hd⟩) (by unfold Yh;exact⟨a,ys,rfl,hb,he⟩)
   cases this;rfl
  subst e;rw[Ec];exact SeqAt.EqAt.same _
 ·exact .of_refs hab RN.1
theorem IS(I:Yf X Ya σ H s):∀(n:Nat) (A:Around) (d e:Dv) (x y:V) (u v:Value),AY d<=n->A.units+n < cLine->Yh X.K H d x->Yh X.K H e y->Yj x u->Yj y v->Eq3 A s u v (eqD d e):=by
 intro n
 induction n with
 | zero =>
  intro A d e x y u v hd hu hx hy ru rv;have hu':A.units < cLine:=by lia
  cases d with
  | tup ds=>unfold AY at hd;lia
  | lst ds=>unfold AY at hd;lia
  | non =>
   unfold Yh at hx;subst hx;cases ru;cases e <;> unfold Yh at hy
   case non=>subst hy;cases rv;exact⟨SeqAt.EqAt.same _,SeqAt.RcAt.none_none,SeqAt.RcNeAt.none_none⟩
   case bl=>subst hy;cases rv;exact⟨.none_bool _,.none_bool _,.none_bool _⟩
   case int=>subst hy;obtain⟨t,rfl⟩:=rv;exact⟨.none_int _ _,.none_int _ _,.none_int _ _⟩
   case str=>subst hy;obtain⟨t,rfl⟩:=rv;exact⟨.none_str _ _,.none_str _ _,.none_str _ _⟩
   case tup=>obtain⟨a,xs,rfl,ha,_⟩:=hy;cases rv;obtain⟨Ye,_,p,_⟩:=I.tuple ha;exact⟨.none_tuple p hu',.none_tuple p hu',.none_tuple p hu'⟩
   case lst=>obtain⟨a,xs,rfl,ha,_⟩:=hy;cases rv;obtain⟨Ye,_,p,_⟩:=I.list ha;exact⟨.none_list p.isList hu',.none_list p.isList hu',.none_list p.isList hu'⟩
  | bl c =>
   unfold Yh at hx;subst hx;cases ru;cases e <;> unfold Yh at hy
   case non=>subst hy;cases rv;exact⟨.bool_none _,.bool_none _,.bool_none _⟩
   case bl=>subst hy;cases rv;unfold eqD;exact⟨.bool_bool _ _,.bool_bool _ _,.bool_bool _ _⟩
   case int=>subst hy;obtain⟨t,rfl⟩:=rv;unfold eqD;exact⟨.bool_int _ _ _,.bool_int _ _ _,.bool_int _ _ _⟩
   case str=>subst hy;obtain⟨t,rfl⟩:=rv;exact⟨.bool_str _ _ _,.bool_str _ _ _,.bool_str _ _ _⟩
   case tup=>obtain⟨a,xs,rfl,ha,_⟩:=hy;cases rv;obtain⟨Ye,_,p,_⟩:=I.tuple ha;exact⟨.bool_tuple _ p hu',.bool_tuple _ p hu',.bool_tuple _ p hu'⟩
   case lst=>obtain⟨a,xs,rfl,ha,_⟩:=hy;cases rv;obtain⟨Ye,_,p,_⟩:=I.list ha;exact⟨.bool_list _ p.isList hu',.bool_list _ p.isList hu',.bool_list _ p.isList hu'⟩
  | int c =>
   unfold Yh at hx;subst hx;obtain⟨t0,rfl⟩:=ru;cases e <;> unfold Yh at hy
   case non=>subst hy;cases rv;exact⟨.int_none _ _,.int_none _ _,.int_none _ _⟩
   case bl=>subst hy;cases rv;unfold eqD;exact⟨.int_bool _ _ _,.int_bool _ _ _,.int_bool _ _ _⟩
   case int=>subst hy;obtain⟨t,rfl⟩:=rv;unfold eqD;exact⟨.int_int _ _ _ _,.int_int _ _ _ _,.int_int _ _ _ _⟩
   case str=>subst hy;obtain⟨t,rfl⟩:=rv;exact⟨.int_str _ _ _ _,.int_str _ _ _ _,.int_str _ _ _ _⟩
   case tup=>obtain⟨a,xs,rfl,ha,_⟩:=hy;cases rv;obtain⟨Ye,_,p,_⟩:=I.tuple ha;exact⟨.int_tuple _ _ p hu',.int_tuple _ _ p hu',.int_tuple _ _ p hu'⟩
   case lst=>obtain⟨a,xs,rfl,ha,_⟩:=hy;cases rv;obtain⟨Ye,_,p,_⟩:=I.list ha;exact⟨.int_list _ _ p.isList hu',.int_list _ _ p.isList hu',.int_list _ _ p.isList hu'⟩
  | str c =>
   unfold Yh at hx;subst hx;obtain⟨t0,rfl⟩:=ru;cases e <;> unfold Yh at hy
   case non=>subst hy;cases rv;exact⟨.str_none _ _,.str_none _ _,.str_none _ _⟩
   case bl=>subst hy;cases rv;exact⟨.str_bool _ _ _,.str_bool _ _ _,.str_bool _ _ _⟩
   case int=>subst hy;obtain⟨t,rfl⟩:=rv;exact⟨.str_int _ _ _ _,.str_int _ _ _ _,.str_int _ _ _ _⟩
   case str=>subst hy;obtain⟨t,rfl⟩:=rv;unfold eqD;exact⟨.str_str _ _ _ _,.str_str _ _ _ _,.str_str _ _ _ _⟩
   case tup=>obtain⟨a,xs,rfl,ha,_⟩:=hy;cases rv;obtain⟨Ye,_,p,_⟩:=I.tuple ha;exact⟨.str_tuple _ _ p hu',.str_tuple _ _ p hu',.str_tuple _ _ p hu'⟩
   case lst=>obtain⟨a,xs,rfl,ha,_⟩:=hy;cases rv;obtain⟨Ye,_,p,_⟩:=I.list ha;exact⟨.str_list _ _ p.isList hu',.str_list _ _ p.isList hu',.str_list _ _ p.isList hu'⟩
 | succ n ih =>
  intro A d e x y u v hd hu hx hy ru rv;have hu':A.units < cLine:=by lia
  have hin:A.in1.units+n < cLine:=by show A.units+1+n < cLine;lia
  cases d with
  | tup ds =>
   unfold AY at hd;unfold Yh at hx;obtain⟨a,xs,rfl,ha,hr⟩:=hx;cases ru;cases e <;> unfold Yh at hy
   case tup es =>
    obtain⟨b,ys,rfl,hb,hr'⟩:=hy;cases rv;refine Ny I hu' ha hb hr hr' fun i d e x y u v e1 e2 e3 e4 ru rv=>?_
    obtain⟨x',q1,q2⟩:=hr.get e1;obtain⟨y',q3,q4⟩:=hr'.get e2;rw[e3]at q1;cases q1;rw[e4]at q3;cases q3;exact(ih A.in1 d e x y u v (by have:=Je e1;lia) hin q2 q4 ru rv).1
   case non=>subst hy;cases rv;obtain⟨Ye,_,p,_⟩:=I.tuple ha;exact⟨.tuple_none p hu',.tuple_none p hu',.tuple_none p hu'⟩
   case bl=>subst hy;cases rv;obtain⟨Ye,_,p,_⟩:=I.tuple ha;exact⟨.tuple_bool _ p hu',.tuple_bool _ p hu',.tuple_bool _ p hu'⟩
   case int=>subst hy;obtain⟨t,rfl⟩:=rv;obtain⟨Ye,_,p,_⟩:=I.tuple ha;exact⟨.tuple_int _ _ p hu',.tuple_int _ _ p hu',.tuple_int _ _ p hu'⟩
   case str=>subst hy;obtain⟨t,rfl⟩:=rv;obtain⟨Ye,_,p,_⟩:=I.tuple ha;exact⟨.tuple_str _ _ p hu',.tuple_str _ _ p hu',.tuple_str _ _ p hu'⟩
   case lst=>obtain⟨b,ys,rfl,hb,_⟩:=hy;cases rv;obtain⟨Ye,_,p,_⟩:=I.tuple ha;obtain⟨its2,_,p2,_⟩:=I.list hb;exact⟨.tuple_list p p2.isList hu',.tuple_list p p2.isList hu',.tuple_list p p2.isList hu'⟩
  | lst ds =>
   unfold AY at hd;unfold Yh at hx;obtain⟨a,xs,rfl,ha,hr⟩:=hx;cases ru;cases e <;> unfold Yh at hy
   case lst es =>
    obtain⟨b,ys,rfl,hb,hr'⟩:=hy;cases rv;refine Vc I hu' ha hb hr hr' fun i d e x y u v e1 e2 e3 e4 ru rv=>?_
    obtain⟨x',q1,q2⟩:=hr.get e1;obtain⟨y',q3,q4⟩:=hr'.get e2;rw[e3]at q1;cases q1;rw[e4]at q3;cases q3;exact(ih A.in1 d e x y u v (by have:=Je e1;lia) hin q2 q4 ru rv).1
   case non=>subst hy;cases rv;obtain⟨Ye,_,p,_⟩:=I.list ha;exact⟨.list_none p.isList hu',.list_none p.isList hu',.list_none p.isList hu'⟩
   case bl=>subst hy;cases rv;obtain⟨Ye,_,p,_⟩:=I.list ha;exact⟨.list_bool _ p.isList hu',.list_bool _ p.isList hu',.list_bool _ p.isList hu'⟩
   case int=>subst hy;obtain⟨t,rfl⟩:=rv;obtain⟨Ye,_,p,_⟩:=I.list ha;exact⟨.list_int _ _ p.isList hu',.list_int _ _ p.isList hu',.list_int _ _ p.isList hu'⟩
   case str=>subst hy;obtain⟨t,rfl⟩:=rv;obtain⟨Ye,_,p,_⟩:=I.list ha;exact⟨.list_str _ _ p.isList hu',.list_str _ _ p.isList hu',.list_str _ _ p.isList hu'⟩
   case tup=>obtain⟨b,ys,rfl,hb,_⟩:=hy;cases rv;obtain⟨Ye,_,p,_⟩:=I.list ha;obtain⟨its2,_,p2,_⟩:=I.tuple hb;exact⟨.list_tuple p.isList p2 hu',.list_tuple p.isList p2 hu',.list_tuple p.isList p2 hu'⟩
  | non=>exact ih A .non e x y u v (by unfold AY;lia) (by lia) hx hy ru rv
  | bl c=>exact ih A (.bl c) e x y u v (by unfold AY;lia) (by lia) hx hy ru rv
  | int c=>exact ih A (.int c) e x y u v (by unfold AY;lia) (by lia) hx hy ru rv
  | str c=>exact ih A (.str c) e x y u v (by unfold AY;lia) (by lia) hx hy ru rv
end
section
variable {X:Cx}
noncomputable def mEq(neg:Bool)(K:W.Frag):R2:=fun x y H Q=>match x,y with
 | .non,.non=>Q (.bl (neg ^^ true)) H
 | .bl a,.bl b=>Q (.bl (neg ^^ (a == b))) H
 | .int a,.int b=>Q (.bl (neg ^^ (a == b))) H
 | .str a,.str b=>Q (.bl (neg ^^ (a == b))) H
 | x,y=>∃d e,Yh K H d x/\Yh K H e y/\AY d<=60/\Q (.bl (neg ^^ eqD d e)) H
theorem RP(hu:X.A.units+60 < cLine):Ys X (compareOp .Eq) (fun x y H Q=>∃d e,Yh X.K H d x/\Yh X.K H e y/\AY d<=60/\Q (.bl (eqD d e)) H):=by
 intro Ya s σ H x y v u Q I rx ry h;obtain⟨d,e,h1,h2,h3,q⟩:=h;exact(IS I 60 X.A d e x y v u h3 hu h1 h2 rx ry).2.1 X.prog X.w _ _ ⟨.bl _,H,I,rfl,q⟩
theorem om_neAll(hu:X.A.units+60 < cLine):Ys X (compareOp .NotEq) (fun x y H Q=>∃d e,Yh X.K H d x/\Yh X.K H e y/\AY d<=60/\Q (.bl (!eqD d e)) H):=by
 intro Ya s σ H x y v u Q I rx ry h;obtain⟨d,e,h1,h2,h3,q⟩:=h;exact(IS I 60 X.A d e x y v u h3 hu h1 h2 rx ry).2.2 X.prog X.w _ _ ⟨.bl _,H,I,rfl,q⟩
theorem KL{neg:Bool}{x:V}(h:mEq neg K x y H Q):∃d e,Yh K H d x/\Yh K H e y/\AY d<=60/\Q (.bl (neg ^^ eqD d e)) H:=by
 unfold mEq at h;split at h
 ·exact⟨.non,.non,by unfold Yh;rfl,by unfold Yh;rfl,by unfold AY;lia,by unfold eqD;exact h⟩
 ·rename_i a b;exact⟨.bl a,.bl b,by unfold Yh;rfl,by unfold Yh;rfl,by unfold AY;lia,by unfold eqD;exact h⟩
 ·rename_i a b;exact⟨.int a,.int b,by unfold Yh;rfl,by unfold Yh;rfl,by unfold AY;lia,by unfold eqD;exact h⟩
 ·rename_i a b;exact⟨.str a,.str b,by unfold Yh;rfl,by unfold Yh;rfl,by unfold AY;lia,by unfold eqD;exact h⟩
 ·exact h
theorem Qg(hu:X.A.units+60 < cLine):Ys X (compareOp .Eq) (mEq false X.K):=(RP hu).imp fun x y H Q h=>by
 obtain⟨d,e,h1,h2,h3,q⟩:=KL h;exact⟨d,e,h1,h2,h3,by rw[Zs]at q;exact q⟩
theorem Ui(hu:X.A.units+60 < cLine):Ys X (compareOp .NotEq) (mEq true X.K):=(om_neAll hu).imp fun x y H Q h=>by
 obtain⟨d,e,h1,h2,h3,q⟩:=KL h;exact⟨d,e,h1,h2,h3,by rw[Bool.true_xor]at q;exact q⟩
end
section
variable {X:Cx}{a b c e:Expr}{es:List Expr}{ta tb tc te:TE}{tA tB':TT}{t:TA}{pos p:Pos}{x:Str}
noncomputable def isB(v:V)(Q:Bool->Prop):Prop:=match v with
 | .bl c=>Q c
 | _=>False
theorem Dh{Q:Bool->Prop}(h:isB v Q):∃c,v=.bl c/\Q c:=by
 cases v <;> first | exact False.elim h | exact⟨_,rfl,h⟩
noncomputable def Aj(t:TE):Prop:=∀σ H (Q Q':VK),(∀v H,Q v H->Q' v H)->t σ H Q->t σ H Q'
noncomputable def uB(t:TE):TT:=fun σ H Q=>t σ H fun x H1=>isB x fun c=>Q c H1
theorem Ak{op:CmpOp}(ho:Ys X (compareOp op) r)(ha:PE X a ta)(hb:PE X b tb)(hm:behindInMarks op b=false:=by first | exact Fz _ (by decide) (by decide) | rfl):PT X (.Compare a [op] [b] pos) (uB (tOp r ta tb)):=by
 intro Ya s σ H Q I h
 refine wpAny_isTrue_Compare1 (Yn (ha Ya s σ H _ I h) fun v s1 ⟨x,H1,I1,r1,q1⟩=>Yn (hb Ya s1 σ H1 _ I1 q1) fun u s2 ⟨y,H2,I2,r2,q2⟩ =>
  Yn (ho Ya s2 σ H2 x y v u _ I2 r1 r2 q2) fun c s3 ⟨z,H3,I3,r3,q⟩=>?_) hm
 obtain⟨k,e,q3⟩:=Dh q;subst e;cases r3;exact ZBS ⟨H3,I3,q3⟩
theorem Ba{op:CmpOp}(ho:Ys X (compareOp op) r)(ha:PE X a ta)(hb:PE X b tb)(hm:behindInMarks op b=false:=by first | exact Fz _ (by decide) (by decide) | rfl):PE X (.Compare a [op] [b] pos) (tOp r ta tb):=Rc ho ha hb hm
theorem CY(h:PE X e te)(he:∀whole,isTrue e X.env whole=(do let v <- whole;standAt e.pos;holding [v] (truthy v)):=by intro _;rfl):PT X e (uB te):=by
 intro Ya s σ H Q I hq;refine isTrue_plain (Yn (h Ya s σ H _ I hq) fun v s1 ⟨x,H1,I1,r1,q1⟩=>?_) (he _);obtain⟨k,e,q⟩:=Dh q1;subst e;cases r1;exact ZBS ⟨H1,I1,q⟩
noncomputable def TY(r r':R2)(ta tb tc:TE):TE:=fun σ H Q=>ta σ H fun x H1=>tb σ H1 fun y H2=>r x y H2 fun z H3=>isB z fun k =>
 (if k=true then tc σ H3 fun w' H4=>r' y w' H4 Q else Q (.bl false) H3)
theorem UB {op op':CmpOp} {r':R2} (ho:Ys X (compareOp op) r) (ho':Ys X (compareOp op') r') (ha:PE X a ta) (hb:PE X b tb) (hc:PE X c tc)
 (hm:lastMarks [op,op'] [b,c]=false:=by with_unfolding_all rfl):PT X (.Compare a [op,op'] [b,c] pos) (uB (TY r r' ta tb tc)):=by
 intro Ya s σ H Q I h
 refine isTrue_chain (Yn (ha Ya s σ H _ I h) fun v s1 ⟨x,H1,I1,r1,q1⟩=>test_link (Yn (hb Ya s1 σ H1 _ I1 q1) fun u s2 ⟨y,H2,I2,r2,q2⟩ =>
  Yn (ho Ya s2 σ H2 x y v u _ I2 r1 r2 q2) fun d s3 ⟨z,H3,I3,r3,q⟩=>?_)) hm
 obtain⟨k,e,q3⟩:=Dh q;subst e;cases r3;refine ZBS ?_;cases k with
 | false =>
  have q3:Q false H3:=q3;exact ite_ff ⟨H3,I3,q3⟩
 | true =>
  refine ite_tt (test_last (Yn (hc Ya s3 σ H3 _ I3 q3) fun w' s4 ⟨z',H4,I4,r4,q4⟩=>Yn (ho' Ya s4 σ H4 y z' u w' _ I4 r2 r4 q4) fun d' s5 ⟨z2,H5,I5,r5,q5⟩=>?_));obtain⟨k2,e2,q5⟩:=Dh q5;subst e2;cases r5;exact ZBS ⟨H5,I5,q5⟩
noncomputable def Sa(ta tb:TE):TE:=fun σ H Q=>ta σ H fun x H1=>isB x fun c=>if c=true then tb σ H1 Q else Q (.bl false) H1
noncomputable def Km(ta:TE):TE:=fun σ H Q=>ta σ H fun x H1=>isB x fun c=>Q (.bl (!c)) H1
theorem Qe(ha:PE X a ta)(hb:PE X (.BoolOp .And (b::es) pos) tb):PE X (.BoolOp .And (a::b::es) pos) (Sa ta tb):=by
 have ha':PE X a (fun σ H Q=>ta σ H fun x H1=>isB x fun c=>Q (.bl c) H1):=fun Ya s σ H Q I h=>Yn (ha Ya s σ H _ I h) fun v s1 ⟨x,H1,I1,r1,q1⟩=>by
  obtain⟨c,e,q⟩:=Dh q1;subst e;exact⟨.bl c,H1,I1,r1,q⟩
 have h:=N3 (pos:=pos) ha' hb
 exact h.imp fun σ H Q q=>by
  show ta σ H fun x H1=>isB x fun c=>∃c',V.bl c=.bl c'/\if c'=true then tb σ H1 Q else Q (.bl false) H1
  have e:(fun(x:V) (H1:Hp)=>isB x fun c=>∃c',V.bl c=.bl c'/\if c'=true then tb σ H1 Q else Q (.bl false) H1)=fun x H1=>isB x fun c=>if c=true then tb σ H1 Q else Q (.bl false) H1:=by
   funext x H1
   cases x <;> first | rfl | (apply propext;constructor;(rintro⟨c',e,h⟩;cases e;exact h);(intro h;exact⟨_,rfl,h⟩))
  rw[e];exact q
theorem OZ(ha:PE X a ta):PE X (.UnaryOp .Not a pos) (Km ta):=by
 have ha':PE X a (fun σ H Q=>ta σ H fun x H1=>isB x fun c=>Q (.bl c) H1):=fun Ya s σ H Q I h=>Yn (ha Ya s σ H _ I h) fun v s1 ⟨x,H1,I1,r1,q1⟩=>by
  obtain⟨c,e,q⟩:=Dh q1;subst e;exact⟨.bl c,H1,I1,r1,q⟩
 have h:=Ts (pos:=pos) ha'
 exact h.imp fun σ H Q q=>by
  show ta σ H fun x H1=>isB x fun c=>∃c',V.bl c=.bl c'/\Q (.bl (!c')) H1
  have e:(fun(x:V) (H1:Hp)=>isB x fun c=>∃c',V.bl c=.bl c'/\Q (.bl (!c')) H1)=fun x H1=>isB x fun c=>Q (.bl (!c)) H1:=by
   funext x H1
   cases x <;> first | rfl | (apply propext;constructor;(rintro⟨c',e,h⟩;cases e;exact h);(intro h;exact⟨_,rfl,h⟩))
  rw[e];exact q
noncomputable def SqA(K:W.Frag)(H:Hp)(p:Addr)(xs:List V):Prop:=Yt K H p xs\/Yq K H p xs
noncomputable def mIx(K:W.Frag):R2:=fun x y H Q=>match x,y with
 | .ref p,.int i=>∃xs v,SqA K H p xs/\atI xs i=some v/\Q v H
 | .str z,.int i=>∃c,z.length<=sizeLine/\atI z.cps.toList i=some c/\Q (.str ⟨#[c]⟩) H
 | _,_=>False
theorem IxR.imp{r':R2}(h:IxR X r)(g:∀x y H Q,r' x y H Q->r x y H Q):IxR X r':=fun a b Ya s σ H x y v u Q I rx ry q z=>h a b Ya s σ H x y v u Q I rx ry (g _ _ _ _ q) z
theorem Np:IxR X (mIx X.K):=ix_seq.imp fun x y H Q q=>by
 cases x <;> cases y <;> first
  | exact False.elim q
  | (obtain⟨xs,v,h | h,e,q⟩:=q
     ·exact .inl ⟨_,xs,_,v,rfl,rfl,h,e,q⟩
     ·exact .inr (.inl ⟨_,xs,_,v,rfl,rfl,h,e,q⟩))
  | (obtain⟨c,hz,e,q⟩:=q
     exact .inr (.inr ⟨_,_,c,rfl,rfl,hz,e,q⟩))
theorem Of(ha:PE X a ta)(hb:PE X b tb)(hs:HQ b:=by intro _ _;rfl):PE X (.Subscript a b pos) (tOp (mIx X.K) ta tb):=Oo Np ha hb hs
noncomputable def Fd(K:W.Frag):List V->Hp->VK->Prop:=fun xs H Q=>match xs with
 | [x]=>∃n,Lh K x H n/\Q (.int n) H
 | _=>False
theorem Qa:CallR X (.builtin "len") (Fd X.K):=call_len.imp fun xs H Q q=>by
 match xs,q with
 | [x],⟨n,h,q⟩=>exact⟨x,n,rfl,h,q⟩
noncomputable def G6:List V->Hp->VK->Prop:=fun xs H Q=>match xs with
 | [.int i,.int j]=>Q (.int (min i j)) H
 | _=>False
theorem Nj(hc:X.calm=true):CallR X (.builtin "min") G6:=(Rz hc).imp fun xs H Q q=>by
 match xs,q with
 | [.int i,.int j],q =>
  refine⟨i,j,rfl,?_⟩;have e:(if j < i then j else i)=min i j:=by split <;> lia
  rw[e];exact q
noncomputable def GE:List V->Hp->VK->Prop:=fun xs H Q=>match xs with
 | [.int i]=>Q (.int i) H
 | [.bl k]=>Q (.int (if k then 1 else 0)) H
 | _=>False
theorem GN:CallR X (.type "int") GE:=call_int1.imp fun xs H Q q=>by
 match xs,q with
 | [.int i],q=>exact .inl ⟨i,rfl,q⟩
 | [.bl k],q=>exact .inr ⟨k,rfl,q⟩
noncomputable def Fa(K:W.Frag):List V->Hp->VK->Prop:=fun xs H Q=>match xs with
 | [.ref p]=>∃ys,(Yt K H p ys/\∀l,H l=none->Q (.ref l) (upd H l (.tup ys)))\/(Yq K H p ys/\Q (.ref p) H)
 | _=>False
theorem VA:CallR X (.type "tuple") (Fa X.K):=call_tuple_of.imp fun xs H Q q=>by
 match xs,q with
 | [.ref p],⟨ys,q⟩=>exact⟨p,ys,rfl,q⟩
noncomputable def MZ(K:W.Frag):List V->Hp->VK->Prop:=fun xs H Q=>match xs with
 | [.ref p]=>∃ys,SqA K H p ys/\∀l,H l=none->Q (.ref l) (upd H l (.lst ys))
 | _=>False
theorem P4:CallR X (.type "list") (MZ X.K):=call_list_of.imp fun xs H Q q=>by
 match xs,q with
 | [.ref p],⟨ys,h,q⟩=>exact⟨p,ys,rfl,h,q⟩
noncomputable def kinds:List String:=["int","bool","str","tuple","list","dict"]
end
noncomputable def Fe(scope sc:Scope):Bool :=
 decide (scope.kind=.function) && decide (scope.names.map (·.1)).Nodup && scope.names.all fun y=>!(y.2 == .free) || (sc.names.lookup y.1 == some .cell || sc.names.lookup y.1 == some .free)
theorem CompScope.of{scope sc:Scope}(h:Fe scope sc=true):CompScope scope sc:=by
 unfold Fe at h;rw[ZY,ZY]at h;obtain⟨⟨h1,h2⟩,h3⟩:=h;refine⟨ZZ h1,ZZ h2,fun y hy hf=>?_⟩
 have:=ZBj.mp h3 y hy
 rw[hf]at this
 rcases(Bool.or_eq_true _ _).mp this with z | z
 ·exact absurd z (by decide)
 ·rcases(Bool.or_eq_true _ _).mp z with z | z
  ·exact .inl (by simpa using z)
  ·exact .inr (by simpa using z)
section
variable {X:Cx}{tg iter elt:Expr}{ifs:List Expr}{scope:Scope}{pos:Pos}{N':List Str}{own:Nat}{ix:List Nat}{g:TG}{tc:TT}{te:TE}{wi:TI}
theorem frB{l:List Str}(h:(l.all fun x=>scope.names.lookup x == some .free)=true):∀x∈l,scope.names.lookup x=some .free:=fun x hx=>by
 have:=ZBj.mp h x hx
 simpa using this
theorem Aq (hc:X.calm=true) (hi:PI X tg iter wi) (S:Fe scope X.env.scope=true)
 (Yl:N'.length=own+ix.length) (hN:(N'.drop own).map some=ix.map (X.N[·]?)) (hfr:((N'.drop own).all fun x=>scope.names.lookup x == some .free)=true)
 (hg:∀c,PG (X.comp scope N' c) tg g) (hgo:Cv own g) (ht:∀c,PTs (X.comp scope N' c) ifs tc) (he:∀c,PE (X.comp scope N' c) elt te)
 (hs:∀x,foldedSetIterable iter X.env x=pure x:=by intro _;rfl):PE X (.ListComp elt [⟨tg,iter,ifs,0⟩] scope pos) (Dr wi own ix g tc te) :=
 Qm hc hi (.of S) Yl hN (frB hfr) hg hgo ht he hs
theorem DA {i:Nat} {y:Str} {py spos:Pos} (hc:X.calm=true) (hnd:X.N.Nodup) (hiy:X.N[i]? = some y) (hy:X.env.scope.names.lookup y=some .local) (hi:PI X tg iter wi) (S:Fe scope X.env.scope=true)
 (Yl:N'.length=own+ix.length) (hN:(N'.drop own).map some=ix.map (X.N[·]?)) (hfr:((N'.drop own).all fun x=>scope.names.lookup x == some .free)=true)
 (hg:∀c,PG (X.comp scope N' c) tg g) (hgo:Cv own g) (ht:∀c,PTs (X.comp scope N' c) ifs tc) (he:∀c,PE (X.comp scope N' c) elt te)
 (hsw:swapsWith (.ListComp elt [⟨tg,iter,ifs,0⟩] scope pos) (some (.Name y py)) spos.line X.env=pure true)
 (hs:∀x,foldedSetIterable iter X.env x=pure x:=by intro _;rfl):PS X (.Assign [.Name y py] (.ListComp elt [⟨tg,iter,ifs,0⟩] scope pos) spos) (DS (Dr wi own ix g tc te) (Af i)) :=
 QF hc hnd hiy hy hi (.of S) Yl hN (frB hfr) hg hgo ht he hsw hs
noncomputable def HV(K:W.Frag)(tl:TE):TI:=fun σ H R=>tl σ H fun x H1=>match x with
 | .ref a=>((∃xs,Yt K H1 a xs)/\R (Itl K a) H1)\/((∃xs,Yq K H1 a xs)/\R (Itt K a) H1)
 | _=>False
theorem Sn{l:Expr}{tl:TE}(hl:PE X l tl):PI X tg l (HV X.K tl):=by
 intro Ya s σ H R I h;refine Yn (hl Ya s σ H _ I h) fun v s1 ⟨x,H1,I1,r1,q1⟩=>?_
 cases x with
 | ref a =>
  cases r1
  rcases q1 with ⟨⟨xs,hq⟩,q⟩ | ⟨⟨xs,hq⟩,q⟩
  ·obtain⟨Ye,rv,p,hz⟩:=I1.list hq;refine wpAny_pyIter_list p.isList ?_;refine⟨s1.heap.objs.size,[s1.heap.objs.size],_,_,H1,rfl,I1.kept (t':=s1.toks) fun b o e=>ZH _ e,Pa a _,⟨_,ZM _ rfl,rfl,rfl⟩,fun b hb=>?_,q⟩;have e:b=s1.heap.objs.size:=by simpa using hb
   subst e;exact I1.fpOk (ZD _) (I1.hok.fresh (ZD _))
  ·obtain⟨Ye,rv,p,hz⟩:=I1.tuple hq;refine wpAny_pyIter_tuple (show s1.heap.IsTuple a Ye.toArray from p) ?_;refine⟨s1.heap.objs.size,[s1.heap.objs.size],_,_,H1,rfl,I1.kept (t':=s1.toks) fun b o e=>ZH _ e,TN a _,⟨_,ZM _ rfl,rfl,rfl⟩,fun b hb=>?_,q⟩;have e:b=s1.heap.objs.size:=by simpa using hb
   subst e;exact I1.fpOk (ZD _) (I1.hok.fresh (ZD _))
 | _=>exact False.elim q1
noncomputable def G7:DU:=fun o i v H Q=>match o,i with
 | .ref p,.int k=>∃xs j,H p=some (.lst xs)/\ixN xs.length k=some j/\Q (upd H p (.lst (xs.set j v)))
 | _,_=>False
theorem C8:Gf X G7:=by
 intro Ya s σ H o i v ov iv u Q I ro ri rv h
 cases o <;> cases i <;> first
  | exact False.elim h
  | (obtain⟨xs,j,h1,h2,q⟩:=h
     exact TJ Ya s σ H _ _ v ov iv u Q I ro ri rv ⟨_,xs,_,j,rfl,rfl,h1,h2,q⟩)
theorem B1 (Pv:Nat->List V->Hp->Prop) (h0:Pv 0 [] H) (hl:∀i ys H,i<=xs.length->Pv i ys H->Yt K H a xs) (hz:∀i ys H,i < xs.length->Pv i ys H->ys.length < sizeLine)
 (hs:∀i x ys H,xs[i]? = some x->Pv i ys H->g x σc H fun σ2 H2=>tc σ2 H2 fun b H3=>if b=true then te σ2 H3 fun y H4=>Pv (i+1) (ys++[y]) H4 else Pv (i+1) ys H3)
 (hd:∀ys H,Pv xs.length ys H->∀p,H p=none->Q (.ref p) (upd H p (.lst ys))):C4 (Itl K a) g tc te σc Q H:=by
 refine⟨fun i m ys H=>m=xs.length - i/\i<=xs.length/\Pv i ys H,⟨xs.length,by simp,ZP _,h0⟩,?_⟩;rintro i m ys H ⟨rfl,hi,p⟩;have q:=hl i ys H hi p
 by_cases Ym:i < xs.length
 ·refine .inr ⟨⟨xs,xs[i],q,by simp[Ym]⟩,hz i ys H Ym p,Pv (i+1),fun ys' H' p'=>⟨xs.length - (i+1),by lia,rfl,Ym,p'⟩,fun x H' y=>?_⟩;obtain⟨e,y⟩:=y;subst e;exact hs i x ys _ (y xs q) p
 ·have e:i=xs.length:=by lia
  subst e;exact .inl ⟨⟨xs,q,ZD _⟩,hd ys H p⟩
theorem Cg (Pv:Nat->List V->Hp->Prop) (h0:Pv 0 [] H) (hl:∀i ys H,i<=xs.length->Pv i ys H->Yq K H a xs) (hz:∀i ys H,i < xs.length->Pv i ys H->ys.length < sizeLine)
 (hs:∀i x ys H,xs[i]? = some x->Pv i ys H->g x σc H fun σ2 H2=>tc σ2 H2 fun b H3=>if b=true then te σ2 H3 fun y H4=>Pv (i+1) (ys++[y]) H4 else Pv (i+1) ys H3)
 (hd:∀ys H,Pv xs.length ys H->∀p,H p=none->Q (.ref p) (upd H p (.lst ys))):C4 (Itt K a) g tc te σc Q H:=by
 refine⟨fun i m ys H=>m=xs.length - i/\i<=xs.length/\Pv i ys H,⟨xs.length,by simp,ZP _,h0⟩,?_⟩;rintro i m ys H ⟨rfl,hi,p⟩;have q:=hl i ys H hi p
 by_cases Ym:i < xs.length
 ·refine .inr ⟨⟨xs,xs[i],q,by simp[Ym]⟩,hz i ys H Ym p,Pv (i+1),fun ys' H' p'=>⟨xs.length - (i+1),by lia,rfl,Ym,p'⟩,fun x H' y=>?_⟩;obtain⟨e,y⟩:=y;subst e;exact hs i x ys _ (y xs q) p
 ·have e:i=xs.length:=by lia
  subst e;exact .inl ⟨⟨xs,q,ZD _⟩,hd ys H p⟩
theorem BU {lo:Int} (Pv:Nat->List V->Hp->Prop) (h0:Pv 0 [] H) (hz:∀i ys H,i < n->Pv i ys H->ys.length < sizeLine)
 (hs:∀i ys H,i < n->Pv i ys H->g (.int (lo+i)) σc H fun σ2 H2=>tc σ2 H2 fun b H3=>if b=true then te σ2 H3 fun y H4=>Pv (i+1) (ys++[y]) H4 else Pv (i+1) ys H3)
 (hd:∀ys H,Pv n ys H->∀p,H p=none->Q (.ref p) (upd H p (.lst ys))):C4 (Itr lo n) g tc te σc Q H:=by
 refine⟨fun i m ys H=>m=n - i/\i<=n/\Pv i ys H,⟨n,by simp,ZP _,h0⟩,?_⟩;rintro i m ys H ⟨rfl,hi,p⟩
 by_cases Ym:i < n
 ·refine .inr ⟨Ym,hz i ys H Ym p,Pv (i+1),fun ys' H' p'=>⟨n - (i+1),by lia,rfl,Ym,p'⟩,fun x H' y=>?_⟩;obtain⟨e,y⟩:=y;subst e y;exact hs i ys _ Ym p
 ·have e:i=n:=by lia
  subst e;exact .inl ⟨ZD _,hd ys H p⟩
noncomputable def LH(c:TT)(tb:TS):TS:=fun D σ H=>∃W:Nat->St->Hp->Prop,(∃m,W m σ H)/\∀m σ H,W m σ H ->
 c σ H fun b H1=>if b=true then tb { D with nx:=fun σ' H'=>∃m',m' < m/\W m' σ' H',ct:=fun σ' H'=>∃m',m' < m/\W m' σ' H',bk:=D.nx } σ H1 else D.nx σ H1
theorem Jp{c:Expr}{body:List Stmt}{tc:TT}{tb:TS}(hp:PassesOwn (model X.prog X.w) X.A X.env X.xe)(hc:PT X c tc)(hb:PSs X body tb):PS X (.While c body [] pos) (LH tc tb):=by
 intro Ya s σ H D I h;obtain⟨W,⟨m0,w0⟩,turn⟩:=h;refine wpAny_While (codeAny_whileLoop (fun n s'=>∃σ' H',Yf X Ya σ' H' s'/\W n σ' H') ?_ m0 ⟨σ,H,I,w0⟩);rintro n s1 ⟨σ1,H1,I1,w1⟩;refine wpAny_passesOwn hp (Yn (hc Ya s1 σ1 H1 _ I1 (turn n σ1 H1 w1)) fun b s2 ⟨H2,I2,q2⟩=>?_);cases b with
 | true =>
  rw[if_pos rfl]at q2;rw[if_pos rfl];refine wpAny_passesOwn hp (Yn (hb Ya s2 σ1 H2 _ I2 q2) fun f s3 q3=>?_);cases f with
  | next =>
   obtain⟨σ3,H3,I3,m',hm,w3⟩:=q3;exact⟨m',hm,σ3,H3,I3,w3⟩
  | cont =>
   obtain⟨σ3,H3,I3,m',hm,w3⟩:=q3;exact⟨m',hm,σ3,H3,I3,w3⟩
  | brk=>exact q3
  | ret v=>exact q3
 | false =>
  rw[if_neg Zo]at q2;rw[if_neg Zo];exact wpAny_execs_nil ⟨σ1,H2,I2,q2⟩
end
theorem Aa{k:Nat}(hr:Room k A):A.units+60 < cLine:=by have:=hr.un;lia
noncomputable def Yk(t:Addr)(H H':Hp):Prop:=∀b o,b≠t->H b=some o->H' b=some o
theorem Yk.refl{t:Addr}:Yk t H H:=fun _ _ _ h=>h
theorem Yk.trans{t:Addr}{H1 H2:Hp}(a:Yk t H H1)(b:Yk t H1 H2):Yk t H H2:=fun c o n h=>b c o n (a c o n h)
theorem Yk.upd{t p:Addr}(h:H p=none):Yk t H (upd H p o):=fun b u _ e=>by rw[AH (BD e h)];exact e
theorem Yk.updT{t:Addr}:Yk t H (L2.upd H t o):=fun b u n e=>by rw[AH n];exact e
theorem Yc.upd{p:Addr}(h:H p=none):Yc H (L2.upd H p o):=fun b u e=>by rw[AH (BD e h)];exact e
theorem Ko(h:Yt K H a xs)(k:∀o,H a=some o->H' a=some o):Yt K H' a xs:=by
 rcases h with (h | ⟨o,h⟩) | h
 ·exact .inl (.inl (k _ h))
 ·exact .inl (.inr ⟨o,k _ h⟩)
 ·exact .inr h
theorem Ip(h:Yq K H a xs)(k:∀o,H a=some o->H' a=some o):Yq K H' a xs:=by
 rcases h with (h | ⟨o,h⟩) | h
 ·exact .inl (.inl (k _ h))
 ·exact .inl (.inr ⟨o,k _ h⟩)
 ·exact .inr h
theorem Ai{i:Int}(h:i=(n:Int))(hx:xs[n]? = some v):atI xs i=some v:=by
 subst h;have hn:n < xs.length:=(Zr.mp hx).1;unfold atI ixN;rw[if_pos (ZBx n),if_pos (by lia)];simpa using hx
theorem RV{ns:List Int}{i:Int}(h0:0<=i)(h1:i < ns.length):∃z,atI (ns.map V.int) i=some (.int z):=by
 obtain⟨n,rfl⟩:=ZBk h0;have hn:n < ns.length:=by lia
 exact⟨ns[n],Ai rfl (by rw[ZR,ZE hn];rfl)⟩
theorem An{j:Int}(h1:0 < j)(h2:j<=2 ^ 1000):okDiv j:=⟨h1,Int.lt_of_le_of_lt h2 (by decide)⟩
theorem CF(h:n<=1000):n<=sizeLine:=Zq (Ad h)
theorem smq(h:Nat.ble n 1000=true):n<=sizeLine:=CF (Nat.le_of_ble_eq_true h)
noncomputable def Cd(t:TT):Prop:=∀σ H (Q Q':Bool->Hp->Prop),(∀b H,Q b H->Q' b H)->t σ H Q->t σ H Q'
noncomputable def Br(t:TA):Prop:=∀σ H (Q Q':List V->Hp->Prop),(∀b H,Q b H->Q' b H)->t σ H Q->t σ H Q'
noncomputable def Bj(r:R2):Prop:=∀x y H (Q Q':VK),(∀v H,Q v H->Q' v H)->r x y H Q->r x y H Q'
noncomputable def NT(r:V->Hp->VK->Prop):Prop:=∀x H (Q Q':VK),(∀v H,Q v H->Q' v H)->r x H Q->r x H Q'
noncomputable def CU(r:List V->Hp->VK->Prop):Prop:=∀xs H (Q Q':VK),(∀v H,Q v H->Q' v H)->r xs H Q->r xs H Q'
noncomputable def HR(r:V->List V->Hp->VK->Prop):Prop:=∀x xs H (Q Q':VK),(∀v H,Q v H->Q' v H)->r x xs H Q->r x xs H Q'
noncomputable def AZ(sp:Sp):Prop:=∀vs H (Q Q':VK) E,(∀v H,Q v H->Q' v H)->sp vs H Q E->sp vs H Q' E
noncomputable def EI(t:TI):Prop:=∀σ H (Q Q':It->Hp->Prop),(∀J H,Q J H->Q' J H)->t σ H Q->t σ H Q'
noncomputable def Ln(t:DU):Prop:=∀o i v H (Q Q':Hp->Prop),(∀H,Q H->Q' H)->t o i v H Q->t o i v H Q'
structure Ends.le(D D':Ends):Prop where
 nx:∀σ H,D.nx σ H->D'.nx σ H
 rt:∀v H,D.rt v H->D'.rt v H
 bk:∀σ H,D.bk σ H->D'.bk σ H
 ct:∀σ H,D.ct σ H->D'.ct σ H
noncomputable def BV(t:TS):Prop:=∀D D' σ H,Ends.le D D'->t D σ H->t D' σ H
theorem Sm:Aj (FW i):=fun σ H Q Q' h q=>by
 unfold FW at *;split at q
 ·exact h _ _ q
 ·exact q.elim
theorem Qr:Aj (tC v):=fun _ _ _ _ h q=>h _ _ q
theorem Sh{tb:TE}(hr:Bj r)(ha:Aj ta)(hb:Aj tb):Aj (tOp r ta tb):=fun σ H Q Q' h q=>ha _ _ _ _ (fun _ _ q=>hb _ _ _ _ (fun _ _ q=>hr _ _ _ _ _ h q) q) q
theorem Od{r:V->Hp->VK->Prop}(hr:NT r)(ha:Aj ta):Aj (tUn r ta):=fun σ H Q Q' h q=>ha _ _ _ _ (fun _ _ q=>hr _ _ _ _ h q) q
theorem Uv{K}:Bj (DO K):=fun x y H Q Q' h q=>by
 unfold DO at *;split at q
 ·exact h _ _ q
 ·exact⟨q.1,h _ _ q.2⟩
 ·rcases q with ⟨l,b,xs,zs,e1,e2,h1,h2,h3,q⟩ | ⟨a,b,xs,ys,e1,e2,h1,h2,h3,h4,q1,q2⟩
  ·exact .inl ⟨l,b,xs,zs,e1,e2,h1,h2,h3,fun p hp=>h _ _ (q p hp)⟩
  ·exact .inr ⟨a,b,xs,ys,e1,e2,h1,h2,h3,h4,fun e=>h _ _ (q1 e),fun e p hp=>h _ _ (q2 e p hp)⟩
 ·exact q.elim
theorem Ua:Bj Iy:=fun x y H Q Q' h q=>by
 unfold Iy at *;split at q
 ·exact⟨q.1,h _ _ q.2⟩
 ·obtain⟨l,k,xs,e1,e2,h1,h2,h3,h4,q⟩:=q;exact⟨l,k,xs,e1,e2,h1,h2,h3,h4,fun p hp=>h _ _ (q p hp)⟩
 ·exact q.elim
theorem Tj:Bj GQ:=fun x y H Q Q' h q=>by unfold GQ at *;split at q <;> first | exact⟨q.1,h _ _ q.2⟩ | exact q.elim
theorem N9:Bj Gj:=fun x y H Q Q' h q=>by unfold Gj at *;split at q <;> first | exact⟨q.1,h _ _ q.2⟩ | exact q.elim
theorem RI:Bj JO:=fun x y H Q Q' h q=>by unfold JO at *;split at q <;> first | exact⟨q.1,h _ _ q.2⟩ | exact q.elim
theorem OD:Bj HU:=fun x y H Q Q' h q=>by unfold HU at *;split at q <;> first | exact⟨q.1,h _ _ q.2⟩ | exact q.elim
theorem Tp:NT Ik:=fun x H Q Q' h q=>by unfold Ik at *;split at q <;> first | exact h _ _ q | exact q.elim
theorem Pj{p}:Bj (Em p):=fun x y H Q Q' h q=>by unfold Em at *;split at q <;> first | exact h _ _ q | exact q.elim
theorem Um{n K}:Bj (mEq n K):=fun x y H Q Q' h q=>by
 unfold mEq at *;split at q <;> first | exact h _ _ q | (obtain⟨d,e,h1,h2,h3,q⟩:=q;exact⟨d,e,h1,h2,h3,h _ _ q⟩)
theorem Ol{K}:Bj (mIx K):=fun x y H Q Q' h q=>by
 unfold mIx at *;split at q
 ·obtain⟨xs,v,h1,h2,q⟩:=q;exact⟨xs,v,h1,h2,h _ _ q⟩
 ·obtain⟨c,h1,h2,q⟩:=q;exact⟨c,h1,h2,h _ _ q⟩
 ·exact q.elim
theorem Lo{Q Q':Bool->Prop}(h:∀b,Q b->Q' b)(q:isB v Q):isB v Q':=by
 cases v <;> first | exact h _ q | exact q
theorem Oz{t:TE}(h:Aj t):Cd (uB t):=fun σ H Q Q' k q=>h _ _ _ _ (fun _ _ q=>Lo (fun b q=>k b _ q) q) q
theorem RB(ha:Aj ta):Aj (Km ta):=fun σ H Q Q' h q=>ha _ _ _ _ (fun _ _ q=>Lo (fun b q=>h _ _ q) q) q
theorem VF{t:TT}{tb:TE}(ht:Cd t)(ha:Aj ta)(hb:Aj tb):Aj (tIf t ta tb):=fun σ H Q Q' h q=>ht _ _ _ _ (fun b _ q=>by
 cases b with
 | true=>exact ha _ _ _ _ h q
 | false=>exact hb _ _ _ _ h q) q
theorem VL{t u:TT}(ht:Cd t)(hu:Cd u):Cd (Ki t u):=fun σ H Q Q' h q=>ht _ _ _ _ (fun b _ q=>by
 cases b with
 | true=>exact hu _ _ _ _ h q
 | false=>exact h _ _ q) q
theorem U6{t:TT}(ht:Cd t):Cd (KZ t):=fun σ H Q Q' h q=>ht _ _ _ _ (fun b _ q=>h _ _ q) q
theorem No:Br Fj:=fun _ _ _ _ h q=>h _ _ q
theorem RE{t:TA}(ha:Aj ta)(ht:Br t):Br (Gz ta t):=fun σ H Q Q' h q=>ha _ _ _ _ (fun _ _ q=>ht _ _ _ _ (fun _ _ q=>h _ _ q) q) q
theorem TF{r}{t:TA}(hr:CU r)(ht:Br t):Aj (tCB r t):=fun σ H Q Q' h q=>ht _ _ _ _ (fun _ _ q=>hr _ _ _ _ h q) q
theorem Re{sp dvs E}{t:TA}(hs:AZ sp)(ht:Br t):Aj (Lx sp dvs E t):=fun σ H Q Q' h q=>ht _ _ _ _ (fun _ _ q=>hs _ _ _ _ _ h q) q
theorem Rg{t:TA}(ht:Br t):Aj (Jh t):=fun σ H Q Q' h q=>ht _ _ _ _ (fun _ _ q=>⟨q.1,fun p hp=>h _ _ (q.2 p hp)⟩) q
theorem U4{t:TA}(ht:Br t):Aj (LY t):=fun σ H Q Q' h q=>ht _ _ _ _ (fun _ _ q=>⟨q.1,fun p hp=>h _ _ (q.2 p hp)⟩) q
theorem Nr{wi own ix g tc te}(hi:EI wi):Aj (Dr wi own ix g tc te):=fun σ H Q Q' h q=>hi _ _ _ _ (fun J H1 q=>by
 obtain⟨W,w0,turn⟩:=q;refine⟨W,w0,fun i m ys H w=>?_⟩
 rcases turn i m ys H w with ⟨a,b⟩ | r
 ·exact .inl ⟨a,fun p hp=>h _ _ (b p hp)⟩
 ·exact .inr r) q
theorem RY{K}:CU (Fd K):=fun xs H Q Q' h q=>by unfold Fd at *;split at q <;> first | (obtain⟨n,a,q⟩:=q;exact⟨n,a,h _ _ q⟩) | exact q.elim
theorem VS:CU G6:=fun xs H Q Q' h q=>by unfold G6 at *;split at q <;> first | exact h _ _ q | exact q.elim
theorem Sr:CU GE:=fun xs H Q Q' h q=>by unfold GE at *;split at q <;> first | exact h _ _ q | exact q.elim
theorem Ng{K}:CU (Fa K):=fun xs H Q Q' h q=>by
 unfold Fa at *;split at q
 ·obtain⟨ys,⟨a,q⟩ | ⟨a,q⟩⟩:=q
  ·exact⟨ys,.inl ⟨a,fun l hl=>h _ _ (q l hl)⟩⟩
  ·exact⟨ys,.inr ⟨a,h _ _ q⟩⟩
 ·exact q.elim
theorem Pe{K}{tl:TE}(h:Aj tl):EI (HV K tl):=fun σ H Q Q' k q=>h _ _ _ _ (fun v H1 q=>by
 cases v <;> first | exact q.elim | (rcases q with ⟨a,q⟩ | ⟨a,q⟩
                                     ·exact .inl ⟨a,k _ _ q⟩
                                     ·exact .inr ⟨a,k _ _ q⟩)) q
theorem N7{ta:TA}(h:Br ta):EI (Lf ta):=fun σ H Q Q' k q=>h _ _ _ _ (fun _ _ ⟨j,e,a,b,q⟩=>⟨j,e,a,b,k _ _ q⟩) q
theorem PR{ta:TA}(h:Br ta):EI (KG ta):=fun σ H Q Q' k q=>h _ _ _ _ (fun _ _ ⟨i,j,e,a,q⟩=>⟨i,j,e,a,k _ _ q⟩) q
theorem OT:Ln G7:=fun o i v H Q Q' h q=>by
 unfold G7 at *;split at q
 ·obtain⟨xs,j,a,b,q⟩:=q;exact⟨xs,j,a,b,h _ q⟩
 ·exact q.elim
theorem SB{to ti:TE}{t:DU}(h1:Aj to)(h2:Aj ti)(h3:Ln t):DZ (NB to ti t):=fun v σ H Q Q' h q=>h1 _ _ _ _ (fun _ _ q=>h2 _ _ _ _ (fun _ _ q=>h3 _ _ _ _ _ _ (fun H q=>h _ _ q) q) q) q
theorem Th:BV CJ:=fun D D' σ H h q=>h.nx _ _ q
theorem Om{t u:TS}(h1:BV t)(h2:BV u):BV (IG t u):=fun D D' σ H h q=>h1 { D with nx:=u D } { D' with nx:=u D' } σ H ⟨fun σ H q=>h2 D D' σ H h q,h.rt,h.bk,h.ct⟩ q
theorem PM{g:TG}(h1:Aj te)(h2:DZ g):BV (DS te g):=fun D D' σ H h q=>h1 _ _ _ _ (fun _ _ q=>h2 _ _ _ _ _ h.nx q) q
theorem U5(h1:Aj te):BV (NR te):=fun D D' σ H h q=>h1 _ _ _ _ h.rt q
theorem Tz(h1:Aj te):BV (JJ te):=fun D D' σ H h q=>h1 _ _ _ _ (fun _ _ q=>h.nx _ _ q) q
theorem RA{c:TT}{t u:TS}(hc:Cd c)(h1:BV t)(h2:BV u):BV (Ms c t u):=fun D D' σ H h q=>hc _ _ _ _ (fun b _ q=>by
 cases b with
 | true=>exact h1 _ _ _ _ h q
 | false=>exact h2 _ _ _ _ h q) q
theorem T7{c:TT}{tb:TS}(hc:Cd c)(h1:BV tb):BV (LH c tb):=fun D D' σ H h q=>by
 obtain⟨W,w0,turn⟩:=q;refine⟨W,w0,fun m σ H w=>hc _ _ _ _ (fun b H1 q=>?_) (turn m σ H w)⟩;cases b with
 | true=>exact h1 { D with nx:=fun σ' H'=>∃m',m' < m/\W m' σ' H',ct:=fun σ' H'=>∃m',m' < m/\W m' σ' H',bk:=D.nx } _ _ _ ⟨fun _ _ q=>q,h.rt,h.nx,fun _ _ q=>q⟩ q
 | false=>exact h.nx _ _ q
theorem UW{wi:TI}{g:TG}{tb:TS}(hi:EI wi)(hg:DZ g)(h1:BV tb):BV (Ju wi g tb):=fun D D' σ H h q=>hi _ _ _ _ (fun J H1 q=>by
 obtain⟨W,w0,turn⟩:=q;refine⟨W,w0,fun i m σ H w=>?_⟩
 rcases turn i m σ H w with ⟨a,b⟩ | ⟨a,N,hN,step⟩
 ·exact .inl ⟨a,h.nx _ _ b⟩
 ·exact .inr ⟨a,N,hN,fun x H' y=>hg _ _ _ _ _ (fun σ2 H2 q=>h1 { D with nx:=N,ct:=N,bk:=D.nx } _ _ _ ⟨fun _ _ q=>q,h.rt,h.nx,fun _ _ q=>q⟩ q) (step x H' y)⟩) q
theorem Ag{t u:TS}{D:Ends}{σ:St}(J:St->Hp->Prop)(h1:t { D with nx:=J } σ H)(h2:∀σ' H',J σ' H'->u D σ' H')(hm:BV t):IG t u D σ H :=
 hm { D with nx:=J } { D with nx:=u D } σ H ⟨h2,fun _ _ q=>q,fun _ _ q=>q,fun _ _ q=>q⟩ h1
section
variable {X:Cx}{K:W.Frag}{a b c e l tg:Expr}{es:List Expr}{ta tb tc te tl:TE}{pos p:Pos}
theorem A8(hK:X.K=K:=by rfl):Ys X (binaryOp .Add) (DO K):=hK ▸ OU
theorem kEq(hu:X.A.units+60 < cLine)(hK:X.K=K:=by rfl):Ys X (compareOp .Eq) (mEq false K):=hK ▸ Qg hu
theorem kNe(hu:X.A.units+60 < cLine)(hK:X.K=K:=by rfl):Ys X (compareOp .NotEq) (mEq true K):=hK ▸ Ui hu
theorem Yo(ha:PE X a ta)(hb:PE X b tb)(hs:HQ b:=by intro _ _;rfl)(hK:X.K=K:=by rfl):PE X (.Subscript a b pos) (tOp (mIx K) ta tb):=hK ▸ Of ha hb hs
theorem BA(hK:X.K=K:=by rfl):CallR X (.builtin "len") (Fd K):=hK ▸ Qa
theorem A9(hK:X.K=K:=by rfl):CallR X (.type "tuple") (Fa K):=hK ▸ VA
theorem KW(hK:X.K=K:=by rfl):CallR X (.type "list") (MZ K):=hK ▸ P4
theorem BB(hl:PE X l tl)(hK:X.K=K:=by rfl):PI X tg l (HV K tl):=hK ▸ Sn hl
theorem JD {k:Nat} {t:TGs} (hc:X.calm=true) (h:PGs X es t)
 (hn:(assignEach es X.env).length=n:=by rfl) (hst:(assignEach es X.env).findIdx? (·.1)=none:=by rfl) (hK:X.K=K:=by rfl):PG X (.Tuple es k pos) (Ie K n t):=hK ▸ NO hc h hn hst
end
theorem Yf.turnedNew {Ya:List (Addr × Obj)} {σ:St} {s:Shared} {h':Heap} {ch:List Addr} {T:Addr} (I:Yf X Ya σ H s) (hf:∀b∈ch,A7 X Ya H b) (hT:s.heap.objs.size<=T)
 (k:∀b u,b∉ch->s.heap.get? b=some u->h'.get? b=some u) (new:ObjOk X.prog X.w (upd H T o) h' T o) (th:∀b∈ch,∃u,h'.get? b=some u):Yf X Ya σ (upd H T o) { s with heap:=h' }:=by
 have hTn:H T=none:=I.hok.fresh hT;have nT:∀b u,H b=some u->b≠T:=fun b u e z=>by rw[z,hTn]at e;cases e
 have nc:∀b u,H b=some u->b∉ch:=fun b u e z=>by rw[(hf b z).1]at e;cases e
 refine I.step (g':=s.gens) (d':=s.drawn) (t':=s.toks) (ch:=ch) (fun b hb=>?_) (fun b u _ _ hc e _=>k b u hc e) (fun b u _ _ hc e _=>⟨u.slots,k b u hc e⟩) (fun b u hc e n=>?_) (fun b u hc e=>⟨u,k b u hc e⟩)
  (fun b xs e=>by rw[AH (nT _ _ e)];exact e) (fun b u v e=>by rw[AH (nT _ _ e)];exact e) (fun b ps e=>⟨#[],by rw[AH (nT _ _ e),e];simp⟩) (fun m hm=>?_) (fun b u e=>?_) I.bare
 ·obtain⟨q1,q2,q3,q4,q5,q6⟩:=hf b hb;exact⟨q4,q2,q5,q6⟩
 ·rw[AH (ZK (ZS (ZG e) hT))];exact n
 ·obtain⟨u,es,ep,ho,r⟩:=hm;exact⟨u,es,ep,k _ u (fun z=>(hf _ z).2.1 rfl) ho,r⟩
 ·by_cases hb:b=T
  ·subst hb;rw[AC]at e;cases e;exact new
  ·rw[AH hb]at e;refine(I.hok b u e).stay (fun c v hc q=>k c v ?_ q) (fun c q=>by rw[AH (nT _ _ q)];exact q) fun c xs q=>by rw[AH (nT _ _ q)];exact q
   rcases hc with z | z
   ·rw[z];exact nc b u e
   ·exact nc c _ z
section
variable {X:Cx}{K:W.Frag}{o e:Expr}{es:List Expr}{to:TE}{t:TA}{apos cpos:Pos}
noncomputable def Dq:V->List V->Hp->VK->Prop:=fun x vs H Q=>match x,vs with
 | .ref l,[y]=>∃xs,H l=some (.lst xs)/\xs.length < sizeLine/\Q .non (upd H l (.lst (xs++[y])))
 | _,_=>False
theorem Px:MtR X "list.append" Dq:=by
 intro Ya s σ H x vs v us Q I rx rv q
 match x,vs,q with
 | .ref l,[y],⟨xs,h1,h2,q⟩=>exact Va Ya s σ H _ _ v us Q I rx rv ⟨l,xs,y,rfl,rfl,h1,h2,q⟩
theorem Du (ho:PE X o to) (ha:PA X [e] t) (hbase:attributeBase o "append" X.env (eval o X.env)=eval o X.env:=by rfl)
 (hfew:((backTo cpos (starEach [e] X.env)).all (fun x=>!x.1) && (backToKw cpos (keywordEach [] X.env)).all (fun x=>x.1.isSome)
   && decide ([e].length+([]:List Keyword).length+(if ([]:List Keyword).isEmpty then 0 else 1) < 30))=true:=by rfl)
 (hline:(apos.endLine == cpos.line)=true:=by rfl) (hs:starEach [e] X.env=(false,eval e X.env)::starEach [] X.env:=by rfl) (hplain:(backTo cpos (starEach [] X.env)).any (·.1)=false:=by rfl) (hK:X.K=K:=by rfl) :
 PE X (.Call (.Attribute o "append" apos) [e] [] cpos) (tBM K "list" Dq to t):=hK ▸ GI PySem.F.plainAttrs_list PySem.F.slot_list_append PySem.F.type_list_append Px ho ha hbase hfew hline hs hplain
noncomputable def MV(K:W.Frag):V->List V->Hp->VK->Prop:=fun x vs H Q=>match x,vs with
 | .ref l,[y]=>∃(xs:List V) (j:Nat) (z:V),Yt K H l xs/\Bg y=true/\xs.all Bg=true/\xs[j]? = some z/\eqV z y=true/\(∀(m:Nat) (v:V),m < j->xs[m]? = some v->eqV v y=false)/\Q (.int j) H
 | _,_=>False
theorem Qb:MtR X "list.index" (MV X.K):=by
 intro Ya s σ H x vs v us Q I rx rv q
 match x,vs,q with
 | .ref l,[y],⟨xs,j,z,h1,h2,h3,h4,h5,h6,q⟩ =>
 cases rx;obtain⟨u,rfl,ru⟩:=rv.one;obtain⟨Ye,r,pl,hz⟩:=I.list h1;obtain⟨⟨cls,dd,data,sl⟩,n,ho,hc,hd,hs⟩:=id pl;simp only at hc hs;subst hc hs;have hj:j < xs.length:=(Zr.mp h4).1;have Yl:=r.length;have flat:∀(m:Nat) (v:V),xs[m]? = some v->Bg v=true:=fun m v e=>ZBj.mp h3 v (Zz e)
 have val:∀(m:Nat) (hm:m < Ye.toArray.size) (v:V),xs[m]? = some v->eqU y Ye.toArray[m]=eqV v y:=fun m hm v e=>by
  obtain⟨w',q1,q2⟩:=r.get e
  have e2:Ye.toArray[m]=w':=by
   rw[ZBs];rw[ZE (by simpa using hm)]at q1;exact ZQ q1
  rw[e2];exact Hk q2 (flat m v e)
 have line:=DY;refine call_meets F.slot_list_index ⟨_,ho,rfl⟩ F.entry_list_index (F.args_list_index_2 _ _) (SeqAt.list_indexAt l Ye.toArray n dd sl u (eqU y) j (by simp;lia) (by lia) ?_ ?_) ⟨ho,fun w hw=>FT ru h2 r h3 w (by simpa using hw),?_⟩
 ·rw[val j (by simp;lia) z h4];exact h5
 ·intro m hm hmj
  have:m < xs.length:=by simp at hm;lia
  rw[val m hm _ (ZE this)];exact h6 m _ hmj (ZE this)
 ·exact⟨.int _,H,I.tok _,⟨_,rfl⟩,q⟩
theorem VV (ho:PE X o to) (ha:PA X [e] t) (hbase:attributeBase o "index" X.env (eval o X.env)=eval o X.env:=by rfl)
 (hfew:((backTo cpos (starEach [e] X.env)).all (fun x=>!x.1) && (backToKw cpos (keywordEach [] X.env)).all (fun x=>x.1.isSome)
   && decide ([e].length+([]:List Keyword).length+(if ([]:List Keyword).isEmpty then 0 else 1) < 30))=true:=by rfl)
 (hline:(apos.endLine == cpos.line)=true:=by rfl) (hs:starEach [e] X.env=(false,eval e X.env)::starEach [] X.env:=by rfl) (hplain:(backTo cpos (starEach [] X.env)).any (·.1)=false:=by rfl) (hK:X.K=K:=by rfl) :
 PE X (.Call (.Attribute o "index" apos) [e] [] cpos) (tBM K "list" (MV K) to t):=hK ▸ GI PySem.F.plainAttrs_list PySem.F.slot_list_index PySem.F.type_list_index Qb ho ha hbase hfew hline hs hplain
theorem QT{T:String}{r:V->List V->Hp->VK->Prop}(h1:Aj to)(h2:Br t)(h3:HR r):Aj (tBM K T r to t):=fun σ H Q Q' h q=>h1 _ _ _ _ (fun _ _ q=>⟨q.1,h2 _ _ _ _ (fun _ _ q=>h3 _ _ _ _ _ h q) q.2⟩) q
theorem QS:HR Dq:=fun x xs H Q Q' h q=>by
 unfold Dq at *;split at q
 ·obtain⟨ys,a,b,q⟩:=q;exact⟨ys,a,b,h _ _ q⟩
 ·exact q.elim
noncomputable def Jl(K:W.Frag):List V->Hp->VK->Prop:=fun xs H Q=>match xs with
 | [.ref l]=>∃ns:List Int,Yt K H l (ns.map V.int)/\Q (.int ns.sum) H
 | _=>False
theorem Nz(hc:X.calm=true):CallR X (.builtin "sum") (Jl X.K):=by
 intro Ya s σ H xs us Q I r q
 match xs,q with
 | [.ref l],q =>
 obtain⟨ns,hl,q⟩:=q;obtain⟨u,rfl,ru⟩:=Bd r;cases ru;obtain⟨Ye,rv,pl,hz⟩:=I.list hl;have hi:IntsAre Ye ns:=by simpa using D8 rv
 obtain⟨zs,hzs⟩:=(hi.allInts).items;have e:(numsOf Ye).sum=ns.sum:=by rw[hi.numsOf]
 have pl':=pl.isList;rw[hzs]at pl';refine sum_intListG (I.ok.hd hc) pl' fun h' tk t' hk=>?_
 refine⟨.int _,H,I.kept hk,⟨t',rfl⟩,?_⟩
 have e2:preSum (numAt zs) zs.size=ns.sum:=by
  rw[preSum_eq,ZBV (by simp),<- e];rw[show Ye=Ye.toArray.toList by simp,hzs,nums_intItems]
 rw[e2];exact q
theorem OI(hc:X.calm=true)(hK:X.K=K:=by rfl):CallR X (.builtin "sum") (Jl K):=hK ▸ Nz hc
end
section
variable {prog:Program}{w:World}{A:Around}{E:Value->Shared->Prop}{s:Shared}
theorem K0{it t:Addr}{items:Array Value}(Yr:t≠it):∀(n i:Nat) (s:Shared) (Q:List Value->Shared->Prop),s.heap.IsListIter it t i->s.heap.IsList t items->i+n<=items.size ->
 (∀h',h'.IsListIter it t (i+n)->Heap.SameBut it s.heap h'->Q ((items.toList.drop i).take n) { s with heap:=h' })->wpAny (model prog w) A (draw (.ref it) n) Q E s
 | 0,i,s,Q,hit,_,_,hQ=>by
  show wpAny _ _ (pure []) Q E s;exact ZB (by simpa using hQ s.heap hit (Heap.SameBut.refl ..))
 | n+1,i,s,Q,hit,ht,hle,hQ=>by
  have Ym:i < items.size:=by lia
  show wpAny _ _ (pyNext (.ref it) >>= _) Q E s;refine ZA (wpAny_pyNext_list_item hit ht (x:=items[i]) (by simp[Ym]) fun h₁ hit₁ hs₁=>?_);refine ZA (Ze (K0 Yr n (i+1) _ _ hit₁ (ht.extBut hs₁.extBut Yr) (by lia) fun h₂ hit₂ hs₂=>ZB ?_));have hd:items.toList.drop i=items[i]::items.toList.drop (i+1):=by simp[List.drop_eq_getElem_cons,Ym]
  have:=hQ h₂ (by rw[show i+(n+1)=i+1+n by lia];exact hit₂) (hs₁.trans hs₂)
  rw[hd,List.take_succ_cons]at this;exact this
theorem Oi {t:Addr} {items:Array Value} {Q:List Value->Shared->Prop} (hh:A.handled=none) (ht:s.heap.IsList t items)
 (hQ:∀h',Heap.ExtBut s.heap.objs.size s.heap h'->Q items.toList { s with heap:=h' }):wpAny (model prog w) A (unpackItems (.ref t) items.size none) Q E s:=by
 have Ym:t≠s.heap.objs.size:=by obtain⟨o,ho,_⟩:=ht;exact ZK (ZG ho)
 unfold unpackItems;refine ZA ?_
 ·unfold notIterableAtAll;refine ZA (wpAny_specialOf ht.typeIs slot_list_iter.lookup ?_);refine ZB ?_;simp only[ZBy,if_false];refine ZA (Ze (wpAny_pyIter_list ht ?_));refine ZA (Ze (K0 Ym items.size 0 _ _ ⟨_,ZM _ rfl,rfl,rfl⟩ (ht.at fun o e=>ZH _ e) (by lia) fun h₁ hit₁ hs₁=>?_))
  have hall:List.take items.size (List.drop 0 items.toList)=items.toList:=by
   rw[List.drop_zero];exact ZBV (by simp)
  rw[hall];rw[if_neg (by simp)];have ht₁:h₁.IsList t items:=(Heap.IsList.at ht fun o e=>ZH _ e).extBut hs₁.extBut Ym;refine ZA (Ze (wpAny_pyNext_list_end hh hit₁ ht₁ (by simp) fun h₂ he₂=>?_));simp only[Option.isSome_none,ZBy,if_false];refine ZB (hQ h₂ fun b o hb e=>he₂ b o hb (hs₁.extBut b o hb (ZH _ e)))
theorem Oe {env:Env} {elts:List Expr} {x1} {t:Addr} {items:Array Value} {Q:Unit->Shared->Prop} (hh:A.handled=none) (ht:s.heap.IsList t items)
 (hn:(assignEach elts env).length=items.size) (hstar:(assignEach elts env).findIdx? (·.1)=none)
 (h:∀h',Heap.ExtBut s.heap.objs.size s.heap h'->wpAny (model prog w) A (assignInOrder ((assignEach elts env).map (·.2)) items.toList) Q E { s with heap:=h' }) :
 wpAny (model prog w) A (assign (.Tuple elts x1 pos) env (.ref t)) Q E s:=by
 rw[assign_Tuple];refine ZA (ZBI ?_);unfold unpack;rw[hn,hstar];exact ZA (Ze (Oi hh ht h))
end
section
variable {X:Cx}{K:W.Frag}{pos p2:Pos}{e:Expr}{lo hi:Option Expr}{te:TE}{tl th:TO}
noncomputable def Nt(K:W.Frag)(n:Nat)(t:TGs):TG:=fun v σ H Q=>match v with
 | .ref a=>∃xs,SqA K H a xs/\xs.length=n/\t xs σ H Q
 | _=>False
theorem Rs {k:Nat} {t:TGs} (hc:X.calm=true) (h:PGs X es t)
 (hn:(assignEach es X.env).length=n:=by rfl) (hst:(assignEach es X.env).findIdx? (·.1)=none:=by rfl) (hK:X.K=K:=by rfl):PG X (.Tuple es k pos) (Nt K n t):=by
 subst hK;intro Ya s σ H v u Q I r hw;cases v with
 | ref a =>
  obtain⟨xs,hq | hq,hl,hw⟩:=hw
  ·cases r;obtain⟨Ye,rv,ht,hz⟩:=I.list hq;refine Oe (I.ok.hd hc) ht.isList (by simp[hn,<- hl,rv.length]) hst fun h' hx=>?_
   have I1:Yf X Ya σ H { s with heap:=h' }:=I.kept (t':=s.toks) fun b o e=>hx b o (ZK (ZG e)) e
   exact h Ya _ σ H xs _ Q I1 (by simpa using rv) hw
  ·exact NO hc h hn hst Ya s σ H _ u Q I r ⟨a,xs,rfl,hq,hl,hw⟩
 | _=>exact False.elim hw
noncomputable def MQ(K:W.Frag):V->Option Int->Option Int->Hp->VK->Prop:=fun x lo hi H Q=>match x with
 | .ref a=>∃xs,(Yt K H a xs/\∀p,H p=none->Q (.ref p) (upd H p (.lst (BO xs lo hi)))) \/
  (Yq K H a xs/\¬(HT.sIx xs.length 0 lo=0/\HT.sIx xs.length xs.length hi=xs.length)/\∀p,H p=none->Q (.ref p) (upd H p (.tup (BO xs lo hi))))
 | _=>False
theorem QX:SlR X (MQ X.K):=by
 intro Ya s σ H x v vl vu lo hi sl Q I rx hs pl pu q;cases x with
 | ref a =>
  obtain⟨xs,⟨h,q⟩ | ⟨h,h2,q⟩⟩:=q
  ·exact VJ Ya s σ H _ v vl vu lo hi sl Q I rx hs pl pu ⟨a,xs,rfl,h,q⟩
  ·exact LV Ya s σ H _ v vl vu lo hi sl Q I rx hs pl pu ⟨a,xs,rfl,h,h2,q⟩
 | _=>exact False.elim q
theorem QO(he:PE X e te)(hl:PO X lo tl)(hu:PO X hi th)(hK:X.K=K:=by rfl):PE X (.Subscript e (.Slice lo hi none p2) pos) (tSl (MQ K) te tl th):=hK ▸ Mn QX he hl hu
noncomputable def Eu(t:TO):Prop:=∀σ H (Q Q':Option Int->Hp->Prop),(∀b H,Q b H->Q' b H)->t σ H Q->t σ H Q'
theorem O3:Eu K2:=fun _ _ _ _ h q=>h _ _ q
theorem S8(h:Aj te):Eu (Kd te):=fun σ H Q Q' k q=>h _ _ _ _ (fun _ _ ⟨i,e,q⟩=>⟨i,e,k _ _ q⟩) q
end
theorem P8(h:Yq K H a xs)(s:Yc H H'):Yq K H' a xs:=Ip h fun o e=>s a o e
mutual
theorem Yh.same(s:Yc H H'):∀(d:Dv) (v:V),Yh K H d v->Yh K H' d v
 | .non,v,h=>by unfold Yh at *;exact h
 | .bl b,v,h=>by unfold Yh at *;exact h
 | .int i,v,h=>by unfold Yh at *;exact h
 | .str x,v,h=>by unfold Yh at *;exact h
 | .tup ds,v,h=>by
  unfold Yh at *;obtain⟨a,xs,e,h1,h2⟩:=h;exact⟨a,xs,e,P8 h1 s,Yd.same s ds xs h2⟩
 | .lst ds,v,h=>by
  unfold Yh at *;obtain⟨a,xs,e,h1,h2⟩:=h;exact⟨a,xs,e,Ko h1 fun o e=>s a o e,Yd.same s ds xs h2⟩
theorem Yd.same(s:Yc H H'):∀(ds:List Dv) (xs:List V),Yd K H ds xs->Yd K H' ds xs
 | [],xs,h=>by unfold Yd at *;exact h
 | d::ds,xs,h=>by
  unfold Yd at *;obtain⟨x,r,e,h1,h2⟩:=h;exact⟨x,r,e,Yh.same s d x h1,Yd.same s ds r h2⟩
end
mutual
noncomputable def Bh:Dv->Bool
 | .tup ds=>Az ds
 | .lst _=>false
 | _=>true
noncomputable def Az:List Dv->Bool
 | []=>true
 | d::ds=>Bh d && Az ds
end
mutual
theorem Yh.frm{t:Addr}(s:Yk t H H')(ht:∃zs,H t=some (.lst zs)):∀(d:Dv) (v:V),Bh d=true->Yh K H d v->Yh K H' d v
 | .non,v,_,h=>by unfold Yh at *;exact h
 | .bl b,v,_,h=>by unfold Yh at *;exact h
 | .int i,v,_,h=>by unfold Yh at *;exact h
 | .str x,v,_,h=>by unfold Yh at *;exact h
 | .tup ds,v,hd,h=>by
  unfold Bh at hd;unfold Yh at *;obtain⟨a,xs,e,h1,h2⟩:=h;refine⟨a,xs,e,?_,Yd.frm s ht ds xs hd h2⟩;obtain⟨zs,hz⟩:=ht
  rcases h1 with (h1 | ⟨o,h1⟩) | h1
  ·exact .inl (.inl (s a _ (fun q=>by rw[q,hz]at h1;cases h1) h1))
  ·exact .inl (.inr ⟨o,s a _ (fun q=>by rw[q,hz]at h1;cases h1) h1⟩)
  ·exact .inr h1
 | .lst ds,v,hd,h=>by unfold Bh at hd;cases hd
theorem Yd.frm{t:Addr}(s:Yk t H H')(ht:∃zs,H t=some (.lst zs)):∀(ds:List Dv) (xs:List V),Az ds=true->Yd K H ds xs->Yd K H' ds xs
 | [],xs,_,h=>by unfold Yd at *;exact h
 | d::ds,xs,hd,h=>by
  unfold Az at hd;rw[ZY]at hd;unfold Yd at *;obtain⟨x,r,e,h1,h2⟩:=h;exact⟨x,r,e,Yh.frm s ht d x hd.1 h1,Yd.frm s ht ds r hd.2 h2⟩
end
theorem Am{p:Addr}(h:H p=some (.tup xs))(r:Yd K H ds xs):Yh K H (.tup ds) (.ref p):=by unfold Yh;exact⟨p,xs,rfl,.of h,r⟩
theorem AU:Yd K H [] []:=by unfold Yd;rfl
theorem AS{d:Dv}{x:V}(h:Yh K H d x)(r:Yd K H ds xs):Yd K H (d::ds) (x::xs):=by unfold Yd;exact⟨x,xs,rfl,h,r⟩
theorem EZ:Yh K H (.str x) (.str x):=by unfold Yh;rfl
theorem CV{x:Int}:Yh K H (.int x) (.int x):=by unfold Yh;rfl
theorem QW{x:Bool}:Yh K H (.bl x) (.bl x):=by unfold Yh;rfl
theorem Yd.append:∀{ds es:List Dv} {xs ys:List V},Yd K H ds xs->Yd K H es ys->Yd K H (ds++es) (xs++ys)
 | [],es,xs,ys,h,h'=>by unfold Yd at h;subst h;exact h'
 | d::ds,es,xs,ys,h,h'=>by
  unfold Yd at h;obtain⟨x,r,rfl,h1,h2⟩:=h;exact AS h1 (Yd.append h2 h')
section
variable {κ:Type}[DecidableEq κ]
noncomputable def valV(Yg:List (κ × V))(k:κ):Option V:=(Yg.find? fun kv=>decide (kv.1=k)).map (·.2)
noncomputable def BF(Yg:List (κ × V))(k:κ)(v:V):List (κ × V) :=
 if (Yg.any fun kv=>decide (kv.1=k))=true then Yg.map (fun kv=>if kv.1=k then (kv.1,v) else kv) else Yg++[(k,v)]
theorem B3{p:κ × V}{r:List (κ × V)}{k:κ}(e:p.1=k):valV (p::r) k=some p.2:=by simp[valV,ZBl,e]
theorem B9{p:κ × V}{r:List (κ × V)}{k:κ}(e:¬p.1=k):valV (p::r) k=valV r k:=by simp[valV,ZBl,e]
theorem FB(k:κ):∀Yg:List (κ × V),(Yg.any fun kv=>decide (kv.1=k))=(valV Yg k).isSome
 | []=>rfl
 | p::r=>by
  rw[Z9]
  by_cases e:p.1=k
  ·simp only[B3 e,ZT e,Bool.true_or,Option.isSome_some]
  ·rw[B9 e,Zx e,Bool.false_or];exact FB k r
theorem L9(k j:κ)(y:V):∀Yg:List (κ × V),valV (Yg.map fun kv=>if kv.1=k then (kv.1,y) else kv) j=(valV Yg j).map fun x=>if j=k then y else x
 | []=>rfl
 | p::r=>by
  have ih:=L9 k j y r;rw[Zi]
  by_cases h:p.1=k
  ·rw[if_pos h]
   by_cases e:p.1=j
   ·rw[B3 (p:=(p.1,y)) e,B3 e,ZBc,if_pos (e.symm.trans h)]
   ·rw[B9 (p:=(p.1,y)) e,B9 e,ih]
  ·rw[if_neg h]
   by_cases e:p.1=j
   ·rw[B3 (p:=p) e,B3 e,ZBc,if_neg (fun z=>h (e.trans z))]
   ·rw[B9 (p:=p) e,B9 e,ih]
theorem J2(k j:κ)(y:V):∀Yg:List (κ × V),valV Yg k=none->valV (Yg++[(k,y)]) j=if j=k then some y else valV Yg j
 | [],_=>by
  by_cases e:k=j
  ·rw[if_pos e.symm];exact B3 (p:=(k,y)) e
  ·rw[if_neg (fun z=>e z.symm)];exact B9 (p:=(k,y)) e
 | p::r,hn=>by
  rw[List.cons_append];have hk:¬p.1=k:=fun z=>by rw[B3 z]at hn;cases hn
  rw[B9 hk]at hn;have ih:=J2 k j y r hn
  by_cases e:p.1=j
  ·rw[B3 e,B3 e,if_neg (fun z=>hk (e.trans z))]
  ·rw[B9 e,B9 e,ih]
theorem Kr(Yg:List (κ × V))(k j:κ)(y:V):valV (BF Yg k y) j=if j=k then some y else valV Yg j:=by
 unfold BF
 by_cases a:(Yg.any fun kv=>decide (kv.1=k))=true
 ·rw[if_pos a,L9];rw[FB]at a
  by_cases e:j=k
  ·obtain⟨x,hx⟩:=Option.isSome_iff_exists.mp a;rw[if_pos e,e,hx,ZBc,if_pos rfl]
  ·rw[if_neg e];cases valV Yg j with
   | none=>rfl
   | some x=>rw[ZBc,if_neg e]
 ·rw[if_neg a];refine J2 k j y Yg ?_;rw[FB]at a;cases q:valV Yg k with
  | none=>rfl
  | some x=>rw[q]at a;exact(a rfl).elim
theorem K8(Yg:List (κ × V))(k:κ)(v:V):(BF Yg k v).length<=Yg.length+1:=by
 unfold BF;split
 ·rw[ZC];lia
 ·rw[ZL,Zk,List.length_nil];lia
theorem RelO.isSome_eq{o:Option V}{u:Option Value}(r:RelO o u):o.isSome=u.isSome:=by
 cases o with
 | none=>cases u with
  | none=>rfl
  | some _=>exact(show False from r).elim
 | some _=>cases u with
  | none=>exact(show False from r).elim
  | some _=>rfl
theorem KV.val{Yg:List (κ × V)}{vs:List (κ × Value)}(r:KV Yg vs)(k:κ):RelO (valV Yg k) (valueAt vs k):=by
 unfold KV at r
 induction r with
 | nil=>exact True.intro
 | @cons p q ps qs h t ih =>
  obtain⟨h1,h2⟩:=h
  by_cases e:p.1=k
  ·have e':q.1=k:=h1.symm.trans e;have b:valueAt (q::qs) k=some q.2:=by simp[valueAt,ZBl,e']
   rw[B3 e,b];exact h2
  ·have e':¬q.1=k:=fun z=>e (h1.trans z)
   have b:valueAt (q::qs) k=valueAt qs k:=by simp[valueAt,ZBl,e']
   rw[B9 e,b];exact ih
theorem KV.any{Yg:List (κ × V)}{vs:List (κ × Value)}(r:KV Yg vs)(k:κ):(Yg.any fun kv=>decide (kv.1=k))=vs.any fun kv=>decide (kv.1=k):=by
 unfold KV at r
 induction r with
 | nil=>rfl
 | cons h t ih=>rw[Z9,Z9,ih,h.1]
theorem KV.repl{Yg:List (κ × V)}{vs:List (κ × Value)}(r:KV Yg vs)(k:κ)(ry:Yj y u) :
 KV (Yg.map fun kv=>if kv.1=k then (kv.1,y) else kv) (vs.map fun kv=>if kv.1=k then (kv.1,u) else kv):=by
 unfold KV at r ⊢
 induction r with
 | nil=>exact .nil
 | @cons p q ps qs h t ih =>
  rw[Zi,Zi];refine .cons ?_ ih;obtain⟨h1,h2⟩:=h
  by_cases e:p.1=k
  ·rw[if_pos e,if_pos (h1.symm.trans e)];exact⟨h1,ry⟩
  ·rw[if_neg e,if_neg (fun z=>e (h1.trans z))];exact⟨h1,h2⟩
theorem KV.put{Yg:List (κ × V)}{vs:List (κ × Value)}(r:KV Yg vs)(k:κ)(ry:Yj y u):KV (BF Yg k y) (stored vs k u):=by
 unfold BF stored;rw[r.any k]
 by_cases e:(vs.any fun kv=>decide (kv.1=k))=true
 ·rw[if_pos e,if_pos e];exact r.repl k ry
 ·rw[if_neg e,if_neg e];exact Paired.snoc r ⟨rfl,ry⟩
theorem KV.length{Yg:List (κ × V)}{vs:List (κ × Value)}(r:KV Yg vs):Yg.length=vs.length:=Paired.length r
end
theorem EY{k:Key}(r:Yj (kV k) u):(Bm P w).is k u=true:=by
 cases k with
 | inl i=>obtain⟨t,e⟩:=(show ∃t,u=Value.int i t from r);subst e;exact QD P w i t
 | inr x=>obtain⟨t,e⟩:=(show ∃t,u=Value.str x t from r);subst e;exact Uz P w x t
theorem KU:∀{ks:List Key} {us:List Value},Yi (ks.map kV) us->ItemsAre (Bm P w) ks us
 | [],_,r=>by rw[List.map_nil]at r;cases r;exact .nil
 | k::ks,_,r=>by
  rw[Zi]at r;cases r with
  | cons h t=>exact .cons (EY h) (KU t)
noncomputable abbrev KT(H:Hp):List (List Key × V)->List (List Key × Addr × Value)->Prop:=Paired fun p q=>p.1=q.1/\H q.2.1=some (.tup (p.1.map kV))/\Yj p.2 q.2.2
theorem KT.val{xs:List (List Key × Addr × Value)}(r:KT H Yg xs)(k:List Key):RelO (valV Yg k) ((atKey xs k).map (·.2)):=by
 induction r with
 | nil=>exact True.intro
 | @cons p q ps qs h t ih =>
  obtain⟨h1,_,h2⟩:=h
  by_cases e:p.1=k
  ·have e':q.1=k:=h1.symm.trans e;have b:atKey (q::qs) k=some q.2:=by simp[atKey,ZBl,e']
   rw[B3 e,b];exact h2
  ·have e':¬q.1=k:=fun z=>e (h1.trans z)
   have b:atKey (q::qs) k=atKey qs k:=by simp[atKey,ZBl,e']
   rw[B9 e,b];exact ih
theorem KT.repl{xs:List (List Key × Addr × Value)}(r:KT H Yg xs)(k:List Key)(ry:Yj y u) :
 KT H (Yg.map fun kv=>if kv.1=k then (kv.1,y) else kv) (xs.map (putAt k u)):=by
 induction r with
 | nil=>exact .nil
 | @cons p q ps qs h t ih =>
  rw[Zi,Zi];refine .cons ?_ ih;obtain⟨h1,h2,h3⟩:=h;unfold putAt
  by_cases e:p.1=k
  ·rw[if_pos e,if_pos (h1.symm.trans e)];exact⟨h1,h2,ry⟩
  ·rw[if_neg e,if_neg (fun z=>e (h1.trans z))];exact⟨h1,h2,h3⟩
theorem KT.put{xs:List (List Key × Addr × Value)}(r:KT H Yg xs)(k:List Key)(hb:H b=some (.tup (k.map kV)))(ry:Yj y u) :
 KT H (BF Yg k y) (storedH xs k b u):=by
 have e:(Yg.any fun kv=>decide (kv.1=k))=(atKey xs k).isSome:=by
  rw[FB,(r.val k).isSome_eq,Option.isSome_map]
 unfold BF storedH;rw[e]
 by_cases q:(atKey xs k).isSome=true
 ·rw[if_pos q,if_pos q];exact r.repl k ry
 ·rw[if_neg q,if_neg q];exact Paired.snoc r ⟨rfl,hb,ry⟩
theorem KT.keeps{xs:List (List Key × Addr × Value)}(r:KT H Yg xs)(ht:∀b ys,H b=some (.tup ys)->H' b=some (.tup ys)):KT H' Yg xs :=
 Paired.mapP r fun _ _ z=>⟨z.1,ht _ _ z.2.1,z.2.2⟩
section
variable {P:Program}{w:World}{H:Hp}{h:Heap}{a:Addr}
theorem KR{u:HO}(ok:HOk P w H h)(e:Rd H a u):ObjOk P w H h a u:=e.ok ok
theorem Ei{Yg:List (Key × V)}(ok:HOk P w H h)(e:Rd H a (.dK Yg)):Yg.length<=sizeLine/\(a == sysModules)=false/\∃vs,KV Yg vs/\h.DictOf (Bm P w) a vs :=
 show ObjOk P w H h a (.dK Yg) from KR ok e
theorem Us{Yg:List (Key × V)}(ok:HOk P w H h)(e:H a=some (.dK Yg)):Yg.length<=sizeLine/\(a == sysModules)=false/\∃vs,KV Yg vs/\h.DictOf (Bm P w) a vs:=Ei ok (.inl e)
theorem Ev{ks:List Key}(ok:HOk P w H h)(e:H a=some (.tup (ks.map kV))):(tupleKind (Bm P w)).is h ks a:=by
 obtain⟨_,Ye,r,o,h1,h2,⟨n,h3⟩,_⟩:=(show ObjOk P w H h a (.tup (ks.map kV)) from ok a _ e);exact⟨o,Ye.toArray,n,h1,h2,h3,by simpa using KU r⟩
theorem Ef(ok:HOk P w H h)(e:Rd H a (.dT Yg)):Yg.length<=sizeLine/\(a == sysModules)=false /\
 ∃xs,KT H Yg xs/\h.DictOfH (tupleKind (Bm P w)) a xs:=by
 obtain⟨z,y,xs,r,o,es,ep,h1,h2,h3,h4,h5⟩:=(show ObjOk P w H h a (.dT Yg) from KR ok e);refine⟨z,y,xs,r,o,es,ep,h1,h2,h3,h4,fun x hx=>?_,h5⟩
 have all:∀{l:List (List Key × V)} {m:List (List Key × Addr × Value)},KT H l m->∀x∈m,(tupleKind (Bm P w)).is h x.1 x.2.1:=by
  intro l m q
  induction q with
  | nil=>intro x hx;exact nomatch hx
  | @cons p q ps qs hq t ih =>
   intro x hx
   rcases ZI.mp hx with e | hx
   ·subst e;exact Ev ok (by rw[<- hq.1];exact hq.2.1)
   ·exact ih x hx
 exact all r x hx
theorem UN(ok:HOk P w H h)(e:H a=some (.dT Yg)):Yg.length<=sizeLine/\(a == sysModules)=false /\
 ∃xs,KT H Yg xs/\h.DictOfH (tupleKind (Bm P w)) a xs:=Ef ok (.inl e)
end
noncomputable def DGet(H:Hp)(a:Addr)(y:V)(r:Option V):Prop :=
 (∃Yg k,Rd H a (.dK Yg)/\y=kV k/\r=valV Yg k)\/∃Yg k b,Rd H a (.dT Yg)/\y=.ref b/\H b=some (.tup (k.map kV))/\r=valV Yg k
noncomputable def DPut(H:Hp)(a:Addr)(y v:V)(H':Hp):Prop :=
 (∃Yg k,H a=some (.dK Yg)/\y=kV k/\Yg.length < sizeLine/\H'=upd H a (.dK (BF Yg k v))) \/
 ∃Yg k b,H a=some (.dT Yg)/\y=.ref b/\H b=some (.tup (k.map kV))/\Yg.length < sizeLine/\H'=upd H a (.dT (BF Yg k v))
theorem DGet.k{Yg:List (Key × V)}{k:Key}(e:H a=some (.dK Yg)):DGet H a (kV k) (valV Yg k):=.inl ⟨Yg,k,.inl e,rfl,rfl⟩
theorem DGet.t{k:List Key}(e:H a=some (.dT Yg))(eb:H b=some (.tup (k.map kV))):DGet H a (.ref b) (valV Yg k):=.inr ⟨Yg,k,b,.inl e,rfl,eb,rfl⟩
theorem DPut.k{Yg:List (Key × V)}{k:Key}(e:H a=some (.dK Yg))(hl:Yg.length < sizeLine):DPut H a (kV k) v (upd H a (.dK (BF Yg k v))):=.inl ⟨Yg,k,e,rfl,hl,rfl⟩
theorem DPut.t{k:List Key}(e:H a=some (.dT Yg))(eb:H b=some (.tup (k.map kV)))(hl:Yg.length < sizeLine) :
 DPut H a (.ref b) v (upd H a (.dT (BF Yg k v))):=.inr ⟨Yg,k,b,e,rfl,eb,hl,rfl⟩
section
variable {X:Cx}{Ya:List (Addr × Obj)}{σ:St}{H:Hp}{s:Shared}{a:Addr}{y v:V}{u r:Value}{o:Option V}{A:Around}{E:Value->Shared->Prop}
theorem Yf.big(I:Yf X Ya σ H s):sysModules < s.heap.objs.size:=by
 have h:mainGlobals < s.heap.objs.size:=(I.mod.glob.keeps I.bk).lt;exact ZBF (by decide) h
theorem TC{Q:Value->Shared->Prop}(hu:A.units+1 < cLine)(I:Yf X Ya σ H s)(g:DGet H a y (some v))(ry:Yj y u)(h:∀w' s',Yf X Ya σ H s'->Yj v w'->Q w' s') :
 wpAny (model X.prog X.w) A (getItem (.ref a) u) Q E s:=by
 rcases g with ⟨Yg,k,e,ey,l⟩ | ⟨Yg,k,b,e,ey,eb,l⟩
 ·subst ey;obtain⟨z,hd,vs,rel,dd⟩:=Ei I.hok e;obtain⟨w',hw,rw'⟩:=RelO.some_of (v:=v) (o:=valueAt vs k) (by rw[l];exact rel.val k);exact wpAny_getItem_of (EY ry) dd.mapOf hw (h w' _ (I.tok _) rw')
 ·subst ey;cases (show u=Value.ref b from ry);obtain⟨z,hd,xs,rel,dd⟩:=Ef I.hok e;obtain⟨w',hw,rw'⟩:=RelO.some_of (v:=v) (o:=(atKey xs k).map (·.2)) (by rw[l];exact rel.val k);obtain⟨p,hp,hp2⟩:=ZBz.mp hw;refine wpAny_getItem_heap (tupleKind_room_in1 hu) (Ev I.hok eb) dd hp ?_;rw[hp2];exact h w' _ (I.tok _) rw'
theorem Ut{Q:Value->Shared->Prop}(hu:A.units+1 < cLine)(I:Yf X Ya σ H s)(g:DGet H a y o)(ry:Yj y u)(h:∀s',Yf X Ya σ H s'->Q (.bool (!o.isSome)) s') :
 wpAny (model X.prog X.w) A (compareOp .NotIn u (.ref a)) Q E s:=by
 rcases g with ⟨Yg,k,e,ey,l⟩ | ⟨Yg,k,b,e,ey,eb,l⟩
 ·subst ey;obtain⟨z,hd,vs,rel,dd⟩:=Ei I.hok e;refine wpAny_notIn_of (EY ry) hd dd.mapOf ?_;rw[<- (rel.val k).isSome_eq,<- l];exact h _ (I.tok _)
 ·subst ey;cases (show u=Value.ref b from ry);obtain⟨z,hd,xs,rel,dd⟩:=Ef I.hok e;refine wpAny_notIn_heap (tupleKind_room_in1 hu) (Ev I.hok eb) hd dd ?_;have q:=(rel.val k).isSome_eq;rw[Option.isSome_map]at q;rw[<- q,<- l];exact h _ (I.tok _)
theorem Mq{h':Heap}{t':Nat}{ob:HO}(I:Yf X Ya σ H s)(mu:Mut (H a))(hs:Heap.SameBut a s.heap h')(he:∃q,h'.get? a=some q)(new:ObjOk X.prog X.w (upd H a ob) h' a ob) :
 Yf X Ya σ (upd H a ob) { s with heap:=h',toks:=t' } :=
 I.write (x:=a) (e:=a) mu (.inl rfl) (fun b q hb z=>(hs.2 b hb).trans z) he new
theorem Qo{h':Heap}{Yg:List (Key × V)}{vs:List (Key × Value)}(z:Yg.length<=sizeLine)(hd:(a == sysModules)=false)(rel:KV Yg vs)(dd:h'.DictOf (Bm P w) a vs) :
 ObjOk P w H' h' a (.dK Yg):=⟨z,hd,vs,rel,dd⟩
theorem NZ{Q:Unit->Shared->Prop}(hu:A.units+1 < cLine)(I:Yf X Ya σ H s)(g:DPut H a y v H')(ry:Yj y u)(rv:Yj v r)(h:∀s',Yf X Ya σ H' s'->Q () s') :
 wpAny (model X.prog X.w) A (setItem (.ref a) u r) Q E s:=by
 rcases g with ⟨Yg,k,e,ey,l,eH⟩ | ⟨Yg,k,b,e,ey,eb,l,eH⟩
 ·subst ey eH;obtain⟨z,hd,vs,rel,dd⟩:=Us I.hok e;have hz:vs.length<=sizeLine:=by rw[<- rel.length];exact z
  have hl:(BF Yg k v).length<=sizeLine:=by have:=K8 Yg k v;lia
  refine wpAny_setItem_pairs (hsz:=hz) (EY ry) dd fun h' dd' hs=>h _ ?_
  have he:∃q,h'.get? a=some q:=let ⟨q,_,_,hq,_⟩:=dd';⟨q,hq⟩;exact Mq I (by rw[e];exact True.intro) hs he (Qo hl hd (rel.put k rv) dd')
 ·subst ey eH;cases (show u=Value.ref b from ry);obtain⟨z,hd,xs,rel,dd⟩:=UN I.hok e;have hz:xs.length<=sizeLine:=by rw[<- Paired.length rel];exact z
  have hl:(BF Yg k v).length<=sizeLine:=by have:=K8 Yg k v;lia
  refine wpAny_setItem_heap (hsz:=hz) (tupleKind_room_in1 hu) (Ev I.hok eb) dd fun h' dd' hs=>h _ ?_
  obtain⟨q,es,ep,hq,h2,h3,h4,_,h5⟩:=dd';refine Mq I (by rw[e];exact True.intro) hs ⟨q,hq⟩ ⟨hl,hd,_,(rel.put k eb rv).keeps fun c ys ec=>?_,q,es,ep,hq,h2,h3,h4,h5⟩;rw[AH (AN ec e (fun z=>nomatch z))];exact ec
end
noncomputable def J5(i:Expr):Prop:=∀ov iv,subscripted i false ov iv=operate [ov,iv] (getItem ov iv)
theorem N8 {prog:Program} {E:Value->Shared->Prop} {s:Shared} {env:Env} {value slice:Expr} {T id:String} {Q:Value->Shared->Prop}
 (hl:typeLookup (.type T) "__getitem__" = pure (some (.builtin id))) (hs:J5 slice)
 (h:wpAny (model prog w) A (eval value env) (fun o s₁=>wpAny (model prog w) A (eval slice env) (fun i s₂=>s₂.TypeIs o T/\wpAny (model prog w) A (getItem o i) Q E s₂) E s₁) E s) :
 wpAny (model prog w) A (eval (.Subscript value slice pos) env) Q E s:=by
 refine Subscript_ (ZO h (fun o s₁ h₁=>ZO h₁ (fun i s₂ h₂=>?_) fun _ _ x=>x) fun _ _ x=>x);obtain⟨hT,h₂⟩:=h₂;unfold subscriptTail;refine ZA ?_;rw[getitemInPython_of_ne hT.not_modules];refine ZA (wpAny_specialOf hT hl ?_)
 have fin:wpAny (model prog w) A (subscripted slice false o i) (fun r s₃=>wpAny (model prog w) A (letTemporaryGo value o r >>= fun _=>pure r) Q E s₃) E s₂:=by
  rw[hs o i];exact wpAny_operating (ZO h₂ (fun r s₃ h₃=>ZA (wpAny_letTemporaryGo (ZB h₃))) fun _ _ x=>x)
 first
  | exact ZB (ZA fin)
  | exact ZA (ZB (ZA fin))
  | exact ZA fin
theorem Tl{Ya:List (Addr × Obj)}{σ:St}{s:Shared}{o:Option V}(I:Yf X Ya σ H s)(g:DGet H a y o):s.TypeIs (.ref a) "dict":=by
 rcases g with ⟨Yg,k,e,_,_⟩ | ⟨Yg,k,b,e,_,_,_⟩
 ·obtain⟨_,_,vs,_,dd⟩:=Ei I.hok e;exact dd.typeIs
 ·obtain⟨_,_,xs,_,dd⟩:=Ef I.hok e;exact dd.typeIs
noncomputable def TB(td ty:TE):TE:=fun σ H Q=>td σ H fun x H1=>ty σ H1 fun y H2=>∃a v,x=.ref a/\DGet H2 a y (some v)/\Q v H2
noncomputable def KY(td ty tv:TE):TS:=fun D σ H=>tv σ H fun v H1=>td σ H1 fun x H2=>ty σ H2 fun y H3=>∃a H4,x=.ref a/\DPut H3 a y v H4/\D.nx σ H4
section
variable {X:Cx}{o i e value:Expr}{pos pos' tpos:Pos}{td ty tv:TE}
theorem Jx(hu:X.A.units+1 < cLine)(ho:PE X o td)(hi:PE X i ty)(hs:J5 i):PE X (.Subscript o i pos) (TB td ty):=by
 intro Ya s σ H Q I h;refine N8 PySem.F.slot_dict_getitem.lookup hs (Yn (ho Ya s σ H _ I h) fun u s1 ⟨x,H1,I1,rx,q1⟩=>Yn (hi Ya s1 σ H1 _ I1 q1) fun iv s2 ⟨y,H2,I2,ry,a,v,ex,g,q2⟩=>?_);subst ex;obtain rfl:u=Value.ref a:=rx;exact⟨Tl I2 g,TC hu I2 g ry fun w' s3 I3 rw'=>⟨v,H2,I3,rw',q2⟩⟩
theorem Jg(hu:X.A.units+1 < cLine)(ho:PE X o td)(hi:PE X i ty)(hv:PE X value tv)(hs:swapsWith value (some (.Subscript o i pos')) pos.line X.env=pure false) :
 PS X (.Assign [.Subscript o i pos'] value pos) (KY td ty tv):=by
 intro Ya s σ H D I h;refine wpAny_Assign_Subscript (Yn (hv Ya s σ H _ I h) fun r s1 ⟨v,H1,I1,rv,q1⟩=>Yn (ho Ya s1 σ H1 _ I1 q1) fun u s2 ⟨x,H2,I2,rx,q2⟩=>Yn (hi Ya s2 σ H2 _ I2 q2) fun iv s3 ⟨y,H3,I3,ry,a,H4,ex,g,q3⟩=>?_) hs;subst ex;obtain rfl:u=Value.ref a:=rx;exact NZ hu I3 g ry rv fun s4 I4=>⟨σ,H4,I4,q3⟩
end
theorem PN(h:Heap)(hb:sysModules < h.objs.size):ObjOk P w H (h.push { cls:=.type "dict",data:=.dict #[] }) h.objs.size (.dK []) :=
 ⟨ZP _,beq_eq_false_iff_ne.mpr (Ne.symm (ZK hb)),[],.nil,Heap.DictOf.new h⟩
theorem P6(h:Heap)(hb:sysModules < h.objs.size):ObjOk P w H (h.push { cls:=.type "dict",data:=.dict #[] }) h.objs.size (.dT []) :=
 ⟨ZP _,beq_eq_false_iff_ne.mpr (Ne.symm (ZK hb)),[],.nil,_,#[],0,ZM _ rfl,⟨rfl,rfl,rfl⟩,rfl,rfl,List.nodup_nil⟩
noncomputable def Su:TE:=fun _ H Q=>∀p,H p=none->Q (.ref p) (upd H p (.dK []))
noncomputable def MK:TE:=fun _ H Q=>∀p,H p=none->Q (.ref p) (upd H p (.dT []))
section
variable {X:Cx}{pos:Pos}
theorem Qc:PE X (.Dict [] [] pos) Su:=fun Ya s σ H Q I h =>
 wpAny_Dict_empty ⟨.ref s.heap.objs.size,_,I.laid (a:=s.heap.objs.size) (o:=.dK []) (t':=s.toks) (fun _ _ q=>ZH _ q) (ZD _) (PN s.heap I.big),rfl,h _ (I.hok.fresh (ZD _))⟩
theorem RX:PE X (.Dict [] [] pos) MK:=fun Ya s σ H Q I h =>
 wpAny_Dict_empty ⟨.ref s.heap.objs.size,_,I.laid (a:=s.heap.objs.size) (o:=.dT []) (t':=s.toks) (fun _ _ q=>ZH _ q) (ZD _) (P6 s.heap I.big),rfl,h _ (I.hok.fresh (ZD _))⟩
end
structure M2(X:Cx)(o:Expr)(m:Str)(apos:Pos)(e f:Expr)(cpos:Pos):Prop where
 base:attributeBase o m X.env (eval o X.env)=eval o X.env
 few:((backTo cpos (starEach [e,f] X.env)).all (fun x=>!x.1) && (backToKw cpos (keywordEach [] X.env)).all (fun x=>x.1.isSome)
  && decide (([e,f]:List Expr).length+([]:List Keyword).length+(if ([]:List Keyword).isEmpty then 0 else 1) < 30))=true
 line:(apos.endLine == cpos.line)=true
 trees:backTo cpos (starEach [e,f] X.env)=[(false,eval e X.env),(false,eval f X.env)]
section
variable {X:Cx}{K:W.Frag}{o:Expr}{to:TE}{apos cpos:Pos}
noncomputable def MD:V->List V->Hp->VK->Prop:=fun x vs H Q=>match x,vs with
 | .int i,[]=>Q (.int (Builtin.Int.intBits i:Nat)) H
 | _,_=>False
theorem QK:MtR X "int.bit_length" MD:=by
 intro Ya s σ H x vs v us Q I rx rv q
 match x,vs,q with
 | .int i,[],q =>
  cases rv;obtain⟨t,rfl⟩:=(show ∃t,v=Value.int i t from rx);exact PyProof.Rows.call_int_bit_length ⟨.int (Builtin.Int.intBits i:Nat),H,I.tok _,⟨_,rfl⟩,q⟩
theorem QI(ho:PE X o to)(hbase:attributeBase o "bit_length" X.env (eval o X.env)=eval o X.env:=by rfl)(hline:(apos.endLine == cpos.line)=true:=by rfl)(hK:X.K=K:=by rfl) :
 PE X (.Call (.Attribute o "bit_length" apos) [] [] cpos) (KS K "int" MD to):=hK ▸ RQ PySem.F.plainAttrs_int PySem.F.slot_int_bit_length PySem.F.type_int_bit_length QK ho hbase hline
end
noncomputable def Ite(K:W.Frag)(l:Addr):It :=
 ⟨fun i H=>∃xs x,Yt K H l xs/\xs[i]? = some x,
  fun i H v H'=>∃p x,H p=none/\v=.ref p/\H'=upd H p (.tup [.int i,x])/\∀xs,Yt K H l xs->xs[i]? = some x,
  fun i H=>∃xs,Yt K H l xs/\xs.length<=i⟩
theorem Ru{kt:Nat}{tpos:Pos}{e it:Addr}(Yr:e≠it) :
 Turn P w K (.Tuple es kt tpos) (Ite K l) [e,it] e (fun i h=>(∃old,IsEnum h e it (i:Int) old)/\h.IsListIter it l i) where
 mem:=by simp
 obj:=fun i h st b hb=>by
  obtain⟨⟨old,hz⟩,⟨o1,e1,c1,d1⟩⟩:=st;simp only[ZI,ZBG,or_false]at hb
  rcases hb with rfl | rfl
  ·exact⟨_,hz,fun v q=>nomatch q⟩
  ·exact⟨o1,e1,fun v q=>by rw[d1]at q;cases q⟩
 keep:=fun i h h' ⟨⟨old,hz⟩,h1⟩ k=>⟨⟨old,k e (by simp) _ hz⟩,h1.at fun o q=>k it (by simp) o q⟩
 item:=by
  intro X hP hw hK hc i Ya s σ H E I hf st hg;subst hP hw hK;obtain⟨xs,x,hq1,hx⟩:=hg;obtain⟨⟨old,hz⟩,h1⟩:=st;obtain⟨Ye,rv,p,_⟩:=I.list hq1;obtain⟨u,hu,ru⟩:=rv.get hx;refine wpAny_pyNext_enum_item hz h1 p.isList (x:=u) (by simpa using hu) Yr fun h' z1 z2 z3 z4 z5=>?_
  refine⟨_,rfl,?_⟩
  have z5':∀b v,b∉[e,it]->s.heap.get? b=some v->h'.get? b=some v:=fun b v hb q=>by
   simp only[ZI,ZBG,or_false,not_or]at hb;exact z5 b v hb.1 hb.2 q
  have I1:Yf X Ya σ (upd H s.heap.objs.size (.tup [.int i,x])) { s with heap:=h' }:=by
   refine I.turnedNew (ch:=[e,it]) (fun b hb=>hf b hb) (ZD _) z5' ?_ fun b hb=>?_
   ·exact⟨smq rfl,[.int i s.toks,u],.cons ⟨_,rfl⟩ (.cons ru .nil),⟨_,z3,rfl,⟨_,rfl⟩,rfl⟩⟩
   ·simp only[ZI,ZBG,or_false]at hb
    rcases hb with rfl | rfl
    ·exact⟨_,z1⟩
    ·obtain⟨o,q,_⟩:=z2;exact⟨o,q⟩
  refine wpAny_letOwnedTupleGo_enum (s:={ s with heap:=h',toks:=s.toks+1 }) z1 fun h'' z8 z9=>?_
  have hfz:=hf e (by simp)
  have neT:∀b,b∈[e,it]->b≠s.heap.objs.size:=fun b hb q=>by
   have st':∃o,s.heap.get? b=some o:=by
    simp only[ZI,ZBG,or_false]at hb
    rcases hb with rfl | rfl
    ·exact⟨_,hz⟩
    ·obtain⟨o,q,_⟩:=h1;exact⟨o,q⟩
   obtain⟨o,ho⟩:=st'
   have:=ZG ho
   rw[q]at this;exact Zc _ this
  have hTH:∀b∈[e,it],upd H s.heap.objs.size (.tup [.int i,x]) b=none:=fun b hb=>by rw[AH (neT b hb)];exact(hf b hb).1
  have I2:Yf X Ya σ (upd H s.heap.objs.size (.tup [.int i,x])) { s with heap:=h'',toks:=s.toks+1 } :=
   I1.turned (t':=s.toks+1) (fun b o hb q=>(z9.2 b hb).trans q) (hTH e (by simp)) hfz.2.1 hfz.2.2.2.1 hfz.2.2.2.2.1 hfz.2.2.2.2.2
  have up:∀b o,b≠e->h'.get? b=some o->h''.get? b=some o:=fun b o hb q=>(z9.2 b hb).trans q
  exact⟨.ref s.heap.objs.size,_,I2,rfl,⟨_,x,I.hok.fresh (ZD _),rfl,rfl,fun xs' h=>by rw[I.list_inj h hq1];exact hx⟩,⟨⟨_,z8⟩,z2.at fun o q=>up _ o (Ne.symm Yr) q⟩,hTH⟩
 done:=by
  intro X hP hw hK hc i Ya s σ H E I hf st hg;subst hP hw hK;obtain⟨xs,hq1,hl⟩:=hg;obtain⟨⟨old,hz⟩,h1⟩:=st;obtain⟨Ye,rv,p,_⟩:=I.list hq1;have e1:=rv.length;refine wpAny_pyNext_enum_end (I.ok.hd hc) hz h1 p.isList (by simp;lia) fun h' z7=>⟨rfl,?_⟩
  obtain⟨f0,f1,f2,f3,f4,f5⟩:=hf it (by simp);exact I.turned (t':=s.toks) (fun b o hb q=>z7 b o hb q) f0 f1 f3 f4 f5
 self:=fun _ _ _ _ _ st h=>wpAny_pyIter_enum st.1.choose_spec h
section
variable {X:Cx}
noncomputable def T4(K:W.Frag)(ta:TA):TI:=fun σ H R=>ta σ H fun vs H1=>match vs with
 | [.ref a]=>(∃xs,Yt K H1 a xs)/\R (Ite K a) H1
 | _=>False
theorem PD {a:Expr} {ta:TA} {p:Pos} {kt:Nat} {tpos:Pos} (hg:Gl X "enumerate") (hm:X.mg "enumerate" = none) (ha:PA X [a] ta)
 (hs:starEach [a] X.env=[(false,eval a X.env)]:=by rfl) (hK:X.K=K:=by rfl) :
 PI X (.Tuple es kt tpos) (.Call (.Name "enumerate" p) [a] [] pos) (T4 K ta):=by
 subst hK;intro Ya s σ H R I h;refine Call_ (Cs I hg hm (by rfl:bootBuiltins "enumerate" = some (.type "enumerate")) (PyProof.Rows.callWith_type1 (Yn (ha pos Ya s σ H _ I h) fun us s1 ⟨vs,H1,I1,r1,q1⟩=>?_) (by rw[hs];rfl) (by rfl)))
 match vs,q1,r1 with
 | [.ref l1],⟨⟨xs,hx⟩,q⟩,r1 =>
 cases r1 with
 | cons r rr =>
 cases rr;cases r;obtain⟨Ye,rv,p1,_⟩:=I1.list hx;refine call_enumerate_list p1.isList fun h' z1 z2 z3 z4=>?_
 refine wpAny_pyIter_enum (s:={ s1 with heap:=h' }) z1 ?_;have I2:Yf X Ya σ H1 { s1 with heap:=h' }:=I1.kept (t':=s1.toks) z4;refine⟨_,_,_,_,H1,rfl,I2,Ru (l:=l1) (it:=s1.heap.objs.size) (ZBa (ZBJ _)),⟨⟨_,z1⟩,z2⟩,fun b hb=>?_,q⟩;refine I1.fpOk ?_ (I1.hok.fresh ?_)
 all_goals
  simp only[ZI,ZBG,or_false]at hb
  rcases hb with rfl | rfl
  ·exact ZBT _
  ·exact ZD _
theorem Pi {g:TG} {tc:TT} (Pv:Nat->List V->Hp->Prop) (h0:Pv 0 [] H) (hl:∀i zs H,i<=xs.length->Pv i zs H->Yt K H l xs) (hz:∀i zs H,i < xs.length->Pv i zs H->zs.length < sizeLine)
 (hs:∀i x zs H p,xs[i]? = some x->Pv i zs H->H p=none->g (.ref p) σc (upd H p (.tup [.int (i:Nat),x])) fun σ2 H2=>tc σ2 H2 fun b H3=>if b=true then te σ2 H3 fun v H4=>Pv (i+1) (zs++[v]) H4 else Pv (i+1) zs H3)
 (hd:∀zs H,Pv xs.length zs H->∀p,H p=none->Q (.ref p) (upd H p (.lst zs))):C4 (Ite K l) g tc te σc Q H:=by
 refine⟨fun i m zs H=>m=xs.length - i/\i<=xs.length/\Pv i zs H,⟨xs.length,by simp,ZP _,h0⟩,?_⟩;rintro i m zs H ⟨rfl,hi,p⟩;have q1:=hl i zs H hi p
 by_cases Ym:i < xs.length
 ·refine .inr ⟨⟨xs,xs[i],q1,by simp[Ym]⟩,hz i zs H Ym p,Pv (i+1),fun zs' H' p'=>⟨xs.length - (i+1),by lia,rfl,Ym,p'⟩,?_⟩;rintro v H' ⟨pp,x,hp,rfl,rfl,k1⟩;exact hs i x zs H pp (k1 xs q1) p hp
 ·have e:i=xs.length:=by lia
  subst e;exact .inl ⟨⟨xs,q1,ZD _⟩,hd zs H p⟩
end
mutual
noncomputable def pyD:Dv->PyData
 | .non=>.none
 | .bl b=>.bool b
 | .int i=>.int i
 | .str x=>.str x
 | .tup ds=>.tuple (BC ds)
 | .lst ds=>.list (BC ds)
noncomputable def BC:List Dv->List PyData
 | []=>[]
 | d::ds=>pyD d::BC ds
end
noncomputable def Cj(i:Int):Bool:=decide (i.natAbs.log2 < 1900)
mutual
theorem KB:∀d:Dv,(pyD d).depth=AY d
 | .non=>by simp[pyD,AY,PyData.depth]
 | .bl _=>by simp[pyD,AY,PyData.depth]
 | .int _=>by simp[pyD,AY,PyData.depth]
 | .str _=>by simp[pyD,AY,PyData.depth]
 | .tup ds=>by simp[pyD,AY,PyData.depth,JZ ds]
 | .lst ds=>by simp[pyD,AY,PyData.depth,JZ ds]
theorem JZ:∀ds:List Dv,PyData.depthAll (BC ds)=BJ ds
 | []=>by simp[BC,BJ,PyData.depthAll]
 | d::ds=>by simp[BC,BJ,PyData.depthAll,KB d,JZ ds]
end
mutual
theorem Mz:∀d:Dv,(pyD d).hasDict=false
 | .non=>by simp[pyD,PyData.hasDict]
 | .bl _=>by simp[pyD,PyData.hasDict]
 | .int _=>by simp[pyD,PyData.hasDict]
 | .str _=>by simp[pyD,PyData.hasDict]
 | .tup ds=>by simp[pyD,PyData.hasDict,Gp ds]
 | .lst ds=>by simp[pyD,PyData.hasDict,Gp ds]
theorem Gp:∀ds:List Dv,PyData.hasDictAll (BC ds)=false
 | []=>by simp[BC,PyData.hasDictAll]
 | d::ds=>by simp[BC,PyData.hasDictAll,Mz d,Gp ds]
end
noncomputable def BI(d:Dv):Str:=(pyD d).shown
section
variable {X:Cx}{Ya:List (Addr × Obj)}{σ:St}{H:Hp}{s:Shared}
mutual
theorem Mr(I:Yf X Ya σ H s):∀(d:Dv) (x:V) (u:Value),Yh X.K H d x->Yj x u->∃as,Reads s.heap u (pyD d) as
 | .non,x,u,h,r=>by unfold Yh at h;subst h;cases r;exact⟨_,by rw[pyD];exact .none⟩
 | .bl b,x,u,h,r=>by unfold Yh at h;subst h;cases r;exact⟨_,by rw[pyD];exact .bool b⟩
 | .int i,x,u,h,r=>by unfold Yh at h;subst h;obtain⟨t,rfl⟩:=r;exact⟨_,by rw[pyD];exact .int i t⟩
 | .str y,x,u,h,r=>by unfold Yh at h;subst h;obtain⟨t,rfl⟩:=r;exact⟨_,by rw[pyD];exact .str y t⟩
 | .tup ds,x,u,h,r=>by
  unfold Yh at h;obtain⟨a,xs,rfl,hs,hr⟩:=h;cases r;obtain⟨Ye,rv,⟨o,h1,h2,n,h3⟩,_⟩:=I.tuple hs;obtain⟨as,ha⟩:=G9 I ds xs Ye hr rv;exact⟨as,by rw[pyD];exact .tuple h1 h2 h3 ha⟩
 | .lst ds,x,u,h,r=>by
  unfold Yh at h;obtain⟨a,xs,rfl,hs,hr⟩:=h;cases r;obtain⟨Ye,rv,p,_⟩:=I.list hs;obtain⟨o,h1,h2,n,h3⟩:=p.isList;obtain⟨as,ha⟩:=G9 I ds xs Ye hr rv;exact⟨_,by rw[pyD];exact .list h1 h2 h3 ha⟩
theorem G9(I:Yf X Ya σ H s):∀(ds:List Dv) (xs:List V) (us:List Value),Yd X.K H ds xs->Yi xs us->∃as,ReadsAll s.heap us (BC ds) as
 | [],xs,us,h,r=>by unfold Yd at h;subst h;cases r;exact⟨_,by rw[BC];exact .nil⟩
 | d::ds,xs,us,h,r=>by
  unfold Yd at h;obtain⟨x,l,rfl,h1,h2⟩:=h;cases r with
  | cons r1 r2 =>
  obtain⟨as,ha⟩:=Mr I d x _ h1 r1;obtain⟨bs,hb⟩:=G9 I ds l _ h2 r2;exact⟨_,by rw[BC];exact .cons ha hb⟩
end
end
open AutoSeq1 (wpAny_loadPart')
section
variable {prog:Program}{w:World}{A:Around}{E:Value->Shared->Prop}{s:Shared}
theorem Nh {j tp:Addr} {k:Nat} {Ye:Array Value} {z:Value} {Q:Value->Shared->Prop} (hj:s.heap.IsTupleIter j tp k) (hp:s.heap.IsTuple tp Ye) (hz:Ye[k]? = some z)
 (q:∀h',h'.IsTupleIter j tp (k+1)->Heap.SameBut j s.heap h'->Q z { s with heap:=h' }):wpAny (model prog w) A (Builtin.SmallTypes.nextOf (.ref j)) Q E s:=by
 obtain⟨ob,g1,g2,g3⟩:=id hj;obtain⟨ol,k1,_,nl,k3⟩:=hp;unfold Builtin.SmallTypes.nextOf;refine ZA (wpAny_callSpecial?_slot (name:=Str.ofString "__next__") hj.typeIs F.slot_tuple_iterator_next (Z6 F.slot_tuple_iterator_next hj.typeIs F.entry_tuple_iterator_next ?_ (F.args_tuple_iterator_next_1 _)));show wpAny _ _ (field (.ref j) 0 >>= _) _ _ s;refine ZA (Z5 g1 g3 (x:=.ref tp) rfl ?_);show wpAny _ _ (if (Value.ref tp == Value.none)=true then _ else _) _ _ s;rw[if_neg (c:=(Value.ref tp == Value.none)=true) (fun z=>Zo z)];show wpAny _ _ (field (.ref j) 1 >>= _) _ _ s;refine ZA (Z5 g1 g3 (x:=.int k 0) rfl ?_);show wpAny _ _ (seqItems? (.ref tp) >>= _) _ _ s;refine ZA (wpAny_seqItems k1 k3 ?_);simp only[Zb,hz];refine ZA (ZBA g1 g3 (by simp) (ZB ⟨z,rfl,ZB (q _ ?_ (Zw ..))⟩));refine⟨_,ZBL _ g1 (Obj.isFreed_of_fields (Obj.data_mapFields g3 _)),(Obj.cls_mapFields ..).trans g2,?_⟩;rw[Obj.data_mapFields g3];simp[rawInt]
theorem NK {j tp:Addr} {k:Nat} {Ye:Array Value} {Q:Value->Shared->Prop} (hh:A.handled=none) (hj:s.heap.IsTupleIter j tp k) (hp:s.heap.IsTuple tp Ye) (hz:Ye[k]? = none)
 (q:∀h' e,Heap.ExtBut j s.heap h'->(∃o,h'.get? e=some o/\o.cls=.type "StopIteration")->E (.ref e) { s with heap:=h' }):wpAny (model prog w) A (Builtin.SmallTypes.nextOf (.ref j)) Q E s:=by
 obtain⟨ob,g1,g2,g3⟩:=id hj;obtain⟨ol,k1,_,nl,k3⟩:=hp;unfold Builtin.SmallTypes.nextOf;refine ZA (wpAny_callSpecial?_slot (name:=Str.ofString "__next__") hj.typeIs F.slot_tuple_iterator_next (Z6 F.slot_tuple_iterator_next hj.typeIs F.entry_tuple_iterator_next ?_ (F.args_tuple_iterator_next_1 _)));show wpAny _ _ (field (.ref j) 0 >>= _) _ _ s;refine ZA (Z5 g1 g3 (x:=.ref tp) rfl ?_);show wpAny _ _ (if (Value.ref tp == Value.none)=true then _ else _) _ _ s;rw[if_neg (c:=(Value.ref tp == Value.none)=true) (fun z=>Zo z)];show wpAny _ _ (field (.ref j) 1 >>= _) _ _ s;refine ZA (Z5 g1 g3 (x:=.int k 0) rfl ?_);show wpAny _ _ (seqItems? (.ref tp) >>= _) _ _ s;refine ZA (wpAny_seqItems k1 k3 ?_);simp only[Zb,hz];refine ZA (wpAny_rule (ZA (ZBA g1 g3 (by simp) ?_)));show wpAny _ _ (newExc (.type "StopIteration") [] >>= fun z=>_) _ _ _;refine ZA ?_;simp only[newExc,newTuple];refine ZA (Zp (hd:=by size_fits) ?_);refine ZA (m:=firstArgMember _ _) (wpAny_of_eq (a:=Value.none) (by first | (simp only[firstArgMember];rfl) | rfl) ?_);refine Zp (hd:=by size_fits) ?_;simp only[raiseNew];refine ZA (wpAny_handled ?_)
 first | rw[hh] | rw[show A.in1.handled=none from hh]
 refine ZA (ZB (wpAny_throw ?_));exact q _ _ (((Zw ..).extBut.push _).push _) ⟨_,ZM _ rfl,rfl⟩
theorem QN(hh:A.handled=none)(j tp:Addr)(Yr:tp≠j)(Ye:Array Value) :
 Draws prog w A j [j,tp] Ye.size (fun k v=>Ye[k]? = some v) (fun k h=>h.IsTupleIter j tp k/\h.IsTuple tp Ye) where
 live:=fun _ _ st=>by obtain⟨⟨o,ho,_⟩,_⟩:=st;exact⟨o,ho⟩
 frame:=fun _ _ _ st hk=>by
  obtain⟨st1,o,h1,h2⟩:=st;exact⟨st1.at fun o e=>hk j (by simp) o e,o,hk tp (by simp) o h1,h2⟩
 item:=fun k s Q E hi st hQ=>by
  refine Nh st.1 st.2 (z:=Ye[k]) (by simp[hi]) fun h' h1 h2=>?_
  exact hQ _ h' s.toks (by simp[hi]) ⟨h1,st.2.extBut h2.extBut Yr⟩ h2
 done:=fun s Q E st hE=>NK hh st.1 st.2 (by simp) hE
theorem Oa(tp:Addr)(Ye:Array Value)(n:Nat)(dct:Option Addr)(sl:Array (Option Value)) :
 Meets (Builtin.«enumerate.__new__» ⟨[.type "enumerate",.ref tp],[]⟩) (fun _ R s=>s.heap.get? tp=some { cls:=.type "tuple",dict:=dct,data:=.seq Ye n,slots:=sl } /\
  R (.ok (.ret (.ref (s.heap.push { cls:=.type "tuple_iterator",data:=.fields #[.ref tp,.int 0 0] }).objs.size)))
   { s with heap:=(s.heap.push { cls:=.type "tuple_iterator",data:=.fields #[.ref tp,.int 0 0] }).push { cls:=.type "enumerate",data:=.fields #[.none,.bool false,.ref s.heap.objs.size,rawInt 0,.none,.none] } }) :=
 .of_wp fun prog w A R s h=>by
  obtain⟨hp,g,d,tk,os⟩:=s;obtain⟨hl,h⟩:=h;have hsub:=sub_enumerate;have ht:Heap.IsTuple (Shared.heap ⟨hp,g,d,tk,os⟩) tp Ye:=⟨_,hl,rfl,n,rfl⟩
  wp_walk using wpAny_loadPart' hl
  refine wpAny_stack_any fun st=>ZB ?_
  split
  ·rename_i c _ _ _ _ _;cases (c == Value.type "enumerate") <;> (wp_walk using wpAny_loadPart' hl,wpAny_pyIter_tuple ht;exact⟨_,rfl,h⟩)
  ·wp_walk using wpAny_loadPart' hl,wpAny_pyIter_tuple ht
   exact⟨_,rfl,h⟩
theorem OV {tp:Addr} {Ye:Array Value} {Q:Value->Shared->Prop} (ht:s.heap.IsTuple tp Ye)
 (h:∀h',IsEnum h' (s.heap.objs.size+1) s.heap.objs.size 0 .none->h'.IsTupleIter s.heap.objs.size tp 0->(∀b o,s.heap.get? b=some o->h'.get? b=some o)->Q (.ref (s.heap.objs.size+1)) { s with heap:=h' }) :
 wpAny (model prog w) A (call (.type "enumerate") [.ref tp]) Q E s:=by
 obtain⟨⟨c,dct,dt,sl⟩,hl,hc,n,hd⟩:=ht;cases (show c=.type "tuple" from hc);cases (show dt=.seq Ye n from hd);refine callType_new F.called_enumerate (by decide) (F.typeCall_enumerate_1 _) (F.newCall_enumerate_1 _) (fun obj=>F.args_object_init_2 obj _) F.entry_enumerate_new (Oa tp Ye n dct sl) ⟨hl,?_⟩;have z1:(s.heap.push { cls:=.type "tuple_iterator",data:=.fields #[.ref tp,.int 0 0] }).objs.size=s.heap.objs.size+1:=Zu ..;show _/\_;rw[z1];have z2:=ZM (s.heap.push { cls:=.type "tuple_iterator",data:=.fields #[.ref tp,.int 0 0] }) (o:={ cls:=.type "enumerate",data:=.fields #[.none,.bool false,.ref s.heap.objs.size,rawInt 0,.none,.none] }) rfl;rw[z1]at z2;have z3:IsEnum _ (s.heap.objs.size+1) s.heap.objs.size 0 .none:=z2;exact⟨⟨_,z2,rfl⟩,h _ z3 ⟨_,ZH _ (ZM _ rfl),rfl,rfl⟩ fun b o x=>ZH _ (ZH _ x)⟩
end
noncomputable def GD(K:W.Frag)(l:Addr):It :=
 ⟨fun i H=>∃xs x,Yq K H l xs/\xs[i]? = some x,
  fun i H v H'=>∃p x,H p=none/\v=.ref p/\H'=upd H p (.tup [.int i,x])/\∀xs,Yq K H l xs->xs[i]? = some x,
  fun i H=>∃xs,Yq K H l xs/\xs.length<=i⟩
theorem Py{kt:Nat}{tpos:Pos}{e it:Addr}(Yr:e≠it) :
 Turn P w K (.Tuple es kt tpos) (GD K l) [e,it] e (fun i h=>(∃old,IsEnum h e it (i:Int) old)/\h.IsTupleIter it l i) where
 mem:=by simp
 obj:=fun i h st b hb=>by
  obtain⟨⟨old,hz⟩,⟨o1,e1,c1,d1⟩⟩:=st;simp only[ZI,ZBG,or_false]at hb
  rcases hb with rfl | rfl
  ·exact⟨_,hz,fun v q=>nomatch q⟩
  ·exact⟨o1,e1,fun v q=>by rw[d1]at q;cases q⟩
 keep:=fun i h h' ⟨⟨old,hz⟩,h1⟩ k=>⟨⟨old,k e (by simp) _ hz⟩,h1.at fun o q=>k it (by simp) o q⟩
 item:=by
  intro X hP hw hK hc i Ya s σ H E I hf st hg;subst hP hw hK;obtain⟨xs,x,hq1,hx⟩:=hg;obtain⟨⟨old,hz⟩,h1⟩:=st;obtain⟨Ye,rv,p,_⟩:=I.tuple hq1;obtain⟨u,hu,ru⟩:=rv.get hx;have hp:s.heap.IsTuple l Ye.toArray:=p;have le:l≠e:=fun q=>by obtain⟨o,g1,g2,_⟩:=hp;rw[q]at g1;rw[show s.heap.get? e=_ from hz]at g1;cases g1;exact absurd (show Value.type "enumerate" = Value.type "tuple" from g2) (by decide)
  have li:l≠it:=fun q=>by obtain⟨o,g1,g2,_⟩:=hp;obtain⟨o',g3,g4,_⟩:=h1;rw[q,g3]at g1;cases g1;rw[g4]at g2;exact absurd g2 (by decide)
  refine wpAny_pyNext_enum_itemD (QN (A:=X.A.in1) (show X.A.in1.handled=none from I.ok.hd hc) it l li Ye.toArray) hz ⟨h1,hp⟩ ?_ Yr (by simp[Yr,Ne.symm le]) fun y h' tk py z1 z2' z3 z4 z5=>?_
  ·have:=(Zr.mp hu).1
   simpa using this
  obtain⟨z2,_⟩:=z2'
  have ey:y=u:=by
   have:Ye.toArray[i]? = some u:=by simpa using hu
   rw[this]at py;exact(ZQ py).symm
  subst ey;refine⟨_,rfl,?_⟩
  have z5':∀b v,b∉[e,it]->s.heap.get? b=some v->h'.get? b=some v:=fun b v hb q=>by
   simp only[ZI,ZBG,or_false,not_or]at hb;exact z5 b v hb.1 hb.2 q
  have I1:Yf X Ya σ (upd H s.heap.objs.size (.tup [.int i,x])) { s with heap:=h' }:=by
   refine I.turnedNew (ch:=[e,it]) (fun b hb=>hf b hb) (ZD _) z5' ?_ fun b hb=>?_
   ·exact⟨smq rfl,[.int i tk,y],.cons ⟨_,rfl⟩ (.cons ru .nil),⟨_,z3,rfl,⟨_,rfl⟩,rfl⟩⟩
   ·simp only[ZI,ZBG,or_false]at hb
    rcases hb with rfl | rfl
    ·exact⟨_,z1⟩
    ·obtain⟨o,q,_⟩:=z2;exact⟨o,q⟩
  refine wpAny_letOwnedTupleGo_enum (s:={ s with heap:=h',toks:=tk+1 }) z1 fun h'' z8 z9=>?_
  have hfz:=hf e (by simp)
  have neT:∀b,b∈[e,it]->b≠s.heap.objs.size:=fun b hb q=>by
   have st':∃o,s.heap.get? b=some o:=by
    simp only[ZI,ZBG,or_false]at hb
    rcases hb with rfl | rfl
    ·exact⟨_,hz⟩
    ·obtain⟨o,q,_⟩:=h1;exact⟨o,q⟩
   obtain⟨o,ho⟩:=st'
   have:=ZG ho
   rw[q]at this;exact Zc _ this
  have hTH:∀b∈[e,it],upd H s.heap.objs.size (.tup [.int i,x]) b=none:=fun b hb=>by rw[AH (neT b hb)];exact(hf b hb).1
  have I2:Yf X Ya σ (upd H s.heap.objs.size (.tup [.int i,x])) { s with heap:=h'',toks:=tk+1 } :=
   I1.turned (t':=tk+1) (fun b o hb q=>(z9.2 b hb).trans q) (hTH e (by simp)) hfz.2.1 hfz.2.2.2.1 hfz.2.2.2.2.1 hfz.2.2.2.2.2
  have up:∀b o,b≠e->h'.get? b=some o->h''.get? b=some o:=fun b o hb q=>(z9.2 b hb).trans q
  exact⟨.ref s.heap.objs.size,_,I2,rfl,⟨_,x,I.hok.fresh (ZD _),rfl,rfl,fun xs' h=>by rw[I.tuple_inj h hq1];exact hx⟩,⟨⟨_,z8⟩,z2.at fun o q=>up _ o (Ne.symm Yr) q⟩,hTH⟩
 done:=by
  intro X hP hw hK hc i Ya s σ H E I hf st hg;subst hP hw hK;obtain⟨xs,hq1,hl⟩:=hg;obtain⟨⟨old,hz⟩,h1⟩:=st;obtain⟨Ye,rv,p,_⟩:=I.tuple hq1;have e1:=rv.length;have hp:s.heap.IsTuple l Ye.toArray:=p;have hT:s.TypeIs (.ref e) "enumerate":=⟨_,hz,rfl⟩;unfold pyNext;refine ZA (wpAny_attempt (wpAny_callSpecial?_slot (name:=Str.ofString "__next__") hT F.slot_enumerate_next (Z6 F.slot_enumerate_next hT F.entry_enumerate_next ?_ (F.args_enumerate_next_1 _))));show wpAny _ _ (field (.ref e) 2 >>= fun z=>_) _ _ _;refine ZA (Z5 hz rfl (x:=.ref it) rfl ?_);refine ZA (NK (by first | exact I.ok.hd hc | simpa using I.ok.hd hc) h1 hp (by simp;lia) fun h' x z7 hx'=>?_);obtain⟨o,ho,hcl⟩:=hx';refine ZA (wpAny_isInstance (T:="StopIteration") (b:=true) ⟨o,ho,hcl⟩ isSubtype_stop (ZB ⟨rfl,?_⟩));obtain⟨f0,f1,f2,f3,f4,f5⟩:=hf it (by simp);exact I.turned (t':=s.toks) (fun b o hb q=>z7 b o hb q) f0 f1 f3 f4 f5
 self:=fun _ _ _ _ _ st h=>wpAny_pyIter_enum st.1.choose_spec h
section
variable {X:Cx}
noncomputable def P1(K:W.Frag)(ta:TA):TI:=fun σ H R=>ta σ H fun vs H1=>match vs with
 | [.ref a]=>(∃xs,Yq K H1 a xs)/\R (GD K a) H1
 | _=>False
theorem NS {a:Expr} {ta:TA} {p:Pos} {kt:Nat} {tpos:Pos} (hg:Gl X "enumerate") (hm:X.mg "enumerate" = none) (ha:PA X [a] ta)
 (hs:starEach [a] X.env=[(false,eval a X.env)]:=by rfl) (hK:X.K=K:=by rfl) :
 PI X (.Tuple es kt tpos) (.Call (.Name "enumerate" p) [a] [] pos) (P1 K ta):=by
 subst hK;intro Ya s σ H R I h;refine Call_ (Cs I hg hm (by rfl:bootBuiltins "enumerate" = some (.type "enumerate")) (PyProof.Rows.callWith_type1 (Yn (ha pos Ya s σ H _ I h) fun us s1 ⟨vs,H1,I1,r1,q1⟩=>?_) (by rw[hs];rfl) (by rfl)))
 match vs,q1,r1 with
 | [.ref l1],⟨⟨xs,hx⟩,q⟩,r1 =>
 cases r1 with
 | cons r rr =>
 cases rr;cases r;obtain⟨Ye,rv,p1,_⟩:=I1.tuple hx;refine OV (Ye:=Ye.toArray) p1 fun h' z1 z2 z4=>?_
 refine wpAny_pyIter_enum (s:={ s1 with heap:=h' }) z1 ?_;have I2:Yf X Ya σ H1 { s1 with heap:=h' }:=I1.kept (t':=s1.toks) z4;refine⟨_,_,_,_,H1,rfl,I2,Py (l:=l1) (it:=s1.heap.objs.size) (ZBa (ZBJ _)),⟨⟨_,z1⟩,z2⟩,fun b hb=>?_,q⟩;refine I1.fpOk ?_ (I1.hok.fresh ?_)
 all_goals
  simp only[ZI,ZBG,or_false]at hb
  rcases hb with rfl | rfl
  ·exact ZBT _
  ·exact ZD _
theorem MX {g:TG} {tc:TT} (Pv:Nat->List V->Hp->Prop) (h0:Pv 0 [] H) (hl:∀i zs H,i<=xs.length->Pv i zs H->Yq K H l xs) (hz:∀i zs H,i < xs.length->Pv i zs H->zs.length < sizeLine)
 (hs:∀i x zs H p,xs[i]? = some x->Pv i zs H->H p=none->g (.ref p) σc (upd H p (.tup [.int (i:Nat),x])) fun σ2 H2=>tc σ2 H2 fun b H3=>if b=true then te σ2 H3 fun v H4=>Pv (i+1) (zs++[v]) H4 else Pv (i+1) zs H3)
 (hd:∀zs H,Pv xs.length zs H->∀p,H p=none->Q (.ref p) (upd H p (.lst zs))):C4 (GD K l) g tc te σc Q H:=by
 refine⟨fun i m zs H=>m=xs.length - i/\i<=xs.length/\Pv i zs H,⟨xs.length,by simp,ZP _,h0⟩,?_⟩;rintro i m zs H ⟨rfl,hi,p⟩;have q1:=hl i zs H hi p
 by_cases Ym:i < xs.length
 ·refine .inr ⟨⟨xs,xs[i],q1,by simp[Ym]⟩,hz i zs H Ym p,Pv (i+1),fun zs' H' p'=>⟨xs.length - (i+1),by lia,rfl,Ym,p'⟩,?_⟩;rintro v H' ⟨pp,x,hp,rfl,rfl,k1⟩;exact hs i x zs H pp (k1 xs q1) p hp
 ·have e:i=xs.length:=by lia
  subst e;exact .inl ⟨⟨xs,q1,ZD _⟩,hd zs H p⟩
end
theorem HF(a b:Nat):Builtin.bitAnd (a:Int) (b:Int)=((a &&& b:Nat):Int):=by
 unfold Builtin.bitAnd;rw[ZT (ZBx a),ZT (ZBx b)];rfl
noncomputable def iL(xs:List Nat):List V:=xs.map fun i=>V.int (i:Nat)
noncomputable def iD(xs:List Nat):List Dv:=xs.map fun i=>Dv.int (i:Nat)
theorem At(xs:List Nat):(iL xs).length=xs.length:=by unfold iL;rw[ZC]
theorem Bt(xs ys:List Nat):iL (xs++ys)=iL xs++iL ys:=by unfold iL;rw[ZN]
theorem CW{xs:List Nat}(h:(iL xs)[i]? = some v):∃x,xs[i]? = some x/\x∈xs/\v=.int (x:Nat):=by
 unfold iL at h;rw[ZR]at h;cases e:xs[i]? with
 | none=>rw[e]at h;cases h
 | some x=>rw[e]at h;exact⟨x,rfl,Zz e,(ZQ h).symm⟩
theorem PF{H0:Hp}{t:Addr}(s:Yc H0 H)(ht:H0 t=none):Yc H0 (upd H t o):=fun b u e=>by
 rw[AH (BD e ht)];exact s b u e
theorem Yc.sqT(e:Yc H H')(h:Yq K H a xs):Yq K H' a xs:=Ip h (fun o k=>e _ _ k)
theorem Yc.sqL(e:Yc H H')(h:Yt K H a xs):Yt K H' a xs:=Ko h (fun o k=>e _ _ k)
noncomputable def gB(bs:List Bool)(i:Nat):Bool:=bs.getD i false
theorem Vh{bs:List Bool}(h:i < bs.length):gB bs i=bs[i]:=by unfold gB;rw[ZV,ZE h];rfl
theorem HZ{bs:List Bool}(h:i < bs.length):atI (bs.map V.bl) ((i:Nat):Int)=some (.bl (gB bs i)):=by
 rw[Vh h];exact Ai rfl (by rw[ZR,ZE h];rfl)
noncomputable def Nb(x:Int)(k:Nat):Prop:=x.natAbs < 2 ^ k
theorem Nb.mul{x y:Int}{a b:Nat}(hx:Nb x a)(hy:Nb y b):Nb (x * y) (a+b):=by
 unfold Nb at *;rw[Int.natAbs_mul,Nat.pow_add];exact Nat.mul_lt_mul'' hx hy
theorem Nb.up{x:Int}{a b:Nat}(hx:Nb x a)(h:a<=b):Nb x b:=ZS hx (Zj (by decide) h)
theorem Nb.pow{x:Int}{a:Nat}(hx:Nb x a):∀i,Nb (x ^ i) (a * i+1)
 | 0=>by unfold Nb;rw[Int.pow_zero];show 1 < 2 ^ (a * 0+1);rw[Nat.mul_zero];decide
 | i+1=>by
  rw[Int.pow_succ]
  have:=(hx.pow i).mul hx
  rw[show a * (i+1)+1=a * i+1+a by rw[Nat.mul_succ];lia];exact this
theorem Nb.okMul{x y:Int}(hx:Nb x 4000)(hy:Nb y 4000):okMul x y:=.inl ⟨hx.up (by decide),hy.up (by decide)⟩
noncomputable def GS(H:Hp)(Q:VK)(xs:List V):Prop:=∀p H',H p=none->Yc H H'->H' p=some (.lst xs)->Q (.ref p) H'
theorem Uo(f:Nat->Bool)(n:Nat):((List.range (n+1)).map f).map V.bl=((List.range n).map f).map V.bl++[V.bl (f n)]:=by
 rw[ZBM,ZN,ZN];rfl
theorem PL{td ty tv:TE}(h1:Aj td)(h2:Aj ty)(h3:Aj tv):BV (KY td ty tv):=fun D D' σ H h q=>h3 _ _ _ _ (fun _ _ q=>h1 _ _ _ _ (fun _ _ q=>h2 _ _ _ _ (fun _ _ ⟨a,H4,e,g,q⟩=>⟨a,H4,e,g,h.nx _ _ q⟩) q) q) q
theorem EM(h:A.units+60 < cLine):A.units+1 < cLine:=by lia
end L2
namespace L2
open PySem PySem.Spec PyProof.Rows
variable {H:Hp}{t:Addr}{N:Nat}
section
variable {X:Cx}{K:W.Frag}{e sx:Expr}{te ts:TE}{lo hi:Option Expr}{tl th:TO}{pos p2:Pos}
noncomputable def mIs(neg:Bool):R2:=fun x y H Q=>match x,y with
 | .bl a,.bl b=>Q (.bl (neg ^^ (a == b))) H
 | x,.non=>Q (.bl (neg ^^ decide (x=.non))) H
 | _,_=>False
theorem Mo:Ys X (compareOp .IsNot) (mIs true):=by
 intro Ya s σ H x y v u Q I rx ry h;unfold mIs at h;split at h
 ·cases rx;cases ry;rename_i a b;exact wpAny_of_eq (show compareOp .IsNot (.bool a) (.bool b)=pure (.bool (!(a == b))) by cases a <;> cases b <;> rfl) ⟨.bl (!(a == b)),H,I,rfl,by rw[Bool.true_xor]at h;exact h⟩
 ·exact VT Ya s σ H _ _ v u Q I rx ry ⟨rfl,by rw[Bool.true_xor]at h;exact h⟩
 ·exact h.elim
theorem Qi{neg:Bool}:Bj (mIs neg):=fun x y H Q Q' h q=>by
 unfold mIs at *;split at q
 ·exact h _ _ q
 ·exact h _ _ q
 ·exact q.elim
end
structure GFeed(H:Hp)(t:Addr)(N:Nat):Prop where
 at_:∃(l:Addr) (i g c:Int) (ns:List Int),0<=i/\0<=g/\0<=c/\c<=N/\H t=some (.lst [.ref l,.int i,.int g,.int c])/\l≠t/\H l=some (.lst (ns.map V.int))/\ns.length≠0
theorem GFeed.same{H':Hp}(F:GFeed H t N)(h:Yc H H'):GFeed H' t N:=by
 obtain⟨l,i,g,c,ns,h1,h2,h3,h4,h5,h6,h7,h8⟩:=F.at_;exact⟨l,i,g,c,ns,h1,h2,h3,h4,h _ _ h5,h6,h _ _ h7,h8⟩
theorem GFeed.upd{p:Addr}{o:HO}(F:GFeed H t N)(h:H p=none):GFeed (L2.upd H p o) t N:=F.same (Yc.upd h)
theorem GFeed.mono{N':Nat}(F:GFeed H t N)(h:N<=N'):GFeed H t N':=by
 obtain⟨l,i,g,c,ns,h1,h2,h3,h4,h5⟩:=F.at_;exact⟨l,i,g,c,ns,h1,h2,h3,by lia,h5⟩
theorem GFeed.lst(F:GFeed H t N):∃zs,H t=some (.lst zs):=by
 obtain⟨l,i,g,c,ns,h1,h2,h3,h4,h5,_⟩:=F.at_;exact⟨_,h5⟩
theorem GFeed.neT{p:Addr}(F:GFeed H t N)(hp:H p=none):p≠t:=fun e=>by
 obtain⟨zs,h⟩:=F.lst;rw[e,h]at hp;cases hp
theorem GFeed.free{H':Hp}{p:Addr}(F:GFeed H' t N)(h:Yk t H H')(hp:H' p=none):H p=none:=by
 cases e:H p with
 | none=>rfl
 | some o =>
  by_cases hpt:p=t
  ·subst hpt;obtain⟨zs,h3⟩:=F.lst;rw[h3]at hp;cases hp
  ·rw[h p o hpt e]at hp;cases hp
noncomputable def EV:Sp:=fun vs H Q _=>match vs with
 | [.ref t,.int m]=>∃N,GFeed H t N/\N<=1000000000/\okDiv m/\∀d H',0<=d->d < m->GFeed H' t (N+1)->(∀b,b≠t->H' b=H b)->Q (.int d) H'
 | _=>False
theorem SN:AZ EV:=fun vs H Q Q' E h q=>by
 unfold EV at *;split at q
 ·obtain⟨N,h1,h2,h3,q⟩:=q;exact⟨N,h1,h2,h3,fun d H' a b c e=>h _ _ (q d H' a b c e)⟩
 ·exact q.elim
noncomputable def Gy(K:W.Frag):Sp:=fun vs H Q _=>match vs with
 | [.ref a]=>∃ns:List Int,Yt K H a (ns.map V.int)/\∀t H',H t=none->Yc H H'->GFeed H' t 0->Q (.ref t) H'
 | _=>False
theorem Eb{K:W.Frag}:∀ns:List Int,Yd K H (ns.map Dv.int) (ns.map V.int)
 | []=>AU
 | n::ns=>AS CV (Eb ns)
theorem Jz:∀ns:List Int,BJ (ns.map Dv.int)=0
 | []=>by rw[List.map_nil];unfold BJ;rfl
 | n::ns=>by rw[Zi];unfold BJ;rw[Jz ns];unfold AY;rfl
theorem Bp{K:W.Frag}:∀bs:List Bool,Yd K H (bs.map Dv.bl) (bs.map V.bl)
 | []=>AU
 | b::bs=>AS QW (Bp bs)
theorem D4{K:W.Frag}{ds:List Dv}{v:V}(h:Yh K H (.tup ds) v):∃a xs,v=.ref a/\Yq K H a xs/\Yd K H ds xs:=by unfold Yh at h;exact h
theorem Bv{K:W.Frag}{p:Addr}{xs:List V}{ds:List Dv}(h:Yq K H p xs)(r:Yd K H ds xs):Yh K H (.tup ds) (.ref p):=by unfold Yh;exact⟨p,xs,rfl,h,r⟩
theorem LG:∀ds es:List Dv,Az (ds++es)=(Az ds && Az es)
 | [],es=>by rw[List.nil_append];simp[Az]
 | d::ds,es=>by
  rw[List.cons_append]
  show(Bh d && Az (ds++es))=(Bh d && Az ds && Az es)
  rw[LG ds es,Bool.and_assoc]
theorem JV:∀bs:List Bool,Az (bs.map Dv.bl)=true
 | []=>rfl
 | b::bs=>by
  show(true && Az (bs.map Dv.bl))=true
  rw[JV bs];rfl
end L2
namespace L2
open PySem PySem.Spec PyProof.Rows PySem.W
open Att (FP J9 UL)
noncomputable def CdO(a:Addr)(q:Str):HO:=.ext fun h=>h.CodeRec (.ref a) q
theorem RT{P:Program}{w:World}{H:Hp}{h:Heap}{a:Addr}{q:Str}(r:h.CodeRec (.ref a) q):ObjOk P w H h a (CdO a q):=by
 refine⟨r,?_,fun h1 h2 p k=>?_⟩
 ·obtain⟨c,o,vs,t,e,g,_⟩:=r;cases e;exact⟨o,g⟩
 ·obtain⟨c,o,vs,t,e,g,z⟩:=p;cases e;exact⟨_,o,vs,t,rfl,k o g,z⟩
noncomputable def Yx(Pt:Addr)(pos:Pos)(q:Str)(H:Hp):Prop :=
 ∃ps:Array Value,H Pt=some (.tbl ps)/\TriplesOk ps.toList/\(codeAmong pos ps.toList=none\/∃c',codeAmong pos ps.toList=some (.ref c')/\H c'=some (CdO c' q))
noncomputable def Yw(Pt:Addr)(H H':Hp):Prop:=∀b o,b≠Pt->H b=some o->H' b=some o
theorem Yw.refl(Pt:Addr)(H:Hp):Yw Pt H H:=fun _ _ _ e=>e
theorem Yx.same{Pt:Addr}{pos:Pos}{q:Str}{H H':Hp}(l:Yx Pt pos q H)(h:Yc H H'):Yx Pt pos q H':=by
 obtain⟨ps,a,b,c⟩:=l;refine⟨ps,h _ _ a,b,?_⟩
 rcases c with c | ⟨c',c,d⟩
 ·exact .inl c
 ·exact .inr ⟨c',c,h _ _ d⟩
theorem Tn{K:W.Frag}{Pt:Addr}{ps:Array Value}{H H':Hp}{a:Addr}{xs:List V}(s:Yw Pt H H')(hz:H Pt=some (.tbl ps))(h1:Yq K H a xs):Yq K H' a xs:=by
 rcases h1 with (h1 | ⟨o,h1⟩) | h1
 ·exact .inl (.inl (s a _ (fun q=>by rw[q,hz]at h1;cases h1) h1))
 ·exact .inl (.inr ⟨o,s a _ (fun q=>by rw[q,hz]at h1;cases h1) h1⟩)
 ·exact .inr h1
noncomputable def BMn(mg:Str->Option Value)(h:Heap):Prop:=∃bm ob,mg "__builtins__" = some (.ref bm)/\bm≠builtinsNs/\h.get? bm=some ob/\ob.cls=.type "module" /\ ob.dict=some builtinsNs/\ob.data=.plain
section
variable {X:Cx}{Ya:List (Addr × Obj)}{σ:List (Option V)}{H:Hp}{s:Shared}{h':Heap}
theorem Yf.grow {Pt c':Addr} {ps more:Array Value} {t':Nat} {q:Str} (I:Yf X Ya σ H s) (hP:H Pt=some (.tbl ps)) (hx:Heap.ExtBut Pt s.heap h') (hP':h'.get? Pt=some (tabObj (ps++more)))
 (hc:s.heap.objs.size<=c') (hr:h'.CodeRec (.ref c') q):Yf X Ya σ (upd (upd H Pt (.tbl (ps++more))) c' (CdO c' q)) { s with heap:=h',toks:=t' }:=by
 have hcn:H c'=none:=I.hok.fresh hc;have hcP:c'≠Pt:=fun z=>by rw[z,hP]at hcn;cases hcn
 have hn:∀b,H b=none->b≠Pt:=fun b e z=>by rw[z,hP]at e;cases e
 have hs:∀b u,H b=some u->b≠c':=fun b u e z=>by rw[z,hcn]at e;cases e
 have up:∀b,b≠c'->b≠Pt->upd (upd H Pt (.tbl (ps++more))) c' (CdO c' q) b=H b:=fun b n1 n2=>by rw[AH n1,AH n2]
 refine I.un ⟨fun b o e n _ _=>hx b o (hn b n) e,fun b o e n _ _=>⟨o.slots,hx b o (hn b n) e⟩,fun b o e n _=>?_,fun b o e _=>?_,fun b xs e=>?_,fun b o u e=>?_,fun b qs e=>?_⟩ fun b u e=>?_
 ·rw[up b (ZK (ZS (ZG e) hc)) (hn b n)];exact n
 ·by_cases z:b=Pt
  ·subst z;exact⟨_,hP'⟩
  ·exact⟨o,hx b o z e⟩
 ·have z:b≠Pt:=fun z=>by rw[z,hP]at e;cases e
  rw[up b (hs b _ e) z];exact e
 ·have z:b≠Pt:=fun z=>by rw[z,hP]at e;cases e
  rw[up b (hs b _ e) z];exact e
 ·by_cases z:b=Pt
  ·subst z;rw[hP]at e;cases e;exact⟨more,by rw[AH (Ne.symm hcP),AC]⟩
  ·exact⟨#[],by rw[up b (hs b _ e) z,e];simp⟩
 ·by_cases z:b=c'
  ·subst z;rw[AC]at e;cases e;exact RT hr
  ·rw[AH z]at e
   by_cases y:b=Pt
   ·subst y;rw[AC]at e;cases e;exact hP'
   ·rw[AH y]at e;refine(I.hok b u e).stay (fun c v hc' r=>hx c v ?_ r) (fun c r=>?_) fun c xs r=>?_
    ·rcases hc' with k | k
     ·rw[k];exact y
     ·rintro rfl;rw[hP]at k;cases k
    ·rw[up c (hs c _ r) (fun k=>by rw[k,hP]at r;cases r)];exact r
    ·rw[up c (hs c _ r) (fun k=>by rw[k,hP]at r;cases r)];exact r
end
theorem Qs {P:Program} {w:World} {K:W.Frag} {mg mb:Str->Option Value} {CX:CXT} {k:Nat} {fa a:Addr} {fd:FuncData} {x:Str} {sp:Sp} {s₁:Shared} {vs:List Value} {ns:List Int} {ts:List (Addr × Addr)}
 (KX:K.In s₁.heap) (hns:s₁.heap.Ns mainGlobals mg) (hb:s₁.heap.Ns builtinsNs mb) (hbb:∀x:Str,x ≠ "__name__" -> mb x=bootBuiltins x) (hlim:s₁.heap.NoLimit) (hg:s₁.gens = #[])
 (ha:s₁.heap.get? a=some { cls:=.type "list",data:=.seq vs.toArray }) (hi:IntsAre vs ns) (hl:ns.length<=sizeLine) (hr:Room k callerA) (hbm:BMn mg s₁.heap) (hT:TabsAt ts s₁.heap) (hnt:noTabs K=true)
 (F:∀base:Heap,K.In base->base.Ns mainGlobals mg->BMn mg base->FnOk P w K mg base CX k fa fd [x] sp) (hbind:∀(s:Shared) (u:Value),BindsTo s fd ⟨[u],[]⟩ [(x,u)])
 (hsp:∀H:Hp,(∀q∈ts,H q.2=some (.tbl #[]))->Yt K H a (ns.map V.int)->sp [.ref a] H (fun v _=>v=.bl true) fun _ _ _=>False)
 (hCX:∀H e s',CX [] H s₁ (fun _ _ _=>False) e s'->False) :
 codeAny (model P w) callerA (.call (.ref fa) ⟨[.ref a],[]⟩) (fun r s'=>r=.ok (.ret (.bool true))/\OldK s₁.heap s'.heap/\s'.os=s₁.os/\AllBare s'.gens) s₁:=by
 have rv:=MC hi;have lenV:=hi.length
 have tabK:∀b,b∈ts.map (·.2)->K.lookup b=none:=fun b hb'=>by
  obtain⟨q,hq,rfl⟩:=ZU.mp hb';cases e:K.lookup q.2 with
  | none=>rfl
  | some o =>
   have e1:=KX _ _ e;rw[(hT q hq).2]at e1;cases e1;have h2:=ZBj.mp hnt (q.2,tabObj #[]) (mem_of_lookupK e);exact absurd (show false=true from h2) Zo
 have tabO:∀b,b∈ts.map (·.2)->s₁.heap.get? b=some (tabObj #[]):=fun b hb'=>by
  obtain⟨q,hq,rfl⟩:=ZU.mp hb';exact(hT q hq).2
 have core:∀H:Hp,(∀b,H b=none\/(∃o xs,H b=some (.frz o (.lst xs)))\/(b∈ts.map (·.2)/\H b=some (.tbl #[])))->(∀q∈ts,H q.2=some (.tbl #[]))->Yt K H a (ns.map V.int)->HOk P w H s₁.heap->(∀b,H b≠none->b=a\/b∈ts.map (·.2))->(H a≠none->K.lookup a=none) ->
  codeAny (model P w) callerA (.call (.ref fa) ⟨[.ref a],[]⟩) (fun r s'=>r=.ok (.ret (.bool true))/\OldK s₁.heap s'.heap/\s'.os=s₁.os/\AllBare s'.gens) s₁:=by
  intro H hO hTs hS hok hA hK;have base_of:∀{b:Addr} {o:Obj},s₁.heap.get? b=some o->H b=none->(B8 s₁.heap H).get? b=some o:=fun e n=>LQ e n
  have noA:∀{b:Addr} {o:Obj},s₁.heap.get? b=some o->(∀as n,o.data≠.seq as n)->(∀as,o.data≠.fields as)->H b=none:=fun {b o} e d d2=>by
   cases q:H b with
   | none=>rfl
   | some u =>
    rcases hA b (by rw[q];simp) with e' | e'
    ·subst e';rw[ha]at e;cases e;exact absurd rfl (d _ _)
    ·rw[tabO b e']at e;cases e;exact absurd rfl (d2 _)
  have nsK:∀{b:Addr} {m:Str->Option Value},s₁.heap.Ns b m->(B8 s₁.heap H).Ns b m:=fun {b m} ⟨o,es,ep,e,d,r⟩=>⟨o,es,ep,base_of e (noA e (fun _ _=>by rw[d];simp) (fun _=>by rw[d];simp)),d,r⟩
  have hKb:K.In (B8 s₁.heap H):=fun b o e=>base_of (KX b o e) (by
   cases q:H b with
   | none=>rfl
   | some u =>
    rcases hA b (by rw[q];simp) with e' | e'
    ·subst e';rw[hK (by rw[q];simp)]at e;cases e
    ·rw[tabK b e']at e;cases e)
  have hM:Mod K mg (B8 s₁.heap H):=⟨hKb,nsK hns,⟨mb,nsK hb,hbb⟩,let ⟨mc,h1,h2⟩:=hlim;⟨mc,nsK h1,h2⟩⟩
  have hBb:BMn mg (B8 s₁.heap H):=by
   obtain⟨bm,ob,b1,b2,b3,b4,b5,b6⟩:=hbm;exact⟨bm,ob,b1,b2,base_of b3 (noA b3 (fun _ _=>by rw[b6];simp) (fun _=>by rw[b6];simp)),b4,b5,b6⟩
  have e0:Env0 P w K mg (B8 s₁.heap H) callerA [] s₁ H:=⟨rfl,hM,fun b o e=>MN e,ZBb (LK _ _),trivial,fun b hb=>absurd (show b∈([]:List Addr) from hb) (by simp),hok,.of_eq hg⟩;refine Z4 ((F _ hKb (nsK hns) hBb).run callerA [] s₁ H ⟨[.ref a],[]⟩ [.ref a] [.ref a] _ _ hr e0 (hbind s₁ (.ref a)) (.cons rfl .nil) (hsp H hTs hS)) fun r s' h=>?_
  cases r with
  | error e=>exact(hCX H e s' h).elim
  | ok fl =>
   cases fl with
   | next=>exact False.elim h
   | brk=>exact False.elim h
   | cont=>exact False.elim h
   | ret u =>
    obtain⟨v,H',os,bare,un,hok',r',q⟩:=h;have q':v=.bl true:=q;subst q';obtain rfl:u=Value.bool true:=r'
    have kk:∀b o,s₁.heap.get? b=some o->b∉ts.map (·.2)->s'.heap.get? b=some o:=fun b o e nb=>by
     cases q:H b with
     | none=>exact un.keep b o e q (by intro z;exact absurd (show b∈([]:List Addr) from z) (by simp)) (by simp)
     | some u =>
      rcases hO b with z | ⟨ob,xs,z⟩ | ⟨z,_⟩
      ·rw[q]at z;cases z
      ·have z2:=un.frzs b ob _ z;obtain⟨e1,_⟩:=hok b _ z;obtain⟨e2,_⟩:=hok' b _ z2;rw[e]at e1;cases e1;exact e2
      ·exact absurd z nb
    have tt:∀b,b∈ts.map (·.2)->∃more,s'.heap.get? b=some (tabObj more):=fun b hb'=>by
     obtain⟨q,hq,rfl⟩:=ZU.mp hb';obtain⟨more,e⟩:=un.tbls _ _ (hTs q hq);exact⟨_,hok' _ _ e⟩
    refine⟨rfl,⟨fun b o e=>?_,fun b o e=>?_⟩,os,bare⟩
    ·by_cases z:b∈ts.map (·.2)
     ·obtain⟨more,e2⟩:=tt b z;have e3:=tabO b z;rw[e]at e3;cases e3;obtain⟨q,hq,rfl⟩:=ZU.mp z;refine .inr (.inl ⟨((hT q hq).1.tab (hT q hq).2).isCodeTable,rfl,#[],more,rfl,by rw[e2];simp⟩)
     ·exact .inl (kk b o e z)
    ·by_cases z:b∈ts.map (·.2)
     ·obtain⟨more,e2⟩:=tt b z;exact⟨_,e2⟩
     ·exact⟨o,kk b o e z⟩
 have aT:a∉ts.map (·.2):=fun z=>by
  have e:=tabO a z;rw[ha]at e;cases e
 have tm:∀q∈ts,q.2∈ts.map (·.2):=fun q hq=>List.mem_map_of_mem hq
 cases hk:K.lookup a with
 | some o =>
  have e:=KX a o hk;rw[ha]at e;cases e;refine core (fun b=>if b∈ts.map (·.2) then some (.tbl #[]) else none) (fun b=>?_) (fun q hq=>if_pos (tm q hq)) (.inr ⟨_,vs.toArray,_,hk,rfl,rfl,rfl,by rw[ZJ,lenV];exact hl,by simpa using rv⟩) (fun b u z=>?_) (fun b z=>?_) fun z=>absurd (if_neg aT) z
  ·by_cases z:b∈ts.map (·.2)
   ·exact .inr (.inr ⟨z,if_pos z⟩)
   ·exact .inl (if_neg z)
  ·by_cases y:b∈ts.map (·.2)
   ·have z':=(if_pos y).symm.trans z;cases z';exact tabO b y
   ·have z':=(if_neg y).symm.trans z;cases z'
  ·by_cases y:b∈ts.map (·.2)
   ·exact .inr y
   ·exact absurd (if_neg y) z
 | none =>
  refine core (fun b=>if b=a then some (.frz { cls:=.type "list",data:=.seq vs.toArray } (.lst (ns.map V.int))) else if b∈ts.map (·.2) then some (.tbl #[]) else none) (fun b=>?_) (fun q hq=>?_) (.inl (.inr ⟨{ cls:=.type "list",data:=.seq vs.toArray },if_pos rfl⟩)) (fun b u z=>?_) (fun b z=>?_) fun _=>hk
  ·by_cases hb:b=a
   ·exact .inr (.inl ⟨_,_,if_pos hb⟩)
   ·by_cases y:b∈ts.map (·.2)
    ·exact .inr (.inr ⟨y,(if_neg hb).trans (if_pos y)⟩)
    ·exact .inl ((if_neg hb).trans (if_neg y))
  ·have hb:q.2≠a:=fun z=>aT (z ▸ tm q hq)
   exact(if_neg hb).trans (if_pos (tm q hq))
  ·by_cases hb:b=a
   ·have z':=(if_pos hb).symm.trans z;cases z';subst hb;exact⟨ha,by rw[ZC];exact hl,vs,_,rv,ha⟩
   ·by_cases y:b∈ts.map (·.2)
    ·have z':=((if_neg hb).trans (if_pos y)).symm.trans z;cases z';exact tabO b y
    ·have z':=((if_neg hb).trans (if_neg y)).symm.trans z;cases z'
  ·by_cases hb:b=a
   ·exact .inl hb
   ·by_cases y:b∈ts.map (·.2)
    ·exact .inr y
    ·exact absurd ((if_neg hb).trans (if_neg y)) z
theorem walk_ofT {l:PySem.W.OpenLaw} {n k:Nat} {q:Program} {loose:List Str} {XP:(Str->Option Value)->Heap->Prop} {YP:World->Heap->Prop} {d:DefRec} {K:Params->W.Frag} {sp:World->List Addr->Sp} {x:Str}
 (hn:l.most=some n) (hn2:n<=sizeLine) (hdf:d.params.defaults=[]) (hr:Room k callerA)
 (hY:∀(w:World) (h:Heap),YP w h->(K w.params).In h)
 (F:∀(w:World) (mg:Str->Option Value) (fa:Addr) (h:Heap),YP w h->(K w.params).In h->h.Ns mainGlobals mg->mg d.name=some (.ref fa) ->
   ∃(fd:FuncData) (ts:List (Addr × Addr)),TabsAt ts h/\noTabs (K w.params)=true/\(∀(s:Shared) (u:Value),BindsTo s fd ⟨[u],[]⟩ [(x,u)]) /\
    ∀base:Heap,(K w.params).In base->base.Ns mainGlobals mg->BMn mg base->FnOk l.prog w (K w.params) mg base CX0 k fa fd [x] (sp w (ts.map (·.2))))
 (hsp:∀(w:World) (H:Hp) (a:Addr) (ns:List Int) (ts:List Addr),ns.length<=n->(∀Pt∈ts,H Pt=some (.tbl #[]))->Yt (K w.params) H a (ns.map V.int)->sp w ts [.ref a] H (fun v _=>v=.bl true) fun _ _ _=>False) :
 PySem.W.WalkO q loose XP YP l.row.toRowW d [] (fun f vs=>PySem.call f vs):=by
 refine Att.attach_call hn hdf fun w s₀ s₁ mg mb fa o pm cd doc a vs ns G Y ho hd hcd hmg hobj hints Yl hg=>?_
 have KX:=hY w _ Y;obtain⟨fd,ts,hT,hnt,hb,hF⟩:=F w mg fa _ Y KX G.T.g hmg
 exact Qs KX G.T.g G.T.b G.T.builtins G.T.nolimit hg hobj hints (Za Yl hn2) hr G.T.bmain hT hnt hF hb (fun H hO hS=>hsp w H a ns _ Yl (fun Pt hP=>by
  obtain⟨q,hq,rfl⟩:=ZU.mp hP;exact hO q hq) hS) fun H e s' z=>z
theorem Fun.okC {P:Program} {w:World} {K:W.Frag} {mg:Str->Option Value} {base:Heap} {x qual:Str} {st:Stmt} {f c:Addr} {fd:FuncData} {N ps:List Str} {k:Nat} {sp:Sp} (F:Fun K x qual st f fd) (hc:fd.code=.ref c) (S:FnScope N ps (AL st)) (len:∀vs H Q E,sp vs H Q E->vs.length=ps.length)
 (hbody:∀(A:Around) (outer:List Env) (s:Shared) (H:Hp) (vs:List V) (Q:VK) (E:XK),Room k (A.deeper (envOfC qual (AL st) s.heap.objs.size f (.ref c)))->sp vs H Q E ->
   ∃t,PSs (Bx CX0 P w K mg base N qual (AL st) f (.ref c) A outer s H E).nox (BE st) t/\t { nx:=fun _ H'=>Q .non H',rt:=Q } (CG N vs) H):FnOk P w K mg base CX0 (k+1) f fd ps sp:=by
 obtain⟨oc,od,kV,doc,pm,an,Yu,ct,osl,rfl,lk,hcd⟩:=F.ex;cases hc;refine IT lk hcd S len fun A outer s H vs Q E hr hsp=>?_
 obtain⟨t,h,q⟩:=hbody A outer s H vs Q E hr hsp;exact⟨t,h.nox,q⟩
end L2
namespace L2
open PySem
noncomputable def Ek(K:W.Frag)(ts:List Addr):Sp:=fun vs H Q _=>∃(a:Addr) (ns:List Int),vs=[.ref a]/\Yt K H a (ns.map V.int)/\ns.length<=63/\(∀Pt∈ts,H Pt=some (.tbl #[]))/\∀H',Q (.bl true) H'
theorem QZ{Pt:Addr}{pos:Pos}{q:Str}{H:Hp}(h:H Pt=some (.tbl #[])):Yx Pt pos q H:=⟨#[],h,trivial,.inl rfl⟩
end L2
namespace L2
open PySem PySem.Spec PyProof.Rows
noncomputable def mIn(K:W.Frag)(neg:Bool):R2:=fun x y H Q=>match y with
 | .ref p=>∃xs,(Yt K H p xs\/Yq K H p xs)/\Bg x=true/\xs.all Bg=true/\Q (.bl (neg ^^ inV x xs)) H
 | _=>False
section
variable {X:Cx}{K:W.Frag}
theorem LJ(hK:X.K=K:=by rfl):Ys X (compareOp .NotIn) (mIn K true):=by
 subst hK;intro Ya s σ H x y v u Q I rx ry h;cases y with
 | ref p =>
  obtain⟨xs,h1,h2,h3,q⟩:=h;exact PK Ya s σ H x _ v u Q I rx ry ⟨p,xs,rfl,h1,h2,h3,by simpa using q⟩
 | _=>exact False.elim h
end
section
variable {X:Cx}{K:W.Frag}
noncomputable def Lk(K:W.Frag):List V->Hp->VK->Prop:=fun xs H Q=>match xs with
 | [.ref l]=>∃bs:List Bool,Yt K H l (bs.map V.bl)/\Q (.bl (bs.any id)) H
 | _=>False
theorem RF(hc:X.calm=true):CallR X (.builtin "any") (Lk X.K):=by
 intro Ya s σ H xs us Q I r q
 match xs,q with
 | [.ref l],q =>
 obtain⟨bs,hl,q⟩:=q;obtain⟨u,rfl,ru⟩:=Bd r;cases ru;obtain⟨Ye,rv,pl,hz⟩:=I.list hl;have Yl:=rv.length;rw[ZC]at Yl;obtain⟨o1,n1,g1,_⟩:=id pl;have Ym:=ZG g1;refine call_any_walk (wpAny_pyIter_list pl.isList ?_);have Yr:l≠s.heap.objs.size:=ZK Ym;refine⟨_,_,_,_,_,_,fun i=>bs.getD i false,rfl,Walks.list (A:=X.A.in1) (I.ok.hd hc) s.heap.objs.size l Yr Ye.toArray,?_,?_,fun h' tk hk=>?_⟩
 ·exact⟨⟨_,ZM _ rfl,rfl,rfl⟩,(show s.heap.IsList l Ye.toArray from pl.isList).at fun o e=>ZH _ e⟩
 ·intro i v s' Q' E' hv hq;have hv:Ye.toArray[i]? = some v:=hv
  have hi:i < Ye.length:=by
   have:=(ZBt.mp hv).1
   simpa using this
  have hb:(bs.map V.bl)[i]? = some (.bl bs[i]):=by rw[ZR,ZE (by lia)];rfl
  obtain⟨w',q1,q2⟩:=rv.get hb;have e:v=w':=by simp at hv;rw[q1]at hv;exact(ZQ hv).symm
  subst e;cases q2;refine ZBS ?_;have e2:bs.getD i false=bs[i]:=by rw[ZV,ZE (by lia)];rfl
  have hq:Q' (bs.getD i false) s':=hq;rw[e2]at hq;exact hq
 ·refine⟨.bl _,H,I.kept (fun b o e=>hk b o ?_ (ZH _ e)),rfl,?_⟩
  ·simp only[ZF];exact ZK (ZG e)
  ·have e:(List.range Ye.toArray.size).any (fun i=>bs.getD i false)=bs.any id:=by
    rw[ZJ,<- Yl];rw[ZBB,ZBm,ZBm];constructor
    ·rintro⟨i,hi,e⟩;have hi':=Zn.mp hi;rw[ZV,ZE hi']at e;exact⟨_,Zl hi',e⟩
    ·rintro⟨b,hb,e⟩;obtain⟨i,hi,rfl⟩:=List.mem_iff_getElem.mp hb;refine⟨i,Zn.mpr hi,?_⟩;rw[ZV,ZE hi];exact e
   rw[e];exact q
theorem T8(hc:X.calm=true)(hK:X.K=K:=by rfl):CallR X (.builtin "any") (Lk K):=hK ▸ RF hc
end
end L2
namespace L2
theorem on1{α:Type}{P:List α->Prop}(h:∀a,P [a]):∀us:List α,us.length=1->P us
 | [a],_=>h a
theorem on2{α:Type}{P:List α->Prop}(h:∀a b,P [a,b]):∀us:List α,us.length=2->P us
 | [a,b],_=>h a b
theorem on3{α:Type}{P:List α->Prop}(h:∀a b c,P [a,b,c]):∀us:List α,us.length=3->P us
 | [a,b,c],_=>h a b c
theorem on4{α:Type}{P:List α->Prop}(h:∀a b c d,P [a,b,c,d]):∀us:List α,us.length=4->P us
 | [a,b,c,d],_=>h a b c d
open PySem in
theorem star_lst{xs es:List PySem.Expr}{p:Pos}{env:Env}:starEach (.List xs p::es) env=(false,eval (.List xs p) env)::starEach es env:=by rfl
end L2
namespace L2
open PySem
noncomputable def K3:Expr->Bool
 | .ListComp ..=>true
 | .SetComp ..=>true
 | .DictComp ..=>true
 | _=>false
theorem SR{e:Expr}{t:Option Expr}{l:Nat}{env:Env}(h:K3 e=false):swapsWith e t l env=pure false:=by
 cases e <;> first | rfl | cases h
theorem SU{X:Cx}{pos:Pos}{i:Nat}{x:Str}{e:Expr}{te:TE}{pos':Pos}(hN:X.N.Nodup)(hi:X.N[i]? = some x)(hx:Loc X.env.scope x)(he:PE X e te)(hs:K3 e=false)(hf:X.fn x=true\/X.env.scope.names.lookup x=some .local) :
 PS X (.Assign [.Name x pos'] e pos) (DS te (Af i)):=AO hN hi hx he (SR hs) hf
end L2
namespace L2
open PySem PyProof.Rows
theorem QC:∀{ns:List Int} {us:List Value},IntsAre us ns->Yi (ns.map V.int) us:=by
 intro ns us h
 induction h with
 | nil=>exact .nil
 | cons _ _ _ ih=>exact .cons ⟨_,rfl⟩ ih
noncomputable def Et:V->List V->Hp->VK->Prop:=fun x vs H Q=>match x,vs with
 | .ref l,[.int i,y]=>∃xs,H l=some (.lst xs)/\0<=i/\i<=xs.length/\xs.length < 1000/\Q .non (upd H l (.lst (xs.take i.toNat++y::xs.drop i.toNat)))
 | _,_=>False
theorem KJ:∀{xs:List V} {us:List Value} {y:V} {u:Value} (k:Nat),Yi xs us->Yj y u->Yi (xs.take k++y::xs.drop k) (us.take k++u::us.drop k)
 | _,_,_,_,0,r,ry=>by simpa using Paired.cons ry r
 | _,_,_,_,k+1,.nil,ry=>by simpa using Paired.cons ry .nil
 | _,_,_,_,k+1,.cons r t,ry=>by simpa using Paired.cons r (KJ k t ry)
section
variable {X:Cx}{K:W.Frag}{o e e2:Expr}{to:TE}{t:TA}{apos cpos:Pos}
theorem Qv:MtR X "list.insert" Et:=by
 intro Ya s σ H x vs v us Q I rx rv q
 match x,vs,q with
 | .ref l,[.int i,y],⟨xs,hH,h1,h2,h3,q⟩ =>
 cases rx;obtain⟨u1,u,rfl,⟨tk,rfl⟩,ru⟩:=Hg rv;obtain⟨z,Ye,n,r,hl,e⟩:=I.lstM hH;have hi63:i < 2 ^ 63:=by lia
 have hfit:¬(!Builtin.List.listFitsIndex i)=true:=by
  rw[fitsIndex_both (by lia) hi63];exact Zo
 refine call_meets F.slot_list_insert ⟨_,e,rfl⟩ F.entry_list_insert (F.args_list_insert_3 _ _ _) (AutoListH.list_insert_list_int_val_1 l Ye.toArray n i tk u hfit (by rw[ZJ];lia)) ⟨e,?_⟩;refine⟨.non,_,I.lset (its':=Ye.take i.toNat++u::Ye.drop i.toNat) hH e ?_ (KJ i.toNat r ru) ?_,rfl,q⟩
 ·have hm:min i.toNat Ye.length=i.toNat:=by lia
  show(have k:=if i < 0 then (i+((Ye.toArray.size:Nat):Int)).toNat else min i.toNat Ye.toArray.size;(Ye.toArray.extract 0 k).push u++Ye.toArray.extract k)=_
  rw[if_neg (by lia),ZJ,hm];apply Array.toList_inj.mp;simp;exact ZBV (by rw[ZBE];exact ZD _)
 ·rw[ZL,Zk,Zf,ZBE];exact CF (by lia)
theorem OW (ho:PE X o to) (ha:PA X [e,e2] t) (hbase:attributeBase o "insert" X.env (eval o X.env)=eval o X.env:=by rfl)
 (hfew:((backTo cpos (starEach [e,e2] X.env)).all (fun x=>!x.1) && (backToKw cpos (keywordEach [] X.env)).all (fun x=>x.1.isSome)
   && decide ([e,e2].length+([]:List Keyword).length+(if ([]:List Keyword).isEmpty then 0 else 1) < 30))=true:=by rfl)
 (hline:(apos.endLine == cpos.line)=true:=by rfl) (hs:starEach [e,e2] X.env=(false,eval e X.env)::starEach [e2] X.env:=by rfl) (hplain:(backTo cpos (starEach [e2] X.env)).any (·.1)=false:=by rfl) (hK:X.K=K:=by rfl) :
 PE X (.Call (.Attribute o "insert" apos) [e,e2] [] cpos) (tBM K "list" Et to t):=hK ▸ GI PySem.F.plainAttrs_list PySem.F.slot_list_insert PySem.F.type_list_insert Qv ho ha hbase hfew hline hs hplain
theorem Sx:HR Et:=fun x xs H Q Q' h q=>by
 unfold Et at *;split at q
 ·obtain⟨ys,a,b,c,d,q⟩:=q;exact⟨ys,a,b,c,d,h _ _ q⟩
 ·exact q.elim
end
end L2
namespace L2
open PySem PySem.Spec PyProof.Rows
mutual
noncomputable def CQ:Dv->Bool
 | .non=>true
 | .bl _=>true
 | .int i=>Cj i
 | .str x=>x.cps.toList.all fun c=>decide (c < 16 ^ 8)
 | .tup ds=>Cn ds
 | .lst ds=>Cn ds
noncomputable def Cn:List Dv->Bool
 | []=>true
 | d::ds=>CQ d && Cn ds
end
mutual
noncomputable def B6:Dv->Nat
 | .str x=>x.cps.size
 | .tup ds=>Cb ds
 | .lst ds=>Cb ds
 | _=>0
noncomputable def Cb:List Dv->Nat
 | []=>0
 | d::ds=>B6 d+1+Cb ds
end
mutual
theorem MT:∀d:Dv,(pyD d).bulk=B6 d
 | .non=>by simp[pyD,PyData.bulk,B6]
 | .bl _=>by simp[pyD,PyData.bulk,B6]
 | .int _=>by simp[pyD,PyData.bulk,B6]
 | .str _=>by simp[pyD,PyData.bulk,B6]
 | .tup ds=>by simp[pyD,PyData.bulk,B6,GT ds]
 | .lst ds=>by simp[pyD,PyData.bulk,B6,GT ds]
theorem GT:∀ds:List Dv,PyData.bulkAll (BC ds)=Cb ds
 | []=>by simp[BC,PyData.bulkAll,Cb]
 | d::ds=>by simp[BC,PyData.bulkAll,Cb,MT d,GT ds]
end
mutual
theorem IY:∀d:Dv,CQ d=true->(pyD d).showable=true/\(pyD d).leavesShort 1921=true
 | .non,_=>by simp[pyD,PyData.showable,PyData.leavesShort]
 | .bl _,_=>by simp[pyD,PyData.showable,PyData.leavesShort]
 | .int i,h=>by
  have h1:i.natAbs.log2 < 1900:=by simpa [CQ,Cj] using h
  have h2:i.natAbs.log2 < 1920:=by lia
  refine⟨by simpa [pyD,PyData.showable] using h2,?_⟩;simp only[pyD,PyData.leavesShort,decide_eq_true_eq,PyData.shown];exact ZT (PyProof.Rows.int_text_len_1921 h2)
 | .str x,h=>by
  refine⟨by simp[pyD,PyData.showable],?_⟩;unfold CQ at h;unfold pyD PyData.leavesShort;exact h
 | .tup ds,h=>by
  have h':=Im ds (by simpa [CQ] using h);simpa [pyD,PyData.showable,PyData.leavesShort] using h'
 | .lst ds,h=>by
  have h':=Im ds (by simpa [CQ] using h);simpa [pyD,PyData.showable,PyData.leavesShort] using h'
theorem Im:∀ds:List Dv,Cn ds=true->PyData.showableAll (BC ds)=true/\PyData.leavesShortAll 1921 (BC ds)=true
 | [],_=>by simp[BC,PyData.showableAll,PyData.leavesShortAll]
 | d::ds,h=>by
  have h':CQ d=true/\Cn ds=true:=by simpa [Cn] using h
  have h1:=IY d h'.1;have h2:=Im ds h'.2;simp[BC,PyData.showableAll,PyData.leavesShortAll,h1,h2]
end
theorem Tu{d:Dv}(h:CQ d=true)(hb:B6 d<=8000):(BI d).length<=sizeLine:=by
 have h1:=PyData.shown_le_bulk 1921 (by decide) (pyD d) (IY d h).2;rw[MT d]at h1;have e:sizeLine=16777216:=by decide
 unfold BI;rw[e];lia
noncomputable def FU(K:W.Frag):List V->Hp->VK->Prop:=fun xs H Q=>match xs with
 | [x]=>∃d,Yh K H d x/\CQ d=true/\B6 d<=8000/\AY d<=60/\Q (.str (BI d)) H
 | _=>False
section
variable {X:Cx}{K:W.Frag}
theorem Uh(hg:X.A.guards=some [])(hu:X.A.units+62 < cLine):CallR X (.builtin "repr") (FU X.K):=by
 intro Ya s σ H xs us Q I r q
 match xs,q with
 | [x],q =>
  obtain⟨d,hd,hn,hb,hp,q⟩:=q;cases r with
  | cons r1 r2 =>
  cases r2;rename_i u;have fits:=Tu hn hb;have shw:=(IY d hn).1
  have done:∀(h':Heap) (t tk:Nat),(∀b o,s.heap.get? b=some o->h'.get? b=some o)->EP X Ya σ Q (.str (BI d) t) { s with heap:=h',toks:=tk }:=fun h' t tk hk =>
   ⟨.str (BI d),H,I.kept (t':=tk) hk,⟨t,rfl⟩,q⟩
  obtain⟨as,hr⟩:=Mr I d x u hd r1;cases hx:u with
  | ref a =>
   rw[hx]at hr;refine PySem.repr_of_reads' hr shw (PyData.noDict_hsm (Mz d)) hg ?_ (fun _ _ e=>e) (fun h' t tk hk=>done h' t tk hk) fits;rw[KB];lia
  | none =>
   rw[hx]at hr;generalize hp:pyD d=p at hr;cases hr;have e:BI d=("None" : Str):=by unfold BI;rw[hp,PyData.shown_none]
   refine PySem.P.repr_of_none ?_;rw[<- e];exact done s.heap _ _ (fun _ _ e=>e)
  | bool b =>
   rw[hx]at hr;generalize hp:pyD d=p at hr;cases hr;have e:BI d=((if b then "True" else "False" : Str)):=by unfold BI;rw[hp,PyData.shown_bool]
   refine PySem.P.repr_of_bool ?_;rw[<- e];exact done s.heap _ _ (fun _ _ e=>e)
  | int i t =>
   rw[hx]at hr;generalize hp:pyD d=p at hr;cases hr;have e:BI d=((toString i:String):Str):=by unfold BI;rw[hp,PyData.shown_int]
   rw[hp]at shw;refine PySem.P.repr_of_int (by simpa [PyData.showable] using shw) ?_;rw[<- e];exact done s.heap _ _ (fun _ _ e=>e)
  | str y t =>
   rw[hx]at hr;generalize hp:pyD d=p at hr;cases hr;have e:BI d=reprText y:=by unfold BI;rw[hp];rfl
   refine PySem.P.repr_of_str ?_ (by rw[<- e];exact fits);rw[<- e];exact done s.heap _ _ (fun _ _ e=>e)
  | _=>rw[hx]at hr;cases hr
theorem Co{k:Nat}(hr:Room k X.A)(hK:X.K=K:=by rfl):CallR X (.builtin "repr") (FU K):=hK ▸ Uh hr.gd (by have:=hr.un;lia)
end
theorem QG{K}:CU (FU K):=fun xs H Q Q' h q=>by
 unfold FU at *;split at q
 ·obtain⟨d,a,b,c,e,q⟩:=q;exact⟨d,a,b,c,e,h _ _ q⟩
 ·exact q.elim
end L2
namespace HT
open PySem PyProof.Rows
section
variable {prog:Program}{w:World}{A:Around}{E:Value->Shared->Prop}{s:Shared}
theorem getItem_tuple_whole {t sl:Addr} {items:Array Value} {vl vu:Value} {lo hi:Option Int} {Q:Value->Shared->Prop} (ht:IsTup s.heap t items) (hs:s.heap.IsSliceOf sl vl vu .none) (pl:IsPart vl lo) (pu:IsPart vu hi)
 (hw:sIx items.size 0 lo=0/\sIx items.size items.size hi=items.size)
 (h:Q (.ref t) s):wpAny (model prog w) A (getItem (.ref t) (.ref sl)) Q E s:=by
 obtain⟨os,hos,hcs,hds⟩:=id hs;have hTs:s.TypeIs (.ref sl) "slice":=⟨os,hos,hcs⟩;unfold getItem
 try with_reducible refine Ze ?_
 first | refine ZA (ZB ?_) | skip
 refine ZA (wpAny_sequenceKey ht.typeIs (by decide) ?_)
 refine ZA (wpAny_callSpecial?_slot (name:=Str.ofString "__getitem__") ht.typeIs PyProof.Rows.slot_tuple_getitem
  (Z6 PyProof.Rows.slot_tuple_getitem ht.typeIs entry_tuple_getitem ?_ (args_tuple_getitem _ _)))
 show wpAny _ _ (Builtin.Tuple.tupleItemsOf (.ref t) >>= _) _ _ s;refine ZA (tupleItemsOf_ ht ?_);refine ZA (wpAny_typeOf hTs ?_);rw[if_pos (by decide)];refine ZA (LC hs pl pu ?_);rw[hw.1,hw.2];show wpAny _ _ (if (((0:Nat):Int) == 0 && (1:Int) == 1 && (items.size - 0) == items.size)=true then _ else _) _ _ s;have hyes:(((0:Nat):Int) == 0 && (1:Int) == 1 && (items.size - 0) == items.size)=true:=by simp
 rw[if_pos hyes];unfold Builtin.Tuple.tupleIsExact;refine ZA (ZA (wpAny_typeOf ht.typeIs (ZB ?_)));rw[if_pos (by decide)];refine ZA (wpAny_rule ?_)
 first
  | exact ZA (ZB ⟨_,rfl,ZB h⟩)
  | exact ZB ⟨_,rfl,ZB h⟩
  | exact ZA (ZB (ZB ⟨_,rfl,ZB h⟩))
  | exact ZA (ZA (ZB (ZB ⟨_,rfl,ZB h⟩)))
end
end HT
namespace L2
open PySem PySem.Spec PyProof.Rows
section
variable {X:Cx}{K:W.Frag}{e sx:Expr}{te ts:TE}{lo hi:Option Expr}{tl th:TO}{pos p2:Pos}
noncomputable def HL(K:W.Frag):V->Option Int->Option Int->Hp->VK->Prop:=fun x lo hi H Q=>match x with
 | .ref a=>∃xs,Yq K H a xs/\∀p H',Yc H H'->Yq K H' p (BO xs lo hi)->Q (.ref p) H'
 | _=>False
theorem Sc:SlR X (HL X.K):=by
 intro Ya s σ H x v vl vu lo hi sl Q I rx hs pl pu q;cases x with
 | ref a =>
  obtain⟨xs,hx,q⟩:=q
  by_cases hw:HT.sIx xs.length 0 lo=0/\HT.sIx xs.length xs.length hi=xs.length
  ·cases rx;obtain⟨Ye,r,ht,hz⟩:=I.tuple hx;have Yl:Ye.toArray.size=xs.length:=by rw[ZJ];exact r.length.symm
   refine⟨"tuple",_,PyProof.Rows.slot_tuple_getitem.lookup,ht.typeIs,?_⟩;refine HT.getItem_tuple_whole ht hs pl pu (by rw[Yl];exact hw) ⟨.ref a,H,I,rfl,q a H (fun _ _ h=>h) ?_⟩
   have:BO xs lo hi=xs:=by
    unfold BO;rw[hw.1,hw.2,List.drop_zero,ZBV (by lia)]
   rw[this];exact hx
  ·exact LV Ya s σ H _ v vl vu lo hi sl Q I rx hs pl pu ⟨a,xs,rfl,hx,hw,fun p hp=>q p _ (Yc.upd hp) (.of AC)⟩
 | _=>exact False.elim q
theorem MU(he:PE X e te)(hl:PO X lo tl)(hu:PO X hi th)(hK:X.K=K:=by rfl):PE X (.Subscript e (.Slice lo hi none p2) pos) (tSl (HL K) te tl th):=hK ▸ Mn Sc he hl hu
theorem Ps(h:Aj te)(h1:Eu tl)(h2:Eu th):Aj (tSl (HL K) te tl th):=fun σ H Q Q' k q=>h _ _ _ _ (fun v _ q=>h1 _ _ _ _ (fun _ _ q=>h2 _ _ _ _ (fun _ _ q=>by
 cases v <;> first | exact False.elim q | (obtain⟨xs,a,q⟩:=q;exact⟨xs,a,fun p H' s r=>k _ _ (q p H' s r)⟩)) q) q) q
end
end L2
namespace HT
open PySem PyProof.Rows
section
variable {prog:Program}{w:World}{A:Around}{E:Value->Shared->Prop}{s:Shared}
theorem cat_none{t b:Addr}{ws:List Value}{Q:Value->Shared->Prop}(ht:IsTup s.heap t #[])(hb:IsTup s.heap b ws.toArray)(h:Q (.ref b) s) :
 wpAny (model prog w) A (binaryOp .Add (.ref t) (.ref b)) Q E s:=by
 obtain⟨⟨cls,dd,data,sl⟩,ho,hc,n,hd⟩:=id ht;obtain⟨⟨cls2,dd2,data2,sl2⟩,ho2,hc2,n2,hd2⟩:=id hb;simp only at hc hd hc2 hd2;subst hc hd hc2 hd2
 exact concat_meets ⟨_,ho,rfl⟩ ⟨_,ho2,rfl⟩ noFill_tuple_add seq_tuple_add PySem.F.slot_tuple_add PySem.F.entry_tuple_add (PySem.F.args_tuple_add_2 _ _)
  (tuple_addW0 t b #[] ws.toArray n n2 dd dd2 sl sl2 rfl) ⟨ho,ho2,h⟩
end
end HT
namespace L2
open PySem PySem.Spec PyProof.Rows
section
variable {X:Cx}{K:W.Frag}
noncomputable def GV(K:W.Frag):R2:=fun x y H Q=>match x,y with
 | .int i,.int j=>Q (.int (i+j)) H
 | .ref a,.ref b=>Iw (.ref a) (.ref b) H Q\/∃xs ys,Yq K H a xs/\Yq K H b ys/\xs.length+ys.length<=sizeLine/\∀p H',Yc H H'->Yq K H' p (xs++ys)->Q (.ref p) H'
 | _,_=>False
theorem UZ:Ys X (binaryOp .Add) (GV X.K):=by
 intro Ya s σ H x y v u Q I rx ry q
 cases x <;> cases y <;> first
  | exact False.elim q
  | exact LA Ya s σ H _ _ v u Q I rx ry ⟨_,_,rfl,rfl,q⟩
  | skip
 rename_i a b
 rcases q with q | ⟨xs,ys,ha,hb,hz,q⟩
 ·exact KF Ya s σ H _ _ v u Q I rx ry q
 by_cases hx:xs=[]
 ·subst hx;cases rx;cases ry;obtain⟨Ye,r1,p1,_⟩:=I.tuple ha;obtain⟨its2,r2,p2,_⟩:=I.tuple hb;cases r1;exact HT.cat_none p1 p2 ⟨.ref b,H,I,rfl,q b H (fun _ _ h=>h) hb⟩
 ·exact K6 Ya s σ H _ _ v u Q I rx ry ⟨a,b,xs,ys,rfl,rfl,ha,hb,hx,hz,fun e=>q a H (fun _ _ h=>h) (by rw[e,Zy];exact ha),fun _ p hp=>q p _ (Yc.upd hp) (.of AC)⟩
theorem En(hK:X.K=K:=by rfl):Ys X (binaryOp .Add) (GV K):=hK ▸ UZ
theorem UG:Bj (GV K):=fun x y H Q Q' m q=>by
 cases x <;> cases y <;> first
  | exact False.elim q
  | exact m _ _ q
  | skip
 rcases q with ⟨l,b,xs,zs,h1,h2,h3,h4,h5,q⟩ | ⟨xs,ys,ha,hb,hz,q⟩
 ·exact .inl ⟨l,b,xs,zs,h1,h2,h3,h4,h5,fun p hp=>m _ _ (q p hp)⟩
 ·exact .inr ⟨xs,ys,ha,hb,hz,fun p H' a b=>m _ _ (q p H' a b)⟩
end
section
variable {X:Cx}{K:W.Frag}
noncomputable def Mb(K:W.Frag):List V->Hp->VK->Prop:=fun xs H Q=>match xs with
 | [.ref l]=>∃ns:List Int,Yt K H l (ns.map V.int)/\0 < ns.length/\∀M,M∈ns->(∀a∈ns,M<=a)->Q (.int M) H
 | _=>False
theorem Nv(hc:X.calm=true):CallR X (.builtin "min") (Mb X.K):=by
 intro Ya s σ H xs us Q I r q
 match xs,q with
 | [.ref l],q =>
 obtain⟨ns,hl,Yr,q⟩:=q;obtain⟨u,rfl,ru⟩:=Bd r;cases ru;obtain⟨Ye,rv,pl,hz⟩:=I.list hl;have hi:IntsAre Ye ns:=by simpa using D8 rv
 obtain⟨zs,hzs⟩:=(hi.allInts).items;have pl':=pl.isList;rw[hzs]at pl'
 have hns:ns=zs.toList.map (·.1):=by
  rw[<- hi.numsOf,<- nums_intItems,<- hzs]
 have hsz:0 < zs.size:=by
  rw[hns,ZC,Zd]at Yr;exact Yr
 refine min_intList (I.ok.hd hc) pl' hsz fun v h' tk hv hk=>?_
 obtain⟨t,rfl⟩:=intItems_at hv;obtain⟨h1,h2⟩:=argBest_lt (numAt zs) (zs.size - 1);refine⟨.int _,H,I.kept hk,⟨t,rfl⟩,q _ ?_ fun a ha=>?_⟩
 ·rw[hns,numAt_eq];exact getD_mem (by rw[ZC,Zd];lia)
 ·rw[hns]at ha;obtain⟨j,hj,rfl⟩:=mem_getD ha;rw[ZC,Zd]at hj;rw[<- numAt_eq];exact h2 j (by lia)
theorem MJ(hc:X.calm=true)(hK:X.K=K:=by rfl):CallR X (.builtin "min") (Mb K):=hK ▸ Nv hc
end
section
variable {X:Cx}{K:W.Frag}
noncomputable def FY(K:W.Frag):List V->Hp->VK->Prop:=fun xs H Q=>match xs with
 | [.ref l]=>∃ns:List Int,Yt K H l (ns.map V.int)/\0 < ns.length/\∀M,M∈ns->(∀a∈ns,a<=M)->Q (.int M) H
 | _=>False
theorem N1(hc:X.calm=true):CallR X (.builtin "max") (FY X.K):=by
 intro Ya s σ H xs us Q I r q
 match xs,q with
 | [.ref l],q =>
 obtain⟨ns,hl,Yr,q⟩:=q;obtain⟨u,rfl,ru⟩:=Bd r;cases ru;obtain⟨Ye,rv,pl,hz⟩:=I.list hl;have hi:IntsAre Ye ns:=by simpa using D8 rv
 obtain⟨zs,hzs⟩:=(hi.allInts).items;have pl':=pl.isList;rw[hzs]at pl'
 have hns:ns=zs.toList.map (·.1):=by
  rw[<- hi.numsOf,<- nums_intItems,<- hzs]
 have hsz:0 < zs.size:=by
  rw[hns,ZC,Zd]at Yr;exact Yr
 refine max_intList (I.ok.hd hc) pl' hsz fun v h' tk hv hk=>?_
 obtain⟨t,rfl⟩:=intItems_at hv;obtain⟨h1,h2⟩:=argBest_gt (numAt zs) (zs.size - 1);refine⟨.int _,H,I.kept hk,⟨t,rfl⟩,q _ ?_ fun a ha=>?_⟩
 ·rw[hns,numAt_eq];exact getD_mem (by rw[ZC,Zd];lia)
 ·rw[hns]at ha;obtain⟨j,hj,rfl⟩:=mem_getD ha;rw[ZC,Zd]at hj;rw[<- numAt_eq];exact h2 j (by lia)
theorem KM(hc:X.calm=true)(hK:X.K=K:=by rfl):CallR X (.builtin "max") (FY K):=hK ▸ N1 hc
theorem VP:CU (FY K):=fun xs H Q Q' h q=>by
 unfold FY at *;split at q
 ·obtain⟨ns,a,b,q⟩:=q;exact⟨ns,a,b,fun M x y=>h _ _ (q M x y)⟩
 ·exact q.elim
end
noncomputable def EK(K:W.Frag)(neg:Bool):R2:=fun x y H Q=>match y with
 | .ref p=>∃(xs:List V) (ds:List Dv) (d:Dv),SqA K H p xs/\Yd K H ds xs/\Yh K H d x/\(∀e∈ds,AY e<=50)/\Q (.bl (neg ^^ ds.any fun e=>eqD e d)) H
 | _=>False
theorem RC{x y:V}{u:Value}(h1:Yj x u)(h2:Yj y u):x=y:=by
 cases x <;> cases y <;> simp only[Yj]at h1 h2 <;> (first | (obtain⟨t,rfl⟩:=h1) | subst h1) <;> (first | (obtain⟨t',e⟩:=h2;cases e;done) | (obtain⟨t',e⟩:=h2;cases e;rfl) | (cases h2;done) | (cases h2;rfl))
open Classical in
noncomputable def BW(K:W.Frag)(H:Hp)(u:Value):Dv:=if h:∃d x,Yj x u/\Yh K H d x then h.choose else .non
section
variable {X:Cx}{K:W.Frag}{Ya:List (Addr × Obj)}{σ:St}{H:Hp}{s:Shared}
theorem Jw(I:Yf X Ya σ H s){d:Dv}{x:V}{u:Value}(r:Yj x u)(h:Yh X.K H d x):BW X.K H u=d:=by
 have hx:∃d x,Yj x u/\Yh X.K H d x:=⟨d,x,r,h⟩;unfold BW;rw[dif_pos hx];obtain⟨y,r',h'⟩:=hx.choose_spec;obtain rfl:=RC r r';exact Ez I _ _ _ h' h
theorem ET(I:Yf X Ya σ H s){d:Dv}:∀{ds:List Dv} {xs:List V} {us:List Value},Yd X.K H ds xs->Yi xs us->us.any (fun u=>eqD (BW X.K H u) d)=ds.any fun e=>eqD e d
 | [],_,_,h,r=>by
  unfold Yd at h;subst h;cases r;rfl
 | e::ds,xs,us,h,r=>by
  unfold Yd at h;obtain⟨x,l,rfl,h1,h2⟩:=h;cases r with
  | cons r1 r2=>rw[Z9,Z9,ET I h2 r2,Jw I r1 h1]
theorem Mm{d:Dv}:∀{ds:List Dv} {xs:List V} {us:List Value},Yd K H ds xs->Yi xs us->∀u∈us,∃e∈ds,∃x,Yj x u/\Yh K H e x
 | [],_,_,h,r=>by
  unfold Yd at h;subst h;cases r;intro u hu;cases hu
 | e::ds,xs,us,h,r=>by
  unfold Yd at h;obtain⟨x,l,rfl,h1,h2⟩:=h;cases r with
  | cons r1 r2 =>
   intro u hu
   rcases ZI.mp hu with rfl | hu
   ·exact⟨e,Zg,x,r1,h1⟩
   ·obtain⟨e',h3,h4⟩:=Mm (d:=d) h2 r2 u hu;exact⟨e',ZW _ h3,h4⟩
theorem FN(hu:X.A.units+60 < cLine)(I:Yf X Ya σ H s){d:Dv}{x:V}{v:Value}{ds:List Dv}{xs:List V}{us:List Value}(rx:Yj x v)(hx:Yh X.K H d x)(hR:Yd X.K H ds xs)(r:Yi xs us)(hd:∀e∈ds,AY e<=50):∀y,y∈us->SeqAt.EqAt X.A.in1 s y v (eqD (BW X.K H y) d):=by
 intro y hy;obtain⟨e,he,z,r1,h1⟩:=Mm (d:=d) hR r y hy;rw[Jw I r1 h1];exact(IS I 50 X.A.in1 e d z x y v (hd e he) (by show X.A.units+1+50 < cLine;lia) h1 hx r1 rx).1
theorem Oy(hu:X.A.units+60 < cLine):Ys X (compareOp .In) (EK X.K false):=by
 intro Ya s σ H x y v u Q I rx ry h;cases y <;> first | exact False.elim h | skip
 obtain⟨xs,ds,d,hq,hR,hx,hd,q⟩:=h;cases ry
 rcases hq with hq | hq
 ·obtain⟨Ye,r,pl,hz⟩:=I.list hq;refine SeqAt.in_listAt (fun y=>eqD (BW X.K H y) d) pl.isList (fun w hw=>FN hu I rx hx hR r hd w (by simpa using hw)) ⟨.bl _,H,I,rfl,?_⟩;rw[show Ye.toArray.any (fun y=>eqD (BW X.K H y) d)=Ye.any (fun y=>eqD (BW X.K H y) d) by simp,ET I hR r];simpa using q
 ·obtain⟨Ye,r,pl,hz⟩:=I.tuple hq;refine SeqAt.in_tupleAt (fun y=>eqD (BW X.K H y) d) pl (fun w hw=>FN hu I rx hx hR r hd w (by simpa using hw)) ⟨.bl _,H,I,rfl,?_⟩;rw[show Ye.toArray.any (fun y=>eqD (BW X.K H y) d)=Ye.any (fun y=>eqD (BW X.K H y) d) by simp,ET I hR r];simpa using q
theorem SL(hu:X.A.units+60 < cLine):Ys X (compareOp .NotIn) (EK X.K true):=by
 intro Ya s σ H x y v u Q I rx ry h;cases y <;> first | exact False.elim h | skip
 obtain⟨xs,ds,d,hq,hR,hx,hd,q⟩:=h;cases ry
 rcases hq with hq | hq
 ·obtain⟨Ye,r,pl,hz⟩:=I.list hq;refine SeqAt.notIn_listAt (fun y=>eqD (BW X.K H y) d) pl.isList (fun w hw=>FN hu I rx hx hR r hd w (by simpa using hw)) ⟨.bl _,H,I,rfl,?_⟩;rw[show Ye.toArray.any (fun y=>eqD (BW X.K H y) d)=Ye.any (fun y=>eqD (BW X.K H y) d) by simp,ET I hR r];simpa using q
 ·obtain⟨Ye,r,pl,hz⟩:=I.tuple hq;refine SeqAt.notIn_tupleAt (fun y=>eqD (BW X.K H y) d) pl (fun w hw=>FN hu I rx hx hR r hd w (by simpa using hw)) ⟨.bl _,H,I,rfl,?_⟩;rw[show Ye.toArray.any (fun y=>eqD (BW X.K H y) d)=Ye.any (fun y=>eqD (BW X.K H y) d) by simp,ET I hR r];simpa using q
theorem Og(hu:X.A.units+60 < cLine)(hK:X.K=K:=by rfl):Ys X (compareOp .In) (EK K false):=hK ▸ Oy hu
theorem M0(hu:X.A.units+60 < cLine)(hK:X.K=K:=by rfl):Ys X (compareOp .NotIn) (EK K true):=hK ▸ SL hu
theorem UF{neg:Bool}:Bj (EK K neg):=fun x y H Q Q' h q=>by
 cases y with
 | ref p=>obtain⟨xs,ds,d,h1,h2,h3,h4,q⟩:=q;exact⟨xs,ds,d,h1,h2,h3,h4,h _ _ q⟩
 | _=>exact False.elim q
end
structure GFd(H:Hp)(t l:Addr)(N:Nat):Prop where
 at_:∃(i g c:Int) (ns:List Int),0<=i/\0<=g/\0<=c/\c<=N/\H t=some (.lst [.ref l,.int i,.int g,.int c])/\l≠t/\H l=some (.lst (ns.map V.int))/\ns.length≠0
theorem GFeed.told{H:Hp}{t:Addr}{N:Nat}(F:GFeed H t N):∃l,GFd H t l N:=by
 obtain⟨l,i,g,c,ns,h⟩:=F.at_;exact⟨l,i,g,c,ns,h⟩
theorem GFd.feed{H:Hp}{t l:Addr}{N:Nat}(F:GFd H t l N):GFeed H t N:=by
 obtain⟨i,g,c,ns,h⟩:=F.at_;exact⟨l,i,g,c,ns,h⟩
theorem GFd.same{H H':Hp}{t l:Addr}{N:Nat}(F:GFd H t l N)(h:Yc H H'):GFd H' t l N:=by
 obtain⟨i,g,c,ns,h1,h2,h3,h4,h5,h6,h7,h8⟩:=F.at_;exact⟨i,g,c,ns,h1,h2,h3,h4,h _ _ h5,h6,h _ _ h7,h8⟩
theorem GFd.upd{H:Hp}{t l p:Addr}{o:HO}{N:Nat}(F:GFd H t l N)(h:H p=none):GFd (L2.upd H p o) t l N:=F.same (Yc.upd h)
theorem GFd.ne{H:Hp}{t l p:Addr}{N:Nat}(F:GFd H t l N)(h:H p=none):p≠t/\p≠l:=by
 obtain⟨i,g,c,ns,h1,h2,h3,h4,h5,h6,h7,h8⟩:=F.at_;exact⟨fun e=>(by rw[e,h5]at h;exact nomatch h),fun e=>(by rw[e,h7]at h;exact nomatch h)⟩
theorem GFd.put{H:Hp}{t l p:Addr}{o:HO}{N:Nat}(F:GFd H t l N)(h:p≠t/\p≠l):GFd (L2.upd H p o) t l N:=by
 obtain⟨i,g,c,ns,h1,h2,h3,h4,h5,h6,h7,h8⟩:=F.at_;exact⟨i,g,c,ns,h1,h2,h3,h4,by rw[AH (Ne.symm h.1)];exact h5,h6,by rw[AH (Ne.symm h.2)];exact h7,h8⟩
theorem GFeed.put{H:Hp}{t p:Addr}{o:HO}{N:Nat}{xs:List V}(F:GFeed H t N)(hp:p≠t)(hx:H p=some (.lst xs))(hn:∀ns:List Int,ns.length≠0->xs≠ns.map V.int):GFeed (L2.upd H p o) t N:=by
 obtain⟨l,i,g,c,ns,h1,h2,h3,h4,h5,h6,h7,h8⟩:=F.at_
 have:p≠l:=fun e=>by
  rw[e,h7]at hx;cases hx;exact hn ns h8 rfl
 exact⟨l,i,g,c,ns,h1,h2,h3,h4,by rw[AH (Ne.symm hp)];exact h5,h6,by rw[AH (Ne.symm this)];exact h7,h8⟩
noncomputable def Dc:Sp:=fun vs H Q _=>match vs with
 | [.ref t,.int m]=>∃l N,GFd H t l N/\N<=1000000000/\okDiv m/\∀d H',0<=d->d < m->GFd H' t l (N+1)->(∀b,b≠t->H' b=H b)->Q (.int d) H'
 | _=>False
theorem Qh:AZ Dc:=fun vs H Q Q' E h q=>by
 unfold Dc at *;split at q
 ·obtain⟨l,N,h1,h2,h3,q⟩:=q;exact⟨l,N,h1,h2,h3,fun d H' a b c e=>h _ _ (q d H' a b c e)⟩
 ·exact q.elim
theorem QM(vs:List V)(H:Hp)(Q:VK)(E:XK)(h:EV vs H Q E):Dc vs H Q E:=by
 unfold EV at h;unfold Dc;split at h
 ·obtain⟨N,F,h2,h3,q⟩:=h;obtain⟨l,F⟩:=F.told;exact⟨l,N,F,h2,h3,fun d H' a b c e=>q d H' a b c.feed e⟩
 ·exact h.elim
section
variable {X:Cx}{K:W.Frag}
noncomputable def ND(K:W.Frag):R2:=fun x y H Q=>match x,y with
 | .int a,.int b=>Q (.bl (!(a == b))) H
 | .ref a,.ref b=>∃xs,((Yq K H a xs/\Yq K H b [])\/(Yt K H a xs/\Yt K H b []))/\Q (.bl (!xs.isEmpty)) H
 | _,_=>False
theorem Op(hu:X.A.units+60 < cLine):Ys X (compareOp .NotEq) (ND X.K):=by
 intro Ya s σ H x y v u Q I rx ry q;have hu':X.A.units < cLine:=by lia
 cases x <;> cases y <;> first | exact False.elim q | skip
 ·rename_i a b;exact om_neAll hu Ya s σ H _ _ v u Q I rx ry ⟨.int a,.int b,by unfold Yh;rfl,by unfold Yh;rfl,by unfold AY;lia,by unfold eqD;exact q⟩
 rename_i a b;cases rx;cases ry;obtain⟨xs,hq,q⟩:=q
 rcases hq with ⟨ha,hb⟩ | ⟨ha,hb⟩
 ·obtain⟨Ye,r1,p1,_⟩:=I.tuple ha;obtain⟨its2,r2,p2,_⟩:=I.tuple hb;cases r2;have N:=SeqAt.RcNeAt.tuples (A:=X.A) (e:=fun _=>false) p1 p2 hu' (fun j h1 h2=>absurd h2 (by simp));refine N X.prog X.w _ _ ⟨.bl _,H,I,rfl,?_⟩;cases r1 <;> simpa using q
 ·obtain⟨Ye,r1,p1,_⟩:=I.list ha;obtain⟨its2,r2,p2,_⟩:=I.list hb;cases r2;cases r1 with
  | nil =>
   have N:=SeqAt.RcNeAt.lists (A:=X.A) (e:=fun _=>false) p1.isList p2.isList rfl hu' (fun j h1 h2=>absurd h2 (by simp));refine N X.prog X.w _ _ ⟨.bl _,H,I,rfl,?_⟩;simpa using q
  | cons r t =>
   have N:=SeqAt.RcNeAt.lists_lengths (A:=X.A) p1.isList p2.isList (by simp) hu';refine N X.prog X.w _ _ ⟨.bl _,H,I,rfl,?_⟩;simpa using q
theorem VC(hu:X.A.units+60 < cLine)(hK:X.K=K:=by rfl):Ys X (compareOp .NotEq) (ND K):=hK ▸ Op hu
end
theorem JG(val:Nat->Int):∀i,(firstMet val i).Nodup
 | 0=>by rw[firstMet_zero];exact List.nodup_nil
 | i+1=>by
  rw[firstMet_succ];unfold step_dedup;have ih:=JG val i;split
  ·exact ih
  ·rename_i h;rw[List.nodup_append];refine⟨ih,by simp,?_⟩;intro a ha b hb e;rw[ZF.mp hb]at e;exact h (ZBm.mpr ⟨a,ha,by rw[e];simp⟩)
theorem Kb(ns:List Int)(k:Int):k∈firstMet (fun i=>ns.getD i 0) ns.length ↔ k∈ns:=by
 have h:=firstMet_any (fun i=>ns.getD i 0) ns.length k
 have e:(List.range ns.length).map (fun i=>ns.getD i 0)=ns:=by
  apply List.ext_getElem
  ·simp
  ·intro i h1 h2;simp;rw[ZE h2];rfl
 rw[e]at h;have a1:∀l:List Int,l.any (· == k)=true ↔ k∈l:=fun l=>by simp
 rw[<- a1,<- a1,h]
noncomputable def D3(ds:List Int):HO:=.set (fun k=>ds.any (· == k)) ds.length
noncomputable def Fh(K:W.Frag):List V->Hp->VK->Prop:=fun xs H Q=>match xs with
 | [.ref p]=>∃ns:List Int,Yt K H p (ns.map V.int)/\ns.length<=1000/\∀(ds:List Int) q,ds.Nodup->(∀k,k∈ds ↔ k∈ns)->H q=none->Q (.ref q) (upd H q (D3 ds))
 | _=>False
section
variable {X:Cx}{K:W.Frag}
theorem N0(hh:X.calm=true):CallR X (.type "set") (Fh X.K):=by
 intro Ya s σ H xs us Q I r h
 match xs,h with
 | [.ref p],h =>
 obtain⟨ns,hq,hn,q⟩:=h;obtain⟨u,rfl,rx⟩:=Bd r;cases rx;obtain⟨Ye,rv,pl,hz⟩:=I.list hq;have hi:IntsAre Ye ns:=by simpa using D8 rv
 have Yl:Ye.length=ns.length:=by rw[<- rv.length,ZC]
 refine call_set_list (ns:=ns) (I.ok.hd hh) pl.isList (by simpa using hi) (by rw[ZJ,Yl];show ns.length+1 < 4096;lia) fun h' tk hs hk=>?_
 have hsz:Ye.toArray.size=ns.length:=by rw[ZJ,Yl]
 rw[hsz]at hs;refine⟨.ref s.heap.objs.size,_,I.laid (t':=tk) (o:=D3 (firstMet (fun i=>ns.getD i 0) ns.length)) (fun b o e=>hk b o (ZG e) e) (ZD _) hs,rfl,q _ _ (JG _ _) (Kb ns) (I.hok.fresh (ZD _))⟩
theorem TW(hh:X.calm=true)(hK:X.K=K:=by rfl):CallR X (.type "set") (Fh K):=hK ▸ N0 hh
theorem VY:CU (Fh K):=fun xs H Q Q' h q=>by
 unfold Fh at *;split at q
 ·obtain⟨ns,a,b,q⟩:=q;exact⟨ns,a,b,fun ds p x1 x2 x3=>h _ _ (q ds p x1 x2 x3)⟩
 ·exact q.elim
noncomputable def Fw:List V->Hp->VK->Prop:=fun xs H Q=>match xs with
 | [.ref p]=>∃ds:List Int,H p=some (D3 ds)/\Q (.int ds.length) H
 | _=>False
theorem Rh:CallR X (.builtin "len") Fw:=by
 intro Ya s σ H xs us Q I r h
 match xs,h with
 | [.ref p],h =>
 obtain⟨ds,hq,q⟩:=h;obtain⟨u,rfl,rx⟩:=Bd r;cases rx;obtain⟨o,es,ep,t,h1,h2,h3,_,_,h6,h7,h8⟩:=(show ObjOk X.prog X.w H s.heap p (D3 ds) from I.hok p _ hq);refine call_len_set h1 h2 h3 h7 (Int.lt_trans (Int.ofNat_lt.mpr h6) (by decide)) ⟨.int ds.length,H,I.tok _,⟨_,by rw[h8]⟩,q⟩
theorem Qn:CU Fw:=fun xs H Q Q' h q=>by
 unfold Fw at *;split at q
 ·obtain⟨ds,a,q⟩:=q;exact⟨ds,a,h _ _ q⟩
 ·exact q.elim
end
noncomputable def Ris(xs:Array Nat):Prop:=xs.toList.Pairwise (· < ·)
theorem Ris.lt{xs:Array Nat}(h:Ris xs){i k:Nat}(hik:i < k)(hk:k < xs.size)(j:Nat):xs.getD i j < xs.getD k j:=by
 have hi:i < xs.size:=ZBF hik hk
 have:=List.pairwise_iff_getElem.mp h i k (by simpa using hi) (by simpa using hk) hik
 simpa [Array.getD,hi,hk] using this
theorem GR{xs:Array Nat}{j:Nat}(h:Ris xs):∀(f lo hi:Nat),hi - lo<=f->lo<=hi->hi<=xs.size->(∀i,i < lo->xs.getD i j < j)->(∀i,hi<=i->i < xs.size->j<=xs.getD i j) ->
 SetTable.below.go xs j f lo hi<=xs.size/\(∀i,i < SetTable.below.go xs j f lo hi->xs.getD i j < j)/\∀i,SetTable.below.go xs j f lo hi<=i->i < xs.size->j<=xs.getD i j
 | 0,lo,hi,h1,h2,h3,h4,h5=>by
  have e:lo=hi:=by lia
  subst e;exact⟨h3,h4,h5⟩
 | f+1,lo,hi,h1,h2,h3,h4,h5=>by
  unfold SetTable.below.go
  by_cases hl:lo < hi
  ·rw[if_pos hl];dsimp only;have hm:(lo+hi) / 2 < xs.size:=by lia
   by_cases hx:xs.getD ((lo+hi) / 2) j < j
   ·rw[if_pos hx];refine GR h f _ _ (by lia) (by lia) h3 (fun i hi'=>?_) h5
    rcases Z1 i ((lo+hi) / 2) with z | z
    ·exact ZBF (h.lt z hm j) hx
    ·have:i=(lo+hi) / 2:=by lia
     rw[this];exact hx
   ·rw[if_neg hx];refine GR h f _ _ (by lia) (by lia) (by lia) h4 (fun i hi' hs=>?_)
    rcases Z1 ((lo+hi) / 2) i with z | z
    ·have:=h.lt z hs j;lia
    ·have:i=(lo+hi) / 2:=by lia
     rw[this];lia
  ·rw[if_neg hl];have e:lo=hi:=by lia
   subst e;exact⟨h3,h4,h5⟩
theorem Hi{xs:Array Nat}(h:Ris xs)(j:Nat):SetTable.below xs j<=xs.size/\(∀i,i < SetTable.below xs j->xs.getD i j < j)/\∀i,SetTable.below xs j<=i->i < xs.size->j<=xs.getD i j :=
 GR h _ _ _ (by lia) (by lia) (ZD _) (fun i z=>by lia) (fun i z y=>by lia)
theorem To{xs:Array Nat}(h:Ris xs){k:Nat}(hk:k < xs.size):SetTable.below xs (xs.getD k 0+1)=k+1:=by
 obtain⟨a,b,c⟩:=Hi h (xs.getD k 0+1);generalize SetTable.below xs (xs.getD k 0+1)=r at a b c;have e0:∀i z,i < xs.size->xs.getD i z=xs.getD i 0:=fun i z hi=>by simp[Array.getD,hi]
 rcases Z2 r (k+1) with z | z | z
 ·have:=c k (by lia) hk
  rw[e0 k (xs.getD k 0+1) hk]at this;lia
 ·exact z
 ·have h1:=b (k+1) z;have hs:k+1 < xs.size:=by lia
  have h2:=h.lt (ZBJ k) hs 0;rw[e0 (k+1) (xs.getD k 0+1) hs]at h1
  have:xs.getD k 0 < xs.getD (k+1) 0:=h2
  lia
theorem OX{xs:Array Nat}(h:Ris xs):SetTable.below xs 0=0:=by
 obtain⟨a,b,c⟩:=Hi h 0
 rcases ZB0 (SetTable.below xs 0) with z | z
 ·exact z
 ·have:=b 0 z;lia
theorem Sg{xs:Array Nat}(h:Ris xs){j:Nat}(hn:xs[SetTable.below xs j]? ≠ some j):Ris (SetTable.insertAt xs (SetTable.below xs j) j):=by
 obtain⟨a,b,c⟩:=Hi h j;generalize SetTable.below xs j=r at a b c hn;unfold Ris;rw[SetTable.toList_insertAt,List.pairwise_append,ZB1];have g:∀i,i < xs.size->xs.toList[i]? = some (xs.getD i j):=fun i hi=>by simp[Array.getD,hi]
 have lo:∀x∈xs.toList.take r,x < j:=fun x hx=>by
  obtain⟨i,hi,e⟩:=ZBH hx;rw[Zf]at hi;rw[List.getElem_take]at e;have hi2:i < xs.size:=by have:=(Nat.lt_min.mp hi).2;simpa using this
  have:=g i hi2
  rw[ZE (by simpa using hi2),e]at this;cases this;exact b i (Nat.lt_min.mp hi).1
 have hi:∀x∈xs.toList.drop r,j < x:=fun x hx=>by
  obtain⟨i,hi,e⟩:=ZBH hx;rw[ZBE]at hi;rw[List.getElem_drop]at e
  have hi2:r+i < xs.size:=by have:xs.toList.length=xs.size:=by simp
                             lia
  have e1:=g (r+i) hi2;rw[ZE (by simpa using hi2),e]at e1;have e2:=c (r+i) (Nat.le_add_right _ _) hi2;have e3:x=xs.getD (r+i) j:=ZQ e1
  rcases ZB0 i with z | z
  ·subst z
   have:x≠j:=fun q=>hn (by rw[<- ZBu,g r hi2];rw[<- q];exact congrArg some (by rw[e3]at q;rw[e3];exact(by rw[q]:xs.getD (r+0) j=xs.getD (r+0) j) ▸ (by simp[Array.getD,show r < xs.size from hi2])))
   lia
  ·have h1:=h.lt (show r < r+i by lia) hi2 j;have h2:=c r (ZD _) (by lia);lia
 refine⟨List.Pairwise.sublist (List.take_sublist _ _) h,⟨hi,List.Pairwise.sublist (List.drop_sublist _ _) h⟩,fun x hx y hy=>?_⟩
 rcases ZI.mp hy with rfl | hy2
 ·exact lo x hx
 ·exact ZBF (lo x hx) (hi y hy2)
theorem Kh(t:SetTable)(p:SetTable.Probe):(t.advance p).dummy=p.dummy:=by
 unfold SetTable.advance;split <;> rfl
noncomputable def EB(t:SetTable)(j:Nat):Prop:=t.place[SetTable.below t.place j]? ≠ some j
theorem My{t:SetTable}{j:Nat}(h:∀i,t.slot j≠.live i):EB t j:=fun e=>h _ (by unfold SetTable.slot;dsimp only;rw[if_pos (by rw[e];exact beq_self_eq_true _)])
theorem probe_go{t:SetTable}{g:Nat->Int}{h:Int}{j:Nat}{d:Option Nat}:∀(f:Nat) (p:SetTable.Probe),(∀x,p.dummy=some x->EB t x)->SetTable.probe.go t g h f p=some (.empty j d)->EB t j/\∀x,d=some x->EB t x
 | 0,p,hp,e=>by unfold SetTable.probe.go at e;cases e
 | f+1,p,hp,e=>by
  unfold SetTable.probe.go at e;split at e
  ·rename_i hs;cases e;exact⟨My (fun i z=>by rw[hs]at z;cases z),hp⟩
  ·rename_i hs;refine probe_go f _ (fun x hx=>?_) e;rw[Kh]at hx;cases hx;exact My fun i z=>by rw[hs]at z;cases z
  ·split at e
   ·cases e
   ·exact probe_go f _ (fun x hx=>hp x (by rw[Kh]at hx;exact hx)) e
theorem SJ{t:SetTable}{h:Int}{j:Nat}{b:Bool}(e:t.freeSlot h=some (j,b)):EB t j:=by
 unfold SetTable.freeSlot at e;split at e
 ·rename_i j' d hm;cases e;obtain⟨a,c⟩:=probe_go _ _ (fun x hx=>by cases hx) (show SetTable.probe.go t _ h _ (t.probeStart h)=_ from hm);cases d with
  | none=>exact a
  | some x=>exact c x rfl
 ·cases e
structure TabG(w:World)(t:SetTable):Prop where
 led:t.led = !w.params.followText "set-order"
 ris:Ris t.place
theorem O0(n:Nat):Ris (Array.range n):=by
 unfold Ris;rw[Array.toList_range];exact ZBn
theorem NY(w:World):TabG w (.fresh 0 0 (!w.params.followText "set-order")):=⟨rfl,List.Pairwise.nil⟩
theorem EX{w:World}{t:SetTable}(g:TabG w t)(n:Nat):TabG w (t.standIn n):=⟨g.led,O0 n⟩
theorem tg_orStandIn{w:World}{t:SetTable}(g:TabG w t)(n:Nat):TabG w (t.orStandIn n):=by
 unfold SetTable.orStandIn;split
 ·exact g
 ·exact EX g n
theorem Vd{w:World}{t:SetTable}(g:TabG w t)(es:Array (Int × Value))(h:Int)(x:Value):TabG w (layNew t es h x).2.1:=by
 unfold layNew;split
 ·rename_i j b e;exact tg_orStandIn (t:=(t.put j).1) ⟨g.led,Sg g.ris (SJ e)⟩ _
 ·exact EX g _
theorem Tf{w:World}{t t':SetTable}(g:TabG w t){hs:Array Int}{n:Nat}{o:Array Nat}(e:t.relaid hs n=some (t',o)):TabG w t':=by
 unfold SetTable.relaid SetTable.laid at e;cases q:SetTable.layClean (SetTable.sizeAbove n - 1) hs with
 | none=>rw[q]at e;cases e
 | some ow =>
  rw[q]at e;cases e;refine⟨g.led,?_⟩;unfold Ris;dsimp only;rw[ZBv,List.pairwise_filterMap];refine List.Pairwise.imp (fun {a b} hab x hx y hy=>?_) ZBn;cases h1:ow.getD a none with
  | none=>rw[h1]at hx;cases hx
  | some u =>
   cases h2:ow.getD b none with
   | none=>rw[h2]at hy;cases hy
   | some v =>
    rw[h1]at hx;rw[h2]at hy;cases hx;cases hy;exact hab
theorem OG{w:World}{t:SetTable}(g:TabG w t)(es:Array (Int × Value))(n:Nat):TabG w (relayAll t es n).2.1:=by
 unfold relayAll;split
 ·rename_i t' o e;dsimp only;split
  ·exact Tf g e
  ·exact EX g _
 ·exact EX g _
theorem Qf{w:World}{t:SetTable}(g:TabG w t)(b:Bool):TabG w { t with plain:=b }:=⟨g.led,g.ris⟩
noncomputable def SetW(P:Program)(w:World)(h:Heap)(a:Addr)(S:Int->Bool)(n:Nat):Prop :=
 ∃o es ep t,h.get? a=some o/\o.ExactSet/\o.data=.set es ep t/\ElemsOf (intKind P w) es.toList/\(∀k,S k=true ↔ ∃e∈es.toList,(intKind P w).is k e.2=true)/\es.size < scanBound/\t.fits es.size=true/\es.size=n/\TabG w t
section
variable {P:Program}{w:World}{A:Around}{E:Value->Shared->Prop}{s:Shared}{a:Addr}
theorem SetW.at{h h':Heap}{S:Int->Bool}{n:Nat}(x:SetW P w h a S n)(k:∀o,h.get? a=some o->h'.get? a=some o):SetW P w h' a S n:=by
 obtain⟨o,es,ep,t,h1,r⟩:=x;exact⟨o,es,ep,t,k _ h1,r⟩
theorem SetW.of{h:Heap}{S:Int->Bool}{n:Nat}(x:SetW P w h a S n):h.SetOf (intKind P w) a S n:=by
 obtain⟨o,es,ep,t,h1,h2,h3,h4,h5,h6,h7,h8,_⟩:=x;exact⟨o,es,ep,t,h1,h2,h3,h4,h5,h6,h7,h8⟩
theorem Lu {h:Heap} {o:Obj} {es es':Array (Int × Value)} {ep:Nat} {t t':SetTable} {S:Int->Bool} (h1:h.get? a=some o) (h2:o.ExactSet) (h3:o.data=.set es ep t) (h4:ElemsOf (intKind P w) es'.toList)
 (h5:∀k,S k=true ↔ ∃e∈es'.toList,(intKind P w).is k e.2=true) (h6:es'.size < scanBound) (h7:t'.fits es'.size=true) (g:TabG w t') :
 (h.update a (Obj.putSet es' t')).get? a=some { o with data:=.set es' (ep+1) t' } /\ SetW P w (h.update a (Obj.putSet es' t')) a S es'.size :=
 have q:=SetOf_store (knd:=intKind P w) h1 h2 h3 h4 h5 h6 h7
 ⟨q.1,_,es',ep+1,t',q.1,h2,rfl,h4,h5,h6,h7,rfl,g⟩
theorem Uc{b:Bool}{Q:Unit->Shared->Prop}{s₁:Shared}(q:Q () s₁):wpAny (model P w) A (match b with | true=>rule "set.scan.the-table-gave-way" | false=>pure ()) Q E s₁:=by
 cases b with
 | true=>exact wpAny_rule q
 | false=>exact ZB q
theorem Kw {g:Bool->Sem Unit} (hg:∀(b:Bool) (s₁:Shared) (Q:Unit->Shared->Prop),Q () s₁->wpAny (model P w) A (g b) Q E s₁) {o:Obj} {es es1:Array (Int × Value)} {ep:Nat} {t t2:SetTable} {S:Int->Bool} {wd:Bool} {R:Option Bool->Shared->Prop}
 (h1:s.heap.get? a=some o) (h2:o.ExactSet) (h3:o.data=.set es ep t) (h4:ElemsOf (intKind P w) es1.toList) (h5:∀k,S k=true ↔ ∃e∈es1.toList,(intKind P w).is k e.2=true) (h6:es1.size < scanBound) (h7:t2.fits es1.size=true) (gd:TabG w t2)
 (fin:∀h',Heap.SameBut a s.heap h'->SetW P w h' a S es1.size->R (some true) { s with heap:=h' }) :
 wpAny (model P w) A (do
  storeSet a es1 t2
  if (!wd && t2.tooFull)=true then do
   g (relayAll t2 es1 (SetTable.grown es1.size)).2.2;storeSet a (relayAll t2 es1 (SetTable.grown es1.size)).1 (relayAll t2 es1 (SetTable.grown es1.size)).2.1
   pure (some true)
   else
    pure (some true)) R E s:=by
 obtain⟨k1,k2⟩:=Lu h1 h2 h3 h4 h5 h6 h7 gd;refine ZA (wpAny_storeSet_of h1 h3 ?_ (fits_of_scanBound h6));have sb:=Zw s.heap a (Obj.putSet es1 t2);split
 ·have pm:=relayAll_perm t2 es1 (SetTable.grown es1.size);have ft:=relayAll_fits t2 es1 (SetTable.grown es1.size);have tg:=OG gd es1 (SetTable.grown es1.size);generalize relayAll t2 es1 (SetTable.grown es1.size)=V at pm ft tg ⊢;obtain⟨e2,t3,gv⟩:=V;dsimp only at pm ft tg ⊢;have z:e2.size=es1.size:=by rw[<- Zd,pm.length_eq,Zd]
  obtain⟨_,k4⟩:=Lu (S:=S) k1 h2 rfl (h4.perm pm) (fun k=>(h5 k).trans ⟨fun⟨e,x,y⟩=>⟨e,pm.mem_iff.mpr x,y⟩,fun⟨e,x,y⟩=>⟨e,pm.mem_iff.mp x,y⟩⟩) (by rw[z];exact h6) ft tg;rw[z]at k4;exact ZA (hg _ _ _ (ZA (wpAny_storeSet_of k1 rfl (ZB (fin _ (sb.trans (Zw _ a _)) k4)) (fits_of_scanBound (by rw[z];exact h6)))))
 ·exact ZB (fin _ sb k2)
theorem Rn {S:Int->Bool} {n:Nat} {k:Int} {x:Value} {Q:Bool->Shared->Prop} (hk:(intKind P w).is k x=true) (hx:x.scannable=true) (hS:SetW P w s.heap a S n) (hn:n+1 < scanBound)
 (fin:∀h',Heap.SameBut a s.heap h'->SetW P w h' a (fun k'=>S k' || decide (k'=k)) (if S k then n else n+1)->Q (!S k) { s with heap:=h' }) :
 wpAny (model P w) A (setAddHashed a x ((intKind P w).hash k)) Q E s:=by
 obtain⟨o,es,ep,t,h1,h2,h3,h4,h5,h6,h7,h8,gd⟩:=hS;unfold setAddHashed setAddHashedIn;refine Ze (ZA (wpAny_setState_of h1 h3 h7 ?_));dsimp only;rw[byScan_of hx h6 h4];simp only[↓reduceIte];unfold setAddByScan;refine ZA (ZA (wpAny_rule (ZA (wpAny_setScan_of hk h1 h3 h7 h4 ?_))));cases hr:List.findIdx? (fun e=>(intKind P w).is k e.2) es.toList with
 | some j =>
  dsimp only;obtain⟨hj,hp,_⟩:=List.findIdx?_eq_some_iff_getElem.mp hr;have sk:S k=true:=(h5 k).mpr ⟨es.toList[j],Zl hj,hp⟩
  have q:=fin s.heap (Heap.SameBut.refl a s.heap) ⟨o,es,ep,t,h1,h2,h3,h4,(fun k'=>by
   rw[Bool.or_eq_true,decide_eq_true_eq,<- h5 k'];exact⟨fun z=>z.elim id (fun e=>e ▸ sk),.inl⟩),h6,h7,(by rw[sk];exact h8),gd⟩
  rw[sk]at q;exact ZB (ZB q)
 | none =>
  dsimp only
  have sk:S k=false:=by
   cases z:S k with
   | false=>rfl
   | true =>
    obtain⟨e,he,hp⟩:=(h5 k).mp z
    have:=List.findIdx?_eq_none_iff.mp hr e he;rw[hp]at this;cases this
  have pm:=layNew_perm t es ((intKind P w).hash k) x;have ft:=layNew_fits t es ((intKind P w).hash k) x;have tg:=Vd gd es ((intKind P w).hash k) x;generalize layNew t es ((intKind P w).hash k) x=V at pm ft tg ⊢;obtain⟨e1,t1,wd,gv⟩:=V;dsimp only at pm ft tg ⊢;rw[Array.toList_push]at pm;have z1:e1.size=n+1:=by rw[<- Zd,pm.length_eq,ZL,Zd,h8];rfl
  have c1:ElemsOf (intKind P w) e1.toList:=(h4.push hk hx).perm pm;have c2:∀k',(S k' || decide (k'=k))=true ↔ ∃e∈e1.toList,(intKind P w).is k' e.2=true:=mem_push_iff hk h5 pm
  have en:∀h',Heap.SameBut a s.heap h'->SetW P w h' a (fun k'=>S k' || decide (k'=k)) e1.size->Q true { s with heap:=h' }:=fun h' sb q=>by
   have r:=fin h' sb;rw[sk]at r;rw[z1]at q;exact r q
  have gw:∀(b:Bool) (s₁:Shared) (Q':Unit->Shared->Prop),Q' () s₁->wpAny (model P w) A (match b with | true=>rule "set.scan.the-table-gave-way" | false=>pure ()) Q' E s₁:=fun b s₁ Q' q=>Uc q
  refine ZA (gw _ _ _ ?_);split
  ·refine ZA ?_;rw[hashByValue_scannable 8 hx];refine ZB (Kw gw h1 h2 h3 c1 c2 (by rw[z1];exact hn) ?_ ?_ fun h' sb q=>ZB (en h' sb q))
   ·split
    ·exact ft
    ·exact SetTable.fits_plain_off ft
   ·split
    ·exact tg
    ·exact Qf tg _
  ·refine ZA (ZB ?_);simp only[↓reduceIte];exact Kw gw h1 h2 h3 c1 c2 (by rw[z1];exact hn) ft tg fun h' sb q=>ZB (en h' sb q)
end
section
variable {P:Program}{w:World}{A:Around}{E:Value->Shared->Prop}{s:Shared}{a:Addr}
theorem SetW.congr{h:Heap}{S S':Int->Bool}{n n':Nat}(x:SetW P w h a S n)(e:∀k,S k=S' k)(en:n=n'):SetW P w h a S' n':=by
 obtain rfl:S=S':=funext e;subst en;exact x
noncomputable def Dz(P:Program)(w:World)(h:Heap)(a:Addr)(f:Nat->Int)(i:Nat):Prop:=SetW P w h a (fun k=>(firstMet f i).any (· == k)) (firstMet f i).length
theorem Lb {R:Result->Shared->Prop} {I:Addr} {fp wr:List Addr} {G:Array GenState->Array GenState->Prop} {n:Nat} {Pv:Nat->Value->Prop} {St:Nat->Shared->Prop} (W:WalksS P w A.in1 I fp wr G n Pv St) (ha:a∉fp)
 (f:Nat->Int) (hf:∀i v,Pv i v->∃t,v=.int (f i) t) (hb:n+1 < scanBound):∀(k i:Nat) (s:Shared),n - i=k->i<=n->St i s->Dz P w s.heap a f i ->
  (∀s',Moved (a::wr) G s s'->Dz P w s'.heap a f n->R (.ok (.ret .none)) s')->codeAny (model P w) A (.builtin "set.update.loop" ⟨[.ref a,.ref I],[]⟩) R s
 | 0,i,s,hk,hi,st,hS,hR=>by
  obtain rfl:i=n:=by lia
  refine ZBN PyProof.Rows.F.entry_set_update_loop ?_;rw[ZBW PyProof.Rows.F.plain_set_update_loop _];show wpAny _ A.in1 (pyNext (.ref I) >>= _) _ _ s;refine ZA (W.done s _ _ st fun s' hm=>ZB (hR s' (hm.mono fun b hb=>ZW _ hb) (hS.at fun o e=>hm.heap a o (fun z=>ha (W.sub _ z)) e)))
 | k+1,i,s,hk,hi,st,hS,hR=>by
  have Ym:i < n:=by lia
  refine ZBN PyProof.Rows.F.entry_set_update_loop ?_;rw[ZBW PyProof.Rows.F.plain_set_update_loop _];show wpAny _ A.in1 (pyNext (.ref I) >>= _) _ _ s;refine ZA (W.item i s _ _ Ym st fun v s' hP st' hm=>?_);obtain⟨t,rfl⟩:=hf i v hP;have hS':Dz P w s'.heap a f i:=hS.at fun o e=>hm.heap a o (fun z=>ha (W.sub _ z)) e
  show wpAny _ A.in1 (holding [Value.int (f i) t] (setAdd a (.int (f i) t)) >>= _) _ _ s';refine ZA (Ze ?_);unfold setAdd;refine Ze (ZA ((intKind P w).pyHash (k:=f i) (intKind_is _ _ _ _) ?_));refine Rn (s:={ s' with toks:=s'.toks+1 }) (intKind_is _ _ _ _) rfl hS' (by have:=firstMet_length_le f i;lia) fun h' sb q=>?_
  refine ZB ⟨ZBO PyProof.Rows.F.plain_set_update_loop _,Lb W ha f hf hb k (i+1) _ (by lia) Ym (W.frame _ s' _ _ st' (ZBT _) fun b hb' o e=>?_)
   (q.congr (fun k'=>by rw[firstMet_succ,step_any]) (by rw[firstMet_succ,step_length])) fun s'' hm2 hS2=>?_⟩
  ·rw[sb.2 b (fun z:b=a=>ha (by rw[<- z];exact hb'))];exact e
  ·refine hR s'' (Moved.trans W.gtrans ((hm.mono fun b hb=>ZW _ hb).then_heap (ZBT _) fun b o hb' e=>?_) hm2) hS2;rw[sb.2 b (fun z:b=a=>hb' (by rw[z];exact Zg))];exact e
theorem Uw:isSubtype (.type "tuple") (.type "set")=pure false:=by rw[isSubtype_type];kernel_rfl
theorem Vi:isSubtype (.type "tuple") (.type "frozenset")=pure false:=by rw[isSubtype_type];kernel_rfl
theorem Tk(v:Value){Q:Value->Shared->Prop}(h:Q (.ref s.heap.objs.size) { s with heap:=s.heap.push { cls:=.type "set",dict:=none,data:=.set #[] 0 (.fresh 0 0 (!w.params.followText "set-order")) } }) :
 codeAny (model P w) A (.call (.builtin "set.__new__") ⟨[.type "set",v],[]⟩) (wants Q E) s:=by
 refine codeAny_of_tree ?_;show wpAny _ A.in1 (do checkBuiltinCall "set.__new__" ⟨[.type "set",v],[]⟩;again (.builtin "set.__new__" ⟨[.type "set",v],[]⟩)) _ _ s;refine ZA (wpAny_of_eq (PySem.F.newCall_set_1 v) (ZB ⟨ZBO PySem.F.plain_set_new _,ZBN PySem.F.entry_set_new ?_⟩));rw[ZBW PySem.F.plain_set_new _];unfold Builtin.«set.__new__» Builtin.Frozenset.newClass;have hsub:=PySem.sub_set_self;obtain⟨hp,g,d,tk,os⟩:=s;dsimp only;wp_walk;refine wpAny_askSetting (ZB ?_);dsimp only;simp only[newObj];exact ZA (wpAny_alloc (ZB (ZB h)))
set_option maxHeartbeats 6400000 in
theorem Pq {l:Addr} {Ye:Array Value} {ns:List Int} {Q:Value->Shared->Prop} (hh:A.handled=none) (hl:s.heap.IsTuple l Ye) (hi:IntsAre Ye.toList ns) (hb:Ye.size+1 < scanBound)
 (fin:∀(h':Heap) (tk:Nat),Dz P w h' s.heap.objs.size (fun i=>ns.getD i 0) Ye.size->(∀b o,b < s.heap.objs.size->s.heap.get? b=some o->h'.get? b=some o)->Q (.ref s.heap.objs.size) { s with heap:=h',toks:=tk }) :
 wpAny (model P w) A (call (.type "set") [.ref l]) Q E s:=by
 obtain⟨c,tl,hmro⟩:=PySem.F.called_set.mro;have hmade:=PySem.F.called_set.made;have hsub:=PySem.F.called_set.sub;refine wpAny_call (codeAny_of_tree ?_);show wpAny _ _ (callAny (.type "set") _) _ _ _;refine ZB ⟨Code.quiet_builtin _ (by decide +kernel),ZBN PySem.F.entry_type_call ?_⟩;rw[Around.under_plain (weight_type_call_type "set" [.ref l] []) rfl];have k1:=PySem.F.called_set.notType;have k2:=PySem.F.called_set.canCreate;have k3:=PySem.F.typeCall_set_1 (.ref l)
 (repeat (any_goals (first | assumption | wp_step)));refine Z4 (Tk (.ref l) (E:=E) (Q:=fun v s₁=>v=.ref s.heap.objs.size/\s₁ = { s with heap:=s.heap.push { cls:=.type "set",dict:=none,data:=.set #[] 0 (.fresh 0 0 (!w.params.followText "set-order")) } }) ⟨rfl,rfl⟩) fun r s₁ hr=>?_
 cases r with
 | error e=>exact hr
 | ok fl =>
  cases fl with
  | ret ob =>
   obtain⟨rfl,rfl⟩:=hr;generalize hled:(!w.params.followText "set-order")=led;have hS:(s.heap.push { cls:=.type "set",dict:=none,data:=.set #[] 0 (.fresh 0 0 led) }).get? s.heap.objs.size=some { cls:=.type "set",dict:=none,data:=.set #[] 0 (.fresh 0 0 led) }:=ZM _ rfl;have hT:Shared.TypeIs { s with heap:=s.heap.push { cls:=.type "set",dict:=none,data:=.set #[] 0 (.fresh 0 0 led) } } (.ref s.heap.objs.size) "set":=⟨_,hS,rfl⟩;have k4:=PySem.F.called_set.init.lookup;have k5:=PySem.F.called_set.init.bind (.ref s.heap.objs.size)
   (repeat (any_goals (first | assumption | wp_step)));refine Z4 (codeAny_call_builtin (R:=wants (fun r s₂=>r=.none/\∃h' tk,s₂ = { s with heap:=h',toks:=tk } /\ Dz P w h' s.heap.objs.size (fun i=>ns.getD i 0) Ye.size /\
    (∀b o,b < s.heap.objs.size->s.heap.get? b=some o->h'.get? b=some o)) E) PySem.F.called_set.init.plain PySem.F.entry_set_init (check_set_init_1 hT ?_)) fun r₂ s₂ hr₂=>?_
   ·obtain⟨ol,hol,hcl,nl,hdl⟩:=hl;obtain⟨ocls,odict,odata,oslots⟩:=ol;simp only at hcl hdl;subst hcl;subst hdl;have hol':(s.heap.push { cls:=.type "set",dict:=none,data:=.set #[] 0 (.fresh 0 0 led) }).get? l=some { cls:=.type "tuple",dict:=odict,data:=.seq Ye nl,slots:=oslots }:=ZH _ hol;have s1:=Uw;have s2:=Vi;have s3:(Value.type "tuple" == Value.type "dict")=false:=by decide
    have hl1:(s.heap.push { cls:=.type "set",dict:=none,data:=.set #[] 0 (.fresh 0 0 led) }).IsTuple l Ye:=⟨_,hol',rfl,nl,rfl⟩;unfold Builtin.«set.__init__» noKeywords Builtin.Frozenset.updateFrom;generalize hPI:pyIter=PI
    wp_walk
    subst hPI;refine wpAny_pyIter_tuple hl1 (ZA (wpAny_runValue ?_))
    have hlS:l < s.heap.objs.size:=ZG hol;have z1:l≠(s.heap.push { cls:=.type "set",dict:=none,data:=.set #[] 0 (.fresh 0 0 led) }).objs.size:=by
     rw[Zu];exact(ZK (Nat.lt_succ_of_lt hlS))
    have z2:s.heap.objs.size∉[(s.heap.push { cls:=.type "set",dict:=none,data:=.set #[] 0 (.fresh 0 0 led) }).objs.size,l]:=by
     rw[Zu];simp only[ZI,ZF,Z7,or_false,not_or];exact⟨ZK (ZBJ _),ZBa hlS⟩
    refine Lb ((Walks.tuple (A:=A.in1.in1.in1) (by simp[hh]) _ l z1 Ye).toS) z2 (fun i=>ns.getD i 0) (fun i v hv=>PyProof.Rows.IntsAre.int_at hi i v (by rw[ZBu];exact hv)) hb (Ye.size - 0) 0 _ (by lia) (ZP _)
     ⟨⟨_,ZM _ rfl,rfl,rfl⟩,(hl1.push _)⟩ ?b0 ?bR
    case b0 =>
     refine⟨_,#[],0,_,ZH _ hS,⟨rfl,rfl,rfl⟩,rfl,fun e he=>by simp at he,fun k=>by simp[firstMet],by decide,by rfl,rfl,?_⟩;rw[<- hled];exact NY w
    case bR =>
     intro s' hm hS';obtain⟨h',g',d',tk',os'⟩:=s';obtain rfl:g'=s.gens:=hm.gens;obtain rfl:d'=s.drawn:=hm.drawn;obtain rfl:os'=s.os:=hm.os;refine ZB ?_;show wpAny _ _ (ret Value.none) _ _ _;refine ZB ⟨rfl,h',tk',rfl,hS',fun b o hb e=>hm.heap b o ?_ (ZH _ (ZH _ e))⟩;rw[Zu];simp only[ZI,ZF,Z7,or_false,not_or];exact⟨ZK hb,ZK (Nat.lt_succ_of_lt hb)⟩
   ·cases r₂ with
    | error e=>exact hr₂
    | ok fl₂ =>
     cases fl₂ with
     | ret r =>
      obtain⟨rfl,h',tk,rfl,hS',hk'⟩:=hr₂;repeat (any_goals (first | assumption | wp_step))
      exact fin _ _ hS' hk'
     | _=>exact hr₂.elim
  | _=>exact hr.elim
end
namespace F
theorem slot_set_iterator_next:Slot "set_iterator" "__next__" "set_iterator.__next__" :=
 .of (owner:="set_iterator") (n:="__next__") (by rw[typeLookup_type,builtinLookup_eq_fast];kernel_rfl) (by decide +kernel) (by decide +kernel) (by decide +kernel) (by first | exact .inl (by decide +kernel) | exact .inr (by decide +kernel)) (by rw[isSubtype_type];kernel_rfl)
theorem slot_set_iterator_iter:Slot "set_iterator" "__iter__" "set_iterator.__iter__" :=
 .of (owner:="set_iterator") (n:="__iter__") (by rw[typeLookup_type,builtinLookup_eq_fast];kernel_rfl) (by decide +kernel) (by decide +kernel) (by decide +kernel) (by first | exact .inl (by decide +kernel) | exact .inr (by decide +kernel)) (by rw[isSubtype_type];kernel_rfl)
theorem entry_set_iterator_next:entryFor table "set_iterator.__next__" = some Builtin.«set_iterator.__next__»:=entryFor_of_tree (by kernel_rfl)
theorem entry_set_iterator_iter:entryFor table "set_iterator.__iter__" = some Builtin.«dict_keyiterator.__iter__»:=entryFor_alias (id':="dict_keyiterator.__iter__") (by kernel_rfl) (by first | rfl | decide +kernel | (unfold String.splitOn;simp +decide [String.splitOnAux])) (by decide +kernel) (by kernel_rfl)
theorem entry_set_iter:entryFor table "set.__iter__" = some Builtin.«frozenset.__iter__»:=entryFor_alias (id':="frozenset.__iter__") (by kernel_rfl) rfl (by decide +kernel) (by kernel_rfl)
theorem args_set_iterator_next(a:Value):argsOk "set_iterator.__next__" ⟨[a],[]⟩:=by unfold argsOk;kernel_rfl
theorem args_set_iterator_iter(a:Value):argsOk "set_iterator.__iter__" ⟨[a],[]⟩:=by unfold argsOk;kernel_rfl
end F
theorem UD{M:Model}{A:Around}{E:Value->Shared->Prop}{s:Shared}{src:Source}{n:Nat}{Q:Nat->Shared->Prop}(hn:n≠0)(h:∀i d,i < n->Q i { s with drawn:=d }):wpAny M A (choose src n) Q E s :=
 fun _ _ _=>⟨hn,h _ _ (Nat.mod_lt _ (Nat.pos_of_ne_zero hn))⟩
theorem Kn{α:Type}{l:List α}{i:Nat}(h:i < l.length):(l[i]::l.eraseIdx i).Perm l:=by
 rw[List.eraseIdx_eq_take_drop_succ];have e:l=l.take i++l[i]::l.drop (i+1):=by rw[<- List.drop_eq_getElem_cons h,List.take_append_drop]
 exact List.perm_middle.symm.trans (e ▸ .rfl)
theorem KO{M:Model}{A:Around}{E:Value->Shared->Prop}{α:Type}:∀(n:Nat) (xs:List α) (s:Shared) (Q:List α->Shared->Prop),xs.length=n->(∀ys d,ys.Perm xs->Q ys { s with drawn:=d })->wpAny M A (drawOrder n xs) Q E s
 | 0,xs,s,Q,hl,h=>by
  obtain rfl:xs=[]:=ZB2.mp hl;unfold drawOrder;exact ZB (h [] s.drawn .nil)
 | n+1,[],s,Q,hl,h=>by cases hl
 | n+1,x0::r,s,Q,hl,h=>by
  unfold drawOrder;refine ZA (UD (by simp) fun i d hi=>?_);obtain⟨x,hx⟩:∃x,(x0::r)[i]? = some x:=⟨_,ZE hi⟩;rw[hx];dsimp only;refine ZA (KO n _ _ _ (by rw[List.length_eraseIdx];simp only[hi,if_true];lia) fun ys d2 hp=>ZB ?_);refine h _ d2 ?_;have e:(x0::r)[i]=x:=by rw[ZE hi]at hx;exact ZQ hx
  exact(List.Perm.cons x hp).trans (e ▸ Kn hi)
theorem Lq{α:Type}(nx:Nat->Nat):∀(f k:Nat) (l:List α) (out:Array α),l.length=f->(pickOrder.go nx f k l out).toList.Perm (out.toList++l)
 | 0,k,l,out,hl=>by
  obtain rfl:l=[]:=ZB2.mp hl;unfold pickOrder.go;rw[Zy]
 | f+1,k,l,out,hl=>by
  unfold pickOrder.go;have hi:nx k % l.length < l.length:=Nat.mod_lt _ (by lia);rw[ZE hi];dsimp only;refine(Lq nx f (k+1) _ _ (by rw[List.length_eraseIdx];simp only[hi,if_true];lia)).trans ?_;rw[Array.toList_push,List.append_assoc];exact List.Perm.append_left _ (Kn hi)
theorem IA{α:Type}(nx:Nat->Nat)(xs:Array α):(pickOrder nx xs).toList.Perm xs.toList:=by
 have:=Lq nx xs.size 0 xs.toList #[] (by simp)
 rw[List.nil_append]at this;exact this
noncomputable def IsSetIter(h:Heap)(I:Addr)(f:Value)(i:Nat)(a:Addr)(n ep:Nat):Prop:=∃o,h.get? I=some o/\o.cls=.type "set_iterator" /\ o.data=.fields #[f,.int i 0,.ref a,.int n 0,.int ep 0]
theorem IsSetIter.typeIs{s:Shared}{I a:Addr}{f:Value}{i n ep:Nat}(x:IsSetIter s.heap I f i a n ep):s.TypeIs (.ref I) "set_iterator":=let ⟨o,ho,hc,_⟩:=x;⟨o,ho,hc⟩
theorem IsSetIter.at{h h':Heap}{I a:Addr}{f:Value}{i n ep:Nat}(x:IsSetIter h I f i a n ep)(e:∀o,h.get? I=some o->h'.get? I=some o):IsSetIter h' I f i a n ep:=let ⟨o,ho,r⟩:=x;⟨o,e _ ho,r⟩
section
variable {P:Program}{w:World}{A:Around}{E:Value->Shared->Prop}{s:Shared}{a I:Addr}
theorem FX{h:Heap}{o:Obj}{vs:Array Value}(ho:h.get? I=some o)(hd:o.data=.fields vs)(k:Nat)(x:Value):∃o',(h.update I (Obj.mapFields (·.setIfInBounds k x))).get? I=some o'/\o'.cls=o.cls/\o'.data=.fields (vs.setIfInBounds k x) :=
 ⟨_,ZBL _ ho (Obj.isFreed_of_fields (Obj.data_mapFields hd _)),Obj.cls_mapFields ..,Obj.data_mapFields hd _⟩
theorem LS {o:Obj} {es:Array (Int × Value)} {ep i slot nx:Nat} {t:SetTable} {x:Value} {Q:Option Value->Shared->Prop} (hit:IsSetIter s.heap I (.int slot 0) i a es.size ep) (h1:s.heap.get? a=some o) (h3:o.data=.set es ep t) (h7:t.fits es.size=true)
 (hn:∀(A:Around) (E:Value->Shared->Prop) (Q:Option (Value × Nat)->Shared->Prop),Q (some (x,nx)) s->wpAny (model P w) A (setNext a slot i ep) Q E s)
 (hQ:∀h',IsSetIter h' I (.int nx 0) (i+1) a es.size ep->Heap.SameBut I s.heap h'->Q (some x) { s with heap:=h' }):wpAny (model P w) A (pyNext (.ref I)) Q E s:=by
 obtain⟨oi,ho,hc,hd⟩:=id hit;unfold pyNext;refine ZA (wpAny_attempt (wpAny_callSpecial?_slot (name:=Str.ofString "__next__") hit.typeIs F.slot_set_iterator_next (Z6 F.slot_set_iterator_next hit.typeIs F.entry_set_iterator_next ?_ (F.args_set_iterator_next _))));show wpAny _ _ (fieldsOf (.ref I) >>= _) _ _ s;refine ZA (wpAny_fieldsOf ho hd ?_);dsimp only;refine ZA (wpAny_setEntries_of h1 h3 h7 ?_);refine Zt (fun hab=>absurd hab (by simp)) (fun _=>?_);refine ZA (hn _ _ _ ?_);dsimp only;obtain⟨o1,ho1,hc1,hd1⟩:=FX ho hd 0 (rawInt nx);refine ZA (ZBA ho hd (by simp) (ZA (ZBA ho1 hd1 (by simp) (ZB ⟨x,rfl,ZB (hQ _ ?_ ((Zw ..).trans (Zw ..)))⟩))));obtain⟨o2,ho2,hc2,hd2⟩:=FX ho1 hd1 1 (rawInt (i+1));exact⟨o2,ho2,hc2.trans (hc1.trans hc),by rw[hd2];simp[rawInt]⟩
theorem LD {o:Obj} {es:Array (Int × Value)} {ep i slot:Nat} {t:SetTable} {Q:Option Value->Shared->Prop} (hh:A.handled=none) (hit:IsSetIter s.heap I (.int slot 0) i a es.size ep) (h1:s.heap.get? a=some o) (h3:o.data=.set es ep t) (h7:t.fits es.size=true)
 (hn:∀(A:Around) (E:Value->Shared->Prop) (Q:Option (Value × Nat)->Shared->Prop),Q none s->wpAny (model P w) A (setNext a slot i ep) Q E s)
 (hQ:∀h',Heap.ExtBut I s.heap h'->Q none { s with heap:=h' }):wpAny (model P w) A (pyNext (.ref I)) Q E s:=by
 obtain⟨oi,ho,hc,hd⟩:=id hit;unfold pyNext;refine ZA (wpAny_attempt (wpAny_callSpecial?_slot (name:=Str.ofString "__next__") hit.typeIs F.slot_set_iterator_next (Z6 F.slot_set_iterator_next hit.typeIs F.entry_set_iterator_next ?_ (F.args_set_iterator_next _))));show wpAny _ _ (fieldsOf (.ref I) >>= _) _ _ s;refine ZA (wpAny_fieldsOf ho hd ?_);dsimp only;refine ZA (wpAny_setEntries_of h1 h3 h7 ?_);refine Zt (fun hab=>absurd hab (by simp)) (fun _=>?_);refine ZA (hn _ _ _ ?_);dsimp only;refine ZA (ZBA ho hd (by simp) ?_);show wpAny _ _ (newExc (.type "StopIteration") [] >>= _) _ _ _;refine ZA ?_;simp only[newExc,newTuple];refine ZA (Zp (ZA (m:=firstArgMember _ _) (wpAny_of_eq (a:=Value.none) (by first | rfl | (simp only[firstArgMember];rfl)) (Zp ?_ (by size_fits)))) (by size_fits));simp only[raiseNew];refine ZA (wpAny_handled ?_);first | rw[show A.in1.handled=none from hh] | rw[hh]
 refine ZA (ZB (wpAny_throw ?st));refine ZA (wpAny_isInstance (T:="StopIteration") (b:=true) ⟨_,ZM _ rfl,rfl⟩ isSubtype_stop ?_);exact ZB (hQ _ ((((Zw ..)).extBut.push _).push _))
theorem PZ {o ot:Obj} {es:Array (Int × Value)} {ep i tp nt:Nat} {t:SetTable} {ps:Array Value} {p:Nat} {x:Int × Value} {Q:Option Value->Shared->Prop} (hit:IsSetIter s.heap I (.ref tp) i a es.size ep) (h1:s.heap.get? a=some o) (h3:o.data=.set es ep t) (h7:t.fits es.size=true)
 (ht:s.heap.get? tp=some ot) (hdt:ot.data=.seq ps nt) (hp:ps[i]? = some (.int p 0)) (hx:es[p]? = some x)
 (hQ:∀h',IsSetIter h' I (.ref tp) (i+1) a es.size ep->Heap.SameBut I s.heap h'->Q (some x.2) { s with heap:=h' }):wpAny (model P w) A (pyNext (.ref I)) Q E s:=by
 obtain⟨oi,ho,hc,hd⟩:=id hit;unfold pyNext;refine ZA (wpAny_attempt (wpAny_callSpecial?_slot (name:=Str.ofString "__next__") hit.typeIs F.slot_set_iterator_next (Z6 F.slot_set_iterator_next hit.typeIs F.entry_set_iterator_next ?_ (F.args_set_iterator_next _))));show wpAny _ _ (fieldsOf (.ref I) >>= _) _ _ s;refine ZA (wpAny_fieldsOf ho hd ?_);dsimp only;refine ZA (wpAny_setEntries_of h1 h3 h7 ?_);refine Zt (fun hab=>absurd hab (by simp)) (fun _=>?_);refine ZA (wpAny_seqItems ht hdt ?_);simp only[Zb,hp];unfold setNextDrawn;refine ZA (ZA (wpAny_setState_of h1 h3 h7 ?_));dsimp only;refine Zt (fun hab=>absurd hab (by simp)) (fun _=>?_);rw[hx];refine ZB (ZA (ZBA ho hd (by simp) (ZB ⟨x.2,rfl,ZB (hQ _ ?_ (Zw ..))⟩)));obtain⟨o2,ho2,hc2,hd2⟩:=FX ho hd 1 (rawInt (i+1));exact⟨o2,ho2,hc2.trans hc,by rw[hd2];simp[rawInt]⟩
theorem Ur {o ot:Obj} {es:Array (Int × Value)} {ep i tp nt:Nat} {t:SetTable} {ps:Array Value} {Q:Option Value->Shared->Prop} (hh:A.handled=none) (hit:IsSetIter s.heap I (.ref tp) i a es.size ep) (h1:s.heap.get? a=some o) (h3:o.data=.set es ep t) (h7:t.fits es.size=true)
 (ht:s.heap.get? tp=some ot) (hdt:ot.data=.seq ps nt) (hp:ps[i]? = none)
 (hQ:∀h',Heap.ExtBut I s.heap h'->Q none { s with heap:=h' }):wpAny (model P w) A (pyNext (.ref I)) Q E s:=by
 obtain⟨oi,ho,hc,hd⟩:=id hit;unfold pyNext;refine ZA (wpAny_attempt (wpAny_callSpecial?_slot (name:=Str.ofString "__next__") hit.typeIs F.slot_set_iterator_next (Z6 F.slot_set_iterator_next hit.typeIs F.entry_set_iterator_next ?_ (F.args_set_iterator_next _))));show wpAny _ _ (fieldsOf (.ref I) >>= _) _ _ s;refine ZA (wpAny_fieldsOf ho hd ?_);dsimp only;refine ZA (wpAny_setEntries_of h1 h3 h7 ?_);refine Zt (fun hab=>absurd hab (by simp)) (fun _=>?_);refine ZA (wpAny_seqItems ht hdt ?_);simp only[Zb,hp];obtain⟨o1,ho1,hc1,hd1⟩:=FX ho hd 0 (rawInt 0);refine ZA (ZBA ho hd (by simp) (ZA (ZBA ho1 hd1 (by simp) ?_)));show wpAny _ _ (newExc (.type "StopIteration") [] >>= _) _ _ _;refine ZA ?_;simp only[newExc,newTuple];refine ZA (Zp (ZA (m:=firstArgMember _ _) (wpAny_of_eq (a:=Value.none) (by first | rfl | (simp only[firstArgMember];rfl)) (Zp ?_ (by size_fits)))) (by size_fits));simp only[raiseNew];refine ZA (wpAny_handled ?_);first | rw[show A.in1.handled=none from hh] | rw[hh]
 refine ZA (ZB (wpAny_throw ?st));refine ZA (wpAny_isInstance (T:="StopIteration") (b:=true) ⟨_,ZM _ rfl,rfl⟩ isSubtype_stop ?_);exact ZB (hQ _ ((((Zw ..).trans (Zw ..)).extBut.push _).push _))
theorem Fk{f:Value}{i n ep:Nat}{Q:Value->Shared->Prop}(hit:IsSetIter s.heap I f i a n ep)(h:Q (.ref I) s):wpAny (model P w) A (pyIter (.ref I)) Q E s:=by
 refine wpAny_pyIter_slot hit.typeIs F.slot_set_iterator_iter (Z6 F.slot_set_iterator_iter hit.typeIs F.entry_set_iterator_iter ?_ (F.args_set_iterator_iter _));show wpAny _ _ (ret (.ref I)) _ _ s;exact ZB ⟨_,rfl,"set_iterator",_,hit.typeIs,F.slot_set_iterator_next.lookup,h⟩
end
section
variable {P:Program}{w:World}{A:Around}{E:Value->Shared->Prop}{s:Shared}{a I:Addr}
theorem M7{l:List (Int × Value)}(h:ElemsOf (intKind P w) l){e:Int × Value}(he:e∈l):∃t,e.2=.int (numOf e.2) t:=by
 obtain⟨⟨k,hk,_⟩,_⟩:=h e he;obtain⟨t,et⟩:=Value.isInt_shape (show Value.isInt k e.2=true from hk);exact⟨t,by rw[et];rfl⟩
theorem JK{l:List (Int × Value)}(h:ElemsOf (intKind P w) l)(k:Int):k∈l.map (fun(e:Int × Value)=>numOf e.2) ↔ ∃e∈l,(intKind P w).is k e.2=true:=by
 rw[ZU];constructor
 ·rintro⟨e,he,rfl⟩;obtain⟨t,et⟩:=M7 h he;exact⟨e,he,by rw[et];exact intKind_is _ _ _ _⟩
 ·rintro⟨e,he,hk⟩;obtain⟨t,et⟩:=Value.isInt_shape (show Value.isInt k e.2=true from hk);exact⟨e,he,by rw[et];rfl⟩
theorem FF{Q:Bool->Shared->Prop}(h:Q (w.params.followText "set-order") s):wpAny (model P w) A setsByText Q E s:=by
 unfold setsByText;exact ZA (wpAny_askSetting (ZB h))
theorem Ji {o:Obj} {es:Array (Int × Value)} {ep i:Nat} {t:SetTable} (hx:w.params.followText "set-order" = true) (h1:s.heap.get? a=some o) (h3:o.data=.set es ep t) (h7:t.fits es.size=true) {Q:Option (Value × Nat)->Shared->Prop}
 (h:Q (((pickOrder (w.params.setOrder a ep) es)[i]?).map fun e=>(e.2,0)) s):wpAny (model P w) A (setNext a 0 i ep) Q E s:=by
 unfold setNext;refine ZA (wpAny_setState_of h1 h3 h7 ?_);dsimp only;refine ZA (FF ?_);rw[hx];simp only[↓reduceIte];refine Zt (fun hab=>absurd hab (by simp)) (fun _=>?_);unfold setWalk;refine ZA (ZA (wpAny_setState_of h1 h3 h7 ?_));dsimp only;refine ZA (FF ?_);rw[hx];simp only[↓reduceIte];exact ZA (wpAny_askSetting (ZB (ZB h)))
theorem Mw {o:Obj} {es:Array (Int × Value)} {ep i sl:Nat} {t:SetTable} (hx:w.params.followText "set-order" = false) (h1:s.heap.get? a=some o) (h3:o.data=.set es ep t) (h7:t.fits es.size=true) (hl:t.led=true) (hd:(!t.plain && decide (es.size > 1))=false)
 {k:Nat} (hk:SetTable.below t.place sl=k) {Q:Option (Value × Nat)->Shared->Prop}
 (h:Q (match es[k]?,t.place[k]? with | some (_,x),some j=>some (x,j+1) | _,_=>none) s):wpAny (model P w) A (setNext a sl i ep) Q E s:=by
 unfold setNext;refine ZA (wpAny_setState_of h1 h3 h7 ?_);dsimp only;refine ZA (FF ?_);rw[hx];refine Zt (fun hab=>absurd hab (by simp)) (fun _=>?_);refine Zt (fun hab=>absurd (show(!t.plain && decide (es.size > 1))=true from hab) (by rw[hd];simp)) (fun _=>?_);refine ZA ?_;show wpAny _ _ (if (!t.led && !es.isEmpty)=true then unsupported "set:maker-not-led" else pure ()) _ _ _;refine Zt (fun hab=>absurd hab (by rw[hl];simp)) (fun _=>ZB ?_);subst hk;exact ZB h
noncomputable def E8(L:List (Int × Value))(i:Nat)(v:Value):Prop:=∃t,v=.int ((L.map fun(e:Int × Value)=>numOf e.2).getD i 0) t
theorem GF{L:List (Int × Value)}(h:ElemsOf (intKind P w) L){i:Nat}{e:Int × Value}(he:L[i]? = some e):E8 L i e.2:=by
 obtain⟨t,et⟩:=M7 h (Zz he);refine⟨t,?_⟩;rw[ZV,ZR,he];exact et
theorem P9{o:Obj}{es:Array (Int × Value)}{ep:Nat}{t:SetTable}(hh:A.handled=none)(Yr:a≠I)(hx:w.params.followText "set-order" = true)(h3:o.data=.set es ep t)(h4:ElemsOf (intKind P w) es.toList)(h7:t.fits es.size=true) :
 Walks P w A I [I,a] [I] es.size (E8 (pickOrder (w.params.setOrder a ep) es).toList) (fun i h=>IsSetIter h I (.int 0 0) i a es.size ep/\h.get? a=some o) where
 sub:=fun b hb=>by simp at hb;simp[hb]
 frame:=fun _ _ _ st hk=>⟨st.1.at fun o e=>hk I (by simp) o e,hk a (by simp) _ st.2⟩
 item:=fun i s Q E hi st hQ=>by
  have pm:=IA (w.params.setOrder a ep) es;have hl:i < (pickOrder (w.params.setOrder a ep) es).size:=by rw[<- Zd,pm.length_eq,Zd];exact hi
  refine LS (slot:=0) (nx:=0) (x:=(pickOrder (w.params.setOrder a ep) es)[i].2) st.1 st.2 h3 h7 (fun A E Q q=>Ji hx st.2 h3 h7 (by rw[ZBX hl];exact q)) fun h' hit' sb=>?_
  exact hQ _ h' s.toks (GF (h4.perm pm) (by rw[ZBu,ZBX hl])) ⟨hit',(sb.2 a Yr).trans st.2⟩ fun b o hb e=>sb.extBut b o (fun h=>hb (by simp[h])) e
 done:=fun s Q E st hQ=>by
  have pm:=IA (w.params.setOrder a ep) es;refine LD (slot:=0) hh st.1 st.2 h3 h7 (fun A E Q q=>Ji hx st.2 h3 h7 ?_) fun h' he'=>hQ h' s.toks fun b o hb e=>he' b o (fun h=>hb (by simp[h])) e
  rw[Array.getElem?_eq_none (by rw[<- Zd,pm.length_eq,Zd];exact ZD _)];exact q
 self:=fun _ _ _ _ st hQ=>Fk st.1 hQ
noncomputable def Ej(t:SetTable)(i:Nat):Nat:=match i with | 0=>0 | k+1=>t.place.getD k 0+1
theorem KC{t:SetTable}(g:Ris t.place){i:Nat}(h:i<=t.place.size):SetTable.below t.place (Ej t i)=i:=by
 cases i with
 | zero=>exact OX g
 | succ k=>exact To g h
theorem QU{o:Obj}{es:Array (Int × Value)}{ep:Nat}{t:SetTable}(hh:A.handled=none)(Yr:a≠I)(hx:w.params.followText "set-order" = false)(hd:(!t.plain && decide (es.size > 1))=false)(h3:o.data=.set es ep t)(h4:ElemsOf (intKind P w) es.toList)(h7:t.fits es.size=true)(g:TabG w t) :
 Walks P w A I [I,a] [I] es.size (E8 es.toList) (fun i h=>IsSetIter h I (.int (Ej t i) 0) i a es.size ep/\h.get? a=some o) where
 sub:=fun b hb=>by simp at hb;simp[hb]
 frame:=fun _ _ _ st hk=>⟨st.1.at fun o e=>hk I (by simp) o e,hk a (by simp) _ st.2⟩
 item:=fun i s Q E hi st hQ=>by
  have hz:t.place.size=es.size:=by have:=h7;unfold SetTable.fits at this;simp at this;exact this.1
  have hl:t.led=true:=by rw[g.led,hx];rfl
  refine LS (nx:=Ej t (i+1)) (x:=es[i].2) st.1 st.2 h3 h7 (fun A E Q q=>Mw hx st.2 h3 h7 hl hd (KC g.ris (by lia)) ?_) fun h' hit' sb=>?_
  ·rw[ZBX hi,ZBX (show i < t.place.size by lia)];have e:Ej t (i+1)=t.place[i]+1:=by show t.place.getD i 0+1=_;simp[Array.getD,show i < t.place.size by lia]
   rw[e]at q;exact q
  ·exact hQ _ h' s.toks (GF h4 (by rw[ZBu,ZBX hi])) ⟨hit',(sb.2 a Yr).trans st.2⟩ fun b o hb e=>sb.extBut b o (fun h=>hb (by simp[h])) e
 done:=fun s Q E st hQ=>by
  have hz:t.place.size=es.size:=by have:=h7;unfold SetTable.fits at this;simp at this;exact this.1
  have hl:t.led=true:=by rw[g.led,hx];rfl
  refine LD hh st.1 st.2 h3 h7 (fun A E Q q=>Mw hx st.2 h3 h7 hl hd (KC g.ris (by lia)) ?_) fun h' he'=>hQ h' s.toks fun b o hb e=>he' b o (fun h=>hb (by simp[h])) e
  rw[Array.getElem?_eq_none (ZD _)];exact q
 self:=fun _ _ _ _ st hQ=>Fk st.1 hQ
theorem ME{α:Type}(es:Array α):∀(l:List Nat),(∀x∈l,x < es.size)->∀i:Nat,(l.filterMap (es[·]?))[i]? = (l[i]?).bind (es[·]?)
 | [],_,i=>by simp
 | x::r,hx,i=>by
  have hx0:x < es.size:=hx x Zg;rw[ZBe,ZBX hx0];cases i with
  | zero=>simp[hx0]
  | succ j=>simpa using ME es r (fun y hy=>hx y (ZW _ hy)) j
theorem Sq {o ot:Obj} {es:Array (Int × Value)} {ep tp nt:Nat} {t:SetTable} {ps:List Nat} (hh:A.handled=none) (Yr:a≠I) (hnt:tp≠I) (h3:o.data=.set es ep t) (h4:ElemsOf (intKind P w) es.toList) (h7:t.fits es.size=true)
 (hdt:ot.data=.seq (ps.map fun(i:Nat)=>rawInt i).toArray nt) (hp:ps.Perm (List.range es.size)) :
 Walks P w A I [I,a,tp] [I] es.size (E8 (ps.filterMap (es[·]?))) (fun i h=>IsSetIter h I (.ref tp) i a es.size ep/\h.get? a=some o/\h.get? tp=some ot) where
 sub:=fun b hb=>by simp at hb;simp[hb]
 frame:=fun _ _ _ st hk=>⟨st.1.at fun o e=>hk I (by simp) o e,hk a (by simp) _ st.2.1,hk tp (by simp) _ st.2.2⟩
 item:=fun i s Q E hi st hQ=>by
  have hl:ps.length=es.size:=by rw[hp.length_eq,Z8]
  have hi':i < ps.length:=by lia
  have hpi:ps[i] < es.size:=Zn.mp (hp.mem_iff.mp (Zl hi'));have pm:(ps.filterMap (es[·]?)).Perm es.toList:=(hp.filterMap _).trans (by rw[filterMap_getElem?_range]);refine PZ (p:=ps[i]) (x:=es[ps[i]]) st.1 st.2.1 h3 h7 st.2.2 hdt (by simp[hi',rawInt]) (ZBX hpi) fun h' hit' sb=>?_
  exact hQ _ h' s.toks (GF (h4.perm pm) (by rw[ME es ps (fun x hx=>Zn.mp (hp.mem_iff.mp hx)) i,ZE hi'];exact ZBX hpi)) ⟨hit',(sb.2 a Yr).trans st.2.1,(sb.2 tp hnt).trans st.2.2⟩ fun b o hb e=>sb.extBut b o (fun h=>hb (by simp[h])) e
 done:=fun s Q E st hQ=>by
  have hl:ps.length=es.size:=by rw[hp.length_eq,Z8]
  exact Ur hh st.1 st.2.1 h3 h7 st.2.2 hdt (by simp[hl]) fun h' he'=>hQ h' s.toks fun b o hb e=>he' b o (fun h=>hb (by simp[h])) e
 self:=fun _ _ _ _ st hQ=>Fk st.1 hQ
theorem UR {S:Int->Bool} {n:Nat} {Q:Value->Shared->Prop} (hS:SetW P w s.heap a S n)
 (fin:∀(h':Heap) d (I:Addr) (fp:List Addr) (St:Nat->Heap->Prop) (ms:List Int),ms.length=n->(∀k,k∈ms ↔ S k=true)->(∀b o,s.heap.get? b=some o->h'.get? b=some o)->s.heap.objs.size<=I->(∀b∈fp,b=a\/s.heap.objs.size<=b) ->
   (∀A:Around,A.handled=none->Walks P w A I fp [I] n (fun i v=>∃t,v=.int (ms.getD i 0) t) St)->St 0 h'->Q (.ref I) { s with heap:=h',drawn:=d }):wpAny (model P w) A (pyIter (.ref a)) Q E s:=by
 obtain⟨o,es,ep,t,h1,h2,h3,h4,h5,h6,h7,h8,g⟩:=hS;have hT:s.TypeIs (.ref a) "set":=⟨o,h1,h2.1⟩;have Ym:=ZG h1;subst h8;refine wpAny_pyIter_slot hT PySem.F.slot_set_iter (Z6 PySem.F.slot_set_iter hT F.entry_set_iter ?_ (PySem.F.args_set_iter_1 _));show wpAny _ _ (Builtin.Frozenset.sizeOf a >>= _) _ _ s;refine ZA (ZA (wpAny_setEntries_of h1 h3 h7 (ZB ?_)));show wpAny _ _ (setDrawn a >>= _) _ _ s;unfold setDrawn;refine ZA (ZA (wpAny_setState_of h1 h3 h7 ?_));dsimp only;refine ZA (FF (ZB ?_));cases hx:w.params.followText "set-order" with
 | true =>
  refine Zt (fun hab=>absurd hab (by simp)) (fun _=>?_);refine ZA (ZB (ZA (wpAny_setEpoch_of h1 h3 h7 ?_)));have pm:=IA (w.params.setOrder a ep) es;refine ZA (Zp (ZB ⟨_,rfl,"set_iterator",_,⟨_,ZM _ rfl,rfl⟩,F.slot_set_iterator_next.lookup,?_⟩))
  refine fin _ s.drawn s.heap.objs.size [s.heap.objs.size,a] _ ((pickOrder (w.params.setOrder a ep) es).toList.map fun(e:Int × Value)=>numOf e.2) (by rw[ZC,pm.length_eq,Zd]) (fun k=>by rw[JK (h4.perm pm),h5 k];exact⟨fun⟨e,x,y⟩=>⟨e,pm.mem_iff.mp x,y⟩,fun⟨e,x,y⟩=>⟨e,pm.mem_iff.mpr x,y⟩⟩) (fun b o e=>ZH _ e) (ZD _)
   (fun b hb=>by simp at hb;rcases hb with rfl | rfl <;> simp) (fun A hh=>P9 hh (ZK Ym) hx h3 h4 h7) ⟨⟨_,ZM _ rfl,rfl,rfl⟩,ZH _ h1⟩
 | false =>
  by_cases hd:(!t.plain && decide (es.size > 1))=true
  ·refine Zt (fun _=>?_) (fun hab=>absurd (show(!false && (!t.plain && decide (es.size > 1)))=true by rw[hd];rfl) hab);refine ZA (KO es.size (List.range es.size) _ _ (by simp) fun ps d hp=>?_);refine ZA (wpAny_newTuple ?_ (by rw[ZC,hp.length_eq,Z8];exact fits_of_scanBound h6));refine ZA (wpAny_setEpoch_of (ZH _ h1) h3 h7 ?_);have pm:(ps.filterMap (es[·]?)).Perm es.toList:=(hp.filterMap _).trans (by rw[filterMap_getElem?_range]);refine ZA (Zp (ZB ⟨_,rfl,"set_iterator",_,⟨_,ZM _ rfl,rfl⟩,F.slot_set_iterator_next.lookup,?_⟩))
   refine fin _ d (s.heap.push { cls:=.type "tuple",data:=.seq (ps.map fun(i:Nat)=>rawInt i).toArray }).objs.size [(s.heap.push { cls:=.type "tuple",data:=.seq (ps.map fun(i:Nat)=>rawInt i).toArray }).objs.size,a,s.heap.objs.size] _ ((ps.filterMap (es[·]?)).map fun(e:Int × Value)=>numOf e.2) (by rw[ZC,pm.length_eq,Zd])
    (fun k=>by rw[JK (h4.perm pm),h5 k];exact⟨fun⟨e,x,y⟩=>⟨e,pm.mem_iff.mp x,y⟩,fun⟨e,x,y⟩=>⟨e,pm.mem_iff.mpr x,y⟩⟩) (fun b o e=>ZH _ (ZH _ e)) (by rw[Zu];exact ZBT _)
    (fun b hb=>by rw[Zu]at hb;simp at hb;rcases hb with rfl | rfl | rfl <;> simp) (fun A hh=>Sq hh (by rw[Zu];exact ZK (Nat.lt_succ_of_lt Ym)) (by rw[Zu];exact ZK (ZBJ _)) h3 h4 h7 rfl hp)
    ⟨⟨_,ZM _ rfl,rfl,rfl⟩,ZH _ (ZH _ h1),ZH _ (ZM _ rfl)⟩
  ·have hd':(!t.plain && decide (es.size > 1))=false:=by simpa using hd
   refine Zt (fun hab=>absurd (show(!t.plain && decide (es.size > 1))=true from hab) (by rw[hd'];simp)) (fun _=>?_);refine ZA (ZB (ZA (wpAny_setEpoch_of h1 h3 h7 ?_)));refine ZA (Zp (ZB ⟨_,rfl,"set_iterator",_,⟨_,ZM _ rfl,rfl⟩,F.slot_set_iterator_next.lookup,?_⟩))
   refine fin _ s.drawn s.heap.objs.size [s.heap.objs.size,a] _ (es.toList.map fun(e:Int × Value)=>numOf e.2) (by rw[ZC,Zd]) (fun k=>by rw[JK h4,h5 k]) (fun b o e=>ZH _ e) (ZD _)
    (fun b hb=>by simp at hb;rcases hb with rfl | rfl <;> simp) (fun A hh=>QU hh (ZK Ym) hx hd' h3 h4 h7 g) ⟨⟨_,ZM _ rfl,rfl,rfl⟩,ZH _ h1⟩
end
end L2
namespace L2
open PySem PySem.Spec PyProof.Rows PySem.W PySem.Calls
section
variable {P:Program}{w:World}{A:Around}{E:Value->Shared->Prop}{s:Shared}{a I:Addr}
theorem Td{Q:Bool->Shared->Prop}(hT:s.TypeIs (.ref a) "set")(h:Q false s):wpAny (model P w) A (Builtin.List.listLengthHint (.ref a)) Q E s:=by
 unfold Builtin.List.listLengthHint;refine ZA (wpAny_specialOf hT PySem.F.slot_set_len.lookup ?_);generalize hid:("set.__len__" : String)=id0
 wp_delta
 rw[show splitId id0=some ("set","__len__") from by subst hid;decide +kernel];subst hid;refine ZA (wpAny_isInstance (T:="set") (b:=true) hT (by rw[isSubtype_type];kernel_rfl) ?_);refine Zt (fun hab=>absurd hab (by decide)) (fun _=>Zt (fun _=>ZA (wpAny_typeOf hT (ZB h))) (fun hab=>absurd (by decide +kernel) hab))
theorem PQ {R:Result->Shared->Prop} {S:Int->Bool} {n:Nat} {l:Addr} {c0:Nat} (hh:A.handled=none) (hS:SetW P w s.heap a S n) (hn:n<=sizeLine) (hl:s.heap.get? l=some { cls:=.type "list",data:=.seq #[] c0 }) (res:Value)
 (fin:∀(h':Heap) d tk (Yp:Array Value) (c:Nat) (ms:List Int),ms.length=n->(∀k,k∈ms ↔ S k=true)->(∀b o,b≠l->s.heap.get? b=some o->h'.get? b=some o)->h'.get? l=some { cls:=.type "list",dict:=none,data:=.seq Yp c,slots:=#[] } ->
   ItemsOf (fun i v=>∃t,v=.int (ms.getD i 0) t) Yp n->R (.ok (.ret res)) { s with heap:=h',drawn:=d,toks:=tk }) :
 wpAny (model P w) A.in1 (Builtin.List.listExtendWith (.ref l) (.ref a) res)
  (fun fin s'=>match fin with | .done f=>R (.ok f) s' | .again c'=>c'.quiet=true/\codeAny (model P w) A c' R s') (fun e s'=>R (.error e) s') s:=by
 have hT:s.TypeIs (.ref a) "set":=hS.of.typeIs
 have hla:l≠a:=fun e=>by
  obtain⟨o,es,ep,t,h1,h2,_⟩:=hS;rw[<- e,hl]at h1;cases h1;exact absurd h2.1 (show ¬(Value.type "list" = Value.type "set") by decide)
 unfold Builtin.List.listExtendWith;refine ZA (wpAny_typeOf (T:="set") hT ?_);have e1:Builtin.List.listSameRef (.ref l) (.ref a)=false:=by simp[Builtin.List.listSameRef,hla]
 have e2:(Value.type "set" == Value.type "list")=false:=by decide
 have e3:(Value.type "set" == Value.type "tuple")=false:=by decide
 simp only[e1,e2,e3,Bool.or_false,ZBy,if_false];refine ZA (UR hS fun h1 d I fp St ms hm1 hm2 hk hI hfp W st=>?_)
 have hlf:l∉fp:=fun z=>by
  rcases hfp l z with q | q
  ·exact hla q
  ·exact absurd (ZG hl) (Nat.not_lt.mpr q)
 have key:∀(h2:Heap) (c1 tk:Nat),St 0 h2->(∀b o,b≠l->s.heap.get? b=some o->h2.get? b=some o)->h2.get? l=some { cls:=.type "list",data:=.seq #[] c1 } ->
  codeAny (model P w) A (.builtin "list.extend.loop" ⟨[.ref l,.ref I,res],[]⟩) R { s with heap:=h2,drawn:=d,toks:=tk }:=fun h2 c1 tk st2 hk2 hl2=>by
  refine codeAny_extend_loopS (W A.in1 hh).toS hn l hlf res n 0 _ #[] c1 rfl (ZP _) st2 hl2 (ItemsOf.nil _) fun s' Yp c hm hs' hacc=>?_
  rw[Moved.eq_with hm];refine fin s'.heap d s'.toks Yp c ms hm1 hm2 (fun b o hb e=>hm.heap b o (fun z=>?_) (hk2 b o hb e)) hs' hacc
  rcases ZI.mp z with q | q
  ·exact hb q
  ·rw[ZF]at q;exact absurd (ZG e) (by rw[q];exact Nat.not_lt.mpr hI)
 have hl1:=hk _ _ hl;refine ZA (Ze (Td (SetW.of (hS.at fun o e=>hk _ _ e)).typeIs ?_));refine Zt (fun _=>?_) (fun _=>ZB ⟨ZBO PySem.F.plain_extend_loop _,key _ c0 _ st (fun b o _ e=>hk b o e) hl1⟩);refine ZA (wpAny_rule (ZA ?_));show wpAny _ _ (updateSeq l (·.push .none) >>= fun _=>updateSeq l (·.pop)) _ _ _;have g1:=ZBL (Obj.mapSeq (·.push Value.none)) hl1 rfl;have g2:=ZBL (Obj.mapSeq (·.pop)) g1 rfl;refine ZA (wpAny_updateSeq hl1 rfl (wpAny_updateSeq (hz:=by seq_fits) g1 rfl (ZB ⟨ZBO PySem.F.plain_extend_loop _,key _ _ _ ?_ (fun b o hb e=>?_) g2⟩)))
 ·refine(W A hh).frame 0 _ _ st fun b hb o e=>?_
  have hbl:b≠l:=fun h=>hlf (h ▸ hb)
  exact(Z0 _ _ (Ne.symm hbl)).trans ((Z0 _ _ (Ne.symm hbl)).trans e)
 ·exact(Z0 _ _ (Ne.symm hb)).trans ((Z0 _ _ (Ne.symm hb)).trans (hk b o e))
theorem RW {S:Int->Bool} {n:Nat} {R:List Value->Shared->Prop} (hh:A.handled=none) (hS:SetW P w s.heap a S n) (hn:n<=sizeLine)
 (fin:∀(h':Heap) d tk (Yp:Array Value) (ms:List Int),ms.length=n->(∀k,k∈ms ↔ S k=true)->(∀b o,s.heap.get? b=some o->h'.get? b=some o)->s.heap.objs.size < h'.objs.size->ItemsOf (fun i v=>∃t,v=.int (ms.getD i 0) t) Yp n->R Yp.toList { s with heap:=h',drawn:=d,toks:=tk }) :
 wpAny (model P w) A (collect (.ref a)) R E s:=by
 unfold collect;refine ZA (wpAny_runValue (ZBN entry_proto_collect' ?_));rw[ZBW PySem.F.plain_proto_collect _];show wpAny _ A.in1 (newList [] >>= fun l=>again (.builtin "list.__iadd__" ⟨[l,.ref a],[]⟩)) _ _ s;refine ZA (Zp (ZB ⟨ZBO PySem.F.plain_list_iadd _,ZBN entry_list_iadd' ?_⟩));rw[ZBW PySem.F.plain_list_iadd _];have g1:(s.heap.push { cls:=.type "list",data:=.seq ([]:List Value).toArray }).get? s.heap.objs.size=some { cls:=.type "list",data:=.seq #[] }:=ZM _ rfl;show wpAny _ A.in1 (Builtin.List.listExtendWith (.ref s.heap.objs.size) (.ref a) (.ref s.heap.objs.size)) _ _ _
 refine ZO (PQ (A:=A) (s:={ s with heap:=s.heap.push { cls:=.type "list",data:=.seq ([]:List Value).toArray } })
  (R:=fun(q:Result) (s':Shared)=>∃(h':Heap) (d:_) (tk:Nat) (Yp:Array Value) (c:Nat) (ms:List Int),q=.ok (.ret (.ref s.heap.objs.size))/\s' = { s with heap:=h',drawn:=d,toks:=tk } /\ ms.length=n/\(∀k,k∈ms ↔ S k=true) /\
    (∀b o,s.heap.get? b=some o->h'.get? b=some o)/\h'.get? s.heap.objs.size=some { cls:=.type "list",dict:=none,data:=.seq Yp c,slots:=#[] } /\ ItemsOf (fun i v=>∃t,v=.int (ms.getD i 0) t) Yp n)
  hh (hS.at fun o e=>ZH _ e) hn g1 (.ref s.heap.objs.size) fun h' d tk Yp c ms m1 m2 hk g2 hacc=>⟨h',d,tk,Yp,c,ms,rfl,rfl,m1,m2,fun b o e=>hk b o (ZK (ZG e)) (ZH _ e),g2,hacc⟩) (fun fn s' x=>?_) fun e s' x=>?_
 ·cases fn with
  | done f =>
   obtain⟨h',d,tk,Yp,c,ms,e,rfl,m1,m2,hk,g2,hacc⟩:=x;cases e;show wpAny _ A (load s.heap.objs.size >>= _) _ _ _;exact ZA (wpAny_load g2 (ZB (fin h' d tk Yp ms m1 m2 hk (ZG g2) hacc)))
  | again c₁ =>
   refine⟨x.1,Z4 x.2 fun q s₂ y=>?_⟩;obtain⟨h',d,tk,Yp,c,ms,rfl,rfl,m1,m2,hk,g2,hacc⟩:=y;show wpAny _ A (load s.heap.objs.size >>= _) _ _ _;exact ZA (wpAny_load g2 (ZB (fin h' d tk Yp ms m1 m2 hk (ZG g2) hacc)))
 ·obtain⟨_,_,_,_,_,_,e',_⟩:=x;cases e'
theorem Q1{Yp:Array Value}{ms:List Int}(h:ItemsOf (fun i v=>∃t,v=.int (ms.getD i 0) t) Yp ms.length):IntsAre Yp.toList ms:=by
 have e:Yp.toList.map numOf=ms:=by
  apply List.ext_getElem
  ·rw[ZC,Zd,h.1]
  ·intro i h1 h2;rw[List.getElem_map];have h3:i < Yp.size:=by rw[h.1];exact h2
   obtain⟨t,et⟩:=h.2 i Yp[i] (by simp[h3]);rw[Array.getElem_toList,et];show ms.getD i 0=_;rw[ZV,ZE h2];rfl
 have:=intsAre_map Yp.toList (fun v hv=>by
  obtain⟨i,hi,ei⟩:=ZBH hv;obtain⟨t,et⟩:=h.2 i v (by rw[<- ZBu,ZE hi,ei]);exact⟨_,t,et⟩)
 rw[e]at this;exact this
theorem Vm {S:Int->Bool} {n:Nat} {Q:Value->Shared->Prop} (hh:A.handled=none) (hS:SetW P w s.heap a S n) (h64:n < 64)
 (fin:∀(h':Heap) d tk (p:Addr) (ms:List Int) (out:Array Value) (e:Nat),ms.length=n->(∀k,k∈ms ↔ S k=true)->ms.Pairwise (· <= ·)->IntsAre out.toList ms->h'.get? p=some (seqObj "list" out e)->s.heap.objs.size<=p->(∀b o,s.heap.get? b=some o->h'.get? b=some o)->Q (.ref p) { s with heap:=h',drawn:=d,toks:=tk }) :
 wpAny (model P w) A (call (.builtin "sorted") [.ref a]) Q E s:=by
 have hz:n<=sizeLine:=Za (Zq h64) (by decide);refine call_function_entry kind_sorted plain_sorted entry_sorted (args_sorted1 _) ?_;unfold Builtin.«sorted»;refine ZA (m:=checkCount "sorted" 1 1 _) (ZB (ZA (RW (A:=A.in1) hh hS hz fun h' d tk Yp ms m1 m2 hk Ym hacc=>?_)));subst m1;have hI:=Q1 hacc;have hl:Yp.toList.length=ms.length:=by rw[Zd,hacc.1]
 refine ZA (wpAny_newList ?_ (by rw[hl];exact hz));have hoL:(h'.push (seqObj "list" Yp.toList.toArray 0)).get? h'.objs.size=some (seqObj "list" Yp.toList.toArray 0):=ZM _ rfl;refine ZA (Ze (Z6 slot_list_sort ⟨_,hoL,rfl⟩ entry_list_sort (list_sort_tree hoL hI (by lia) fun out ns' a1 a2 a3=>⟨_,rfl,?_⟩) (args_list_sort _)));obtain⟨e,he⟩:=sortedHeap_at (out:=out) hoL;refine ZB ⟨_,rfl,fin _ d tk h'.objs.size ns' out e (a2.length_eq) (fun k=>by rw[a2.mem_iff];exact m2 k) a3 a1 he (Zq Ym) fun b o q=>?_⟩;have hb:=hk b o q;have hlt2:=ZG hb;rw[sortedHeap_old (ZK hlt2) (by rw[Zu];exact Nat.lt_succ_of_lt hlt2)];exact ZH _ hb
end
end L2
namespace L2
open PySem PySem.Spec PyProof.Rows
noncomputable def CZ(P:Program)(w:World)(a:Addr)(ds:List Int):Heap->Prop:=fun h=>SetW P w h a (fun k=>ds.any (· == k)) ds.length
theorem N2{P:Program}{w:World}{H:Hp}{h:Heap}{a:Addr}{ds:List Int}(x:CZ P w a ds h):ObjOk P w H h a (.ext (CZ P w a ds)) :=
 ⟨x,(by obtain⟨o,_,_,_,e,_⟩:=x;exact⟨o,e⟩),fun h1 h2 y k=>SetW.at y k⟩
noncomputable def NP(K:W.Frag)(P:Program)(w:World):List V->Hp->VK->Prop:=fun xs H Q=>match xs with
 | [.ref p]=>∃ns:List Int,Yq K H p (ns.map V.int)/\ns.length<=1000/\∀(ds:List Int) q,ds.Nodup->(∀k,k∈ds ↔ k∈ns)->H q=none->Q (.ref q) (upd H q (.ext (CZ P w q ds)))
 | _=>False
noncomputable def KA(P:Program)(w:World):List V->Hp->VK->Prop:=fun xs H Q=>match xs with
 | [.ref p]=>∃ds:List Int,H p=some (.ext (CZ P w p ds))/\ds.length < 64/\∀(ms:List Int) q,ms.length=ds.length->(∀k,k∈ms ↔ k∈ds)->ms.Pairwise (· <= ·)->H q=none->Q (.ref q) (upd H q (.lst (ms.map V.int)))
 | _=>False
section
variable {X:Cx}{K:W.Frag}{P:Program}{w:World}
theorem Yf.drew{Ya:List (Addr × Obj)}{σ:List (Option V)}{H:Hp}{s:Shared}(I:Yf X Ya σ H s)(d:Drawn):Yf X Ya σ H { s with drawn:=d }:=⟨I.ok,I.os,I.bare,I.base,I.loc,I.cell,I.free,I.freeC,I.pin,I.hok,I.len⟩
theorem UO(hh:X.calm=true):CallR X (.type "set") (NP X.K X.prog X.w):=by
 intro Ya s σ H xs us Q I r h
 match xs,h with
 | [.ref p],h =>
 obtain⟨ns,hq,hn,q⟩:=h;obtain⟨u,rfl,rx⟩:=Bd r;cases rx;obtain⟨Ye,rv,pl,hz⟩:=I.tuple hq;have hi:IntsAre Ye ns:=by simpa using D8 rv
 have Yl:Ye.length=ns.length:=by rw[<- rv.length,ZC]
 refine Pq (ns:=ns) (I.ok.hd hh) pl (by simpa using hi) (by rw[ZJ,Yl];show ns.length+1 < 4096;lia) fun h' tk hs hk=>?_
 have hsz:Ye.toArray.size=ns.length:=by rw[ZJ,Yl]
 rw[hsz]at hs;exact⟨.ref s.heap.objs.size,_,I.laid (t':=tk) (o:=.ext (CZ X.prog X.w s.heap.objs.size (firstMet (fun i=>ns.getD i 0) ns.length))) (fun b o e=>hk b o (ZG e) e) (ZD _) (N2 hs),rfl,q _ _ (JG _ _) (Kb ns) (I.hok.fresh (ZD _))⟩
theorem VO(hh:X.calm=true)(hK:X.K=K:=by rfl)(hP:X.prog=P:=by rfl)(hw:X.w=w:=by rfl):CallR X (.type "set") (NP K P w):=by subst hK hP hw;exact UO hh
theorem QJ(hh:X.calm=true):CallR X (.builtin "sorted") (KA X.prog X.w):=by
 intro Ya s σ H xs us Q I r h
 match xs,h with
 | [.ref p],h =>
 obtain⟨ds,hq,hn,q⟩:=h;obtain⟨u,rfl,rx⟩:=Bd r;cases rx;obtain⟨hs,_⟩:=(show ObjOk X.prog X.w H s.heap p (.ext (CZ X.prog X.w p ds)) from I.hok p _ hq);refine Vm (I.ok.hd hh) hs hn fun h' d tk b ms out e m1 m2 m3 hi hb hp hk=>?_
 refine⟨.ref b,_,(I.laid (t':=tk) (o:=.lst (ms.map V.int)) (fun b o e=>hk b o e) hp ?_).drew d,rfl,q ms _ m1 (fun k=>(m2 k).trans (by simp)) m3 (I.hok.fresh hp)⟩;exact⟨by rw[ZC,m1];exact Za (Zq hn) (by decide),out.toList,e,QC hi,hb⟩
theorem Rj(hh:X.calm=true)(hP:X.prog=P:=by rfl)(hw:X.w=w:=by rfl):CallR X (.builtin "sorted") (KA P w):=by subst hP hw;exact QJ hh
noncomputable def Mj(C:Addr)(ta:TE)(f:Str):TE:=fun σ H Q=>ta σ H fun x H1=>match x with
 | .ref a=>∃dx fs v,H1 a=some (.ins C dx fs)/\fs.lookup f=some v/\Q v H1
 | _=>False
noncomputable def Ve(C:Addr)(ta tv:TE)(f:Str):TS:=fun D σ H=>tv σ H fun y H1=>ta σ H1 fun x H2=>match x with
 | .ref a=>∃dx fs,H2 a=some (.ins C dx fs)/\fs.length < 1000/\D.nx σ (upd H2 a (.ins C dx (Ac f y fs)))
 | _=>False
variable {C:Addr}{f:Str}{e o value:Expr}{ta tv td ty:TE}{pos pos':Pos}
theorem Ay(c:Cls K C)(n:NoAttr K C f)(he:PE X e ta)(hK:X.K=K:=by rfl)(hb:attributeBase e f X.env (eval e X.env)=eval e X.env:=by rfl):PE X (.Attribute e f pos) (Mj C ta f):=by
 subst hK;intro Ya s σ H Q I h;refine NM hb (Yn (he Ya s σ H _ I h) fun u s1 ⟨x,H1,I1,rx,q⟩=>?_)
 match x,q with
 | .ref a,⟨dx,fs,v,ea,l,q⟩ =>
 obtain rfl:u=Value.ref a:=rx;exact Vk I1 ea c n l fun u' s2 I2 ru=>⟨v,H1,I2,ru,q⟩
theorem C7(c:Cls K C)(n:NoAttr K C f)(ha:PE X o ta)(hv:PE X value tv)(hK:X.K=K:=by rfl)(hs:swapsWith value (some (.Attribute o f pos')) pos.line X.env=pure false:=by rfl):PS X (.Assign [.Attribute o f pos'] value pos) (Ve C ta tv f):=by
 subst hK;intro Ya s σ H D I h;refine plainObj_wpAny_Assign_Attribute (Yn (hv Ya s σ H _ I h) fun u s1 ⟨y,H1,I1,ry,q⟩=>Yn (ha Ya s1 σ H1 _ I1 q) fun ov s2 ⟨x,H2,I2,rx,q2⟩=>?_) hs
 match x,q2 with
 | .ref a,⟨dx,fs,ea,l,q2⟩ =>
 obtain rfl:ov=Value.ref a:=rx;exact Nu I2 ea c n l ry fun s3 I3=>⟨σ,_,I3,q2⟩
theorem Uk(h:Aj ta):Aj (Mj C ta f):=fun σ H Q Q' k q=>h _ _ _ _ (fun v H1 q=>by
 cases v <;> first | exact q.elim | (obtain⟨dx,fs,v,a,b,q⟩:=q;exact⟨dx,fs,v,a,b,k _ _ q⟩)) q
theorem T3{m:Str}{sp:Sp}{dvs:List V}{E:XK}{t:TA}(hs:AZ sp)(h1:Aj ta)(h2:Br t):Aj (JX C m sp dvs E ta t):=fun σ H Q Q' h q =>
 h1 _ _ _ _ (fun v H1 ⟨a,dx,fs,e1,e2,e3,q⟩=>⟨a,dx,fs,e1,e2,e3,h2 _ _ _ _ (fun _ _ q=>hs _ _ _ _ _ h q) q⟩) q
theorem SO{sp:Sp}{dvs:List V}{E:XK}{t:TA}(hs:AZ sp)(h2:Br t):Aj (K7 C sp dvs E t):=fun σ H Q Q' h q =>
 h2 _ _ _ _ (fun vs H1 q x dx a b c=>hs _ _ _ _ _ (fun v H2 ⟨e,q⟩=>⟨e,h _ _ q⟩) (q x dx a b c)) q
noncomputable def IK(neg:Bool):R2:=fun y x H Q=>match x with
 | .ref a=>∃o,DGet H a y o/\Q (.bl (xor neg o.isSome)) H
 | _=>False
theorem MP(hu:X.A.units+60 < cLine):Ys X (compareOp .NotIn) (IK true):=by
 intro Ya s σ H y x v u Q I ry rx q
 match x,q with
 | .ref a,⟨o,g,q⟩ =>
 obtain rfl:u=Value.ref a:=rx;exact Ut (EM hu) I g ry fun s3 I3=>⟨.bl (!o.isSome),H,I3,rfl,(by cases o <;> exact q)⟩
theorem UK{b:Bool}:Bj (IK b):=fun x y H Q Q' h q=>by
 unfold IK at *;split at q
 ·obtain⟨o,a,q⟩:=q;exact⟨o,a,h _ _ q⟩
 ·exact q.elim
end
theorem N4:Aj MK:=fun σ H Q Q' h q p hp=>h _ _ (q p hp)
end L2
namespace L2
open PySem PySem.Spec PyProof.Rows PySem.W
section
variable {X:Cx}{Ya:List (Addr × Obj)}{σ:St}{H:Hp}{s:Shared}
theorem Yf.pin1(I:Yf X Ya σ H s){a:Addr}{o:Obj}(ha:s.heap.get? a=some o)(n:H a=none)(h1:a≠X.env.locals)(h2:a∉X.fs)(h3:∀v,o.data≠.cell v):Yf X ((a,o)::Ya) σ H s:=by
 refine⟨I.ok,I.os,I.bare,I.base,I.loc,I.cell,I.free,I.freeC,fun p hp=>?_,I.hok,I.len⟩
 rcases Zh.mp hp with z | z
 ·exact I.pin p (ZBR _ z)
 ·rcases ZI.mp z with rfl | z
  ·exact⟨ha,n,h1,h2,h3⟩
  ·exact I.pin p (ZX _ z)
theorem Yf.unpin1{q:Addr × Obj}(I:Yf X (q::Ya) σ H s):Yf X Ya σ H s:=by
 refine⟨I.ok,I.os,I.bare,I.base,I.loc,I.cell,I.free,I.freeC,fun p hp=>?_,I.hok,I.len⟩
 rcases Zh.mp hp with z | z
 ·exact I.pin p (ZBR _ z)
 ·exact I.pin p (ZX _ (ZW _ z))
noncomputable def HI(X:Cx)(H:Hp):Hp:=fun b=>if b∈frs X.stack then some (.tup []) else H b
noncomputable def Cf(X:Cx)(H:Hp)(s:Shared):Heap:=B8 s.heap (HI X H)
theorem Ee{b:Addr}{o:Obj}(e:s.heap.get? b=some o)(n:H b=none)(f:b∉frs X.stack):(Cf X H s).get? b=some o:=LQ e (by unfold HI;rw[if_neg f];exact n)
theorem GL{b:Addr}{o:Obj}(e:(Cf X H s).get? b=some o):s.heap.get? b=some o/\H b=none/\b∉frs X.stack:=by
 obtain⟨h1,h2⟩:=MN e;unfold HI at h2
 by_cases f:b∈frs X.stack
 ·rw[if_pos f]at h2;cases h2
 ·rw[if_neg f]at h2;exact⟨h1,h2,f⟩
theorem J6{h base base':Heap}:∀{l:List Env},h.FunFrames base l->(∀b∈frs l,base'.get? b=none)->h.FunFrames base' l
 | [],_,_=>trivial
 | env::l,⟨a,⟨L,o,e1,_,e3,e4⟩,r⟩,hb=>by
  refine⟨a,⟨L,o,e1,hb L ?_,e3,e4⟩,J6 r fun b hb'=>hb b ?_⟩
  ·rw[frs,ZBe,e1];exact Zg ..
  ·rw[frs,ZBe,e1];exact ZW _ hb'
theorem MG(I:Yf X Ya σ H s):∀b o,X.base.get? b=some o->(Cf X H s).get? b=some o:=fun b o e =>
 Ee (I.bs b o e).1 (I.bs b o e).2 fun z=>by
  have:=(I.stack.mem z).1
  rw[e]at this;cases this
theorem TM(I:Yf X Ya σ H s):Env0 X.prog X.w X.K X.mg (Cf X H s) X.A X.stack s H:=by
 have sub:=MG I;refine⟨I.ok.frames,⟨I.ok.mod.kin.keeps sub,I.ok.mod.glob.keeps sub,let ⟨mb,h1,h2⟩:=I.ok.mod.blt;⟨mb,h1.keeps sub,h2⟩,I.ok.mod.nolimit.keeps sub⟩,fun b o e=>⟨(GL e).1,(GL e).2.1⟩,ZBb (LK _ _),J6 I.stack fun b hb=>?_,I.stkFree,I.hok,I.bare⟩;cases e:(Cf X H s).get? b with
 | none=>rfl
 | some o=>exact absurd hb (GL e).2.2
end
noncomputable def EE(c':Addr)(qual:Str)(spB:V->Hp->VK->Prop):Sp:=fun vs H Q _=>match vs with
 | [v]=>H c'=some (CdO c' qual)/\spB v H Q
 | _=>False
end L2
namespace L2
open PySem PySem.Spec PyProof.Rows
variable {base:Heap}{x:Addr}{cls:Value}{od:Option Addr}{Q:Unit->Shared->Prop}{t:Option (Addr × Value)}
noncomputable def ExA(h:Heap)(x:Addr)(cls:Value)(od:Option Addr)(t:Option (Addr × Value)):Prop :=
 ∃oe vs,h.get? x=some oe/\oe.cls=cls/\oe.dict=od/\oe.data=.fields vs/\match t with
  | none=>vs[1]? = some .none
  | some (T,fl)=>vs[1]? = some (.ref T)/\T≠x/\∃oT ts,h.get? T=some oT/\oT.data=.fields ts/\ts[3]? = some fl
noncomputable def Sl(fs ch:List Addr)(h h':Heap):Prop:=∀b o,h.get? b=some o->b∉ch->(b∉fs->h'.get? b=some o)/\∃sl,h'.get? b=some { o with slots:=sl }
section
variable {M:Model}{A:Around}{E:Value->Shared->Prop}{s:Shared}
theorem Rf(h:Heap)(a:Addr)(f:Obj->Obj):(h.update a f).objs.size=h.objs.size:=by
 have:=(Zw h a f).1
 exact this
theorem Lv {env:Env} {outer:List Env} {L:Addr} {head:Value} {oe:Obj} {vs:Array Value} {hadNext:Bool} 
 (hfr:A.frames=some (env::outer)) (hl:s.heap.FunFrames base (env::outer)) (hf:env.frame=some L) (he:s.heap.get? x=some oe) (hc:oe.cls=cls) (ho:oe.dict=od) (hd:oe.data=.fields vs) (hsz:1 < vs.size)
 (k:∀h' T,ExA h' x cls od (some (T,rawInt L))->s.heap.get? T=none->Sl (frs (env::outer)) [x] s.heap h'->Q () { s with heap:=h' }) :
 wpAny M A (do let a <- frameOf env;let pl <- entryPlaceOf L hadNext;let b <- EntryCells.newEntry head a .none (rawInt L) .none pl;setField (.ref x) 1 b) Q E s:=by
 have hxf:x∉frs (env::outer):=fun hm=>by
  obtain⟨_,o,h1,h2⟩:=hl.mem hm;rw[he]at h1;cases h1;exact h2 vs hd
 refine ZA (wpAny_frameOf_fun hfr hl hf fun g1 sg=>ZA (wpAny_entryPlaceOf fun pl hpl=>?_));obtain⟨sz1,sm1,so1⟩:=sg;unfold EntryCells.newEntry newFields;refine ZA (Zp ?_ (hpl.sizeOk5 _ _ _ _ _));have e1:g1.get? x=some oe:=by rw[sm1 x hxf];exact he
 generalize hob:({ cls:=.type "traceback",dict:=none,data:=.fields ([head,.ref L,.none,rawInt L,.none]++(if pl.isEmpty then List.replicate 6 Value.none else pl)).toArray }:Obj)=ob;have e2:=ZH ob e1;refine ZBA e2 hd hsz ?_;have nT:g1.objs.size≠x:=ZBa (ZG e1);have obf:ob.isFreed=false:=by rw[<- hob];rfl
 have eT:=ZM g1 obf;have d3:=Obj.data_mapFields hd (·.setIfInBounds 1 (Value.ref g1.objs.size));refine k _ g1.objs.size ⟨_,_,ZBL _ e2 (Obj.isFreed_of_fields d3),(Obj.cls_mapFields ..).trans hc,?_,d3,by simp[hsz],nT,ob,_,?_,by rw[<- hob],?_⟩ (ZBQ (by rw[sz1];exact ZD _)) fun b o hb hn=>?_
 ·obtain⟨c,d,dt,sl⟩:=oe;cases dt <;> first | (cases hd;done) | exact ho
 ·rw[Z0 _ _ (Ne.symm nT)];exact eT
 ·first | (simp;done) | (rcases hpl with rfl | ⟨_,_,_,_,_,_,_,rfl⟩ <;> simp)
 ·have nb:b≠x:=fun z=>hn (by rw[z];exact ZF.mpr rfl)
  refine⟨fun nf=>?_,?_⟩
  ·rw[Z0 _ _ (Ne.symm nb)];exact ZH _ (by rw[sm1 b nf];exact hb)
  ·obtain⟨sl,e5⟩:=so1 b o hb;exact⟨sl,by rw[Z0 _ _ (Ne.symm nb)];exact ZH _ e5⟩
theorem Up {env:Env} {outer:List Env} {L:Addr} 
 (hfr:A.frames=some (env::outer)) (hl:s.heap.FunFrames base (env::outer)) (hf:env.frame=some L) (he:ExA s.heap x cls od t) (ht:t=none\/∃T,t=some (T,.none))
 (k:∀h' T,ExA h' x cls od (some (T,rawInt L))->s.heap.get? T=none->Sl (frs (env::outer)) (x::(t.map (·.1)).toList) s.heap h'->Q () { s with heap:=h' }):wpAny M A (noteFrame (.ref x) env) Q E s:=by
 obtain⟨oe,vs,e1,e2,e3,e4,e5⟩:=he;unfold noteFrame;simp only[hf]
 rcases ht with rfl | ⟨T0,rfl⟩
 ·refine ZA (Z5 e1 e4 e5 ?_);rw[if_neg (by decide)];exact Lv hfr hl hf e1 e2 e3 e4 (ZBt.mp e5).1 k
 ·obtain⟨e5,nT,oT,ts,g1,g2,g3⟩:=e5;refine ZA (Z5 e1 e4 e5 ?_);rw[if_pos (by simp)];refine ZA (Z5 g1 g2 g3 ?_);rw[if_neg (by simp[rawInt])];refine ZA (ZBA g1 g2 (ZBt.mp g3).1 ?_);have ot:∀b,b≠T0->(s.heap.update T0 (Obj.mapFields (·.setIfInBounds 3 Value.none))).get? b=s.heap.get? b:=fun b hb=>Z0 _ _ (Ne.symm hb)
  have nf:∀b o,s.heap.get? b=some o->(∀vs,o.data≠.fields vs)->b≠T0:=fun b o hb h z=>by
   rw[z,g1]at hb;cases hb;exact h ts g2
  refine Lv hfr (hl.of_keeps fun b o hb h=>⟨o,by rw[ot b (nf b o hb h)];exact hb,rfl⟩) hf (by rw[ot x (Ne.symm nT)];exact e1) e2 e3 e4 (ZBt.mp e5).1 fun h' T a1 a2 a3=>k h' T a1 ?_ fun b o hb hn=>?_
  ·cases q:s.heap.get? T with
   | none=>rfl
   | some o =>
    by_cases z:T=T0
    ·have hf3:=Obj.data_mapFields g2 (·.setIfInBounds 3 Value.none)
     have:=ZBL (Obj.mapFields (·.setIfInBounds 3 Value.none)) g1 (Obj.isFreed_of_fields hf3)
     rw[z]at a2;rw[this]at a2;cases a2
    ·rw[ot T z,q]at a2;cases a2
  ·have n1:b≠x:=fun z=>hn (by rw[z];exact Zg)
   have n2:b≠T0:=fun z=>hn (by rw[z];exact ZW _ (ZF.mpr rfl))
   exact a3 b o (by rw[ot b n2];exact hb) (fun z=>n1 (ZF.mp z))
theorem JW {T:Addr} {fl:Value} (he:ExA s.heap x cls od (some (T,fl)))
 (k:∀h',ExA h' x cls od (some (T,.none))->(∀b,b≠T->h'.get? b=s.heap.get? b)->h'.objs.size=s.heap.objs.size->Q () { s with heap:=h' }):wpAny M A (setFlight (.ref x) none) Q E s:=by
 obtain⟨oe,vs,e1,e2,e3,e4,e5,nT,oT,ts,g1,g2,g3⟩:=he;have z3:3 < ts.size:=(ZBt.mp g3).1;unfold setFlight;refine ZA (Z5 e1 e4 e5 ?_);rw[if_pos (by simp)];refine ZBA g1 g2 z3 (k _ ⟨oe,vs,?_,e2,e3,e4,e5,nT,_,_,ZBL _ g1 (Obj.isFreed_of_fields (Obj.data_mapFields g2 _)),Obj.data_mapFields g2 _,by simp[z3]⟩ (fun b hb=>Z0 _ _ (Ne.symm hb)) (Rf ..));rw[Z0 _ _ nT];exact e1
theorem HS {env:Env} {outer:List Env} {L:Addr} 
 (hfr:A.frames=some (env::outer)) (hl:s.heap.FunFrames base (env::outer)) (hf:env.frame=some L) (he:ExA s.heap x cls od t) (ht:t=none\/∃T,t=some (T,.none))
 (k:∀h' T,ExA h' x cls od (some (T,.none))->s.heap.get? T=none->Sl (frs (env::outer)) (x::(t.map (·.1)).toList) s.heap h'->Q () { s with heap:=h' }) :
 wpAny M A (noteFrame (.ref x) env) (fun _ s1=>wpAny M A (setFlight (.ref x) none) Q E s1) E s :=
 Up hfr hl hf he ht fun h1 T a1 a2 a3=>JW (s:={ s with heap:=h1 }) a1 fun h2 b1 b2 b3=>k h2 T b1 a2 fun b o hb hn=>by
  obtain⟨c1,sl,c2⟩:=a3 b o hb hn;have nT:b≠T:=fun z=>by rw[z,a2]at hb;cases hb
  exact⟨fun nf=>(b2 b nT).trans (c1 nf),sl,(b2 b nT).trans c2⟩
theorem MS {env:Env} {outer:List Env} {L:Addr} 
 (hfr:A.frames=some (env::outer)) (hl:s.heap.FunFrames base (env::outer)) (hf:env.frame=some L) (he:ExA s.heap x cls od t) (ht:t=none\/∃T,t=some (T,.none))
 (k:∀h' T,ExA h' x cls od (some (T,.none))->s.heap.get? T=none->Sl (frs (env::outer)) (x::(t.map (·.1)).toList) s.heap h'->Q () { s with heap:=h' }):wpAny M A (leaving env (.ref x)) Q E s:=by
 unfold leaving;exact ZA (HS hfr hl hf he ht k)
end
noncomputable def CXE(P:Program)(w:World):CXT:=fun outer H s E e s'=>∃x cls od T H',e=.ref x/\s'.os=s.os/\AllBare s'.gens/\Un (frs outer) [] H H' s.heap s'.heap/\HOk P w H' s'.heap/\ExA s'.heap x cls od (some (T,.none))/\(s.heap.get? x=none/\s.heap.get? T=none)/\(H' x=none/\H' T=none)/\E cls od H'
theorem Fun.okE {P:Program} {w:World} {K:W.Frag} {mg:Str->Option Value} {x qual:Str} {st:Stmt} {f:Addr} {fd:FuncData} {N ps:List Str} {k:Nat} {sp:Sp} (F:Fun K x qual st f fd) (S:FnScope N ps (AL st)) (len:∀vs H Q E,sp vs H Q E->vs.length=ps.length)
 (hbody:∀(Yu:Value) (A:Around) (outer:List Env) (s:Shared) (H:Hp) (vs:List V) (Q:VK) (E:XK),Room k (A.deeper (envOfC qual (AL st) s.heap.objs.size f Yu))->sp vs H Q E ->
   ∃t,PSs (Bx (CXE P w) P w K mg base N qual (AL st) f Yu A outer s H E) (BE st) t/\t { nx:=fun _ H'=>Q .non H',rt:=Q } (CG N vs) H):FnOk P w K mg base (CXE P w) (k+1) f fd ps sp:=by
 obtain⟨oc,od,kV,doc,pm,an,Yu,ct,osl,rfl,lk,hcd⟩:=F.ex;exact IT lk hcd S len fun A outer s H vs Q E hr hsp=>hbody Yu A outer s H vs Q E hr hsp
section
variable {X:Cx}{Ya:List (Addr × Obj)}{σ:St}{H H':Hp}{s:Shared}{h':Heap}
theorem PS.nox{st:Stmt}{t:TS}(h:PS X.nox st t):PS X st t:=fun Ya s σ H D I hw =>
 ZO (h Ya s σ H D (I.wish _) hw) (fun _ _ q=>q.unwish) fun _ _ z=>False.elim z
theorem ObjOk.is{P:Program}{w:World}{h:Heap}{a:Addr}{o:HO}(x:ObjOk P w H h a o):∃u,h.get? a=some u:=by
 cases o with
 | lst xs=>obtain⟨_,_,_,_,e⟩:=x;exact⟨_,e⟩
 | tup xs=>obtain⟨_,_,_,o,e,_⟩:=x;exact⟨_,e⟩
 | dK Yg=>obtain⟨_,_,_,_,o,_,_,e,_⟩:=x;exact⟨_,e⟩
 | dT Yg=>obtain⟨_,_,_,_,o,_,_,e,_⟩:=x;exact⟨_,e⟩
 | set S n=>obtain⟨o,_,_,_,e,_⟩:=x;exact⟨_,e⟩
 | ins C dx fs=>obtain⟨_,_,_,e,_⟩:=x;exact⟨_,e⟩
 | own y=>exact x
 | xd fs=>obtain⟨_,⟨_,_,_,e,_⟩,_⟩:=x;exact⟨_,e⟩
 | rng lo hi=>obtain⟨_,_,_,e⟩:=x;exact⟨_,e⟩
 | frz ob u=>obtain⟨e,_⟩:=x;exact⟨_,e⟩
 | tbl ps=>exact⟨_,x⟩
 | met f y=>exact⟨_,x⟩
 | ext φ=>obtain⟨_,e,_⟩:=x;exact e
theorem Dp{P:Program}{w:World}{h:Heap}{a:Addr}(hok:HOk P w H h)(n:h.get? a=none):H a=none:=by
 cases e:H a with
 | none=>rfl
 | some o =>
  obtain⟨u,q⟩:=(hok a o e).is;rw[n]at q;cases q
end
noncomputable abbrev JL:List Value:=[.type "ValueError",.type "Exception",.type "BaseException",.type "object"]
noncomputable def HG(x:Addr)(cls:Value)(od:Option Addr)(h:Heap):Prop:=∃oe vs,h.get? x=some oe/\oe.cls=cls/\oe.dict=od/\oe.data=.fields vs
noncomputable abbrev BY(x:Addr)(cls:Value)(od:Option Addr):HO:=.ext (HG x cls od)
theorem U8{P:Program}{w:World}{H:Hp}{h:Heap}(e:HG x cls od h):ObjOk P w H h x (BY x cls od) :=
 ⟨e,let ⟨oe,_,q,_⟩:=e;⟨oe,q⟩,fun _ _ ⟨oe,vs,q,r⟩ k=>⟨oe,vs,k oe q,r⟩⟩
theorem ExA.has{h:Heap}(e:ExA h x cls od t):HG x cls od h:=let ⟨oe,vs,a,b,c,d,_⟩:=e;⟨oe,vs,a,b,c,d⟩
noncomputable def Cx.hand(X:Cx)(e:Value):Cx:={ X with A:=X.A.mark (some e),calm:=false,xe:=fun _ _=>False }
section
variable {X:Cx}{Ya:List (Addr × Obj)}{σ:St}{H H':Hp}{s s1:Shared}{h:Heap}
theorem Yf.hand(I:Yf X Ya σ H s)(e:Value):Yf (X.hand e) Ya σ H s :=
 ⟨⟨I.ok.mod,I.ok.kind,I.ok.glob,I.ok.blt,I.ok.above,I.ok.inj,I.ok.has,I.ok.cab,(fun z=>by cases z),I.ok.frames,I.ok.stk,I.ok.exf,I.ok.bs,I.ok.bsz,I.ok.noex,I.ok.exfs,I.ok.funs,I.ok.frf⟩,I.os,I.bare,I.base,I.loc,I.cell,I.free,I.freeC,I.pin,I.hok,I.len⟩
theorem Yf.unhand{e:Value}(J:Yf X Ya σ H s){pins':List (Addr × Obj)}{σ':St}{H1:Hp}{s2:Shared}(I:Yf (X.hand e) pins' σ' H1 s2):Yf X pins' σ' H1 s2 :=
 ⟨J.ok,I.os,I.bare,I.base,I.loc,I.cell,I.free,I.freeC,I.pin,I.hok,I.len⟩
theorem Eo {T:Addr} (I:Yf X Ya σ H s) (ho:s1.os=s.os) (hb:AllBare s1.gens) (u:Un (frs X.stack) [] H H' s.heap s1.heap) (hk:HOk X.prog X.w H' s1.heap)
 (nx:s.heap.get? x=none) (nT:s.heap.get? T=none) (fx:H' x=none) (fT:H' T=none) (c:Sl (frs X.stack) [x,T] s1.heap h) (ex:ExA h x cls od t):Yf X Ya σ (upd H' x (BY x cls od)) { s1 with heap:=h }:=by
 have I1:Yf X Ya σ H' s1:=I.call' ho u hk hb (ch:=[]) fun b z=>absurd z (by simp)
 have hxH:H x=none:=Dp I.hok nx;have up:∀b,b≠x->upd H' x (BY x cls od) b=H' b:=fun b n=>AH n
 have nin:∀b o,s.heap.get? b=some o->b∉[x,T]:=fun b o e z=>by
  rcases ZI.mp z with rfl | z
  ·rw[nx]at e;cases e
  ·rw[ZF.mp z,nT]at e;cases e
 refine I.call' (s':={ s1 with heap:=h }) (ch:=[]) ho ⟨fun b o e n nb hx=>?_,fun b o e n nb hx=>?_,fun b o e n hx=>?_,fun b o e hx=>?_,fun b xs e=>?_,fun b o v e=>?_,fun b ps e=>?_⟩ (fun b ob e=>?_) hb fun b z=>absurd z (by simp)
 ·exact(c b o (u.keep b o e n nb hx) (nin b o e)).1 nb
 ·obtain⟨sl,e1⟩:=u.slot b o e n nb hx;obtain⟨sl2,e2⟩:=(c b _ e1 (nin b o e)).2;exact⟨sl2,e2⟩
 ·rw[up b fun z=>by rw[z,nx]at e;cases e];exact u.free b o e n hx
 ·obtain⟨o1,e1⟩:=u.there b o e hx;obtain⟨sl2,e2⟩:=(c b _ e1 (nin b o e)).2;exact⟨_,e2⟩
 ·rw[up b fun z=>by rw[z,hxH]at e;cases e];exact u.tups b xs e
 ·rw[up b fun z=>by rw[z,hxH]at e;cases e];exact u.frzs b o v e
 ·rw[up b fun z=>by rw[z,hxH]at e;cases e];exact u.tbls b ps e
 ·by_cases z:b=x
  ·subst z;rw[AC]at e;cases e;exact U8 ex.has
  ·rw[up b z]at e;have neq:∀c2 o2,H' c2=some o2->c2≠x:=fun c2 o2 q z=>by rw[z,fx]at q;cases q
   refine(hk b ob e).stay (fun c2 v hc q=>?_) (fun c2 q=>by rw[up c2 (neq _ _ q)];exact q) fun c2 xs q=>by rw[up c2 (neq _ _ q)];exact q
   obtain⟨o2,q2⟩:∃o2,H' c2=some o2:=by
    rcases hc with rfl | hc
    ·exact⟨_,e⟩
    ·exact⟨_,hc⟩
   refine(c c2 v q fun m=>?_).1 fun m=>?_
   ·rcases ZI.mp m with z2 | z2
    ·exact neq _ _ q2 z2
    ·rw[ZF.mp z2,fT]at q2;cases q2
   ·rw[I1.stkFree c2 m]at q2;cases q2
theorem Cp {M:Model} {A:Around} {E:Value->Shared->Prop} {i:Nat} {x:Str} {pos:Pos} (I:Yf X Ya σ H s) (hN:X.N.Nodup) (hi:X.N[i]? = some x) (hk:X.env.kindOf x=some .local)
 (h:∀s',Yf X Ya (σ.set i none) H s'->Q () s'):wpAny M A (do bindName X.env x .none;unbindBehindTheSuite X.env x pos) Q E s:=by
 obtain⟨m,hn,hl⟩:=id I.loc;have hcls:(X.env.scope.kind == .class || (X.env.scope.kind == .module && X.env.locals != X.env.globals))=false:=by rw[I.ok.kind];rfl
 have hiσ:i < σ.length:=by rw[I.len];exact(Zr.mp hi).1
 have cne:=I.cne;refine wpAny_nameGoes_keeps hk hn hcls fun h' v hn' hs=>?_
 obtain⟨oL,_,_,hoL,_⟩:=id hn;refine h _ ⟨I.ok,I.os,I.bare,⟨fun b o e n hb hx=>?_,fun b o e n hb hx=>?_,I.base.free,fun b o e hx=>?_,I.base.tups,I.base.frzs,I.base.tbls⟩,⟨_,hn',fun j y v' e1 e2 e3=>?_⟩,fun y c e=>?_,I.free,I.freeC,fun p hp=>?_,fun b ob e=>?_,by simpa using I.len⟩
 ·exact(hs.2 b (ZK (ZS (ZG e) I.ok.above))).trans (I.base.keep b o e n hb hx)
 ·obtain⟨sl,e1⟩:=I.base.slot b o e n hb hx;exact⟨sl,(hs.2 b (ZK (ZS (ZG e) I.ok.above))).trans e1⟩
 ·obtain⟨o',e1⟩:=I.base.there b o e hx;exact⟨o',(hs.2 b (ZK (ZS (ZG e) I.ok.above))).trans e1⟩
 ·by_cases hj:j=i
  ·subst hj;rw[List.getElem?_set_self hiσ]at e2;cases e2
  ·rw[ZBw (Ne.symm hj)]at e2;obtain⟨u',r',q⟩:=hl j y v' e1 e2 e3;refine⟨u',r',?_⟩
   rcases q with ⟨k,e⟩ | ⟨k,c,e,z⟩
   ·refine .inl ⟨k,?_⟩
    have:y≠x:=fun e=>hj (GG hN e1 (e ▸ hi))
    simp[this,e]
   ·exact .inr ⟨k,c,e,z.sameBut hs (cne y c e)⟩
 ·obtain⟨w',z⟩:=I.cell y c e;exact⟨w',z.sameBut hs (cne y c e)⟩
 ·obtain⟨e,n,ne,nf,d⟩:=I.pin p hp;exact⟨(hs.2 p.1 ne).trans e,n,ne,nf,d⟩
 ·refine(I.hok b ob e).stay (fun c w' hc q=>(hs.2 c ?_).trans q) (fun _ q=>q) fun _ _ q=>q
  rintro rfl
  rcases hc with rfl | hc
  ·rw[I.free]at e;cases e
  ·rw[I.free]at hc;cases hc
end
noncomputable abbrev TX:=St->Hp->VK->XK->Prop
noncomputable def PX(X:Cx)(e:Expr)(t:TX):Prop :=
 ∀(Ya:List (Addr × Obj)) (s:Shared) (σ:St) (H:Hp) (Q:VK) (E:XK),Yf X Ya σ H s->t σ H Q E->wpAny (model X.prog X.w) X.A (eval e X.env) (EP X Ya σ Q) (fun ev s'=>∃H1 s1,Yf X Ya σ H1 s1/\CXE X.prog X.w X.stack H1 s1 E ev s') s
noncomputable def Ends.off(D:Ends)(j:Nat):Ends:={ nx:=fun σ H=>D.nx (σ.set j none) H,rt:=D.rt,bk:=fun σ H=>D.bk (σ.set j none) H,ct:=fun σ H=>D.ct (σ.set j none) H }
noncomputable def Rq(K:W.Frag)(C:Addr)(i j:Nat)(tx:TX)(ts:TS):TS:=fun D σ H =>
 tx σ H (fun v H1=>D.nx (σ.set i (some v)) H1) fun cls od H1=>PySem.W.exmOne K cls (.ref C)=some true/\∀x,H1 x=none->ts (D.off j) (σ.set j (some (.ref x))) (upd H1 x (BY x cls od))
section
variable {X:Cx}{k:Nat}{f C:Addr}{fd:FuncData}{ps:List Str}{sp:Sp}{dvs:List V}{ds:List Value}{x c y n:Str}{p p1 p2 p3 pos:Pos}{e:Expr}{es:List Expr}{t:TA}{tx:TX}{ts:TS}{i j:Nat}{b:Stmt}{bs:List Stmt}
theorem Qw (hN:X.N.Nodup) (hi:X.N[i]? = some x) (hx:Loc X.env.scope x) (hj:X.N[j]? = some n) (hn:X.env.kindOf n=some .local) (hstk:X.stack=X.env::X.outer) (hfr:X.env.frame=some X.env.locals) (hg:Gl X c) (hm:X.mg c=some (.ref C))
 (he:PX X e tx) (hs:∀a,PSs (X.hand (.ref a)) (b::bs) ts) (hsw:swapsWith e (some (.Name x p1)) p2.line X.env=pure false:=by rfl) (hf:X.fn x=true\/X.env.scope.names.lookup x=some .local:=by first | exact .inl rfl | exact .inr rfl | assumption)
 (hdb:(c == ("__debug__" : Str))=false:=by decide):PS X (.Try [.Assign [.Name x p1] e p2] [.ExceptHandler (some (.Name c p3)) (some n) (b::bs) p] [] [] pos) (Rq X.K C i j tx ts):=by
 intro Ya s σ H D I h;refine wpAny_Try_except (wpAny_execs_cons (wpAny_Assign_Name (ZO (he Ya s σ H _ _ I h) (fun v s1 ⟨y,H1,I1,r1,q1⟩=>?_) fun ev s' ⟨H1,s1,I1,q⟩=>?_) hsw))
 ·exact D6 I1 hN hi hx r1 (fun s2 I2=>wpAny_execs_nil (wpAny_execs_nil ⟨_,H1,I2,q1⟩)) hf
 obtain⟨a,cls,od,T,H2,rfl,ho,hb,u,hk,ex,⟨n1,n2⟩,⟨f1,f2⟩,hex,ht⟩:=q;have J:Yf X Ya σ H2 s':=I1.call' ho u hk hb (ch:=[]) fun b z=>absurd z (by simp)
 refine HS (base:=X.base) (outer:=X.outer) (L:=X.env.locals) (by rw[J.ok.frames,hstk]) (by have:=J.stack;rwa [hstk]at this) hfr ex (.inr ⟨T,rfl⟩) fun h2 T2 a1 a2 a3=>?_
 rw[<- hstk]at a3;have I2:=Eo (h:=h2) I1 ho hb u hk n1 n2 f1 f2 a3 a1;refine wpAny_handleBy_cons (codeAny_handlers_test (Cw (I2.hand (.ref a)) hg hm ?_ hdb)) (by intro q;cases q);have hob:=a1;obtain⟨oe,vs,o1,o2,_⟩:=hob;subst o2;have LT:PySem.W.Looks (model X.prog X.w) h2 (typeOf (.ref a)) oe.cls:=(PySem.W.Looks.ld o1).andThen .now;refine(PySem.W.exm_one I2.kIn LT hex).here ?_;refine codeAny_handlers_suite_as (JW (s:={ s' with heap:=h2 }) a1 fun h3 b1 b2 b3=>?_)
 have I3:=Eo (h:=h3) I1 ho hb u hk n1 n2 f1 f2 (fun b o eb nb=>by
  have nT2:b≠T2:=fun z=>by rw[z,a2]at eb;cases eb
  obtain⟨c1,sl,c2⟩:=a3 b o eb nb;exact⟨fun nf=>(b2 b nT2).trans (c1 nf),sl,(b2 b nT2).trans c2⟩) b1
 refine D6 (X:=X.hand (.ref a)) (I3.hand (.ref a)) hN hj (.inl hn) (v:=.ref a) rfl (fun s4 I4=>?_) (.inr hn);refine ZO (hs a Ya s4 _ _ _ I4 (ht a f1)) (fun fl s5 q=>?_) fun _ _ z=>False.elim z
 cases fl with
 | next=>obtain⟨σ5,H5,I5,q⟩:=q;exact Cp (J.unhand I5) hN hj hn fun s6 I6=>⟨_,_,I6,q⟩
 | brk=>obtain⟨σ5,H5,I5,q⟩:=q;exact Cp (J.unhand I5) hN hj hn fun s6 I6=>⟨_,_,I6,q⟩
 | cont=>obtain⟨σ5,H5,I5,q⟩:=q;exact Cp (J.unhand I5) hN hj hn fun s6 I6=>⟨_,_,I6,q⟩
 | ret w=>obtain⟨v5,σ5,H5,I5,r5,q⟩:=q;exact Cp (J.unhand I5) hN hj hn fun s6 I6=>⟨v5,_,_,I6,r5,q⟩
end
structure ExcC(K:W.Frag)(C:Addr):Prop where
 ga:PySem.W.findIn K (.ref C) "__getattribute__" = some (some (.builtin "BaseException.__getattribute__"))
 nga:PySem.W.findIn K (.ref C) "__getattr__" = some none
 mro:PySem.W.mroIn K C (.type "BaseException")=some true
 obj:PySem.W.mroIn K C (.type "object")=some true
 cl:PySem.W.findIn K (.ref C) "__class__" = some (some (.builtin "object.__class__"))
 ge:PySem.W.specialIn K (.builtin "object.__class__") "__get__" = some (some (.builtin "getset_descriptor.__get__"))
 tk:PySem.W.takesIn K (.builtin "object.__class__")=some true
section
variable {prog:Program}{w:World}{A:Around}{E:Value->Shared->Prop}{h:Heap}{g:Array GenState}{d:Drawn}{t:Nat}{os:OsState}{K:W.Frag}{x C:Addr}{ox:Obj}{od:Option Obj}{name:Str}
theorem SW{M:Model}{nameV:Value}(X:K.In h)(I:PySem.W.InstAt h x ox C od)(Z:ExcC K C)(hq:Q () ⟨h,g,d,t,os⟩):wpAny M A (checkBuiltinCall "BaseException.__getattribute__" ⟨[.ref x,nameV],[]⟩) Q E ⟨h,g,d,t,os⟩:=by
 have hk:builtinKind "BaseException.__getattribute__" = some .slot:=by decide +kernel
 have hsplit:splitId "BaseException.__getattribute__" = some ("BaseException","__getattribute__"):=by decide +kernel
 have ha:=F.args_bexc_ga (.ref x) nameV;have L:PySem.W.Looks M h (isInstance (.ref x) (.type "BaseException")) true:=(I.type (M:=M)).andThen (PySem.W.looks_mroIn X Z.mro);simp only[checkBuiltinCall,hk,hsplit];refine ZA (L.at ?_)
 repeat (first | assumption | wp_step)
theorem MO {tk:Tok} {fill expr:Bool} {Q:Value->Shared->Prop} (X:K.In h) (I:PySem.W.InstAt h x ox C od) (Z:ExcC K C)
 (hq:∀A':Around,wpAny (model prog w) A' (Builtin.«object.__getattribute__» ⟨[.ref x,.str name tk],[]⟩) (fun fin s'=>∃v,fin=.done (.ret v)/\PySem.W.handedIn v=true/\Q v s') (fun _ _=>False) ⟨h,g,d,t,os⟩) :
 wpAny (model prog w) A (getAttrBy (.ref x) (.str name tk) fill expr) Q E ⟨h,g,d,t,os⟩:=by
 have hx:=I.at_;have hc:=I.cls;have f3:=F.excAttr_ValueError.ga.bind (.ref x);have hx0:(expr && onTheHeap (Value.builtin "BaseException.__getattribute__"))=false:=by cases expr <;> rfl
 have hx2:(Value.builtin "BaseException.__getattribute__" == Value.builtin "object.__getattribute__")=false:=by decide +kernel
 have hx1:(onTheHeap (Value.ref C) && Value.builtin "BaseException.__getattribute__" == Value.builtin "object.__getattribute__")=false:=by rw[hx2];rfl
 have L1:=PySem.W.looks_findIn (M:=model prog w) X Z.ga;have L2:=PySem.W.looks_findIn (M:=model prog w) X Z.nga
 repeat (any_goals (first | assumption | (with_reducible refine wpAny_loadPart_at hx ?_;rw[hc]) | with_reducible refine L1.at ?_ | with_reducible refine L2.at ?_ | wp_step))
 refine codeAny_call_builtin F.excAttr_ValueError.ga.plain F.entry_bexc_ga (SW X I Z (ZO (hq _) (fun fin s' z=>?_) fun _ _ z=>False.elim z));obtain⟨v,rfl,hv,z⟩:=z
 repeat (any_goals (first | assumption | wp_step))
 show wpAny _ _ (handedOut v) _ _ _;rw[PySem.W.handedOut_of hv];exact ZB z
theorem RH{v:Value}{tk:Tok}{fill expr:Bool}{Q:Value->Shared->Prop}(X:K.In h)(I:PySem.W.InstAt h x ox C od)(Z:ExcC K C)(hf:PySem.W.findObj K C od name=some (.value v))(hv:PySem.W.handedIn v=true)(hq:Q v ⟨h,g,d,t,os⟩) :
 wpAny (model prog w) A (getAttrBy (.ref x) (.str name tk) fill expr) Q E ⟨h,g,d,t,os⟩:=by
 refine MO X I Z fun A'=>?_
 have L0:=I.type (M:=model prog w);have L3:=PySem.W.looks_find (M:=model prog w) X I hf;refine ZA (ZB (ZA (ZB (ZA (L0.at (ZA (L3.at ?_)))))));exact ZB ⟨v,rfl,hv,hq⟩
theorem Sk{tk:Tok}{fill expr:Bool}{Q:Value->Shared->Prop}(X:K.In h)(I:PySem.W.InstAt h x ox C od)(Z:ExcC K C)(hq:Q (.ref C) ⟨h,g,d,t,os⟩) :
 wpAny (model prog w) A (getAttrBy (.ref x) (.str "__class__" tk) fill expr) Q E ⟨h,g,d,t,os⟩:=by
 refine MO X I Z fun A'=>?_
 have hf:PySem.W.findObj K C od "__class__" = some (.bind (.builtin "getset_descriptor.__get__") (.builtin "object.__class__")):=by
  have:=Z.obj
  unfold PySem.W.mroIn at this;obtain⟨cd,a,b⟩:=Option.bind_eq_some_iff.mp this;unfold PySem.W.findObj;rw[a,Z.cl];simp only[Option.bind_some,Z.ge,Z.tk]
 have L0:=I.type (M:=model prog w);have L3:=PySem.W.looks_find (M:=model prog w) X I hf;refine ZA (ZB (ZA (ZB (ZA (L0.at (ZA (L3.at ?_)))))));unfold Builtin.ObjectAttr.bindTo
 repeat (any_goals (first | assumption | wp_step))
 exact PySem.W.class_get (s:=⟨h,g,d,t,os⟩) X I Z.obj (ZB ⟨_,rfl,rfl,hq⟩)
theorem Nw{Q:Option Value->Shared->Prop}{s:Shared}(X:K.In s.heap)(I:PySem.W.InstAt s.heap x ox C od)(Z:ExcC K C)(hq:Q (some (.ref C)) { s with toks:=s.toks+1 }):wpAny (model prog w) A (getAttr? (.ref x) "__class__") Q E s:=by
 obtain⟨h,g,d,t,os⟩:=s;unfold getAttr? getAttrBy?;refine ZA (wpAny_mkText (ZA (wpAny_attempt (Sk X I Z ?_))));exact ZB hq
theorem Jb(Z:ExcC K C):PySem.W.KitX K (.ref x) (.ref C) (fun h=>∃ox od,PySem.W.InstAt h x ox C od) where
 ty:=fun _ _ _ ⟨_,_,I⟩=>I.type
 it:=fun _ _ X _=>by
  have:=Z.obj
  unfold PySem.W.mroIn at this;obtain⟨cd,hcD,_⟩:=Option.bind_eq_some_iff.mp this;unfold PySem.W.clsIn at hcD;split at hcD
  ·rename_i c' d' cd' sl' ho;intro A' Q' E' s' k q;unfold isType loadHead;exact ZA (wpAny_loadPart (k _ _ (X _ _ ho)) (ZB q))
  ·cases hcD
 ne:=fun h tp dd Ye n sl X htp=>by
  have:=Z.obj
  unfold PySem.W.mroIn at this;obtain⟨cd,hcD,_⟩:=Option.bind_eq_some_iff.mp this;refine Bool.eq_false_iff.mpr fun q=>?_
  have e:C=tp:=Value.ref.inj (beq_iff_eq.mp q);subst e;unfold PySem.W.clsIn at hcD;split at hcD
  ·rename_i c' d' cd' sl' ho;have z:=(X _ _ ho).symm.trans htp;cases z
  ·cases hcD
 ca:=fun X ⟨_,_,I⟩ k=>Nw X I Z k
end
noncomputable def ExcAt(H:Hp)(x C:Addr)(od:Option Addr):Prop:=H x=some (BY x (.ref C) od)/\∀d,od=some d->∃o,H d=some o
noncomputable def IsC(K:W.Frag)(H:Hp)(t:Value)(b:Bool):V->Prop
 | .ty T=>PySem.W.kitOne K t (.type T)=some b
 | .ref p=>PySem.W.kitOne K t (.ref p)=some b\/∃rs:List Addr,H p=some (.tup (rs.map V.ref))/\PySem.W.kitAny K t (rs.map Value.ref)=some b
 | _=>False
noncomputable def Mf(K:W.Frag):List V->Hp->VK->Prop:=fun xs H Q=>match xs with
 | [.ref x,c]=>∃C od b,ExcAt H x C od/\ExcC K C/\IsC K H (.ref C) b c/\Q (.bl b) H
 | _=>False
theorem MR:∀{rs:List Addr} {Ye:List Value},Yi (rs.map V.ref) Ye->Ye=rs.map Value.ref
 | [],_,.nil=>rfl
 | _::_,_,.cons r t=>by rw[MR t,(show _=Value.ref _ from r)];rfl
section
variable {X:Cx}{K:W.Frag}{Ya:List (Addr × Obj)}{σ:St}{H:Hp}{s:Shared}
theorem ExcAt.inst{C:Addr}(e:ExcAt H x C od)(I:Yf X Ya σ H s):∃ox odo,PySem.W.InstAt s.heap x ox C odo:=by
 obtain⟨⟨oe,vs,e1,e2,e3,e4⟩,_⟩:=(show ObjOk X.prog X.w H s.heap x (BY x (.ref C) od) from I.hok x _ e.1);have hn:PySem.W.notCls oe=true:=by unfold PySem.W.notCls;rw[e4]
 cases od with
 | none=>exact⟨oe,none,e1,e2,hn,by rw[e3];trivial⟩
 | some dx =>
  obtain⟨fs,hd⟩:=e.2 dx rfl;obtain⟨u,q⟩:=(I.hok dx _ hd).is;exact⟨oe,some u,e1,e2,hn,by rw[e3];exact q⟩
theorem Oc:CallR X (.builtin "isinstance") (Mf X.K):=by
 intro Ya s σ H xs us Q I r q
 match xs,q with
 | [.ref x,c],q =>
  obtain⟨C,od,b,h1,h2,h3,q⟩:=q;obtain⟨u,w',rfl,ru,rw'⟩:=Hg r;cases ru;have fin:∀tk,EP X Ya σ Q (.bool b) { s with toks:=tk }:=fun tk=>⟨.bl b,H,I.tok _,rfl,q⟩
  match c,h3,rw' with
  | .ty T,h3,rw'=>cases rw';exact PySem.W.kia_one (Jb h2) I.kIn (h1.inst I) h3 (fun z=>nomatch z) fin
  | .ref p,h3,rw' =>
   cases rw'
   rcases h3 with h3 | ⟨rs,hp,h3⟩
   ·exact PySem.W.kia_one (Jb h2) I.kIn (h1.inst I) h3 (fun z=>nomatch z) fin
   ·obtain⟨_,Ye,rv,o,g1,g2,⟨n,g3⟩,_⟩:=(show ObjOk X.prog X.w H s.heap p (.tup (rs.map V.ref)) from I.hok p _ hp);rw[MR rv]at g3;obtain⟨oc,od',da,sl⟩:=o;cases g2;cases g3;exact PySem.W.kia_tup (Jb h2) I.kIn (h1.inst I) g1 h3 (fun z=>nomatch z) fin
theorem DG(hK:X.K=K:=by rfl):CallR X (.builtin "isinstance") (Mf K):=hK ▸ Oc
end
noncomputable def DH(K:W.Frag)(C fI:Addr):Bool:=match K.lookup C with
 | some ⟨.type "type",_,.cls cd,sl⟩=>(match cd.mro,sl.toList with
  | .ref C'::bm,[_,_,_,_,some (.builtin n),_]=>C' == C && n == "ValueError.__new__" && !cd.hasDel && cd.hasDict && PySem.W.tailIn K JL bm && PySem.W.nsOkIn K cd.ns && PySem.W.nsIn K cd.ns "__init__" == some (some (.ref fI))
  | _,_=>false)
 | _=>false
theorem Sy{K:W.Frag}{h:Heap}{N:Addr}{mg:Str->Option Value}{n:Str}{v:Value}(X:K.In h)(G:h.Ns N mg)(e:PySem.W.nsIn K N n=some (some v)):mg n=some v:=by
 obtain⟨o,es,ep,ho,hd,_,hf⟩:=G;unfold PySem.W.nsIn at e;split at e
 ·rename_i c d es' n' sl q;have z:=X _ _ q;rw[ho]at z;cases z;cases hd;split at e
  ·rename_i en he;cases e;rw[<- hf];unfold nsFind findBy;rw[<- Array.find?_toList,he];rfl
  ·split at e <;> cases e
 ·cases e
theorem Eh{K:W.Frag}{h:Heap}{C fI:Addr}(X:K.In h)(q:DH K C fI=true):∃(nm qn:Str) (N:Addr) (bs bm:List Value) (sn:List Str) (sub:List Value) (ab:Bool) (col:Option Bool) (dd:Option Addr) (k0 k1 k2 k3 k5:Option Value) (mN:Str->Option Value),
 h.get? C=some (excClassObj nm qn C N bs bm true sn sub ab col dd k0 k1 k2 k3 k5 "ValueError.__new__")/\h.Ns N mN/\mN "__init__" = some (.ref fI)/\OwnTail h JL bm/\∃cd,PySem.W.clsIn K C=some cd/\cd.mro=.ref C::bm/\cd.hasDict=true:=by
 unfold DH at q;split at q
 case h_2=>cases q
 rename_i od cl sls hlk;split at q
 case h_2=>cases q
 rename_i C2 rest a0 a1 a2 a3 nid a5 hmro hslots;simp only[ZY,beq_iff_eq,Bool.not_eq_true']at q;obtain⟨⟨⟨⟨⟨⟨z1,z2⟩,z3⟩,z7⟩,z4⟩,z5⟩,z6⟩:=q;subst z1;subst z2;have hcd:PySem.W.clsIn K C2=some cl:=by unfold PySem.W.clsIn;rw[hlk]
 cases cl with
 | mk nm bs mro ns qn hd sn sub ab col del =>
  have m1:mro=.ref C2::rest:=hmro;have m2:del=false:=z3;have m4:hd=true:=z7;subst m1;subst m2;subst m4
  have m3:sls = #[a0,a1,a2,a3,some (.builtin "ValueError.__new__"),a5]:=by
   cases sls with
   | mk l=>exact congrArg Array.mk hslots
  subst m3;have G:h.Ns ns (h.nsMap ns):=.of_isNs (PySem.W.isNs_of_in X z5);exact⟨nm,qn,ns,bs,rest,sn,sub,ab,col,od,a0,a1,a2,a3,a5,h.nsMap ns,X _ _ hlk,G,Sy X G z6,PySem.W.tail_of_in X z4,_,hcd,rfl,rfl⟩
section
variable {prog:Program} {w:World} {A:Around} {E:Value->Shared->Prop} {h:Heap} {g:Array GenState} {d:Drawn} {t:Nat} {os:OsState}
 {nm q:Str} {C N:Addr} {bs bm bmB:List Value} {hdct:Bool} {sn:List Str} {sub:List Value} {ab:Bool} {col:Option Bool} {dd:Option Addr} {k0 k1 k2 k3 k5:Option Value} {B Bn newId nid initId inN:String} {bmN:List Value}
theorem T9 (Fn:ExcBaseFacts Bn newId inN bmN) (hBn:bmB.contains (.type Bn)=true) (F:ExcBaseFacts B nid initId bmB) (T:OwnTail h bmB bm) {mN:Str->Option Value} {rest:List Value} {fI:Addr} {oI:Obj} {Q:Fin->Shared->Prop}
 (hC:h.get? C=some (excClassObj nm q C N bs bm hdct sn sub ab col dd k0 k1 k2 k3 k5 newId)) (hn:h.Ns N mN) (hi:mN "__init__" = some (.ref fI)) (hfI:h.get? fI=some oI) (hfc:oI.cls=.type "function") (hrest:rest.length<=sizeLine)
 (hq:∀h' e,Heap.MadeExcOf h h' e (.ref C) rest->wpAny (model prog w) A (call (.ref fI) (.ref e::rest)) (fun r s'=>r=.none/\Q (.done (.ret (.ref e))) s') E ⟨h',g,d,t,os⟩) :
 wpAny (model prog w) A (Builtin.«type.__call__» ⟨.ref C::rest,[]⟩) Q E ⟨h,g,d,t,os⟩:=by
 repeat (first | with_reducible refine wpAny_loadPart_at hC ?_ | with_reducible refine wpAny_madeBy_exc hC ?_ | wp_step)
 refine codeAny_call_builtin_code (Code.quiet_builtin _ Fn.quiet) (wpAny_check_new_subU Fn hBn T hC ?_);refine codeAny_exc_new_subU Fn hBn F T hC ?_ hrest;show wpAny _ _ _ _ _ _;generalize ho1:({ cls:=.type "tuple",data:=.seq rest.toArray }:Obj)=o1;generalize ho2:({ cls:=.ref C,data:=.fields #[.ref h.objs.size,.none,.none,.none,.bool false,.none] }:Obj)=o2;have up:∀b o,h.get? b=some o->((h.push o1).push o2).get? b=some o:=fun b o e=>ZH _ (ZH _ e)
 have g2:((h.push o1).push o2).get? (h.objs.size+1)=some o2:=by
  have:=ZM (h.push o1) (o:=o2) (by rw[<- ho2];rfl)
  rwa [Zu]at this
 have g1:((h.push o1).push o2).get? h.objs.size=some o1:=ZH _ (ZM h (by rw[<- ho1];rfl));have c2:o2.cls=.ref C:=by rw[<- ho2]
 have hC1:=up _ _ hC;have hn1:((h.push o1).push o2).Ns N mN:=let ⟨o,es,ep,e,r⟩:=hn;⟨o,es,ep,up _ _ e,r⟩;have hcC:(Value.ref C::bm).contains (.ref C)=true:=by simp
 have T1:=T.keeps (h':=(h.push o1).push o2) up;unfold isInstance
 repeat (first | (with_reducible refine wpAny_loadPart_at g2 ?_;rw[c2]) | (with_reducible refine wpAny_isSubtype_exc hC1 ?_;rw[hcC]) | wp_step)
 show wpAny _ _ (typeLookup (.ref C) _) _ _ _;refine wpAny_typeLookup_tail hC1 hn1 T1 F.mroIs F.init.lookup ?_;rw[hi];refine Ze (ZA ?_);unfold bindSpecial;refine ZA (wpAny_typeOf (T:="function") ⟨_,up _ _ hfI,hfc⟩ ?_);rw[if_pos (by decide)];refine ZB (ZA (ZO (hq _ (h.objs.size+1) ⟨up,ZBQ (ZBT _),h.objs.size,by rw[g2,ho2],ZBQ (ZD _),by rw[g1,ho1]⟩) (fun r s' hr=>?_) fun _ _ x=>x));obtain⟨rfl,hQ⟩:=hr
 wp_walk
 exact hQ
theorem N6 (Fn:ExcBaseFacts Bn newId inN bmN) (hBn:bmB.contains (.type Bn)=true) (F:ExcBaseFacts B nid initId bmB) (T:OwnTail h bmB bm) {mN:Str->Option Value} {rest:List Value} {fI:Addr} {oI:Obj} {Q:Value->Shared->Prop}
 (hC:h.get? C=some (excClassObj nm q C N bs bm hdct sn sub ab col dd k0 k1 k2 k3 k5 newId)) (hn:h.Ns N mN) (hi:mN "__init__" = some (.ref fI)) (hfI:h.get? fI=some oI) (hfc:oI.cls=.type "function") (hrest:rest.length<=sizeLine)
 (hq:∀h' e,Heap.MadeExcOf h h' e (.ref C) rest->wpAny (model prog w) (A.under (.builtin "type.__call__" ⟨.ref C::rest,[]⟩)) (call (.ref fI) (.ref e::rest)) (fun r s'=>r=.none/\Q (.ref e) s') E ⟨h',g,d,t,os⟩) :
 wpAny (model prog w) A (call (.ref C) rest) Q E ⟨h,g,d,t,os⟩:=by
 have f1:=tc_lookup;have f2:=tc_bind (.ref C);have hT:(⟨h,g,d,t,os⟩:Shared).TypeIs (.ref C) "type":=⟨_,hC,rfl⟩;refine wpAny_call (codeAny_of_tree ?_);show wpAny _ _ (callAny (.ref C) _) _ _ _
 repeat (any_goals (first | assumption | with_reducible refine wpAny_loadPart_at hC ?_ | wp_step))
 exact⟨rfl,codeAny_call_builtin_at (Code.quiet_builtin _ (by decide +kernel)) entry_typeCall (wpAny_check_type_call_sub hC (T9 Fn hBn F T hC hn hi hfI hfc hrest fun h' e hm=>hq h' e hm))⟩
theorem O4 {M:Model} {env:Env} {s:Shared} {x:Sem Value} {Q:Flow->Shared->Prop} (hbase:bm.contains (.type "BaseException")=true) (hh:A.handled=none)
 (hx:wpAny M A x (fun v s1=>∃e oe,v=.ref e/\s1.heap.get? C=some (excClassObj nm q C N bs bm hdct sn sub ab col dd k0 k1 k2 k3 k5 newId)/\s1.heap.get? e=some oe/\oe.cls=.ref C/\(∃vs,oe.data=.fields vs/\vs[1]? = some .none)/\E (.ref e) s1) E s) :
 wpAny M A (raiseStmt env (some x) none) Q E s:=by
 have hcB:(Value.ref C::bm).contains (.type "BaseException")=true:=by rw[List.contains_cons,hbase,Bool.or_true]
 unfold raiseStmt;refine ZA (ZO hx (fun v s1 h1=>?_) fun _ _ x=>x);obtain⟨e,oe,rfl,hC,he,hc,⟨vs,hv,h1⟩,hE⟩:=h1;obtain⟨hp,g,d,tk,os⟩:=s1;obtain⟨oc,od,oda,osl⟩:=oe;cases hc;cases hv
 repeat (first | with_reducible refine wpAny_loadPart_at he ?_ | with_reducible refine wpAny_loadPart_at hC ?_ | (with_reducible refine wpAny_isSubtype_exc hC ?_;rw[hcB]) | wp_step)
 rw[h1]
 repeat (first | with_reducible refine wpAny_loadPart_at he ?_ | wp_step)
 exact wpAny_raiseNew_none hh hE
end
section
variable {prog:Program}{w:World}{A:Around}{E:Value->Shared->Prop}{s:Shared}{env:Env}{K:W.Frag}{C fI:Addr}
theorem PU {x:Str} {np cpos pos:Pos} {args:List Expr} {Q:Flow->Shared->Prop} {h0:Heap} (X0:K.In h0) (q:DH K C fI=true) (hh:A.handled=none) (hplain:(backTo cpos (starEach args env)).any (·.1)=false)
 (hx:wpAny (model prog w) A (eval (.Name x np) env) (fun f s1=>f=.ref C/\wpAny (model prog w) A (evalArgs (.ref C) true (backTo cpos (starEach args env)) [])
   (fun a s2=>a.kw=[]/\a.pos.length<=sizeLine/\K.In s2.heap/\(∃oI,s2.heap.get? fI=some oI/\oI.cls=.type "function") /\
     ∀h' e,Heap.MadeExcOf s2.heap h' e (.ref C) a.pos->wpAny (model prog w) (A.under (.builtin "type.__call__" ⟨.ref C::a.pos,[]⟩)) (call (.ref fI) (.ref e::a.pos)) (fun r s3=>r=.none/\K.In s3.heap/\(∃oe vs,s3.heap.get? e=some oe/\oe.cls=.ref C/\oe.data=.fields vs/\vs[1]? = some .none)/\E (.ref e) s3) E { s2 with heap:=h' }) E s1) E s) :
 wpAny (model prog w) A (exec (.Raise (some (.Call (.Name x np) args [] cpos)) none pos) env) Q E s:=by
 obtain⟨nm,qn,N,bs,bm,sn,sub,ab,col,dd,k0,k1,k2,k3,k5,mN,hC0,hN0,hi0,TL0,cd,hcd,hmro,_⟩:=Eh X0 q
 have look:∀{h:Heap},K.In h->h.get? C=some (excClassObj nm qn C N bs bm true sn sub ab col dd k0 k1 k2 k3 k5 "ValueError.__new__"):=fun {h} X=>by
  obtain⟨nm',qn',N',bs',bm',sn',sub',ab',col',dd',k0',k1',k2',k3',k5',mN',hC',_,_,_,cd',hcd',hmro',_⟩:=Eh X q
  have e0:∃o,K.lookup C=some o:=by
   unfold DH at q;split at q
   ·rename_i hlk;exact⟨_,hlk⟩
   ·cases q
  obtain⟨o,e0⟩:=e0;have e1:=X0 _ _ e0;rw[hC0]at e1;rw[X _ _ e0,<- e1]
 rw[arm_exec_Raise];have hbase:bm.contains (.type "BaseException")=true:=TL0.hasType (by decide);refine ZA (ZBI (O4 (C:=C) (nm:=nm) (q:=qn) (N:=N) (bs:=bs) (bm:=bm) (hdct:=true) (sn:=sn) (sub:=sub) (ab:=ab) (col:=col) (dd:=dd) (k0:=k0) (k1:=k1) (k2:=k2) (k3:=k3) (k5:=k5) (newId:="ValueError.__new__") hbase hh (ZA (ZO (wpAny_Call_ofName (ZO hx (fun f s1 h1=>?_) fun _ _ x=>x)) (fun v s3 h3=>ZA (ZBI (ZB h3))) fun _ _ x=>x))));obtain⟨rfl,h1⟩:=h1;unfold callWith;refine ZA (Ze (ZO h1 (fun a s2 h2=>ZA (ZBI ?_)) fun _ _ x=>x));obtain⟨apos,akw⟩:=a;obtain⟨hkw,Yl,X2,⟨oI,hfI,hfc⟩,h2⟩:=h2;obtain rfl:akw=[]:=hkw;obtain⟨nm',qn',N',bs',bm',sn',sub',ab',col',dd',k0',k1',k2',k3',k5',mN',hC',hN',hi',TL',_⟩:=Eh X2 q;obtain⟨hp,g,d,tk,os⟩:=s2;simp only[hplain];refine ZA (wpAny_keeperOf_exc hC' ?_);refine ZA (N6 F.excBase_ValueError (by decide) F.excBase_ValueError TL' hC' hN' hi' hfI hfc Yl fun h' e hm=>?_);refine ZO (h2 h' e hm) (fun r s3 ⟨e1,X3,⟨oe,vs,g1,g2,g3,g4⟩,hE⟩=>⟨e1,ZA (Ze (wpAny_point (ZB ⟨e,oe,rfl,look X3,g1,g2,⟨vs,g3,g4⟩,hE⟩)))⟩) fun _ _ z=>z
end
end L2
namespace L2
open PySem PySem.Spec PyProof.Rows Builtin Builtin.ObjectAttr
theorem US{h:Heap}{l:List Value}(self:Value)(T:OwnTail h JL l):refuseLoop self "__setattr__" l=pure ():=by
 induction T with
 | base=>exact PySem.F.store_ValueError.passes self
 | own _ _ _ _ ih=>rw[refuseLoop_ref];exact ih
structure ExcI(K:W.Frag)(C fI:Addr):Prop where
 ob:DH K C fI=true
 xc:ExcC K C
 sa:PySem.W.findIn K (.ref C) "__setattr__" = some (some (.builtin "object.__setattr__"))
 fn:PySem.W.isFn K (.ref fI)=true
section
variable {prog:Program}{w:World}{A:Around}{E:Value->Shared->Prop}{s:Shared}{K:W.Frag}{x C fI:Addr}{name:Str}{v:Value}{mA:Str->Option Value}{ns:List Str}
theorem LW {Q:Unit->Shared->Prop} (X:K.In s.heap) (Z:ExcI K C fI) (n:NoAttr K C name) (I:s.heap.Inst x C mA) (hw:Within mA ns) (hsz:ns.length<=1000)
 (hq:∀h' tk',h'.Inst x C (fun y=>if y=name then some v else mA y) ->
   (∀b o,b≠x->(∀o0 dx,s.heap.get? x=some o0->o0.dict=some dx->b≠dx)->s.heap.get? b=some o->h'.get? b=some o) ->
   (∀o0,s.heap.get? x=some o0->∃o1,h'.get? x=some o1/\o1.cls=o0.cls/\o1.data=o0.data/\(∀dx,o0.dict=some dx->o1=o0)/\(o0.dict=none->o1.dict=some s.heap.objs.size))->Q () { s with heap:=h',toks:=tk' }) :
 wpAny (model prog w) A (setAttr (.ref x) name v) Q E s:=by
 obtain⟨o,hx,hc,hnc,hd⟩:=I;obtain⟨nm,qn,N,bs,bm,sn,sub,ab,col,dd,k0,k1,k2,k3,k5,mN,hC,hN,hi,TL,cd,hcd,hmro,hdict⟩:=Eh X Z.ob
 have J:∃od,PySem.W.InstAt s.heap x o C od:=by
  have hn:PySem.W.notCls o=true:=by
   unfold PySem.W.notCls;split
   ·rename_i c e;exact absurd e (hnc c)
   ·rfl
  rcases hd with ⟨h1,_⟩ | ⟨dx,h1,_,⟨od,es,ep,e,r⟩⟩
  ·exact⟨none,hx,hc,hn,by rw[h1];trivial⟩
  ·exact⟨some od,hx,hc,hn,by rw[h1];exact e⟩
 obtain⟨od,J⟩:=J;refine PySem.W.set_plain X J Z.sa ?_;have SF:=PySem.F.store_object;have sub:PySem.W.Looks (model prog w) s.heap (isInstance (.ref x) (.type "object")) true:=J.type.andThen (PySem.W.looks_mroIn X Z.xc.obj);refine codeAny_call_builtin SF.slot.plain SF.entry (@PySem.W.check_slot (model prog w) _ _ { s with toks:=s.toks+1 } "object.__setattr__" "object" "__setattr__" (.ref x) [.str name s.toks,v] [] _ SF.kind SF.split sub (SF.args (.ref x) (.str name s.toks) v) ?_);have hm:PySem.W.Looks (model prog w) s.heap (mroOf (.ref C)) cd.mro:=(PySem.W.looks_clsIn X hcd).andThen .now;rw[PySem.W.osa_eq,refuse_eq];refine ZA (ZA (J.type.here (s:={ s with toks:=s.toks+1 }) (ZA (hm.here (s:={ s with toks:=s.toks+1 }) ?_))));rw[hmro,refuseLoop_ref,US _ TL];refine ZB (ZA (J.type.here (s:={ s with toks:=s.toks+1 }) (ZA ((PySem.W.looks_findIn X n).here (s:={ s with toks:=s.toks+1 }) (ZA (PySem.W.Looks.here (s:={ s with toks:=s.toks+1 }) (r:=none) .now ?_))))));refine ZA (ZB (ZA (ZA (wpAny_loadPart hx ?_))));rw[hc];refine ZA (PySem.W.Looks.here (s:={ s with toks:=s.toks+1 }) (PySem.W.looks_clsIn X hcd) ?_);rw[hdict];rw[if_neg (by decide)];dsimp only
 rcases hd with ⟨hdn,hmA⟩ | ⟨dx,hdx,Yr,hns⟩
 ·rw[hdn];dsimp only;rw[if_neg (by simp[typeHasDict])];have hx1:(s.heap.push { cls:=.type "dict",data:=.dict #[] }).get? x=some o:=ZH _ hx;have hxs:x≠s.heap.objs.size:=ZK (ZG hx)
  have hgd:((s.heap.push { cls:=.type "dict",data:=.dict #[] }).update x fun o=>{ cls:=o.cls,dict:=some s.heap.objs.size,data:=o.data,slots:=o.slots }).get? s.heap.objs.size=some { cls:=.type "dict",data:=.dict #[] } :=
   (Heap.get?_update_ne _ _ _ _ hxs.symm).trans (Heap.get?_push_at rfl rfl)
  have hnd:((s.heap.push { cls:=.type "dict",data:=.dict #[] }).update x fun o=>{ cls:=o.cls,dict:=some s.heap.objs.size,data:=o.data,slots:=o.slots }).Ns s.heap.objs.size (fun _=>none) :=
   ⟨_,#[],_,hgd,rfl,fun e he=>absurd he (by simp),fun _=>rfl⟩
  split
  ·rename_i c hcd';exact absurd hcd' (hnc c)
  ·refine ZA (wpAny_alloc' ?_);refine ZA (wpAny_update' hx1 ?_);refine ZB ?_;show wpAny _ _ (storeInDict s.heap.objs.size (.str name s.toks) name v) _ _ _;unfold storeInDict newKeyGuard;refine ZA (ZB (ZA (wpAny_nsSet1 (Heap.Ns1.of_empty hnd) fun h' hn' hs=>?_)));obtain⟨oD,esD,epD,hoD,hdD,hcD⟩:=hn'.count (Within.cons name v Within.nil);refine ZA (wpAny_lookBehind hoD (by rw[hdD];exact pastItsLine_dict (Za hcD (by rw[Zk,List.length_nil,sizeLine_eq];lia))) ?_)
   have hx':h'.get? x=some { cls:=o.cls,dict:=some s.heap.objs.size,data:=o.data,slots:=o.slots }:=by
    refine(hs.2 x hxs).trans (ZBL _ hx1 ?_);have hfr:=(Heap.get?_some_iff.mp hx).2;obtain⟨oc,od,odt,osl⟩:=o;cases odt <;> first | rfl | exact hfr
   refine ZB (hq h' _ ⟨{ cls:=o.cls,dict:=some s.heap.objs.size,data:=o.data,slots:=o.slots },hx',hc,hnc,.inr ⟨s.heap.objs.size,rfl,hxs.symm,?_⟩⟩ (fun b ob hbx _ hb=>?_)
    (fun o0 h0=>by obtain rfl:o=o0:=ZQ (hx.symm.trans h0);exact⟨_,hx',rfl,rfl,(fun dx e=>by rw[hdn]at e;cases e),fun _=>rfl⟩))
   ·obtain⟨o',es,ep,e1,e2,e3,eu,e4⟩:=hn';exact⟨o',es,ep,e1,e2,e3,eu,fun y=>by rw[e4 y];by_cases hy:y=name <;> simp[hy,hmA]⟩
   ·exact(hs.2 b (ZK (ZG hb))).trans ((Heap.get?_update_ne _ _ _ _ hbx).trans (ZH _ hb))
 ·rw[hdx];refine ZB ?_;show wpAny _ _ (storeInDict dx (.str name s.toks) name v) _ _ _;unfold storeInDict newKeyGuard;refine ZA (ZB (ZA (wpAny_nsSet1 (s:={ s with toks:=s.toks+1 }) hns fun h' hn' hs=>?_)));obtain⟨oD,esD,epD,hoD,hdD,hcD⟩:=hn'.count (Within.cons name v hw);refine ZA (wpAny_lookBehind hoD (by rw[hdD];exact pastItsLine_dict (Za hcD (by rw[Zk,sizeLine_eq];lia))) ?_)
  refine ZB (hq h' _ ⟨o,(hs.2 x Yr.symm).trans hx,hc,hnc,.inr ⟨dx,hdx,Yr,hn'⟩⟩ (fun b ob _ hbd hb=>(hs.2 b (hbd o dx hx hdx)).trans hb)
   (fun o0 h0=>by obtain rfl:o=o0:=ZQ (hx.symm.trans h0);exact⟨o,(hs.2 x Yr.symm).trans h0,rfl,rfl,(fun _ _=>rfl),fun e=>by rw[hdx]at e;cases e⟩))
end
end L2
namespace L2
open PySem PySem.Spec PyProof.Rows
noncomputable abbrev ExN(x:Addr)(cls:Value)(od:Option Addr):HO:=.ext (fun h=>ExA h x cls od none)
noncomputable def XdP(d:Addr)(fs:List (Str × V))(h:Heap):Prop:=∃mA,h.Ns1 d mA/\∀f,RelO (fs.lookup f) (mA f)
noncomputable abbrev XdO(d:Addr)(fs:List (Str × V)):HO:=.ext (XdP d fs)
noncomputable def del(H:Hp)(x:Addr):Hp:=fun b=>if b=x then none else H b
theorem DL{H:Hp}{x b:Addr}(h:b≠x):del H x b=H b:=if_neg h
theorem NE{H:Hp}{x:Addr}:del H x x=none:=if_pos rfl
section
variable {P:Program}{w:World}{H H':Hp}{h h':Heap}{x d:Addr}{cls:Value}{od:Option Addr}{fs:List (Str × V)}
theorem Mp(e:ExA h x cls od none):ObjOk P w H h x (ExN x cls od) :=
 ⟨e,let ⟨oe,_,q,_⟩:=e;⟨oe,q⟩,fun _ _ ⟨oe,vs,q,r⟩ k=>⟨oe,vs,k oe q,r⟩⟩
theorem LM(e:XdP d fs h):ObjOk P w H h d (XdO d fs) :=
 ⟨e,let ⟨_,⟨o,_,_,q,_⟩,_⟩:=e;⟨o,q⟩,fun _ _ ⟨mA,n,r⟩ k=>⟨mA,n.at k,r⟩⟩
theorem Oq{mA:Str->Option Value}(r:∀f,RelO (fs.lookup f) (mA f)):Within mA (fs.map (·.1)):=fun y hy=>by
 have z:=r y;cases e:fs.lookup y with
 | none=>rw[e]at z;exact absurd (RelO.none_of z) hy
 | some v=>exact ZU.mpr ⟨(y,v),mem_of_lookup e,rfl⟩
where mem_of_lookup:∀{fs:List (Str × V)} {y:Str} {v:V},fs.lookup y=some v->(y,v)∈fs
 | [],_,_,e=>by cases e
 | (k,u)::r,y,v,e=>by
  rw[Zv]at e;split at e
  ·rename_i h;cases e;rw[eq_of_beq h];exact Zg
  ·exact ZW _ (mem_of_lookup e)
end
section
variable {X:Cx}{Ya:List (Addr × Obj)}{σ:St}{H H':Hp}{s:Shared}{h':Heap}{x C fI:Addr}{K:W.Frag}
theorem Yf.laidN{a:Addr}{o:HO}{t':Nat}(I:Yf X Ya σ H s)(k:∀b u,s.heap.get? b=some u->h'.get? b=some u)(nx:s.heap.get? a=none)(new:ObjOk X.prog X.w (upd H a o) h' a o):Yf X Ya σ (upd H a o) { s with heap:=h',toks:=t' }:=by
 have hn:H a=none:=Dp I.hok nx;have ne:∀b u,s.heap.get? b=some u->b≠a:=fun b u e z=>by rw[z,nx]at e;cases e
 have nh:∀b u,H b=some u->b≠a:=fun b u e z=>by rw[z,hn]at e;cases e
 refine I.un ⟨fun b u e _ _ _=>k b u e,fun b u e _ _ _=>⟨u.slots,k b u e⟩,fun b u e n _=>by rw[AH (ne b u e)];exact n,fun b u e _=>⟨u,k b u e⟩,fun b xs e=>by rw[AH (nh b _ e)];exact e,fun b u v e=>by rw[AH (nh b _ e)];exact e,fun b ps e=>⟨#[],by rw[AH (nh b _ e),e];simp⟩⟩ fun b u e=>?_
 by_cases z:b=a
 ·subst z;rw[AC]at e;cases e;exact new
 ·rw[AH z]at e;exact(I.hok b u e).stay (fun c v _ q=>k c v q) (fun c q=>by rw[AH (nh c _ q)];exact q) fun c xs q=>by rw[AH (nh c _ q)];exact q
theorem Rx {f:Str} {y:V} {u:Value} {A:Around} {E:Value->Shared->Prop} {Q:Unit->Shared->Prop} (I:Yf X Ya σ H s) (Z:ExcI X.K C fI) (n:NoAttr X.K C f) (e:H x=some (ExN x (.ref C) none)) (ry:Yj y u)
 (hq:∀d s',H d=none->Yf X Ya σ (upd (upd H x (ExN x (.ref C) (some d))) d (XdO d [(f,y)])) s'->Q () s'):wpAny (model X.prog X.w) A (setAttr (.ref x) f u) Q E s:=by
 obtain⟨⟨oe,vs,e1,e2,e3,e4,e5⟩,_⟩:=(show ObjOk X.prog X.w H s.heap x (ExN x (.ref C) none) from I.hok x _ e);refine LW (mA:=fun _=>none) (ns:=[]) I.kIn Z n ⟨oe,e1,e2,(fun c z=>by rw[e4]at z;cases z),.inl ⟨e3,fun _=>rfl⟩⟩ (fun y z=>absurd rfl z) (ZP _) fun h' tk' I' hk hs=>?_
 obtain⟨o1,g1,g2,g3,_,g4⟩:=hs oe e1;have g4:=g4 e3;have hd:H s.heap.objs.size=none:=I.hok.fresh (ZD _);have nd:s.heap.get? s.heap.objs.size=none:=ZBQ (ZD _);have xd:x≠s.heap.objs.size:=ZK (ZG e1);have keep:∀b o,b≠x->s.heap.get? b=some o->h'.get? b=some o:=fun b o nb q=>hk b o nb (fun o0 dx q0 q1=>by rw[e1]at q0;cases q0;rw[e3]at q1;cases q1) q
 have nH:∀b,b≠x->b≠s.heap.objs.size->(upd (upd H x (ExN x (.ref C) (some s.heap.objs.size))) s.heap.objs.size (XdO s.heap.objs.size [(f,y)])) b=H b:=fun b n1 n2=>by rw[AH n2,AH n1]
 have bd:∀b o,s.heap.get? b=some o->b≠s.heap.objs.size:=fun b o q=>ZK (ZG q)
 have bh:∀b o,H b=some o->b≠s.heap.objs.size:=fun b o q z=>by rw[z,hd]at q;cases q
 have XD:XdP s.heap.objs.size [(f,y)] h':=by
  obtain⟨o2,q1,_,_,q3⟩:=I';rw[g1]at q1;cases q1
  rcases q3 with ⟨q,_⟩ | ⟨dx,q,_,q4⟩
  ·rw[g4]at q;cases q
  ·rw[g4]at q;cases q;refine⟨_,q4,fun z=>?_⟩;show RelO (List.lookup z [(f,y)]) (if z=f then some u else none);rw[Zv]
   by_cases hz:z=f
   ·rw[hz,if_pos rfl,beq_self_eq_true];exact ry
   ·rw[if_neg hz,beq_eq_false_iff_ne.mpr hz];exact True.intro
 refine hq _ _ hd (I.un ⟨fun b o q nb _ _=>?_,fun b o q nb _ _=>⟨o.slots,?_⟩,fun b o q nb _=>?_,fun b o q _=>?_,fun b xs q=>?_,fun b o v q=>?_,fun b ps q=>⟨#[],?_⟩⟩ fun b o q=>?_)
 ·exact keep b o (fun z=>by rw[z,e]at nb;cases nb) q
 ·exact keep b o (fun z=>by rw[z,e]at nb;cases nb) q
 ·rw[nH b (fun z=>by rw[z,e]at nb;cases nb) (bd b o q)];exact nb
 ·by_cases z:b=x
  ·rw[z];exact⟨_,g1⟩
  ·exact⟨_,keep b o z q⟩
 ·rw[nH b (fun z=>by rw[z,e]at q;cases q) (bh b _ q)];exact q
 ·rw[nH b (fun z=>by rw[z,e]at q;cases q) (bh b _ q)];exact q
 ·rw[nH b (fun z=>by rw[z,e]at q;cases q) (bh b _ q),q];simp
 ·by_cases z:b=s.heap.objs.size
  ·subst z;rw[AC]at q;cases q;exact LM XD
  ·rw[AH z]at q
   by_cases z2:b=x
   ·subst z2;rw[AC]at q;cases q;exact Mp ⟨o1,vs,g1,by rw[g2,e2],g4,by rw[g3,e4],e5⟩
   ·rw[AH z2]at q;refine(I.hok b o q).stay (fun c v hc r=>keep c v (fun z=>?_) r) (fun c r=>?_) fun c xs r=>?_
    ·rcases hc with hc | hc
     ·exact z2 (hc.symm.trans z)
     ·rw[z,e]at hc;cases hc
    ·rw[nH c (fun z=>by rw[z,e]at r;cases r) (bh c _ r)];exact r
    ·rw[nH c (fun z=>by rw[z,e]at r;cases r) (bh c _ r)];exact r
theorem P0 {f:Str} {y:V} {u:Value} {d:Addr} {fs:List (Str × V)} {A:Around} {E:Value->Shared->Prop} {Q:Unit->Shared->Prop} (I:Yf X Ya σ H s) (Z:ExcI X.K C fI) (n:NoAttr X.K C f) (e:H x=some (ExN x (.ref C) (some d))) (ed:H d=some (XdO d fs)) (Yr:d≠x) (hl:fs.length<=1000) (ry:Yj y u)
 (hq:∀s',Yf X Ya σ (upd H d (XdO d (Ac f y fs))) s'->Q () s'):wpAny (model X.prog X.w) A (setAttr (.ref x) f u) Q E s:=by
 obtain⟨⟨oe,vs,e1,e2,e3,e4,e5⟩,_⟩:=(show ObjOk X.prog X.w H s.heap x (ExN x (.ref C) (some d)) from I.hok x _ e);obtain⟨⟨mA,n1,r1⟩,_⟩:=(show ObjOk X.prog X.w H s.heap d (XdO d fs) from I.hok d _ ed);refine LW (mA:=mA) (ns:=fs.map (·.1)) I.kIn Z n ⟨oe,e1,e2,(fun c z=>by rw[e4]at z;cases z),.inr ⟨d,e3,Yr,n1⟩⟩ (Oq r1) (by rw[ZC];exact hl) fun h' tk' I' hk hs=>?_
 obtain⟨o1,g1,g2,g3,g4,_⟩:=hs oe e1;have g4:=g4 d e3;subst g4;obtain⟨o2,q1,_,_,q3⟩:=I';rw[g1]at q1;cases q1
 have nn:h'.Ns1 d (fun y=>if y=f then some u else mA y):=by
  rcases q3 with ⟨q,_⟩ | ⟨dx,q,_,q4⟩
  ·rw[e3]at q;cases q
  ·rw[e3]at q;cases q;exact q4
 refine hq _ (I.write (x:=d) (e:=d) (by rw[ed];exact True.intro) (.inl rfl) (fun b v nb q=>?_) (let ⟨o,_,_,q,_⟩:=nn;⟨o,q⟩) (LM ⟨_,nn,fun g=>?_⟩))
 ·by_cases z:b=x
  ·subst z;rw[e1]at q;cases q;exact g1
  ·exact hk b v z (fun o0 dx q0 q1=>by rw[e1]at q0;cases q0;rw[e3]at q1;cases q1;exact nb) q
 ·show RelO ((Ac f y fs).lookup g) (if g=f then some u else mA g);rw[Fp]
  by_cases q:g=f
  ·rw[if_pos q,if_pos q];exact ry
  ·rw[if_neg q,if_neg q];exact r1 g
end
noncomputable def Pd(C:Addr)(ta tv:TE)(f:Str):TS:=fun D σ H=>tv σ H fun y H1=>ta σ H1 fun v H2=>match v with
 | .ref x=>(H2 x=some (ExN x (.ref C) none)/\∀d,H2 d=none->D.nx σ (upd (upd H2 x (ExN x (.ref C) (some d))) d (XdO d [(f,y)])))\/∃d fs,H2 x=some (ExN x (.ref C) (some d))/\H2 d=some (XdO d fs)/\d≠x/\fs.length<=1000/\D.nx σ (upd H2 d (XdO d (Ac f y fs)))
 | _=>False
noncomputable def Qj(K:W.Frag)(ta:TE)(f:Str):TE:=fun σ H Q=>ta σ H fun v H1=>match v with
 | .ref x=>∃C d fs v,ExcAt H1 x C (some d)/\H1 d=some (XdO d fs)/\ExcC K C/\NoAttr K C f/\PySem.W.hasDictIn K C=true/\fs.lookup f=some v/\Q v H1
 | _=>False
noncomputable def Rm(C:Addr)(sp:Sp)(ta:TA)(W:St->Option Addr->Hp->Prop):TS:=fun _ σ H=>ta σ H fun vs H1=>vs.length<=1000/\∀x,H1 x=none->sp (.ref x::vs) (upd H1 x (ExN x (.ref C) none)) (fun v H2=>v=.non/\∃od,H2 x=some (ExN x (.ref C) od)/\W σ od (del H2 x)) E0
section
variable {X:Cx}{K:W.Frag}{C fI:Addr}{fd:FuncData}{ps:List Str}{sp:Sp}{k:Nat}{o e value:Expr}{es:List Expr}{f c:Str}{pos pos' np cpos:Pos}{ta tv:TE}{t:TA}{W:St->Option Addr->Hp->Prop}
theorem HA(Z:ExcI K C fI)(n:NoAttr K C f)(ha:PE X o ta)(hv:PE X value tv)(hK:X.K=K:=by rfl)(hs:swapsWith value (some (.Attribute o f pos')) pos.line X.env=pure false:=by rfl):PS X (.Assign [.Attribute o f pos'] value pos) (Pd C ta tv f):=by
 subst hK;intro Ya s σ H D I h;refine plainObj_wpAny_Assign_Attribute (Yn (hv Ya s σ H _ I h) fun u s1 ⟨y,H1,I1,ry,q⟩=>Yn (ha Ya s1 σ H1 _ I1 q) fun ov s2 ⟨x,H2,I2,rx,q2⟩=>?_) hs;cases x with
 | ref x =>
  obtain rfl:ov=Value.ref x:=rx
  rcases q2 with ⟨g1,q⟩ | ⟨d,fs,g1,g2,g3,g4,q⟩
  ·exact Rx I2 Z n g1 ry fun d s' hd I'=>⟨σ,_,I',q d hd⟩
  ·exact P0 I2 Z n g1 g2 g3 g4 ry fun s' I'=>⟨σ,_,I',q⟩
 | _=>exact False.elim q2
theorem Fl(he:PE X e ta)(hK:X.K=K:=by rfl)(hb:attributeBase e f X.env (eval e X.env)=eval e X.env:=by rfl):PE X (.Attribute e f pos) (Qj K ta f):=by
 subst hK;intro Ya s σ H Q I h;refine NM hb (Yn (he Ya s σ H _ I h) fun u s1 ⟨x,H1,I1,rx,q⟩=>?_);cases x with
 | ref x =>
  obtain rfl:u=Value.ref x:=rx;obtain⟨C,d,fs,v,⟨g1,_⟩,g2,Z,n,hd,l,q⟩:=q;obtain⟨⟨oe,vs,e1,e2,e3,e4⟩,_⟩:=(show ObjOk X.prog X.w H1 s1.heap x (BY x (.ref C) (some d)) from I1.hok x _ g1);obtain⟨⟨mA,n1,r1⟩,_⟩:=(show ObjOk X.prog X.w H1 s1.heap d (XdO d fs) from I1.hok d _ g2);obtain⟨u',hu,ru⟩:=RelO.some_of (v:=v) (o:=mA f) (by rw[<- l];exact r1 f);obtain⟨od,ho,hl⟩:=NQ n1;have hn:PySem.W.notCls oe=true:=by unfold PySem.W.notCls;rw[e4]
  have J:PySem.W.InstAt s1.heap x oe C (some od):=⟨e1,e2,hn,by rw[e3];exact ho⟩;have ff:=PySem.W.findObj_own hd n rfl (by rw[hl,hu]);unfold getAttr;refine ZA (wpAny_mkText ?_);exact RH (v:=u') I1.kIn J Z ff (KN ru) ⟨v,H1,I1.tok _,ru,q⟩
 | _=>exact False.elim q
theorem MH (Z:ExcI K C fI) (F:FnOk X.prog X.w X.K X.mg X.base CX0 k fI fd ps sp) (hr:Room (k+1) X.A) (hb:Binds X.K fd ps [])
 (hx:∀(Ya:List (Addr × Obj)) (σ:St) (H:Hp) (s:Shared) (x:Addr) (od:Option Addr),Yf X Ya σ H s->H x=some (ExN x (.ref C) od)->X.s₀.heap.get? x=none->W σ od (del H x)->X.xe (.ref x) s)
 (hex:X.ex=[]) (hc:X.calm=true) (hg:Gl X c) (hm:X.mg c=some (.ref C)) (ha:PA X (e::es) t) (hK:X.K=K:=by rfl) (hdb:(c == ("__debug__" : Str))=false:=by decide)
 (he:starEach (e::es) X.env=(false,eval e X.env)::starEach es X.env:=by rfl) (hpl:(backTo cpos (starEach es X.env)).any (·.1)=false:=by rfl) :
 PS X (.Raise (some (.Call (.Name c np) (e::es) [] cpos)) none pos) (Rm C sp t W):=by
 subst hK;intro Ya s σ H D I h;refine PU I.kIn Z.ob (I.ok.hd hc) (by rw[he];show(false || (backTo cpos (starEach es X.env)).any (·.1))=false;rw[hpl];rfl) (Cw I hg hm ⟨rfl,?_⟩ hdb);rw[he];refine PySem.Calls.evalArgs_plain ?_;have ha1:=ha cpos Ya s σ H _ I h;rw[he]at ha1;refine Yn ha1 fun us s1 ⟨vs,H1,I1,r,hl,q⟩=>⟨rfl,by rw[<- r.length];exact CF hl,I1.kIn,?_,fun h1 x hm=>?_⟩
 ·have ft:=beq_iff_eq.mp Z.fn;unfold PySem.W.typeIn at ft;obtain⟨oI,l1,l2⟩:=ZBz.mp ft;exact⟨oI,I1.kIn _ _ l1,l2⟩
 obtain⟨tt,ht,htn,_⟩:=hm.there;have nH:H1 x=none:=Dp I1.hok hm.new;have I2:Yf X Ya σ (upd H1 x (ExN x (.ref C) none)) { s1 with heap:=h1,toks:=s1.toks }:=I1.laidN (a:=x) (fun b u e=>hm.keeps b u e) hm.new (Mp ⟨_,_,ht,rfl,rfl,rfl,rfl⟩);have hq:=q x nH;have r2:Yi (V.ref x::vs) (Value.ref x::us):=.cons rfl r
 have hl2:(Value.ref x::us++[]).length=ps.length:=by
  have e:=r2.length;rw[F.len _ _ _ _ hq]at e;rw[Zy];exact e.symm
 have hx0:X.s₀.heap.get? x=none:=by
  cases e:X.s₀.heap.get? x with
  | none=>rfl
  | some o =>
   obtain⟨o',e'⟩:=I1.base.there x o e (by rw[hex];simp);rw[hm.new]at e';cases e'
 have bb:=hb { s1 with heap:=h1,toks:=s1.toks } (Value.ref x::us) I2.kIn hl2;rw[Zy]at bb;refine wpAny_call (Z4 (F.run _ X.stack _ _ ⟨Value.ref x::us,[]⟩ (Value.ref x::us) _ _ E0 (hr.make C us []) (I2.env0.make C us []) bb r2 hq) fun rr s' hq'=>?_);cases rr with
 | error ev=>exact False.elim hq'
 | ok fl =>
  cases fl with
  | ret u =>
   obtain⟨v,H',I3,rv,ev,od,g1,q3⟩:=I2.after hq';subst ev;obtain⟨⟨oe,vs',e1,e2,e3,e4,e5⟩,_⟩:=(show ObjOk X.prog X.w H' s'.heap x (ExN x (.ref C) od) from I3.hok x _ g1);exact⟨rv,I3.kIn,⟨oe,vs',e1,e2,e4,e5⟩,hx Ya σ H' s' x od I3 g1 hx0 q3⟩
  | next=>exact False.elim hq'
  | brk=>exact False.elim hq'
  | cont=>exact False.elim hq'
end
section
variable {X:Cx}{Ya:List (Addr × Obj)}{σ:St}{H H':Hp}{s:Shared}{h':Heap}{ch:List Addr}
theorem Ly(I:Yf X Ya σ H s)(hex:X.ex=[])(c:Sl (frs X.stack) ch s.heap h')(h0:∀b∈ch,X.s₀.heap.get? b=none)(hH:∀b,b∉ch->H' b=H b)(hn:∀b∈ch,H' b=none)(hc:∀b∈ch,H b=none\/∃φ,H b=some (.ext φ)) :
 Un X.fs [] X.H₀ H' X.s₀.heap h'/\HOk X.prog X.w H' h':=by
 have hx:∀b:Addr,b∉X.ex:=fun b z=>by rw[hex]at z;cases z
 have nl:∀b o,X.s₀.heap.get? b=some o->b≠X.env.locals:=fun b o e=>ZK (ZS (ZG e) I.ok.above)
 have nc:∀b o,X.s₀.heap.get? b=some o->b∉ch:=fun b o e z=>by rw[h0 b z]at e;cases e
 have tr:∀b o,H b=some o->(∀φ,o≠.ext φ)->b∉ch:=fun b o e n z=>by
  rcases hc b z with q | ⟨φ,q⟩
  ·rw[q]at e;cases e
  ·rw[q]at e;cases e;exact n φ rfl
 refine⟨⟨fun b o e n nb _=>?_,fun b o e n nb _=>?_,fun b o e n _=>?_,fun b o e _=>?_,fun b xs e=>?_,fun b o v e=>?_,fun b ps e=>?_⟩,fun a o e=>?_⟩
 ·exact(c b o (I.base.keep b o e n nb (hx b)) (nc b o e)).1 fun z=>(ZI.mp (I.stkSub b z)).elim (nl b o e) nb
 ·obtain⟨sl,e1⟩:=I.base.slot b o e n nb (hx b);obtain⟨sl2,e2⟩:=(c b _ e1 (nc b o e)).2;exact⟨sl2,e2⟩
 ·rw[hH b (nc b o e)];exact I.base.free b o e n (hx b)
 ·obtain⟨o1,e1⟩:=I.base.there b o e (hx b);obtain⟨sl2,e2⟩:=(c b _ e1 (nc b o e)).2;exact⟨_,e2⟩
 ·have q:=I.base.tups b xs e;rw[hH b (tr b _ q fun φ z=>by cases z)];exact q
 ·have q:=I.base.frzs b o v e;rw[hH b (tr b _ q fun φ z=>by cases z)];exact q
 ·obtain⟨m,q⟩:=I.base.tbls b ps e;exact⟨m,by rw[hH b (tr b _ q fun φ z=>by cases z)];exact q⟩
 ·have na:a∉ch:=fun z=>by rw[hn a z]at e;cases e
  rw[hH a na]at e;refine(I.hok a o e).stay (fun b u hb q=>(c b u q fun z=>?_).1 fun z=>?_) (fun b q=>?_) fun b xs q=>?_
  ·rcases hb with rfl | hb
   ·exact na z
   ·exact tr b _ hb (fun φ z=>by cases z) z
  ·have:=I.stkFree b z
   rcases hb with rfl | hb
   ·rw[e]at this;cases this
   ·rw[hb]at this;cases this
  ·rw[hH b (tr b _ q fun φ z=>by cases z)];exact q
  ·rw[hH b (tr b _ q fun φ z=>by cases z)];exact q
theorem EL(I:Yf X Ya σ H s)(hex:X.ex=[]){b:Addr}(n:s.heap.get? b=none):X.s₀.heap.get? b=none:=by
 cases e:X.s₀.heap.get? b with
 | none=>rfl
 | some o =>
  obtain⟨o',e'⟩:=I.base.there b o e (by rw[hex];simp);rw[n]at e';cases e'
end
section
variable {P:Program}{w:World}{K:W.Frag}{mg:Str->Option Value}{base:Heap}{N:List Str}{qual:Str}{sc:Scope}{f:Addr}{cd:Value}{A:Around}{outer:List Env}{s0:Shared}{H0:Hp}{E:XK}
theorem Jy{Ya:List (Addr × Obj)}{σ:St}{H:Hp}{s:Shared}{x C:Addr}{od:Option Addr}(I:Yf (Bx (CXE P w) P w K mg base N qual sc f cd A outer s0 H0 E) Ya σ H s)(e:H x=some (ExN x (.ref C) od))(hx0:s0.heap.get? x=none)(q:E (.ref C) od (del H x)) :
 (Bx (CXE P w) P w K mg base N qual sc f cd A outer s0 H0 E).xe (.ref x) s:=by
 obtain⟨ex,_⟩:=(show ObjOk P w H s.heap x (ExN x (.ref C) od) from I.hok x _ e);refine MS (base:=base) (L:=s0.heap.objs.size) (t:=none) I.ok.frames I.stack rfl ex (.inl rfl) fun h2 T a1 a2 a3=>?_
 have nT:=EL I rfl a2;obtain⟨u,hk⟩:=Ly (H':=del H x) I rfl a3 (fun b z=>by rw[ZF.mp z];exact hx0) (fun b z=>DL fun r=>z (by rw[r];exact ZF.mpr rfl)) (fun b z=>by rw[ZF.mp z];exact NE) (fun b z=>by rw[ZF.mp z];exact .inr ⟨_,e⟩)
 have xT:T≠x:=fun z=>by
  obtain⟨_,_,g,_⟩:=ex;rw[<- z,a2]at g;cases g
 exact⟨x,_,od,T,del H x,rfl,I.os,I.bare,u,hk,a1,⟨hx0,nT⟩,⟨NE,by rw[DL xT];exact Dp I.hok a2⟩,q⟩
theorem Tv:Cu (CXE P w) (Bx (CXE P w) P w K mg base N qual sc f cd A outer s0 H0 E) E:=by
 intro Ya σ H s ev s' I h;obtain⟨x,cls,od,T,H',rfl,ho,hb,u,hk,ex,⟨n1,n2⟩,⟨f1,f2⟩,hE⟩:=h;have J:Yf (Bx (CXE P w) P w K mg base N qual sc f cd A outer s0 H0 E) Ya σ H' s':=I.call' ho u hk hb (ch:=[]) fun b z=>absurd z (by simp)
 refine MS (base:=base) (L:=s0.heap.objs.size) (t:=some (T,.none)) J.ok.frames J.stack rfl ex (.inr ⟨T,rfl⟩) fun h2 T2 a1 a2 a3=>?_
 have two:∀b∈x::(Option.map (fun p:Addr × Value=>p.1) (some (T,Value.none))).toList,b=x\/b=T:=fun b z=>by
  rcases ZI.mp z with z | z
  ·exact .inl z
  ·exact .inr (ZF.mp z)
 obtain⟨u2,hk2⟩:=Ly (H':=H') J rfl a3 (fun b z=>by
  rcases two b z with rfl | rfl
  ·exact EL I rfl n1
  ·exact EL I rfl n2) (fun b z=>rfl) (fun b z=>by
  rcases two b z with rfl | rfl
  ·exact f1
  ·exact f2) (fun b z=>by
  rcases two b z with rfl | rfl
  ·exact .inl f1
  ·exact .inl f2)
 exact⟨x,cls,od,T2,H',rfl,J.os,J.bare,u2,hk2,a1,⟨EL I rfl n1,EL J rfl a2⟩,⟨f1,Dp J.hok a2⟩,hE⟩
end
noncomputable def G4(C:Addr)(f:Str):Sp:=fun vs H Q _=>match vs with
 | [.ref x,y]=>H x=some (ExN x (.ref C) none)/\∀d,H d=none->Q .non (upd (upd H x (ExN x (.ref C) (some d))) d (XdO d [(f,y)]))
 | _=>False
noncomputable def HH(C:Addr)(f g:Str):Sp:=fun vs H Q _=>match vs with
 | [.ref x,y,z]=>H x=some (ExN x (.ref C) none)/\∀d,H d=none->Q .non (upd (upd (upd H x (ExN x (.ref C) (some d))) d (XdO d [(f,y)])) d (XdO d (Ac g z [(f,y)])))
 | _=>False
noncomputable abbrev XW:=Addr->Addr->Option Addr->St->Hp->Prop
noncomputable abbrev TSX:=XW->St->Hp->Prop
theorem FnOk.calm{P:Program}{w:World}{K:W.Frag}{mg:Str->Option Value}{base:Heap}{k:Nat}{f:Addr}{fd:FuncData}{ps:List Str}{sp sp':Sp}(F:FnOk P w K mg base (CXE P w) k f fd ps sp)(h:∀vs H Q E,sp' vs H Q E->sp vs H Q fun _ _ _=>False):FnOk P w K mg base CX0 k f fd ps sp' :=
 ⟨fun vs H Q E q=>F.len vs H Q _ (h _ _ _ _ q),fun A outer s H args us vs Q E hr he hb hv hs=>Z4 (F.run A outer s H args us vs Q _ hr he hb hv (h _ _ _ _ hs)) fun r s' q=>by
  cases r with
  | error e=>obtain⟨_,_,_,_,_,_,_,_,_,_,_,_,_,z⟩:=q;exact z.elim
  | ok fl=>cases fl <;> first | exact q | exact False.elim q⟩
end L2
namespace L2
open PySem PySem.Spec PyProof.Rows PySem.W
section
variable {X:Cx}{Ya:List (Addr × Obj)}{σ:St}
structure MinSt(X:Cx)(Ya:List (Addr × Obj))(σ:St)(l I S:Addr)(xs:List V)(J:Nat->Hp->Prop)(kf:Nat->Int)(j i:Nat)(vb:Value)(H:Hp)(s:Shared):Prop where
 inv:Yf X Ya σ H s
 fI:A7 X Ya H I
 fS:A7 X Ya H S
 gS:∃tb c,s.heap.get? S=some (seqObj "list" #[vb,.int (kf i) tb] c)
 it:s.heap.IsListIter I l (j+1)
 rb:∃x,xs[i]? = some x/\Yj x vb
 at_:J (j+1) H
noncomputable abbrev LZ(X:Cx)(Ya:List (Addr × Obj))(σ:St)(q:Addr)(xs:List V)(J:Nat->Hp->Prop)(kf:Nat->Int):Prop :=
 ∀(n:Nat) (x:V) (u:Value) (H:Hp) (s:Shared) (pl:List (Addr × Obj)),xs[n]? = some x->Yj x u->J n H->Yf X (Ya++pl) σ H s ->
  wpAny (model X.prog X.w) X.A.in1 (call (.ref q) [u]) (fun y s'=>∃H' t,y=.int (kf n) t/\Yf X (Ya++pl) σ H' s'/\J (n+1) H') (fun _ _=>False) s
theorem U0 {q l I S:Addr} {xs:List V} {J:Nat->Hp->Prop} {kf:Nat->Int} {R:Result->Shared->Prop} (hc:X.calm=true) (hSI:S≠I) (hlI:l≠I)
 (hl:∀n H,J n H->Yt X.K H l xs) (turn:LZ X Ya σ q xs J kf)
 (hR:∀i x v H s,xs[i]? = some x->Yj x v->(∀j,j < xs.length->kf i<=kf j/\(j < i->kf i < kf j))->J xs.length H->Yf X Ya σ H s->R (.ok (.ret v)) s) :
 ∀(r j i:Nat) (vb:Value) (H:Hp) (s:Shared),xs.length - (j+1)=r->j+1<=xs.length->MinSt X Ya σ l I S xs J kf j i vb H s->i<=j->(∀j',j'<=j->kf i<=kf j'/\(j' < i->kf i < kf j')) ->
  codeAny (model X.prog X.w) X.A (.builtin "min.loop" ⟨[.ref I,.ref q,.ref S],[]⟩) R s:=by
 have hname:(toString "min" ++ toString ".loop" : String) = "min.loop":=by decide
 intro r
 induction r with
 | zero =>
  intro j i vb H s hr hj M hij hbest;obtain⟨tb,c,gS⟩:=M.gS;obtain⟨xb,hxb,rb⟩:=M.rb;have hh:=M.inv.ok.hd hc;obtain⟨Ye,rv,pl,hz⟩:=M.inv.list (hl _ _ M.at_);have Yl:=rv.length;have W:=Walks.list (prog:=X.prog) (w:=X.w) (A:=X.A.in1) hh I l hlI Ye.toArray;have hsz:Ye.toArray.size=Ye.length:=ZJ ..;have hin:j+1=Ye.length:=by lia
  refine ZBN PySem.F.entry_min_loop ?_;rw[ZBW PySem.F.plain_min_loop _];show wpAny _ X.A.in1 (seqItems? (.ref S) >>= _) _ _ _;refine ZA (wpAny_seqItems gS rfl ?_);show wpAny _ X.A.in1 (tryCatch (pyNext (.ref I)) _ >>= _) _ _ _;refine ZA (ZBo (W.done _ _ _ ⟨by rw[hsz,<- hin];exact M.it,pl.isList⟩ fun h' tk' hk'=>?_));have I1:Yf X Ya σ H { s with heap:=h',toks:=tk' }:=M.inv.turned (fun b o n e=>hk' b o (by simpa using n) e) M.fI.1 M.fI.2.1 M.fI.2.2.2.1 M.fI.2.2.2.2.1 M.fI.2.2.2.2.2;have hS':=hk' S _ (by simpa using hSI) gS;have s1:=Zw h' S (Obj.mapSeq fun _=>(#[]:Array Value));show wpAny _ X.A.in1 (updateSeq S (fun _=>#[]) >>= _) _ _ _;refine ZA ?_;refine wpAny_updateSeq hS' rfl (ZA (wpAny_letGo (ZB ?_)));have I2:=I1.turned (t':=tk') (h':=h'.update S (Obj.mapSeq fun _=>(#[]:Array Value))) (fun b o n e=>(s1.2 b n).trans e) M.fS.1 M.fS.2.1 M.fS.2.2.2.1 M.fS.2.2.2.2.1 M.fS.2.2.2.2.2;exact hR i xb vb H _ hxb rb (fun j' hj'=>hbest j' (by lia)) (by rw[show xs.length=j+1 by lia];exact M.at_) I2
 | succ r ih =>
  intro j i vb H s hr hj M hij hbest;obtain⟨tb,c,gS⟩:=M.gS;obtain⟨xb,hxb,rb⟩:=M.rb;have hh:=M.inv.ok.hd hc;obtain⟨Ye,rv,pl,hz⟩:=M.inv.list (hl _ _ M.at_);have Yl:=rv.length;have W:=Walks.list (prog:=X.prog) (w:=X.w) (A:=X.A.in1) hh I l hlI Ye.toArray;have hsz:Ye.toArray.size=Ye.length:=ZJ ..;have Ym:j+1 < xs.length:=by lia
  refine ZBN PySem.F.entry_min_loop ?_;rw[ZBW PySem.F.plain_min_loop _];show wpAny _ X.A.in1 (seqItems? (.ref S) >>= _) _ _ _;refine ZA (wpAny_seqItems gS rfl ?_);show wpAny _ X.A.in1 (tryCatch (pyNext (.ref I)) _ >>= _) _ _ _;refine ZA (ZBo (W.item (j+1) _ _ _ (by rw[hsz];lia) ⟨M.it,pl.isList⟩ fun v h' tk' hP hst' hk'=>?_));have hv:Ye[j+1]? = some v:=by simpa using hP
  obtain⟨x,hx⟩:∃x,xs[j+1]? = some x:=⟨_,ZE Ym⟩;obtain⟨u,hu,ru⟩:=rv.get hx;rw[hv]at hu;cases hu;have I1:Yf X Ya σ H { s with heap:=h',toks:=tk' }:=M.inv.turned (fun b o n e=>hk' b o (by simpa using n) e) M.fI.1 M.fI.2.1 M.fI.2.2.2.1 M.fI.2.2.2.2.1 M.fI.2.2.2.2.2;have gS1:=hk' S _ (by simpa using hSI) gS;obtain⟨oI',hoI',hoc,hod⟩:=id hst'.1
  have I2:=I1.pinned (fp:=[I,S]) (fun b hb=>by
   rcases ZI.mp hb with rfl | hb
   ·exact M.fI
   ·rw[ZF.mp hb];exact M.fS) (fun b hb=>by
   rcases ZI.mp hb with rfl | hb
   ·exact⟨oI',hoI',fun v z=>by rw[hod]at z;cases z⟩
   ·rw[ZF.mp hb];exact⟨_,gS1,fun v z=>by cases z⟩)
  show wpAny _ X.A.in1 (tryCatch (holding [v] (call (.ref q) [v])) _ >>= _) _ _ _;refine ZA (ZBo (Ze (ZO (turn (j+1) x v H _ _ hx ru M.at_ I2) (fun y s2 he=>?_) fun _ _ hF=>hF.elim)));obtain⟨H2,t2,rfl,I3,hJ2⟩:=he;have pI:=I3.pin (I,oI') (ZX _ (ZX _ (CH (by simp) hoI')));have pS:=I3.pin (S,_) (ZX _ (ZX _ (CH (by simp) gS1)));have I4:=I3.unpinned;have fI2:A7 X Ya H2 I:=⟨pI.2.1,M.fI.2⟩;have fS2:A7 X Ya H2 S:=⟨pS.2.1,M.fS.2⟩;show wpAny _ X.A.in1 (tryCatch (holding [v,.int (kf (j+1)) t2] (richCompare .Lt (.int (kf (j+1)) t2) (.int (kf i) tb) >>= _)) _ >>= _) _ _ _;refine ZA (ZBo (Ze (ZA (CmpOf.ints_lt (prog:=X.prog) (w:=X.w) (A:=X.A.in1) (P:=fun i v=>∃t,v=.int (kf i) t) kf (fun i v h=>h) (j+1) i _ _ _ _ _ ⟨t2,rfl⟩ ⟨tb,rfl⟩ ?_))));refine ZA (Ze (ZBS ?_));refine ZA (wpAny_letGo (ZB ?_))
  by_cases hb':kf (j+1) < kf i
  ·have s1:=Zw s2.heap S (Obj.mapSeq fun _=>#[v,.int (kf (j+1)) t2]);obtain⟨c2,hc2⟩:∃c2,(s2.heap.update S (Obj.mapSeq fun _=>#[v,.int (kf (j+1)) t2])).get? S=some (seqObj "list" #[v,.int (kf (j+1)) t2] c2):=⟨_,get?_update_seq pS.1 fun _=>#[v,.int (kf (j+1)) t2]⟩;simp only[hb',decide_true,if_true];refine ZA ?_;refine wpAny_updateSeq pS.1 rfl (ZA (wpAny_letGo ?_));rw[hname];have I5:=I4.turned (t':=s2.toks) (h':=s2.heap.update S (Obj.mapSeq fun _=>#[v,.int (kf (j+1)) t2])) (fun b o n e=>(s1.2 b n).trans e) fS2.1 fS2.2.1 fS2.2.2.2.1 fS2.2.2.2.2.1 fS2.2.2.2.2.2;refine ZB ⟨ZBO PySem.F.plain_min_loop _,ih (j+1) (j+1) v H2 _ (by lia) Ym ⟨I5,fI2,fS2,⟨t2,c2,hc2⟩,⟨oI',(s1.2 I hSI.symm).trans pI.1,hoc,hod⟩,⟨x,hx,ru⟩,hJ2⟩ (ZD _) fun j' hj'=>?_⟩
   by_cases e:j'=j+1
   ·subst e;exact⟨by lia,fun _=>by lia⟩
   ·have hb1:=hbest j' (by lia);have hb2:=hb1.1;exact⟨by lia,fun _=>by lia⟩
  ·simp only[hb',decide_false,ZBy,if_false];refine ZA (wpAny_letGo ?_);rw[hname];refine ZB ⟨ZBO PySem.F.plain_min_loop _,ih (j+1) i vb H2 _ (by lia) Ym ⟨I4,fI2,fS2,⟨tb,c,pS.1⟩,⟨oI',pI.1,hoc,hod⟩,⟨xb,hxb,rb⟩,hJ2⟩ (by lia) fun j' hj'=>?_⟩
   by_cases e:j'=j+1
   ·subst e;exact⟨by lia,fun _=>by lia⟩
   ·exact hbest j' (by lia)
theorem U1 {q l:Addr} {xs:List V} {J:Nat->Hp->Prop} {kf:Nat->Int} {H:Hp} {s:Shared} {Q:VK} {E:Value->Shared->Prop} (hc:X.calm=true) (I0:Yf X Ya σ H s) (hpos:0 < xs.length) (h0:J 0 H)
 (hl:∀n H,J n H->Yt X.K H l xs) (turn:LZ X Ya σ q xs J kf)
 (hQ:∀i x H,xs[i]? = some x->(∀j,j < xs.length->kf i<=kf j/\(j < i->kf i < kf j))->J xs.length H->Q x H) :
 wpAny (model X.prog X.w) X.A (call (.builtin "min") [.ref l] [(Str.ofString "key",.ref q)]) (EP X Ya σ Q) E s:=by
 have hname:(toString "min" ++ toString ".loop" : String) = "min.loop":=by decide
 have hh:=I0.ok.hd hc;obtain⟨Ye,rv,pl,hz⟩:=I0.list (hl _ _ h0);have Yl:=rv.length;obtain⟨ol,_,hol,_⟩:=id pl;have hll:l < s.heap.objs.size:=ZG hol;refine kmk_tree PySem.F.kind_min PySem.F.plain_min PySem.F.entry_min (kmk_min_key _ _) ?_;show wpAny _ X.A.in1 (Builtin.Builtins.bindParams "min" ["key","default"] 0 ⟨[],[(Str.ofString "key",.ref q)]⟩ >>= _) _ _ s;refine ZA (wpAny_of_eq (show Builtin.Builtins.bindParams "min" ["key","default"] 0 ⟨[],[(Str.ofString "key",.ref q)]⟩=pure [some (.ref q),none] from rfl) ?_);refine ZA (ZB ?_);refine ZA (wpAny_pyIter_list pl.isList ?_);refine ZA (wpAny_newList ?_ (ZP _));rw[hname];refine ZB ⟨ZBO PySem.F.plain_min_loop _,?_⟩;generalize hI:s.heap.objs.size=I at *;generalize hh1:s.heap.push { cls:=.type "list_iterator",data:=.fields #[.ref l,.int 0 0] } = h1 at *;generalize hS:h1.objs.size=S at *;have hSI':S=I+1:=by rw[<- hS,<- hh1,<- hI];exact size_push' ..
 have hSI:S≠I:=by lia
 have hlI:l≠I:=ZK hll;have k1:∀b o,s.heap.get? b=some o->(h1.push (seqObj "list" #[] 0)).get? b=some o:=fun b o e=>ZH _ (by rw[<- hh1];exact ZH _ e)
 have gI:(h1.push (seqObj "list" #[] 0)).get? I=some { cls:=.type "list_iterator",data:=.fields #[.ref l,.int 0 0] }:=ZH _ (by rw[<- hh1,<- hI];exact ZM _ rfl);have gS:(h1.push (seqObj "list" #[] 0)).get? S=some (seqObj "list" #[] 0):=by rw[<- hS];exact ZM _ rfl
 have fI:A7 X Ya H I:=I0.fpOk (ZBb hI) (I0.hok.fresh (ZBb hI));have fS:A7 X Ya H S:=I0.fpOk (by lia) (I0.hok.fresh (by lia));have W:=Walks.list (prog:=X.prog) (w:=X.w) (A:=X.A.in1) hh I l hlI Ye.toArray;have hsz:Ye.toArray.size=Ye.length:=ZJ ..;refine ZBN PySem.F.entry_min_loop ?_;rw[ZBW PySem.F.plain_min_loop _];show wpAny _ X.A.in1 (seqItems? (.ref S) >>= _) _ _ _;refine ZA (wpAny_seqItems gS rfl ?_);show wpAny _ X.A.in1 (tryCatch (pyNext (.ref I)) _ >>= _) _ _ _
 have pl1:(h1.push (seqObj "list" #[] 0)).IsList l Ye.toArray:=by
  obtain⟨o,k,e,z⟩:=pl;have pl':PlainL (h1.push (seqObj "list" #[] 0)) l Ye.toArray:=⟨o,k,k1 _ _ e,z⟩;exact pl'.isList
 refine ZA (ZBo (W.item 0 _ _ _ (by rw[hsz];lia) ⟨⟨_,gI,rfl,rfl⟩,pl1⟩ fun v h' tk' hP hst' hk'=>?_));have hv:Ye[0]? = some v:=by simpa using hP
 obtain⟨x,hx⟩:∃x,xs[0]? = some x:=⟨_,ZE hpos⟩;obtain⟨u,hu,ru⟩:=rv.get hx;rw[hv]at hu;cases hu;have I1:Yf X Ya σ H { s with heap:=h',toks:=tk' }:=(I0.kept (t':=tk') k1).turned (t':=tk') (fun b o n e=>hk' b o (by simpa using n) e) fI.1 fI.2.1 fI.2.2.2.1 fI.2.2.2.2.1 fI.2.2.2.2.2;have gS1:=hk' S _ (by simpa using hSI) gS;obtain⟨oI',hoI',hoc,hod⟩:=id hst'.1
 have I2:=I1.pinned (fp:=[I,S]) (fun b hb=>by
  rcases ZI.mp hb with rfl | hb
  ·exact fI
  ·rw[ZF.mp hb];exact fS) (fun b hb=>by
  rcases ZI.mp hb with rfl | hb
  ·exact⟨oI',hoI',fun v z=>by rw[hod]at z;cases z⟩
  ·rw[ZF.mp hb];exact⟨_,gS1,fun v z=>by cases z⟩)
 show wpAny _ X.A.in1 (tryCatch (holding [v] (call (.ref q) [v])) _ >>= _) _ _ _;refine ZA (ZBo (Ze (ZO (turn 0 x v H _ _ hx ru h0 I2) (fun y s2 he=>?_) fun _ _ hF=>hF.elim)));obtain⟨H2,t2,rfl,I3,hJ2⟩:=he;have pI:=I3.pin (I,oI') (ZX _ (ZX _ (CH (by simp) hoI')));have pS:=I3.pin (S,_) (ZX _ (ZX _ (CH (by simp) gS1)));have I4:=I3.unpinned;have fI2:A7 X Ya H2 I:=⟨pI.2.1,fI.2⟩;have fS2:A7 X Ya H2 S:=⟨pS.2.1,fS.2⟩;have s1:=Zw s2.heap S (Obj.mapSeq fun _=>#[v,.int (kf 0) t2]);obtain⟨c2,hc2⟩:∃c2,(s2.heap.update S (Obj.mapSeq fun _=>#[v,.int (kf 0) t2])).get? S=some (seqObj "list" #[v,.int (kf 0) t2] c2):=⟨_,get?_update_seq pS.1 fun _=>#[v,.int (kf 0) t2]⟩;show wpAny _ X.A.in1 (updateSeq S (fun _=>#[v,.int (kf 0) t2]) >>= _) _ _ _;refine ZA ?_;refine wpAny_updateSeq pS.1 rfl ?_;rw[hname];have I5:=I4.turned (t':=s2.toks) (h':=s2.heap.update S (Obj.mapSeq fun _=>#[v,.int (kf 0) t2])) (fun b o n e=>(s1.2 b n).trans e) fS2.1 fS2.2.1 fS2.2.2.2.1 fS2.2.2.2.2.1 fS2.2.2.2.2.2;refine ZB ⟨ZBO PySem.F.plain_min_loop _,U0 hc hSI hlI hl turn (fun i x v H s hi hr hb hJ hI=>⟨x,H,hI,hr,hQ i x H hi hb hJ⟩) _ 0 0 v H2 _ rfl hpos ⟨I5,fI2,fS2,⟨t2,c2,hc2⟩,⟨oI',(s1.2 I hSI.symm).trans pI.1,hoc,hod⟩,⟨x,hx,ru⟩,hJ2⟩ (ZD _) fun j' hj'=>?_⟩;have e:j'=0:=by lia
 subst e;exact⟨by lia,fun h=>absurd h (Zc _)⟩
end
noncomputable abbrev FH(scope:Scope)(L:Addr)(a b:Str)(ca cb:Addr)(qual:Str)(Yv c':Addr):Env:=newEnv scope L mainGlobals [(a,ca),(b,cb)] (qual ++ ".<locals>.") (some Yv) (.ref c') none builtinsNs
noncomputable def IX(P:Program)(w:World)(K:W.Frag)(mg:Str->Option Value)(base:Heap)(scope:Scope)(a b x:Str)(ca cb:Addr)(qual:Str)(Yv c':Addr)(A:Around)(outer:List Env)(s:Shared)(H:Hp):Cx where
 prog:=P
 w:=w
 K:=K
 mg:=mg
 base:=base
 A:=A.deeper (FH scope s.heap.objs.size a b ca cb qual Yv c')
 N:=[x,a,b]
 s₀:=s
 H₀:=H
 env:=FH scope s.heap.objs.size a b ca cb qual Yv c'
 outer:=outer
 stack:=FH scope s.heap.objs.size a b ca cb qual Yv c'::outer
 ex:=[]
 calm:=true
 fn:=fun _=>false
 pn:=[]
 xe:=fun _ _=>False
theorem look2{a b y:Str}{ca cb c:Addr}(e:List.lookup y [(a,ca),(b,cb)]=some c):(y=a/\c=ca)\/(y=b/\c=cb):=by
 rw[Zv]at e
 by_cases z:y=a
 ·subst z;simp at e;exact .inl ⟨rfl,e.symm⟩
 ·rw[beq_eq_false_iff_ne.mpr z]at e;have e:List.lookup y [(b,cb)]=some c:=e;rw[Zv]at e
  by_cases z:y=b
  ·subst z;simp at e;exact .inr ⟨rfl,e.symm⟩
  ·rw[beq_eq_false_iff_ne.mpr z]at e;cases e
theorem Nc {P:Program} {w:World} {K:W.Frag} {mg:Str->Option Value} {base:Heap} {k:Nat} {Yv ca cb c':Addr} {qual a b x:Str} {params:Arguments} {body:Expr} {scope:Scope} {pm ctv:Value} {spB:V->Hp->VK->Prop} {vA vB:V} {uA uB:Value}
 (hl:base.get? Yv=some (kla_obj "<lambda>" qual params body scope [(a,ca),(b,cb)] pm c' ctv)) (hca:base.IsCell ca (some uA)) (rA:Yj vA uA) (hcb:base.IsCell cb (some uB)) (rB:Yj vB uB) (hab:a≠b) (hcab:ca≠cb)
 (hx:scope.names.lookup x=some .local) (ha:scope.names.lookup a=some .free) (hb:scope.names.lookup b=some .free) (hfr:∀y,scope.names.lookup y=some .free->y=a\/y=b) (hco:scope.isCoroutine=false) (hgen:scope.isGenerator=false) (hkind:scope.kind=.function)
 (hcell:∀y∈scope.names,y.2≠.cell)
 (hbody:∀(A:Around) (outer:List Env) (s:Shared) (H:Hp) (v:V) (Q:VK),Room k (A.deeper (FH scope s.heap.objs.size a b ca cb qual Yv c'))->spB v H Q ->
   ∃te,PE (IX P w K mg base scope a b x ca cb qual Yv c' A outer s H) body te/\te [some v,some vA,some vB] H Q) :
 FnOk P w K mg base CX0 (k+1) Yv (kla_fn "<lambda>" qual params body scope [(a,ca),(b,cb)] pm (.ref c') ctv) [x] (EE c' qual spB):=by
 refine⟨fun vs H Q E h=>by unfold EE at h;split at h;rfl;exact h.elim,fun A outer s H args us vs Q E hr e0 hbd r hsp=>?_⟩
 match vs,hsp,r with
 | [v],⟨hcd,hq⟩,r =>
 obtain⟨u,rfl,ru⟩:=Bd r;have lim:s.heap.NoLimit:=e0.mod.nolimit.keeps fun b o e=>(e0.bs b o e).1
 obtain⟨hcr,_⟩:=e0.hok _ _ hcd;refine kla_callFunE hr.depth (e0.bs _ _ hl).1 rfl hco hgen rfl hcr (hbd _ _ _ _ ?_);refine wpAny_newFunctionEnv hcell (fun y hy=>by rw[ZF.mp hy];exact hx) (fun h₁ hns hsb=>⟨lim.fresh _ hsb,?_⟩) hkind;have hk₁:∀b o,s.heap.get? b=some o->h₁.get? b=some o:=fun b o e=>hsb.extBut b o (ZK (ZG e)) (ZH _ e)
 refine kla_codeExpr ?_;obtain⟨te,ht,hte⟩:=hbody A outer s H v Q (hr.deeper _) hq
 have hca1:h₁.IsCell ca (some uA):=by
  obtain⟨o,e,d⟩:=hca;exact⟨o,hk₁ _ _ (e0.bs _ _ e).1,d⟩
 have hcb1:h₁.IsCell cb (some uB):=by
  obtain⟨o,e,d⟩:=hcb;exact⟨o,hk₁ _ _ (e0.bs _ _ e).1,d⟩
 have hcaH:H ca=none:=by
  obtain⟨o,e,d⟩:=hca;exact(e0.bs _ _ e).2
 have hcbH:H cb=none:=by
  obtain⟨o,e,d⟩:=hcb;exact(e0.bs _ _ e).2
 have noA:∀b':Addr,b'∉(IX P w K mg base scope a b x ca cb qual Yv c' A outer s H).ex:=fun b z=>absurd (show b∈([]:List Addr) from z) (by simp)
 have kindc:∀y,scope.names.lookup y≠some .cell:=fun y z=>hcell _ (PySem.mem_of_lookup z) rfl
 have la:List.lookup a [(a,ca),(b,cb)]=some ca:=by simp
 have lb:List.lookup b [(a,ca),(b,cb)]=some cb:=by
  rw[Zv,beq_eq_false_iff_ne.mpr (Ne.symm hab)];simp
 have I:Yf (IX P w K mg base scope a b x ca cb qual Yv c' A outer s H) [] [some v,some vA,some vB] H { s with heap:=h₁,toks:=s.toks+[(x,u)].length }:=by
  refine⟨⟨e0.mod,hkind,rfl,rfl,ZD _,fun y z c h1 h2=>?_,fun y hy=>?_,fun y c hf _=>?_,fun _=>hr.hd,Around.frames_deeper e0.frames,.inr ⟨rfl,rfl⟩,fun b z=>absurd z (noA b),e0.bs,e0.bsz,fun b _ _=>noA b,fun b z=>absurd z (noA b),e0.funs,e0.frf⟩,
   rfl,e0.bare,Un.kept hk₁,⟨_,hns,fun i y z h1 h2 h3=>?_⟩,fun y c h=>?_,e0.hok.fresh (ZD _),fun y c h=>?_,fun p hp=>absurd (show p∈([]:List (Addr × Obj)) from hp) (by simp),e0.hok.kept hk₁,rfl⟩
  ·rcases look2 h1 with ⟨e1,e2⟩ | ⟨e1,e2⟩ <;> rcases look2 h2 with ⟨e3,e4⟩ | ⟨e3,e4⟩
   ·rw[e1,e3]
   ·exact absurd (e2.symm.trans e4) hcab
   ·exact absurd (e4.symm.trans e2) hcab
   ·rw[e1,e3]
  ·have hy:scope.names.lookup y=some .cell\/scope.names.lookup y=some .free:=hy
   rcases hy with hy | hy
   ·exact absurd hy (kindc y)
   ·rcases hfr y hy with rfl | rfl
    ·exact⟨ca,la⟩
    ·exact⟨cb,lb⟩
  ·cases hf
  ·match i,h1,h2 with
   | 0,h1,h2 =>
    cases h1;cases h2;exact⟨u,ru,.inl ⟨hx,by simp⟩⟩
   | 1,h1,h2 =>
    cases h1;cases h2;exact⟨uA,rA,.inr ⟨.inr ha,ca,la,hca1⟩⟩
   | 2,h1,h2 =>
    cases h1;cases h2;exact⟨uB,rB,.inr ⟨.inr hb,cb,lb,hcb1⟩⟩
   | n+3,h1,h2=>cases h2
  ·rcases look2 h with ⟨_,rfl⟩ | ⟨_,rfl⟩
   ·exact⟨_,hca1⟩
   ·exact⟨_,hcb1⟩
  ·rcases look2 h with ⟨_,rfl⟩ | ⟨_,rfl⟩
   ·exact hcaH
   ·exact hcbH
 refine ZO (ht [] _ _ _ _ I hte) (fun u' s' hs=>?_) fun e s' hs=>False.elim hs
 obtain⟨v',H',J,rv,q⟩:=hs;exact⟨v',H',J.os,J.bare,J.base,J.hok,rv,q⟩
section
variable {X:Cx}{Ya:List (Addr × Obj)}{σ:St}{H:Hp}{s:Shared}
theorem Qx {k:Nat} {f:Addr} {fd:FuncData} {ps:List Str} {sp:Sp} {us:List Value} {vs:List V} {Q:VK} {E:Value->Shared->Prop} (I:Yf X Ya σ H s) (F:FnOk X.prog X.w X.K X.mg (Cf X H s) CX0 k f fd ps sp) (hr:Room k X.A.in1) (hb:BindsTo s fd ⟨us,[]⟩ (ps.zip us))
 (r:Yi vs us) (h:sp vs H Q E0):wpAny (model X.prog X.w) X.A.in1 (call (.ref f) us) (EP X Ya σ Q) E s:=by
 refine wpAny_call (Z4 (F.run X.A.in1 X.stack s H ⟨us,[]⟩ us vs Q E0 hr (TM I).in1 hb r h) fun r s' hq=>?_);cases r with
 | error e=>exact False.elim hq
 | ok fl =>
  cases fl with
  | ret u=>exact I.after hq
  | next=>exact False.elim hq
  | brk=>exact False.elim hq
  | cont=>exact False.elim hq
end
section
variable {X:Cx}{Pt c:Addr}{k i j:Nat}{a b x:Str}{p pos kpos lpos:Pos}{params:Arguments}{body:Expr}{scope:Scope}{e:Expr}{te:TE}{qual:Str}{spB:V->V->V->Hp->VK->Prop}
noncomputable def Rb(K:W.Frag)(Pt:Addr)(lpos:Pos)(qual:Str)(i j:Nat)(spB:V->V->V->Hp->VK->Prop)(te:TE):TE:=fun σ H Q=>te σ H fun y H1=>∃l xs vA vB,y=.ref l/\0 < xs.length/\σ[i]? = some (some vA)/\σ[j]? = some (some vB)/\Yx Pt lpos qual H1 /\
 ∀c' H2,Yw Pt H1 H2->Yx Pt lpos qual H2->H2 c'=some (CdO c' qual)->∃(J:Nat->Hp->Prop) (kf:Nat->Int),J 0 H2/\(∀n H3,J n H3->Yt K H3 l xs/\H3 c'=some (CdO c' qual)) /\
  (∀n v H3,xs[n]? = some v->J n H3->spB vA vB v H3 fun y H4=>y=.int (kf n)/\J (n+1) H4) /\
  ∀n v H3,xs[n]? = some v->(∀m,m < xs.length->kf n<=kf m/\(m < n->kf n < kf m))->J xs.length H3->Q v H3
theorem Pz {K:W.Frag} (he:PE X e te) (hm:X.mg "min" = none) (hr:Room (k+1) X.A) (hc:X.calm=true) (hcode:X.env.code=.ref c) (hcK:codeHdIn X.K c Pt=true) (hbm:BMn X.mg X.base)
 (hq:X.env.qual ++ "<lambda>" = qual) (hdef:defaultsOf params X.env=([],[])) (hNi:X.N[i]? = some a) (hNj:X.N[j]? = some b)
 (hcl:∀ca cb,X.env.cells.lookup a=some ca->X.env.cells.lookup b=some cb->closureFor scope X.env=pure [(a,ca),(b,cb)]) (hka:X.env.kindOf a=some .cell) (hkb:X.env.kindOf b=some .cell) (hfa:X.fn a=true) (hfb:X.fn b=true) (hab:a≠b)
 (hbind:∀(u pm ctv:Value) (ca cb c':Addr),bindArgs (kla_fn "<lambda>" qual params body scope [(a,ca),(b,cb)] pm (.ref c') ctv) ⟨[u],[]⟩=pure [(x,u)])
 (hF:∀(base':Heap) (Yv ca cb c':Addr) (pm ctv uA uB:Value) (vA vB:V),(∀b o,X.base.get? b=some o->base'.get? b=some o)->base'.get? Yv=some (kla_obj "<lambda>" qual params body scope [(a,ca),(b,cb)] pm c' ctv)->ca≠cb ->
   base'.IsCell ca (some uA)->Yj vA uA->base'.IsCell cb (some uB)->Yj vB uB->FnOk X.prog X.w X.K X.mg base' CX0 k Yv (kla_fn "<lambda>" qual params body scope [(a,ca),(b,cb)] pm (.ref c') ctv) [x] (EE c' qual (spB vA vB)))
 (hg:Gl X "min":=by rfl) (hK:X.K=K:=by rfl)
 (hst:starEach [e] X.env=(false,eval e X.env)::starEach [] X.env:=by rfl) :
 PE X (.Call (.Name "min" p) [e] [⟨some "key",.Lambda params body scope lpos,kpos⟩] pos) (Rb K Pt lpos qual i j spB te):=by
 intro Ya s σ H Q I h;subst hq hK;refine wpAny_Call_Name_kw (Cs I hg hm (show bootBuiltins "min" = some (.builtin "min") by kernel_rfl) ?_);refine callWith_kw (e:=e) (rest:=[]) (id:="min") ?_ (by rw[hst];rfl) (by rw[hst];rfl)
 refine Yn ((AA he AB hst) pos Ya s σ H (fun vs H1=>match vs with | [y]=>(∃l xs vA vB,y=.ref l/\0 < xs.length/\σ[i]? = some (some vA)/\σ[j]? = some (some vB)/\Yx Pt lpos (X.env.qual ++ "<lambda>") H1 /\
  ∀c' H2,Yw Pt H1 H2->Yx Pt lpos (X.env.qual ++ "<lambda>") H2->H2 c'=some (CdO c' (X.env.qual ++ "<lambda>"))->∃(J:Nat->Hp->Prop) (kf:Nat->Int),J 0 H2/\(∀n H3,J n H3->Yt X.K H3 l xs/\H3 c'=some (CdO c' (X.env.qual ++ "<lambda>"))) /\
   (∀n v H3,xs[n]? = some v->J n H3->spB vA vB v H3 fun y H4=>y=.int (kf n)/\J (n+1) H4) /\
   ∀n v H3,xs[n]? = some v->(∀m,m < xs.length->kf n<=kf m/\(m < n->kf n < kf m))->J xs.length H3->Q v H3) | _=>False) I h) fun us s1 ⟨vs,H1,I1,r1,q1⟩=>?_
 match vs,r1,q1 with
 | [_],.cons rx .nil,⟨l,xs,vA,vB,ex,hpos,hvA,hvB,hL,hQ⟩ =>
 subst ex;cases rx;obtain⟨ps,hP,htr,hcs⟩:=id hL
 have fin:∀(H2:Hp) (s2:Shared) (Yv c' ca cb:Addr) (pm ctv:Value),Yf X Ya σ H2 s2->X.env.cells.lookup a=some ca->X.env.cells.lookup b=some cb->s2.heap.get? Yv=some (kla_obj "<lambda>" (X.env.qual ++ "<lambda>") params body scope [(a,ca),(b,cb)] pm c' ctv) ->
  H2 Yv=none->Yv≠X.env.locals->Yv∉X.fs->Yw Pt H1 H2->Yx Pt lpos (X.env.qual ++ "<lambda>") H2->H2 c'=some (CdO c' (X.env.qual ++ "<lambda>")) ->
  wpAny (model X.prog X.w) X.A (call (.builtin "min") [.ref l] [(Str.ofString "key",.ref Yv)]) (EP X Ya σ Q) X.xe s2:=by
  intro H2 s2 Yv c' ca cb pm ctv I2 hla hlb hf hn hnl hnf hG hL2 hc';obtain⟨J,kf,h0,hJ,hturn,hend⟩:=hQ c' H2 hG hL2 hc';have I3:=I2.pin1 hf hn hnl hnf (fun v z=>by cases z);have hcab:ca≠cb:=fun z=>hab (I2.ok.inj a b ca hla (by rw[hlb,z]))
  refine Yn (U1 (J:=J) (kf:=kf) (E:=X.xe) hc I3 hpos h0 (fun n H h=>(hJ n H h).1) (fun n y u H s pl hy ru hj I4=>?_) (fun n y H hy hb hj=>hend n y H hy hb hj)) fun u s3 ⟨y,H3,I5,r5,q5⟩=>⟨y,H3,I5.unpin1,r5,q5⟩
  have hl3:=(I4.pin (Yv,_) (ZX _ (ZBR _ (Zg ..))));obtain⟨m,hns,hloc⟩:=I4.loc;obtain⟨uA,rA,lookA⟩:=hloc i a vA hNi hvA (.inr (.inl hka));obtain⟨uB,rB,lookB⟩:=hloc j b vB hNj hvB (.inr (.inl hkb))
  rcases lookA with ⟨z,_⟩ | ⟨_,ca',e1,e2⟩
  ·rw[hka]at z;cases z
  rcases lookB with ⟨z,_⟩ | ⟨_,cb',e3,e4⟩
  ·rw[hkb]at z;cases z
  rw[hla]at e1;cases e1;rw[hlb]at e3;cases e3
  have lamS:Yv∉frs X.stack:=fun z=>by
   rcases ZI.mp (I4.stkSub _ z) with z | z
   ·exact hl3.2.2.1 z
   ·exact hl3.2.2.2.1 z
  have cellS:∀y c,X.fn y=true->X.env.cells.lookup y=some c->c∉frs X.stack:=fun y c hy hc z=>by
   rcases ZI.mp (I4.stkSub _ z) with z | z
   ·exact I4.cne _ _ hc z
   ·obtain⟨_,o,ho,_⟩:=I4.ok.funs.mem z;exact absurd (ZS (ZG ho) (I4.ok.cab y c hy hc)) (Zc _)
  have cA:(Cf X H s).IsCell ca (some uA):=by
   obtain⟨o,ho,hd'⟩:=e2;exact⟨o,Ee ho (I4.freeC _ _ hla) (cellS a ca hfa hla),hd'⟩
  have cB:(Cf X H s).IsCell cb (some uB):=by
   obtain⟨o,ho,hd'⟩:=e4;exact⟨o,Ee ho (I4.freeC _ _ hlb) (cellS b cb hfb hlb),hd'⟩
  have F:=hF (Cf X H s) Yv ca cb c' pm ctv uA uB vA vB (MG I4) (Ee hl3.1 hl3.2.1 lamS) hcab cA rA cB rB;refine Yn (Qx (vs:=[y]) (us:=[u]) (Q:=fun v H4=>v=.int (kf n)/\J (n+1) H4) I4 F hr.in1 (.of_eq (hbind u pm ctv ca cb c')) (.cons ru .nil) ⟨(hJ n H hj).2,hturn n y H hy hj⟩) fun y2 s2 h2=>?_
  obtain⟨y3,H4,I6,r6,q6,q7⟩:=h2;subst q6;obtain⟨t,rfl⟩:=r6;exact⟨H4,t,rfl,I6,q7⟩
 show wpAny _ _ (evalAll ((do let v <- eval (.Lambda params body scope lpos) X.env;standAt pos;pure v)::[])) _ _ s1;obtain⟨ca,hla⟩:=I1.ok.has a (.inl hka);obtain⟨cb,hlb⟩:=I1.ok.has b (.inl hkb);have hcl':=hcl ca cb hla hlb;have gl:∀{s:Shared} {H:Hp},Yf X Ya σ H s->s.heap.Ns mainGlobals X.mg:=fun J=>J.mod.glob.keeps J.bk
 have C:CodeHd s1.heap c Pt:=codeHd_of_K I1.kIn hcK;have hPt:s1.heap.get? Pt=some (tabObj ps):=I1.hok _ _ hP
 have gP:mainGlobals≠Pt:=fun z=>by
  obtain⟨o,es,ep,e,hd,_⟩:=gl I1;rw[z,hPt]at e;cases e;cases hd
 have hB:s1.heap.BuiltinsAt X.mg Pt:=by
  obtain⟨bm,ob,b1,b2,b3,b4,b5,b6⟩:=hbm;have e:=I1.bk _ _ b3;refine⟨bm,ob,b1,b2,fun z=>?_,fun z=>?_,e,b4,b5,b6⟩
  ·obtain⟨o,es,ep,e',hd,_⟩:=gl I1;rw[z,e']at e;cases e;rw[hd]at b6;cases b6
  ·rw[z,hPt]at e;cases e;cases b4
 refine wpAny_evalAll_cons (ZA (kla_eval hdef ?_))
 rcases hcs with hnf | ⟨c',hf,hc'⟩
 ·refine kla_makeFunction hcl' I1.ok.glob (gl I1) hcode C hPt htr hnf gP hB fun c' ctv h' tk hx' hge Ym hrec htb=>?_
  refine ZA (ZBI (ZB (wpAny_evalAll_nil ?_)));have J:=I1.grow (t':=tk) hP hx' htb hge hrec;have J':=J.kept (h':=h'.push _) (t':=tk) fun b' u e=>ZH (kla_obj "<lambda>" (X.env.qual ++ "<lambda>") params body scope [(a,ca),(b,cb)] ((X.mg "__name__").getD .none) c' ctv) e
  have hcn:H1 c'=none:=I1.hok.fresh hge;have hcP:c'≠Pt:=fun z=>by rw[z,hP]at hcn;cases hcn
  refine fin _ _ h'.objs.size c' ca cb _ ctv J' hla hlb (ZM _ rfl) (J.hok.fresh (ZD _)) (ZBa J.lt) (J.nofs (ZD _)) (fun b o n e=>?_) ⟨_,by rw[AH (Ne.symm hcP),AC],?_,.inr ⟨c',?_,AC⟩⟩ AC
  ·have hbc:b≠c':=fun z=>by rw[z,hcn]at e;cases e
   rw[AH hbc,AH n];exact e
  ·rw[Array.toList_append];exact TriplesOk_snoc _ _ _ _ htr
  ·rw[Array.toList_append];exact codeAmong_snoc _ htr hnf
 ·refine kla_makeFunctionHit hcl' I1.ok.glob (gl I1) hcode C hPt htr hf hB fun ctv h' tk hk' hsz=>?_
  refine ZA (ZBI (ZB (wpAny_evalAll_nil ?_)));have J0:Yf X Ya σ H1 { s1 with heap:=h',toks:=tk }:=I1.kept hk';have J:=I1.kept (h':=h'.push _) (t':=tk) fun b' u e=>ZH (kla_obj "<lambda>" (X.env.qual ++ "<lambda>") params body scope [(a,ca),(b,cb)] ((X.mg "__name__").getD .none) c' ctv) (hk' b' u e)
  exact fin _ _ h'.objs.size c' ca cb _ ctv J hla hlb (ZM _ rfl) (J0.hok.fresh (ZD _)) (ZBa J0.lt) (J0.nofs (ZD _)) (Yw.refl _ _) hL hc'
end
end L2
set_option maxHeartbeats 6400000
namespace L2
open PySem PyProof PyProof.Rows
noncomputable def Qk(C:Addr)(m:Str)(sp:Sp)(dvs:List V)(ta:TE)(t:TA):TX:=fun σ H Q E=>ta σ H fun x H1=>∃a dx fs,x=.ref a/\H1 a=some (.ins C dx fs)/\fs.lookup m=none/\t σ H1 fun vs H2=>sp (x::(vs++dvs)) H2 Q E
noncomputable def Te(C:Addr)(sp:Sp)(dvs:List V)(t:TA):TX:=fun σ H Q E=>t σ H fun vs H1=>∀x dx,H1 x=none->H1 dx=none->dx≠x ->
 sp (.ref x::(vs++dvs)) (upd (upd H1 dx (.own x)) x (.ins C dx [])) (fun v H2=>v=.non/\Q (.ref x) H2) E
noncomputable def Sb(tc:TE)(tx:TX):TX:=fun σ H Q E=>tc σ H fun x H1=>tx σ H1 (fun y H2=>∀p,H2 p=none->Q (.ref p) (upd H2 p (.tup [x,y]))) E
noncomputable abbrev LF(X:Cx)(Ya:List (Addr × Obj))(σ:St)(E:XK):Value->Shared->Prop:=fun ev s'=>∃H1 s1,Yf X Ya σ H1 s1/\CXE X.prog X.w X.stack H1 s1 E ev s'
section
variable {X:Cx}{k:Nat}{f C:Addr}{fd:FuncData}{ps:List Str}{sp:Sp}{dvs:List V}{ds:List Value}{x c y n m:Str}{p p1 p2 p3 pos apos:Pos}{e e2 o:Expr}{es:List Expr}{ta tc:TE}{t:TA}{tx:TX}{ts:TS}{i j:Nat}{b:Stmt}{bs:List Stmt}{E:XK}
variable {Ya:List (Addr × Obj)}{σ:St}{H:Hp}{s:Shared}{Q:VK}{us:List Value}{vs:List V}
theorem P5(F:FnOk X.prog X.w X.K X.mg X.base (CXE X.prog X.w) k f fd ps sp)(hr:Room k X.A)(hb:Binds X.K fd ps ds)(hd:Yi dvs ds)(I:Yf X Ya σ H s)(r:Yi vs us)(h:sp (vs++dvs) H Q E):wpAny (model X.prog X.w) X.A (call (.ref f) us) (EP X Ya σ Q) (LF X Ya σ E) s:=by
 have r2:Yi (vs++dvs) (us++ds):=r.append hd;have hl:(us++ds).length=ps.length:=by rw[<- r2.length];exact F.len _ _ _ _ h
 refine wpAny_call (Z4 (F.run X.A X.stack s H ⟨us,[]⟩ (us++ds) (vs++dvs) Q E hr I.env0 (hb s us I.kIn hl) r2 h) fun r s' hq=>?_);cases r with
 | error ev=>exact⟨H,s,I,hq⟩
 | ok fl =>
  cases fl with
  | ret u=>exact I.after hq
  | next=>exact False.elim hq
  | brk=>exact False.elim hq
  | cont=>exact False.elim hq
theorem QA (M:Mk X.K C f) (F:FnOk X.prog X.w X.K X.mg X.base (CXE X.prog X.w) k f fd ps sp) (hr:Room (k+1) X.A) (hb:Binds X.K fd ps ds) (hd:Yi dvs ds) (I:Yf X Ya σ H s) (r:Yi vs us)
 (h:∀x dx,H x=none->H dx=none->dx≠x->sp (.ref x::(vs++dvs)) (upd (upd H dx (.own x)) x (.ins C dx [])) (fun v H2=>v=.non/\Q (.ref x) H2) E) :
 wpAny (model X.prog X.w) X.A (call (.ref C) us) (EP X Ya σ Q) (LF X Ya σ E) s:=by
 have hq:=h (s.heap.objs.size+1) s.heap.objs.size (I.hok.fresh (ZBT _)) (I.hok.fresh (ZD _)) (ZK (ZBJ _));have I2:=Yf.made (C:=C) I;have r2:Yi (V.ref (s.heap.objs.size+1)::(vs++dvs)) (Value.ref (s.heap.objs.size+1)::(us++ds)):=.cons rfl (r.append hd)
 have hl:(Value.ref (s.heap.objs.size+1)::us++ds).length=ps.length:=by
  have e:=r2.length;rw[F.len _ _ _ _ hq]at e;exact e.symm
 refine wpAny_call (LU (f:=f) I.kIn M.makes M.init (beq_iff_eq.mp M.fn) (Z4 (F.run _ X.stack _ _ ⟨Value.ref (s.heap.objs.size+1)::us,[]⟩ (Value.ref (s.heap.objs.size+1)::(us++ds)) _ _ E (hr.make C us [])
  (I2.env0.make C us []) (hb _ (Value.ref (s.heap.objs.size+1)::us) I2.kIn hl) r2 hq) fun r s' hq'=>?_))
 cases r with
 | error ev=>exact⟨_,_,I2,hq'⟩
 | ok fl =>
  cases fl with
  | ret u =>
   obtain⟨v,H',I3,rv,ev,q3⟩:=I2.after hq';subst ev;exact⟨rv,⟨V.ref (s.heap.objs.size+1),H',I3,rfl,q3⟩⟩
  | next=>exact False.elim hq'
  | brk=>exact False.elim hq'
  | cont=>exact False.elim hq'
theorem Ux {pl:Sem Bool} (he:PE X.nox o ta) (c:Cls X.K C) (hm:Meth X.K C m f) (F:FnOk X.prog X.w X.K X.mg X.base (CXE X.prog X.w) k f fd ps sp) (hr:Room k X.A) (hb:Binds X.K fd ps ds) (hd:Yi dvs ds) (ha:PA X.nox (e::es) t)
 (hst:starEach (e::es) X.env=(false,eval e X.env)::starEach es X.env:=by rfl) (hpl:(backTo pos (starEach es X.env)).any (·.1)=false:=by rfl)
 (ht:eval (.Call (.Attribute o m apos) (e::es) [] pos) X.env=(do
   let ov <- eval o X.env
   standAt apos.atName
   let (f,first) <- holding [ov] (getMethod ov m pl)
   callWith pos f first (backTo pos (starEach (e::es) X.env)) (backToKw pos (keywordEach [] X.env))):=by rfl) :
 PX X (.Call (.Attribute o m apos) (e::es) [] pos) (Qk C m sp dvs ta t):=by
 intro Ya s σ H Q E I h;refine PySem.W.methodCall_KW (pl:=pl) (ZO (he Ya s σ H _ (I.wish _) h) (fun u s1 ⟨x,H1,I1,rx,a,dx,fs,ex,ea,l,q⟩=>?_) fun _ _ z=>False.elim z) ht;have I1:=I1.unwish;subst ex;obtain rfl:u=Value.ref a:=rx;refine GK I1 ea c hm l ?_;refine PySem.W.callWith_K (first:=[.ref a]) (h₀:=X.base) I.ok.mod.kin hm.kp (ZO (ha pos Ya s1 σ H1 _ (I1.wish _) q) (fun us s2 ⟨vs,H2,I2,r,q2⟩=>⟨I2.kIn,?_⟩) fun _ _ z=>False.elim z) hst hpl;exact P5 (us:=.ref a::us) (vs:=.ref a::vs) F hr hb hd I2.unwish (.cons rfl r) q2
theorem Qq (M:Mk X.K C f) (F:FnOk X.prog X.w X.K X.mg X.base (CXE X.prog X.w) k f fd ps sp) (hr:Room (k+1) X.A) (hg:Gl X x) (hm:X.mg x=some (.ref C)) (hb:Binds X.K fd ps ds) (hd:Yi dvs ds)
 (ha:PA X.nox (e::es) t) (hdb:(x == ("__debug__" : Str))=false:=by decide) (he:starEach (e::es) X.env=(false,eval e X.env)::starEach es X.env:=by rfl) (hpl:(backTo pos (starEach es X.env)).any (·.1)=false:=by rfl) :
 PX X (.Call (.Name x p) (e::es) [] pos) (Te C sp dvs t):=by
 intro Ya s σ H Q E I h;refine wpAny_Call_Name_kw (Cw I hg hm ?_ hdb);refine PySem.W.callWith_K (h₀:=X.base) I.ok.mod.kin M.kp (ZO (ha pos Ya s σ H _ (I.wish _) h) (fun us s1 ⟨vs,H1,I1,r,q⟩=>⟨I1.kIn,?_⟩) fun _ _ z=>False.elim z) he hpl;exact QA M F hr hb hd I1.unwish r q
theorem VD{x1}(hc:PE X.nox e tc)(he:PX X e2 tx)(h1:starEach [e,e2] X.env=(false,eval e X.env)::starEach [e2] X.env:=by rfl)(h2:starEach [e2] X.env=(false,eval e2 X.env)::starEach [] X.env:=by rfl)(h3:backTo pos (starEach [] X.env)=[]:=by rfl) :
 PX X (.Tuple [e,e2] x1 pos) (Sb tc tx):=by
 intro Ya s σ H Q E I h;refine wpAny_Tuple_spliced ?_;rw[h1];show wpAny _ _ (spliced ((false,eval e X.env)::backTo pos (starEach [e2] X.env))) _ _ s;refine Calls.spliced_cons (ZO (hc Ya s σ H _ (I.wish _) h) (fun u s1 ⟨x,H1,I1,r1,q1⟩=>?_) fun _ _ z=>False.elim z);have I1:=I1.unwish;rw[h2];show wpAny _ _ (spliced ((false,eval e2 X.env)::backTo pos (starEach [] X.env))) _ _ s1;refine Calls.spliced_cons (ZO (he Ya s1 σ H1 _ E I1 q1) (fun u2 s2 ⟨y,H2,I2,r2,q2⟩=>?_) fun _ _ z=>z);rw[h3];refine Calls.spliced_nil ⟨by show 2<=sizeLine;exact CF (by decide),?_⟩;have hf:H2 s2.heap.objs.size=none:=I2.hok.fresh (ZD _);refine⟨.ref s2.heap.objs.size,upd H2 s2.heap.objs.size (.tup [x,y]),I2.laid (t':=s2.toks) (fun b u e=>ZH _ e) (ZD _) ?_,rfl,q2 _ hf⟩;exact⟨smq rfl,[u,u2],.cons r1 (.cons r2 .nil),⟨_,ZM _ rfl,rfl,⟨_,rfl⟩,rfl⟩⟩
noncomputable def VR(K:W.Frag)(C:Addr)(j:Nat)(tx:TX)(ts:TS):TS:=fun D σ H =>
 tx σ H (fun _ H1=>D.nx σ H1) fun cls od H1=>PySem.W.exmOne K cls (.ref C)=some true/\∀x,H1 x=none->ts (D.off j) (σ.set j (some (.ref x))) (upd H1 x (BY x cls od))
theorem Rt (hN:X.N.Nodup) (hj:X.N[j]? = some n) (hn:X.env.kindOf n=some .local) (hstk:X.stack=X.env::X.outer) (hfr:X.env.frame=some X.env.locals) (hg:Gl X c) (hm:X.mg c=some (.ref C))
 (he:PX X e tx) (hs:∀a,PSs (X.hand (.ref a)) (b::bs) ts) (hsw:swapsWith e none p2.line X.env=pure false:=by rfl)
 (hdb:(c == ("__debug__" : Str))=false:=by decide):PS X (.Try [.Expr e p2] [.ExceptHandler (some (.Name c p3)) (some n) (b::bs) p] [] [] pos) (VR X.K C j tx ts):=by
 intro Ya s σ H D I h;refine wpAny_Try_except (wpAny_execs_cons (wpAny_Expr_any (ZO (he Ya s σ H _ _ I h) (fun v s1 ⟨y,H1,I1,r1,q1⟩=>?_) fun ev s' ⟨H1,s1,I1,q⟩=>?_) I.quiet hsw))
 ·exact wpAny_execs_nil (wpAny_execs_nil ⟨_,H1,I1,q1⟩)
 obtain⟨a,cls,od,T,H2,rfl,ho,hb,u,hk,ex,⟨n1,n2⟩,⟨f1,f2⟩,hex,ht⟩:=q;have J:Yf X Ya σ H2 s':=I1.call' ho u hk hb (ch:=[]) fun b z=>absurd z (by simp)
 refine HS (base:=X.base) (outer:=X.outer) (L:=X.env.locals) (by rw[J.ok.frames,hstk]) (by have:=J.stack;rwa [hstk]at this) hfr ex (.inr ⟨T,rfl⟩) fun h2 T2 a1 a2 a3=>?_
 rw[<- hstk]at a3;have I2:=Eo (h:=h2) I1 ho hb u hk n1 n2 f1 f2 a3 a1;refine wpAny_handleBy_cons (codeAny_handlers_test (Cw (I2.hand (.ref a)) hg hm ?_ hdb)) (by intro q;cases q);have hob:=a1;obtain⟨oe,vs,o1,o2,_⟩:=hob;subst o2;have LT:PySem.W.Looks (model X.prog X.w) h2 (typeOf (.ref a)) oe.cls:=(PySem.W.Looks.ld o1).andThen .now;refine(PySem.W.exm_one I2.kIn LT hex).here ?_;refine codeAny_handlers_suite_as (JW (s:={ s' with heap:=h2 }) a1 fun h3 b1 b2 b3=>?_)
 have I3:=Eo (h:=h3) I1 ho hb u hk n1 n2 f1 f2 (fun b o eb nb=>by
  have nT2:b≠T2:=fun z=>by rw[z,a2]at eb;cases eb
  obtain⟨c1,sl,c2⟩:=a3 b o eb nb;exact⟨fun nf=>(b2 b nT2).trans (c1 nf),sl,(b2 b nT2).trans c2⟩) b1
 refine D6 (X:=X.hand (.ref a)) (I3.hand (.ref a)) hN hj (.inl hn) (v:=.ref a) rfl (fun s4 I4=>?_) (.inr hn);refine ZO (hs a Ya s4 _ _ _ I4 (ht a f1)) (fun fl s5 q=>?_) fun _ _ z=>False.elim z
 cases fl with
 | next=>obtain⟨σ5,H5,I5,q⟩:=q;exact Cp (J.unhand I5) hN hj hn fun s6 I6=>⟨_,_,I6,q⟩
 | brk=>obtain⟨σ5,H5,I5,q⟩:=q;exact Cp (J.unhand I5) hN hj hn fun s6 I6=>⟨_,_,I6,q⟩
 | cont=>obtain⟨σ5,H5,I5,q⟩:=q;exact Cp (J.unhand I5) hN hj hn fun s6 I6=>⟨_,_,I6,q⟩
 | ret w=>obtain⟨v5,σ5,H5,I5,r5,q⟩:=q;exact Cp (J.unhand I5) hN hj hn fun s6 I6=>⟨v5,_,_,I6,r5,q⟩
end
end L2
namespace Mine
open PySem L2
variable {N S i j k m n:Nat}{ts ys:List Nat}{ls:List Int}{Yg:List (List Key × V)}{v:V}{K:W.Frag}{C CA CR Pt a d p t tl:Addr}{H H':Hp}{xs:List V}{o:HO}{rs:List (List Bool)}{X ps:List Addr}{r:List Bool}
noncomputable def top(i:Nat):Stmt:=PySem.Challenge.pw_flips_k48_askings_by_turns.main.body.getD i (.Pass ⟨0,0,0,0⟩)
noncomputable abbrev Dl:Stmt:=BH (top 5) 0
noncomputable abbrev Dk:Stmt:=BH (top 6) 0
noncomputable abbrev JF:Stmt:=top 11
noncomputable abbrev HY:Stmt:=top 12
noncomputable abbrev GU:Stmt:=top 14
noncomputable abbrev HK:Stmt:=top 15
noncomputable abbrev Fx:Stmt:=top 16
noncomputable abbrev JB:Stmt:=top 17
noncomputable abbrev G8:Stmt:=BH (top 19) 0
noncomputable abbrev HN:Stmt:=BH (top 19) 1
noncomputable abbrev Ic:Stmt:=BH (top 19) 2
noncomputable abbrev GX:Stmt:=BH (top 19) 3
noncomputable abbrev HX:Stmt:=BH (top 19) 4
noncomputable abbrev Hv:Stmt:=BH (top 19) 5
noncomputable abbrev GZ:Stmt:=BH (top 19) 6
noncomputable abbrev G3:Stmt:=BH (top 19) 7
noncomputable abbrev Hh:Stmt:=BH (top 19) 8
noncomputable abbrev IR:Stmt:=BH (top 19) 9
noncomputable abbrev CP:Stmt:=BH (top 19) 11
noncomputable abbrev Gc:Stmt:=top 20
noncomputable abbrev IC:Stmt:=top 22
noncomputable abbrev HP:Stmt:=top 23
noncomputable abbrev Gh:Stmt:=BH (top 25) 0
noncomputable abbrev Hm:Stmt:=BH (top 25) 1
noncomputable abbrev Ig:Stmt:=BH (top 25) 2
noncomputable abbrev Fm:Stmt:=BH (top 25) 3
noncomputable abbrev Iz:Stmt:=BH (top 25) 4
noncomputable abbrev IZ:Stmt:=BH (top 25) 5
noncomputable abbrev GY:Stmt:=top 27
noncomputable abbrev G5:Stmt:=top 28
noncomputable abbrev Ho:Stmt:=top 29
noncomputable abbrev JP:Stmt:=top 30
noncomputable abbrev GB:Stmt:=top 31
noncomputable abbrev Jc:Stmt:=top 32
noncomputable abbrev IP:Stmt:=top 33
noncomputable abbrev HD:Stmt:=top 34
noncomputable abbrev GW:Stmt:=top 35
noncomputable abbrev HB:Stmt:=top 36
noncomputable abbrev Hf:Stmt:=top 37
noncomputable abbrev Ii:Stmt:=top 38
noncomputable abbrev Gv:Stmt:=top 39
noncomputable abbrev IN:Stmt:=top 40
noncomputable abbrev GA:Stmt:=top 41
noncomputable abbrev Iu:Stmt:=top 42
noncomputable abbrev He:Stmt:=top 43
noncomputable abbrev Hn:Stmt:=top 44
noncomputable abbrev CS:Stmt:=top 45
local macro_rules | `(tactic| walk_at "f")=>`(tactic| exact⟨rfl,rfl,rfl,by decide +kernel,rfl,by decide +kernel,by decide +kernel⟩)
theorem Ov:FnScope ["self","one","other"] ["self","one","other"] (AL Dl):=by walk_at "f"
theorem U3:FnScope ["self","question"] ["self","question"] (AL Dk):=by walk_at "f"
theorem Se:FnScope ["n"] ["n"] (AL JF):=by walk_at "f"
theorem sc_z51:FnScope ["base","times","power","step"] ["base","times"] (AL HY):=by walk_at "f"
theorem UJ:FnScope ["place","switch"] ["place","switch"] (AL GU):=by walk_at "f"
theorem Rp:FnScope ["subset","other"] ["subset","other"] (AL HK):=by walk_at "f"
theorem Ra:FnScope ["members"] ["members"] (AL Fx):=by walk_at "f"
theorem Qt:FnScope ["subset"] ["subset"] (AL JB):=by walk_at "f"
theorem UV:FnScope ["self","game"] ["self","game"] (AL G8):=by walk_at "f"
theorem Ox:FnScope ["self"] ["self"] (AL HN):=by walk_at "f"
theorem TD:FnScope ["self","things"] ["self","things"] (AL Ic):=by walk_at "f"
theorem QQ:FnScope ["self","things"] ["self","things"] (AL GX):=by walk_at "f"
theorem sc_z17:FnScope ["self","things","question","answer","yes"] ["self","things","question","answer"] (AL HX):=by walk_at "f"
theorem Pr:FnScope ["self","things"] ["self","things"] (AL Hv):=by walk_at "f"
theorem Ql:FnScope ["self","things"] ["self","things"] (AL GZ):=by walk_at "f"
theorem OH:FnScope ["self","things"] ["self","things"] (AL G3):=by walk_at "f"
theorem T6:FnScope ["self","things","question"] ["self","things","question"] (AL Hh):=by walk_at "f"
theorem sc_z14:FnScope ["self","things","question","no","yes"] ["self","things","question"] (AL IR):=by walk_at "f"
theorem SY:FnScope ["self","things"] ["self","things"] (AL CP):=by walk_at "f"
theorem SC:FnScope ["wanted","values"] ["wanted","values"] (AL Gc):=by walk_at "f"
theorem sc_z18:FnScope ["game","found"] ["game"] (AL IC):=by walk_at "f"
theorem sc_z25:FnScope ["game","labels","answers","one","other"] ["game"] (AL HP):=by walk_at "f"
theorem So:FnScope ["self","game"] ["self","game"] (AL Gh):=by walk_at "f"
theorem Uq:FnScope ["self"] ["self"] (AL Hm):=by walk_at "f"
theorem sc_z35:FnScope ["self","question","answer","fitting"] ["self","question","answer"] (AL Ig):=by walk_at "f"
theorem On:FnScope ["self"] ["self"] (AL Fm):=by walk_at "f"
theorem Po:FnScope ["self"] ["self"] (AL Iz):=by walk_at "f"
theorem O5:FnScope ["self"] ["self"] (AL IZ):=by walk_at "f"
theorem Rk:FnScope ["_law_script"] ["_law_script"] (AL GY):=by walk_at "f"
theorem sc_z47:FnScope ["_law_feed_here","_law_many","_law_turn","_law_cell","_law_mixed","_law_digit"] ["_law_feed_here","_law_many"] (AL G5):=by walk_at "f"
theorem sc_z43:FnScope ["_law_feed_here","_law_n","_law_many","_law_way","_law_place","_law_one","_law_answer"] ["_law_feed_here","_law_n"] (AL Ho):=by walk_at "f"
theorem sc_z22:FnScope ["_law_table_here","_law_rows","_law_many"] ["_law_table_here"] (AL JP):=by walk_at "f"
theorem sc_z39:FnScope ["_law_feed_here","_law_n","_law_many","_law_tables","_law_at","_law_k","_law_table_here"] ["_law_feed_here","_law_n","_law_many"] (AL GB):=by walk_at "f"
theorem sc_z21:FnScope ["_law_tables","_law_rows"] ["_law_tables"] (AL Jc):=by walk_at "f"
theorem sc_z38:FnScope ["_law_feed_here","_law_many","_law_first_here","_law_labels","_law_rows"] ["_law_feed_here"] (AL IP):=by walk_at "f"
theorem sc_z32:FnScope ["_law_feed_here","_law_many","_law_width","_law_names","_law_labels","_law_rows","_law_k"] ["_law_feed_here"] (AL HD):=by walk_at "f"
theorem sc_z45:FnScope ["_law_feed_here","_law_way"] ["_law_feed_here"] (AL GW):=by walk_at "f"
theorem sc_z50:FnScope ["_law_game_here","_law_answers","_law_one","_law_other"] ["_law_game_here"] (AL HB):=by walk_at "f"
theorem sc_z36:FnScope ["_law_game_here","_law_labels","_law_pair_here"] ["_law_game_here"] (AL Hf):=by walk_at "f"
theorem sc_z42:FnScope ["_law_game_here","_law_things","_law_question","_law_row"] ["_law_game_here","_law_things","_law_question"] (AL Ii):=by walk_at "f"
theorem sc_z48:FnScope ["_law_game_here","_law_things","_law_known","_law_least","_law_question","_law_sides_here"] ["_law_game_here","_law_things","_law_known"] (AL Gv):=by walk_at "f"
theorem sc_z41:FnScope ["_law_game_here","_law_things","_law_known","_law_numbers","_law_question","_law_sides_here"] ["_law_game_here","_law_things","_law_known"] (AL IN):=by walk_at "f"
theorem sc_z20:FnScope ["_law_asking","_law_game_here","_law_things","_law_known","_law_asks","_law_due"] ["_law_asking","_law_game_here","_law_things","_law_known"] (AL GA):=by walk_at "f"
theorem sc_z28:FnScope ["_law_asking","_law_question","_law_answer","_law_found","e","_law_others"] ["_law_asking","_law_question","_law_answer"] (AL Iu):=by walk_at "f"
theorem sc_z44:FnScope ["_law_game_here","_law_pair_here","e"] ["_law_game_here"] (AL He):=by walk_at "f"
theorem sc_z46:FnScope ["_law_feed_here","_law_side","_law_asking","_law_game_here","_law_things","_law_known","_law_question","_law_answer","_law_later","_law_due"] ["_law_feed_here","_law_side"] (AL Hn):=by walk_at "f"
theorem sc_law:FnScope ["_law_script","_law_feed_here","_law_drawn","_law_games","_law_sides_here","_law_number","_law_things","_law_turn","_law_way"] ["_law_script"] (AL CS):=by walk_at "f"
noncomputable def CL:Str:=PySem.Str.ofString "Reckoner.first_question" ++ PySem.Str.ofString ".<locals>." ++ PySem.Str.ofString "<lambda>"
noncomputable def IV:Pos:=⟨99,45,99,97⟩
set_option genInjectivity false
set_option genSizeOf false
structure Fun1(K:W.Frag)(mg:Str->Option Value)(n:Str)(st:Stmt)(ps:List Str) where
 f:Addr
 d:FuncData
 F:Fun K n n st f d
 b:Binds K d ps []
 m:mg n=some (.ref f)
structure Meth1(K:W.Frag)(C:Addr)(n q:Str)(st:Stmt)(ps:List Str) where
 f:Addr
 d:FuncData
 F:Fun K n q st f d
 b:Binds K d ps []
 m:Meth K C n f
structure Txt(K:W.Frag)(mg:Str->Option Value) where
 C_Asking:Addr
 mC_Asking:mg "Asking" = some (.ref C_Asking)
 cl_Asking:Cls K C_Asking
 na_Asking_reckoner:NoAttr K C_Asking "reckoner"
 na_Asking_fitting:NoAttr K C_Asking "fitting"
 C_Reckoner:Addr
 mC_Reckoner:mg "Reckoner" = some (.ref C_Reckoner)
 cl_Reckoner:Cls K C_Reckoner
 na_Reckoner_labels:NoAttr K C_Reckoner "labels"
 na_Reckoner_yeses:NoAttr K C_Reckoner "yeses"
 na_Reckoner_alike:NoAttr K C_Reckoner "alike"
 na_Reckoner_known:NoAttr K C_Reckoner "known"
 C_Alike:Addr
 mC_Alike:mg "Alike" = some (.ref C_Alike)
 C_FlipError:Addr
 mC_FlipError:mg "FlipError" = some (.ref C_FlipError)
 C_NoEnd:Addr
 mC_NoEnd:mg "NoEnd" = some (.ref C_NoEnd)
 C_NoName:Addr
 mC_NoName:mg "NoName" = some (.ref C_NoName)
 C_NoRow:Addr
 mC_NoRow:mg "NoRow" = some (.ref C_NoRow)
 C_NoTable:Addr
 mC_NoTable:mg "NoTable" = some (.ref C_NoTable)
 C_NoText:Addr
 mC_NoText:mg "NoText" = some (.ref C_NoText)
 C_NoThing:Addr
 mC_NoThing:mg "NoThing" = some (.ref C_NoThing)
 xc_NoEnd:ExcC K C_NoEnd
 hd_NoEnd:W.hasDictIn K C_NoEnd=true
 na_NoEnd_one:NoAttr K C_NoEnd "one"
 na_NoEnd_other:NoAttr K C_NoEnd "other"
 xm_NoEnd_FlipError:W.exmOne K (.ref C_NoEnd) (.ref C_FlipError)=some true
 xm_NoEnd_NoEnd:W.exmOne K (.ref C_NoEnd) (.ref C_NoEnd)=some true
 kk_NoEnd_Alike:W.kitOne K (.ref C_NoEnd) (.ref C_Alike)=some false
 kk_NoEnd_NoEnd:W.kitOne K (.ref C_NoEnd) (.ref C_NoEnd)=some true
 kk_NoEnd_NoName:W.kitOne K (.ref C_NoEnd) (.ref C_NoName)=some false
 kk_NoEnd_NoRow:W.kitOne K (.ref C_NoEnd) (.ref C_NoRow)=some false
 kk_NoEnd_NoTable:W.kitOne K (.ref C_NoEnd) (.ref C_NoTable)=some false
 kk_NoEnd_NoText:W.kitOne K (.ref C_NoEnd) (.ref C_NoText)=some false
 kk_NoEnd_NoThing:W.kitOne K (.ref C_NoEnd) (.ref C_NoThing)=some false
 kk_NoEnd_ValueError:W.kitOne K (.ref C_NoEnd) (.type "ValueError")=some true
 xc_NoThing:ExcC K C_NoThing
 hd_NoThing:W.hasDictIn K C_NoThing=true
 na_NoThing_question:NoAttr K C_NoThing "question"
 xm_NoThing_FlipError:W.exmOne K (.ref C_NoThing) (.ref C_FlipError)=some true
 xm_NoThing_NoEnd:W.exmOne K (.ref C_NoThing) (.ref C_NoEnd)=some false
 kk_NoThing_Alike:W.kitOne K (.ref C_NoThing) (.ref C_Alike)=some false
 kk_NoThing_NoEnd:W.kitOne K (.ref C_NoThing) (.ref C_NoEnd)=some false
 kk_NoThing_NoName:W.kitOne K (.ref C_NoThing) (.ref C_NoName)=some false
 kk_NoThing_NoRow:W.kitOne K (.ref C_NoThing) (.ref C_NoRow)=some false
 kk_NoThing_NoTable:W.kitOne K (.ref C_NoThing) (.ref C_NoTable)=some false
 kk_NoThing_NoText:W.kitOne K (.ref C_NoThing) (.ref C_NoText)=some false
 kk_NoThing_NoThing:W.kitOne K (.ref C_NoThing) (.ref C_NoThing)=some true
 kk_NoThing_ValueError:W.kitOne K (.ref C_NoThing) (.type "ValueError")=some true
 z34:Meth1 K C_NoEnd "__init__" "NoEnd.__init__" Dl ["self","one","other"]
 xI_NoEnd:ExcI K C_NoEnd z34.f
 z26:Meth1 K C_NoThing "__init__" "NoThing.__init__" Dk ["self","question"]
 xI_NoThing:ExcI K C_NoThing z26.f
 z53:Fun1 K mg "two_to" JF ["n"]
 z51:Fun1 K mg "power_of" HY ["base","times"]
 z54:Fun1 K mg "is_on" GU ["place","switch"]
 z52:Fun1 K mg "within" HK ["subset","other"]
 z37:Fun1 K mg "set_holding" Fx ["members"]
 z40:Fun1 K mg "members_of" JB ["subset"]
 z23:Meth1 K C_Reckoner "__init__" "Reckoner.__init__" G8 ["self","game"]
 mk_Reckoner:Mk K C_Reckoner z23.f
 z15:Meth1 K C_Reckoner "everything" "Reckoner.everything" HN ["self"]
 z11:Meth1 K C_Reckoner "has_one_label" "Reckoner.has_one_label" Ic ["self","things"]
 z16:Meth1 K C_Reckoner "label_of" "Reckoner.label_of" GX ["self","things"]
 z17:Meth1 K C_Reckoner "left_of" "Reckoner.left_of" HX ["self","things","question","answer"]
 z13:Meth1 K C_Reckoner "fewest_among" "Reckoner.fewest_among" Hv ["self","things"]
 z0:Meth1 K C_Reckoner "fewest_reckoned" "Reckoner.fewest_reckoned" GZ ["self","things"]
 z19:Meth1 K C_Reckoner "parting" "Reckoner.parting" G3 ["self","things"]
 z12:Meth1 K C_Reckoner "worst_behind" "Reckoner.worst_behind" Hh ["self","things","question"]
 z14:Meth1 K C_Reckoner "harder_left" "Reckoner.harder_left" IR ["self","things","question"]
 z10:Meth1 K C_Reckoner "first_question" "Reckoner.first_question" CP ["self","things"]
 z30:Fun1 K mg "members_where" Gc ["wanted","values"]
 z18:Fun1 K mg "refuse_without_end" IC ["game"]
 z25:Fun1 K mg "first_unparted" HP ["game"]
 z29:Meth1 K C_Asking "__init__" "Asking.__init__" Gh ["self","game"]
 mk_Asking:Mk K C_Asking z29.f
 z33:Meth1 K C_Asking "ask" "Asking.ask" Hm ["self"]
 z35:Meth1 K C_Asking "say" "Asking.say" Ig ["self","question","answer"]
 z27:Meth1 K C_Asking "left" "Asking.left" Fm ["self"]
 z24:Meth1 K C_Asking "label" "Asking.label" Iz ["self"]
 z31:Meth1 K C_Asking "most" "Asking.most" IZ ["self"]
 z49:Fun1 K mg "_law_feed" GY ["_law_script"]
 z47:Fun1 K mg "_law_draw" G5 ["_law_feed_here","_law_many"]
 z43:Fun1 K mg "_law_table" Ho ["_law_feed_here","_law_n"]
 z22:Fun1 K mg "_law_table_game" JP ["_law_table_here"]
 z39:Fun1 K mg "_law_class" GB ["_law_feed_here","_law_n","_law_many"]
 z21:Fun1 K mg "_law_class_game" Jc ["_law_tables"]
 z38:Fun1 K mg "_law_picks" IP ["_law_feed_here"]
 z32:Fun1 K mg "_law_any_game" HD ["_law_feed_here"]
 z45:Fun1 K mg "_law_game" GW ["_law_feed_here"]
 z50:Fun1 K mg "_law_pair" HB ["_law_game_here"]
 z36:Fun1 K mg "_law_ending" Hf ["_law_game_here"]
 z42:Fun1 K mg "_law_sides" Ii ["_law_game_here","_law_things","_law_question"]
 z48:Fun1 K mg "_law_need" Gv ["_law_game_here","_law_things","_law_known"]
 z41:Fun1 K mg "_law_first" IN ["_law_game_here","_law_things","_law_known"]
 z20:Fun1 K mg "_law_looks_right" GA ["_law_asking","_law_game_here","_law_things","_law_known"]
 z28:Fun1 K mg "_law_answered" Iu ["_law_asking","_law_question","_law_answer"]
 z44:Fun1 K mg "_law_begun" He ["_law_game_here"]
 z46:Fun1 K mg "_law_deed" Hn ["_law_feed_here","_law_side"]
 f_law:Addr
 d_law:FuncData
 F_law:Fun K "law" "law" CS f_law d_law
 b_law:Binds K d_law ["_law_script"] []
 m_law:mg "law" = some (.ref f_law)
 g_z10:Addr
 p_z10:Addr
 gc_z10:z10.d.code=.ref g_z10
 gh_z10:W.codeHdIn K g_z10 p_z10=true
 z_ValueError:mg "ValueError" = none
 z_any:mg "any" = none
 z_enumerate:mg "enumerate" = none
 z_int:mg "int" = none
 z_isinstance:mg "isinstance" = none
 z_len:mg "len" = none
 z_list:mg "list" = none
 z_max:mg "max" = none
 z_min:mg "min" = none
 z_range:mg "range" = none
 z_repr:mg "repr" = none
 z_set:mg "set" = none
 z_sorted:mg "sorted" = none
 z_sum:mg "sum" = none
 z_tuple:mg "tuple" = none
set_option genInjectivity true
set_option genSizeOf true
abbrev Xa(P:Program)(w:World)(base:Heap){K:W.Frag}{mg:Str->Option Value}{n:Str}{st:Stmt}{ps:List Str}(z:Fun1 K mg n st ps)(k:Nat)(sp:Sp):Prop:=FnOk P w K mg base CX0 k z.f z.d ps sp
abbrev Xb(P:Program)(w:World)(mg:Str->Option Value)(base:Heap){K:W.Frag}{C:Addr}{n q:Str}{st:Stmt}{ps:List Str}(z:Meth1 K C n q st ps)(k:Nat)(sp:Sp):Prop:=FnOk P w K mg base CX0 k z.f z.d ps sp
section
variable {P:Program}{w:World}{K:W.Frag}{mg:Str->Option Value}{base:Heap}(T:Txt K mg)
local macro_rules | `(tactic| walk_at "sm")=>`(tactic| repeat' with_reducible first | exact Th | apply Om | apply PM | apply U5 | apply Tz | apply RA | apply T7 | apply UW | exact Sm | exact Qr | apply Sh | apply Od | apply RB | apply VF | apply TF | apply Re | apply Rg | apply U4 | apply Nr | exact Uv | exact UG | exact Ua | exact Tj | exact N9 | exact RI | exact OD | exact Tp | exact Pj | exact Um | exact Ol | apply Oz | apply VL | apply U6 | exact No | apply RE | exact RY | exact VS | exact VP | exact Sr | exact Ng | apply Pe | apply N7 | apply PR | apply SB | exact CM | apply Fg | exact Cz | exact OT | exact SN | exact Qh | exact Qi | apply Ps | apply PL | exact QG | exact UF | exact VY | exact Qn | apply QT | exact QS | exact Sx | exact N4 | apply Uk | apply T3 | apply SO | exact UK | exact O3 | apply S8 | assumption)
set_option hygiene false in
local macro_rules | `(tactic| walk_at "q")=>`(tactic| (split at q;(revert q;repeat' first | exact h _ _ | exact newL_mono h | exact out_mono h | exact outT_mono h | walk_at "m");(exact q.elim)))
set_option hygiene false in
local macro_rules | `(tactic| walk_at "e")=>`(tactic| (split at h <;> first | rfl | exact h.elim))
set_option hygiene false in
local macro_rules | `(tactic| walk_at "f")=>`(tactic| (intro Yu A outer s H vs Q E hr h;have hu:=Aa hr))
set_option hygiene false in
local macro_rules | `(tactic| walk_at "g")=>`(tactic| (split at h;rotate_left;(exact h.elim)))
theorem pa1{X:Cx}{e:PySem.Expr}{te:TE}(ha:PE X e te)(hs:starEach [e] X.env=[(false,eval e X.env)]):PA X [e] (Gz te Fj):=AA ha AB hs
local macro_rules | `(tactic| walk_at "v")=>`(tactic| exact⟨by rfl,by first | exact Or.inl rfl | exact Or.inr (Or.inl rfl) | exact Or.inr (Or.inr rfl),by decide,by decide⟩)
local macro_rules | `(tactic| walk_at "m")=>`(tactic| with_reducible first | refine Exists.imp fun _=>?_ | refine And.imp_right ?_ | refine forall_imp fun _=>?_)
local macro_rules | `(tactic| walk_at "o")=>`(tactic| first | exact Or.inl rfl | exact Or.inr (Or.inl rfl) | exact Or.inr (Or.inr rfl))
local macro_rules | `(tactic| symm)=>`(tactic| first | exact .inl rfl | exact .inr rfl | assumption)
local macro_rules | `(tactic| right)=>`(tactic| first | exact Or.inl rfl | exact Or.inr rfl)
local macro_rules | `(tactic| exfalso)=>`(tactic| first | exact Fz _ (by decide) (by decide) | rfl)
theorem Nd:Xa P w base T.z49 1 (Gy K):=by
 refine T.z49.F.ok Rk (fun vs H Q E h=>by unfold Gy at h;walk_at "e") ?_;walk_at "f";unfold Gy at h;walk_at "g"
 rename_i a;obtain⟨ns,hs,q⟩:=h;refine⟨_,(@AI _ _ _ (@AR _ _ _ _ (@A6 _ _ _ _ (AA (AQ (A8 (K:=K)) (Ar (KW (K:=K)) rfl T.z_list (by rfl) (AA (QO (K:=K) (vv 0) Fy (Ij AD)) AB)) (AQ Ca (@A6 _ _ _ _ (AA AD AB)) (Ar GN rfl T.z_int (by rfl) (AA (Ba (kEq (K:=K) hu) (vv 0) (@A6 _ _ _ _ AB)) AB)))) (AA AD (AA AD (AA AD AB))))))),?_⟩;refine⟨63,rfl,_,.inl ⟨hs,fun p hp=>?_⟩⟩
 have ecut:BO (ns.map V.int) none (some 63)=(ns.take (HT.sIx ns.length ns.length (some 63))).map V.int:=by
  unfold BO;rw[ZC];simp[HT.sIx,List.map_take]
 rw[ecut];generalize hns:ns.take (HT.sIx ns.length ns.length (some 63))=ms
 have hms:ns≠[]->ms≠[]:=by
  intro Yr;rw[<- hns];cases ns with
  | nil=>exact absurd rfl Yr
  | cons x xs =>
   have e:HT.sIx (x::xs).length (x::xs).length (some 63)=min 63 (xs.length+1):=HT.sIx_nat _ _ 63;rw[e,show min 63 (xs.length+1)=(min 62 xs.length)+1 by lia,List.take_succ_cons];exact fun z=>nomatch z
 have hml:ms.length<=63:=by
  rw[<- hns,Zf];have e:HT.sIx ns.length ns.length (some 63)=min 63 ns.length:=HT.sIx_nat _ _ 63;lia
 refine⟨_,.inl (.of AC),fun p2 hp2=>?_⟩;have s2:Yc H (upd (upd H p (.lst (ms.map V.int))) p2 (.lst (ms.map V.int))):=(Yc.upd hp).trans (Yc.upd hp2);have g2:upd (upd H p (.lst (ms.map V.int))) p2 (.lst (ms.map V.int)) p2=some (.lst (ms.map V.int)):=AC;generalize upd (upd H p (.lst (ms.map V.int))) p2 (.lst (ms.map V.int))=H2 at *;refine⟨smq rfl,fun p3 hp3=>?_⟩;have s3:Yc H2 (upd H2 p3 (.lst [.int 0])):=Yc.upd hp3;have g3:upd H2 p3 (.lst [.int 0]) p3=some (.lst [.int 0]):=AC;generalize upd H2 p3 (.lst [.int 0])=H3 at *;refine⟨smq rfl,fun p4 hp4=>?_⟩;have s4:Yc H3 (upd H3 p4 (.lst [])):=Yc.upd hp4;have g4:upd H3 p4 (.lst []) p4=some (.lst []):=AC;generalize upd H3 p4 (.lst [])=H4 at *;have S4:=s2.trans (s3.trans s4);refine⟨.lst (ns.map Dv.int),.lst [],?_,?_,?_,?_⟩
 ·unfold Yh;exact⟨a,_,rfl,S4.sqL hs,Eb ns⟩
 ·unfold Yh;exact⟨p4,_,rfl,.of g4,AU⟩
 ·unfold AY;rw[Jz];lia
 have eb:eqD (.lst (ns.map Dv.int)) (.lst [])=decide (ns=[]):=by
  rw[FR];cases ns with
  | nil=>rfl
  | cons x xs=>rfl
 rw[eb]
 have fin:∀(k:Nat),k<=1->(ns=[]->k=1)->∀H5 p5,Yc H4 H5->H5 p5=some (.lst (List.replicate k (V.int 0)))->∃l b xs zs,V.ref p2=.ref l/\V.ref p5=.ref b/\H5 l=some (.lst xs)/\H5 b=some (.lst zs)/\xs.length+zs.length<=sizeLine/\∀p6,H5 p6=none ->
  4<=sizeLine/\∀p7,upd H5 p6 (.lst (xs++zs)) p7=none->Q (.ref p7) (upd (upd H5 p6 (.lst (xs++zs))) p7 (.lst [.ref p6,.int 0,.int 0,.int 0])):=by
  intro k hk hk1 H5 p5 s5 g5;refine⟨p2,p5,_,_,rfl,rfl,s5 _ _ (s4 _ _ (s3 _ _ g2)),g5,CF (by rw[ZC,ZBg];lia),fun p6 hp6=>⟨CF (by decide),fun p7 hp7=>?_⟩⟩;have S5:=S4.trans s5;have S6:=S5.trans (Yc.upd (o:=.lst (ms.map V.int++List.replicate k (V.int 0))) hp6);refine q p7 _ (S6.free hp7) (S6.trans (Yc.upd hp7)) ⟨p6,0,0,0,ms++List.replicate k 0,by decide,by decide,by decide,by decide,AC,?_,?_,?_⟩
  ·exact fun e=>by rw[<- e,AC]at hp7;cases hp7
  ·rw[AH (fun e=>by rw[<- e,AC]at hp7;cases hp7),AC];rw[ZN,List.map_replicate]
  ·rw[ZL,ZBg]
   by_cases Yr:ns=[]
   ·rw[hk1 Yr];lia
   ·have:=hms Yr
    have:ms.length≠0:=fun z=>this (ZB2.mp z)
    lia
 by_cases Yr:ns=[]
 ·rw[ZT Yr];refine⟨p3,1,_,rfl,rfl,s4 _ _ g3,by decide,by decide,CF (by decide),fun p5 hp5=>.inl ?_⟩;exact fin 1 (by decide) (fun _=>rfl) _ p5 (Yc.upd hp5) AC
 ·rw[Zx Yr];refine⟨p3,0,_,rfl,rfl,s4 _ _ g3,by decide,by decide,CF (by decide),fun p5 hp5=>.inl ?_⟩;exact fin 0 (by decide) (fun z=>absurd z Yr) _ p5 (Yc.upd hp5) AC
theorem J7:Xa P w base T.z47 1 Dc:=by
 refine T.z47.F.ok sc_z47 (fun vs H Q E h=>by unfold Dc at h;walk_at "e") ?_;walk_at "f"
 match vs,h with
 | [.ref t,.int m],h =>
 obtain⟨l,N,F,hN,hm,k⟩:=h;obtain⟨i,g,c,ns,i0,g0,c0,cN,ht,lt,hl,nl⟩:=F.at_;have hm0:0 < m:=hm.1;refine⟨_,(@AF _ _ _ _ _ (@Ct _ _ _ _ _ _ (AQ (A8 (K:=K)) (Yo (K:=K) (vv 0) AD) AD) (C1 (vv 0) AD C8) (by rfl) (by rfl) (by rfl)) (@AF _ _ _ _ _ (@AO _ _ 2 _ _ _ _ sc_z47.nd rfl (by right) (Yo (K:=K) (vv 0) AD) (by rfl) (by symm)) (@AF _ _ _ _ _ (@Aw _ _ _ _ _ _ _ _ (Ak (kEq (K:=K) hu) (Yo (K:=K) (vv 0) AD) AD) (@AF _ _ _ _ _ (@AO _ _ 3 _ _ _ _ sc_z47.nd rfl (by right) (Yo (K:=K) (Yo (K:=K) (vv 0) AD) (AQ Ck (Yo (K:=K) (vv 0) AD) (AX (BA (K:=K)) rfl T.z_len (by rfl) (AA (Yo (K:=K) (vv 0) AD) AB)))) (by rfl) (by symm)) (@AF _ _ _ _ _ (@Ct _ _ _ _ _ _ (AQ (A8 (K:=K)) (Yo (K:=K) (vv 0) AD) AD) (C1 (vv 0) AD C8) (by rfl) (by rfl) (by rfl)) (@AF _ _ _ _ _ (@Aw _ _ _ _ _ _ _ _ (Ak C3 (vv 3) (AQ Ks AD AD)) (@AF _ _ _ _ _ (@AO _ _ 4 _ _ _ _ sc_z47.nd rfl (by right) (AQ (A8 (K:=K)) (AQ (A8 (K:=K)) (AQ (A8 (K:=K)) (AQ Ck (vv 3) AD) (AQ Ca (AQ Ca AD (vv 2)) (vv 2))) (AQ Ca AD (vv 2))) AD) (by rfl) (by symm)) (@AF _ _ _ _ _ (@AO _ _ 4 _ _ _ _ sc_z47.nd rfl (by right) (AQ Ca (AQ D5 (AQ Ck (AQ Ca (vv 4) AD) AD) AD) AD) (by rfl) (by symm)) (@AI _ _ _ (@AR _ _ _ _ (AQ Ck (AQ D5 (AQ Ck (vv 4) AD) AD) (vv 1)))))) Av) (@AI _ _ _ (@Ct _ _ _ _ _ _ (vv 3) (C1 (vv 0) AD C8) (by rfl) (by rfl) (by rfl)))))) Av) (@AF _ _ _ _ _ (@AO _ _ 5 _ _ _ _ sc_z47.nd rfl (by right) (AQ Ck (Yo (K:=K) (vv 0) AD) (vv 1)) (by rfl) (by symm)) (@AF _ _ _ _ _ (@Ct _ _ _ _ _ _ (AQ D5 (Yo (K:=K) (vv 0) AD) (vv 1)) (C1 (vv 0) AD C8) (by rfl) (by rfl) (by rfl)) (@AI _ _ _ (@AR _ _ _ _ (vv 5)))))))),?_⟩;refine Ag (fun σ' H1=>σ'=[some (.ref t),some (.int m),none,none,none,none]/\(∀b,b≠t->H1 b=H b)/\H1 t=some (.lst [.ref l,.int i,.int g,.int (c+1)])) ?_ ?_ (by walk_at "sm")
 ·exact⟨_,_,.inl (.of ht),rfl,_,_,ht,rfl,rfl,fun b n=>AH n,AC⟩
 rintro σ' H1 ⟨rfl,f1,ht1⟩;refine⟨_,_,.inl (.of ht1),rfl,?_⟩;have hl1:H1 l=some (.lst (ns.map V.int)):=by rw[f1 l lt];exact hl
 have pos:(0:Int) < (ns.length:Int):=by lia
 dsimp only[Af];refine Ag (fun σ' H2=>∃(z3 z4:Option V) (i2 g2:Int),σ'=[some (.ref t),some (.int m),some (.int (c+1)),z3,z4,none]/\(∀b,b≠t->H2 b=H b)/\0<=i2/\0<=g2/\H2 t=some (.lst [.ref l,.int i2,.int g2,.int (c+1)])) ?_ ?_ (by walk_at "sm")
 ·refine⟨_,_,.inl (.of ht1),rfl,?_⟩;refine Ao (fun e=>?_) (fun e=>⟨none,none,i,g,rfl,f1,i0,g0,ht1⟩);obtain⟨z,hz⟩:=RV (ns:=ns) (Int.emod_nonneg i (show(ns.length:Int)≠0 by lia)) (Int.emod_lt_of_pos i pos);refine Ag (fun σ' H2=>σ'=[some (.ref t),some (.int m),some (.int (c+1)),some (.int z),none,none]/\H1=H2) ?_ ?_ (by walk_at "sm")
  ·exact⟨_,_,.inl (.of ht1),rfl,_,_,.inl (.of ht1),rfl,_,_,.inl (.of ht1),rfl,ns.length,.inl ⟨_,.of hl1,by rw[ZC]⟩,pos,_,_,.inl (.of hl1),hz,rfl,rfl⟩
  rintro σ' _ ⟨rfl,rfl⟩;refine Ag (fun σ' H2=>σ'=[some (.ref t),some (.int m),some (.int (c+1)),some (.int z),none,none]/\(∀b,b≠t->H2 b=H b)/\H2 t=some (.lst [.ref l,.int (i+1),.int g,.int (c+1)])) ?_ ?_ (by walk_at "sm")
  ·exact⟨_,_,.inl (.of ht1),rfl,_,_,ht1,rfl,rfl,fun b n=>by rw[AH n];exact f1 b n,AC⟩
  rintro σ' H2 ⟨rfl,f2,ht2⟩;refine Ag (fun σ' H3=>σ'=[some (.ref t),some (.int m),some (.int (c+1)),some (.int z),none,none]/\H2=H3/\¬z < 1000000000000000000) ?_ ?_ (by walk_at "sm")
  ·refine⟨⟨by decide,by decide,by decide⟩,?_⟩;refine Ao (fun e=>?_) (fun e=>⟨rfl,rfl,?_⟩)
   ·refine⟨by decide,.inr (.inl ⟨by decide,by decide⟩),.inr (.inl ⟨by lia,by lia⟩),.inr (.inl ⟨by decide,by decide⟩),?_⟩;refine⟨.inr (.inr ⟨by decide,by decide⟩),by decide,An (by decide) (by decide),.inr (.inr ⟨by decide,by decide⟩),?_⟩;refine⟨by decide,An (by decide) (by decide),hm0,?_⟩;exact k _ _ (Int.emod_nonneg _ (by lia)) (Int.emod_lt_of_pos _ hm0) ⟨i+1,g,c+1,ns,by lia,g0,by lia,by lia,ht2,lt,by rw[f2 l lt];exact hl,nl⟩ f2
   ·intro z';exact e (ZT z')
  rintro σ' _ ⟨rfl,rfl,hz2⟩;exact⟨_,_,ht2,rfl,_,_,_,_,rfl,fun b n=>by rw[AH n];exact f2 b n,show 0<=i+1 by lia,show 0<=z by lia,AC⟩
 rintro σ' H2 ⟨z3,z4,i2,g2,rfl,f2,i0',g0',ht2⟩;refine⟨_,_,.inl (.of ht2),rfl,hm0,?_⟩;dsimp only[Af];refine⟨_,_,.inl (.of ht2),rfl,hm,_,_,ht2,rfl,?_⟩;refine k _ _ (Int.emod_nonneg _ (by lia)) (Int.emod_lt_of_pos _ hm0) ⟨i2,g2 / m,c+1,ns,i0',Int.ediv_nonneg g0' (by lia),by lia,by lia,AC,lt,?_,nl⟩ (fun b n=>by rw[AH n];exact f2 b n);rw[AH lt,f2 l lt];exact hl
theorem C9:Xa P w base T.z47 1 EV:=(J7 T).imp QM
noncomputable def One(L:Nat->Int)(S:Nat->Bool):Prop:=∀i j,S i=true->S j=true->L i=L j
noncomputable def Can(L:Nat->Int)(Y:List (Nat->Bool)):Nat->(Nat->Bool)->Prop
 | 0,S=>One L S
 | n+1,S=>One L S\/∃y∈Y,Can L Y n (fun k=>S k && y k)/\Can L Y n (fun k=>S k && !y k)
section
variable {L L':Nat->Int}{Y Y':List (Nat->Bool)}{S S':Nat->Bool}{n m a b c:Nat}
theorem Kc(h:∀k,S' k=true->S k=true)(o:One L S):One L S':=fun i j x y=>o i j (h i x) (h j y)
theorem Bw:∀{n:Nat} {S S':Nat->Bool},(∀k,S' k=true->S k=true)->Can L Y n S->Can L Y n S'
 | 0,_,_,h,o=>Kc h o
 | n+1,S,S',h,.inl o=>.inl (Kc h o)
 | n+1,S,S',h,.inr ⟨y,hy,p,q⟩=>.inr ⟨y,hy,Bw (fun k z=>by simp only[ZY]at z ⊢;exact⟨h k z.1,z.2⟩) p,Bw (fun k z=>by simp only[ZY]at z ⊢;exact⟨h k z.1,z.2⟩) q⟩
theorem IL:∀{n:Nat} {S:Nat->Bool},Can L Y n S->Can L Y (n+1) S
 | 0,_,o=>.inl o
 | n+1,S,.inl o=>.inl o
 | n+1,S,.inr ⟨y,hy,p,q⟩=>.inr ⟨y,hy,IL p,IL q⟩
theorem EQ(h:n<=m)(p:Can L Y n S):Can L Y m S:=by
 induction h with
 | refl=>exact p
 | step _ ih=>exact IL ih
noncomputable def AW(L:Nat->Int)(Y:List (Nat->Bool))(S:Nat->Bool)(m:Nat):Prop:=Can L Y m S/\∀n,Can L Y n S->m<=n
theorem EU(x:AW L Y S a)(y:AW L Y S b):a=b:=Nat.le_antisymm (x.2 _ y.1) (y.2 _ x.1)
theorem NG(x:AW L Y S a):a=0 ↔ One L S :=
 ⟨fun e=>by subst e;exact x.1,fun o=>Nat.le_zero.mp (x.2 0 o)⟩
theorem U9{y:Nat->Bool}(hy:y∈Y)(x:AW L Y S a)(p:AW L Y (fun k=>S k && y k) b)(q:AW L Y (fun k=>S k && !y k) c):a<=1+max b c:=by
 rw[Nat.add_comm];exact x.2 (max b c+1) (.inr ⟨y,hy,EQ (Nat.le_max_left ..) p.1,EQ (Nat.le_max_right ..) q.1⟩)
noncomputable def A0(S y:Nat->Bool):Prop:=(∃k,S k=true/\y k=true)/\∃k,S k=true/\y k=false
theorem not_parts{y:Nat->Bool}(h:¬A0 S y):(∀k,S k=true->(S k && y k)=true)\/∀k,S k=true->(S k && !y k)=true:=by
 by_cases z:∃k,S k=true/\y k=true
 ·refine .inl fun k hk=>?_
  rw[hk,Bool.true_and];cases e:y k with
  | true=>rfl
  | false=>exact absurd ⟨z,k,hk,e⟩ h
 ·refine .inr fun k hk=>?_
  rw[hk,Bool.true_and];cases e:y k with
  | false=>rfl
  | true=>exact absurd ⟨k,hk,e⟩ z
theorem IM(ho:¬One L S):∀{n:Nat},Can L Y n S->∃y∈Y,A0 S y
 | 0,o=>absurd o ho
 | n+1,.inl o=>absurd o ho
 | n+1,.inr ⟨y,hy,p,q⟩=>by
  by_cases h:A0 S y
  ·exact⟨y,hy,h⟩
  ·rcases not_parts h with z | z
   ·exact IM ho (Bw z p)
   ·exact IM ho (Bw z q)
theorem RU (ho:¬One L S) (h1:∃y∈Y,A0 S y/\∃b c,AW L Y (fun k=>S k && y k) b/\AW L Y (fun k=>S k && !y k) c/\m=max b c)
 (h2:∀y∈Y,A0 S y->∃b c,AW L Y (fun k=>S k && y k) b/\AW L Y (fun k=>S k && !y k) c/\m<=max b c):AW L Y S (1+m):=by
 constructor
 ·obtain⟨y,hy,hp,b,c,p,q,e⟩:=h1;rw[Nat.add_comm];exact .inr ⟨y,hy,EQ (by rw[e];exact Nat.le_max_left ..) p.1,EQ (by rw[e];exact Nat.le_max_right ..) q.1⟩
 ·intro n
  induction n with
  | zero=>exact fun o=>absurd o ho
  | succ n ih =>
   rintro(o | ⟨y,hy,p,q⟩)
   ·exact absurd o ho
   ·by_cases h:A0 S y
    ·obtain⟨b,c,p',q',hm⟩:=h2 y hy h;have x1:=p'.2 _ p;have x2:=q'.2 _ q;lia
    ·rcases not_parts h with z | z
     ·exact Nat.le_succ_of_le (ih (Bw z p))
     ·exact Nat.le_succ_of_le (ih (Bw z q))
theorem Pw:∀{n:Nat} {S:Nat->Bool} (ds:List Int),Can L Y n S->ds.Nodup->(∀d∈ds,∃k,S k=true/\L k=d)->ds.length<=2 ^ n:=by
 have one:∀{S:Nat->Bool} (ds:List Int),One L S->ds.Nodup->(∀d∈ds,∃k,S k=true/\L k=d)->ds.length<=1:=by
  intro S ds o nd h
  match ds,nd,h with
  | [],_,_=>exact ZP _
  | [_],_,_=>exact ZD _
  | x::y::r,nd,h =>
   obtain⟨i,hi,ei⟩:=h x (by simp);obtain⟨j,hj,ej⟩:=h y (by simp)
   have:=o i j hi hj
   rw[ei,ej]at this;simp[this]at nd
 intro n
 induction n with
 | zero=>exact fun ds o nd h=>one ds o nd h
 | succ n ih =>
  intro S ds c nd h
  rcases c with o | ⟨y,hy,p,q⟩
  ·exact Za (one ds o nd h) Nat.one_le_two_pow
  ·classical
   have e:ds.length=(ds.filter fun d=>decide (∃k,(S k && y k)=true/\L k=d)).length+(ds.filter fun d=>!decide (∃k,(S k && y k)=true/\L k=d)).length:=by
    clear nd h
    induction ds with
    | nil=>rfl
    | cons x r ih2 =>
     rw[List.filter_cons,List.filter_cons];cases decide (∃k,(S k && y k)=true/\L k=x) <;> simp[ih2] <;> lia
   have a1:=ih (ds.filter fun d=>decide (∃k,(S k && y k)=true/\L k=d)) p (nd.filter _) fun d hd=>by
    have:=(Zm.mp hd).2
    exact ZZ this
   have a2:=ih (ds.filter fun d=>!decide (∃k,(S k && y k)=true/\L k=d)) q (nd.filter _) fun d hd=>by
    obtain⟨h1,h2⟩:=Zm.mp hd;obtain⟨k,hk,ek⟩:=h d h1;refine⟨k,?_,ek⟩;cases z:y k with
    | false=>rw[hk];rfl
    | true =>
     have:decide (∃k,(S k && y k)=true/\L k=d)=true:=ZT ⟨k,by rw[hk,z];rfl,ek⟩
     rw[this]at h2;cases h2
   rw[Nat.pow_succ];lia
noncomputable def Au(N:Nat)(S:Nat->Bool):Nat:=((List.range N).filter S).length
theorem Do(N:Nat)(S:Nat->Bool):Au (N+1) S=Au N S+if S N=true then 1 else 0:=by
 unfold Au;rw[ZBM,ZBp,ZL];cases h:S N <;> simp[h]
theorem Iv(N:Nat)(S y:Nat->Bool):Au N S=Au N (fun k=>S k && y k)+Au N (fun k=>S k && !y k):=by
 induction N with
 | zero=>rfl
 | succ N ih =>
  rw[Do,Do,Do,ih];cases S N <;> cases y N <;> simp <;> lia
theorem ER{S:Nat->Bool}(hk:k < N)(hs:S k=true):1<=Au N S:=List.length_pos_of_mem (Zm.mpr ⟨Zn.mpr hk,hs⟩)
theorem Ub{S:Nat->Bool}(hi:i < N)(hj:j < N)(si:S i=true)(sj:S j=true)(ne:i≠j):2<=Au N S:=by
 rw[Iv N S (fun k=>k == i)]
 have:=ER (S:=fun k=>S k && k == i) hi (by simp[si])
 have:=ER (S:=fun k=>S k && !(k == i)) hj (by simp[sj,Ne.symm ne])
 lia
theorem Ls(hS:∀k,S k=true->k < N){y:Nat->Bool}(h:A0 S y):Au N (fun k=>S k && y k) < Au N S/\Au N (fun k=>S k && !y k) < Au N S:=by
 obtain⟨⟨i,hi,yi⟩,j,hj,yj⟩:=h
 have:=Iv N S y
 have:=ER (S:=fun k=>S k && y k) (hS i hi) (by simp[hi,yi])
 have:=ER (S:=fun k=>S k && !y k) (hS j hj) (by simp[hj,yj])
 lia
theorem Kz(he:∀i j,i < N->j < N->(∀y∈Y,y i=y j)->L i=L j):∀(n:Nat) (S:Nat->Bool),(∀k,S k=true->k < N)->Au N S<=n+1->Can L Y n S:=by
 intro n
 induction n with
 | zero =>
  intro S hS hc i j hi hj
  by_cases e:i=j
  ·rw[e]
  ·have:=Ub (hS i hi) (hS j hj) hi hj e
   lia
 | succ n ih =>
  intro S hS hc
  by_cases o:One L S
  ·exact .inl o
  ·have:∃i j,S i=true/\S j=true/\L i≠L j:=by
    refine Classical.byContradiction fun z=>o fun i j hi hj=>Classical.byContradiction fun q=>z ⟨i,j,hi,hj,q⟩
   obtain⟨i,j,hi,hj,ne⟩:=this
   have:∃y∈Y,y i≠y j:=by
    refine Classical.byContradiction fun z=>ne (he i j (hS i hi) (hS j hj) fun y hy=>Classical.byContradiction fun q=>z ⟨y,hy,q⟩)
   obtain⟨y,hy,Yr⟩:=this
   have hp:A0 S y:=by
    cases yi:y i with
    | true =>
     refine⟨⟨i,hi,yi⟩,j,hj,?_⟩;cases yj:y j with
     | false=>rfl
     | true=>rw[yi,yj]at Yr;exact absurd rfl Yr
    | false =>
     refine⟨⟨j,hj,?_⟩,i,hi,yi⟩;cases yj:y j with
     | true=>rfl
     | false=>rw[yi,yj]at Yr;exact absurd rfl Yr
   obtain⟨c1,c2⟩:=Ls hS hp;exact .inr ⟨y,hy,ih _ (fun k z=>hS k (by simp only[ZY]at z;exact z.1)) (by lia),ih _ (fun k z=>hS k (by simp only[ZY]at z;exact z.1)) (by lia)⟩
theorem Md:∀{n:Nat} {S:Nat->Bool},Can L Y n S->∃m,AW L Y S m:=by
 intro n S h
 induction n with
 | zero=>exact⟨0,h,fun _ _=>ZP _⟩
 | succ n ih =>
  by_cases z:Can L Y n S
  ·exact ih z
  ·exact⟨n+1,h,fun k hk=>by
    rcases Z1 k (n+1) with q | q
    ·exact absurd (EQ (by lia) hk) z
    ·exact q⟩
end
noncomputable def msk(ts:List Nat):Nat:=(ts.map (2 ^ ·)).sum
theorem D7(t:Nat)(ts:List Nat):msk (t::ts)=2 ^ t+msk ts:=by unfold msk;rw[Zi,List.sum_cons]
theorem Uf(ts us:List Nat):msk (ts++us)=msk ts+msk us:=by unfold msk;rw[ZN,List.sum_append]
theorem Lz:∀(ts:List Nat) (N:Nat),ts.Pairwise (fun a b=>b < a)->(∀t∈ts,t < N)->msk ts < 2 ^ N/\∀k,(msk ts).testBit k=decide (k∈ts)
 | [],N,_,_=>⟨ZBd N,fun k=>by simp[msk]⟩
 | t::ts,N,hp,hl=>by
  obtain⟨h1,h2⟩:=ZB1.mp hp;obtain⟨i1,i2⟩:=Lz ts t h2 h1;rw[D7];have ht:t < N:=hl t (by simp);have e2:2 ^ t+2 ^ t<=2 ^ N:=by rw[<- Nat.two_mul,Nat.mul_comm,<- Nat.pow_succ];exact Zj (by decide) ht
  refine⟨by lia,fun k=>?_⟩
  rcases Z2 k t with z | z | z
  ·rw[Nat.testBit_two_pow_add_gt z,i2 k];simp only[ZI,show k≠t by lia,false_or]
  ·subst z;rw[Nat.testBit_two_pow_add_eq,i2 k]
   have:k∉ts:=fun q=>Zc _ (h1 k q)
   simp[this]
  ·have:2 ^ t+msk ts < 2 ^ k:=by
    have:2 ^ (t+1)<=2 ^ k:=Zj (by decide) z
    rw[Nat.pow_succ]at this;lia
   rw[Nat.testBit_lt_two_pow this];have h3:k∉ts:=fun q=>Zc _ (ZBF z (h1 k q))
   simp[h3,show k≠t by lia]
theorem RO(ts:List Nat):msk ts.reverse=msk ts:=by
 induction ts with
 | nil=>rfl
 | cons t ts ih=>rw[List.reverse_cons,Uf,ih,D7,D7];simp[msk];lia
theorem Bo(hp:ts.Pairwise (· < ·))(hl:∀t∈ts,t < N):msk ts < 2 ^ N/\∀k,(msk ts).testBit k=decide (k∈ts):=by
 have:=Lz ts.reverse N (List.pairwise_reverse.mpr hp) (fun t ht=>hl t (List.mem_reverse.mp ht))
 rw[RO]at this;exact⟨this.1,fun k=>by rw[this.2 k];simp⟩
theorem Gx(x y k:Nat):(x - (x &&& y)).testBit k=(x.testBit k && !y.testBit k):=by
 have e:x - (x &&& y)=x ^^^ (x &&& y):=by
  have h:∀(n x y:Nat),x < 2 ^ n->(x ^^^ (x &&& y))+(x &&& y)=x:=by
   intro n
   induction n with
   | zero=>intro x y h;have:x=0:=by simpa using h
           subst this;simp
   | succ n ih =>
    intro x y h;have i:=ih (x / 2) (y / 2) (by rw[Nat.pow_succ]at h;lia);have d1:(x ^^^ (x &&& y)) / 2=x / 2 ^^^ (x / 2 &&& y / 2):=by rw[Nat.xor_div_two,Nat.and_div_two]
    have d2:(x &&& y) / 2=x / 2 &&& y / 2:=Nat.and_div_two
    have m1:(x ^^^ (x &&& y)) % 2+(x &&& y) % 2=x % 2:=by
     have g:∀z:Nat,z % 2=(z.testBit 0).toNat:=fun z=>by rw[Nat.toNat_testBit,Nat.pow_zero,Nat.div_one]
     rw[g,g (x &&& y),g x,Nat.testBit_xor,ZBP];cases x.testBit 0 <;> cases y.testBit 0 <;> rfl
    lia
  have:=h x x y Nat.lt_two_pow_self
  lia
 rw[e,Nat.testBit_xor,ZBP];cases x.testBit k <;> cases y.testBit k <;> rfl
theorem Ey(S y:Nat):(S &&& y).testBit=fun k=>S.testBit k && y.testBit k:=funext fun k=>ZBP ..
theorem FK(S y:Nat):(S - (S &&& y)).testBit=fun k=>S.testBit k && !y.testBit k:=funext fun k=>Gx ..
theorem EJ(h:S < 2 ^ n)(hk:S.testBit k=true):k < n:=by
 rcases Z1 k n with z | z
 ·exact z
 ·rw[Nat.testBit_lt_two_pow (ZS h (Zj (by decide) z))]at hk;cases hk
noncomputable def HC:Sp:=fun vs H Q _=>match vs with
 | [.int b,.int t]=>∃m:Nat,t=m/\m<=64/\((-(2 ^ 64) < b/\b < 2 ^ 64)\/(Nb b 100/\m<=12))/\Q (.int (b ^ m)) H
 | _=>False
theorem PJ:Xa P w base T.z51 1 HC:=by
 refine T.z51.F.ok sc_z51 (fun vs H Q E h=>by unfold HC at h;walk_at "e") ?_;walk_at "f";unfold HC at h;walk_at "g"
 rename_i b t;obtain⟨m,e1,h1,b1,q⟩:=h;subst e1;refine⟨_,(@AF _ _ _ _ _ (@AO _ _ 2 _ _ _ _ sc_z51.nd rfl (by right) AD (by rfl) (by symm)) (@AF _ _ _ _ _ (@Bq _ _ _ _ _ _ _ _ PassesOwn.never rfl (A3 rfl T.z_range (AA (vv 1) AB)) (AT (i:=3) sc_z51.nd rfl (by right)) (@AI _ _ _ (@AO _ _ 2 _ _ _ _ sc_z51.nd rfl (by right) (AQ Ca (vv 2) (vv 0)) (by rfl) (by symm))) (by intro _;rfl)) (@AI _ _ _ (@AR _ _ _ _ (vv 2))))),?_⟩;refine⟨m,rfl,by lia,by lia,?_⟩;refine CK (fun i σ H'=>H'=H/\∃z:Option V,σ=[some (.int b),some (.int m),some (.int (b ^ i)),z]) ⟨rfl,none,by rw[Int.pow_zero];rfl⟩ ?_ ?_
 ·rintro i σ H' hi ⟨rfl,z,rfl⟩;have hi':i < m:=by lia
  have okm:okMul (b ^ i) b:=by
   rcases b1 with b1 | ⟨b1,b2⟩
   ·exact .inr (.inr b1)
   ·exact Nb.okMul ((b1.pow i).up (by lia)) (b1.up (by lia))
  refine⟨okm,rfl,some (.int (0+(i:Int))),?_⟩;rw[Int.pow_succ];rfl
 ·rintro σ H' ⟨rfl,z,rfl⟩
  have:(m:Int).toNat=m:=by lia
  rw[this];exact q
noncomputable def GJ:Sp:=fun vs H Q _=>match vs with
 | [.int n]=>∃m:Nat,n=m/\m<=64/\Q (.int (2 ^ m:Nat)) H
 | _=>False
theorem HW:Xa P w base T.z53 2 GJ:=by
 refine T.z53.F.ok Se (fun vs H Q E h=>by unfold GJ at h;walk_at "e") ?_;walk_at "f";unfold GJ at h;walk_at "g"
 rename_i n;obtain⟨m,e1,h1,q⟩:=h;subst e1;refine⟨_,(@AI _ _ _ (@AR _ _ _ _ (AJ (@PJ P w K mg base T) (hr.mono (show 1<=_ by decide)) rfl T.z51.m T.z51.F.kp T.z51.b .nil AG (AA AD (AA (vv 0) AB))))),?_⟩;refine⟨m,rfl,h1,.inl ⟨by decide,by decide⟩,?_⟩;have e:(2:Int) ^ m=((2 ^ m:Nat):Int):=by rw[Int.natCast_pow];rfl
 rw[e];exact q
noncomputable def Hs:Sp:=fun vs H Q _=>match vs with
 | [.int x,.int y]=>∃a b:Nat,x=a/\y=b/\Q (.bl (decide (a &&& b=a))) H
 | _=>False
theorem OJ:Xa P w base T.z52 1 Hs:=by
 refine T.z52.F.ok Rp (fun vs H Q E h=>by unfold Hs at h;walk_at "e") ?_;walk_at "f";unfold Hs at h;walk_at "g"
 rename_i x y;obtain⟨a,b,e1,e2,q⟩:=h;subst e1 e2;refine⟨_,(@AI _ _ _ (@AR _ _ _ _ (Ba (kEq (K:=K) hu) (AQ Eg (vv 0) (vv 1)) (vv 0)))),?_⟩
 have e:(false ^^ (Builtin.bitAnd (a:Int) (b:Int) == (a:Int)))=decide (a &&& b=a):=by
  rw[HF,Zs,ZBB];simp only[beq_iff_eq,decide_eq_true_eq];lia
 show Q (.bl (false ^^ (Builtin.bitAnd (a:Int) (b:Int) == (a:Int)))) H;rw[e];exact q
noncomputable def whr(bs:List Bool)(n:Nat):List Nat:=(List.range n).filter (gB bs)
theorem MM(bs:List Bool)(n:Nat):whr bs (n+1)=whr bs n++(if gB bs n=true then [n] else []):=by
 unfold whr;rw[ZBM,ZBp];cases h:gB bs n <;> simp[h]
theorem FO(bs:List Bool)(n:Nat):(whr bs n).length<=n:=by
 have:=ZBq (gB bs) (List.range n)
 rw[Z8]at this;exact this
theorem J4(bs:List Bool)(n:Nat):(whr bs n).Pairwise (· < ·):=List.Pairwise.filter _ ZBn
theorem E1{bs:List Bool}{t:Nat}(h:t∈whr bs n):t < n:=Zn.mp (Zm.mp h).1
theorem KH{bs:List Bool}{t:Nat}:t∈whr bs n ↔ t < n/\gB bs t=true:=by unfold whr;rw[Zm,Zn]
noncomputable def IU(K:W.Frag):Sp:=fun vs H Q _=>match vs with
 | [.bl b,.ref p]=>∃rb:List Bool,Yq K H p (rb.map V.bl)/\rb.length<=100/\GS H Q (iL (whr (rb.map (· == b)) rb.length))
 | [.int z,.ref p]=>∃ls:List Int,Yq K H p (ls.map V.int)/\ls.length<=100/\GS H Q (iL (whr (ls.map (· == z)) ls.length))
 | _=>False
theorem Ew{α:Type}{f:α->Bool}{l:List α}{x:α}(h:l[i]? = some x):gB (l.map f) i=f x:=by
 unfold gB;rw[ZV,ZR,h];rfl
theorem UA:Xa P w base T.z30 1 (IU K):=by
 refine T.z30.F.ok SC (fun vs H Q E h=>by unfold IU at h;walk_at "e") ?_;walk_at "f";unfold IU at h;split at h
 ·rename_i b p;obtain⟨rb,hp,hl,q⟩:=h;refine⟨_,(@AI _ _ _ (@AR _ _ _ _ (@Aq _ _ _ _ _ _ _ (["member","each","wanted"]) 2 [0] _ _ _ _ rfl (NS (K:=K) rfl T.z_enumerate (AA (vv 1) AB)) (by kernel_rfl) rfl rfl (by kernel_rfl) (fun c=>JD (K:=K) (n:=2) rfl (CO (AT (i:=0) (show(["member","each","wanted"]:List Str).Nodup by decide +kernel) rfl (by right)) (CO (AT (i:=1) (show(["member","each","wanted"]:List Str).Nodup by decide +kernel) rfl (by right)) E6))) (Hw (Df CM (Fg CM Cz) (Ah (by decide)) (Df CM Cz (Ah (by decide)) Fq))) (fun c=>Dt (Ak (kEq (K:=K) hu) (vv 1) (vv 2))) (fun c=>(vv 0)) (by intro _;rfl)))),?_⟩;refine⟨⟨_,hp⟩,?_⟩
  refine MX (xs:=rb.map V.bl) (fun i zs H'=>Yc H H'/\zs=iL (whr (rb.map (· == b)) i)) ⟨Yc.refl _,rfl⟩ (fun i zs H' _ ⟨s,_⟩=>s.sqT hp) (fun i zs H' hi ⟨_,e⟩=>by
   rw[ZC]at hi
   have:=FO (rb.map (· == b)) i
   rw[e,At];exact Ad (by lia)) ?_ ?_
  ·rintro i x zs H2 pp hx ⟨s2,rfl⟩ hpp;rw[ZR]at hx;cases e0:rb[i]? with
   | none=>rw[e0]at hx;cases hx
   | some r =>
    rw[e0]at hx;cases hx;have eg:gB (rb.map (· == b)) i=(r == b):=Ew e0;refine⟨pp,_,rfl,.of AC,rfl,_,_,rfl,_,_,rfl,rfl,?_⟩;rw[MM,Bt,eg];refine Ao (fun e=>?_) (fun e=>?_)
    ·have e':(r == b)=true:=by rw[<- Zs (r == b)];exact e
     rw[if_pos e'];exact⟨s2.trans (Yc.upd hpp),rfl⟩
    ·have e':¬(r == b)=true:=by rw[<- Zs (r == b)];exact e
     rw[if_neg e'];exact⟨s2.trans (Yc.upd hpp),by show _=_++[];rw[Zy]⟩
  ·rintro zs H2 ⟨s2,rfl⟩ l hl;rw[ZC];exact q l _ (s2.free hl) (s2.trans (Yc.upd hl)) AC
 ·rename_i b p;obtain⟨rb,hp,hl,q⟩:=h;refine⟨_,(@AI _ _ _ (@AR _ _ _ _ (@Aq _ _ _ _ _ _ _ (["member","each","wanted"]) 2 [0] _ _ _ _ rfl (NS (K:=K) rfl T.z_enumerate (AA (vv 1) AB)) (by kernel_rfl) rfl rfl (by kernel_rfl) (fun c=>JD (K:=K) (n:=2) rfl (CO (AT (i:=0) (show(["member","each","wanted"]:List Str).Nodup by decide +kernel) rfl (by right)) (CO (AT (i:=1) (show(["member","each","wanted"]:List Str).Nodup by decide +kernel) rfl (by right)) E6))) (Hw (Df CM (Fg CM Cz) (Ah (by decide)) (Df CM Cz (Ah (by decide)) Fq))) (fun c=>Dt (Ak (kEq (K:=K) hu) (vv 1) (vv 2))) (fun c=>(vv 0)) (by intro _;rfl)))),?_⟩;refine⟨⟨_,hp⟩,?_⟩
  refine MX (xs:=rb.map V.int) (fun i zs H'=>Yc H H'/\zs=iL (whr (rb.map (· == b)) i)) ⟨Yc.refl _,rfl⟩ (fun i zs H' _ ⟨s,_⟩=>s.sqT hp) (fun i zs H' hi ⟨_,e⟩=>by
   rw[ZC]at hi
   have:=FO (rb.map (· == b)) i
   rw[e,At];exact Ad (by lia)) ?_ ?_
  ·rintro i x zs H2 pp hx ⟨s2,rfl⟩ hpp;rw[ZR]at hx;cases e0:rb[i]? with
   | none=>rw[e0]at hx;cases hx
   | some r =>
    rw[e0]at hx;cases hx;have eg:gB (rb.map (· == b)) i=(r == b):=Ew e0;refine⟨pp,_,rfl,.of AC,rfl,_,_,rfl,_,_,rfl,rfl,?_⟩;rw[MM,Bt,eg];refine Ao (fun e=>?_) (fun e=>?_)
    ·have e':(r == b)=true:=by rw[<- Zs (r == b)];exact e
     rw[if_pos e'];exact⟨s2.trans (Yc.upd hpp),rfl⟩
    ·have e':¬(r == b)=true:=by rw[<- Zs (r == b)];exact e
     rw[if_neg e'];exact⟨s2.trans (Yc.upd hpp),by show _=_++[];rw[Zy]⟩
  ·rintro zs H2 ⟨s2,rfl⟩ l hl;rw[ZC];exact q l _ (s2.free hl) (s2.trans (Yc.upd hl)) AC
 ·exact h.elim
noncomputable def SqI(K:W.Frag)(H:Hp)(p:Addr)(ts:List Nat):Prop:=Yt K H p (iL ts)\/Yq K H p (iL ts)
noncomputable def Gg(K:W.Frag):Sp:=fun vs H Q _=>match vs with
 | [.ref p]=>∃ts:List Nat,SqI K H p ts/\ts.length<=64/\(∀t∈ts,t<=60)/\∀H',Yc H H'->Q (.int (msk ts:Nat)) H'
 | _=>False
theorem O2(ts:List Nat):(ts.map fun t=>((2 ^ t:Nat):Int)).sum=(msk ts:Nat):=by
 induction ts with
 | nil=>rfl
 | cons t ts ih=>rw[Zi,List.sum_cons,ih,D7];lia
theorem Ug:Xa P w base T.z37 3 (Gg K):=by
 refine T.z37.F.ok Ra (fun vs H Q E h=>by unfold Gg at h;walk_at "e") ?_;walk_at "f";unfold Gg at h;walk_at "g"
 rename_i p;obtain⟨ts,hp,hl,hb,q⟩:=h;refine⟨_,(@AI _ _ _ (@AR _ _ _ _ (AX (OI (K:=K) rfl) rfl T.z_sum (by rfl) (AA (@Aq _ _ _ _ _ _ _ ["member"] 1 [] _ _ _ _ rfl (BB (K:=K) (vv 0)) (by kernel_rfl) rfl rfl (by kernel_rfl) (fun c=>AT (i:=0) (show(["member"]:List Str).Nodup by decide +kernel) rfl (by right)) (Ah (by decide)) (fun c=>Ap) (fun c=>(AJ (@HW P w K mg base T) (hr.mono (show 2<=_ by decide)) rfl T.z53.m T.z53.F.kp T.z53.b .nil AG (AA (vv 0) AB))) (by intro _;rfl)) AB)))),?_⟩
 have turn:∀(k:Nat) (x:V) (ys:List V) (H':Hp),(iL ts)[k]? = some x->(Yc H H'/\ys=(ts.take k).map fun t=>V.int ((2 ^ t:Nat):Int))->∃t:Nat,x=.int (t:Nat)/\t<=60/\(ts.take (k+1)).map (fun t=>V.int ((2 ^ t:Nat):Int))=ys++[V.int ((2 ^ t:Nat):Int)]:=by
  rintro k x ys H' hx ⟨_,rfl⟩;obtain⟨t,ht,hmem,rfl⟩:=CW hx;refine⟨t,rfl,hb t hmem,?_⟩;rw[ZBC,ht,ZN];rfl
 have fin:∀(ys:List V) (H':Hp),(Yc H H'/\ys=(ts.take (iL ts).length).map fun t=>V.int ((2 ^ t:Nat):Int))->∀l,H' l=none->∃ns:List Int,Yt K (upd H' l (.lst ys)) l (ns.map V.int)/\Q (.int ns.sum) (upd H' l (.lst ys)):=by
  rintro ys H' ⟨s1,rfl⟩ l hl;refine⟨ts.map fun t=>((2 ^ t:Nat):Int),?_,?_⟩
  ·rw[Z3,At,ZBY];exact .of AC
  ·rw[O2];exact q _ (s1.trans (Yc.upd hl))
 rcases hp with hp | hp
 ·refine .inl ⟨⟨_,hp⟩,?_⟩
  refine B1 (xs:=iL ts) (fun k ys H'=>Yc H H'/\ys=(ts.take k).map fun t=>V.int ((2 ^ t:Nat):Int)) ⟨Yc.refl _,rfl⟩ (fun k ys H' _ ⟨s,_⟩=>s.sqL hp) (fun k ys H' hk ⟨_,e⟩=>by
   rw[At]at hk;rw[e,ZC,Zf];exact Ad (by lia)) ?_ ?_
  ·intro k x ys H' hx hP;obtain⟨t,rfl,t60,e⟩:=turn k x ys H' hx hP;refine⟨t,rfl,by lia,?_⟩;exact⟨hP.1,e.symm⟩
  ·exact fin
 ·refine .inr ⟨⟨_,hp⟩,?_⟩
  refine Cg (xs:=iL ts) (fun k ys H'=>Yc H H'/\ys=(ts.take k).map fun t=>V.int ((2 ^ t:Nat):Int)) ⟨Yc.refl _,rfl⟩ (fun k ys H' _ ⟨s,_⟩=>s.sqT hp) (fun k ys H' hk ⟨_,e⟩=>by
   rw[At]at hk;rw[e,ZC,Zf];exact Ad (by lia)) ?_ ?_
  ·intro k x ys H' hx hP;obtain⟨t,rfl,t60,e⟩:=turn k x ys H' hx hP;refine⟨t,rfl,by lia,?_⟩;exact⟨hP.1,e.symm⟩
  ·exact fin
noncomputable def AE(ls:List Int)(k:Nat):Int:=ls.getD k 0
noncomputable def Al(ys:List Nat):List (Nat->Bool):=ys.map Nat.testBit
noncomputable def BR(a b c d:V):List (Str × V):=[("labels",a),("yeses",b),("alike",c),("known",d)]
theorem lk1(a b c d:V):(BR a b c d).lookup ("labels" : Str)=some a:=by rfl
theorem lk2(a b c d:V):(BR a b c d).lookup ("yeses" : Str)=some b:=by rfl
theorem lk3(a b c d:V):(BR a b c d).lookup ("alike" : Str)=some c:=by rfl
theorem lk4(a b c d:V):(BR a b c d).lookup ("known" : Str)=some d:=by rfl
theorem ln1(a b c d:V):(BR a b c d).lookup ("fewest_among" : Str)=none:=by rfl
theorem ln2(a b c d:V):(BR a b c d).lookup ("fewest_reckoned" : Str)=none:=by rfl
theorem ln3(a b c d:V):(BR a b c d).lookup ("has_one_label" : Str)=none:=by rfl
theorem ln4(a b c d:V):(BR a b c d).lookup ("worst_behind" : Str)=none:=by rfl
theorem ln5(a b c d:V):(BR a b c d).lookup ("parting" : Str)=none:=by rfl
theorem ln6(a b c d:V):(BR a b c d).lookup ("harder_left" : Str)=none:=by rfl
theorem ln7(a b c d:V):(BR a b c d).lookup ("left_of" : Str)=none:=by rfl
theorem pf1(a:V):Ac "labels" a []=([("labels",a)]:List (Str × V)):=by rfl
theorem pf2(a b:V):Ac "yeses" b [("labels",a)]=([("labels",a),("yeses",b)]:List (Str × V)):=by rfl
theorem pf3(a b c:V):Ac "alike" c [("labels",a),("yeses",b)]=([("labels",a),("yeses",b),("alike",c)]:List (Str × V)):=by rfl
theorem pf4(a b c d:V):Ac "known" d [("labels",a),("yeses",b),("alike",c)]=BR a b c d:=by rfl
structure Memo(ls:List Int)(ys:List Nat)(Yg:List (Key × V)):Prop where
 nd:(Yg.map (·.1)).Nodup
 ok:∀e∈Yg,∃S m:Nat,e=((Sum.inl (S:Int):Key),V.int (m:Int))/\S < 2 ^ ls.length/\AW (AE ls) (Al ys) S.testBit m
theorem Ex:∀(N:Nat) (l:List Nat),l.Nodup->(∀x∈l,x < N)->l.length<=N
 | 0,l,_,h=>by
  cases l with
  | nil=>exact ZD _
  | cons x r=>exact absurd (h x (by simp)) (by lia)
 | N+1,l,nd,h=>by
  have:=Ex N (l.erase N) (nd.erase N) (fun x hx=>by
   have h2:=(nd.mem_erase_iff).mp hx
   have:=h x h2.2
   have:=h2.1
   lia)
  by_cases z:N∈l
  ·have e:=List.length_erase_of_mem z;lia
  ·have e:=List.erase_of_not_mem z;rw[e]at this;lia
theorem Memo.len{Yg:List (Key × V)}(h:Memo ls ys Yg)(h16:ls.length<=16):Yg.length < 2 ^ 24:=by
 have hl:Yg.length<=2 ^ ls.length:=by
  have e:(Yg.map fun e=>match e.1 with | Sum.inl z=>z.toNat | Sum.inr _=>0).length=Yg.length:=ZC ..;rw[<- e];apply Ex
  ·refine ZBv.mpr ?_;have nd:=ZBv.mp h.nd;refine List.Pairwise.imp_of_mem ?_ nd;intro a b ha hb ne;obtain⟨S,m,ea,_⟩:=h.ok a ha;obtain⟨S',m',eb,_⟩:=h.ok b hb;subst ea eb;intro q;apply ne
   have:(S:Int).toNat=(S':Int).toNat:=q
   have:S=S':=by lia
   rw[this]
  ·intro x hx;obtain⟨a,ha,rfl⟩:=ZU.mp hx;obtain⟨S,m,ea,hs,_⟩:=h.ok a ha;subst ea
   show(S:Int).toNat < _
   rw[Zb];exact hs
 have:2 ^ ls.length<=2 ^ 16:=Zj (by decide) h16
 lia
theorem SZ{Yg:List (Key × V)}{k:Key}(h:valV Yg k=some v):(k,v)∈Yg:=by
 unfold valV at h;cases e:Yg.find? fun kv=>decide (kv.1=k) with
 | none=>rw[e]at h;cases h
 | some x =>
  rw[e]at h;have h1:=List.find?_some e;have h2:=List.mem_of_find?_eq_some e;cases h
  have:x.1=k:=ZZ h1
  rw[<- this];exact h2
theorem Memo.get{Yg:List (Key × V)}(h:Memo ls ys Yg)(e:valV Yg (Sum.inl (S:Int):Key)=some v):∃m:Nat,v=.int m/\AW (AE ls) (Al ys) S.testBit m:=by
 obtain⟨S',m,ee,_,hf⟩:=h.ok _ (SZ e);have e1:(Sum.inl (S:Int):Key)=Sum.inl (S':Int):=congrArg Prod.fst ee;have e2:v=V.int m:=congrArg Prod.snd ee
 have:(S:Int)=S':=Sum.inl.inj e1
 have:S=S':=by lia
 subst this;exact⟨m,e2,hf⟩
theorem Memo.put{Yg:List (Key × V)}(h:Memo ls ys Yg)(hs:S < 2 ^ ls.length)(hf:AW (AE ls) (Al ys) S.testBit m):Memo ls ys (BF Yg (Sum.inl (S:Int):Key) (V.int m)):=by
 unfold BF;split
 ·refine⟨?_,?_⟩
  ·have e:(Yg.map (fun kv=>if kv.1=(Sum.inl (S:Int):Key) then (kv.1,V.int m) else kv)).map (·.1)=Yg.map (·.1):=by
    rw[Z3];apply ZB3;intro a _;simp only[Function.comp];split <;> rfl
   rw[e];exact h.nd
  ·intro e he;obtain⟨a,ha,rfl⟩:=ZU.mp he;split
   ·rename_i q;exact⟨S,m,by rw[q],hs,hf⟩
   ·exact h.ok a ha
 ·rename_i z;refine⟨?_,?_⟩
  ·rw[ZN,List.nodup_append];refine⟨h.nd,by simp,?_⟩;intro a ha b hb q;have hb':b=(Sum.inl (S:Int):Key):=by simpa using hb
   obtain⟨x,hx,rfl⟩:=ZU.mp ha;exact z (ZBm.mpr ⟨x,hx,ZT (q.trans hb')⟩)
  ·intro e he
   rcases Zh.mp he with q | q
   ·exact h.ok e q
   ·rw[ZF]at q;exact⟨S,m,q,hs,hf⟩
noncomputable def LI(ls:List Int)(as:List Nat):Prop:=∀S,S < 2 ^ ls.length->(as.any (fun a=>decide (S &&& a=S))=true ↔ One (AE ls) S.testBit)
structure RkAt(K:W.Frag)(C:Addr)(ls:List Int)(ys:List Nat)(H:Hp)(p d:Addr):Prop where
 at_:∃dx tl yl al as Yg,H p=some (.ins C dx (BR (.ref tl) (.ref yl) (.ref al) (.ref d)))/\Yq K H tl (ls.map V.int)/\H yl=some (.lst (iL ys))/\H al=some (.lst (iL as))/\H d=some (.dK Yg)/\as.length<=100/\LI ls as/\Memo ls ys Yg
 l16:ls.length<=16
 y16:ys.length<=16
theorem RkAt.same(r:RkAt K C ls ys H p d)(s:Yc H H'):RkAt K C ls ys H' p d:=by
 obtain⟨dx,tl,yl,al,as,Yg,h1,h2,h3,h4,h5,h6,h7,h8⟩:=r.at_;exact⟨⟨dx,tl,yl,al,as,Yg,s _ _ h1,s.sqT h2,s _ _ h3,s _ _ h4,s _ _ h5,h6,h7,h8⟩,r.l16,r.y16⟩
noncomputable def Be(o:HO):Prop:=(∀xs,o≠.tup xs)/\∀ob u,o≠.frz ob u
theorem DB(f:Yk d H H')(hd:H d=some o)(no:Be o)(h:Yq K H a xs):Yq K H' a xs:=by
 by_cases e:a=d
 ·subst e
  rcases h with (h | ⟨ob,h⟩) | h
  ·rw[hd]at h;exact absurd (ZQ h) (no.1 _)
  ·rw[hd]at h;exact absurd (ZQ h) (no.2 _ _)
  ·exact .inr h
 ·exact Ip h fun o k=>f _ _ e k
theorem Gu{Yg:List (Key × V)}:Be (.dK Yg):=⟨(fun _ z=>nomatch z),(fun _ _ z=>nomatch z)⟩
theorem Cy{dx:Addr}{fs:List (Str × V)}:Be (.ins C dx fs):=⟨(fun _ z=>nomatch z),(fun _ _ z=>nomatch z)⟩
theorem RkAt.put{kvs':List (Key × V)}(r:RkAt K C ls ys H p d)(f:Yk d H H')(hd:H' d=some (.dK kvs'))(m:Memo ls ys kvs'):RkAt K C ls ys H' p d:=by
 obtain⟨dx,tl,yl,al,as,Yg,h1,h2,h3,h4,h5,h6,h7,h8⟩:=r.at_;exact⟨⟨dx,tl,yl,al,as,kvs',f _ _ (AN h1 h5 (by intro z;cases z)) h1,DB f h5 Gu h2,f _ _ (AN h3 h5 (by intro z;cases z)) h3,f _ _ (AN h4 h5 (by intro z;cases z)) h4,hd,h6,h7,m⟩,r.l16,r.y16⟩
theorem A5(s:Yc H H'):Yk t H H':=fun b o _ e=>s b o e
noncomputable def JY(K:W.Frag)(C:Addr):Sp:=fun vs H Q _=>match vs with
 | [.ref p,.int z]=>∃ls ys d S,RkAt K C ls ys H p d/\z=(S:Nat)/\S < 2 ^ ls.length/\∀b H',(b=true ↔ One (AE ls) S.testBit)->Yc H H'->Q (.bl b) H'
 | _=>False
theorem Ib:Xb P w mg base T.z11 2 (JY K T.C_Reckoner):=by
 refine T.z11.F.ok TD (fun vs H Q E h=>by unfold JY at h;walk_at "e") ?_;walk_at "f";unfold JY at h;walk_at "g"
 rename_i p z;obtain⟨ls,ys,d,S,R,e1,hS,q⟩:=h;subst e1;obtain⟨dx,tl,yl,al,as,Yg,h1,h2,h3,h4,h5,h6,h7,h8⟩:=R.at_;refine⟨_,(@AI _ _ _ (@AR _ _ _ _ (AX (T8 (K:=K) rfl) rfl T.z_any (by rfl) (AA (Aq (N':=["alike","things"]) (own:=1) (ix:=[1]) rfl (BB (K:=K) (Ay T.cl_Reckoner T.na_Reckoner_alike (vv 0))) (by kernel_rfl) rfl rfl (by kernel_rfl) (fun c=>AT (i:=0) (show(["alike","things"]:List Str).Nodup by decide +kernel) rfl (by right)) (Ah (by decide)) (fun c=>Ap) (fun c=>(AJ (@OJ P w K mg base T) (hr.mono (show 1<=_ by decide)) rfl T.z52.m T.z52.F.kp T.z52.b .nil AG (AA (vv 1) (AA (vv 0) AB))))) AB)))),?_⟩;refine⟨dx,_,_,h1,lk3 _ _ _ _,.inl ⟨⟨_,.of h4⟩,?_⟩⟩
 refine B1 (xs:=iL as) (fun k zs H'=>Yc H H'/\zs=((as.take k).map fun a=>decide (S &&& a=S)).map V.bl) ⟨Yc.refl _,rfl⟩ (fun k zs H' _ ⟨s,_⟩=>s.sqL (.of h4)) (fun k zs H' hk ⟨_,e⟩=>by
  rw[At]at hk;rw[e,ZC,ZC,Zf];exact Ad (by lia)) ?_ ?_
 ·rintro k x zs H' hx ⟨s1,rfl⟩;obtain⟨a,ha,_,rfl⟩:=CW hx;refine⟨S,a,rfl,rfl,s1,?_⟩;rw[ZBC,ha,ZN,ZN];rfl
 ·rintro zs H' ⟨s1,rfl⟩ l hl;rw[At,ZBY];refine⟨_,.of AC,q _ _ ?_ (s1.trans (Yc.upd hl))⟩;rw[List.any_map];exact h7 S hS
noncomputable def NA(K:W.Frag)(C:Addr):Sp:=fun vs H Q _=>match vs with
 | [.ref p,.int z,.int i,.bl ans]=>∃ls ys d S j y,RkAt K C ls ys H p d/\z=(S:Nat)/\i=(j:Nat)/\ys[j]? = some y/\Q (.int ((if ans=true then S &&& y else S - (S &&& y):Nat):Int)) H
 | _=>False
theorem Tt{y:Nat}(h:ys[j]? = some y):atI (iL ys) ((j:Nat):Int)=some (.int (y:Nat)):=Ai rfl (by unfold iL;rw[ZR,h];rfl)
theorem Kj:Xb P w mg base T.z17 1 (NA K T.C_Reckoner):=by
 refine T.z17.F.ok sc_z17 (fun vs H Q E h=>by unfold NA at h;walk_at "e") ?_;walk_at "f"
 match vs,h with
 | [.ref p,.int z,.int i,.bl ans],⟨ls,ys,d,S,j,y,R,e1,e2,hj,q⟩ =>
 subst e1 e2;obtain⟨dx,tl,yl,al,as,Yg,h1,h2,h3,h4,h5,h6,h7,h8⟩:=R.at_;refine⟨_,(@AF _ _ _ _ _ (@AO _ _ 4 _ _ _ _ sc_z17.nd rfl (by right) (AQ Eg (vv 1) (Yo (K:=K) (Ay T.cl_Reckoner T.na_Reckoner_yeses (vv 0)) (vv 2))) (by rfl) (by symm)) (@AI _ _ _ (@AR _ _ _ _ (DQ (CY (vv 3)) (vv 4) (AQ Ka (vv 1) (vv 4)))))),?_⟩;refine⟨dx,_,_,h1,lk2 _ _ _ _,_,.int (y:Nat),.inl (.of h3),Tt hj,?_⟩;dsimp only[Af,Jj];rw[HF];cases ans with
 | true=>exact q
 | false =>
  have e:((S:Int) - ((S &&& y:Nat):Int))=((S - (S &&& y):Nat):Int):=by
   have:=Nat.and_le_left (n:=S) (m:=y)
   lia
  show Q (.int ((S:Int) - ((S &&& y:Nat):Int))) H;rw[e];exact q
noncomputable def BP(S y:Nat):Bool:=decide (0 < S &&& y) && decide (S &&& y < S)
noncomputable def A4(S:Nat)(ys:List Nat)(n:Nat):List Nat:=(List.range n).filter fun i=>BP S (ys.getD i 0)
theorem Tx(S:Nat)(ys:List Nat)(n:Nat):A4 S ys (n+1)=A4 S ys n++(if BP S (ys.getD n 0)=true then [n] else []):=by
 unfold A4;rw[ZBM,ZBp];cases h:BP S (ys.getD n 0) <;> simp only[List.filter_cons,List.filter_nil,h] <;> rfl
theorem LO(S:Nat)(ys:List Nat)(n:Nat):(A4 S ys n).length<=n:=by
 have:=ZBq (fun i=>BP S (ys.getD i 0)) (List.range n)
 rw[Z8]at this;exact this
theorem FL(S y:Nat):BP S y=true ↔ A0 S.testBit y.testBit:=by
 unfold BP A0;rw[ZY,decide_eq_true_eq,decide_eq_true_eq]
 have h1:0 < S &&& y ↔ ∃k,S.testBit k=true/\y.testBit k=true:=by
  constructor
  ·intro h;obtain⟨k,hk⟩:=Nat.exists_testBit_of_ne_zero (Nat.pos_iff_ne_zero.mp h);rw[ZBP,ZY]at hk;exact⟨k,hk⟩
  ·rintro⟨k,a,b⟩
   rcases ZB0 (S &&& y) with z | z
   ·have:(S &&& y).testBit k=true:=by rw[ZBP,a,b];rfl
    rw[z]at this;simp at this
   ·exact z
 have h2:S &&& y < S ↔ ∃k,S.testBit k=true/\y.testBit k=false:=by
  have hle:=Nat.and_le_left (n:=S) (m:=y);constructor
  ·intro h;obtain⟨k,hk⟩:=Nat.exists_testBit_of_ne_zero (show S - (S &&& y)≠0 by lia);rw[Gx,ZY]at hk;exact⟨k,hk.1,by simpa using hk.2⟩
  ·rintro⟨k,a,b⟩
   rcases Z1 (S &&& y) S with z | z
   ·exact z
   ·have e:S &&& y=S:=by lia
    have:(S &&& y).testBit k=true:=by rw[e];exact a
    rw[ZBP,b]at this;simp at this
 rw[h1,h2]
noncomputable def JE(K:W.Frag)(C:Addr):Sp:=fun vs H Q _=>match vs with
 | [.ref p,.int z]=>∃ls ys d S,RkAt K C ls ys H p d/\z=(S:Nat)/\GS H Q (iL (A4 S ys ys.length))
 | _=>False
theorem NJ:Xb P w mg base T.z19 1 (JE K T.C_Reckoner):=by
 refine T.z19.F.ok OH (fun vs H Q E h=>by unfold JE at h;walk_at "e") ?_;walk_at "f";unfold JE at h;walk_at "g"
 rename_i p z;obtain⟨ls,ys,d,S,R,e1,q⟩:=h;subst e1;obtain⟨dx,tl,yl,al,as,Yg,h1,h2,h3,h4,h5,h6,h7,h8⟩:=R.at_;have y16:=R.y16;refine⟨_,(@AI _ _ _ (@AR _ _ _ _ (@Aq _ _ _ _ _ _ _ (["question","yes","things"]) 2 [1] _ _ _ _ rfl (PD (K:=K) rfl T.z_enumerate (AA (Ay T.cl_Reckoner T.na_Reckoner_yeses (vv 0)) AB)) (by kernel_rfl) rfl rfl (by kernel_rfl) (fun c=>JD (K:=K) (n:=2) rfl (CO (AT (i:=0) (show(["question","yes","things"]:List Str).Nodup by decide +kernel) rfl (by right)) (CO (AT (i:=1) (show(["question","yes","things"]:List Str).Nodup by decide +kernel) rfl (by right)) E6))) (Hw (Df CM (Fg CM Cz) (Ah (by decide)) (Df CM Cz (Ah (by decide)) Fq))) (fun c=>Dt (UB C3 C3 AD (AQ Eg (vv 2) (vv 1)) (vv 2))) (fun c=>(vv 0)) (by intro _;rfl)))),?_⟩;refine⟨dx,_,_,h1,lk2 _ _ _ _,⟨_,.of h3⟩,?_⟩
 refine Pi (xs:=iL ys) (fun i zs H'=>Yc H H'/\zs=iL (A4 S ys i)) ⟨Yc.refl _,rfl⟩ (fun i zs H' _ ⟨s,_⟩=>s.sqL (.of h3)) (fun i zs H' hi ⟨_,e⟩=>by
  rw[At]at hi
  have:=LO S ys i
  rw[e,At];exact Ad (by lia)) ?_ ?_
 ·rintro i x zs H2 pp hx ⟨s2,rfl⟩ hpp;obtain⟨y,hy,_,rfl⟩:=CW hx;refine⟨pp,_,rfl,.of AC,rfl,_,_,rfl,_,_,rfl,rfl,?_⟩;have eg:ys.getD i 0=y:=by rw[ZV,hy];rfl
  rw[Tx,Bt,eg];have s3:=s2.trans (Yc.upd (o:=.tup [.int (i:Nat),.int (y:Nat)]) hpp);have eb:Builtin.bitAnd (S:Int) (y:Int)=((S &&& y:Nat):Int):=HF ..;refine Ao (fun e=>?_) (fun e=>?_)
  ·rw[eb]at e;have e':0 < S &&& y:=by have:=ZZ e;lia
   refine Ao (fun f=>?_) (fun f=>?_)
   ·rw[eb]at f;have f':S &&& y < S:=by have:=ZZ f;lia
    rw[if_pos (show BP S y=true by unfold BP;rw[ZT e',ZT f'];rfl)];exact⟨s3,rfl⟩
   ·rw[eb]at f;have f':¬S &&& y < S:=fun q=>f (ZT (by lia))
    rw[if_neg (show ¬BP S y=true by unfold BP;rw[Zx f',Bool.and_false];simp)];exact⟨s3,by show _=_++[];rw[Zy]⟩
  ·rw[eb]at e;have e':¬0 < S &&& y:=fun q=>e (ZT (by lia))
   rw[if_neg (show ¬BP S y=true by unfold BP;rw[Zx e',Bool.false_and];simp)];exact⟨s3,by show _=_++[];rw[Zy]⟩
 ·rintro zs H2 ⟨s2,rfl⟩ l hl;rw[At];exact q l _ (s2.free hl) (s2.trans (Yc.upd hl)) AC
noncomputable def BS(K:W.Frag)(C:Addr)(c:Nat):Sp:=fun vs H Q _=>match vs with
 | [.ref p,.int z]=>∃ls ys d S,RkAt K C ls ys H p d/\z=(S:Nat)/\S < 2 ^ ls.length/\(∃n,Can (AE ls) (Al ys) n S.testBit)/\Au ls.length S.testBit < c/\∀(m:Nat) H',AW (AE ls) (Al ys) S.testBit m->RkAt K C ls ys H' p d->Yk d H H'->Q (.int (m:Nat)) H'
 | _=>False
theorem Uu{c:Nat}:AZ (BS K C c):=fun vs H Q Q' E h q=>by
 unfold BS at *;walk_at "q"
noncomputable def Ix(K:W.Frag)(C:Addr)(c:Nat):Sp:=fun vs H Q _=>match vs with
 | [.ref p,.int z,.int i]=>∃ls ys d S j y,RkAt K C ls ys H p d/\z=(S:Nat)/\S < 2 ^ ls.length/\(∃n,Can (AE ls) (Al ys) n S.testBit)/\i=(j:Nat)/\ys[j]? = some y/\A0 S.testBit y.testBit/\Au ls.length S.testBit < c+1 /\
  ∀(b e X:Nat) H',AW (AE ls) (Al ys) (S &&& y).testBit b->AW (AE ls) (Al ys) (S - (S &&& y)).testBit e->(X=S &&& y/\e < b\/X=S - (S &&& y)/\b<=e)->RkAt K C ls ys H' p d->Yk d H H'->Q (.int (X:Nat)) H'
 | _=>False
noncomputable def Dm(K:W.Frag)(C:Addr)(c:Nat):Sp:=fun vs H Q _=>match vs with
 | [.ref p,.int z,.int i]=>∃ls ys d S j y,RkAt K C ls ys H p d/\z=(S:Nat)/\S < 2 ^ ls.length/\(∃n,Can (AE ls) (Al ys) n S.testBit)/\i=(j:Nat)/\ys[j]? = some y/\A0 S.testBit y.testBit/\Au ls.length S.testBit < c+1 /\
  ∀(b e:Nat) H',AW (AE ls) (Al ys) (S &&& y).testBit b->AW (AE ls) (Al ys) (S - (S &&& y)).testBit e->RkAt K C ls ys H' p d->Yk d H H'->Q (.int (max b e:Nat)) H'
 | _=>False
theorem Ku{y c:Nat}(hS:S < 2 ^ ls.length)(hc:Can (AE ls) (Al ys) n S.testBit)(hp:A0 S.testBit y.testBit)(hk:Au ls.length S.testBit < c+1) :
 (S &&& y < 2 ^ ls.length/\Can (AE ls) (Al ys) n (S &&& y).testBit/\Au ls.length (S &&& y).testBit < c)/\S - (S &&& y) < 2 ^ ls.length/\Can (AE ls) (Al ys) n (S - (S &&& y)).testBit/\Au ls.length (S - (S &&& y)).testBit < c:=by
 obtain⟨c1,c2⟩:=Ls (fun k hk=>EJ hS hk) hp;have hle:=Nat.and_le_left (n:=S) (m:=y);rw[Ey,FK];exact⟨⟨by lia,Bw (fun k z=>by simp only[ZY]at z;exact z.1) hc,by lia⟩,by lia,Bw (fun k z=>by simp only[ZY]at z;exact z.1) hc,by lia⟩
theorem TK(c:Nat)(G_z13:Xb P w mg base T.z13 (4 * c+4) (BS K T.C_Reckoner c)) :
 Xb P w mg base T.z14 (4 * c+5) (Ix K T.C_Reckoner c):=by
 have G_z17:=@Kj P w K mg base T;refine T.z14.F.ok sc_z14 (fun vs H Q E h=>by unfold Ix at h;walk_at "e") ?_;walk_at "f";have hr_z17:=hr.mono (show 1<=4 * c+4 by lia);have hr_z13:=hr;unfold Ix at h;walk_at "g"
 rename_i p z i;obtain⟨ls,ys,d,S,j,y,R,e1,hS,⟨n,hc⟩,e2,hj,hp,hk,q⟩:=h;subst e1 e2;obtain⟨⟨a1,a2,a3⟩,b1,b2,b3⟩:=Ku hS hc hp hk;obtain⟨dx,tl,yl,al,as,Yg,h1,_⟩:=id R.at_;refine⟨_,(@AF _ _ _ _ _ (@AO _ _ 3 _ _ _ _ sc_z14.nd rfl (by right) (BN (vv 0) T.cl_Reckoner T.z17.m G_z17 hr_z17 T.z17.b .nil AG (AA (vv 1) (AA (vv 2) (AA Bs AB)))) (by rfl) (by symm)) (@AF _ _ _ _ _ (@AO _ _ 4 _ _ _ _ sc_z14.nd rfl (by right) (BN (vv 0) T.cl_Reckoner T.z17.m G_z17 hr_z17 T.z17.b .nil AG (AA (vv 1) (AA (vv 2) (AA Bs AB)))) (by rfl) (by symm)) (@AI _ _ _ (@AR _ _ _ _ (DQ (Ak Hr (BN (vv 0) T.cl_Reckoner T.z13.m G_z13 hr_z13 T.z13.b .nil AG (AA (vv 4) AB)) (BN (vv 0) T.cl_Reckoner T.z13.m G_z13 hr_z13 T.z13.b .nil AG (AA (vv 3) AB))) (vv 4) (vv 3)))))),?_⟩;refine⟨p,dx,_,rfl,h1,ln7 _ _ _ _,ls,ys,d,S,j,y,R,rfl,rfl,hj,?_⟩;dsimp only[Af];refine⟨p,dx,_,rfl,h1,ln7 _ _ _ _,ls,ys,d,S,j,y,R,rfl,rfl,hj,?_⟩;dsimp only[Af];refine⟨p,dx,_,rfl,h1,ln1 _ _ _ _,ls,ys,d,S &&& y,R,rfl,a1,⟨n,a2⟩,a3,fun b H1 f1 R1 fr1=>?_⟩;obtain⟨dx1,tl1,yl1,al1,as1,kvs1,k1,_⟩:=id R1.at_;refine⟨p,dx1,_,rfl,k1,ln1 _ _ _ _,ls,ys,d,S - (S &&& y),R1,rfl,b1,⟨n,b2⟩,b3,fun e H2 f2 R2 fr2=>?_⟩;refine Ao (fun x=>?_) (fun x=>?_)
 ·have x':e < b:=by have:=ZZ x;lia
  exact q b e _ H2 f1 f2 (.inl ⟨rfl,x'⟩) R2 (fr1.trans fr2)
 ·have x':¬e < b:=fun w=>x (ZT (by lia))
  exact q b e _ H2 f1 f2 (.inr ⟨rfl,by lia⟩) R2 (fr1.trans fr2)
theorem Kf(c:Nat)(G_z13:Xb P w mg base T.z13 (4 * c+4) (BS K T.C_Reckoner c)) :
 Xb P w mg base T.z12 (4 * c+6) (Dm K T.C_Reckoner c):=by
 have G_z14:=TK T c G_z13;refine T.z12.F.ok T6 (fun vs H Q E h=>by unfold Dm at h;walk_at "e") ?_;walk_at "f";have hr_z13:=hr.mono (show 4 * c+4<=4 * c+5 by lia);have hr_z14:=hr;unfold Dm at h;walk_at "g"
 rename_i p z i;obtain⟨ls,ys,d,S,j,y,R,e1,hS,⟨n,hc⟩,e2,hj,hp,hk,q⟩:=h;subst e1 e2;obtain⟨⟨a1,a2,a3⟩,b1,b2,b3⟩:=Ku hS hc hp hk;obtain⟨dx,tl,yl,al,as,Yg,h1,_⟩:=id R.at_;refine⟨_,(@AI _ _ _ (@AR _ _ _ _ (BN (vv 0) T.cl_Reckoner T.z13.m G_z13 hr_z13 T.z13.b .nil AG (AA (BN (vv 0) T.cl_Reckoner T.z14.m G_z14 hr_z14 T.z14.b .nil AG (AA (vv 1) (AA (vv 2) AB))) AB)))),?_⟩;refine⟨p,dx,_,rfl,h1,ln1 _ _ _ _,p,dx,_,rfl,h1,ln6 _ _ _ _,ls,ys,d,S,j,y,R,rfl,hS,⟨n,hc⟩,rfl,hj,hp,hk,fun b e X H1 f1 f2 hX R1 fr1=>?_⟩
 have X1:X < 2 ^ ls.length/\(∃n,Can (AE ls) (Al ys) n X.testBit)/\Au ls.length X.testBit < c/\∀m,AW (AE ls) (Al ys) X.testBit m->m=max b e:=by
  rcases hX with ⟨rfl,x⟩ | ⟨rfl,x⟩
  ·exact⟨a1,⟨n,a2⟩,a3,fun m hm=>by rw[EU hm f1];lia⟩
  ·exact⟨b1,⟨n,b2⟩,b3,fun m hm=>by rw[EU hm f2];lia⟩
 obtain⟨x1,x2,x3,x4⟩:=X1;refine⟨ls,ys,d,X,R1,rfl,x1,x2,x3,fun m H2 hm R2 fr2=>?_⟩;rw[x4 m hm];exact q b e H2 f1 f2 R2 (fr1.trans fr2)
noncomputable def Ff(ls:List Int)(ys:List Nat)(S:Nat)(qs ms:List Nat):Prop:=ms.length=qs.length/\∀(t i:Nat),qs[t]? = some i->∃b e,AW (AE ls) (Al ys) (S &&& ys.getD i 0).testBit b/\AW (AE ls) (Al ys) (S - (S &&& ys.getD i 0)).testBit e/\ms[t]? = some (max b e)
theorem Sv{qs ms:List Nat}{b e:Nat}(h:Ff ls ys S qs ms)(f1:AW (AE ls) (Al ys) (S &&& ys.getD i 0).testBit b)(f2:AW (AE ls) (Al ys) (S - (S &&& ys.getD i 0)).testBit e):Ff ls ys S (qs++[i]) (ms++[max b e]):=by
 refine⟨by rw[ZL,ZL,h.1];rfl,fun t i' ht=>?_⟩
 rcases Z2 t qs.length with z | z | z
 ·rw[ZBK z]at ht;obtain⟨b',e',g1,g2,g3⟩:=h.2 t i' ht;exact⟨b',e',g1,g2,by rw[ZBK (by rw[h.1];exact z)];exact g3⟩
 ·subst z;rw[ZBD (ZD _),Nat.sub_self]at ht;cases ht;exact⟨b,e,f1,f2,by rw[<- h.1,ZBD (ZD _),Nat.sub_self];rfl⟩
 ·rw[ZBD (Zq z)]at ht;rw[ZBZ (by simp;lia)]at ht;cases ht
theorem Hx(h:i∈A4 S ys ys.length):ys[i]? = some (ys.getD i 0)/\A0 S.testBit (ys.getD i 0).testBit:=by
 obtain⟨h1,h2⟩:=Zm.mp h;have h1:=Zn.mp h1;refine⟨?_,(FL _ _).mp h2⟩;rw[ZV,ZE h1];rfl
theorem S0{ms:List Nat}{M:Nat}(ho:¬One (AE ls) S.testBit)(h:Ff ls ys S (A4 S ys ys.length) ms)(h1:M∈ms)(h2:∀a∈ms,M<=a):AW (AE ls) (Al ys) S.testBit (1+M):=by
 refine RU ho ?_ ?_
 ·obtain⟨t,ht,et⟩:=ZBH h1;have ht':t < (A4 S ys ys.length).length:=by rw[<- h.1];exact ht
  obtain⟨b,e,g1,g2,g3⟩:=h.2 t _ (ZE ht');obtain⟨y1,y2⟩:=Hx (Zl ht');rw[Ey]at g1;rw[FK]at g2;refine⟨_,ZU.mpr ⟨_,Zz y1,rfl⟩,y2,b,e,g1,g2,?_⟩;rw[ZE ht,et]at g3;exact ZQ g3
 ·intro f hf hp;obtain⟨y,hy,rfl⟩:=ZU.mp hf;obtain⟨i,hi,ei⟩:=ZBH hy;have eg:ys.getD i 0=y:=by rw[ZV,ZE hi,ei];rfl
  have him:i∈A4 S ys ys.length:=Zm.mpr ⟨Zn.mpr hi,(FL _ _).mpr (by rw[eg];exact hp)⟩;obtain⟨t,ht,et⟩:=ZBH him;obtain⟨b,e,g1,g2,g3⟩:=h.2 t i (by rw[ZE ht,et]);rw[Ey,eg]at g1;rw[FK,eg]at g2;exact⟨b,e,g1,g2,h2 _ (Zz g3)⟩
theorem Gk(ho:¬One (AE ls) S.testBit)(hc:Can (AE ls) (Al ys) n S.testBit):0 < (A4 S ys ys.length).length:=by
 obtain⟨f,hf,hp⟩:=IM ho hc;obtain⟨y,hy,rfl⟩:=ZU.mp hf;obtain⟨i,hi,ei⟩:=ZBH hy;have eg:ys.getD i 0=y:=by rw[ZV,ZE hi,ei];rfl
 exact List.length_pos_of_mem (Zm.mpr ⟨Zn.mpr hi,(FL _ _).mpr (by rw[eg];exact hp)⟩)
theorem OS(c:Nat)(G_z13:Xb P w mg base T.z13 (4 * c+4) (BS K T.C_Reckoner c)) :
 Xb P w mg base T.z0 (4 * c+7) (BS K T.C_Reckoner (c+1)):=by
 have G_z12:=Kf T c G_z13;refine T.z0.F.ok Ql (fun vs H Q E h=>by unfold BS at h;walk_at "e") ?_;walk_at "f";have hr_z12:=hr;have hr_z11:=hr.mono (show 2<=4 * c+6 by lia);have hr_z19:=hr.mono (show 1<=4 * c+6 by lia);unfold BS at h;walk_at "g"
 rename_i p z;obtain⟨ls,ys,d,S,R,e1,hS,⟨n,hc⟩,hk,q⟩:=h;subst e1;obtain⟨dx,tl,yl,al,as,Yg,h1,_,_,_,hd,_⟩:=id R.at_;have l16:=R.l16;have y16:=R.y16;refine⟨_,(@AF _ _ _ _ _ (@Aw _ _ _ _ _ _ _ _ (CY (BN (vv 0) T.cl_Reckoner T.z11.m (@Ib P w K mg base T) hr_z11 T.z11.b .nil AG (AA (vv 1) AB))) (@AI _ _ _ (@AR _ _ _ _ AD)) Av) (@AI _ _ _ (@AR _ _ _ _ (AQ (A8 (K:=K)) AD (AX (MJ (K:=K) rfl) rfl T.z_min (by rfl) (AA (Aq (N':=["question","self","things"]) (own:=1) (ix:=[0,1]) rfl (BB (K:=K) (BN (vv 0) T.cl_Reckoner T.z19.m (@NJ P w K mg base T) hr_z19 T.z19.b .nil AG (AA (vv 1) AB))) (by kernel_rfl) rfl rfl (by kernel_rfl) (fun c=>AT (i:=0) (show(["question","self","things"]:List Str).Nodup by decide +kernel) rfl (by right)) (Ah (by decide)) (fun c=>Ap) (fun c=>(BN (vv 1) T.cl_Reckoner T.z12.m G_z12 hr_z12 T.z12.b .nil AG (AA (vv 2) (AA (vv 0) AB))))) AB)))))),?_⟩;refine⟨p,dx,_,rfl,h1,ln3 _ _ _ _,ls,ys,d,S,R,rfl,hS,fun b H1 hb s1=>?_⟩;have R1:=R.same s1;have hd1:=s1 _ _ hd;cases b with
 | true=>exact q 0 H1 ⟨hb.mp rfl,fun _ _=>ZP _⟩ R1 (A5 s1)
 | false =>
  have ho:¬One (AE ls) S.testBit:=fun o=>nomatch hb.mpr o
  refine⟨p,dx,_,rfl,s1 _ _ h1,ln5 _ _ _ _,ls,ys,d,S,R1,rfl,fun l H2 hl s2 g2=>.inl ⟨⟨_,.of g2⟩,?_⟩⟩;have R2:=R1.same s2;have hd2:=s2 _ _ hd1;have hld:l≠d:=AN g2 hd2 (by intro z;cases z);have Yl:=LO S ys ys.length
  refine B1 (xs:=iL (A4 S ys ys.length)) (fun k zs H'=>RkAt K T.C_Reckoner ls ys H' p d/\Yk d H2 H'/\∃ms,zs=iL ms/\Ff ls ys S ((A4 S ys ys.length).take k) ms) ⟨R2,Yk.refl,[],rfl,rfl,fun t i ht=>by simp at ht⟩ (fun k zs H' _ ⟨_,f,_⟩=>.of (f _ _ hld g2)) (fun k zs H' hk' ⟨_,_,ms,e,hw⟩=>by
   rw[At]at hk';rw[e,At,hw.1,Zf];exact Ad (by lia)) ?_ ?_
  ·rintro k x zs H' hx ⟨R',f',ms,rfl,hw⟩;obtain⟨i,hi,him,rfl⟩:=CW hx;obtain⟨y1,y2⟩:=Hx him;obtain⟨dx',tl',yl',al',as',kvs',k1,_⟩:=id R'.at_;refine⟨p,dx',_,rfl,k1,ln4 _ _ _ _,ls,ys,d,S,i,_,R',rfl,hS,⟨n,hc⟩,rfl,y1,y2,hk,fun b e H3 g1 g2' R3 f3=>?_⟩;refine⟨R3,f'.trans f3,ms++[max b e],by rw[Bt];rfl,?_⟩;rw[ZBC,hi];exact Sv hw g1 g2'
  ·rintro zs H' ⟨R',f',ms,rfl,hw⟩ l2 hl2;rw[At,ZBY]at hw;refine⟨ms.map fun m=>((m:Nat):Int),by rw[Z3];exact .of AC,by rw[ZC,hw.1];exact Gk ho hc,fun M hM hle=>?_⟩;obtain⟨M',hM',rfl⟩:=ZU.mp hM;have fm:=S0 ho hw hM' (fun a ha=>by have:=hle _ (ZU.mpr ⟨a,ha,rfl⟩);lia);have sl:Yc H' (upd H' l2 (.lst (iL ms))):=Yc.upd hl2;have e:(1:Int)+((M':Nat):Int)=((1+M':Nat):Int):=by lia
   show Q (.int (1+((M':Nat):Int))) _;rw[e];exact q (1+M') _ fm (R'.same sl) ((A5 s1).trans ((A5 s2).trans (f'.trans (A5 sl))))
theorem Rv(c:Nat)(G_z13:Xb P w mg base T.z13 (4 * c+4) (BS K T.C_Reckoner c)) :
 FnOk P w K mg base CX0 (4 * (c+1)+4) T.z13.f T.z13.d ["self","things"] (BS K T.C_Reckoner (c+1)):=by
 have G_z0:=OS T c G_z13;refine T.z13.F.ok Pr (fun vs H Q E h=>by unfold BS at h;walk_at "e") ?_;walk_at "f";have hr_z0:=hr.mono (show 4 * c+7<=4 * (c+1)+3 by lia);unfold BS at h;walk_at "g"
 rename_i p z;obtain⟨ls,ys,d,S,R,e1,hS,hc,hk,q⟩:=h;subst e1;obtain⟨dx,tl,yl,al,as,Yg,h1,h2,h3,h4,hd,h6,h7,h8⟩:=id R.at_;have mono1:AZ (BS K T.C_Reckoner (c+1)):=Uu;refine⟨_,(@AF _ _ _ _ _ (@Aw _ _ _ _ _ _ _ _ (Ak (MP hu) (vv 1) (Ay T.cl_Reckoner T.na_Reckoner_known (vv 0))) (@AI _ _ _ (@Jg _ _ _ _ _ _ _ _ _ (EM hu) (Ay T.cl_Reckoner T.na_Reckoner_known (vv 0)) (vv 1) (BN (vv 0) T.cl_Reckoner T.z0.m G_z0 hr_z0 T.z0.b .nil AG (AA (vv 1) AB)) (by rfl))) Av) (@AI _ _ _ (@AR _ _ _ _ (Jx (EM hu) (Ay T.cl_Reckoner T.na_Reckoner_known (vv 0)) (vv 1) (by intro _ _;rfl))))),?_⟩;refine Ag (fun σ H1=>σ=[some (.ref p),some (.int (S:Nat))]/\RkAt K T.C_Reckoner ls ys H1 p d/\Yk d H H1/\∃(kvs':List (Key × V)) (m:Nat),H1 d=some (.dK kvs')/\valV kvs' (Sum.inl (S:Int):Key)=some (.int m)/\AW (AE ls) (Al ys) S.testBit m) ?_ ?_ (by walk_at "sm")
 ·refine⟨dx,_,_,h1,lk4 _ _ _ _,valV Yg (Sum.inl (S:Int):Key),DGet.k (k:=Sum.inl (S:Int)) hd,?_⟩;cases e:valV Yg (Sum.inl (S:Int):Key) with
  | some v =>
   obtain⟨m,rfl,hm⟩:=h8.get e;exact⟨rfl,R,Yk.refl,Yg,m,hd,e,hm⟩
  | none =>
   refine⟨p,dx,_,rfl,h1,ln2 _ _ _ _,ls,ys,d,S,R,rfl,hS,hc,hk,fun m H1 hm R1 f1=>?_⟩;obtain⟨dx1,tl1,yl1,al1,as1,kvs1,k1,_,_,_,k5,_,_,k8⟩:=id R1.at_;refine⟨dx1,_,_,k1,lk4 _ _ _ _,d,_,rfl,DPut.k (k:=Sum.inl (S:Int)) k5 (k8.len R.l16),?_⟩;have fu:Yk d H1 (upd H1 d (.dK (BF kvs1 (Sum.inl (S:Int):Key) (V.int m)))):=Yk.updT;exact⟨rfl,R1.put fu AC (k8.put hS hm),f1.trans fu,_,m,AC,by rw[Kr,if_pos rfl],hm⟩
 ·rintro σ H1 ⟨rfl,R1,f1,kvs',m,hd1,hv,hm⟩;obtain⟨dx1,tl1,yl1,al1,as1,kvs1,k1,_⟩:=id R1.at_;refine⟨dx1,_,_,k1,lk4 _ _ _ _,d,.int m,rfl,?_,q m H1 hm R1 f1⟩;rw[<- hv];exact DGet.k (k:=Sum.inl (S:Int)) hd1
theorem Gb:∀c:Nat,Xb P w mg base T.z13 (4 * c+4) (BS K T.C_Reckoner c)
 | 0=>by
  have no:∀vs H Q E,¬BS K T.C_Reckoner 0 vs H Q E:=fun vs H Q E h=>by
   unfold BS at h;split at h
   ·obtain⟨ls,ys,d,S,_,_,_,_,z,_⟩:=h;exact absurd z (ZBh _)
   ·exact h
  exact⟨fun vs H Q E h=>(no _ _ _ _ h).elim,fun A outer s H args us vs Q E _ _ _ _ h=>(no _ _ _ _ h).elim⟩
 | c+1=>Rv T c (Gb c)
theorem Uy:Xb P w mg base T.z13 72 (BS K T.C_Reckoner 17):=Gb T 17
noncomputable def Dx:Sp:=fun vs H Q _=>match vs with
 | [.ref t,.int n]=>∃m N:Nat,GFeed H t N/\N<=900000000/\n=m/\1<=m/\m<=4/\∀(bs:List Bool) p H',bs.length=2 ^ m->H p=none->H' p=some (.tup (bs.map V.bl))->GFeed H' t (N+18)->Yk t H H'->Q (.ref p) H'
 | _=>False
theorem UE:AZ Dx:=fun vs H Q Q' E h q=>by
 unfold Dx at *;walk_at "q"
theorem Ab(h:∀b,b≠t->H' b=H b):Yk t H H':=fun b o n e=>by rw[h b n];exact e
theorem MW:Xa P w base T.z43 2 Dx:=by
 have G_z47:=@C9 P w K mg base T;refine T.z43.F.ok sc_z43 (fun vs H Q E h=>by unfold Dx at h;walk_at "e") ?_;walk_at "f";have hr_z47:=hr.mono (show 1<=_ by decide);unfold Dx at h;walk_at "g"
 rename_i t n;obtain⟨m,N,F,hN,e1,m1,m4,q⟩:=h;subst e1;refine⟨_,(@AF _ _ _ _ _ (@AO _ _ 2 _ _ _ _ sc_z43.nd rfl (by right) (AQ LL AD (vv 1)) (by rfl) (by symm)) (@AF _ _ _ _ _ (@AO _ _ 3 _ _ _ _ sc_z43.nd rfl (by right) (AJ G_z47 hr_z47 rfl T.z47.m T.z47.F.kp T.z47.b .nil AG (AA (vv 0) (AA AD AB))) (by rfl) (by symm)) (@AF _ _ _ _ _ (@Aw _ _ _ _ _ _ _ _ (Ak C3 (vv 3) AD) (@AI _ _ _ (@AR _ _ _ _ (Ar (A9 (K:=K)) rfl T.z_tuple (by rfl) (AA (Aq (N':=["_law_k","_law_feed_here"]) (own:=1) (ix:=[0]) rfl (A3 rfl T.z_range (AA (vv 2) AB)) (by kernel_rfl) rfl rfl (by kernel_rfl) (fun c=>AT (i:=0) (show(["_law_k","_law_feed_here"]:List Str).Nodup by decide +kernel) rfl (by right)) (Ah (by decide)) (fun c=>Ap) (fun c=>(Ba (kEq (K:=K) hu) (AJ G_z47 hr_z47 rfl T.z47.m T.z47.F.kp T.z47.b .nil AG (AA (vv 1) (AA AD AB))) AD))) AB)))) Av) (@AF _ _ _ _ _ (@Aw _ _ _ _ _ _ _ _ (Ak (kEq (K:=K) hu) (vv 3) AD) (@AF _ _ _ _ _ (@AO _ _ 4 _ _ _ _ sc_z43.nd rfl (by right) (AJ G_z47 hr_z47 rfl T.z47.m T.z47.F.kp T.z47.b .nil AG (AA (vv 0) (AA (vv 2) AB))) (by rfl) (by symm)) (@AI _ _ _ (@AR _ _ _ _ (Ar (A9 (K:=K)) rfl T.z_tuple (by rfl) (AA (Aq (N':=["_law_k","_law_place"]) (own:=1) (ix:=[4]) rfl (A3 rfl T.z_range (AA (vv 2) AB)) (by kernel_rfl) rfl rfl (by kernel_rfl) (fun c=>AT (i:=0) (show(["_law_k","_law_place"]:List Str).Nodup by decide +kernel) rfl (by right)) (Ah (by decide)) (fun c=>Ap) (fun c=>(Ba (kEq (K:=K) hu) (vv 0) (vv 1)))) AB))))) Av) (@AF _ _ _ _ _ (@Aw _ _ _ _ _ _ _ _ (Ak (kEq (K:=K) hu) (vv 3) AD) (@AF _ _ _ _ _ (@AO _ _ 5 _ _ _ _ sc_z43.nd rfl (by right) (AJ G_z47 hr_z47 rfl T.z47.m T.z47.F.kp T.z47.b .nil AG (AA (vv 0) (AA (vv 1) AB))) (by rfl) (by symm)) (@AI _ _ _ (@AR _ _ _ _ (Ar (A9 (K:=K)) rfl T.z_tuple (by rfl) (AA (Aq (N':=["_law_k","_law_one"]) (own:=1) (ix:=[5]) rfl (A3 rfl T.z_range (AA (vv 2) AB)) (by kernel_rfl) rfl rfl (by kernel_rfl) (fun c=>AT (i:=0) (show(["_law_k","_law_one"]:List Str).Nodup by decide +kernel) rfl (by right)) (Ah (by decide)) (fun c=>Ap) (fun c=>(Ba (kEq (K:=K) hu) (AQ Eg (AQ Ph (vv 0) (vv 1)) AD) AD))) AB))))) Av) (@AF _ _ _ _ _ (@AO _ _ 6 _ _ _ _ sc_z43.nd rfl (by right) (Ba (kEq (K:=K) hu) (AJ G_z47 hr_z47 rfl T.z47.m T.z47.F.kp T.z47.b .nil AG (AA (vv 0) (AA AD AB))) AD) (by rfl) (by symm)) (@AI _ _ _ (@AR _ _ _ _ (Ar (A9 (K:=K)) rfl T.z_tuple (by rfl) (AA (Aq (N':=["_law_k","_law_answer"]) (own:=1) (ix:=[6]) rfl (A3 rfl T.z_range (AA (vv 2) AB)) (by kernel_rfl) rfl rfl (by kernel_rfl) (fun c=>AT (i:=0) (show(["_law_k","_law_answer"]:List Str).Nodup by decide +kernel) rfl (by right)) (Ah (by decide)) (fun c=>Ap) (fun c=>(vv 1))) AB)))))))))),?_⟩;have e2:(1:Int) * 2 ^ ((m:Int).toNat)=((2 ^ m:Nat):Int):=by rw[Zb,Int.natCast_pow,Int.one_mul];rfl
 have h16:2 ^ m<=16:=Zj (n:=2) (by decide) m4;have h2:2<=2 ^ m:=Zj (n:=2) (i:=1) (by decide) m1;refine⟨⟨by lia,by lia,by decide⟩,?_⟩;rw[e2];generalize hM:2 ^ m=M at *;have hMd:okDiv (M:Int):=An (by lia) (Int.le_trans (Int.ofNat_le.mpr h16) (by decide))
 have fin:∀(N':Nat) (H1:Hp) (bs:List Bool) (l:Addr),GFeed H1 t N'->N'<=N+18->Yk t H H1->bs.length=M->H1 l=none->∃ys,(Yt K (upd H1 l (.lst (bs.map V.bl))) l ys/\∀p,upd H1 l (.lst (bs.map V.bl)) p=none->Q (.ref p) (upd (upd H1 l (.lst (bs.map V.bl))) p (.tup ys)))\/(Yq K (upd H1 l (.lst (bs.map V.bl))) l ys/\Q (.ref l) (upd H1 l (.lst (bs.map V.bl)))):=by
  intro N' H1 bs l F1 hN' fr hb hl;refine⟨_,.inl ⟨.of AC,fun p hp=>?_⟩⟩;have f2:Yk t H (upd H1 l (.lst (bs.map V.bl))):=fr.trans (Yk.upd hl);have F2:=F1.upd (o:=.lst (bs.map V.bl)) hl;exact q bs p _ hb (F2.free f2 hp) AC ((F2.upd hp).mono (by lia)) (f2.trans (Yk.upd hp))
 refine⟨N,F,by lia,An (by decide) (by decide),fun way H2 w0 w1 F2 f2=>?_⟩;dsimp only[Af];refine Ao (fun e=>?_) (fun e=>?_)
 ·refine⟨(M:Int),rfl,by lia,by lia,?_⟩
  refine BU (fun i ys H'=>GFeed H' t (N+1+i)/\Yk t H H'/\∃bs:List Bool,ys=bs.map V.bl/\bs.length=i) ⟨F2,Ab f2,[],rfl,rfl⟩ (fun i ys H' hi ⟨_,_,bs,e,el⟩=>by
   rw[e];exact Ad (by rw[ZC];lia)) ?_ ?_
  ·rintro i ys H' hi ⟨Fi,fi,bs,rfl,rfl⟩;refine⟨_,Fi,by lia,An (by decide) (by decide),fun d H3 _ _ F3 f3=>?_⟩;exact⟨F3.mono (by lia),fi.trans (Ab f3),bs++[(false ^^ (d == 1))],by rw[ZN];rfl,by rw[ZL];rfl⟩
  ·rintro ys H' ⟨Fi,fi,bs,rfl,hb⟩ l' hl;exact fin _ _ bs l' Fi (by lia) fi (by lia) hl
 dsimp only[CJ];refine Ao (fun e=>?_) (fun e=>?_)
 ·refine⟨_,F2,by lia,hMd,fun pl H3 p0 p1 F3 f3=>?_⟩;dsimp only[Af];refine⟨(M:Int),rfl,by lia,by lia,?_⟩
  refine BU (fun i ys H'=>H'=H3/\∃bs:List Bool,ys=bs.map V.bl/\bs.length=i) ⟨rfl,[],rfl,rfl⟩ (fun i ys H' hi ⟨_,bs,e,el⟩=>by
   rw[e];exact Ad (by rw[ZC];lia)) ?_ ?_
  ·rintro i ys H' hi ⟨rfl,bs,rfl,rfl⟩;exact⟨rfl,bs++[(false ^^ ((0+(bs.length:Int)) == pl))],by rw[ZN];rfl,by rw[ZL];rfl⟩
  ·rintro ys H' ⟨rfl,bs,rfl,hb⟩ l' hl;exact fin _ _ bs l' F3 (by lia) ((Ab f2).trans (Ab f3)) (by lia) hl
 dsimp only[CJ];refine Ao (fun e=>?_) (fun e=>?_)
 ·refine⟨_,F2,by lia,An (by lia) (by lia),fun on H3 p0 p1 F3 f3=>?_⟩;dsimp only[Af];refine⟨(M:Int),rfl,by lia,by lia,?_⟩
  refine BU (fun i ys H'=>H'=H3/\∃bs:List Bool,ys=bs.map V.bl/\bs.length=i) ⟨rfl,[],rfl,rfl⟩ (fun i ys H' hi ⟨_,bs,e,el⟩=>by
   rw[e];exact Ad (by rw[ZC];lia)) ?_ ?_
  ·rintro i ys H' hi ⟨rfl,bs,rfl,rfl⟩;refine⟨p0,?_⟩;exact⟨rfl,bs++[_],by rw[ZN];rfl,by rw[ZL];rfl⟩
  ·rintro ys H' ⟨rfl,bs,rfl,hb⟩ l' hl;exact fin _ _ bs l' F3 (by lia) ((Ab f2).trans (Ab f3)) (by lia) hl
 dsimp only[CJ];refine⟨_,F2,by lia,An (by decide) (by decide),fun an H3 p0 p1 F3 f3=>?_⟩;dsimp only[Af,mEq];refine⟨(M:Int),rfl,by lia,by lia,?_⟩
 refine BU (fun i ys H'=>H'=H3/\∃bs:List Bool,ys=bs.map V.bl/\bs.length=i) ⟨rfl,[],rfl,rfl⟩ (fun i ys H' hi ⟨_,bs,e,el⟩=>by
  rw[e];exact Ad (by rw[ZC];lia)) ?_ ?_
 ·rintro i ys H' hi ⟨rfl,bs,rfl,rfl⟩;exact⟨rfl,bs++[_],by rw[ZN];rfl,by rw[ZL];rfl⟩
 ·rintro ys H' ⟨rfl,bs,rfl,hb⟩ l' hl;exact fin _ _ bs l' F3 (by lia) ((Ab f2).trans (Ab f3)) (by lia) hl
noncomputable def Bl(m i:Nat):List Bool:=(List.range (2 ^ m)).map fun p=>p / 2 ^ i % 2 == 1
noncomputable def GM(bs:List Bool):List Dv:=bs.map fun b=>Dv.int (if b then 1 else 0)
noncomputable def Bc(bs:List Bool):List V:=bs.map fun b=>V.int (if b then 1 else 0)
noncomputable def Bu(m n:Nat):List Dv:=(List.range n).map fun i=>.tup ((Bl m i).map Dv.bl)
noncomputable def Io(bs:List Bool)(m:Nat):Dv:=.tup [.tup (GM bs),.tup (Bu m m)]
theorem RK(m i:Nat):(Bl m i).length=2 ^ m:=by unfold Bl;simp
theorem Ky(m n:Nat):Bu m (n+1)=Bu m n++[.tup ((Bl m n).map Dv.bl)]:=by unfold Bu;rw[ZBM,ZN];rfl
theorem Kt(m n:Nat):(Bu m n).length=n:=by unfold Bu;simp
theorem Kg:∀bs:List Bool,Yd K H (GM bs) (Bc bs)
 | []=>AU
 | b::bs=>AS CV (Kg bs)
theorem Ue(bs:List Bool):(Bc bs).length=bs.length:=by unfold Bc;simp
theorem TZ(bs cs:List Bool):Bc (bs++cs)=Bc bs++Bc cs:=by unfold Bc;simp
theorem La(m:Nat):∀n,Az (Bu m n)=true
 | 0=>rfl
 | n+1=>by
  rw[Ky,LG,La m n];unfold Az Bh;rw[JV];rfl
noncomputable def Vn(K:W.Frag)(H:Hp)(Q:VK)(d:Dv):Prop:=∀u H',Yc H H'->Yh K H' d u->Q u H'
noncomputable def Ge(K:W.Frag):Sp:=fun vs H Q _=>match vs with
 | [.ref p]=>∃(bs:List Bool) (m:Nat),Yq K H p (bs.map V.bl)/\bs.length=2 ^ m/\1<=m/\m<=4/\Vn K H Q (Io bs m)
 | _=>False
theorem Vp:Xa P w base T.z22 1 (Ge K):=by
 refine T.z22.F.ok sc_z22 (fun vs H Q E h=>by unfold Ge at h;walk_at "e") ?_;walk_at "f";unfold Ge at h;walk_at "g"
 rename_i p;obtain⟨bs,m,hp,hb,m1,m4,q⟩:=h;have h16:2 ^ m<=16:=Zj (n:=2) (by decide) m4;have hbl:(bs.map V.bl).length=2 ^ m:=by rw[ZC];exact hb
 refine⟨_,(@AF _ _ _ _ _ (@AO _ _ 1 _ _ _ _ sc_z22.nd rfl (by right) (@A6 _ _ _ _ AB) (by rfl) (by symm)) (@AF _ _ _ _ _ (@AO _ _ 2 _ _ _ _ sc_z22.nd rfl (by right) AD (by rfl) (by symm)) (@AF _ _ _ _ _ (@Jp _ _ _ _ _ _ PassesOwn.never (Ak C3 (vv 2) (AX (BA (K:=K)) rfl T.z_len (by rfl) (AA (vv 0) AB))) (@AF _ _ _ _ _ (@DJ _ _ _ _ (Du (K:=K) (vv 1) (AA (Ar (A9 (K:=K)) rfl T.z_tuple (by rfl) (AA (Aq (N':=["_law_k","_law_many"]) (own:=1) (ix:=[2]) rfl (A3 rfl T.z_range (AA (AX (BA (K:=K)) rfl T.z_len (by rfl) (AA (vv 0) AB)) AB)) (by kernel_rfl) rfl rfl (by kernel_rfl) (fun c=>AT (i:=0) (show(["_law_k","_law_many"]:List Str).Nodup by decide +kernel) rfl (by right)) (Ah (by decide)) (fun c=>Ap) (fun c=>(Ba (kEq (K:=K) hu) (AQ Ck (AQ D5 (vv 0) (vv 1)) AD) AD))) AB)) AB)) (by rfl)) (@AI _ _ _ (@AO _ _ 2 _ _ _ _ sc_z22.nd rfl (by right) (AQ Ca AD (vv 2)) (by rfl) (by symm))))) (@AI _ _ _ (@AR _ _ _ _ (A2 (AA (Ar (A9 (K:=K)) rfl T.z_tuple (by rfl) (AA (@Aq _ _ _ _ _ _ _ ["_law_answer"] 1 [] _ _ _ _ rfl (BB (K:=K) (vv 0)) (by kernel_rfl) rfl rfl (by kernel_rfl) (fun c=>AT (i:=0) (show(["_law_answer"]:List Str).Nodup by decide +kernel) rfl (by right)) (Ah (by decide)) (fun c=>Ap) (fun c=>(Ar GN rfl T.z_int (by rfl) (AA (vv 0) AB))) (by intro _;rfl)) AB)) (AA (Ar (A9 (K:=K)) rfl T.z_tuple (by rfl) (AA (vv 1) AB)) AB)))))))),?_⟩;refine⟨smq rfl,fun l hl=>?_⟩;dsimp only[Af];refine Ag (fun σ H'=>σ=[some (.ref p),some (.ref l),some (.int 1)]/\upd H l (.lst [])=H') ⟨rfl,rfl⟩ ?_ (by walk_at "sm");rintro σ _ ⟨rfl,rfl⟩;refine Ag (fun σ H'=>∃(z:Option V) (rs:List V),σ=[some (.ref p),some (.ref l),z]/\Yc H H'/\H' l=some (.lst rs)/\Yd K H' (Bu m m) rs) ?_ ?_ (by walk_at "sm")
 ·refine⟨fun μ σ H'=>∃(i:Nat) (rs:List V),μ=m - i/\i<=m/\σ=[some (.ref p),some (.ref l),some (.int (2 ^ i:Nat))]/\Yc H H'/\H' l=some (.lst rs)/\Yd K H' (Bu m i) rs,⟨m,0,[],by lia,by lia,rfl,Yc.upd hl,AC,AU⟩,?_⟩;rintro μ σ H1 ⟨i,rs,rfl,hi,rfl,S1,g1,R1⟩;have hrl:rs.length=i:=by have:=R1.length;rw[Kt]at this;lia
  have hpi:(0:Nat) < 2 ^ i:=ZBd i;have hle:(2:Nat) ^ i<=2 ^ m:=Zj (by decide) hi;refine⟨2 ^ m,.inr ⟨_,S1.sqT hp,hbl.symm⟩,?_⟩;refine Ao (fun e=>?_) (fun e=>?_)
  ·have him:i < m:=by
    have e':((2 ^ i:Nat):Int) < ((2 ^ m:Nat):Int):=ZZ e
    rcases Z1 i m with z | z
    ·exact z
    ·have:i=m:=by lia
     subst this;lia
   refine⟨.inl ⟨rfl,_,.of g1⟩,?_⟩;refine⟨2 ^ m,.inr ⟨_,S1.sqT hp,hbl.symm⟩,((2 ^ m:Nat):Int),rfl,by lia,by lia,?_⟩
   refine BU (fun k ys H'=>H'=H1/\ys=((List.range k).map (fun q=>q / 2 ^ i % 2 == 1)).map V.bl) ⟨rfl,rfl⟩ (fun k ys H' hk ⟨_,e⟩=>by
    rw[e,ZC,ZC,Z8];exact Ad (by lia)) ?_ ?_
   ·rintro k ys H' hk ⟨rfl,rfl⟩;refine⟨An (by lia) (Int.le_trans (Int.ofNat_le.mpr (Za hle h16)) (by decide)),by decide,rfl,?_⟩
    have ee:(false ^^ (((0:Int)+(k:Int)) / ((2 ^ i:Nat):Int) % 2 == 1))=(k / 2 ^ i % 2 == 1):=by
     rw[Zs,Int.zero_add,<- Int.natCast_ediv,ZBB];simp only[beq_iff_eq];lia
    rw[Uo,<- ee]
   ·rintro ys H' ⟨rfl,rfl⟩ k hk;rw[Zb];refine⟨_,.inl ⟨.of AC,fun p3 hp3=>?_⟩⟩;have erow:((List.range (2 ^ m)).map (fun q=>q / 2 ^ i % 2 == 1)).map V.bl=(Bl m i).map V.bl:=rfl;rw[erow];have s3:=(Yc.upd (o:=.lst ((Bl m i).map V.bl)) hk).trans (Yc.upd (o:=.tup ((Bl m i).map V.bl)) hp3);have g3p:=AC (H:=upd H' k (.lst ((Bl m i).map V.bl))) (a:=p3) (o:=.tup ((Bl m i).map V.bl));have nl:p3≠l:=Ne.symm (BD (Yc.upd (o:=.lst ((Bl m i).map V.bl)) hk _ _ g1) hp3);generalize upd (upd H' k (.lst ((Bl m i).map V.bl))) p3 (.tup ((Bl m i).map V.bl))=H3 at *;refine⟨_,s3 _ _ g1,Ad (by lia),?_⟩;dsimp only[CJ,JJ,Af];refine⟨.inr (.inl ⟨by decide,by decide⟩),?_⟩;have R3:Yd K H3 (Bu m i) rs:=Yd.same s3 _ _ R1;have fr:Yk l H3 (upd H3 l (.lst (rs++[.ref p3]))):=Yk.updT
    have R4:Yd K (upd H3 l (.lst (rs++[.ref p3]))) (Bu m (i+1)) (rs++[.ref p3]):=by
     rw[Ky];refine Yd.append (Yd.frm fr ⟨_,s3 _ _ g1⟩ _ _ (La m i) R3) (AS ?_ AU);exact Am (by rw[AH nl];exact g3p) (Bp _)
    refine⟨m - (i+1),by lia,i+1,_,rfl,him,?_,PF (S1.trans s3) hl,AC,R4⟩
    have:(2:Int) * ((2 ^ i:Nat):Int)=((2 ^ (i+1):Nat):Int):=by rw[Nat.pow_succ];lia
    rw[<- this];rfl
  ·have him:i=m:=by
    rcases Z1 i m with z | z
    ·exact absurd (ZT (show((2 ^ i:Nat):Int) < ((2 ^ m:Nat):Int) from Int.ofNat_lt.mpr (Nat.pow_lt_pow_right (by decide) z))) e
    ·lia
   subst him;exact⟨_,rs,rfl,S1,g1,R1⟩
 rintro σ H1 ⟨z,rs,rfl,S1,g1,R1⟩;have hrl:rs.length=m:=by have:=R1.length;rw[Kt]at this;lia
 refine .inr ⟨⟨_,S1.sqT hp⟩,?_⟩
 refine Cg (xs:=bs.map V.bl) (fun i ys H'=>H'=H1/\ys=Bc (bs.take i)) ⟨rfl,rfl⟩ (fun i ys H' _ ⟨e,_⟩=>by rw[e];exact S1.sqT hp) (fun i ys H' hi ⟨_,e⟩=>by
  rw[e,Ue,Zf];exact Ad (by lia)) ?_ ?_
 ·rintro i x ys H' hx ⟨rfl,rfl⟩
  have hi:i < bs.length:=by
   have:=(Zr.mp hx).1
   rwa [ZC]at this
  rw[ZR,ZE hi]at hx;cases hx;refine⟨rfl,?_⟩;rw[ZBC,ZE hi,TZ];rfl
 ·rintro ys H' ⟨rfl,rfl⟩ k hk;rw[ZBV (by rw[ZC];exact ZD _)];refine⟨_,.inl ⟨.of AC,fun p3 hp3=>?_⟩⟩;have s3:=(Yc.upd (o:=.lst (Bc bs)) hk).trans (Yc.upd (o:=.tup (Bc bs)) hp3);have g3p:=AC (H:=upd H' k (.lst (Bc bs))) (a:=p3) (o:=.tup (Bc bs));generalize upd (upd H' k (.lst (Bc bs))) p3 (.tup (Bc bs))=H3 at *;refine⟨_,.inl ⟨.of (s3 _ _ g1),fun p4 hp4=>?_⟩⟩;refine⟨smq rfl,fun p5 hp5=>?_⟩;have s5:=(Yc.upd (o:=.tup rs) hp4).trans (Yc.upd (o:=.tup [.ref p3,.ref p4]) hp5);refine q _ _ (S1.trans (s3.trans s5)) ?_;refine Am AC (AS (Am (s5 _ _ g3p) (Kg bs)) (AS (Am (Yc.upd hp5 _ _ AC) ?_) AU));exact Yd.same (s3.trans s5) _ _ R1
noncomputable def Ae(ts:List (List Bool)):List Dv:=ts.map fun b=>.tup (b.map Dv.bl)
noncomputable def gmD(ls:List Int)(rs:List (List Bool)):Dv:=.tup [.tup (ls.map Dv.int),.tup (Ae rs)]
structure Gm(ls:List Int)(rs:List (List Bool)):Prop where
 l1:1<=ls.length
 l16:ls.length<=16
 r1:1<=rs.length
 r16:rs.length<=16
 row:∀r∈rs,r.length=ls.length
 sm:∀x∈ls,x.natAbs<=100000000000000000000
theorem Ce:∀ts:List (List Bool),Az (Ae ts)=true
 | []=>rfl
 | b::ts=>by
  show Az (Dv.tup (b.map Dv.bl)::Ae ts)=true;unfold Az Bh;rw[JV,Ce ts];rfl
theorem D9(ts:List (List Bool)):(Ae ts).length=ts.length:=ZC ..
theorem J8:∀(k:Nat) {ds:List Dv} {xs:List V},Yd K H ds xs->Yd K H (ds.take k) (xs.take k)
 | 0,_,_,_=>by simpa using AU
 | k+1,[],xs,h=>by unfold Yd at h;subst h;simpa using AU
 | k+1,d::ds,xs,h=>by
  unfold Yd at h;obtain⟨x,r,rfl,h1,h2⟩:=h;simpa using AS h1 (J8 k h2)
theorem L8:∀(k:Nat) {ds:List Dv} {xs:List V},Yd K H ds xs->Yd K H (ds.drop k) (xs.drop k)
 | 0,_,_,h=>by simpa using h
 | k+1,[],xs,h=>by unfold Yd at h;subst h;simpa using AU
 | k+1,d::ds,xs,h=>by
  unfold Yd at h;obtain⟨x,r,rfl,h1,h2⟩:=h;simpa using L8 k h2
theorem UI(ts:List (List Bool))(b:List Bool)(k:Nat):Ae (ts.take k++b::ts.drop k)=(Ae ts).take k++.tup (b.map Dv.bl)::(Ae ts).drop k:=by
 unfold Ae;rw[ZN,Zi,List.map_take,List.map_drop]
theorem Ep:∀bs:List Bool,BJ (bs.map Dv.bl)=0
 | []=>by simp[BJ]
 | b::bs=>by
  show BJ (Dv.bl b::bs.map Dv.bl)=_;unfold BJ;rw[Ep bs];rfl
theorem Nq(ts:List (List Bool)):∀e∈Ae ts,AY e<=50:=by
 intro e he;obtain⟨b,_,rfl⟩:=ZU.mp he;unfold AY;rw[Ep];lia
theorem T5(xs:List V)(a:Nat)(h:a<=xs.length):BO xs none (some (a:Int))=xs.take a:=by
 unfold BO;rw[HT.sIx_nat,HT.sIx_none,List.drop_zero,Nat.sub_zero,Nat.min_eq_left h]
theorem VB(xs:List V)(a:Nat)(h:a<=xs.length):BO xs (some (a:Int)) none=xs.drop a:=by
 unfold BO;rw[HT.sIx_nat,HT.sIx_none,Nat.min_eq_left h,ZBV (by rw[ZBE];lia)]
theorem Ll{ts:List (List Bool)}(h:Yd K H (Ae ts) xs):∀ns:List Int,ns.length≠0->xs≠ns.map V.int:=by
 intro ns hn e;cases ts with
 | nil =>
  have:xs=[]:=by simpa [Ae,Yd] using h
  subst this;cases ns with
  | nil=>exact hn rfl
  | cons _ _=>cases e
 | cons b ts =>
  have h':Yd K H (Dv.tup (b.map Dv.bl)::Ae ts) xs:=h;unfold Yd at h';obtain⟨x,r,rfl,h1,_⟩:=h';unfold Yh at h1;obtain⟨a,zs,rfl,_⟩:=h1;cases ns with
  | nil=>exact hn rfl
  | cons _ _=>cases e
theorem E3{H0:Hp}(f:Yk t H0 H)(hp:H0 p=none):Yk t H0 (upd H p o):=fun b u n e=>by
 rw[AH (BD e hp)];exact f b u n e
noncomputable def JI(K:W.Frag):Sp:=fun vs H Q _=>match vs with
 | [.ref t,.int n,.int y]=>∃m M N:Nat,GFeed H t N/\N<=850000000/\n=m/\1<=m/\m<=3/\y=M/\2<=M/\M<=6/\∀(ts:List (List Bool)) xs p H',2<=ts.length->ts.length<=M->(∀b∈ts,b.length=2 ^ m)->H p=none->H' p=some (.lst xs)->Yd K H' (Ae ts) xs->GFeed H' t (N+400)->Yk t H H'->Q (.ref p) H'
 | _=>False
theorem UP:Xa P w base T.z39 3 (JI K):=by
 have G_z47:=@C9 P w K mg base T;have G_z43:=@MW P w K mg base T;refine T.z39.F.ok sc_z39 (fun vs H Q E h=>by unfold JI at h;walk_at "e") ?_;walk_at "f";have hr_z47:=hr.mono (show 1<=_ by decide);have hr_z43:=hr.mono (show 2<=_ by decide);unfold JI at h;walk_at "g"
 rename_i t n y;obtain⟨m,M,N,F,hN,e1,m1,m3,e2,M2,M6,q⟩:=h;subst e1 e2;refine⟨_,(@AF _ _ _ _ _ (@AO _ _ 3 _ _ _ _ sc_z39.nd rfl (by right) (@A6 _ _ _ _ (AA (AJ G_z43 hr_z43 rfl T.z43.m T.z43.F.kp T.z43.b .nil AG (AA (vv 0) (AA (vv 1) AB))) AB)) (by rfl) (by symm)) (@AF _ _ _ _ _ (@AO _ _ 4 _ _ _ _ sc_z39.nd rfl (by right) (AJ G_z47 hr_z47 rfl T.z47.m T.z47.F.kp T.z47.b .nil AG (AA (vv 0) (AA (AQ LL AD (vv 1)) AB))) (by rfl) (by symm)) (@AF _ _ _ _ _ (@DJ _ _ _ _ (Du (K:=K) (vv 3) (AA (AQ (En (K:=K)) (AQ (En (K:=K)) (MU (K:=K) (Yo (K:=K) (vv 3) AD) Fy (Ij (vv 4))) (A2 (AA (OZ (Yo (K:=K) (Yo (K:=K) (vv 3) AD) (vv 4))) AB))) (MU (K:=K) (Yo (K:=K) (vv 3) AD) (Ij (AQ (En (K:=K)) (vv 4) AD)) Fy)) AB)) (by rfl)) (@AF _ _ _ _ _ (@Bq _ _ _ _ _ _ _ _ PassesOwn.never rfl (A3 rfl T.z_range (AA (AQ Ca AD (vv 2)) AB)) (AT (i:=5) sc_z39.nd rfl (by right)) (@AF _ _ _ _ _ (@AO _ _ 6 _ _ _ _ sc_z39.nd rfl (by right) (AJ G_z43 hr_z43 rfl T.z43.m T.z43.F.kp T.z43.b .nil AG (AA (vv 0) (AA (vv 1) AB))) (by rfl) (by symm)) (@AI _ _ _ (@Aw _ _ _ _ _ _ _ _ (PW.pt (De (Ak C3 (AX (BA (K:=K)) rfl T.z_len (by rfl) (AA (vv 3) AB)) (vv 2)) (EF (Ak (M0 (K:=K) hu) (vv 6) (vv 3))))) (@AI _ _ _ (@DJ _ _ _ _ (OW (K:=K) (vv 3) (AA (AJ G_z47 hr_z47 rfl T.z47.m T.z47.F.kp T.z47.b .nil AG (AA (vv 0) (AA (AQ (En (K:=K)) (AX (BA (K:=K)) rfl T.z_len (by rfl) (AA (vv 3) AB)) AD) AB))) (AA (vv 6) AB))) (by rfl))) Av))) (by intro _;rfl)) (@AI _ _ _ (@AR _ _ _ _ (vv 3))))))),?_⟩;have hmo:=UE;have h2:2<=2 ^ m:=Zj (n:=2) (i:=1) (by decide) m1;have h8:2 ^ m<=8:=Zj (n:=2) (i:=m) (j:=3) (by decide) m3;have em:(1:Int) * 2 ^ ((m:Int).toNat)=((2 ^ m:Nat):Int):=by rw[Zb,Int.natCast_pow,Int.one_mul];rfl
 refine⟨m,N,F,by lia,rfl,m1,by lia,fun bs p1 H1 hb hp1 g1 F1 f1=>?_⟩;refine⟨smq rfl,fun l hl=>?_⟩;have hlH:H l=none:=F1.free f1 hl;have lt:l≠t:=F.neT hlH;dsimp only[Af];refine Ag (fun σ H'=>∃a:Nat,a < 2 ^ m/\σ=[some (.ref t),some (.int m),some (.int M),some (.ref l),some (.int a),none,none]/\GFeed H' t (N+19)/\Yk t H H'/\H' l=some (.lst [.ref p1])/\H' p1=some (.tup (bs.map V.bl))) ?_ ?_ (by walk_at "sm")
 ·refine⟨⟨by lia,by lia,by decide⟩,?_⟩;rw[em];have F2:=F1.upd (o:=.lst [.ref p1]) hl;refine⟨_,F2,by lia,An (by lia) (by lia),fun a H3 a0 a1 F3 f3=>?_⟩;have f2:Yk t H1 (upd H1 l (.lst [.ref p1])):=Yk.upd hl;have n1:p1≠t:=F.neT hp1;have nl:p1≠l:=fun e=>by rw[e,hl]at g1;cases g1
  refine⟨a.toNat,by lia,?_,F3,f1.trans (f2.trans (Ab f3)),by rw[f3 l lt,AC],by rw[f3 p1 n1,AH nl];exact g1⟩;rw[Int.toNat_of_nonneg a0];rfl
 rintro σ H2 ⟨a,ha,rfl,F2,f2,gl2,gp2⟩;have hbl:(bs.map V.bl).length=2 ^ m:=by rw[ZC];exact hb
 have hix:atI (bs.map V.bl) (a:Int)=some (.bl (bs.getD a false)):=Ai rfl (by rw[ZR,ZV,ZE (show a < bs.length by lia)];rfl);refine Ag (fun σ H'=>∃(ts:List (List Bool)) (xs:List V) (z5 z6:Option V),σ=[some (.ref t),some (.int m),some (.int M),some (.ref l),some (.int a),z5,z6]/\2<=ts.length/\ts.length<=M/\(∀b∈ts,b.length=2 ^ m)/\H' l=some (.lst xs)/\Yd K H' (Ae ts) xs/\GFeed H' t (N+19)/\Yk t H H') ?_ ?_ (by walk_at "sm")
 ·refine⟨.inl ⟨rfl,_,.of gl2⟩,?_⟩;refine⟨_,_,.inl (.of gl2),rfl,?_⟩;refine⟨(a:Int),rfl,_,.of gp2,fun q1 H3 S3 t3=>?_⟩;rw[T5 _ a (by lia)]at t3;refine⟨_,_,.inl (.of (S3 _ _ gl2)),rfl,_,_,.inr (.of (S3 _ _ gp2)),hix,?_⟩;refine⟨smq rfl,fun q2 hq2=>?_⟩;have S4:Yc H3 (upd H3 q2 (.tup [.bl (!bs.getD a false)])):=Yc.upd hq2;have t4:Yq K (upd H3 q2 (.tup [.bl (!bs.getD a false)])) q2 [.bl (!bs.getD a false)]:=.of AC;generalize upd H3 q2 (.tup [.bl (!bs.getD a false)])=H4 at *;refine .inr ⟨_,_,S4.sqT t3,t4,CF (by rw[Zf];show _+1<=1000;lia),fun q3 H5 S5 t5=>?_⟩;have S25:=S3.trans (S4.trans S5);refine⟨_,_,.inl (.of (S25 _ _ gl2)),rfl,?_⟩;refine⟨(a+1:Nat),rfl,_,.of (S25 _ _ gp2),fun q4 H6 S6 t6=>?_⟩;rw[VB _ (a+1) (by lia)]at t6;refine .inr ⟨_,_,S6.sqT t5,t6,CF (by rw[ZL,Zf,ZBE];show _+1+_<=1000;lia),fun q5 H7 S7 t7=>?_⟩;have S27:=S25.trans (S6.trans S7);generalize hcs:bs.take a++(!bs.getD a false)::bs.drop (a+1)=cs
  have ecs:(bs.map V.bl).take a++[V.bl (!bs.getD a false)]++(bs.map V.bl).drop (a+1)=cs.map V.bl:=by
   rw[<- hcs,ZN,Zi,List.map_take,List.map_drop,List.append_assoc];rfl
  have hcl:cs.length=2 ^ m:=by
   rw[<- hcs,ZL,Zk,Zf,ZBE];lia
  rw[ecs]at t7;refine⟨_,S27 _ _ gl2,Ad (show 1<=1000 by decide),?_⟩;have fr:Yk l H7 (upd H7 l (.lst ([.ref p1]++[.ref q5]))):=Yk.updT;have R7:Yd K H7 (Ae [bs,cs]) [.ref p1,.ref q5]:=AS (Am (S27 _ _ gp2) (Bp bs)) (AS (by unfold Yh;exact⟨q5,_,rfl,t7,Bp cs⟩) AU);refine⟨[bs,cs],_,_,_,rfl,ZD 2,M2,?_,AC,Yd.frm fr ⟨_,S27 _ _ gl2⟩ _ _ (Ce _) R7,?_,?_⟩
  ·intro b hb'
   rcases ZI.mp hb' with rfl | hb'
   ·exact hb
   ·rcases ZI.mp hb' with rfl | hb'
    ·exact hcl
    ·cases hb'
  ·exact(F2.same S27).put lt (S27 _ _ gl2) fun ns hn e=>by
    cases ns with
    | nil=>exact hn rfl
    | cons _ _=>cases e
  ·exact E3 (f2.trans fun b o _ e=>S27 b o e) hlH
 rintro σ H3 ⟨ts,xs,z5,z6,rfl,t2,tM,tb,gl3,R3,F3,f3⟩;refine Ag (fun σ H'=>∃(ts:List (List Bool)) (xs:List V) (z5 z6:Option V),σ=[some (.ref t),some (.int m),some (.int M),some (.ref l),some (.int a),z5,z6]/\2<=ts.length/\ts.length<=M/\(∀b∈ts,b.length=2 ^ m)/\H' l=some (.lst xs)/\Yd K H' (Ae ts) xs/\GFeed H' t (N+400)/\Yk t H H') ?_ ?_ (by walk_at "sm")
 ·refine⟨.inr (.inl ⟨by decide,by decide⟩),2 * (M:Int),rfl,by lia,by lia,?_⟩;refine CK (fun i σ H'=>∃(ts:List (List Bool)) (xs:List V) (z5 z6:Option V),σ=[some (.ref t),some (.int m),some (.int M),some (.ref l),some (.int a),z5,z6]/\2<=ts.length/\ts.length<=M/\(∀b∈ts,b.length=2 ^ m)/\H' l=some (.lst xs)/\Yd K H' (Ae ts) xs/\GFeed H' t (N+19+19 * i)/\Yk t H H') ⟨ts,xs,z5,z6,rfl,t2,tM,tb,gl3,R3,F3,f3⟩ ?_ ?_
  ·rintro i σ H4 hi ⟨ts,xs,z5,z6,rfl,t2,tM,tb,gl4,R4,F4,f4⟩;have hxl:xs.length=ts.length:=by rw[<- R4.length,D9]
   refine⟨m,_,F4,by lia,rfl,m1,by lia,fun bs2 p2 H5 hb2 hp2 g2 F5 f5=>?_⟩;have R5:Yd K H5 (Ae ts) xs:=Yd.frm f5 F4.lst _ _ (Ce _) R4;have gl5:H5 l=some (.lst xs):=f5 _ _ lt gl4;dsimp only[Af]
   have stay:∃(ts:List (List Bool)) (xs:List V) (z5' z6':Option V),[some (V.ref t),some (.int m),some (.int M),some (.ref l),some (.int a),some (.int (0+i)),some (.ref p2)]=[some (.ref t),some (.int m),some (.int M),some (.ref l),some (.int a),z5',z6']/\2<=ts.length/\ts.length<=M/\(∀b∈ts,b.length=2 ^ m)/\H5 l=some (.lst xs)/\Yd K H5 (Ae ts) xs/\GFeed H5 t (N+19+19 * (i+1))/\Yk t H H5 :=
    ⟨ts,xs,_,_,rfl,t2,tM,tb,gl5,R5,F5.mono (by lia),f4.trans f5⟩
   have ep2:Yh K H5 (.tup (bs2.map Dv.bl)) (.ref p2):=Am g2 (Bp bs2);refine⟨_,.inl ⟨_,.of gl5,rfl⟩,?_⟩;refine Ao (fun e=>?_) (fun e=>stay);have e':(xs.length:Int) < (M:Int):=ZZ e;refine⟨_,_,_,.inl (.of gl5),R5,ep2,Nq ts,?_⟩;refine Ao (fun e=>?_) (fun e=>stay);refine⟨.inl ⟨rfl,_,.of gl5⟩,?_⟩;refine⟨_,.inl ⟨_,.of gl5,rfl⟩,?_⟩;refine⟨_,F5,by lia,An (by lia) (Int.le_trans (show(xs.length:Int)+1<=7 by lia) (by decide)),fun d H6 d0 d1 F6 f6=>?_⟩;have gl6:H6 l=some (.lst xs):=by rw[f6 l lt];exact gl5
   refine⟨xs,gl6,d0,by lia,by lia,?_⟩;have R6:Yd K H6 (Ae ts) xs:=Yd.frm (Ab f6) F5.lst _ _ (Ce _) R5;have ep6:Yd K H6 [.tup (bs2.map Dv.bl)] [.ref p2]:=AS (Am (by rw[f6 p2 (F4.neT hp2)];exact g2) (Bp bs2)) AU
   have R7:Yd K H6 (Ae (ts.take d.toNat++bs2::ts.drop d.toNat)) (xs.take d.toNat++.ref p2::xs.drop d.toNat):=by
    rw[UI];exact Yd.append (J8 _ R6) (Yd.append ep6 (L8 _ R6))
   refine⟨_,_,_,_,rfl,?_,?_,?_,AC,Yd.frm Yk.updT ⟨_,gl6⟩ _ _ (Ce _) R7,(F6.put lt gl6 (Ll R6)).mono (by lia),E3 (f4.trans (f5.trans (Ab f6))) hlH⟩
   ·rw[ZL,Zk,Zf,ZBE];lia
   ·rw[ZL,Zk,Zf,ZBE];lia
   ·intro b hb'
    rcases Zh.mp hb' with h | h
    ·exact tb b (List.mem_of_mem_take h)
    ·rcases ZI.mp h with rfl | h
     ·exact hb2
     ·exact tb b (List.mem_of_mem_drop h)
  ·rintro σ H4 ⟨ts,xs,z5,z6,rfl,t2,tM,tb,gl4,R4,F4,f4⟩;exact⟨ts,xs,z5,z6,rfl,t2,tM,tb,gl4,R4,F4.mono (by lia),f4⟩
 rintro σ H4 ⟨ts,xs,z5,z6,rfl,t2,tM,tb,gl4,R4,F4,f4⟩;exact q ts xs l H4 t2 tM tb hlH gl4 R4 F4 f4
theorem NU:∀(cs:List Bool) (zs:List V),Yd K H (cs.map Dv.bl) zs->zs=cs.map V.bl
 | [],zs,h=>by
  have h':Yd K H [] zs:=h;unfold Yd at h';exact h'
 | c::cs,zs,h=>by
  have h':Yd K H (Dv.bl c::cs.map Dv.bl) zs:=h;unfold Yd at h';obtain⟨x,r,rfl,h1,h2⟩:=h';unfold Yh at h1;rw[h1,NU cs r h2];rfl
theorem FC:∀ns:List Int,Yd K H (ns.map Dv.int) (ns.map V.int)
 | []=>AU
 | _::ns=>AS CV (FC ns)
noncomputable def GC(K:W.Frag):Sp:=fun vs H Q _=>match vs with
 | [.ref l]=>∃(ts:List (List Bool)) (xs:List V) (M:Nat),H l=some (.lst xs)/\Yd K H (Ae ts) xs/\2<=ts.length/\ts.length<=6/\(∀b∈ts,b.length=M)/\1<=M/\M<=8/\∀ls rs u H',Gm ls rs->Yc H H'->Yh K H' (gmD ls rs) u->Q u H'
 | _=>False
theorem PP:Xa P w base T.z21 1 (GC K):=by
 refine T.z21.F.ok sc_z21 (fun vs H Q E h=>by unfold GC at h;walk_at "e") ?_;walk_at "f";unfold GC at h;walk_at "g"
 rename_i l;obtain⟨ts,xs,M,gl,R,t2,t6,tb,M1,M8,q⟩:=h;refine⟨_,(@AF _ _ _ _ _ (@DA _ _ _ _ _ _ _ (["_law_k","_law_tables"]) 1 [0] _ _ _ _ 1 _ _ _ rfl sc_z21.nd rfl rfl (A3 rfl T.z_range (AA (AX (BA (K:=K)) rfl T.z_len (by rfl) (AA (Yo (K:=K) (vv 0) AD) AB)) AB)) (by kernel_rfl) rfl rfl (by kernel_rfl) (fun c=>AT (i:=0) (show(["_law_k","_law_tables"]:List Str).Nodup by decide +kernel) rfl (by right)) (Ah (by decide)) (fun c=>Ap) (fun c=>(Ar (A9 (K:=K)) rfl T.z_tuple (by rfl) (AA (Aq (N':=["_law_table_here","_law_k"]) (own:=1) (ix:=[0]) rfl (BB (K:=K) (vv 1)) (by kernel_rfl) rfl rfl (by kernel_rfl) (fun c=>AT (i:=0) (show(["_law_table_here","_law_k"]:List Str).Nodup by decide +kernel) rfl (by right)) (Ah (by decide)) (fun c=>Ap) (fun c=>(Yo (K:=K) (vv 0) (vv 1)))) AB))) (by rfl) (by intro _;rfl)) (@AI _ _ _ (@AR _ _ _ _ (A2 (AA (Ar (A9 (K:=K)) rfl T.z_tuple (by rfl) (AA (@Aq _ _ _ _ _ _ _ ["_law_k"] 1 [] _ _ _ _ rfl (A3 rfl T.z_range (AA (AX (BA (K:=K)) rfl T.z_len (by rfl) (AA (vv 0) AB)) AB)) (by kernel_rfl) rfl rfl (by kernel_rfl) (fun c=>AT (i:=0) (show(["_law_k"]:List Str).Nodup by decide +kernel) rfl (by right)) (Ah (by decide)) (fun c=>Ap) (fun c=>(vv 0)) (by intro _;rfl)) AB)) (AA (Ar (A9 (K:=K)) rfl T.z_tuple (by rfl) (AA (vv 1) AB)) AB)))))),?_⟩;have hxl:xs.length=ts.length:=by rw[<- R.length,D9]
 have at_:∀(j:Nat) (x:V),xs[j]? = some x->∃(a:Addr) (bs:List Bool),x=.ref a/\Yq K H a (bs.map V.bl)/\bs.length=M:=by
  intro j x hx;have hj:j < ts.length:=by have:=(Zr.mp hx).1;lia
  obtain⟨y,h1,h2⟩:=R.get (i:=j) (d:=.tup (ts[j].map Dv.bl)) (by unfold Ae;rw[ZR,ZE hj];rfl);rw[hx]at h1;cases h1;unfold Yh at h2;obtain⟨a,zs,rfl,h3,h4⟩:=h2;rw[NU _ _ h4]at h3;exact⟨a,ts[j],rfl,h3,tb _ (Zl hj)⟩
 obtain⟨x0,hx0⟩:∃x,xs[0]? = some x:=⟨_,ZE (show 0 < xs.length by lia)⟩;obtain⟨a0,bs0,rfl,q0,l0⟩:=at_ 0 _ hx0;refine⟨_,_,.inl (.of gl),Ai (n:=0) rfl hx0,_,.inr ⟨_,q0,rfl⟩,?_⟩;rw[ZC,l0];refine⟨(M:Int),rfl,by lia,by lia,?_⟩
 refine BU (fun i ys H'=>Yc H H'/\∃rs:List (List Bool),rs.length=i/\(∀r∈rs,r.length=ts.length)/\Yd K H' (Ae rs) ys) ⟨fun _ _ e=>e,[],rfl,nofun,AU⟩ (fun i ys H' hi ⟨_,rs,e,_,R'⟩=>by
  rw[<- R'.length,D9];exact Ad (by lia)) ?_ ?_
 ·rintro i ys H1 hi ⟨S1,rs,rfl,hr1,R1⟩;refine .inl ⟨⟨_,.of (S1 _ _ gl)⟩,?_⟩
  refine B1 (xs:=xs) (fun j zs H'=>H'=H1/\∃bs:List Bool,zs=bs.map V.bl/\bs.length=j) ⟨rfl,[],rfl,rfl⟩ (fun j zs H' _ ⟨e,_⟩=>by rw[e];exact .of (S1 _ _ gl)) (fun j zs H' hj ⟨_,bs,e,el⟩=>by
   rw[e,ZC,el];exact Ad (by lia)) ?_ ?_
  ·rintro j x zs H' hx ⟨rfl,bs,rfl,rfl⟩;obtain⟨a,cs,rfl,h1,h2⟩:=at_ _ _ hx;refine⟨_,_,.inr (S1.sqT h1),Ai (n:=rs.length) (by lia) (by rw[ZR,ZE (show rs.length < cs.length by lia)];rfl),?_⟩;exact⟨rfl,bs++[_],by rw[ZN];rfl,by rw[ZL];rfl⟩
  ·rintro zs H' ⟨rfl,bs,rfl,hb⟩ k hk;refine⟨_,.inl ⟨.of AC,fun p hp=>?_⟩⟩;have s3:=(Yc.upd (o:=.lst (bs.map V.bl)) hk).trans (Yc.upd (o:=.tup (bs.map V.bl)) hp);refine⟨S1.trans s3,rs++[bs],by rw[ZL];rfl,?_,?_⟩
   ·intro r hr'
    rcases Zh.mp hr' with h | h
    ·exact hr1 r h
    ·rw[ZF.mp h];lia
   ·have e:Ae (rs++[bs])=Ae rs++[.tup (bs.map Dv.bl)]:=by unfold Ae;rw[ZN];rfl
    rw[e];exact Yd.append (Yd.same s3 _ _ R1) (AS (Am AC (Bp bs)) AU)
 ·rintro ys H1 ⟨S1,rs,hrl,hr1,R1⟩ k hk;have s2:Yc H1 (upd H1 k (.lst ys)):=Yc.upd hk;have g2:upd H1 k (.lst ys) k=some (.lst ys):=AC;generalize upd H1 k (.lst ys)=H2 at *;dsimp only[Af];refine⟨_,.inl ⟨_,.of (s2 _ _ (S1 _ _ gl)),rfl⟩,(xs.length:Int),rfl,by lia,by lia,?_⟩
  refine BU (fun i ys H'=>H'=H2/\∃ls:List Int,ys=ls.map V.int/\ls.length=i/\∀x∈ls,x.natAbs<=6) ⟨rfl,[],rfl,rfl,nofun⟩ (fun i ys H' hi ⟨_,ls,e,el,_⟩=>by
   rw[e,ZC,el];exact Ad (by lia)) ?_ ?_
  ·rintro i ys H' hi ⟨rfl,ls,rfl,el,hs⟩;refine⟨rfl,ls++[0+(i:Int)],by rw[ZN];rfl,by rw[ZL,el];rfl,?_⟩;intro x hx
   rcases Zh.mp hx with h | h
   ·exact hs x h
   ·rw[ZF.mp h];lia
  ·rintro ys' H' ⟨rfl,ls,rfl,el,hs⟩ k3 hk3;refine⟨_,.inl ⟨.of AC,fun p hp=>?_⟩⟩;have s3:=(Yc.upd (o:=.lst (ls.map V.int)) hk3).trans (Yc.upd (o:=.tup (ls.map V.int)) hp);have g3:upd (upd H' k3 (.lst (ls.map V.int))) p (.tup (ls.map V.int)) p=some (.tup (ls.map V.int)):=AC;generalize upd (upd H' k3 (.lst (ls.map V.int))) p (.tup (ls.map V.int))=H3 at *;refine⟨_,.inl ⟨.of (s3 _ _ g2),fun p4 hp4=>?_⟩⟩;refine⟨smq rfl,fun p5 hp5=>?_⟩;have s5:=(Yc.upd (o:=.tup ys) hp4).trans (Yc.upd (o:=.tup [.ref p,.ref p4]) hp5);refine q ls rs _ _ ⟨by lia,by lia,by lia,by lia,fun r h=>by rw[hr1 r h];lia,fun x h=>Za (hs x h) (by decide)⟩ (S1.trans (s2.trans (s3.trans s5))) ?_;exact Am AC (AS (Am (s5 _ _ g3) (FC ls)) (AS (Am (Yc.upd hp5 _ _ AC) (Yd.same (s2.trans (s3.trans s5)) _ _ R1)) AU))
noncomputable def Bz(K:W.Frag)(n b:Nat):Sp:=fun vs H Q _=>match vs with
 | [.ref t]=>∃N:Nat,GFeed H t N/\N<=b/\∀ls rs u H',Gm ls rs->Yh K H' (gmD ls rs) u->GFeed H' t (N+n)->Yk t H H'->Q u H'
 | _=>False
theorem Si{b:Nat}:AZ (Bz K n b):=fun vs H Q Q' E h q=>by
 unfold Bz at *;walk_at "q"
theorem OM:Xa P w base T.z38 2 (Bz K 10 850000000):=by
 have G_z47:=@C9 P w K mg base T;have G_z47:=@J7 P w K mg base T;refine T.z38.F.ok sc_z38 (fun vs H Q E h=>by unfold Bz at h;walk_at "e") ?_;walk_at "f";have hr_z47:=hr.mono (show 1<=_ by decide);unfold Bz at h;walk_at "g"
 rename_i t;obtain⟨N,F,hN,q⟩:=h;refine⟨_,(@AF _ _ _ _ _ (@AO _ _ 1 _ _ _ _ sc_z38.nd rfl (by right) (AQ (A8 (K:=K)) AD (AJ G_z47 hr_z47 rfl T.z47.m T.z47.F.kp T.z47.b .nil AG (AA (vv 0) (AA AD AB)))) (by rfl) (by symm)) (@AF _ _ _ _ _ (@AO _ _ 2 _ _ _ _ sc_z38.nd rfl (by right) (AJ G_z47 hr_z47 rfl T.z47.m T.z47.F.kp T.z47.b .nil AG (AA (vv 0) (AA AD AB))) (by rfl) (by symm)) (@AF _ _ _ _ _ (@DA _ _ _ _ _ _ _ ["_law_k"] 1 [] _ _ _ _ 3 _ _ _ rfl sc_z38.nd rfl rfl (A3 rfl T.z_range (AA (vv 1) AB)) (by kernel_rfl) rfl rfl (by kernel_rfl) (fun c=>AT (i:=0) (show(["_law_k"]:List Str).Nodup by decide +kernel) rfl (by right)) (Ah (by decide)) (fun c=>Ap) (fun c=>(vv 0)) (by rfl) (by intro _;rfl)) (@AF _ _ _ _ _ (@Aw _ _ _ _ _ _ _ _ (Ak (kEq (K:=K) hu) (AJ G_z47 hr_z47 rfl T.z47.m T.z47.F.kp T.z47.b .nil AG (AA (vv 0) (AA AD AB))) AD) (@AI _ _ _ (@Ct _ _ _ _ _ _ (AJ G_z47 hr_z47 rfl T.z47.m T.z47.F.kp T.z47.b .nil AG (AA (vv 0) (AA (vv 1) AB))) (C1 (vv 3) (AJ G_z47 hr_z47 rfl T.z47.m T.z47.F.kp T.z47.b .nil AG (AA (vv 0) (AA (vv 1) AB))) C8) (by rfl) (by rfl) (by rfl))) Av) (@AF _ _ _ _ _ (@DA _ _ _ _ _ _ _ (["_law_one","_law_many"]) 1 [1] _ _ _ _ 4 _ _ _ rfl sc_z38.nd rfl rfl (Hu rfl T.z_range (AA (vv 2) (AA (vv 1) AB))) (by kernel_rfl) rfl rfl (by kernel_rfl) (fun c=>AT (i:=0) (show(["_law_one","_law_many"]:List Str).Nodup by decide +kernel) rfl (by right)) (Ah (by decide)) (fun c=>Ap) (fun c=>(Ar (A9 (K:=K)) rfl T.z_tuple (by rfl) (AA (Aq (N':=["_law_k","_law_one"]) (own:=1) (ix:=[0]) rfl (A3 rfl T.z_range (AA (vv 1) AB)) (by kernel_rfl) rfl rfl (by kernel_rfl) (fun c=>AT (i:=0) (show(["_law_k","_law_one"]:List Str).Nodup by decide +kernel) rfl (by right)) (Ah (by decide)) (fun c=>Ap) (fun c=>(Ba (kEq (K:=K) hu) (vv 0) (vv 1)))) AB))) (by rfl) (by intro _;rfl)) (@AI _ _ _ (@AR _ _ _ _ (A2 (AA (Ar (A9 (K:=K)) rfl T.z_tuple (by rfl) (AA (vv 3) AB)) (AA (Ar (A9 (K:=K)) rfl T.z_tuple (by rfl) (AA (vv 4) AB)) AB)))))))))),?_⟩;obtain⟨c,F⟩:=F.told;refine⟨c,N,F,by lia,An (by decide) (by decide),fun d1 H1 a0 a1 F1 f1=>?_⟩;dsimp only[Af,DO];obtain⟨M,rfl⟩:∃M:Nat,d1=M:=⟨d1.toNat,by lia⟩;refine⟨c,_,F1,by lia,An (by decide) (by decide),fun d2 H2 b0 b1 F2 f2=>?_⟩;dsimp only[Af];have f2':Yk t H H2:=(Ab f1).trans (Ab f2);refine Ag (fun σ H'=>∃(l:Addr) (ls:List Int),σ=[some (.ref t),some (.int (2+M)),some (.int d2),some (.ref l),none]/\H l=none/\l≠t/\l≠c/\H' l=some (.lst (ls.map V.int))/\ls.length=M+2/\(∀x∈ls,x.natAbs<=10)/\GFd H' t c (N+2)/\Yk t H H') ?_ ?_ (by walk_at "sm")
 ·refine⟨(2+M:Int),rfl,by lia,by lia,?_⟩
  refine BU (fun i ys H'=>H'=H2/\∃ls:List Int,ys=ls.map V.int/\ls.length=i/\∀x∈ls,x.natAbs<=10) ⟨rfl,[],rfl,rfl,nofun⟩ (fun i ys H' hi ⟨_,ls,e,el,_⟩=>by
   rw[e,ZC,el];exact Ad (by lia)) ?_ ?_
  ·rintro i ys H' hi ⟨rfl,ls,rfl,el,hs⟩;refine⟨rfl,ls++[0+(i:Int)],by rw[ZN];rfl,by rw[ZL,el];rfl,?_⟩;intro x hx
   rcases Zh.mp hx with h | h
   ·exact hs x h
   ·rw[ZF.mp h];lia
  ·rintro ys H' ⟨rfl,ls,rfl,el,hs⟩ l hl;have Yr:=F2.ne hl;exact⟨l,ls,rfl,F2.feed.free f2' hl,Yr.1,Yr.2,AC,by lia,hs,F2.upd hl,f2'.trans (Yk.upd hl)⟩
 rintro σ H3 ⟨l,ls,rfl,hl,lt,lc,gl3,ll,hs,F3,f3⟩;refine Ag (fun σ H'=>∃(ls:List Int),σ=[some (.ref t),some (.int (2+M)),some (.int d2),some (.ref l),none]/\H' l=some (.lst (ls.map V.int))/\ls.length=M+2/\(∀x∈ls,x.natAbs<=10)/\GFeed H' t (N+10)/\Yk t H H') ?_ ?_ (by walk_at "sm")
 ·refine⟨c,_,F3,by lia,An (by decide) (by decide),fun d3 H4 _ _ F4 f4=>?_⟩;have gl4:H4 l=some (.lst (ls.map V.int)):=by rw[f4 l lt];exact gl3
  refine Ao (fun e=>?_) (fun e=>⟨ls,rfl,gl4,ll,hs,F4.feed.mono (by lia),f3.trans (Ab f4)⟩);refine⟨c,_,F4,by lia,An (by lia) (by lia),fun d4 H5 p0 p1 F5 f5=>?_⟩;refine⟨c,_,F5,by lia,An (by lia) (by lia),fun d5 H6 q0 q1 F6 f6=>?_⟩;have gl6:H6 l=some (.lst (ls.map V.int)):=by rw[f6 l lt,f5 l lt];exact gl4
  have hd5:ixN (ls.map V.int).length d5=some d5.toNat:=by
   rw[ZC];unfold ixN;rw[if_pos (by lia),if_pos (by lia)]
  refine⟨_,_,gl6,hd5,ls.set d5.toNat d4,rfl,by rw[AC,List.map_set],by rw[ZBU];exact ll,?_,(F6.put ⟨lt,lc⟩).feed.mono (by lia),E3 (f3.trans ((Ab f4).trans ((Ab f5).trans (Ab f6)))) hl⟩;intro x hx
  rcases List.mem_or_eq_of_mem_set hx with h | h
  ·exact hs x h
  ·rw[h];lia
 rintro σ H4 ⟨ls,rfl,gl4,ll,hs,F4,f4⟩;have n0:(0:Int)<=2+M - d2:=by lia
 refine⟨d2,2+M,rfl,⟨by lia,by lia,by lia,by lia⟩,?_⟩;obtain⟨W,hW,w1,w7⟩:∃W:Nat,(2+(M:Int) - d2).toNat=W/\1<=W/\W<=7:=⟨_,rfl,by lia,by lia⟩;rw[hW]
 refine BU (fun i ys H'=>Yc H4 H'/\∃rs:List (List Bool),rs.length=i/\(∀r∈rs,r.length=M+2)/\Yd K H' (Ae rs) ys) ⟨fun _ _ e=>e,[],rfl,nofun,AU⟩ (fun i ys H' hi ⟨_,rs,e,_,R'⟩=>by
  rw[<- R'.length,D9];exact Ad (by lia)) ?_ ?_
 ·rintro i ys H1 hi ⟨S1,rs,rfl,hr1,R1⟩;refine⟨(2+M:Int),rfl,by lia,by lia,?_⟩
  refine BU (fun j zs H'=>H'=H1/\∃bs:List Bool,zs=bs.map V.bl/\bs.length=j) ⟨rfl,[],rfl,rfl⟩ (fun j zs H' hj ⟨_,bs,e,el⟩=>by
   rw[e,ZC,el];exact Ad (by lia)) ?_ ?_
  ·rintro j zs H' hj ⟨rfl,bs,rfl,rfl⟩;exact⟨rfl,bs++[_],by rw[ZN];rfl,by rw[ZL];rfl⟩
  ·rintro zs H' ⟨rfl,bs,rfl,hb⟩ k hk;refine⟨_,.inl ⟨.of AC,fun p hp=>?_⟩⟩;have s3:=(Yc.upd (o:=.lst (bs.map V.bl)) hk).trans (Yc.upd (o:=.tup (bs.map V.bl)) hp);refine⟨S1.trans s3,rs++[bs],by rw[ZL];rfl,?_,?_⟩
   ·intro r hr'
    rcases Zh.mp hr' with h | h
    ·exact hr1 r h
    ·rw[ZF.mp h];lia
   ·have e:Ae (rs++[bs])=Ae rs++[.tup (bs.map Dv.bl)]:=by unfold Ae;rw[ZN];rfl
    rw[e];exact Yd.append (Yd.same s3 _ _ R1) (AS (Am AC (Bp bs)) AU)
 ·rintro ys H1 ⟨S1,rs,hrl,hr1,R1⟩ k hk;have s2:Yc H1 (upd H1 k (.lst ys)):=Yc.upd hk;have g2:upd H1 k (.lst ys) k=some (.lst ys):=AC;generalize upd H1 k (.lst ys)=H2' at *;dsimp only[Af];refine⟨_,.inl ⟨.of (s2 _ _ (S1 _ _ gl4)),fun p hp=>?_⟩⟩;have s3:Yc H2' (upd H2' p (.tup (ls.map V.int))):=Yc.upd hp;have g3:upd H2' p (.tup (ls.map V.int)) p=some (.tup (ls.map V.int)):=AC;generalize upd H2' p (.tup (ls.map V.int))=H3' at *;refine⟨_,.inl ⟨.of (s3 _ _ g2),fun p4 hp4=>?_⟩⟩;refine⟨smq rfl,fun p5 hp5=>?_⟩;have s5:=(Yc.upd (o:=.tup ys) hp4).trans (Yc.upd (o:=.tup [.ref p,.ref p4]) hp5);have S5:=S1.trans (s2.trans (s3.trans s5));refine q ls rs _ _ ⟨by lia,by lia,by lia,by lia,fun r h=>by rw[hr1 r h];lia,fun x h=>Za (hs x h) (by decide)⟩ ?_ (F4.same S5) (f4.trans fun b o _ e=>S5 b o e);exact Am AC (AS (Am (s5 _ _ g3) (FC ls)) (AS (Am (Yc.upd hp5 _ _ AC) (Yd.same (s2.trans (s3.trans s5)) _ _ R1)) AU))
theorem Ke{ns:List Int}{i lo hi:Int}(h0:0<=i)(h1:i < ns.length)(h:∀x∈ns,lo<=x/\x<=hi):∃z,atI (ns.map V.int) i=some (.int z)/\lo<=z/\z<=hi:=by
 have hi':i.toNat < ns.length:=by lia
 exact⟨ns[i.toNat],Ai (n:=i.toNat) (by lia) (by rw[ZR,ZE hi'];rfl),h _ (Zl hi')⟩
theorem Nk{a b c:V}{i:Int}(h0:0<=i)(h1:i < 3):∃z,atI [a,b,c] i=some z/\(z=a\/z=b\/z=c):=by
 obtain⟨n,rfl⟩:∃n:Nat,i=n:=⟨i.toNat,by lia⟩
 match n,h1 with
 | 0,_=>exact⟨a,rfl,.inl rfl⟩
 | 1,_=>exact⟨b,rfl,.inr (.inl rfl)⟩
 | 2,_=>exact⟨c,rfl,.inr (.inr rfl)⟩
 | n+3,h=>lia
theorem Sf:Xa P w base T.z32 2 (Bz K 300 850000000):=by
 have G_z47:=@C9 P w K mg base T;refine T.z32.F.ok sc_z32 (fun vs H Q E h=>by unfold Bz at h;walk_at "e") ?_;walk_at "f";have hr_z47:=hr.mono (show 1<=_ by decide);unfold Bz at h;walk_at "g"
 rename_i t;obtain⟨N,F,hN,q⟩:=h;refine⟨_,(@AF _ _ _ _ _ (@AO _ _ 1 _ _ _ _ sc_z32.nd rfl (by right) (@A6 _ _ _ _ (AA (AQ (A8 (K:=K)) AD (AJ G_z47 hr_z47 rfl T.z47.m T.z47.F.kp T.z47.b .nil AG (AA (vv 0) (AA AD AB)))) (AA (AQ (A8 (K:=K)) AD (AJ G_z47 hr_z47 rfl T.z47.m T.z47.F.kp T.z47.b .nil AG (AA (vv 0) (AA AD AB)))) (AA (AQ (A8 (K:=K)) AD (AJ G_z47 hr_z47 rfl T.z47.m T.z47.F.kp T.z47.b .nil AG (AA (vv 0) (AA AD AB)))) (AA (AQ (A8 (K:=K)) AD (AJ G_z47 hr_z47 rfl T.z47.m T.z47.F.kp T.z47.b .nil AG (AA (vv 0) (AA AD AB)))) AB))))) (by rfl) (by symm)) (@AF _ _ _ _ _ (@AO _ _ 1 _ _ _ _ sc_z32.nd rfl (by right) (Yo (K:=K) (vv 1) (AJ G_z47 hr_z47 rfl T.z47.m T.z47.F.kp T.z47.b .nil AG (AA (vv 0) (AA AD AB)))) (by rfl) (by symm)) (@AF _ _ _ _ _ (@AO _ _ 2 _ _ _ _ sc_z32.nd rfl (by right) (Yo (K:=K) (@A6 _ _ _ _ (AA (AQ (A8 (K:=K)) AD (AJ G_z47 hr_z47 rfl T.z47.m T.z47.F.kp T.z47.b .nil AG (AA (vv 0) (AA AD AB)))) (AA (AQ (A8 (K:=K)) AD (AJ G_z47 hr_z47 rfl T.z47.m T.z47.F.kp T.z47.b .nil AG (AA (vv 0) (AA AD AB)))) (AA (AQ (A8 (K:=K)) AD (AJ G_z47 hr_z47 rfl T.z47.m T.z47.F.kp T.z47.b .nil AG (AA (vv 0) (AA AD AB)))) AB)))) (AJ G_z47 hr_z47 rfl T.z47.m T.z47.F.kp T.z47.b .nil AG (AA (vv 0) (AA AD AB)))) (by rfl) (by symm)) (@AF _ _ _ _ _ (@SU _ _ 3 _ _ _ _ sc_z32.nd rfl (by right) (@Yo _ K _ _ _ _ _ (@A6 _ _ _ _ (@AA _ _ _ _ _ (@A6 _ _ _ _ (@AA _ _ _ _ _ AD (@pa1 _ _ _ AD (by rfl)) (by rfl))) (@AA _ _ _ _ _ (@A6 _ _ _ _ (@AA _ _ _ _ _ (RD Oj AD) (@AA _ _ _ _ _ (AQ Ks AD AD) (@pa1 _ _ _ AD (by rfl)) (by rfl)) (by rfl))) (@AA _ _ _ _ _ (@A6 _ _ _ _ (@AA _ _ _ _ _ AD (@AA _ _ _ _ _ AD (@AA _ _ _ _ _ AD (@AA _ _ _ _ _ AD (@AA _ _ _ _ _ AD (@AA _ _ _ _ _ AD (@AA _ _ _ _ _ AD (@AA _ _ _ _ _ AD (@AA _ _ _ _ _ AD (@pa1 _ _ _ AD (by rfl)) (by rfl)) (by rfl)) (by rfl)) (by rfl)) (by rfl)) (by rfl)) (by rfl)) (by rfl)) (by rfl))) (@AB _) L2.star_lst) L2.star_lst) L2.star_lst)) (AJ G_z47 hr_z47 rfl T.z47.m T.z47.F.kp T.z47.b .nil AG (AA (vv 0) (AA AD AB))) (by intro _ _;rfl) (by rfl)) rfl (by first | exact .inl rfl | exact .inr rfl)) (@AF _ _ _ _ _ (@DA _ _ _ _ _ _ _ (["_law_k","_law_names","_law_feed_here"]) 1 ([3,0]) _ _ _ _ 4 _ _ _ rfl sc_z32.nd rfl rfl (A3 rfl T.z_range (AA (vv 1) AB)) (by kernel_rfl) rfl rfl (by kernel_rfl) (fun c=>AT (i:=0) (show(["_law_k","_law_names","_law_feed_here"]:List Str).Nodup by decide +kernel) rfl (by right)) (Ah (by decide)) (fun c=>Ap) (fun c=>(Yo (K:=K) (vv 1) (AJ G_z47 hr_z47 rfl T.z47.m T.z47.F.kp T.z47.b .nil AG (AA (vv 2) (AA (AX (BA (K:=K)) rfl T.z_len (by rfl) (AA (vv 1) AB)) AB))))) (by rfl) (by intro _;rfl)) (@AF _ _ _ _ _ (@AO _ _ 5 _ _ _ _ sc_z32.nd rfl (by right) (@A6 _ _ _ _ AB) (by rfl) (by symm)) (@AF _ _ _ _ _ (@Bq _ _ _ _ _ _ _ _ PassesOwn.never rfl (A3 rfl T.z_range (AA (vv 2) AB)) (AT (i:=6) sc_z32.nd rfl (by right)) (@AI _ _ _ (@DJ _ _ _ _ (Du (K:=K) (vv 5) (AA (Ar (A9 (K:=K)) rfl T.z_tuple (by rfl) (AA (Aq (N':=["_law_thing","_law_feed_here"]) (own:=1) (ix:=[0]) rfl (A3 rfl T.z_range (AA (vv 1) AB)) (by kernel_rfl) rfl rfl (by kernel_rfl) (fun c=>AT (i:=0) (show(["_law_thing","_law_feed_here"]:List Str).Nodup by decide +kernel) rfl (by right)) (Ah (by decide)) (fun c=>Ap) (fun c=>(Ba (kEq (K:=K) hu) (AJ G_z47 hr_z47 rfl T.z47.m T.z47.F.kp T.z47.b .nil AG (AA (vv 1) (AA AD AB))) AD))) AB)) AB)) (by rfl))) (by intro _;rfl)) (@AI _ _ _ (@AR _ _ _ _ (A2 (AA (Ar (A9 (K:=K)) rfl T.z_tuple (by rfl) (AA (vv 4) AB)) (AA (Ar (A9 (K:=K)) rfl T.z_tuple (by rfl) (AA (vv 5) AB)) AB)))))))))))),?_⟩;have d4:okDiv 4:=An (by decide) (by decide);have d5:okDiv 5:=An (by decide) (by decide);have d6:okDiv 6:=An (by decide) (by decide);have d3:okDiv 3:=An (by decide) (by decide);have d16:okDiv 16:=An (by decide) (by decide);refine Ag (fun σ H'=>∃(l:Addr) (a b c d:Int),σ=[some (.ref t),some (.ref l),none,none,none,none,none]/\H' l=some (.lst ([a,b,c,d].map V.int))/\l≠t/\(∀x∈[a,b,c,d],1<=x/\x<=10)/\GFeed H' t (N+4)/\Yk t H H') ?_ ?_ (by walk_at "sm")
 ·refine⟨_,F,by lia,d6,fun a H1 a0 a1 F1 f1=>?_⟩;refine⟨_,F1,by lia,d6,fun b H2 b0 b1 F2 f2=>?_⟩;refine⟨_,F2,by lia,d6,fun c H3 c0 c1 F3 f3=>?_⟩;refine⟨_,F3,by lia,d4,fun d H4 d0 d1 F4 f4=>?_⟩;refine⟨smq rfl,fun l hl=>?_⟩;refine⟨l,1+a,2+b,2+c,7+d,rfl,AC,F4.neT hl,?_,F4.upd hl,(((Ab f1).trans (Ab f2)).trans ((Ab f3).trans (Ab f4))).trans (Yk.upd hl)⟩;simp only[ZI,Z7,or_false];lia
 rintro σ H1 ⟨l,a,b,c,d,rfl,gl,lt,hb,F1,f1⟩;refine Ag (fun σ H'=>∃M:Nat,σ=[some (.ref t),some (.int M),none,none,none,none,none]/\1<=M/\M<=10/\GFeed H' t (N+5)/\Yk t H H') ?_ ?_ (by walk_at "sm")
 ·refine⟨_,F1,by lia,d4,fun i H2 i0 i1 F2 f2=>?_⟩;obtain⟨z,hz,z1,z2⟩:=Ke (ns:=[a,b,c,d]) i0 i1 hb;refine⟨_,_,.inl (.of (by rw[f2 l lt];exact gl)),hz,z.toNat,?_,by lia,by lia,F2,f1.trans (Ab f2)⟩;rw[Int.toNat_of_nonneg (by lia)];rfl
 clear gl lt hb F1 f1;rintro σ H1 ⟨M,rfl,M1,M10,F1,f1⟩;refine Ag (fun σ H'=>∃W:Nat,σ=[some (.ref t),some (.int M),some (.int W),none,none,none,none]/\1<=W/\W<=16/\GFeed H' t (N+9)/\Yk t H H') ?_ ?_ (by walk_at "sm")
 ·refine⟨_,F1,by lia,d5,fun a H2 a0 a1 F2 f2=>?_⟩;refine⟨_,F2,by lia,d4,fun b H3 b0 b1 F3 f3=>?_⟩;refine⟨_,F3,by lia,d16,fun c H4 c0 c1 F4 f4=>?_⟩;refine⟨smq rfl,fun l hl=>?_⟩;have F5:=F4.upd (o:=.lst [.int (1+a),.int (2+b),.int (1+c)]) hl;refine⟨_,F5,by lia,d3,fun i H6 i0 i1 F6 f6=>?_⟩
  obtain⟨z,hz,z1,z2⟩:=Ke (ns:=[1+a,2+b,1+c]) (lo:=1) (hi:=16) i0 i1 (by
   simp only[ZI,Z7,or_false];lia)
  refine⟨_,_,.inl (.of (by rw[f6 l (F4.neT hl)];exact AC)),hz,z.toNat,?_,by lia,by lia,F6.mono (by lia),f1.trans (((Ab f2).trans ((Ab f3).trans (Ab f4))).trans ((Yk.upd hl).trans (Ab f6)))⟩;rw[Int.toNat_of_nonneg (by lia)];rfl
 clear F1 f1;rintro σ H1 ⟨W,rfl,W1,W16,F1,f1⟩;refine Ag (fun σ H'=>∃(l:Addr) (ns:List Int),σ=[some (.ref t),some (.int M),some (.int W),some (.ref l),none,none,none]/\H' l=some (.lst (ns.map V.int))/\l≠t/\1<=ns.length/\ns.length<=10/\(∀x∈ns,x.natAbs<=100000000000000000000)/\GFeed H' t (N+10)/\Yk t H H') ?_ ?_ (by walk_at "sm")
 ·have bound:∀(x:V) (l:Addr) (ns:List Int) (H':Hp),x=.ref l->H' l=some (.lst (ns.map V.int))->l≠t->1<=ns.length->ns.length<=10->(∀x∈ns,x.natAbs<=100000000000000000000)->GFeed H' t (N+10)->Yk t H H'->∃(l:Addr) (ns:List Int),[some (V.ref t),some (.int M),some (.int W),some x,none,none,none]=[some (.ref t),some (.int M),some (.int W),some (.ref l),none,none,none]/\H' l=some (.lst (ns.map V.int))/\l≠t/\1<=ns.length/\ns.length<=10/\(∀x∈ns,x.natAbs<=100000000000000000000)/\GFeed H' t (N+10)/\Yk t H H' :=
   fun x l ns H' e h1 h2 h3 h4 h5 h6 h7=>⟨l,ns,by rw[e],h1,h2,h3,h4,h5,h6,h7⟩
  refine⟨smq rfl,fun p hp=>?_⟩;have sa:Yc H1 (upd H1 p (.lst [.int 0,.int 1])):=Yc.upd hp;have ga:upd H1 p (.lst [.int 0,.int 1]) p=some (.lst [.int 0,.int 1]):=AC;generalize upd H1 p (.lst [.int 0,.int 1])=Ha at *;refine⟨⟨by decide,by decide,by decide⟩,?_⟩;refine⟨smq rfl,fun p2 hp2=>?_⟩;generalize hten:(10:Int) ^ Int.toNat 20=ten;have sb:Yc Ha (upd Ha p2 (.lst [.int (-7),.int ten,.int 3])):=Yc.upd hp2;have gb:upd Ha p2 (.lst [.int (-7),.int ten,.int 3]) p2=some (.lst [.int (-7),.int ten,.int 3]):=AC;generalize upd Ha p2 (.lst [.int (-7),.int ten,.int 3])=Hb at *;refine⟨smq rfl,fun p3 hp3=>?_⟩;have sc:Yc Hb (upd Hb p3 (.lst ([5,1,4,2,3,0,7,6,8,9].map V.int))):=Yc.upd hp3;have gc:upd Hb p3 (.lst ([5,1,4,2,3,0,7,6,8,9].map V.int)) p3=some (.lst ([5,1,4,2,3,0,7,6,8,9].map V.int)):=AC;refine(show ∀Hc,Yc Hb Hc->Hc p3=some (.lst ([5,1,4,2,3,0,7,6,8,9].map V.int))->_ from ?_) (upd Hb p3 (.lst ([5,1,4,2,3,0,7,6,8,9].map V.int))) sc gc;clear sc gc;intro Hc sc gc;refine⟨smq rfl,fun p4 hp4=>?_⟩;have sd:Yc Hc (upd Hc p4 (.lst [.ref p,.ref p2,.ref p3])):=Yc.upd hp4;have gd:upd Hc p4 (.lst [.ref p,.ref p2,.ref p3]) p4=some (.lst [.ref p,.ref p2,.ref p3]):=AC;have Fc:=F1.same (sa.trans (sb.trans sc));have pt:p≠t:=F1.neT hp;have pt2:p2≠t:=(F1.same sa).neT hp2;have pt3:p3≠t:=(F1.same (sa.trans sb)).neT hp3;have pt4:p4≠t:=Fc.neT hp4;generalize upd Hc p4 (.lst [.ref p,.ref p2,.ref p3])=Hd at *;have S:=sa.trans (sb.trans (sc.trans sd));refine⟨_,F1.same S,by lia,d3,fun i H5 i0 i1 F5 f5=>?_⟩;obtain⟨z,hz,hz3⟩:=Nk (a:=V.ref p) (b:=V.ref p2) (c:=V.ref p3) i0 i1;refine⟨_,_,.inl (.of (by rw[f5 p4 pt4];exact gd)),hz,?_⟩;have f:Yk t H H5:=f1.trans (Yk.trans (fun b o _ e=>S b o e) (Ab f5))
  rcases hz3 with e | e | e
  ·exact bound z p [0,1] H5 e (by rw[f5 p pt];exact(sb.trans (sc.trans sd)) _ _ ga) pt (by decide) (by decide) (by decide) F5 f
  ·refine bound z p2 [-7,ten,3] H5 e (by rw[f5 p2 pt2];exact(sc.trans sd) _ _ gb) pt2 (show 1<=3 by decide) (show 3<=10 by decide) ?_ F5 f;rw[<- hten];decide
  ·exact bound z p3 [5,1,4,2,3,0,7,6,8,9] H5 e (by rw[f5 p3 pt3];exact sd _ _ gc) pt3 (by decide) (by decide) (by decide) F5 f
 rintro σ H2 ⟨l,ns,rfl,gl,lt,n1,n10,hn,F2,f2⟩;refine Ag (fun σ H'=>∃(z:V) (k:Addr) (ls:List Int),σ=[some (.ref t),some (.int M),some (.int W),z,some (.ref k),none,none]/\H' k=some (.lst (ls.map V.int))/\k≠t/\ls.length=M/\(∀x∈ls,x.natAbs<=100000000000000000000)/\GFeed H' t (N+10+M)/\Yk t H H') ?_ ?_ (by walk_at "sm")
 ·refine⟨(M:Int),rfl,by lia,by lia,?_⟩
  refine BU (fun i ys H'=>GFeed H' t (N+10+i)/\Yk t H H'/\H' l=some (.lst (ns.map V.int))/\∃ls:List Int,ys=ls.map V.int/\ls.length=i/\∀x∈ls,x.natAbs<=100000000000000000000) ⟨F2,f2,gl,[],rfl,rfl,nofun⟩ (fun i ys H' hi ⟨_,_,_,ls,e,el,_⟩=>by
   rw[e,ZC,el];exact Ad (by lia)) ?_ ?_
  ·rintro i ys H3 hi ⟨F3,f3,gl3,ls,rfl,el,hs⟩;refine⟨_,.inl ⟨_,.of gl3,rfl⟩,?_⟩;refine⟨_,F3,by lia,An (by rw[ZC];lia) (by rw[ZC];lia),fun d H4 x0 x1 F4 f4=>?_⟩;rw[ZC]at x1;have hd:d.toNat < ns.length:=by lia
   refine⟨_,_,.inl (.of (by rw[f4 l lt];exact gl3)),Ai (n:=d.toNat) (by lia) (by rw[ZR,ZE hd];rfl),F4.mono (by lia),f3.trans (Ab f4),by rw[f4 l lt];exact gl3,ls++[ns[d.toNat]],by rw[ZN];rfl,by rw[ZL,el];rfl,?_⟩;intro x hx
   rcases Zh.mp hx with h | h
   ·exact hs x h
   ·rw[ZF.mp h];exact hn _ (Zl hd)
  ·rintro ys H3 ⟨F3,f3,gl3,ls,rfl,el,hs⟩ k hk;rw[Zb]at el F3;exact⟨_,k,ls,rfl,AC,F3.neT hk,el,hs,F3.upd hk,f3.trans (Yk.upd hk)⟩
 clear F2 f2 gl;rintro σ H2 ⟨z,k,ls,rfl,gk,kt,ll,hs,F2,f2⟩;refine⟨smq rfl,fun r hr'=>?_⟩;have hrH:H r=none:=F2.free f2 hr';have rt:r≠t:=F2.neT hr';have rk:k≠r:=fun e=>by rw[e,hr']at gk;cases gk
 dsimp only[Af];refine Ag (fun σ H'=>∃(z6:Option V) (rs:List (List Bool)) (ys:List V),σ=[some (.ref t),some (.int M),some (.int W),z,some (.ref k),some (.ref r),z6]/\H' k=some (.lst (ls.map V.int))/\H' r=some (.lst ys)/\rs.length=W/\(∀b∈rs,b.length=M)/\Yd K H' (Ae rs) ys/\GFeed H' t (N+300)/\Yk t H H') ?_ ?_ (by walk_at "sm")
 ·refine⟨(W:Int),rfl,by lia,by lia,?_⟩;refine CK (fun i σ H'=>∃(z6:Option V) (rs:List (List Bool)) (ys:List V),σ=[some (.ref t),some (.int M),some (.int W),z,some (.ref k),some (.ref r),z6]/\H' k=some (.lst (ls.map V.int))/\H' r=some (.lst ys)/\rs.length=i/\(∀b∈rs,b.length=M)/\Yd K H' (Ae rs) ys/\GFeed H' t (N+10+M+M * i)/\Yk t H H') ⟨none,[],[],rfl,by rw[AH rk];exact gk,AC,rfl,nofun,AU,F2.upd hr',f2.trans (Yk.upd hr')⟩ ?_ ?_
  ·rintro i σ H3 hi ⟨z6,rs,ys,rfl,gk3,gr3,rl,hb,R3,F3,f3⟩;have hMi:M * i<=160:=Za (Nat.mul_le_mul M10 (show i<=16 by lia)) (by decide);have hyl:ys.length=i:=by rw[<- R3.length,D9,rl]
   refine⟨.inl ⟨rfl,_,.of gr3⟩,?_⟩;refine⟨(M:Int),rfl,by lia,by lia,?_⟩
   refine BU (fun j zs H'=>GFeed H' t (N+10+M+M * i+j)/\Yk t H3 H'/\∃bs:List Bool,zs=bs.map V.bl/\bs.length=j) ⟨F3,Yk.refl,[],rfl,rfl⟩ (fun j zs H' hj ⟨_,_,bs,e,el⟩=>by
    rw[e,ZC,el];exact Ad (by lia)) ?_ ?_
   ·rintro j zs H4 hj ⟨F4,f4,bs,rfl,rfl⟩;refine⟨_,F4,by lia,An (by decide) (by decide),fun d H5 _ _ F5 f5=>?_⟩;exact⟨F5.mono (by lia),f4.trans (Ab f5),bs++[_],by rw[ZN];rfl,by rw[ZL];rfl⟩
   ·rintro zs H4 ⟨F4,f4,bs,rfl,el⟩ k4 hk4;rw[Zb]at el F4;refine⟨_,.inl ⟨.of AC,fun p hp=>?_⟩⟩;have s5:=(Yc.upd (o:=.lst (bs.map V.bl)) hk4).trans (Yc.upd (o:=.tup (bs.map V.bl)) hp);have g5:=AC (H:=upd H4 k4 (.lst (bs.map V.bl))) (a:=p) (o:=.tup (bs.map V.bl));generalize upd (upd H4 k4 (.lst (bs.map V.bl))) p (.tup (bs.map V.bl))=H5 at *;have f35:Yk t H3 H5:=f4.trans fun b o _ e=>s5 b o e
    have gr5:H5 r=some (.lst ys):=f35 _ _ rt gr3
    have R5:Yd K H5 (Ae (rs++[bs])) (ys++[.ref p]):=by
     have e:Ae (rs++[bs])=Ae rs++[.tup (bs.map Dv.bl)]:=by unfold Ae;rw[ZN];rfl
     rw[e];exact Yd.append (Yd.frm f35 F3.lst _ _ (Ce _) R3) (AS (Am g5 (Bp bs)) AU)
    refine⟨_,gr5,Ad (by lia),?_⟩;refine⟨_,rs++[bs],_,rfl,by rw[AH rk];exact f35 _ _ kt gk3,AC,by rw[ZL,rl];rfl,?_,Yd.frm Yk.updT ⟨_,gr5⟩ _ _ (Ce _) R5,((F4.same s5).put rt gr5 (Ll (Yd.frm f35 F3.lst _ _ (Ce _) R3))).mono (by rw[Nat.mul_succ];lia),E3 (f3.trans f35) hrH⟩;intro b hb'
    rcases Zh.mp hb' with h | h
    ·exact hb b h
    ·rw[ZF.mp h];exact el
  ·rintro σ H3 ⟨z6,rs,ys,rfl,gk3,gr3,rl,hb,R3,F3,f3⟩;rw[Zb]at rl F3;have hMi:M * W<=160:=Za (Nat.mul_le_mul M10 W16) (by decide);exact⟨z6,rs,ys,rfl,gk3,gr3,rl,hb,R3,F3.mono (by lia),f3⟩
 rintro σ H3 ⟨z6,rs,ys,rfl,gk3,gr3,rl,hb,R3,F3,f3⟩;refine⟨_,.inl ⟨.of gk3,fun p hp=>?_⟩⟩;have s4:Yc H3 (upd H3 p (.tup (ls.map V.int))):=Yc.upd hp;have g4:upd H3 p (.tup (ls.map V.int)) p=some (.tup (ls.map V.int)):=AC;generalize upd H3 p (.tup (ls.map V.int))=H4 at *;refine⟨_,.inl ⟨.of (s4 _ _ gr3),fun p4 hp4=>?_⟩⟩;refine⟨smq rfl,fun p5 hp5=>?_⟩;have s5:=(Yc.upd (o:=.tup ys) hp4).trans (Yc.upd (o:=.tup [.ref p,.ref p4]) hp5);have S5:=s4.trans s5;refine q ls rs _ _ ⟨by lia,by lia,by lia,by lia,fun r h=>by rw[hb r h];lia,hs⟩ ?_ (F3.same S5) (f3.trans fun b o _ e=>S5 b o e);exact Am AC (AS (Am (s5 _ _ g4) (FC ls)) (AS (Am (Yc.upd hp5 _ _ AC) (Yd.same S5 _ _ R3)) AU))
theorem Nx(bs:List Bool)(m:Nat)(h:bs.length=2 ^ m)(m1:1<=m)(m4:m<=4):∃ls rs,Io bs m=gmD ls rs/\Gm ls rs:=by
 have h16:2 ^ m<=16:=Zj (n:=2) (j:=4) (by decide) m4;have h2:2<=2 ^ m:=Zj (n:=2) (i:=1) (by decide) m1;refine⟨bs.map fun b=>if b then 1 else 0,(List.range m).map (Bl m),?_,?_⟩
 ·unfold Io gmD GM Bu Ae;rw[Z3,Z3];rfl
 ·refine⟨by rw[ZC];lia,by rw[ZC];lia,by rw[ZC,Z8];lia,by rw[ZC,Z8];lia,?_,?_⟩
  ·intro r hr;obtain⟨i,_,rfl⟩:=ZU.mp hr;rw[RK,ZC,h]
  ·intro x hx;obtain⟨b,_,rfl⟩:=ZU.mp hx;cases b <;> decide
theorem SI:Xa P w base T.z45 4 (Bz K 500 800000000):=by
 have G_z47:=@C9 P w K mg base T;refine T.z45.F.ok sc_z45 (fun vs H Q E h=>by unfold Bz at h;walk_at "e") ?_;walk_at "f";have hr_z47:=hr.mono (show 1<=_ by decide);unfold Bz at h;walk_at "g"
 rename_i t;obtain⟨N,F,hN,q⟩:=h;refine⟨_,(@AF _ _ _ _ _ (@AO _ _ 1 _ _ _ _ sc_z45.nd rfl (by right) (AJ G_z47 hr_z47 rfl T.z47.m T.z47.F.kp T.z47.b .nil AG (AA (vv 0) (AA AD AB))) (by rfl) (by symm)) (@AF _ _ _ _ _ (@Aw _ _ _ _ _ _ _ _ (Ak (kEq (K:=K) hu) (vv 1) AD) (@AI _ _ _ (@AR _ _ _ _ (AJ (@Vp P w K mg base T) (hr.mono (show 1<=_ by decide)) rfl T.z22.m T.z22.F.kp T.z22.b .nil AG (AA (AJ (@MW P w K mg base T) (hr.mono (show 2<=_ by decide)) rfl T.z43.m T.z43.F.kp T.z43.b .nil AG (AA (vv 0) (AA (AQ (A8 (K:=K)) AD (AJ G_z47 hr_z47 rfl T.z47.m T.z47.F.kp T.z47.b .nil AG (AA (vv 0) (AA AD AB)))) AB))) AB)))) Av) (@AF _ _ _ _ _ (@Aw _ _ _ _ _ _ _ _ (Ak (kEq (K:=K) hu) (vv 1) AD) (@AI _ _ _ (@AR _ _ _ _ (AJ (@PP P w K mg base T) (hr.mono (show 1<=_ by decide)) rfl T.z21.m T.z21.F.kp T.z21.b .nil AG (AA (AJ (@UP P w K mg base T) (hr.mono (show 3<=_ by decide)) rfl T.z39.m T.z39.F.kp T.z39.b .nil AG (AA (vv 0) (AA (AQ (A8 (K:=K)) AD (AJ G_z47 hr_z47 rfl T.z47.m T.z47.F.kp T.z47.b .nil AG (AA (vv 0) (AA AD AB)))) (AA (AQ (A8 (K:=K)) AD (AJ G_z47 hr_z47 rfl T.z47.m T.z47.F.kp T.z47.b .nil AG (AA (vv 0) (AA AD AB)))) AB)))) AB)))) Av) (@AI _ _ _ (@AR _ _ _ _ (DQ (Ak (kEq (K:=K) hu) (vv 1) AD) (AJ (@OM P w K mg base T) (hr.mono (show 2<=_ by decide)) rfl T.z38.m T.z38.F.kp T.z38.b .nil AG (AA (vv 0) AB)) (AJ (@Sf P w K mg base T) (hr.mono (show 2<=_ by decide)) rfl T.z32.m T.z32.F.kp T.z32.b .nil AG (AA (vv 0) AB)))))))),?_⟩;have d4:okDiv 4:=An (by decide) (by decide);have d5:okDiv 5:=An (by decide) (by decide);have d6:okDiv 6:=An (by decide) (by decide);have d3:okDiv 3:=An (by decide) (by decide);refine⟨_,F,by lia,d6,fun way H1 w0 w1 F1 f1=>?_⟩;dsimp only[Af];refine Ao (fun e=>?_) (fun e=>?_)
 ·refine⟨_,F1,by lia,d4,fun a H2 a0 a1 F2 f2=>?_⟩;obtain⟨m,hm⟩:∃m:Nat,1+a=m:=⟨(1+a).toNat,by lia⟩;rw[show DO K (V.int 1) (V.int a) H2=fun Q=>Q (.int (1+a)) H2 from rfl];rw[hm];refine⟨m,_,F2,by lia,rfl,by lia,by lia,fun bs p H3 hb hp g3 F3 f3=>?_⟩;refine⟨bs,m,.of g3,hb,by lia,by lia,fun u H4 s4 r4=>?_⟩;obtain⟨ls,rs,e,g⟩:=Nx bs m hb (by lia) (by lia);rw[e]at r4;exact q ls rs u H4 g r4 ((F3.same s4).mono (by lia)) ((Ab f1).trans ((Ab f2).trans (f3.trans fun b o _ e=>s4 b o e)))
 dsimp only[CJ];refine Ao (fun e=>?_) (fun e=>?_)
 ·refine⟨_,F1,by lia,d3,fun a H2 a0 a1 F2 f2=>?_⟩;refine⟨_,F2,by lia,d5,fun b H3 b0 b1 F3 f3=>?_⟩;obtain⟨m,hm⟩:∃m:Nat,1+a=m:=⟨(1+a).toNat,by lia⟩;obtain⟨M,hM⟩:∃M:Nat,2+b=M:=⟨(2+b).toNat,by lia⟩;refine⟨m,M,_,F3,by lia,hm,by lia,by lia,hM,by lia,by lia,fun ts xs p H4 t2 tM tb hp g4 R4 F4 f4=>?_⟩;have h8:2 ^ m<=8:=Zj (n:=2) (j:=3) (by decide) (by lia);refine⟨ts,xs,2 ^ m,g4,R4,t2,by lia,tb,ZBd m,h8,fun ls rs u H5 g s5 r5=>?_⟩;exact q ls rs u H5 g r5 ((F4.same s5).mono (by lia)) ((Ab f1).trans ((Ab f2).trans ((Ab f3).trans (f4.trans fun b o _ e=>s5 b o e))))
 dsimp only[CJ];refine Ao (fun e=>?_) (fun e=>?_)
 ·exact⟨_,F1,by lia,fun ls rs u H2 g r2 F2 f2=>q ls rs u H2 g r2 (F2.mono (by lia)) ((Ab f1).trans f2)⟩
 ·exact⟨_,F1,by lia,fun ls rs u H2 g r2 F2 f2=>q ls rs u H2 g r2 (F2.mono (by lia)) ((Ab f1).trans f2)⟩
noncomputable def AM(rb:List Bool)(ans:Bool)(ts:List Nat):List Nat:=ts.filter fun k=>gB rb k == ans
theorem RJ{rb:List Bool}{ans:Bool}(h:ts[i]? = some k):AM rb ans (ts.take (i+1))=AM rb ans (ts.take i)++(if (gB rb k == ans)=true then [k] else []):=by
 unfold AM;rw[ZBC,h,ZBp]
 congr 1
 simp only[Option.toList_some,List.filter_cons,List.filter_nil]
theorem UY(rb:List Bool)(ans:Bool)(ts:List Nat):(AM rb ans ts).length<=ts.length:=ZBq _ _
theorem Mh{d1 d2:Dv}(h:Yh K H (.tup [d1,d2]) v):∃a x1 x2,v=.ref a/\Yq K H a [x1,x2]/\Yh K H d1 x1/\Yh K H d2 x2:=by
 obtain⟨a,xs,rfl,hs,hx⟩:=D4 h;obtain⟨x1,r1,rfl,hx1,hx'⟩:=(show ∃x r,xs=x::r/\Yh K H d1 x/\Yd K H [d2] r by unfold Yd at hx;exact hx);obtain⟨x2,r2,rfl,hx2,hx''⟩:=(show ∃x r,r1=x::r/\Yh K H d2 x/\Yd K H [] r by unfold Yd at hx';exact hx');obtain rfl:r2=[]:=by unfold Yd at hx'';exact hx''
 exact⟨a,x1,x2,rfl,hs,hx1,hx2⟩
theorem Kv:∀{bs:List Bool} {xs:List V},Yd K H (bs.map Dv.bl) xs->xs=bs.map V.bl
 | [],xs,h=>by unfold Yd at h;exact h
 | b::bs,xs,h=>by
  rw[Zi]at h;unfold Yd at h;obtain⟨x,r,rfl,h1,h2⟩:=h;unfold Yh at h1;rw[h1,Kv h2];rfl
theorem Ia:∀{bs:List Int} {xs:List V},Yd K H (bs.map Dv.int) xs->xs=bs.map V.int
 | [],xs,h=>by unfold Yd at h;exact h
 | b::bs,xs,h=>by
  rw[Zi]at h;unfold Yd at h;obtain⟨x,r,rfl,h1,h2⟩:=h;unfold Yh at h1;rw[h1,Ia h2];rfl
structure GmAt(K:W.Frag)(H:Hp)(ls:List Int)(rs:List (List Bool))(a tl rl:Addr)(ps:List Addr):Prop where
 two:Yq K H a [.ref tl,.ref rl]
 lab:Yq K H tl (ls.map V.int)
 rows:Yq K H rl (ps.map V.ref)
 len:ps.length=rs.length
 row:∀(i:Nat) (q:Addr) (r:List Bool),ps[i]? = some q->rs[i]? = some r->Yq K H q (r.map V.bl)
theorem LP:∀{rs:List (List Bool)} {xs:List V},Yd K H (Ae rs) xs->∃ps:List Addr,xs=ps.map V.ref/\ps.length=rs.length/\∀(i:Nat) (q:Addr) (r:List Bool),ps[i]? = some q->rs[i]? = some r->Yq K H q (r.map V.bl)
 | [],xs,h=>by
  have:xs=[]:=by simpa [Ae,Yd] using h
  exact⟨[],this,rfl,fun i q r z=>by simp at z⟩
 | r::rs,xs,h=>by
  have h':Yd K H (Dv.tup (r.map Dv.bl)::Ae rs) xs:=h;unfold Yd at h';obtain⟨x,ys,rfl,h1,h2⟩:=h';obtain⟨a,zs,rfl,hs,hz⟩:=D4 h1;obtain rfl:=Kv hz;obtain⟨ps,rfl,hl,hr⟩:=LP h2;refine⟨a::ps,rfl,by rw[Zk,Zk,hl],fun i q r' hi hr'=>?_⟩;cases i with
  | zero=>cases hi;cases hr';exact hs
  | succ i=>exact hr i q r' hi hr'
theorem CI(h:Yh K H (gmD ls rs) v):∃a tl rl ps,v=.ref a/\GmAt K H ls rs a tl rl ps:=by
 obtain⟨a,x1,x2,rfl,hs,h1,h2⟩:=Mh h;obtain⟨tl,zs,rfl,hl,hz⟩:=D4 h1;obtain rfl:=Ia hz;obtain⟨rl,ws,rfl,hr,hw⟩:=D4 h2;obtain⟨ps,rfl,e,hp⟩:=LP hw;exact⟨a,tl,rl,ps,rfl,hs,hl,hr,e,hp⟩
theorem GmAt.same{rl:Addr}(g:GmAt K H ls rs a tl rl ps)(s:Yc H H'):GmAt K H' ls rs a tl rl ps :=
 ⟨s.sqT g.two,s.sqT g.lab,s.sqT g.rows,g.len,fun i q r x y=>s.sqT (g.row i q r x y)⟩
theorem GmAt.frm{rl:Addr}(g:GmAt K H ls rs a tl rl ps)(f:Yk t H H')(ht:H t=some o)(no:Be o):GmAt K H' ls rs a tl rl ps :=
 ⟨DB f ht no g.two,DB f ht no g.lab,DB f ht no g.rows,g.len,fun i q r x y=>DB f ht no (g.row i q r x y)⟩
noncomputable def AV(r:List Bool):Nat:=msk (whr (r.map (· == true)) r.length)
noncomputable def Cm(ls:List Int)(z:Int):Nat:=msk (whr (ls.map (· == z)) ls.length)
theorem mskR_bit(r:List Bool)(k:Nat):(AV r).testBit k=gB r k:=by
 unfold AV;rw[(Bo (J4 _ _) (fun t ht=>E1 ht)).2 k,ZBB,decide_eq_true_eq,KH]
 by_cases h:k < r.length
 ·have e:gB (r.map (· == true)) k=gB r k:=by
   rw[Ew (x:=r[k]) (ZE h)];unfold gB;rw[ZV,ZE h];simp
  rw[e];simp[h]
 ·have e:gB r k=false:=by unfold gB;rw[ZV,ZBZ (by lia)];rfl
  rw[e];simp[h]
theorem NH(ls:List Int)(z:Int)(k:Nat):(Cm ls z).testBit k=(decide (k < ls.length) && decide (AE ls k=z)):=by
 unfold Cm;rw[(Bo (J4 _ _) (fun t ht=>E1 ht)).2 k,ZBB,decide_eq_true_eq,KH]
 by_cases h:k < ls.length
 ·have e:gB (ls.map (· == z)) k=decide (AE ls k=z):=by
   rw[Ew (x:=ls[k]) (ZE h)];unfold AE;rw[ZV,ZE h];rfl
  rw[e];simp[h]
 ·simp[h]
theorem J3(rs:List (List Bool)):Al (rs.map AV)=rs.map gB:=by
 unfold Al;rw[Z3];apply ZB3;intro r _
 funext k
 exact mskR_bit r k
theorem sub_bits:S &&& m=S ↔ ∀k,S.testBit k=true->m.testBit k=true:=by
 constructor
 ·intro e k hk
  have:(S &&& m).testBit k=true:=by rw[e];exact hk
  rw[ZBP,hk]at this;simpa using this
 ·intro h;apply ZB4;intro k;rw[ZBP];cases e:S.testBit k with
  | false=>rfl
  | true=>rw[h k e];rfl
theorem NX{ms:List Int}(h1:1<=ls.length)(hm:∀z,z∈ms ↔ z∈ls):LI ls (ms.map (Cm ls)):=by
 intro S hS;rw[List.any_map,ZBm];constructor
 ·rintro⟨z,hz,h⟩ i j hi hj;have h:=sub_bits.mp (ZZ h);have a:=h i hi;have b:=h j hj;rw[NH,ZY,decide_eq_true_eq,decide_eq_true_eq]at a b;rw[a.2,b.2]
 ·intro o
  by_cases e:∃k,S.testBit k=true
  ·obtain⟨k,hk⟩:=e;have hkl:=EJ hS hk;refine⟨AE ls k,(hm _).mpr ?_,ZT (sub_bits.mpr fun i hi=>?_)⟩
   ·unfold AE;rw[ZV,ZE hkl];exact Zl hkl
   ·rw[NH,ZT (EJ hS hi),ZT (o i k hi hk)];rfl
  ·cases ls with
   | nil=>simp at h1
   | cons x r=>exact⟨x,(hm _).mpr (by simp),ZT (sub_bits.mpr fun i hi=>absurd ⟨i,hi⟩ e)⟩
noncomputable def Is(K:W.Frag)(C:Addr):Sp:=fun vs H Q _=>match vs with
 | [.ref p,v]=>∃ls rs dx,H p=some (.ins C dx [])/\Yh K H (gmD ls rs) v/\Gm ls rs/\∀d H',H d=none->RkAt K C ls (rs.map AV) H' p d->Yk p H H'->Q .non H'
 | _=>False
theorem JT{α:Type}[DecidableEq α]:∀{ds ls:List α},ds.Nodup->(∀z∈ds,z∈ls)->ds.length<=ls.length
 | [],ls,_,_=>ZP _
 | z::ds,ls,nd,h=>by
  obtain⟨h1,h2⟩:=ZBf.mp nd;have hz:z∈ls:=h z (by simp)
  have:=JT (ds:=ds) (ls:=ls.erase z) h2 (fun x hx=>(List.mem_erase_of_ne (fun e:x=z=>h1 (e ▸ hx))).mpr (h x (ZW _ hx)))
  have e:=List.length_erase_of_mem hz
  have:0 < ls.length:=List.length_pos_of_mem hz
  rw[Zk];lia
theorem E4(h1:ts.Pairwise (· < ·))(h2:∀t∈ts,t < n):ts.length<=n:=Ex n ts (h1.imp fun h=>ZK h) h2
theorem RL:Xb P w mg base T.z23 4 (Is K T.C_Reckoner):=by
 have G_z37:=@Ug P w K mg base T;have G_z30:=@UA P w K mg base T;refine T.z23.F.ok UV (fun vs H Q E h=>by unfold Is at h;walk_at "e") ?_;walk_at "f";have hr_z37:=hr.mono (show 3<=_ by decide);have hr_z30:=hr.mono (show 1<=_ by decide);unfold Is at h;walk_at "g"
 rename_i p v;obtain⟨ls,rs,dx,hp,hv,G,q⟩:=h;obtain⟨a,tl,rl,ps,rfl,g⟩:=CI hv;have l1:=G.l1;have l16:=G.l16;have r16:=G.r16;have hpl:=g.len;refine⟨_,(@AF _ _ _ _ _ (C7 T.cl_Reckoner T.na_Reckoner_labels (vv 0) (Ar (A9 (K:=K)) rfl T.z_tuple (by rfl) (AA (Yo (K:=K) (vv 1) AD) AB))) (@AF _ _ _ _ _ (C7 T.cl_Reckoner T.na_Reckoner_yeses (vv 0) (@Aq _ _ _ _ _ _ _ ["row"] 1 [] _ _ _ _ rfl (BB (K:=K) (Yo (K:=K) (vv 1) AD)) (by kernel_rfl) rfl rfl (by kernel_rfl) (fun c=>AT (i:=0) (show(["row"]:List Str).Nodup by decide +kernel) rfl (by right)) (Ah (by decide)) (fun c=>Ap) (fun c=>(AJ G_z37 hr_z37 rfl T.z37.m T.z37.F.kp T.z37.b .nil AG (AA (AJ G_z30 hr_z30 rfl T.z30.m T.z30.F.kp T.z30.b .nil AG (AA Bs (AA (vv 0) AB))) AB))) (by intro _;rfl))) (@AF _ _ _ _ _ (C7 T.cl_Reckoner T.na_Reckoner_alike (vv 0) (Aq (N':=["label","self"]) (own:=1) (ix:=[0]) rfl (BB (K:=K) (AX (Rj (P:=P) (w:=w) rfl) rfl T.z_sorted (by rfl) (AA (Ar (VO (K:=K) (P:=P) (w:=w) rfl) rfl T.z_set (by rfl) (AA (Ay T.cl_Reckoner T.na_Reckoner_labels (vv 0)) AB)) AB))) (by kernel_rfl) rfl rfl (by kernel_rfl) (fun c=>AT (i:=0) (show(["label","self"]:List Str).Nodup by decide +kernel) rfl (by right)) (Ah (by decide)) (fun c=>Ap) (fun c=>(AJ G_z37 hr_z37 rfl T.z37.m T.z37.F.kp T.z37.b .nil AG (AA (AJ G_z30 hr_z30 rfl T.z30.m T.z30.F.kp T.z30.b .nil AG (AA (vv 0) (AA (Ay T.cl_Reckoner T.na_Reckoner_labels (vv 1)) AB))) AB))))) (@AI _ _ _ (C7 T.cl_Reckoner T.na_Reckoner_known (vv 0) Qc))))),?_⟩;refine⟨_,.ref tl,.inr g.two,rfl,_,.inr ⟨g.lab,dx,_,hp,(show 0 < 1000 by decide),?_⟩⟩;have f1:Yk p H (upd H p (.ins T.C_Reckoner dx (Ac "labels" (.ref tl) []))):=Yk.updT;have hp1:upd H p (.ins T.C_Reckoner dx (Ac "labels" (.ref tl) [])) p=some (.ins T.C_Reckoner dx [("labels",.ref tl)]):=by rw[pf1];exact AC
 have g1:=g.frm f1 hp Cy;generalize upd H p (.ins T.C_Reckoner dx (Ac "labels" (.ref tl) []))=H1 at *
 -- the rows
 refine⟨_,.ref rl,.inr g1.two,rfl,.inr ⟨⟨_,g1.rows⟩,?_⟩⟩
 refine Cg (xs:=ps.map V.ref) (fun k zs H'=>Yc H1 H'/\zs=iL ((rs.take k).map AV)) ⟨Yc.refl _,rfl⟩ (fun k zs H' _ ⟨s,_⟩=>s.sqT g1.rows) (fun k zs H' hk ⟨_,e⟩=>by
  rw[ZC]at hk;rw[e,At,ZC,Zf];exact Ad (by lia)) ?_ ?_
 ·rintro k x zs H' hx ⟨s1,rfl⟩;rw[ZR]at hx;cases e0:ps[k]? with
  | none=>rw[e0]at hx;cases hx
  | some b =>
   rw[e0]at hx;cases hx;have hk:k < rs.length:=by rw[<- hpl];exact(Zr.mp e0).1
   have er:rs[k]? = some rs[k]:=ZE hk;have hrow:=G.row _ (Zl hk);refine⟨rs[k],s1.sqT (g1.row k b _ e0 er),by lia,fun l H2 hl s2 g2=>?_⟩;refine⟨_,.inl (.of g2),by have:=FO (rs[k].map (· == true)) rs[k].length;lia,fun t ht=>by have:=E1 ht;lia,fun H3 s3=>?_⟩;refine⟨s1.trans (s2.trans s3),?_⟩;rw[ZBC,er,ZN,Bt];rfl
 rintro zs H2' ⟨s1,rfl⟩ yl hyl;rw[ZC,hpl,ZBY];have s2:Yc H1 (upd H2' yl (.lst (iL (rs.map AV)))):=s1.trans (Yc.upd hyl);have gy2:upd H2' yl (.lst (iL (rs.map AV))) yl=some (.lst (iL (rs.map AV))):=AC;generalize upd H2' yl (.lst (iL (rs.map AV)))=H2 at *;have hp2:=s2 _ _ hp1;have ny:yl≠p:=AN gy2 hp2 (by intro z;cases z);refine⟨dx,_,hp2,(show 1 < 1000 by decide),?_⟩;have f3:Yk p H2 (upd H2 p (.ins T.C_Reckoner dx (Ac "yeses" (.ref yl) [("labels",.ref tl)]))):=Yk.updT;have hp3:upd H2 p (.ins T.C_Reckoner dx (Ac "yeses" (.ref yl) [("labels",.ref tl)])) p=some (.ins T.C_Reckoner dx [("labels",.ref tl),("yeses",.ref yl)]):=by rw[pf2];exact AC
 have g3:=(g1.same s2).frm f3 hp2 Cy;have gy3:=f3 _ _ ny gy2;have F3:Yk p H (upd H2 p (.ins T.C_Reckoner dx (Ac "yeses" (.ref yl) [("labels",.ref tl)]))):=f1.trans ((A5 s2).trans f3);generalize upd H2 p (.ins T.C_Reckoner dx (Ac "yeses" (.ref yl) [("labels",.ref tl)]))=H3 at *
 -- the labels
 refine⟨dx,_,.ref tl,hp3,by rfl,ls,g3.lab,by lia,fun ds qs nd hmem hqs=>?_⟩;have hdl:ds.length<=ls.length:=JT nd fun z hz=>(hmem z).mp hz
 refine⟨ds,AC,by lia,fun ms l2 hml hmm _ hl2=>.inl ⟨⟨_,.of AC⟩,?_⟩⟩;have s4:Yc H3 (upd (upd H3 qs (.ext (CZ P w qs ds))) l2 (.lst (ms.map V.int))):=(Yc.upd hqs).trans (Yc.upd hl2);have gl4:upd (upd H3 qs (.ext (CZ P w qs ds))) l2 (.lst (ms.map V.int)) l2=some (.lst (ms.map V.int)):=AC;generalize upd (upd H3 qs (.ext (CZ P w qs ds))) l2 (.lst (ms.map V.int))=H4 at *;have g4:=g3.same s4;have hp4:=s4 _ _ hp3
 refine B1 (xs:=ms.map V.int) (fun k zs H'=>Yc H4 H'/\zs=iL ((ms.take k).map (Cm ls))) ⟨Yc.refl _,rfl⟩ (fun k zs H' _ ⟨s,_⟩=>s.sqL (.of gl4)) (fun k zs H' hk ⟨_,e⟩=>by
  rw[ZC]at hk;rw[e,At,ZC,Zf];exact Ad (by lia)) ?_ ?_
 ·rintro k x zs H' hx ⟨s5,rfl⟩;rw[ZR]at hx;cases e0:ms[k]? with
  | none=>rw[e0]at hx;cases hx
  | some z =>
   rw[e0]at hx;cases hx;refine⟨dx,_,.ref tl,s5 _ _ hp4,by rfl,ls,s5.sqT g4.lab,by lia,fun l H2 hl s6 g2=>?_⟩;refine⟨_,.inl (.of g2),by have:=FO (ls.map (· == z)) ls.length;lia,fun t ht=>by have:=E1 ht;lia,fun H3 s7=>?_⟩;refine⟨s5.trans (s6.trans s7),?_⟩;rw[ZBC,e0,ZN,Bt];rfl
 rintro zs H5' ⟨s5,rfl⟩ al hal;rw[ZC,ZBY];have s6:Yc H4 (upd H5' al (.lst (iL (ms.map (Cm ls))))):=s5.trans (Yc.upd hal);have ga6:upd H5' al (.lst (iL (ms.map (Cm ls)))) al=some (.lst (iL (ms.map (Cm ls)))):=AC;generalize upd H5' al (.lst (iL (ms.map (Cm ls))))=H6 at *;have hp6:=s6 _ _ hp4;have na:al≠p:=AN ga6 hp6 (by intro z;cases z);refine⟨dx,_,hp6,(show 2 < 1000 by decide),?_⟩;have f7:Yk p H6 (upd H6 p (.ins T.C_Reckoner dx (Ac "alike" (.ref al) [("labels",.ref tl),("yeses",.ref yl)]))):=Yk.updT;have hp7:upd H6 p (.ins T.C_Reckoner dx (Ac "alike" (.ref al) [("labels",.ref tl),("yeses",.ref yl)])) p=some (.ins T.C_Reckoner dx [("labels",.ref tl),("yeses",.ref yl),("alike",.ref al)]):=by rw[pf3];exact AC
 have g7:=(g4.same s6).frm f7 hp6 Cy;have gy7:=f7 _ _ ny (s6 _ _ (s4 _ _ gy3));have ga7:=f7 _ _ na ga6;have F7:Yk p H (upd H6 p (.ins T.C_Reckoner dx (Ac "alike" (.ref al) [("labels",.ref tl),("yeses",.ref yl)]))):=F3.trans ((A5 s4).trans ((A5 s6).trans f7));generalize upd H6 p (.ins T.C_Reckoner dx (Ac "alike" (.ref al) [("labels",.ref tl),("yeses",.ref yl)]))=H7 at *
 -- nothing known yet
 intro d hd;have s8:Yc H7 (upd H7 d (.dK [])):=Yc.upd hd;have nd8:d≠p:=fun e=>by rw[e,hp7]at hd;cases hd
 have gd8:upd H7 d (.dK []) d=some (.dK []):=AC
 have hd0:H d=none:=by
  cases e:H d with
  | none=>rfl
  | some o=>rw[F7 d o nd8 e]at hd;cases hd
 generalize upd H7 d (.dK [])=H8 at *;have hp8:=s8 _ _ hp7;refine⟨dx,_,hp8,(show 3 < 1000 by decide),?_⟩;have f9:Yk p H8 (upd H8 p (.ins T.C_Reckoner dx (Ac "known" (.ref d) [("labels",.ref tl),("yeses",.ref yl),("alike",.ref al)]))):=Yk.updT;have hp9:upd H8 p (.ins T.C_Reckoner dx (Ac "known" (.ref d) [("labels",.ref tl),("yeses",.ref yl),("alike",.ref al)])) p=some (.ins T.C_Reckoner dx (BR (.ref tl) (.ref yl) (.ref al) (.ref d))):=by rw[pf4];exact AC
 refine q d _ hd0 ⟨⟨dx,tl,yl,al,_,[],hp9,((g7.same s8).frm f9 hp8 Cy).lab,f9 _ _ ny (s8 _ _ gy7),f9 _ _ na (s8 _ _ ga7),f9 _ _ nd8 gd8,by rw[ZC];lia,NX l1 (fun z=>by rw[hmm z,hmem z]),⟨by simp,fun e he=>by simp at he⟩⟩,l16,by rw[ZC];exact r16⟩ (F7.trans ((A5 s8).trans f9))
theorem Iq(N:Nat)(S:Nat->Bool):Au N S<=N:=by
 unfold Au
 have:=ZBq S (List.range N)
 rw[Z8]at this;exact this
noncomputable def DR(rs:List (List Bool))(k:Nat):List Bool:=rs.map fun r=>gB r k
noncomputable def B4(rs:List (List Bool))(n:Nat):List Dv:=(List.range n).map fun k=>.lst ((DR rs k).map Dv.bl)
noncomputable def BX(ls:List Int)(rs:List (List Bool))(i j:Nat):Prop:=i < j/\j < ls.length/\AE ls i≠AE ls j/\DR rs i=DR rs j
noncomputable def CB(ls:List Int)(rs:List (List Bool))(i j:Nat):Prop:=BX ls rs i j/\∀i' j',BX ls rs i' j'->i < i'\/i=i'/\j<=j'
noncomputable def Ax(ls:List Int)(rs:List (List Bool)):Prop:=∀i j,¬BX ls rs i j
theorem Jq:∀as bs:List Bool,BL (as.map Dv.bl) (bs.map Dv.bl)=true->as=bs
 | [],[],_=>rfl
 | [],u::us,h=>by simp[BL]at h
 | t::ts,[],h=>by simp[BL]at h
 | t::ts,u::us,h=>by
  rw[Zi,Zi,BL,eqD,ZY,beq_iff_eq]at h;rw[h.1,Jq ts us h.2]
theorem NN(a b:List Bool):eqD (.lst (a.map Dv.bl)) (.lst (b.map Dv.bl))=decide (a=b):=by
 rw[FR,ZBB,decide_eq_true_eq];exact⟨Jq a b,fun e=>by rw[e];exact FI _⟩
theorem Jo(rs:List (List Bool))(n:Nat):B4 rs (n+1)=B4 rs n++[.lst ((DR rs n).map Dv.bl)]:=by unfold B4;rw[ZBM,ZN];rfl
theorem FZ(rs:List (List Bool))(n:Nat):(B4 rs n).length=n:=by unfold B4;rw[ZC,Z8]
theorem EW(rs:List (List Bool))(h:k < n):(B4 rs n)[k]? = some (.lst ((DR rs k).map Dv.bl)):=by unfold B4;rw[ZR,List.getElem?_range h];rfl
theorem Ci(h:i < ls.length):atI (ls.map V.int) ((i:Nat):Int)=some (.int (AE ls i)):=by
 refine Ai rfl ?_;rw[ZR,ZE h];unfold AE;rw[ZV,ZE h];rfl
noncomputable def CD(K:W.Frag):Sp:=fun vs H Q _=>match vs with
 | [v]=>∃ls rs,Yh K H (gmD ls rs) v/\Gm ls rs/\(∀H',Yc H H'->Ax ls rs->Q .non H')/\∀(i j:Nat) t H',CB ls rs i j->H t=none->Yc H H'->H' t=some (.tup [.int (i:Nat),.int (j:Nat)])->Q (.ref t) H'
 | _=>False
theorem Lm:AZ (CD K):=fun vs H Q Q' E h q=>by
 unfold CD at *;split at q
 ·obtain⟨ls,rs,h1,h2,q1,q2⟩:=q;exact⟨ls,rs,h1,h2,fun H' x y=>h _ _ (q1 H' x y),fun i j t H' x1 x2 x3 x4=>h _ _ (q2 i j t H' x1 x2 x3 x4)⟩
 ·exact q.elim
theorem Jv{rl:Addr}(g:GmAt K H ls rs a tl rl ps)(G:Gm ls rs)(hk:k < ls.length){q:Addr}(hj:ps[j]? = some q) :
 ∃r,rs[j]? = some r/\Yq K H q (r.map V.bl)/\atI (r.map V.bl) ((k:Nat):Int)=some (.bl (gB r k)):=by
 have hj':j < rs.length:=by rw[<- g.len];exact(Zr.mp hj).1
 have er:rs[j]? = some rs[j]:=ZE hj';exact⟨rs[j],er,g.row j q _ hj er,HZ (by rw[G.row _ (Zl hj')];exact hk)⟩
theorem MY{x:V}(h:(ps.map V.ref)[k]? = some x):∃q,ps[k]? = some q/\x=.ref q:=by
 rw[ZR]at h;cases e:ps[k]? with
 | none=>rw[e]at h;cases h
 | some q=>rw[e]at h;cases h;exact⟨q,rfl,rfl⟩
theorem PC:Xa P w base T.z25 1 (CD K):=by
 refine T.z25.F.ok sc_z25 (fun vs H Q E h=>by unfold CD at h;walk_at "e") ?_;walk_at "f";unfold CD at h;walk_at "g"
 rename_i v;obtain⟨ls,rs,hv,G,q1,q2⟩:=h;obtain⟨a,tl,rl,ps,rfl,g⟩:=CI hv;have l16:=G.l16;have r16:=G.r16;refine⟨_,(@AF _ _ _ _ _ (@AO _ _ 1 _ _ _ _ sc_z25.nd rfl (by right) (Yo (K:=K) (vv 0) AD) (by rfl) (by symm)) (@AF _ _ _ _ _ (@DA _ _ _ _ _ _ _ (["thing","game"]) 1 [0] _ _ _ _ 2 _ _ _ rfl sc_z25.nd rfl rfl (A3 rfl T.z_range (AA (AX (BA (K:=K)) rfl T.z_len (by rfl) (AA (vv 1) AB)) AB)) (by kernel_rfl) rfl rfl (by kernel_rfl) (fun c=>AT (i:=0) (show(["thing","game"]:List Str).Nodup by decide +kernel) rfl (by right)) (Ah (by decide)) (fun c=>Ap) (fun c=>(@Aq _ _ _ _ _ _ _ (["row","thing"]) 1 [0] _ _ _ _ rfl (BB (K:=K) (Yo (K:=K) (vv 1) AD)) (by kernel_rfl) rfl rfl (by kernel_rfl) (fun c=>AT (i:=0) (show(["row","thing"]:List Str).Nodup by decide +kernel) rfl (by right)) (Ah (by decide)) (fun c=>Ap) (fun c=>(Yo (K:=K) (vv 0) (vv 1))) (by intro _;rfl))) (by rfl) (by intro _;rfl)) (@AF _ _ _ _ _ (@Bq _ _ _ _ _ _ _ _ PassesOwn.never rfl (A3 rfl T.z_range (AA (AX (BA (K:=K)) rfl T.z_len (by rfl) (AA (vv 1) AB)) AB)) (AT (i:=3) sc_z25.nd rfl (by right)) (@AI _ _ _ (@Bq _ _ _ _ _ _ _ _ PassesOwn.never rfl (Hu rfl T.z_range (AA (AQ (A8 (K:=K)) (vv 3) AD) (AA (AX (BA (K:=K)) rfl T.z_len (by rfl) (AA (vv 1) AB)) AB))) (AT (i:=4) sc_z25.nd rfl (by right)) (@AI _ _ _ (@Aw _ _ _ _ _ _ _ _ (PW.pt (De (Ak (kNe (K:=K) hu) (Yo (K:=K) (vv 1) (vv 3)) (Yo (K:=K) (vv 1) (vv 4))) (EF (Ak (kEq (K:=K) hu) (Yo (K:=K) (vv 2) (vv 3)) (Yo (K:=K) (vv 2) (vv 4)))))) (@AI _ _ _ (@AR _ _ _ _ (A2 (AA (vv 3) (AA (vv 4) AB))))) Av)) (by intro _;rfl))) (by intro _;rfl)) (@AI _ _ _ (@AR _ _ _ _ B7))))),?_⟩;refine⟨_,.ref tl,.inr g.two,rfl,?_⟩;dsimp only[Af];refine Ag (fun σ H'=>∃(l:Addr) (xs:List V),σ=[some (.ref a),some (.ref tl),some (.ref l),none,none]/\Yc H H'/\H' l=some (.lst xs)/\Yd K H' (B4 rs ls.length) xs) ?_ ?_ (by walk_at "sm")
 ·refine⟨ls.length,.inr ⟨_,g.lab,by rw[ZC]⟩,(ls.length:Int),rfl,by lia,by lia,?_⟩;rw[Zb];refine BU (fun k ys H'=>Yc H H'/\Yd K H' (B4 rs k) ys) ⟨Yc.refl _,AU⟩ (fun k ys H' hk ⟨_,R⟩=>by rw[<- R.length,FZ];exact Ad (by lia)) ?_ ?_
  ·rintro k ys H1 hk ⟨s1,R1⟩;have g1:=g.same s1;have e0:(0:Int)+(k:Int)=((k:Nat):Int):=by lia
   rw[e0];refine⟨_,.ref rl,.inr g1.two,rfl,.inr ⟨⟨_,g1.rows⟩,?_⟩⟩
   refine Cg (xs:=ps.map V.ref) (fun j zs H'=>H'=H1/\zs=((rs.take j).map fun r=>gB r k).map V.bl) ⟨rfl,rfl⟩ (fun j zs H' _ ⟨e,_⟩=>by rw[e];exact g1.rows) (fun j zs H' hj ⟨_,e⟩=>by
    rw[ZC,g1.len]at hj;rw[e,ZC,ZC,Zf];exact Ad (by lia)) ?_ ?_
   ·rintro j x zs H' hx ⟨rfl,rfl⟩;obtain⟨b,hb,rfl⟩:=MY hx;obtain⟨r,er,hs,ha⟩:=Jv g1 G hk hb;refine⟨_,.bl (gB r k),.inr hs,ha,rfl,?_⟩;rw[ZBC,er,ZN,ZN];rfl
   ·rintro zs H' ⟨rfl,rfl⟩ l hl;rw[ZC,g1.len,ZBY];have s2:Yc H' (upd H' l (.lst ((rs.map fun r=>gB r k).map V.bl))):=Yc.upd hl;refine⟨s1.trans s2,?_⟩;rw[Jo];exact Yd.append (Yd.same s2 _ _ R1) (AS (by unfold Yh;exact⟨l,_,rfl,.of AC,Bp _⟩) AU)
  ·rintro ys H1 ⟨s1,R1⟩ l hl;have s2:Yc H1 (upd H1 l (.lst ys)):=Yc.upd hl;exact⟨l,ys,rfl,s1.trans s2,AC,Yd.same s2 _ _ R1⟩
 rintro σ H1 ⟨l,xs,rfl,s1,gl,R⟩;have g1:=g.same s1;refine Ag (fun σ H'=>H'=H1/\(∃x y,σ=[some (.ref a),some (.ref tl),some (.ref l),x,y])/\Ax ls rs) ?_ ?_ (by walk_at "sm");rotate_left
 ·rintro σ H' ⟨rfl,⟨x,y,rfl⟩,he⟩;exact q1 _ s1 he
 refine⟨ls.length,.inr ⟨_,g1.lab,by rw[ZC]⟩,(ls.length:Int),rfl,by lia,by lia,?_⟩;rw[Zb];refine CK (fun k σ H'=>H'=H1/\(∃x y,σ=[some (.ref a),some (.ref tl),some (.ref l),x,y])/\∀i' j',i' < k->¬BX ls rs i' j') ⟨rfl,⟨none,none,rfl⟩,fun i' j' h=>absurd h (ZBh _)⟩ ?_ ?_;rotate_left
 ·rintro σ H' ⟨rfl,hσ,h⟩;exact⟨rfl,hσ,fun i j hb=>h i j (by have:=hb.1;have:=hb.2.1;lia) hb⟩
 rintro i σ H' hi ⟨rfl,⟨x,y,rfl⟩,hno⟩;have e0:(0:Int)+(i:Int)=((i:Nat):Int):=by lia
 rw[e0];refine⟨ls.length,.inr ⟨_,g1.lab,by rw[ZC]⟩,((i:Int)+1),(ls.length:Int),rfl,⟨by lia,by lia,by lia,by lia⟩,?_⟩;obtain⟨W,hW⟩:∃W:Nat,((ls.length:Int) - ((i:Int)+1)).toNat=W:=⟨_,rfl⟩;rw[hW];refine CK (fun k σ H2=>H2=H'/\(∃y,σ=[some (.ref a),some (.ref tl),some (.ref l),some (.int (i:Nat)),y])/\∀j',j' < i+1+k->¬BX ls rs i j') ⟨rfl,⟨y,rfl⟩,fun j' h hb=>by have:=hb.1;lia⟩ ?_ ?_;rotate_left
 ·rintro σ H2 ⟨rfl,⟨y,rfl⟩,h⟩;refine⟨rfl,⟨_,y,rfl⟩,fun i' j' hi' hb=>?_⟩
  rcases Z1 i' i with z | z
  ·exact hno i' j' z hb
  ·have:i'=i:=by lia
   subst this;exact h j' (by have:=hb.2.1;lia) hb
 rintro k σ H2 hk ⟨rfl,⟨y,rfl⟩,hno2⟩;have e1:(i:Int)+1+(k:Int)=((i+1+k:Nat):Int):=by lia
 rw[e1];have hj:i+1+k < ls.length:=by lia
 have next:¬BX ls rs i (i+1+k)->∀j',j' < i+1+(k+1)->¬BX ls rs i j':=fun h j' hj'=>by
  rcases Z1 j' (i+1+k) with z | z
  ·exact hno2 j' z
  ·have:j'=i+1+k:=by lia
   rw[this];exact h
 refine⟨_,.int (AE ls i),.inr g1.lab,Ci hi,_,.int (AE ls (i+1+k)),.inr g1.lab,Ci hj,?_⟩;refine Ao (fun e=>?_) (fun e=>?_)
 ·have ne:AE ls i≠AE ls (i+1+k):=by simpa using e
  obtain⟨x1,hx1,r1⟩:=R.get (EW rs hi);obtain⟨x2,hx2,r2⟩:=R.get (EW rs hj);refine⟨_,x1,.inl (.of gl),Ai rfl hx1,_,x2,.inl (.of gl),Ai rfl hx2,?_⟩;have r1':=r1;have r2':=r2;unfold Yh at r1' r2';obtain⟨b1,_,rfl,_⟩:=r1';obtain⟨b2,_,rfl,_⟩:=r2';refine⟨_,_,r1,r2,by unfold AY;rw[Ep];lia,?_⟩;rw[NN,Zs];refine Ao (fun e2=>?_) (fun e2=>?_)
  ·have hb:BX ls rs i (i+1+k):=⟨by lia,hj,ne,ZZ e2⟩;refine⟨smq rfl,fun t ht=>?_⟩;refine q2 i (i+1+k) t _ ⟨hb,fun i' j' hb'=>?_⟩ (s1.free ht) (s1.trans (Yc.upd ht)) AC
   rcases Z2 i' i with z | z | z
   ·exact absurd hb' (hno i' j' z)
   ·subst z;exact .inr ⟨rfl,Nat.le_of_not_lt fun w=>hno2 j' w hb'⟩
   ·exact .inl z
  ·exact⟨rfl,⟨_,rfl⟩,next fun hb=>e2 (ZT hb.2.2.2)⟩
 ·have eq:AE ls i=AE ls (i+1+k):=by simpa using e
  exact⟨rfl,⟨_,rfl⟩,next fun hb=>hb.2.2.1 eq⟩
theorem LB:Xa P w base T.z50 1 (CD K):=by
 refine T.z50.F.ok sc_z50 (fun vs H Q E h=>by unfold CD at h;walk_at "e") ?_;walk_at "f";unfold CD at h;walk_at "g"
 rename_i v;obtain⟨ls,rs,hv,G,q1,q2⟩:=h;obtain⟨a,tl,rl,ps,rfl,g⟩:=CI hv;have l16:=G.l16;have r16:=G.r16;refine⟨_,(@AF _ _ _ _ _ (@DA _ _ _ _ _ _ _ (["_law_k","_law_game_here"]) 1 [0] _ _ _ _ 1 _ _ _ rfl sc_z50.nd rfl rfl (A3 rfl T.z_range (AA (AX (BA (K:=K)) rfl T.z_len (by rfl) (AA (Yo (K:=K) (vv 0) AD) AB)) AB)) (by kernel_rfl) rfl rfl (by kernel_rfl) (fun c=>AT (i:=0) (show(["_law_k","_law_game_here"]:List Str).Nodup by decide +kernel) rfl (by right)) (Ah (by decide)) (fun c=>Ap) (fun c=>(@Aq _ _ _ _ _ _ _ (["_law_row","_law_k"]) 1 [0] _ _ _ _ rfl (BB (K:=K) (Yo (K:=K) (vv 1) AD)) (by kernel_rfl) rfl rfl (by kernel_rfl) (fun c=>AT (i:=0) (show(["_law_row","_law_k"]:List Str).Nodup by decide +kernel) rfl (by right)) (Ah (by decide)) (fun c=>Ap) (fun c=>(Yo (K:=K) (vv 0) (vv 1))) (by intro _;rfl))) (by rfl) (by intro _;rfl)) (@AF _ _ _ _ _ (@Bq _ _ _ _ _ _ _ _ PassesOwn.never rfl (A3 rfl T.z_range (AA (AX (BA (K:=K)) rfl T.z_len (by rfl) (AA (vv 1) AB)) AB)) (AT (i:=2) sc_z50.nd rfl (by right)) (@AI _ _ _ (@Bq _ _ _ _ _ _ _ _ PassesOwn.never rfl (Hu rfl T.z_range (AA (AQ (A8 (K:=K)) (vv 2) AD) (AA (AX (BA (K:=K)) rfl T.z_len (by rfl) (AA (vv 1) AB)) AB))) (AT (i:=3) sc_z50.nd rfl (by right)) (@AI _ _ _ (@Aw _ _ _ _ _ _ _ _ (PW.pt (De (Ak (kEq (K:=K) hu) (Yo (K:=K) (vv 1) (vv 2)) (Yo (K:=K) (vv 1) (vv 3))) (EF (Ak (kNe (K:=K) hu) (Yo (K:=K) (Yo (K:=K) (vv 0) AD) (vv 2)) (Yo (K:=K) (Yo (K:=K) (vv 0) AD) (vv 3)))))) (@AI _ _ _ (@AR _ _ _ _ (A2 (AA (vv 2) (AA (vv 3) AB))))) Av)) (by intro _;rfl))) (by intro _;rfl)) (@AI _ _ _ (@AR _ _ _ _ B7)))),?_⟩;refine Ag (fun σ H'=>∃(l:Addr) (xs:List V),σ=[some (.ref a),some (.ref l),none,none]/\Yc H H'/\H' l=some (.lst xs)/\Yd K H' (B4 rs ls.length) xs) ?_ ?_ (by walk_at "sm")
 ·refine⟨_,.ref tl,.inr g.two,rfl,ls.length,.inr ⟨_,g.lab,by rw[ZC]⟩,(ls.length:Int),rfl,by lia,by lia,?_⟩;rw[Zb];refine BU (fun k ys H'=>Yc H H'/\Yd K H' (B4 rs k) ys) ⟨Yc.refl _,AU⟩ (fun k ys H' hk ⟨_,R⟩=>by rw[<- R.length,FZ];exact Ad (by lia)) ?_ ?_
  ·rintro k ys H1 hk ⟨s1,R1⟩;have g1:=g.same s1;have e0:(0:Int)+(k:Int)=((k:Nat):Int):=by lia
   rw[e0];refine⟨_,.ref rl,.inr g1.two,rfl,.inr ⟨⟨_,g1.rows⟩,?_⟩⟩
   refine Cg (xs:=ps.map V.ref) (fun j zs H'=>H'=H1/\zs=((rs.take j).map fun r=>gB r k).map V.bl) ⟨rfl,rfl⟩ (fun j zs H' _ ⟨e,_⟩=>by rw[e];exact g1.rows) (fun j zs H' hj ⟨_,e⟩=>by
    rw[ZC,g1.len]at hj;rw[e,ZC,ZC,Zf];exact Ad (by lia)) ?_ ?_
   ·rintro j x zs H' hx ⟨rfl,rfl⟩;obtain⟨b,hb,rfl⟩:=MY hx;obtain⟨r,er,hs,ha⟩:=Jv g1 G hk hb;refine⟨_,.bl (gB r k),.inr hs,ha,rfl,?_⟩;rw[ZBC,er,ZN,ZN];rfl
   ·rintro zs H' ⟨rfl,rfl⟩ l hl;rw[ZC,g1.len,ZBY];have s2:Yc H' (upd H' l (.lst ((rs.map fun r=>gB r k).map V.bl))):=Yc.upd hl;refine⟨s1.trans s2,?_⟩;rw[Jo];exact Yd.append (Yd.same s2 _ _ R1) (AS (by unfold Yh;exact⟨l,_,rfl,.of AC,Bp _⟩) AU)
  ·rintro ys H1 ⟨s1,R1⟩ l hl;have s2:Yc H1 (upd H1 l (.lst ys)):=Yc.upd hl;exact⟨l,ys,rfl,s1.trans s2,AC,Yd.same s2 _ _ R1⟩
 rintro σ H1 ⟨l,xs,rfl,s1,gl,R⟩;have g1:=g.same s1;refine Ag (fun σ H'=>H'=H1/\(∃x y,σ=[some (.ref a),some (.ref l),x,y])/\Ax ls rs) ?_ ?_ (by walk_at "sm");rotate_left
 ·rintro σ H' ⟨rfl,⟨x,y,rfl⟩,he⟩;exact q1 _ s1 he
 refine⟨ls.length,.inl ⟨_,.of gl,by rw[<- R.length,FZ]⟩,(ls.length:Int),rfl,by lia,by lia,?_⟩;rw[Zb];refine CK (fun k σ H'=>H'=H1/\(∃x y,σ=[some (.ref a),some (.ref l),x,y])/\∀i' j',i' < k->¬BX ls rs i' j') ⟨rfl,⟨none,none,rfl⟩,fun i' j' h=>absurd h (ZBh _)⟩ ?_ ?_;rotate_left
 ·rintro σ H' ⟨rfl,hσ,h⟩;exact⟨rfl,hσ,fun i j hb=>h i j (by have:=hb.1;have:=hb.2.1;lia) hb⟩
 rintro i σ H' hi ⟨rfl,⟨x,y,rfl⟩,hno⟩;have e0:(0:Int)+(i:Int)=((i:Nat):Int):=by lia
 rw[e0];refine⟨ls.length,.inl ⟨_,.of gl,by rw[<- R.length,FZ]⟩,((i:Int)+1),(ls.length:Int),rfl,⟨by lia,by lia,by lia,by lia⟩,?_⟩;obtain⟨W,hW⟩:∃W:Nat,((ls.length:Int) - ((i:Int)+1)).toNat=W:=⟨_,rfl⟩;rw[hW];refine CK (fun k σ H2=>H2=H'/\(∃y,σ=[some (.ref a),some (.ref l),some (.int (i:Nat)),y])/\∀j',j' < i+1+k->¬BX ls rs i j') ⟨rfl,⟨y,rfl⟩,fun j' h hb=>by have:=hb.1;lia⟩ ?_ ?_;rotate_left
 ·rintro σ H2 ⟨rfl,⟨y,rfl⟩,h⟩;refine⟨rfl,⟨_,y,rfl⟩,fun i' j' hi' hb=>?_⟩
  rcases Z1 i' i with z | z
  ·exact hno i' j' z hb
  ·have:i'=i:=by lia
   subst this;exact h j' (by have:=hb.2.1;lia) hb
 rintro k σ H2 hk ⟨rfl,⟨y,rfl⟩,hno2⟩;have e1:(i:Int)+1+(k:Int)=((i+1+k:Nat):Int):=by lia
 rw[e1];have hj:i+1+k < ls.length:=by lia
 have next:¬BX ls rs i (i+1+k)->∀j',j' < i+1+(k+1)->¬BX ls rs i j':=fun h j' hj'=>by
  rcases Z1 j' (i+1+k) with z | z
  ·exact hno2 j' z
  ·have:j'=i+1+k:=by lia
   rw[this];exact h
 obtain⟨x1,hx1,r1⟩:=R.get (EW rs hi);obtain⟨x2,hx2,r2⟩:=R.get (EW rs hj);refine⟨_,x1,.inl (.of gl),Ai rfl hx1,_,x2,.inl (.of gl),Ai rfl hx2,?_⟩;have r1':=r1;have r2':=r2;unfold Yh at r1' r2';obtain⟨b1,_,rfl,_⟩:=r1';obtain⟨b2,_,rfl,_⟩:=r2';refine⟨_,_,r1,r2,by unfold AY;rw[Ep];lia,?_⟩;rw[NN,Zs];refine Ao (fun e2=>?_) (fun e2=>?_)
 ·refine⟨_,.ref tl,.inr g1.two,rfl,_,.int (AE ls i),.inr g1.lab,Ci hi,_,.ref tl,.inr g1.two,rfl,_,.int (AE ls (i+1+k)),.inr g1.lab,Ci hj,?_⟩;refine Ao (fun e=>?_) (fun e=>?_)
  ·have ne:AE ls i≠AE ls (i+1+k):=by simpa using e
   have hb:BX ls rs i (i+1+k):=⟨by lia,hj,ne,ZZ e2⟩;refine⟨smq rfl,fun t ht=>?_⟩;refine q2 i (i+1+k) t _ ⟨hb,fun i' j' hb'=>?_⟩ (s1.free ht) (s1.trans (Yc.upd ht)) AC
   rcases Z2 i' i with z | z | z
   ·exact absurd hb' (hno i' j' z)
   ·subst z;exact .inr ⟨rfl,Nat.le_of_not_lt fun w=>hno2 j' w hb'⟩
   ·exact .inl z
  ·have eq:AE ls i=AE ls (i+1+k):=by simpa using e
   exact⟨rfl,⟨_,rfl⟩,next fun hb=>hb.2.2.1 eq⟩
 ·exact⟨rfl,⟨_,rfl⟩,next fun hb=>e2 (ZT hb.2.2.2)⟩
noncomputable def CN(ls:List Int)(rs:List (List Bool)):Nat->Bool:=fun j=>by classical exact decide (∃i,BX ls rs i j)
theorem badS_iff:CN ls rs j=true ↔ ∃i,BX ls rs i j:=by unfold CN;simp
theorem Na{S S':Nat->Bool}(h:∀k,S' k=true->S k=true):Au N S'<=Au N S:=by
 induction N with
 | zero=>exact ZD _
 | succ N ih =>
  rw[Do,Do];cases e:S' N with
  | false=>simp;lia
  | true=>rw[h N e];simp;lia
theorem NW(hj:j < ls.length)(x:Int)(k:Nat):AE (ls.set j x) k=if k=j then x else AE ls k:=by
 unfold AE;rw[ZV,ZV,List.getElem?_set]
 by_cases e:j=k
 ·subst e;simp[hj]
 ·simp[e,Ne.symm e]
theorem Tm(h:CB ls rs i j):Au ls.length (CN (ls.set j (AE ls i)) rs) < Au ls.length (CN ls rs):=by
 obtain⟨⟨h1,h2,h3,h4⟩,h5⟩:=h;have hl:=NW h2 (AE ls i);have len:(ls.set j (AE ls i)).length=ls.length:=ZBU
 have key:∀j',CN (ls.set j (AE ls i)) rs j'=true->(CN ls rs j' && !(j' == j))=true:=by
  intro j' hb;obtain⟨i',b1,b2,b3,b4⟩:=badS_iff.mp hb;rw[len]at b2;rw[hl,hl]at b3
  have Yr:j'≠j:=by
   intro e;subst e;rw[if_neg (show i'≠j' by lia),if_pos rfl]at b3
   rcases Z2 i' i with z | z | z
   ·rcases h5 i' i ⟨z,by lia,b3,b4.trans h4.symm⟩ with y | y
    ·lia
    ·lia
   ·subst z;exact b3 rfl
   ·rcases h5 i i' ⟨z,by lia,Ne.symm b3,h4.trans b4.symm⟩ with y | y
    ·lia
    ·lia
  rw[if_neg Yr]at b3
  have:CN ls rs j'=true:=by
   by_cases e:i'=j
   ·subst e;rw[if_pos rfl]at b3;exact badS_iff.mpr ⟨i,by lia,b2,b3,h4.trans b4⟩
   ·rw[if_neg e]at b3;exact badS_iff.mpr ⟨i',b1,b2,b3,b4⟩
  rw[this];simpa using Yr
 have c1:=Na (N:=ls.length) key;have c2:=Iv ls.length (CN ls rs) (fun k=>k == j);have c3:=ER (S:=fun k=>CN ls rs k && k == j) h2 (by rw[badS_iff.mpr ⟨i,h1,h2,h3,h4⟩];simp);lia
theorem Gm.set(G:Gm ls rs)(j:Nat)(hi:i < ls.length):Gm (ls.set j (AE ls i)) rs:=by
 refine⟨by rw[ZBU];exact G.l1,by rw[ZBU];exact G.l16,G.r1,G.r16,fun r hr=>by rw[ZBU];exact G.row r hr,fun x hx=>?_⟩
 rcases List.mem_or_eq_of_mem_set hx with h | h
 ·exact G.sm x h
 ·rw[h];unfold AE;rw[ZV,ZE hi];exact G.sm _ (Zl hi)
noncomputable def DX(K:W.Frag):Sp:=fun vs H Q _=>match vs with
 | [v]=>∃ls rs,Yh K H (gmD ls rs) v/\Gm ls rs/\∀ls' u H',Yc H H'->Gm ls' rs->Ax ls' rs->Yh K H' (gmD ls' rs) u->Q u H'
 | _=>False
theorem RS:AZ (DX K):=fun vs H Q Q' E h q=>by
 unfold DX at *;walk_at "q"
theorem Mu{x2:V}(h:H t=some (.tup [.ref tl,x2]))(h1:Yq K H tl (ls.map V.int))(h2:Yh K H (.tup (Ae rs)) x2):Yh K H (gmD ls rs) (.ref t) :=
 Bv (.of h) (AS (Bv h1 (Eb ls)) (AS h2 AU))
theorem Ob:Xa P w base T.z36 2 (DX K):=by
 have G_z50:=@LB P w K mg base T;refine T.z36.F.ok sc_z36 (fun vs H Q E h=>by unfold DX at h;walk_at "e") ?_;walk_at "f";have hr_z50:=hr.mono (show 1<=_ by decide);unfold DX at h;walk_at "g"
 rename_i v;obtain⟨ls,rs,hv,G,q⟩:=h;obtain⟨a,x1,x2,rfl,hs2,hx1,hx2⟩:=Mh hv;obtain⟨tl,zs,rfl,hlab,hz⟩:=D4 hx1;obtain rfl:=Ia hz;have mono1:AZ (CD K):=Lm;refine⟨_,(@AF _ _ _ _ _ (@AO _ _ 1 _ _ _ _ sc_z36.nd rfl (by right) (Ar (KW (K:=K)) rfl T.z_list (by rfl) (AA (Yo (K:=K) (vv 0) AD) AB)) (by rfl) (by symm)) (@AF _ _ _ _ _ (@AO _ _ 2 _ _ _ _ sc_z36.nd rfl (by right) (AJ G_z50 hr_z50 rfl T.z50.m T.z50.F.kp T.z50.b .nil AG (AA (vv 0) AB)) (by rfl) (by symm)) (@AF _ _ _ _ _ (@Jp _ _ _ _ _ _ PassesOwn.never (Ak Mo (vv 2) B7) (@AF _ _ _ _ _ (@Ct _ _ _ _ _ _ (Yo (K:=K) (vv 1) (Yo (K:=K) (vv 2) AD)) (C1 (vv 1) (Yo (K:=K) (vv 2) AD) C8) (by rfl) (by rfl) (by rfl)) (@AI _ _ _ (@AO _ _ 2 _ _ _ _ sc_z36.nd rfl (by right) (AJ G_z50 hr_z50 rfl T.z50.m T.z50.F.kp T.z50.b .nil AG (AA (A2 (AA (Ar (A9 (K:=K)) rfl T.z_tuple (by rfl) (AA (vv 1) AB)) (AA (Yo (K:=K) (vv 0) AD) AB))) AB)) (by rfl) (by symm))))) (@AI _ _ _ (@AR _ _ _ _ (A2 (AA (Ar (A9 (K:=K)) rfl T.z_tuple (by rfl) (AA (vv 1) AB)) (AA (Yo (K:=K) (vv 0) AD) AB)))))))),?_⟩;refine⟨_,.ref tl,.inr hs2,rfl,_,.inr hlab,fun l hl=>?_⟩;dsimp only[Af];have s1:Yc H (upd H l (.lst (ls.map V.int))):=Yc.upd hl;have gl1:upd H l (.lst (ls.map V.int)) l=some (.lst (ls.map V.int)):=AC;generalize upd H l (.lst (ls.map V.int))=H1 at *;refine Ag (fun σ H2=>∃u0,σ=[some (.ref a),some (.ref l),some u0]/\Yc H H2/\H2 l=some (.lst (ls.map V.int))/\((u0=.non/\Ax ls rs)\/∃(i j:Nat) (t:Addr),u0=.ref t/\CB ls rs i j/\H2 t=some (.tup [.int (i:Nat),.int (j:Nat)]))) ?_ ?_ (by walk_at "sm")
 ·exact⟨ls,rs,Yh.same s1 _ _ hv,G,fun H3 s3 he=>⟨_,rfl,s1.trans s3,s3 _ _ gl1,.inl ⟨rfl,he⟩⟩,fun i j t H3 hf ht s3 gt=>⟨_,rfl,s1.trans s3,s3 _ _ gl1,.inr ⟨i,j,t,rfl,hf,gt⟩⟩⟩
 rintro σ H2 ⟨u0,rfl,s2,gl2,hu2⟩;refine Ag (fun σ H3=>∃(ls1:List Int) (u:V),σ=[some (.ref a),some (.ref l),some u]/\Yc H H3/\H3 l=some (.lst (ls1.map V.int))/\Gm ls1 rs/\Ax ls1 rs) ?_ ?_ (by walk_at "sm")
 ·refine⟨fun m σ H3=>∃(ls1:List Int) (u:V),σ=[some (.ref a),some (.ref l),some u]/\m=Au ls.length (CN ls1 rs)/\Yc H H3/\H3 l=some (.lst (ls1.map V.int))/\ls1.length=ls.length/\Gm ls1 rs /\
   ((u=.non/\Ax ls1 rs)\/∃(i j:Nat) (t:Addr),u=.ref t/\CB ls1 rs i j/\H3 t=some (.tup [.int (i:Nat),.int (j:Nat)])),⟨_,ls,u0,rfl,rfl,s2,gl2,rfl,G,hu2⟩,?_⟩
  rintro m σ H3 ⟨ls1,u,rfl,rfl,s3,gl3,ll,G1,hu3⟩
  rcases hu3 with ⟨rfl,he⟩ | ⟨i,j,t,rfl,hf,gt⟩
  ·exact⟨ls1,_,rfl,s3,gl3,G1,he⟩
  ·obtain⟨⟨b1,b2,_⟩,_⟩:=id hf;refine⟨_,.int (i:Nat),.inr (.of gt),rfl,_,.int (AE ls1 i),.inl (.of gl3),Ci (by lia),?_⟩;refine⟨_,.int (j:Nat),.inr (.of gt),rfl,_,j,gl3,by rw[ZC];unfold ixN;rw[if_pos (by lia),if_pos (by lia),Zb],?_⟩;rw[<- List.map_set]
   have s4:Yc H (upd H3 l (.lst ((ls1.set j (AE ls1 i)).map V.int))):=fun b o e=>by
    rw[AH (BD e hl)];exact s3 _ _ e
   have gl4:upd H3 l (.lst ((ls1.set j (AE ls1 i)).map V.int)) l=some (.lst ((ls1.set j (AE ls1 i)).map V.int)):=AC;generalize upd H3 l (.lst ((ls1.set j (AE ls1 i)).map V.int))=H4 at *;refine⟨_,.inl ⟨.of gl4,fun t1 ht1=>?_⟩⟩;have s5:Yc H4 (upd H4 t1 (.tup ((ls1.set j (AE ls1 i)).map V.int))):=Yc.upd ht1;have g5:upd H4 t1 (.tup ((ls1.set j (AE ls1 i)).map V.int)) t1=some (.tup ((ls1.set j (AE ls1 i)).map V.int)):=AC;generalize upd H4 t1 (.tup ((ls1.set j (AE ls1 i)).map V.int))=H5 at *;refine⟨_,x2,.inr ((s4.trans s5).sqT hs2),rfl,smq rfl,fun t2 ht2=>?_⟩;have s6:Yc H5 (upd H5 t2 (.tup [.ref t1,x2])):=Yc.upd ht2;have g6:upd H5 t2 (.tup [.ref t1,x2]) t2=some (.tup [.ref t1,x2]):=AC;generalize upd H5 t2 (.tup [.ref t1,x2])=H6 at *;have S6:=s4.trans (s5.trans s6);have G2:=G1.set j (show i < ls1.length by lia);have less:=Tm hf;rw[ll]at less
   exact⟨_,rs,Mu g6 (.of (s6 _ _ g5)) (Yh.same S6 _ _ hx2),G2,fun H7 s7 he=>⟨_,less,_,_,rfl,rfl,S6.trans s7,s7 _ _ (s6 _ _ (s5 _ _ gl4)),by rw[ZBU];exact ll,G2,.inl ⟨rfl,he⟩⟩,
    fun i' j' t' H7 hf' ht' s7 gt'=>⟨_,less,_,_,rfl,rfl,S6.trans s7,s7 _ _ (s6 _ _ (s5 _ _ gl4)),by rw[ZBU];exact ll,G2,.inr ⟨i',j',t',rfl,hf',gt'⟩⟩⟩
 ·rintro σ H3 ⟨ls1,u,rfl,s3,gl3,G1,he⟩;refine⟨_,.inl ⟨.of gl3,fun t1 ht1=>?_⟩⟩;have s5:Yc H3 (upd H3 t1 (.tup (ls1.map V.int))):=Yc.upd ht1;have g5:upd H3 t1 (.tup (ls1.map V.int)) t1=some (.tup (ls1.map V.int)):=AC;generalize upd H3 t1 (.tup (ls1.map V.int))=H5 at *;refine⟨_,x2,.inr ((s3.trans s5).sqT hs2),rfl,smq rfl,fun t2 ht2=>?_⟩;have s6:Yc H5 (upd H5 t2 (.tup [.ref t1,x2])):=Yc.upd ht2;have g6:upd H5 t2 (.tup [.ref t1,x2]) t2=some (.tup [.ref t1,x2]):=AC;generalize upd H5 t2 (.tup [.ref t1,x2])=H6 at *;have S6:=s3.trans (s5.trans s6);exact q ls1 _ H6 S6 G1 he (Mu g6 (.of (s6 _ _ g5)) (Yh.same S6 _ _ hx2))
noncomputable def FrX(X:List Addr)(H H':Hp):Prop:=∀b o,b∉X->H b=some o->H' b=some o
theorem FrX.trans{H1 H2:Hp}(a:FrX X H H1)(b:FrX X H1 H2):FrX X H H2:=fun c o n e=>b c o n (a c o n e)
theorem FrX.up{Y:List Addr}(f:FrX X H H')(h:∀a∈X,a∈Y):FrX Y H H':=fun b o n e=>f b o (fun z=>n (h b z)) e
theorem FrX.same(s:Yc H H'):FrX X H H':=fun b o _ e=>s b o e
theorem FrX.frm(f:Yk d H H')(h:d∈X):FrX X H H':=fun b o n e=>f b o (fun z=>n (z ▸ h)) e
theorem FrX.grow(f:Yw d H H')(h:d∈X):FrX X H H':=fun b o n e=>f b o (fun z=>n (z ▸ h)) e
mutual
theorem Yh.mv(s:∀a xs,Yq K H a xs->Yq K H' a xs):∀(d:Dv) (v:V),Bh d=true->Yh K H d v->Yh K H' d v
 | .non,v,_,h=>by unfold Yh at *;exact h
 | .bl b,v,_,h=>by unfold Yh at *;exact h
 | .int i,v,_,h=>by unfold Yh at *;exact h
 | .str x,v,_,h=>by unfold Yh at *;exact h
 | .tup ds,v,hd,h=>by
  unfold Bh at hd;unfold Yh at *;obtain⟨a,xs,e,h1,h2⟩:=h;exact⟨a,xs,e,s _ _ h1,Yd.mv s ds xs hd h2⟩
 | .lst ds,v,hd,h=>by unfold Bh at hd;cases hd
theorem Yd.mv(s:∀a xs,Yq K H a xs->Yq K H' a xs):∀(ds:List Dv) (xs:List V),Az ds=true->Yd K H ds xs->Yd K H' ds xs
 | [],xs,_,h=>by unfold Yd at *;exact h
 | d::ds,xs,hd,h=>by
  unfold Az at hd;rw[ZY]at hd;unfold Yd at *;obtain⟨x,r,e,h1,h2⟩:=h;exact⟨x,r,e,Yh.mv s d x hd.1 h1,Yd.mv s ds r hd.2 h2⟩
end
theorem OR{pos:Pos}{q:Str}(l:Yx Pt pos q H)(f:∀b o,(∀ps,o≠.tbl ps)\/b=Pt->(∀xs,o≠.lst xs)->(∀xs,o≠.dK xs)->(∀c x fs,o≠.ins c x fs)->H b=some o->H' b=some o):Yx Pt pos q H':=by
 obtain⟨ps,a,b,c⟩:=l;refine⟨ps,f _ _ (.inr rfl) (fun _ z=>nomatch z) (fun _ z=>nomatch z) (fun _ _ _ z=>nomatch z) a,b,?_⟩
 rcases c with c | ⟨c',c,d⟩
 ·exact .inl c
 ·exact .inr ⟨c',c,f _ _ (.inl fun _ z=>nomatch z) (fun _ z=>nomatch z) (fun _ z=>nomatch z) (fun _ _ _ z=>nomatch z) d⟩
theorem Dy{pos:Pos}{q:Str}(l:Yx Pt pos q H)(f:Yk t H H')(ht:H t=some o)(h1:(∃xs,o=.lst xs)\/(∃xs,o=.dK xs)\/∃c x fs,o=.ins c x fs):Yx Pt pos q H':=by
 refine OR l fun b o' _ n1 n2 n3 e=>f b o' (fun z=>?_) e
 rw[z,ht]at e;cases e
 rcases h1 with ⟨xs,rfl⟩ | ⟨xs,rfl⟩ | ⟨c,x,fs,rfl⟩
 ·exact n1 _ rfl
 ·exact n2 _ rfl
 ·exact n3 _ _ _ rfl
theorem Tr{ps:Array Value}(r:RkAt K C ls ys H p d)(g:Yw Pt H H')(hz:H Pt=some (.tbl ps)):RkAt K C ls ys H' p d:=by
 obtain⟨dx,tl,yl,al,as,Yg,h1,h2,h3,h4,h5,h6,h7,h8⟩:=r.at_;have st:∀{b o},H b=some o->(∀ps,o≠.tbl ps)->H' b=some o:=fun {b o} e n=>g b o (fun z=>by rw[z,hz]at e;cases e;exact n _ rfl) e
 exact⟨⟨dx,tl,yl,al,as,Yg,st h1 (fun _ z=>nomatch z),Tn g hz h2,st h3 (fun _ z=>nomatch z),st h4 (fun _ z=>nomatch z),st h5 (fun _ z=>nomatch z),h6,h7,h8⟩,r.l16,r.y16⟩
noncomputable def Gq:Sp:=fun vs H Q _=>match vs with
 | [.int x,.int y]=>∃p i:Nat,x=p/\y=i/\i<=64/\Q (.bl (p / 2 ^ i % 2 == 1)) H
 | _=>False
theorem Pk:Xa P w base T.z54 3 Gq:=by
 refine T.z54.F.ok UJ (fun vs H Q E h=>by unfold Gq at h;walk_at "e") ?_;walk_at "f";unfold Gq at h;walk_at "g"
 rename_i x y;obtain⟨p,i,e1,e2,hi,q⟩:=h;subst e1 e2;refine⟨_,(@AI _ _ _ (@AR _ _ _ _ (Ba (kEq (K:=K) hu) (AQ Ck (AQ D5 (vv 0) (AJ (@HW P w K mg base T) (hr.mono (show 2<=_ by decide)) rfl T.z53.m T.z53.F.kp T.z53.b .nil AG (AA (vv 1) AB))) AD) AD))),?_⟩;refine⟨i,rfl,hi,?_⟩;have hp:0 < 2 ^ i:=ZBd i;have hle:(2:Nat) ^ i<=2 ^ 64:=Zj (by decide) (by lia);refine⟨An (by lia) (Int.le_trans (Int.ofNat_le.mpr hle) (by decide)),by decide,?_⟩;show Q (.bl (false ^^ (((p:Int) / ((2 ^ i:Nat):Int) % 2) == 1))) H
 have e:(false ^^ (((p:Int) / ((2 ^ i:Nat):Int) % 2) == 1))=(p / 2 ^ i % 2 == 1):=by
  rw[Zs,<- Int.natCast_ediv,ZBB];simp only[beq_iff_eq];lia
 rw[e];exact q
noncomputable def B5(S:Nat):List Nat:=(List.range S).filter S.testBit
theorem mem_memS:k∈B5 S ↔ S.testBit k=true:=by
 unfold B5;rw[Zm,Zn];refine⟨fun h=>h.2,fun h=>⟨?_,h⟩⟩;have h1:=Nat.ge_two_pow_of_testBit h;exact ZS Nat.lt_two_pow_self h1
theorem GP(S:Nat):∀(j n:Nat),S < 2 ^ n->(List.range (n+j)).filter S.testBit=(List.range n).filter S.testBit
 | 0,n,_=>rfl
 | j+1,n,h=>by
  rw[<- Nat.add_assoc,ZBM,ZBp,GP S j n h]
  have:S.testBit (n+j)=false:=Nat.testBit_lt_two_pow (ZS h (Zj (by decide) (by lia)))
  simp[this]
theorem Qy(h:S < 2 ^ n):(List.range n).filter S.testBit=B5 S:=by
 unfold B5
 rcases Nat.le_total n S with z | z
 ·have:=GP S (S - n) n h
  rw[show n+(S - n)=S by lia]at this;exact this.symm
 ·have:=GP S (n - S) S Nat.lt_two_pow_self
  rw[show S+(n - S)=n by lia]at this;exact this
theorem SA(S:Nat):(B5 S).Pairwise (· < ·):=List.Pairwise.filter _ ZBn
theorem P2(S:Nat):S < 2 ^ Builtin.Int.intBits (S:Int):=by
 unfold Builtin.Int.intBits
 by_cases e:S=0
 ·subst e;decide
 ·rw[if_neg (by simpa using e),Int.natAbs_natCast];exact Nat.lt_log2_self
theorem UT(h:S < 2 ^ n):Builtin.Int.intBits (S:Int)<=n:=by
 unfold Builtin.Int.intBits
 by_cases e:S=0
 ·subst e;simp
 ·rw[if_neg (by simpa using e),Int.natAbs_natCast];exact(Nat.log2_lt e).mpr h
noncomputable def Hy(K:W.Frag):Sp:=fun vs H Q _=>match vs with
 | [.int z]=>∃S:Nat,z=S/\S < 2 ^ 60/\∀p H',H p=none->Yc H H'->H' p=some (.tup (iL (B5 S)))->Q (.ref p) H'
 | _=>False
theorem Le:Xa P w base T.z40 4 (Hy K):=by
 refine T.z40.F.ok Qt (fun vs H Q E h=>by unfold Hy at h;walk_at "e") ?_;walk_at "f";unfold Hy at h;walk_at "g"
 rename_i z;obtain⟨S,e1,hS,q⟩:=h;subst e1;have hb:=UT hS;have hb2:=P2 S;refine⟨_,(@AI _ _ _ (@AR _ _ _ _ (Ar (A9 (K:=K)) rfl T.z_tuple (by rfl) (AA (Aq (N':=["member","subset"]) (own:=1) (ix:=[0]) rfl (A3 rfl T.z_range (AA (QI (K:=K) (vv 0)) AB)) (by kernel_rfl) rfl rfl (by kernel_rfl) (fun c=>AT (i:=0) (show(["member","subset"]:List Str).Nodup by decide +kernel) rfl (by right)) (Ah (by decide)) (fun c=>Dt (CY (AJ (@Pk P w K mg base T) (hr.mono (show 3<=_ by decide)) rfl T.z54.m T.z54.F.kp T.z54.b .nil AG (AA (vv 1) (AA (vv 0) AB))))) (fun c=>(vv 0))) AB)))),?_⟩;refine⟨rfl,((Builtin.Int.intBits (S:Int):Nat):Int),rfl,by lia,by lia,?_⟩;rw[Zb];generalize Builtin.Int.intBits (S:Int)=n at *
 refine BU (fun k zs H'=>H'=H/\zs=iL ((List.range k).filter S.testBit)) ⟨rfl,rfl⟩ (fun k zs H' hk ⟨_,e⟩=>by
  have:=ZBq S.testBit (List.range k)
  rw[Z8]at this;rw[e,At];exact Ad (by lia)) ?_ ?_
 ·rintro k zs H' hk ⟨rfl,rfl⟩;have e0:(0:Int)+(k:Int)=((k:Nat):Int):=by lia
  rw[e0];refine⟨S,k,rfl,rfl,by lia,?_⟩;have eb:(S / 2 ^ k % 2 == 1)=S.testBit k:=by rw[Nat.testBit_eq_decide_div_mod_eq];rfl
  rw[eb,ZBM,ZBp];cases e:S.testBit k with
  | true=>exact⟨rfl,by simp[e,Bt];rfl⟩
  | false=>exact⟨rfl,by simp[e]⟩
 ·rintro zs H' ⟨rfl,rfl⟩ l hl;rw[Qy hb2];have s1:Yc H' (upd H' l (.lst (iL (B5 S)))):=Yc.upd hl;refine⟨_,.inl ⟨.of AC,fun t ht=>?_⟩⟩;exact q t _ (s1.free ht) (s1.trans (Yc.upd ht)) AC
noncomputable def Hl(K:W.Frag)(C:Addr):Sp:=fun vs H Q _=>match vs with
 | [.ref p]=>∃ls ys d,RkAt K C ls ys H p d/\Q (.int ((2 ^ ls.length - 1:Nat):Int)) H
 | _=>False
theorem OK:Xb P w mg base T.z15 3 (Hl K T.C_Reckoner):=by
 refine T.z15.F.ok Ox (fun vs H Q E h=>by unfold Hl at h;walk_at "e") ?_;walk_at "f";unfold Hl at h;walk_at "g"
 rename_i p;obtain⟨ls,ys,d,R,q⟩:=h;have l16:=R.l16;obtain⟨dx,tl,yl,al,as,Yg,h1,h2,h3,h4,h5,h6,h7,h8⟩:=id R.at_;refine⟨_,(@AI _ _ _ (@AR _ _ _ _ (AQ Ka (AJ (@HW P w K mg base T) (hr.mono (show 2<=_ by decide)) rfl T.z53.m T.z53.F.kp T.z53.b .nil AG (AA (AX (BA (K:=K)) rfl T.z_len (by rfl) (AA (Ay T.cl_Reckoner T.na_Reckoner_labels (vv 0)) AB)) AB)) AD))),?_⟩;refine⟨dx,_,_,h1,lk1 _ _ _ _,ls.length,.inr ⟨_,h2,by rw[ZC]⟩,ls.length,rfl,by lia,?_⟩
 have e:(((2 ^ ls.length:Nat):Int) - 1)=((2 ^ ls.length - 1:Nat):Int):=by
  have:=ZBd ls.length
  lia
 show Q (.int (((2 ^ ls.length:Nat):Int) - 1)) H;rw[e];exact q
noncomputable def Il(K:W.Frag)(C:Addr):Sp:=fun vs H Q _=>match vs with
 | [.ref p,.int z]=>∃ls ys d S,RkAt K C ls ys H p d/\z=(S:Nat)/\S < 2 ^ ls.length/\S≠0/\∀k H',S.testBit k=true->Yc H H'->Q (.int (AE ls k)) H'
 | _=>False
theorem U7(h:S≠0):∃k,S.testBit k=true/\atI (iL (B5 S)) 0=some (.int (k:Nat)):=by
 obtain⟨i,hi⟩:=Nat.exists_testBit_of_ne_zero h;have hm:=mem_memS.mpr hi;cases e:B5 S with
 | nil=>rw[e]at hm;cases hm
 | cons k r=>exact⟨k,mem_memS.mp (by rw[e];exact Zg ..),Ai (n:=0) rfl rfl⟩
theorem SD:Xb P w mg base T.z16 5 (Il K T.C_Reckoner):=by
 refine T.z16.F.ok QQ (fun vs H Q E h=>by unfold Il at h;walk_at "e") ?_;walk_at "f";unfold Il at h;walk_at "g"
 rename_i p z;obtain⟨ls,ys,d,S,R,e1,hS,h0,q⟩:=h;subst e1;have l16:=R.l16;obtain⟨dx,tl,yl,al,as,Yg,h1,h2,h3,h4,h5,h6,h7,h8⟩:=id R.at_;have hle:2 ^ ls.length<=2 ^ 60:=Zj (by decide) (by lia);obtain⟨k,hk,ha⟩:=U7 h0;refine⟨_,(@AI _ _ _ (@AR _ _ _ _ (Yo (K:=K) (Ay T.cl_Reckoner T.na_Reckoner_labels (vv 0)) (Yo (K:=K) (AJ (@Le P w K mg base T) (hr.mono (show 4<=_ by decide)) rfl T.z40.m T.z40.F.kp T.z40.b .nil AG (AA (vv 1) AB)) AD)))),?_⟩;exact⟨dx,_,_,h1,lk1 _ _ _ _,S,rfl,by lia,fun t H1 ht s1 g1=>⟨_,_,.inr (.of g1),ha,_,_,.inr (s1.sqT h2),Ci (EJ hS hk),q k H1 hk s1⟩⟩
noncomputable def need(ls:List Int)(ys:List Nat)(S:Nat):Nat:=by classical exact if h:∃m,AW (AE ls) (Al ys) S.testBit m then h.choose else 0
theorem EC(h:AW (AE ls) (Al ys) S.testBit m):need ls ys S=m:=by
 have z:∃m,AW (AE ls) (Al ys) S.testBit m:=⟨m,h⟩;unfold need;rw[dif_pos z];exact EU z.choose_spec h
theorem Ml(h:Can (AE ls) (Al ys) n S.testBit):AW (AE ls) (Al ys) S.testBit (need ls ys S):=by
 obtain⟨m,hm⟩:=Md h;rw[EC hm];exact hm
noncomputable def wst(ls:List Int)(ys:List Nat)(S j:Nat):Nat:=max (need ls ys (S &&& ys.getD j 0)) (need ls ys (S - (S &&& ys.getD j 0)))
structure FirstQ(ls:List Int)(ys:List Nat)(S j:Nat):Prop where
 mem:j∈A4 S ys ys.length
 le:∀i∈A4 S ys ys.length,wst ls ys S j<=wst ls ys S i
 lt:∀i∈A4 S ys ys.length,i < j->wst ls ys S j < wst ls ys S i
theorem VM(y:Nat)(h:Can (AE ls) (Al ys) n S.testBit):Can (AE ls) (Al ys) n (S &&& y).testBit/\Can (AE ls) (Al ys) n (S - (S &&& y)).testBit:=by
 rw[Ey,FK];exact⟨Bw (fun k z=>by simp only[ZY]at z;exact z.1) h,Bw (fun k z=>by simp only[ZY]at z;exact z.1) h⟩
theorem VW:Xb P w mg base T.z12 74 (Dm K T.C_Reckoner 17):=Kf T 17 (Gb T 17)
noncomputable def Pn(b:List Stmt):Expr:=match b with
 | [.Return (some (.Call _ _ (k::_) _)) _]=>k.value
 | _=>.Name "" ⟨0,0,0,0⟩
noncomputable def FV(e:Expr):Arguments:=match e with
 | .Lambda p _ _ _=>p
 | _=>{ posonlyargs:=[],args:=[],vararg:=none,kwonlyargs:=[],kw_defaults:=[],kwarg:=none,defaults:=[] }
noncomputable def Ed(e:Expr):Expr:=match e with
 | .Lambda _ b _ _=>b
 | e=>e
noncomputable def DN(e:Expr):Scope:=match e with
 | .Lambda _ _ s _=>s
 | _=>{ kind:=.function,names:=[],isGenerator:=false,isCoroutine:=false }
noncomputable def Bf:Expr:=Pn (BE CP)
noncomputable def Hj(K:W.Frag)(C:Addr)(vA vB v:V)(H:Hp)(Q:VK):Prop:=Dm K C 17 [vB,vA,v] H Q E0
theorem Vf (T:Txt K mg) {Yv ca cb c':Addr} {pm ctv uA uB:Value} {vA vB:V} (hl:base.get? Yv=some (W.kla_obj "<lambda>" CL (FV Bf) (Ed Bf) (DN Bf) [("things",ca),("self",cb)] pm c' ctv)) (hcab:ca≠cb)
 (hca:base.IsCell ca (some uA)) (rA:Yj vA uA) (hcb:base.IsCell cb (some uB)) (rB:Yj vB uB) :
 FnOk P w K mg base CX0 75 Yv (W.kla_fn "<lambda>" CL (FV Bf) (Ed Bf) (DN Bf) [("things",ca),("self",cb)] pm (.ref c') ctv) ["question"] (EE c' CL (Hj K T.C_Reckoner vA vB)):=by
 refine Nc (k:=74) hl hca rA hcb rB (by decide) hcab rfl rfl rfl ?_ rfl rfl rfl ?_ fun A outer s H v Q hr h=>?_
 ·intro y hy;have h:=ZBj.mp (show(DN Bf).names.all (fun p=>p.2 != .free || p.1 == "things" || p.1 == "self")=true by decide +kernel) _ (PySem.mem_of_lookup hy);simpa [or_assoc] using h
 ·decide +kernel
 have hr_z12:=hr;unfold Hj Dm at h;walk_at "g"
 rename_i p z i ee;cases ee;obtain⟨ls,ys,d,S,j,y,R,e1,hS,hc,e2,hj,hp,hk,q⟩:=h;subst e1 e2;obtain⟨dx,tl,yl,al,as,Yg,h1,_⟩:=id R.at_;refine⟨_,(BN (vv 2) T.cl_Reckoner T.z12.m (@VW P w K mg base T) hr_z12 T.z12.b .nil AG (AA (vv 1) (AA (vv 0) AB))),?_⟩;exact⟨p,dx,_,rfl,h1,ln4 _ _ _ _,ls,ys,d,S,j,y,R,rfl,hS,hc,rfl,hj,hp,hk,q⟩
noncomputable def Ih(K:W.Frag)(C Pt:Addr):Sp:=fun vs H Q _=>match vs with
 | [.ref p,.int z]=>∃ls ys d S,RkAt K C ls ys H p d/\z=(S:Nat)/\S < 2 ^ ls.length/\(∃n,Can (AE ls) (Al ys) n S.testBit)/\¬One (AE ls) S.testBit/\Yx Pt IV CL H /\
  ∀(j:Nat) H',FirstQ ls ys S j->RkAt K C ls ys H' p d->FrX [d,Pt] H H'->Yx Pt IV CL H'->Q (.int (j:Nat)) H'
 | _=>False
theorem Ow(B:BMn mg base):Xb P w mg base T.z10 77 (Ih K T.C_Reckoner T.p_z10):=by
 refine T.z10.F.okC T.gc_z10 SY (fun vs H Q E h=>by unfold Ih at h;walk_at "e") (fun A outer s H vs Q E hr h=>?_);have hu:=Aa hr;have hrL:=hr;unfold Ih at h;walk_at "g"
 rename_i p z;obtain⟨ls,ys,d,S,R,e1,hS,⟨n,hc⟩,ho,hL,q⟩:=h;subst e1;obtain⟨dx,tl,yl,al,as,Yg,h1,_⟩:=id R.at_;have l16:=R.l16;let spB:V->V->V->Hp->VK->Prop:=Hj K T.C_Reckoner
 have hFL:∀(base':Heap) (Yv ca cb c':Addr) (pm ctv uA uB:Value) (vA vB:V),(∀b o,base.get? b=some o->base'.get? b=some o)->base'.get? Yv=some (W.kla_obj "<lambda>" CL (FV Bf) (Ed Bf) (DN Bf) [("things",ca),("self",cb)] pm c' ctv)->ca≠cb->base'.IsCell ca (some uA)->Yj vA uA->base'.IsCell cb (some uB)->Yj vB uB ->
  FnOk P w K mg base' CX0 75 Yv (W.kla_fn "<lambda>" CL (FV Bf) (Ed Bf) (DN Bf) [("things",ca),("self",cb)] pm (.ref c') ctv) ["question"] (EE c' CL (spB vA vB)) :=
  fun base' Yv ca cb c' pm ctv uA uB vA vB _ hl hab hca rA hcb rB=>Vf (base:=base') T hl hab hca rA hcb rB
 have hclL:∀ca cb,(PyProof.Rows.envOfC "Reckoner.first_question" (AL CP) s.heap.objs.size T.z10.f (.ref T.g_z10)).cells.lookup (PySem.Str.ofString "things")=some ca->(PyProof.Rows.envOfC "Reckoner.first_question" (AL CP) s.heap.objs.size T.z10.f (.ref T.g_z10)).cells.lookup (PySem.Str.ofString "self")=some cb ->
  closureFor (DN Bf) (PyProof.Rows.envOfC "Reckoner.first_question" (AL CP) s.heap.objs.size T.z10.f (.ref T.g_z10))=pure [((PySem.Str.ofString "things" : Str),ca),((PySem.Str.ofString "self" : Str),cb)]:=fun ca cb h1 h2=>by
  have e1:some (s.heap.objs.size+2)=some ca:=h1;have e2:some (s.heap.objs.size+1)=some cb:=h2;cases e1;cases e2;rfl
 refine⟨_,(@AI _ _ _ (@AR _ _ _ _ (Pz (c:=T.g_z10) (Pt:=T.p_z10) (qual:=CL) (i:=1) (j:=0) (a:="things") (b:="self") (spB:=spB) (BN (vv 0) T.cl_Reckoner T.z19.m (@NJ P w K mg base T) (hr.mono (show 1<=_ by decide)) T.z19.b .nil AG (AA (vv 1) AB)) T.z_min hrL rfl rfl T.gh_z10 B rfl rfl rfl rfl hclL rfl rfl rfl rfl (by decide) (fun _ _ _ _ _ _=>rfl) hFL))),?_⟩;refine⟨p,dx,_,rfl,h1,ln5 _ _ _ _,ls,ys,d,S,R,rfl,fun l H1 nl s1 g1=>?_⟩;have L1:=hL.same s1;have R1:=R.same s1;refine⟨l,_,_,_,rfl,by rw[At];exact Gk ho hc,rfl,rfl,L1,fun c' H2 gr2 L2' hc2=>?_⟩;obtain⟨pz,hP,_⟩:=id L1;have R2:=Tr R1 gr2 hP;have g2:H2 l=_:=gr2 _ _ (fun z=>by rw[z,hP]at g1;cases g1) g1;obtain⟨dx2,tl2,yl2,al2,as2,kvs2,k1,_,_,_,k5,_⟩:=id R2.at_;have hld:l≠d:=AN g2 k5 (by intro z;cases z);have hcd:c'≠d:=AN hc2 k5 (by intro z;cases z);refine⟨fun _ H3=>RkAt K T.C_Reckoner ls ys H3 p d/\Yk d H2 H3,fun n=>(wst ls ys S ((A4 S ys ys.length).getD n 0):Nat),⟨R2,Yk.refl⟩,fun n H3 ⟨_,f3⟩=>⟨.of (f3 _ _ hld g2),f3 _ _ hcd hc2⟩,?_,?_⟩
 ·rintro m v H3 hv ⟨R3,f3⟩;obtain⟨i,hi,him,rfl⟩:=CW hv;obtain⟨y1,y2⟩:=Hx him;have eg:(A4 S ys ys.length).getD m 0=i:=by rw[ZV,hi];rfl
  refine⟨ls,ys,d,S,i,_,R3,rfl,hS,⟨n,hc⟩,rfl,y1,y2,by have:=Iq ls.length S.testBit;lia,fun b e H4 f1 f2 R4 f4=>?_⟩;refine⟨?_,R4,f3.trans f4⟩;dsimp only;rw[eg];unfold wst;rw[EC f1,EC f2]
 ·rintro m v H3 hv hmin ⟨R3,f3⟩;obtain⟨i,hi,him,rfl⟩:=CW hv;have eg:(A4 S ys ys.length).getD m 0=i:=by rw[ZV,hi];rfl
  have fr:FrX [d,T.p_z10] H H3:=(FrX.same s1).trans ((FrX.grow gr2 (by simp)).trans (FrX.frm f3 (by simp)));refine q i H3 ⟨him,fun i' hi'=>?_,fun i' hi' Ym=>?_⟩ R3 fr (Dy L2' f3 k5 (.inr (.inl ⟨_,rfl⟩)))
  ·obtain⟨m',hm',em'⟩:=ZBH hi';have h3:=(hmin m' (by rw[At];exact hm')).1;have eg':(A4 S ys ys.length).getD m' 0=i':=by rw[ZV,ZE hm',em'];rfl
   dsimp only at h3;rw[eg,eg']at h3;lia
  ·obtain⟨m',hm',em'⟩:=ZBH hi';have hmm:=(Zr.mp hi);obtain⟨hm,em⟩:=hmm;have hrise:(A4 S ys ys.length).Pairwise (· < ·):=List.Pairwise.filter _ ZBn
   have hlt':m' < m:=by
    rcases Z2 m' m with z | z | z
    ·exact z
    ·subst z;lia
    ·have:=List.pairwise_iff_getElem.mp hrise m m' hm hm' z
     lia
   have h3:=(hmin m' (by rw[At];exact hm')).2 hlt';have eg':(A4 S ys ys.length).getD m' 0=i':=by rw[ZV,ZE hm',em'];rfl
   dsimp only at h3;rw[eg,eg']at h3;lia
theorem Mv(he:Ax ls rs):∀i j,i < ls.length->j < ls.length->(∀y∈rs.map gB,y i=y j)->AE ls i=AE ls j:=by
 have key:∀i j,i < j->j < ls.length->(∀y∈rs.map gB,y i=y j)->AE ls i=AE ls j:=fun i j hij hj h =>
  Classical.byContradiction fun ne=>he i j ⟨hij,hj,ne,by
   unfold DR;apply ZB3;intro r hr;exact h _ (ZU.mpr ⟨r,hr,rfl⟩)⟩
 intro i j hi hj h
 rcases Z2 i j with z | z | z
 ·exact key i j z hj h
 ·rw[z]
 ·exact(key j i z hi fun y hy=>(h y hy).symm).symm
theorem Ss:Xb P w mg base T.z34 1 (HH T.C_NoEnd "one" "other"):=by
 refine T.z34.F.ok Ov (fun vs H Q E h=>by unfold HH at h;walk_at "e") (fun Yu A outer s H vs Q E hr h=>?_);unfold HH at h;walk_at "g"
 rename_i x y z;obtain⟨g,q⟩:=h;refine⟨_,(@AF _ _ _ _ _ (HA T.xI_NoEnd T.na_NoEnd_one (vv 0) (vv 1)) (@AI _ _ _ (HA T.xI_NoEnd T.na_NoEnd_other (vv 0) (vv 2)))),?_⟩;refine .inl ⟨g,fun d hd=>.inr ⟨d,_,?_,AC,fun e=>?_,(show 1<=1000 by decide),q d hd⟩⟩
 ·rw[AH (fun e=>by rw[<- e,g]at hd;cases hd),AC]
 ·rw[e,g]at hd;cases hd
noncomputable def Fo(i j:Nat):List (Str × V):=Ac "other" (.int (j:Nat)) [("one",.int (i:Nat))]
noncomputable def Ft(K:W.Frag)(C:Addr):Sp:=fun vs H Q E=>match vs with
 | [v]=>∃ls rs,Yh K H (gmD ls rs) v/\Gm ls rs/\(Ax ls rs->∀H',Yc H H'->Q .non H')/\∀i j,CB ls rs i j->∀d H',Yc H H'->H' d=some (XdO d (Fo i j))->E (.ref C) (some d) H'
 | _=>False
theorem Qz:FnOk P w K mg base (CXE P w) 3 T.z18.f T.z18.d ["game"] (Ft K T.C_NoEnd):=by
 refine T.z18.F.okE sc_z18 (fun vs H Q E h=>by unfold Ft at h;walk_at "e") ?_;walk_at "f";have hr_z34:=hr.mono (show 1<=_ by decide);have hr1_z34:=hr.mono (show 1+1<=_ by decide);unfold Ft at h;walk_at "g"
 rename_i v;obtain⟨ls,rs,hv,G,q1,qE⟩:=h;refine⟨_,(@AF _ _ _ _ _ (PS.nox (@AO _ _ 1 _ _ _ _ sc_z18.nd rfl (by right) (AJ (@PC P w K mg base T) (hr.mono (show 1<=_ by decide)) rfl T.z25.m T.z25.F.kp T.z25.b .nil AG (AA (vv 0) AB)) (by rfl) (by symm))) (@AI _ _ _ (@Aw _ _ _ _ _ _ _ _ (PT.nox (Ak Mo (vv 1) B7)) (@AI _ _ _ (MH (W:=fun _ od H=>E (.ref T.C_NoEnd) od H) T.xI_NoEnd (@Ss P w K mg base T) hr1_z34 T.z34.b (fun _ _ _ _ _ _ I e h0 q=>Jy I e h0 q) rfl rfl rfl T.mC_NoEnd (AA (Yo (K:=K) (vv 1) AD) (AA (Yo (K:=K) (vv 1) AD) AB)))) Av))),?_⟩;refine⟨ls,rs,hv,G,fun H1 s1 he=>q1 he H1 s1,fun i j t H1 hf _ s1 gt=>?_⟩;refine⟨_,_,.inr (.of gt),Ai (n:=0) rfl rfl,_,_,.inr (.of gt),Ai (n:=1) rfl rfl,(show 2<=1000 by decide),fun x0 hx0=>⟨AC,fun d hd=>?_⟩⟩;have n0:d≠x0:=fun z=>by rw[z,AC]at hd;cases hd
 rw[AH n0]at hd;refine⟨rfl,some d,by rw[AH (Ne.symm n0),AH (Ne.symm n0),AC],?_⟩;refine qE i j hf d _ (fun c u hc=>?_) ?_
 ·have hc2:=s1 _ _ hc;have n1:c≠x0:=fun z=>by rw[z,hx0]at hc2;cases hc2
  have n2:c≠d:=fun z=>by rw[z,hd]at hc2;cases hc2
  rw[DL n1,AH n2,AH n2,AH n1,AH n1];exact hc2
 ·rw[DL n0];exact AC
theorem Kp(he:Ax ls rs):∀X,X < 2 ^ ls.length->Can (AE ls) (Al (rs.map AV)) ls.length X.testBit:=fun X hX=>by
 rw[J3];exact Kz (Mv he) _ _ (fun k hk=>EJ hX hk) (by have:=Iq ls.length X.testBit;lia)
noncomputable abbrev BG(Pt:Addr)(H:Hp):Prop:=Yx Pt IV CL H
theorem mem_lefts{rb:List Bool}{ans:Bool}:k∈AM rb ans ts ↔ k∈ts/\gB rb k=ans:=by unfold AM;rw[Zm,beq_iff_eq]
theorem Ga(rb:List Bool)(ts:List Nat):(fun k=>decide (k∈AM rb true ts))=fun k=>decide (k∈ts) && gB rb k:=by
 funext k
 rw[ZBB,decide_eq_true_eq,mem_lefts,ZY,decide_eq_true_eq]
theorem JR(rb:List Bool)(ts:List Nat):(fun k=>decide (k∈AM rb false ts))=fun k=>decide (k∈ts) && !gB rb k:=by
 funext k
 rw[ZBB,decide_eq_true_eq,mem_lefts,ZY,decide_eq_true_eq,Bool.not_eq_true']
theorem ED{rb:List Bool}{ans:Bool}(h:ts.Pairwise (· < ·)):(AM rb ans ts).Pairwise (· < ·):=h.filter _
theorem U2:Au N (fun k=>decide (k∈ts))<=ts.length:=by
 unfold Au;refine JT (List.nodup_range.filter _) fun z hz=>?_
 exact ZZ (Zm.mp hz).2
theorem K5(he:Ax ls rs)(Ym:∀t∈ts,t < ls.length):Can (AE ls) (rs.map gB) (ts.length - 1) (fun k=>decide (k∈ts)):=by
 refine Kz (Mv he) _ _ (fun k hk=>Ym k (ZZ hk)) ?_
 have:=U2 (N:=ls.length) (ts:=ts)
 lia
theorem Mc(he:Ax ls rs)(Ym:∀t∈ts,t < ls.length)(h:AW (AE ls) (rs.map gB) (fun k=>decide (k∈ts)) m):m<=ts.length - 1:=h.2 _ (K5 he Ym)
theorem Pm{ds:List Int}(nd:ds.Nodup)(hm:∀k,k∈ds ↔ k∈ts.map (AE ls)):ds.length < 2 ↔ One (AE ls) (fun k=>decide (k∈ts)):=by
 constructor
 ·intro h i j hi hj;have a1:=(hm _).mpr (ZU.mpr ⟨i,ZZ hi,rfl⟩);have a2:=(hm _).mpr (ZU.mpr ⟨j,ZZ hj,rfl⟩)
  match ds,h with
  | [],_=>simp at a1
  | [x],_=>rw[ZF.mp a1,ZF.mp a2]
  | x::y::r,h=>simp at h;lia
 ·intro o
  have:=Pw (Y:=[]) (n:=0) ds o nd fun d hd=>by
   obtain⟨k,hk,e⟩:=ZU.mp ((hm d).mp hd);exact⟨k,ZT hk,e⟩
  simp at this;lia
theorem HE:∀(l m:List Nat),l.Pairwise (· < ·)->m.Pairwise (· < ·)->(∀k,k∈l ↔ k∈m)->l=m
 | [],[],_,_,_=>rfl
 | [],b::m,_,_,h=>absurd ((h b).mpr (by simp)) (by simp)
 | a::l,[],_,_,h=>absurd ((h a).mp (by simp)) (by simp)
 | a::l,b::m,h1,h2,h=>by
  obtain⟨p1,p2⟩:=ZB1.mp h1;obtain⟨q1,q2⟩:=ZB1.mp h2
  have e:a=b:=by
   rcases ZI.mp ((h a).mp (by simp)) with x | x
   ·exact x
   ·rcases ZI.mp ((h b).mpr (by simp)) with y | y
    ·exact y.symm
    ·have:=q1 a x
     have:=p1 b y
     lia
  subst e;rw[HE l m p2 q2 fun k=>?_];constructor
  ·intro hk
   rcases ZI.mp ((h k).mp (ZW _ hk)) with x | x
   ·have:=p1 k hk;lia
   ·exact x
  ·intro hk
   rcases ZI.mp ((h k).mpr (ZW _ hk)) with x | x
   ·have:=q1 k hk;lia
   ·exact x
noncomputable def BM(ts:List Nat):List Key:=ts.map fun t=>Sum.inl ((t:Nat):Int)
theorem IW(ts:List Nat):(BM ts).map kV=iL ts:=by unfold BM iL;rw[Z3];rfl
structure NMemo(ls:List Int)(rs:List (List Bool))(Yg:List (List Key × V)):Prop where
 nd:(Yg.map (·.1)).Nodup
 ok:∀e∈Yg,∃(ts:List Nat) (m:Nat),e=(BM ts,V.int (m:Int))/\ts.Pairwise (· < ·)/\(∀t∈ts,t < ls.length)/\AW (AE ls) (rs.map gB) (fun k=>decide (k∈ts)) m
theorem Ry{k:List Key}(h:valV Yg k=some v):(k,v)∈Yg:=by
 unfold valV at h;cases e:Yg.find? fun kv=>decide (kv.1=k) with
 | none=>rw[e]at h;cases h
 | some x =>
  rw[e]at h;have h1:=List.find?_some e;have h2:=List.mem_of_find?_eq_some e;cases h
  have:x.1=k:=ZZ h1
  rw[<- this];exact h2
theorem Pc{us:List Nat}(h:BM ts=BM us):ts=us:=by
 have:=congrArg (List.map fun k:Key=>match k with | Sum.inl z=>z.toNat | Sum.inr _=>0) h
 unfold BM at this;rw[Z3,Z3]at this;have e:((fun k:Key=>match k with | Sum.inl z=>z.toNat | Sum.inr _=>0) ∘ fun t:Nat=>(Sum.inl ((t:Nat):Int):Key))=id:=by funext t;exact Zb t
 rw[e,List.map_id,List.map_id]at this;exact this
theorem NMemo.get(h:NMemo ls rs Yg)(e:valV Yg (BM ts)=some v):∃m:Nat,v=.int m/\AW (AE ls) (rs.map gB) (fun k=>decide (k∈ts)) m:=by
 obtain⟨us,m,ee,_,_,hf⟩:=h.ok _ (Ry e);have e1:BM ts=BM us:=congrArg Prod.fst ee;have e2:v=V.int m:=congrArg Prod.snd ee
 have:=Pc e1
 subst this;exact⟨m,e2,hf⟩
theorem NMemo.put(h:NMemo ls rs Yg)(h1:ts.Pairwise (· < ·))(h2:∀t∈ts,t < ls.length)(hf:AW (AE ls) (rs.map gB) (fun k=>decide (k∈ts)) m):NMemo ls rs (BF Yg (BM ts) (V.int m)):=by
 unfold BF;split
 ·refine⟨?_,?_⟩
  ·have e:(Yg.map (fun kv=>if kv.1=BM ts then (kv.1,V.int m) else kv)).map (·.1)=Yg.map (·.1):=by
    rw[Z3];apply ZB3;intro a _;simp only[Function.comp];split <;> rfl
   rw[e];exact h.nd
  ·intro e he;obtain⟨a,ha,rfl⟩:=ZU.mp he;split
   ·rename_i q;exact⟨ts,m,by rw[q],h1,h2,hf⟩
   ·exact h.ok a ha
 ·rename_i z;refine⟨?_,?_⟩
  ·rw[ZN,List.nodup_append];refine⟨h.nd,by simp,?_⟩;intro a ha b hb q;have hb':b=BM ts:=by simpa using hb
   obtain⟨x,hx,rfl⟩:=ZU.mp ha;exact z (ZBm.mpr ⟨x,hx,ZT (q.trans hb')⟩)
  ·intro e he
   rcases Zh.mp he with q | q
   ·exact h.ok e q
   ·rw[ZF]at q;exact⟨ts,m,q,h1,h2,hf⟩
noncomputable def Gs(k:List Key):Nat:=msk (k.map fun x=>match x with | Sum.inl z=>z.toNat | Sum.inr _=>0)
theorem II(ts:List Nat):Gs (BM ts)=msk ts:=by
 unfold Gs BM;rw[Z3];have e:((fun k:Key=>match k with | Sum.inl z=>z.toNat | Sum.inr _=>0) ∘ fun t:Nat=>(Sum.inl ((t:Nat):Int):Key))=id:=by funext t;exact Zb t
 rw[e,List.map_id]
theorem NMemo.len(h:NMemo ls rs Yg)(h16:ls.length<=16):Yg.length < 2 ^ 24:=by
 have hl:Yg.length<=2 ^ ls.length:=by
  have e:(Yg.map fun e=>Gs e.1).length=Yg.length:=ZC ..;rw[<- e];apply Ex
  ·refine ZBv.mpr ?_;have nd:=ZBv.mp h.nd;refine List.Pairwise.imp_of_mem ?_ nd;intro a b ha hb ne q;obtain⟨ts,m,ea,r1,b1,_⟩:=h.ok a ha;obtain⟨us,m',eb,r2,b2,_⟩:=h.ok b hb;subst ea eb;apply ne;rw[II,II]at q;have x1:=(Bo r1 b1).2;have x2:=(Bo r2 b2).2
   have:ts=us:=HE ts us r1 r2 fun k=>by
    have:=x1 k
    rw[q,x2 k]at this;exact⟨fun z=>ZZ (this.trans (ZT z)),fun z=>ZZ (this.symm.trans (ZT z))⟩
   rw[this]
  ·intro x hx;obtain⟨a,ha,rfl⟩:=ZU.mp hx;obtain⟨ts,m,ea,r1,b1,_⟩:=h.ok a ha;subst ea;rw[II];exact(Bo r1 b1).1
 have:2 ^ ls.length<=2 ^ 16:=Zj (by decide) h16
 lia
theorem QR {L:Nat->Int} {Y:List (Nat->Bool)} {S:Nat->Bool} {F least:Nat} (ho:¬One L S) (hF:AW L Y S F) (h1:F<=least)
 (h2:∀y∈Y,A0 S y->∃b c,AW L Y (fun k=>S k && y k) b/\AW L Y (fun k=>S k && !y k) c/\least<=1+max b c):AW L Y S least:=by
 have:least=F:=by
  obtain⟨hc,hmin⟩:=hF;cases F with
  | zero=>exact absurd hc ho
  | succ n =>
   rcases hc with o | ⟨y,hy,p,q⟩
   ·exact absurd o ho
   ·by_cases h:A0 S y
    ·obtain⟨b,c,hb,hc',hle⟩:=h2 y hy h
     have:=hb.2 _ p
     have:=hc'.2 _ q
     lia
    ·rcases not_parts h with z | z
     ·have:=hmin n (Bw z p);lia
     ·have:=hmin n (Bw z q);lia
 rw[this];exact hF
theorem MF:∀{rs:List (List Bool)} {ps:List Addr},ps.length=rs.length->(∀(i:Nat) (q:Addr) (r:List Bool),ps[i]? = some q->rs[i]? = some r->Yq K H q (r.map V.bl))->Yd K H (Ae rs) (ps.map V.ref)
 | [],[],_,_=>AU
 | [],_::_,h,_=>by simp at h
 | _::_,[],h,_=>by simp at h
 | r::rs,q::ps,h,hr=>AS (Bv (hr 0 q r rfl rfl) (Bp r)) (MF (by simpa using h) fun i q' r' a b=>hr (i+1) q' r' a b)
theorem E2{rl:Addr}(g:GmAt K H ls rs a tl rl ps):Yh K H (gmD ls rs) (.ref a) :=
 Bv g.two (AS (Bv g.lab (Eb ls)) (AS (Bv g.rows (MF g.len g.row)) AU))
noncomputable def Cq(K:W.Frag):Sp:=fun vs H Q _=>match vs with
 | [v,.ref p,.int z]=>∃ls rs ts j r,Yh K H (gmD ls rs) v/\Gm ls rs/\Yq K H p (iL ts)/\ts.length<=100/\(∀t∈ts,t < ls.length)/\z=(j:Nat)/\rs[j]? = some r/\∀l pn py H',H l=none->Yc H H'->H' l=some (.lst [.ref pn,.ref py])->H' pn=some (.tup (iL (AM r false ts)))->H' py=some (.tup (iL (AM r true ts)))->Q (.ref l) H'
 | _=>False
theorem JQ:AZ (Cq K):=fun vs H Q Q' E h q=>by
 unfold Cq at *;walk_at "q"
theorem IH:Xa P w base T.z42 1 (Cq K):=by
 refine T.z42.F.ok sc_z42 (fun vs H Q E h=>by unfold Cq at h;walk_at "e") ?_;walk_at "f";unfold Cq at h;walk_at "g"
 rename_i v p z;obtain⟨ls,rs,ts,j,r,hv,G,hp,hl,Ym,e1,hj,q⟩:=h;subst e1;obtain⟨a,tl,rl,ps,rfl,g⟩:=CI hv;have hj':j < rs.length:=(Zr.mp hj).1;obtain⟨b,hb⟩:∃b,ps[j]? = some b:=⟨_,ZE (by rw[g.len];exact hj')⟩;have hrow:=g.row j b r hb hj;have hrl:r.length=ls.length:=G.row r (Zz hj);refine⟨_,(@AF _ _ _ _ _ (@AO _ _ 3 _ _ _ _ sc_z42.nd rfl (by right) (Yo (K:=K) (Yo (K:=K) (vv 0) AD) (vv 2)) (by rfl) (by symm)) (@AI _ _ _ (@AR _ _ _ _ (@Aq _ _ _ _ _ _ _ (["_law_answer","_law_things","_law_row"]) 1 ([1,3]) _ _ _ _ rfl (BB (K:=K) (A2 (AA Bs (AA Bs AB)))) (by kernel_rfl) rfl rfl (by kernel_rfl) (fun c=>AT (i:=0) (show(["_law_answer","_law_things","_law_row"]:List Str).Nodup by decide +kernel) rfl (by right)) (Ah (by decide)) (fun c=>Ap) (fun c=>(Ar (A9 (K:=K)) rfl T.z_tuple (by rfl) (AA (Aq (N':=["_law_k","_law_row","_law_answer"]) (own:=1) (ix:=[2,0]) rfl (BB (K:=K) (vv 1)) (by kernel_rfl) rfl rfl (by kernel_rfl) (fun c=>AT (i:=0) (show(["_law_k","_law_row","_law_answer"]:List Str).Nodup by decide +kernel) rfl (by right)) (Ah (by decide)) (fun c=>Dt (Ak (kEq (K:=K) hu) (Yo (K:=K) (vv 1) (vv 0)) (vv 2))) (fun c=>(vv 0))) AB))) (by intro _;rfl))))),?_⟩;refine⟨_,.ref rl,.inr g.two,rfl,_,.ref b,.inr g.rows,Ai rfl (by rw[ZR,hb];rfl),?_⟩;dsimp only[Af];refine⟨smq rfl,fun t ht=>.inr ⟨⟨_,.of AC⟩,?_⟩⟩;have s1:Yc H (upd H t (.tup [.bl false,.bl true])):=Yc.upd ht;have gt1:upd H t (.tup [.bl false,.bl true]) t=some (.tup [.bl false,.bl true]):=AC;generalize upd H t (.tup [.bl false,.bl true])=H1 at *
 refine Cg (xs:=[.bl false,.bl true]) (fun k zs H'=>Yc H1 H'/\∃qs:List Addr,zs=qs.map V.ref/\qs.length=k/\∀(i:Nat) (c:Addr),qs[i]? = some c->H' c=some (.tup (iL (AM r (i == 1) ts)))) ⟨Yc.refl _,[],rfl,rfl,fun i c hc=>by simp at hc⟩ (fun k zs H' _ ⟨s,_⟩=>s.sqT (.of gt1)) (fun k zs H' hk ⟨_,qs,e,hq,_⟩=>by
  rw[e,ZC,hq];exact Ad (by simp at hk;lia)) ?_ ?_
 ·rintro k x zs H2 hx ⟨s2,qs,rfl,hq,hall⟩
  obtain⟨ans,rfl,ea⟩:∃ans:Bool,x=.bl ans/\ans=(k == 1):=by
   match k,hx with
   | 0,hx=>cases hx;exact⟨false,rfl,rfl⟩
   | 1,hx=>cases hx;exact⟨true,rfl,rfl⟩
   | k+2,hx=>simp at hx
  have S2:=s1.trans s2;refine .inr ⟨⟨_,S2.sqT hp⟩,?_⟩
  refine Cg (xs:=iL ts) (fun k ys H'=>H'=H2/\ys=iL (AM r ans (ts.take k))) ⟨rfl,rfl⟩ (fun k ys H' _ ⟨e,_⟩=>by rw[e];exact S2.sqT hp) (fun k ys H' hk ⟨_,e⟩=>by
   have:=UY r ans (ts.take k)
   rw[Zf]at this;rw[e,At];exact Ad (by lia)) ?_ ?_
  ·rintro k' x ys H' hx ⟨rfl,rfl⟩;obtain⟨t,ht,hmem,rfl⟩:=CW hx;refine⟨_,.bl (gB r t),.inr (S2.sqT hrow),HZ (by rw[hrl];exact Ym t hmem),?_⟩;rw[RJ ht,Bt];refine Ao (fun e=>?_) (fun e=>?_)
   ·have e':(gB r t == ans)=true:=by rw[<- Zs (gB r t == ans)];exact e
    rw[if_pos e'];exact⟨rfl,rfl⟩
   ·have e':¬(gB r t == ans)=true:=by rw[<- Zs (gB r t == ans)];exact e
    rw[if_neg e'];exact⟨rfl,by show _=_++[];rw[Zy]⟩
  ·rintro ys H' ⟨rfl,rfl⟩ l hl2;rw[ZBV (by rw[At];exact ZD _)];refine⟨_,.inl ⟨.of AC,fun c hc=>?_⟩⟩;have s3:=(Yc.upd (o:=.lst (iL (AM r ans ts))) hl2).trans (Yc.upd (o:=.tup (iL (AM r ans ts))) hc);refine⟨s2.trans s3,qs++[c],by rw[ZN];rfl,by rw[ZL,hq];rfl,fun i d hd=>?_⟩
   rcases Z2 i qs.length with z | z | z
   ·rw[ZBK z]at hd;exact s3 _ _ (hall i d hd)
   ·subst z;rw[ZBD (ZD _),Nat.sub_self]at hd;cases hd;rw[hq,<- ea];exact AC
   ·rw[ZBD (Zq z),ZBZ (by simp;lia)]at hd;cases hd
 ·rintro zs H' ⟨s2,qs,rfl,hq,hall⟩ l hl'
  match qs,hq,hall with
  | [b0,b1],_,hall =>
  have s3:Yc H' (upd H' l (.lst ([b0,b1].map V.ref))):=Yc.upd hl';exact q l b0 b1 _ ((s1.trans s2).free hl') (s1.trans (s2.trans s3)) AC (s3 _ _ (hall 0 b0 rfl)) (s3 _ _ (hall 1 b1 rfl))
noncomputable def Bi(K:W.Frag)(c:Nat):Sp:=fun vs H Q _=>match vs with
 | [v,.ref p,.ref d]=>∃ls rs ts Yg,Yh K H (gmD ls rs) v/\Gm ls rs/\Ax ls rs/\H p=some (.tup (iL ts))/\ts.Pairwise (· < ·)/\(∀t∈ts,t < ls.length)/\ts.length < c/\H d=some (.dT Yg)/\NMemo ls rs Yg/\∀(m:Nat) (kvs':List (List Key × V)) H',AW (AE ls) (rs.map gB) (fun k=>decide (k∈ts)) m->Yk d H H'->H' d=some (.dT kvs')->NMemo ls rs kvs'->Q (.int (m:Nat)) H'
 | _=>False
theorem Er{c:Nat}:AZ (Bi K c):=fun vs H Q Q' E h q=>by
 unfold Bi at *;walk_at "q"
theorem B0:Be (.dT Yg):=⟨(fun _ z=>nomatch z),(fun _ _ z=>nomatch z)⟩
theorem FQ(ts:List Nat):eqD (.tup (iD ts)) (.tup [])=decide (ts=[]):=by
 rw[Lw];cases ts with
 | nil=>rfl
 | cons t ts=>rfl
theorem Cr:∀ts:List Nat,Yd K H (iD ts) (iL ts)
 | []=>AU
 | t::ts=>AS (by unfold Yh;rfl) (Cr ts)
theorem EO:∀ts:List Nat,BJ (iD ts)=0
 | []=>by simp[iD,BJ]
 | t::ts=>by
  show BJ (Dv.int (t:Nat)::iD ts)=_;unfold BJ;rw[EO ts];rfl
theorem parts_lefts:A0 (fun k=>decide (k∈ts)) (gB r) ↔ AM r true ts≠[]/\AM r false ts≠[]:=by
 have key:∀ans,AM r ans ts≠[] ↔ ∃k,k∈ts/\gB r k=ans:=fun ans=>by
  constructor
  ·intro h;obtain⟨x,hx⟩:=List.exists_mem_of_ne_nil _ h;exact⟨x,mem_lefts.mp hx⟩
  ·rintro⟨k,hk⟩ e
   have:=mem_lefts.mpr hk
   rw[e]at this;simp at this
 unfold A0;rw[key true,key false];simp only[decide_eq_true_eq]
theorem L7(h:A0 (fun k=>decide (k∈ts)) (gB r))(ans:Bool):(AM r ans ts).length < ts.length:=by
 obtain⟨⟨i,hi,yi⟩,j,hj,yj⟩:=h;have hi:=ZZ hi;have hj:=ZZ hj
 have key:∀(k:Nat) (b:Bool),k∈ts->gB r k=b->(AM r (!b) ts).length < ts.length:=fun k b hk hb=>by
  unfold AM;refine Nat.lt_of_le_of_ne (ZBq _ _) fun e=>?_
  have:=List.length_filter_eq_length_iff.mp e k hk
  rw[hb]at this;cases b <;> simp at this
 cases ans with
 | true=>exact key j false hj yj
 | false=>exact key i true hi yi
structure Least(ls:List Int)(rs:List (List Bool))(ts:List Nat)(k least:Nat):Prop where
 lo:∀F,AW (AE ls) (rs.map gB) (fun k=>decide (k∈ts)) F->F<=least
 hi:∀(i:Nat) (r:List Bool),i < k->rs[i]? = some r->A0 (fun k=>decide (k∈ts)) (gB r)->∃b c,AW (AE ls) (rs.map gB) (fun k=>decide (k∈AM r true ts)) b/\AW (AE ls) (rs.map gB) (fun k=>decide (k∈AM r false ts)) c/\least<=1+max b c
theorem PH(c:Nat)(G_z48:Xa P w base T.z48 (c+2) (Bi K c)) :
 Xa P w base T.z48 (c+3) (Bi K (c+1)):=by
 refine T.z48.F.ok sc_z48 (fun vs H Q E h=>by unfold Bi at h;walk_at "e") ?_;walk_at "f";have hr_z48:=hr;have hr_z42:=hr.mono (show 1<=c+2 by lia);unfold Bi at h;walk_at "g"
 rename_i v p d;obtain⟨ls,rs,ts,Yg,hv,G,he,hp,hrise,Ym,hc,hd,M,q⟩:=h;obtain⟨a,tl,rl,ps,rfl,g⟩:=CI hv;have l16:=G.l16;have r16:=G.r16;have tl16:=E4 hrise Ym;have npd:p≠d:=AN hp hd (by intro z;cases z);have mo1:AZ (Bi K c):=Er;have mo2:AZ (Cq K):=JQ;obtain⟨F,hF⟩:=Md (K5 he Ym);refine⟨_,(@AF _ _ _ _ _ (@Aw _ _ _ _ _ _ _ _ (Ak C3 (AX Rh rfl T.z_len (by rfl) (AA (Ar (TW (K:=K) rfl) rfl T.z_set (by rfl) (AA (Aq (N':=["_law_k","_law_game_here"]) (own:=1) (ix:=[0]) rfl (BB (K:=K) (vv 1)) (by kernel_rfl) rfl rfl (by kernel_rfl) (fun c=>AT (i:=0) (show(["_law_k","_law_game_here"]:List Str).Nodup by decide +kernel) rfl (by right)) (Ah (by decide)) (fun c=>Ap) (fun c=>(Yo (K:=K) (Yo (K:=K) (vv 1) AD) (vv 0)))) AB)) AB)) AD) (@AI _ _ _ (@AR _ _ _ _ AD)) Av) (@AF _ _ _ _ _ (@Aw _ _ _ _ _ _ _ _ (Ak (MP hu) (vv 1) (vv 2)) (@AF _ _ _ _ _ (@AO _ _ 3 _ _ _ _ sc_z48.nd rfl (by right) (AX (BA (K:=K)) rfl T.z_len (by rfl) (AA (vv 1) AB)) (by rfl) (by symm)) (@AF _ _ _ _ _ (@Bq _ _ _ _ _ _ _ _ PassesOwn.never rfl (A3 rfl T.z_range (AA (AX (BA (K:=K)) rfl T.z_len (by rfl) (AA (Yo (K:=K) (vv 0) AD) AB)) AB)) (AT (i:=4) sc_z48.nd rfl (by right)) (@AF _ _ _ _ _ (@AO _ _ 5 _ _ _ _ sc_z48.nd rfl (by right) (AJ (@IH P w K mg base T) hr_z42 rfl T.z42.m T.z42.F.kp T.z42.b .nil AG (AA (vv 0) (AA (vv 1) (AA (vv 4) AB)))) (by rfl) (by symm)) (@AI _ _ _ (@Aw _ _ _ _ _ _ _ _ (Ak (M0 (K:=K) hu) (A2 AB) (vv 5)) (@AI _ _ _ (@AO _ _ 3 _ _ _ _ sc_z48.nd rfl (by right) (AX (Nj rfl) rfl T.z_min (by rfl) (AA (vv 3) (AA (AQ (A8 (K:=K)) AD (AX (KM (K:=K) rfl) rfl T.z_max (by rfl) (AA (Aq (N':=["_law_side","_law_game_here","_law_known"]) (own:=1) (ix:=[0,2]) rfl (BB (K:=K) (vv 5)) (by kernel_rfl) rfl rfl (by kernel_rfl) (fun c=>AT (i:=0) (show(["_law_side","_law_game_here","_law_known"]:List Str).Nodup by decide +kernel) rfl (by right)) (Ah (by decide)) (fun c=>Ap) (fun c=>(AJ G_z48 hr_z48 rfl T.z48.m T.z48.F.kp T.z48.b .nil AG (AA (vv 1) (AA (vv 0) (AA (vv 2) AB)))))) AB))) AB))) (by rfl) (by symm))) Av))) (by intro _;rfl)) (@AI _ _ _ (@Jg _ _ _ _ _ _ _ _ _ (EM hu) (vv 2) (vv 1) (vv 3) (by rfl))))) Av) (@AI _ _ _ (@AR _ _ _ _ (Jx (EM hu) (vv 2) (vv 1) (by intro _ _;rfl)))))),?_⟩;refine Ag (fun σ H'=>σ=[some (.ref a),some (.ref p),some (.ref d),none,none,none]/\Yc H H'/\¬One (AE ls) (fun k=>decide (k∈ts))) ?_ ?_ (by walk_at "sm")
 ·refine .inr ⟨⟨_,.of hp⟩,?_⟩
  refine Cg (xs:=iL ts) (fun k zs H'=>H'=H/\zs=((ts.take k).map (AE ls)).map V.int) ⟨rfl,rfl⟩ (fun k zs H' _ ⟨e,_⟩=>by rw[e];exact .of hp) (fun k zs H' hk ⟨_,e⟩=>by
   rw[At]at hk;rw[e,ZC,ZC,Zf];exact Ad (by lia)) ?_ ?_
  ·rintro k x zs H' hx ⟨rfl,rfl⟩;obtain⟨t,ht,hmem,rfl⟩:=CW hx;refine⟨_,.ref tl,.inr g.two,rfl,_,.int (AE ls t),.inr g.lab,Ci (Ym t hmem),rfl,?_⟩;rw[ZBC,ht,ZN,ZN];rfl
  ·rintro zs H' ⟨rfl,rfl⟩ l hl';rw[At,ZBY];refine⟨_,.of AC,by rw[ZC];lia,fun ds qs nd hmem hqs=>?_⟩;have S:=(Yc.upd (o:=.lst ((ts.map (AE ls)).map V.int)) hl').trans (Yc.upd (o:=D3 ds) hqs);have o1:=Pm (ls:=ls) nd hmem;refine⟨ds,AC,?_⟩;refine Ao (fun e=>?_) (fun e=>⟨rfl,S,fun o=>e (ZT (by have:=o1.mpr o;lia))⟩);have e:((ds.length:Nat):Int) < 2:=ZZ e;exact q 0 Yg _ ⟨o1.mp (by lia),fun _ _=>ZP _⟩ (A5 S) (S _ _ hd) M
 rintro σ H1 ⟨rfl,s1,ho⟩;have hd1:=s1 _ _ hd;have hp1:=s1 _ _ hp;refine Ag (fun σ H'=>(∃x y z,σ=[some (.ref a),some (.ref p),some (.ref d),x,y,z])/\Yk d H1 H'/\∃(kvs':List (List Key × V)) (m:Nat),H' d=some (.dT kvs')/\NMemo ls rs kvs'/\valV kvs' (BM ts)=some (.int (m:Nat))/\AW (AE ls) (rs.map gB) (fun k=>decide (k∈ts)) m) ?_ ?_ (by walk_at "sm");rotate_left
 ·rintro σ H2 ⟨⟨x,y,z,rfl⟩,f2,kvs',m,hd2,M2,hv2,hm⟩;refine⟨d,.int (m:Nat),rfl,?_,q m kvs' H2 hm ((A5 s1).trans f2) hd2 M2⟩;rw[<- hv2];exact DGet.t hd2 (by rw[IW];exact f2 _ _ npd hp1)
 refine⟨valV Yg (BM ts),DGet.t hd1 (by rw[IW];exact hp1),?_⟩;cases e:valV Yg (BM ts) with
 | some v0 =>
  obtain⟨m,rfl,hm⟩:=M.get e;exact⟨⟨_,_,_,rfl⟩,Yk.refl,Yg,m,hd1,M,e,hm⟩
 | none =>
  refine⟨ts.length,.inr ⟨_,.of hp1,by rw[At]⟩,?_⟩;dsimp only[Af];refine Ag (fun σ H'=>∃(y z:Option V) (least:Nat),σ=[some (.ref a),some (.ref p),some (.ref d),some (.int (least:Nat)),y,z]/\Yk d H1 H'/\(∃kvs',H' d=some (.dT kvs')/\NMemo ls rs kvs')/\Least ls rs ts rs.length least) ?_ ?_ (by walk_at "sm");rotate_left
  ·rintro σ H2 ⟨y,z,least,rfl,f2,⟨kvs',hd2,M2⟩,hL⟩
   have hm:AW (AE ls) (rs.map gB) (fun k=>decide (k∈ts)) least:=QR ho hF (hL.lo F hF) fun y hy hpt=>by
    obtain⟨r,hr',rfl⟩:=ZU.mp hy;obtain⟨i,hi,ei⟩:=ZBH hr';obtain⟨b,c',h1,h2,h3⟩:=hL.hi i r hi (by rw[ZE hi,ei]) hpt;rw[Ga]at h1;rw[JR]at h2;exact⟨b,c',h1,h2,h3⟩
   refine⟨d,_,rfl,DPut.t hd2 (show H2 p=some (.tup ((BM ts).map kV)) by rw[IW];exact f2 _ _ npd hp1) (M2.len l16),?_⟩;exact⟨⟨_,_,_,rfl⟩,f2.trans Yk.updT,_,least,AC,M2.put hrise Ym hm,by rw[Kr,if_pos rfl],hm⟩
  have g1:=g.same s1;refine⟨_,.ref rl,.inr g1.two,rfl,rs.length,.inr ⟨_,g1.rows,by rw[ZC,g1.len]⟩,(rs.length:Int),rfl,by lia,by lia,?_⟩;rw[Zb];refine CK (fun k σ H'=>∃(y z:Option V) (least:Nat),σ=[some (.ref a),some (.ref p),some (.ref d),some (.int (least:Nat)),y,z]/\Yk d H1 H'/\(∃kvs',H' d=some (.dT kvs')/\NMemo ls rs kvs')/\Least ls rs ts k least) ⟨none,none,ts.length,rfl,Yk.refl,⟨Yg,hd1,M⟩,fun F' hF'=>by have:=Mc he Ym hF';lia,fun i r hi=>absurd hi (ZBh _)⟩ ?_ (fun σ H' h=>h);rintro i σ H2 hi ⟨y,z,least,rfl,f2,⟨kvs2,hd2,M2⟩,hL⟩;have ez:(0:Int)+(i:Int)=((i:Nat):Int):=by lia
  rw[ez];have er:rs[i]? = some rs[i]:=ZE hi;have g2:=g1.frm f2 hd1 B0;have hp2:=f2 _ _ npd hp1
  have stay:(¬A0 (fun k=>decide (k∈ts)) (gB rs[i]))->Least ls rs ts (i+1) least:=fun hn=>⟨hL.lo,fun i' r' hi' er' hpt=>by
   rcases Z1 i' i with w | w
   ·exact hL.hi i' r' w er' hpt
   ·have:i'=i:=by lia
    subst this;rw[er]at er';cases er';exact absurd hpt hn⟩
  refine⟨ls,rs,ts,i,rs[i],E2 g2,G,.of hp2,by lia,Ym,rfl,er,fun l pn py H3 hl s3 gl3 hn3 hy3=>?_⟩;dsimp only[Af];refine⟨smq rfl,fun t0 ht0=>?_⟩;have s4:Yc H3 (upd H3 t0 (.tup [])):=Yc.upd ht0;have gt4:upd H3 t0 (.tup []) t0=some (.tup []):=AC;generalize upd H3 t0 (.tup [])=H4 at *;have S4:=s3.trans s4;refine⟨[.ref pn,.ref py],[.tup (iD (AM rs[i] false ts)),.tup (iD (AM rs[i] true ts))],.tup [],.inl (.of (s4 _ _ gl3)),AS (Bv (.of (s4 _ _ hn3)) (Cr _)) (AS (Bv (.of (s4 _ _ hy3)) (Cr _)) AU),Bv (.of gt4) AU,fun e he'=>?_,?_⟩
  ·simp only[ZI,Z7,or_false]at he'
   rcases he' with rfl | rfl <;> (unfold AY;rw[EO];lia)
  have eany:(([Dv.tup (iD (AM rs[i] false ts)),Dv.tup (iD (AM rs[i] true ts))]).any fun e=>eqD e (.tup []))=decide (AM rs[i] false ts=[]\/AM rs[i] true ts=[]):=by
   rw[Z9,Z9,List.any_nil,FQ,FQ,Bool.or_false,ZBB];simp
  rw[eany];refine Ao (fun e2=>?_) (fun e2=>?_)
  ·have hpt:A0 (fun k=>decide (k∈ts)) (gB rs[i]):=parts_lefts.mpr (by
    have:¬(AM rs[i] false ts=[]\/AM rs[i] true ts=[]):=by
     intro w;rw[ZT w]at e2;cases e2
    exact⟨fun w=>this (.inr w),fun w=>this (.inl w)⟩)
   have gl4:=s4 _ _ gl3;have hd4:=S4 _ _ hd2;have nld:l≠d:=AN gl4 hd4 (by intro z;cases z);have nnd:pn≠d:=AN (s4 _ _ hn3) hd4 (by intro z;cases z);have nyd:py≠d:=AN (s4 _ _ hy3) hd4 (by intro z;cases z);have g4:=g2.same S4;have hltL:∀ans,∀t∈AM rs[i] ans ts,t < ls.length:=fun ans t ht=>Ym t (mem_lefts.mp ht).1
   refine .inl ⟨⟨_,.of gl4⟩,?_⟩
   refine B1 (xs:=[.ref pn,.ref py]) (fun k zs H'=>Yk d H4 H'/\(∃kvs',H' d=some (.dT kvs')/\NMemo ls rs kvs')/\∃ms:List Nat,zs=iL ms/\ms.length=k/\∀(j:Nat) (b:Nat),ms[j]? = some b->AW (AE ls) (rs.map gB) (fun k=>decide (k∈AM rs[i] (j == 1) ts)) b) ⟨Yk.refl,⟨kvs2,hd4,M2⟩,[],rfl,rfl,fun j b hb=>by simp at hb⟩ (fun k zs H' _ ⟨f,_⟩=>.of (f _ _ nld gl4)) (fun k zs H' hk ⟨_,_,ms,e,hq,_⟩=>by
    rw[e,At,hq];exact Ad (by simp at hk;lia)) ?_ ?_
   ·rintro k x zs H5 hx ⟨f5,⟨kvs5,hd5,M5⟩,ms,rfl,hq,hall⟩
    obtain⟨b,rfl,hb⟩:∃b,x=.ref b/\H5 b=some (.tup (iL (AM rs[i] (k == 1) ts))):=by
     match k,hx with
     | 0,hx=>cases hx;exact⟨pn,rfl,f5 _ _ nnd (s4 _ _ hn3)⟩
     | 1,hx=>cases hx;exact⟨py,rfl,f5 _ _ nyd (s4 _ _ hy3)⟩
     | k+2,hx=>simp at hx
    have g5:=g4.frm f5 hd4 B0;refine⟨ls,rs,_,kvs5,E2 g5,G,he,hb,ED hrise,hltL _,by have:=L7 hpt (k == 1);lia,hd5,M5,fun m kvs6 H6 hm f6 hd6 M6=>?_⟩;refine⟨f5.trans f6,⟨kvs6,hd6,M6⟩,ms++[m],by rw[Bt];rfl,by rw[ZL,hq];rfl,fun j c' hc'=>?_⟩
    rcases Z2 j ms.length with z | z | z
    ·rw[ZBK z]at hc';exact hall j c' hc'
    ·subst z;rw[ZBD (ZD _),Nat.sub_self]at hc';cases hc';rw[hq];exact hm
    ·rw[ZBD (Zq z),ZBZ (by simp;lia)]at hc';cases hc'
   ·rintro zs H5 ⟨f5,⟨kvs5,hd5,M5⟩,ms,rfl,hq,hall⟩ l2 hl2
    match ms,hq,hall with
    | [m0,m1],_,hall =>
    have s6:Yc H5 (upd H5 l2 (.lst (iL [m0,m1]))):=Yc.upd hl2;refine⟨[(m0:Int),(m1:Int)],.of AC,by simp,fun Mx hM hle=>?_⟩;have f0:=hall 0 m0 rfl;have f1:=hall 1 m1 rfl;have h0:=hle (m0:Int) (by simp);have h1:=hle (m1:Int) (by simp)
    have hM':Mx=((max m0 m1:Nat):Int):=by
     simp only[ZI,Z7,or_false]at hM;lia
    subst hM';have el:min ((least:Nat):Int) (1+((max m0 m1:Nat):Int))=((min least (1+max m0 m1):Nat):Int):=by lia
    have sp:=U9 (ZU.mpr ⟨rs[i],Zl hi,rfl⟩) hF (by rw[<- Ga];exact f1) (by rw[<- JR];exact f0);refine⟨some (.int ((i:Nat):Int)),some (.ref l),min least (1+max m0 m1),?_,f2.trans ((A5 S4).trans (f5.trans (A5 s6))),⟨kvs5,s6 _ _ hd5,M5⟩,⟨fun F' hF'=>?_,fun i' r' hi' er' hpt'=>?_⟩⟩
    ·show _=[some (V.ref a),some (.ref p),some (.ref d),some (.int ((min least (1+max m0 m1):Nat):Int)),some (.int ((i:Nat):Int)),some (.ref l)];rw[<- el];rfl
    ·have:=hL.lo F' hF'
     rw[EU hF' hF];rw[EU hF' hF]at this;lia
    ·rcases Z1 i' i with w | w
     ·obtain⟨b,c',h1',h2',h3'⟩:=hL.hi i' r' w er' hpt';exact⟨b,c',h1',h2',by lia⟩
     ·have:i'=i:=by lia
      subst this;rw[er]at er';cases er';exact⟨m1,m0,f1,f0,by lia⟩
  ·have hn:¬A0 (fun k=>decide (k∈ts)) (gB rs[i]):=fun w=>by
    obtain⟨w1,w2⟩:=parts_lefts.mp w;apply e2;rw[Zx (fun z=>z.elim w2 w1)];rfl
   exact⟨_,_,least,rfl,f2.trans (A5 S4),⟨kvs2,S4 _ _ hd2,M2⟩,stay hn⟩
theorem Lp:∀c:Nat,Xa P w base T.z48 (c+2) (Bi K c)
 | 0=>by
  have no:∀vs H Q E,¬Bi K 0 vs H Q E:=fun vs H Q E h=>by
   unfold Bi at h;split at h
   ·obtain⟨ls,rs,ts,Yg,_,_,_,_,_,_,z,_⟩:=h;exact absurd z (ZBh _)
   ·exact h
  exact⟨fun vs H Q E h=>(no _ _ _ _ h).elim,fun A outer s H args us vs Q E _ _ _ _ h=>(no _ _ _ _ h).elim⟩
 | c+1=>PH T c (Lp c)
theorem GO:Xa P w base T.z48 19 (Bi K 17):=Lp T 17
theorem SQ{b:Addr}(f:Yk d H H')(nb:H b=none):Yk d H (upd H' b o):=fun c u n e=>by
 rw[AH (BD e nb)];exact f c u n e
theorem ln8(a b c d:V):(BR a b c d).lookup ("label_of" : Str)=none:=by rfl
theorem ln9(a b c d:V):(BR a b c d).lookup ("first_question" : Str)=none:=by rfl
theorem lnB(a b c d:V):(BR a b c d).lookup ("everything" : Str)=none:=by rfl
theorem E9(hp:ts.Pairwise (· < ·))(hl:∀t∈ts,t < N):(msk ts).testBit=fun k=>decide (k∈ts):=funext (Bo hp hl).2
theorem Mi(hp:ts.Pairwise (· < ·))(hl:∀t∈ts,t < N)(h:AW (AE ls) (rs.map gB) (fun k=>decide (k∈ts)) m):need ls (rs.map AV) (msk ts)=m:=by
 refine EC ?_;rw[J3,E9 hp hl];exact h
theorem Ma(hp:ts.Pairwise (· < ·))(hl:∀t∈ts,t < N):msk (AM r true ts)=msk ts &&& AV r:=by
 apply ZB4;intro k;rw[ZBP,mskR_bit,(Bo hp hl).2 k,(Bo (ED hp) (fun t ht=>hl t (mem_lefts.mp ht).1)).2 k];exact congrFun (Ga r ts) k
theorem NI(hp:ts.Pairwise (· < ·))(hl:∀t∈ts,t < N):msk (AM r false ts)=msk ts - (msk ts &&& AV r):=by
 apply ZB4;intro k;rw[Gx,mskR_bit,(Bo hp hl).2 k,(Bo (ED hp) (fun t ht=>hl t (mem_lefts.mp ht).1)).2 k];exact congrFun (JR r ts) k
noncomputable def CC(ls:List Int)(ys:List Nat)(S i:Nat):Nat:=if BP S (ys.getD i 0)=true then wst ls ys S i else 99
theorem O9{ms:List Nat}{M:Nat}(ho:¬One (AE ls) S.testBit)(hc:Can (AE ls) (Al ys) n S.testBit)(hn:n < 99)(hl:ms.length=ys.length)(hm:∀i x,ms[i]? = some x->x=CC ls ys S i)(hM:M∈ms)(hle:∀a∈ms,M<=a)(hj:ms[j]? = some M)(hf:∀i x,i < j->ms[i]? = some x->x≠M):FirstQ ls ys S j:=by
 have wlt:∀i,wst ls ys S i < 99:=fun i=>by
  obtain⟨c1,c2⟩:=VM (ys.getD i 0) hc
  have:=(Ml c1).2 _ c1
  have:=(Ml c2).2 _ c2
  unfold wst;lia
 have hin:∀{i},i∈A4 S ys ys.length->∃x,ms[i]? = some x/\x=wst ls ys S i:=fun {i} hi=>by
  obtain⟨h1,h2⟩:=Zm.mp hi;have h1:=Zn.mp h1;refine⟨_,ZE (by lia),?_⟩;rw[hm i _ (ZE (by lia))];unfold CC;rw[if_pos h2]
 obtain⟨i0,hi0⟩:=List.exists_mem_of_length_pos (Gk ho hc);obtain⟨x0,e0,rfl⟩:=hin hi0;have hM0:=hle _ (Zz e0);have ej:=hm j M hj
 have hjp:BP S (ys.getD j 0)=true:=by
  cases e:BP S (ys.getD j 0) with
  | true=>rfl
  | false =>
   unfold CC at ej;rw[e,if_neg (by simp)]at ej
   have:=wlt i0
   lia
 have ew:M=wst ls ys S j:=by
  unfold CC at ej;rw[if_pos hjp]at ej;exact ej
 have hjl:j < ys.length:=by rw[<- hl];exact(Zr.mp hj).1
 refine⟨Zm.mpr ⟨Zn.mpr hjl,hjp⟩,fun i hi=>?_,fun i hi hij=>?_⟩
 ·obtain⟨x,e,rfl⟩:=hin hi
  have:=hle _ (Zz e)
  lia
 ·obtain⟨x,e,rfl⟩:=hin hi;have h1:=hle _ (Zz e);have h2:=hf i _ hij e;lia
theorem OL(ks:List Nat):(iL ks).all Bg=true:=by
 unfold iL;rw[List.all_map,ZBj];intro x _;rfl
theorem idx_first{ms:List Nat}{M:Nat}(h:M∈ms):∃j:Nat,ms[j]? = some M/\∀(i x:Nat),i < j->ms[i]? = some x->x≠M:=by
 have hi:=List.idxOf_lt_length_of_mem h;refine⟨ms.idxOf M,by rw[ZE hi];simp,fun i x hij e z=>?_⟩;subst z;have h2:=List.not_of_lt_findIdx (p:=(· == x)) (xs:=ms) (i:=i) hij;obtain⟨h3,h4⟩:=Zr.mp e;rw[h4]at h2;simp at h2
noncomputable def DC(K:W.Frag):Sp:=fun vs H Q _=>match vs with
 | [v,.ref p,.ref d]=>∃ls rs ts Yg,Yh K H (gmD ls rs) v/\Gm ls rs/\Ax ls rs/\H p=some (.tup (iL ts))/\ts.Pairwise (· < ·)/\(∀t∈ts,t < ls.length)/\¬One (AE ls) (fun k=>decide (k∈ts))/\H d=some (.dT Yg)/\NMemo ls rs Yg/\∀(j:Nat) (kvs':List (List Key × V)) H',FirstQ ls (rs.map AV) (msk ts) j->Yk d H H'->H' d=some (.dT kvs')->NMemo ls rs kvs'->Q (.int (j:Nat)) H'
 | _=>False
theorem NL:AZ (DC K):=fun vs H Q Q' E h q=>by
 unfold DC at *;walk_at "q"
theorem J1:Xa P w base T.z41 20 (DC K):=by
 refine T.z41.F.ok sc_z41 (fun vs H Q E h=>by unfold DC at h;walk_at "e") ?_;walk_at "f";have mo1:AZ (Bi K 17):=Er;have mo2:AZ (Cq K):=JQ;unfold DC at h;walk_at "g"
 rename_i v p d;obtain⟨ls,rs,ts,Yg,hv,G,he,hp,hrise,Ym,ho,hd,M,q⟩:=h;obtain⟨a,tl,rl,ps,rfl,g⟩:=CI hv;have l16:=G.l16;have r16:=G.r16;have tl16:=E4 hrise Ym;have npd:p≠d:=AN hp hd (by intro z;cases z);refine⟨_,(@AF _ _ _ _ _ (@AO _ _ 3 _ _ _ _ sc_z41.nd rfl (by right) (@A6 _ _ _ _ AB) (by rfl) (by symm)) (@AF _ _ _ _ _ (@Bq _ _ _ _ _ _ _ _ PassesOwn.never rfl (A3 rfl T.z_range (AA (AX (BA (K:=K)) rfl T.z_len (by rfl) (AA (Yo (K:=K) (vv 0) AD) AB)) AB)) (AT (i:=4) sc_z41.nd rfl (by right)) (@AF _ _ _ _ _ (@AO _ _ 5 _ _ _ _ sc_z41.nd rfl (by right) (AJ (@IH P w K mg base T) (hr.mono (show 1<=_ by decide)) rfl T.z42.m T.z42.F.kp T.z42.b .nil AG (AA (vv 0) (AA (vv 1) (AA (vv 4) AB)))) (by rfl) (by symm)) (@AI _ _ _ (@DJ _ _ _ _ (Du (K:=K) (vv 3) (AA (DQ (Ak (Og (K:=K) hu) (A2 AB) (vv 5)) AD (AX (KM (K:=K) rfl) rfl T.z_max (by rfl) (AA (Aq (N':=["_law_side","_law_game_here","_law_known"]) (own:=1) (ix:=[0,2]) rfl (BB (K:=K) (vv 5)) (by kernel_rfl) rfl rfl (by kernel_rfl) (fun c=>AT (i:=0) (show(["_law_side","_law_game_here","_law_known"]:List Str).Nodup by decide +kernel) rfl (by right)) (Ah (by decide)) (fun c=>Ap) (fun c=>(AJ (@GO P w K mg base T) (hr.mono (show 19<=_ by decide)) rfl T.z48.m T.z48.F.kp T.z48.b .nil AG (AA (vv 1) (AA (vv 0) (AA (vv 2) AB)))))) AB))) AB)) (by rfl)))) (by intro _;rfl)) (@AI _ _ _ (@AR _ _ _ _ (VV (K:=K) (vv 3) (AA (AX (MJ (K:=K) rfl) rfl T.z_min (by rfl) (AA (vv 3) AB)) AB)))))),?_⟩;refine⟨ZP _,fun l nl=>?_⟩;dsimp only[Af];have s1:Yc H (upd H l (.lst [])):=Yc.upd nl;have gl1:upd H l (.lst []) l=some (.lst (iL [])):=AC;have nld:l≠d:=fun z=>by rw[z,hd]at nl;cases nl
 have g1:=g.same s1;have hp1:=s1 _ _ hp;have hd1:=s1 _ _ hd;generalize upd H l (.lst [])=H1 at *;refine Ag (fun σ H'=>(∃x y,σ=[some (.ref a),some (.ref p),some (.ref d),some (.ref l),x,y])/\Yk d H H'/\(∃kvs',H' d=some (.dT kvs')/\NMemo ls rs kvs')/\∃ms:List Nat,H' l=some (.lst (iL ms))/\ms.length=rs.length/\∀i x,ms[i]? = some x->x=CC ls (rs.map AV) (msk ts) i) ?_ ?_ (by walk_at "sm");rotate_left
 ·rintro σ H2 ⟨⟨x,y,rfl⟩,f2,⟨kvs2,hd2,M2⟩,ms,gl2,hml,hm⟩;have r1:=G.r1;refine⟨.inl ⟨rfl,_,.of gl2⟩,ms.map fun(m:Nat)=>(m:Int),by rw[Z3];exact .of gl2,by rw[ZC];lia,fun Mx hM hle=>?_⟩;obtain⟨M',hM',rfl⟩:=ZU.mp hM;obtain⟨j,hj,hf⟩:=idx_first hM';refine⟨iL ms,j,.int (M':Nat),.of gl2,rfl,OL _,by unfold iL;rw[ZR,hj];rfl,by simp[eqV],fun i x hi hx=>?_,?_⟩
  ·obtain⟨x',hx',_,rfl⟩:=CW hx
   have:=hf i x' hi hx'
   simp[eqV];lia
  ·refine q j kvs2 H2 (O9 (n:=ls.length) ?_ ?_ (by lia) (by rw[hml,ZC]) hm hM' (fun a ha=>by have:=hle _ (ZU.mpr ⟨a,ha,rfl⟩);lia) hj hf) f2 hd2 M2
   ·rw[E9 hrise Ym];exact ho
   ·exact Kp he _ (Bo hrise Ym).1
 refine⟨_,.ref rl,.inr g1.two,rfl,rs.length,.inr ⟨_,g1.rows,by rw[ZC,g1.len]⟩,(rs.length:Int),rfl,by lia,by lia,?_⟩;rw[Zb];refine CK (fun k σ H'=>(∃x y,σ=[some (.ref a),some (.ref p),some (.ref d),some (.ref l),x,y])/\Yk d H H'/\(∃kvs',H' d=some (.dT kvs')/\NMemo ls rs kvs')/\∃ms:List Nat,H' l=some (.lst (iL ms))/\ms.length=k/\∀i x,ms[i]? = some x->x=CC ls (rs.map AV) (msk ts) i) ⟨⟨none,none,rfl⟩,A5 s1,⟨Yg,hd1,M⟩,[],gl1,rfl,fun i x z=>by simp at z⟩ ?_ (fun σ H' h=>h);rintro i σ H2 hi ⟨⟨x,y,rfl⟩,f2,⟨kvs2,hd2,M2⟩,ms,gl2,hml,hm⟩;have ez:(0:Int)+(i:Int)=((i:Nat):Int):=by lia
 rw[ez];have er:rs[i]? = some rs[i]:=ZE hi;have g2:=g.frm f2 hd B0;have hp2:=f2 _ _ npd hp;have eyi:(rs.map AV).getD i 0=AV rs[i]:=by rw[ZV,ZR,er];rfl
 refine⟨ls,rs,ts,i,rs[i],E2 g2,G,.of hp2,by lia,Ym,rfl,er,fun sl pn py H3 hl s3 gl3 hn3 hy3=>?_⟩;dsimp only[Af]
 -- what is put behind the others
 have fin:∀(N:Nat) (H9:Hp),N=CC ls (rs.map AV) (msk ts) i->Yk d H3 H9->(∃kvs',H9 d=some (.dT kvs')/\NMemo ls rs kvs') ->
  Dq (.ref l) [.int (N:Nat)] H9 fun _ H10=>(∃x y,[some (V.ref a),some (.ref p),some (.ref d),some (.ref l),some (.int ((i:Nat):Int)),some (.ref sl)]=[some (.ref a),some (.ref p),some (.ref d),some (.ref l),x,y])/\Yk d H H10/\(∃kvs',H10 d=some (.dT kvs')/\NMemo ls rs kvs')/\∃ms:List Nat,H10 l=some (.lst (iL ms))/\ms.length=i+1/\∀i x,ms[i]? = some x->x=CC ls (rs.map AV) (msk ts) i:=by
  intro N H9 eN f9 ⟨kvs9,hd9,M9⟩;have gl9:=f9 _ _ nld (s3 _ _ gl2);refine⟨iL ms,gl9,by rw[At];exact Ad (by lia),⟨_,_,rfl⟩,SQ (f2.trans ((A5 s3).trans f9)) nl,⟨kvs9,by rw[AH (Ne.symm nld)];exact hd9,M9⟩,ms++[N],by rw[AC,Bt];rfl,by rw[ZL,hml];rfl,fun i' x hx=>?_⟩
  rcases Z2 i' ms.length with z | z | z
  ·rw[ZBK z]at hx;exact hm i' x hx
  ·subst z;rw[ZBD (ZD _),Nat.sub_self]at hx;cases hx;rw[eN,hml]
  ·rw[ZBZ (by rw[ZL];show ms.length+1<=i';lia)]at hx;cases hx
 refine⟨.inl ⟨rfl,_,.of (s3 _ _ gl2)⟩,smq rfl,fun t0 ht0=>?_⟩;have s4:Yc H3 (upd H3 t0 (.tup [])):=Yc.upd ht0;have gt4:upd H3 t0 (.tup []) t0=some (.tup []):=AC;generalize upd H3 t0 (.tup [])=H4 at *;have S4:=s3.trans s4;refine⟨[.ref pn,.ref py],[.tup (iD (AM rs[i] false ts)),.tup (iD (AM rs[i] true ts))],.tup [],.inl (.of (s4 _ _ gl3)),AS (Bv (.of (s4 _ _ hn3)) (Cr _)) (AS (Bv (.of (s4 _ _ hy3)) (Cr _)) AU),Bv (.of gt4) AU,fun e he'=>?_,?_⟩
 ·simp only[ZI,Z7,or_false]at he'
  rcases he' with rfl | rfl <;> (unfold AY;rw[EO];lia)
 have eany:(([Dv.tup (iD (AM rs[i] false ts)),Dv.tup (iD (AM rs[i] true ts))]).any fun e=>eqD e (.tup []))=decide (AM rs[i] false ts=[]\/AM rs[i] true ts=[]):=by
  rw[Z9,Z9,List.any_nil,FQ,FQ,Bool.or_false,ZBB];simp
 rw[eany,Zs]
 have epar:BP (msk ts) (AV rs[i])=true ↔ AM rs[i] true ts≠[]/\AM rs[i] false ts≠[]:=by
  rw[FL,E9 hrise Ym,funext (mskR_bit rs[i])];exact parts_lefts
 refine Ao (fun e2=>?_) (fun e2=>?_)
 ·have w:=ZZ e2;refine fin 99 H4 ?_ (A5 s4) ⟨kvs2,S4 _ _ hd2,M2⟩;unfold CC;rw[eyi,if_neg (fun z=>by obtain⟨z1,z2⟩:=epar.mp z;exact w.elim z2 z1)]
 ·have w:¬(AM rs[i] false ts=[]\/AM rs[i] true ts=[]):=fun z=>e2 (ZT z)
  have hpar:BP (msk ts) (AV rs[i])=true:=epar.mpr ⟨fun z=>w (.inr z),fun z=>w (.inl z)⟩;have hpt:A0 (fun k=>decide (k∈ts)) (gB rs[i]):=parts_lefts.mpr (epar.mp hpar);have gl4:=s4 _ _ gl3;have hd4:=S4 _ _ hd2;have nsd:sl≠d:=AN gl4 hd4 (by intro z;cases z);have nnd:pn≠d:=AN (s4 _ _ hn3) hd4 (by intro z;cases z);have nyd:py≠d:=AN (s4 _ _ hy3) hd4 (by intro z;cases z);have g4:=g2.same S4;have hltL:∀ans,∀t∈AM rs[i] ans ts,t < ls.length:=fun ans t ht=>Ym t (mem_lefts.mp ht).1
  refine .inl ⟨⟨_,.of gl4⟩,?_⟩
  refine B1 (xs:=[.ref pn,.ref py]) (fun k zs H'=>Yk d H4 H'/\(∃kvs',H' d=some (.dT kvs')/\NMemo ls rs kvs')/\zs=iL ([need ls (rs.map AV) (msk (AM rs[i] false ts)),need ls (rs.map AV) (msk (AM rs[i] true ts))].take k)) ⟨Yk.refl,⟨kvs2,hd4,M2⟩,rfl⟩ (fun k zs H' _ ⟨f,_⟩=>.of (f _ _ nsd gl4)) (fun k zs H' hk ⟨_,_,e⟩=>by
   rw[e,At];exact Ad (Za (List.length_take_le _ _) (by have:k < 2:=hk;lia))) ?_ ?_
  ·rintro k x zs H5 hx ⟨f5,⟨kvs5,hd5,M5⟩,rfl⟩;have g5:=g4.frm f5 hd4 B0
   obtain⟨ans,b,rfl,hb,hk⟩:∃(ans:Bool) (b:Addr),x=.ref b/\H5 b=some (.tup (iL (AM rs[i] ans ts)))/\([need ls (rs.map AV) (msk (AM rs[i] false ts)),need ls (rs.map AV) (msk (AM rs[i] true ts))])[k]? = some (need ls (rs.map AV) (msk (AM rs[i] ans ts))):=by
    match k,hx with
    | 0,hx=>cases hx;exact⟨false,pn,rfl,f5 _ _ nnd (s4 _ _ hn3),rfl⟩
    | 1,hx=>cases hx;exact⟨true,py,rfl,f5 _ _ nyd (s4 _ _ hy3),rfl⟩
    | k+2,hx=>simp at hx
   refine⟨ls,rs,_,kvs5,E2 g5,G,he,hb,ED hrise,hltL _,by have:=L7 hpt ans;lia,hd5,M5,fun m kvs6 H6 hm f6 hd6 M6=>?_⟩;refine⟨f5.trans f6,⟨kvs6,hd6,M6⟩,?_⟩;rw[ZBC,hk,<- Mi (ED hrise) (hltL ans) hm,Bt];rfl
  ·rintro zs H5 ⟨f5,hk5,rfl⟩ l2 hl2;rw[show([V.ref pn,V.ref py]:List V).length=2 from rfl,ZBV (by simp)];have s6:Yc H5 (upd H5 l2 (.lst (iL [need ls (rs.map AV) (msk (AM rs[i] false ts)),need ls (rs.map AV) (msk (AM rs[i] true ts))]))):=Yc.upd hl2
   have ew:wst ls (rs.map AV) (msk ts) i=max (need ls (rs.map AV) (msk (AM rs[i] true ts))) (need ls (rs.map AV) (msk (AM rs[i] false ts))):=by
    unfold wst;rw[eyi,Ma hrise Ym,NI hrise Ym]
   generalize need ls (rs.map AV) (msk (AM rs[i] false ts))=m0 at *;generalize need ls (rs.map AV) (msk (AM rs[i] true ts))=m1 at *;refine⟨[(m0:Int),(m1:Int)],.of AC,by simp,fun Mx hM hle=>?_⟩;have h0:=hle (m0:Int) (by simp);have h1:=hle (m1:Int) (by simp)
   have hM':Mx=((max m1 m0:Nat):Int):=by
    simp only[ZI,Z7,or_false]at hM;lia
   subst hM';obtain⟨kvs5,hd5,M5⟩:=hk5;refine fin _ _ ?_ ((A5 s4).trans (f5.trans (A5 s6))) ⟨kvs5,s6 _ _ hd5,M5⟩;unfold CC;rw[eyi,if_pos hpar,ew]
noncomputable def akF(r:Addr)(S:Nat):List (Str × V):=[("reckoner",.ref r),("fitting",.int (S:Int))]
theorem la1(r:Addr)(S:Nat):(akF r S).lookup ("reckoner" : Str)=some (.ref r):=by rfl
theorem la2(r:Addr)(S:Nat):(akF r S).lookup ("fitting" : Str)=some (.int (S:Int)):=by rfl
theorem na1(r:Addr)(S:Nat):(akF r S).lookup ("ask" : Str)=none:=by rfl
theorem na2(r:Addr)(S:Nat):(akF r S).lookup ("say" : Str)=none:=by rfl
theorem na3(r:Addr)(S:Nat):(akF r S).lookup ("left" : Str)=none:=by rfl
theorem na4(r:Addr)(S:Nat):(akF r S).lookup ("label" : Str)=none:=by rfl
theorem na5(r:Addr)(S:Nat):(akF r S).lookup ("most" : Str)=none:=by rfl
theorem pk1(r:Addr):Ac "reckoner" (.ref r) []=([("reckoner",.ref r)]:List (Str × V)):=by rfl
theorem pk2(r:Addr)(S:Nat):Ac "fitting" (.int (S:Int)) [("reckoner",.ref r)]=akF r S:=by rfl
theorem pk3(r:Addr)(S S':Nat):Ac "fitting" (.int (S':Int)) (akF r S)=akF r S':=by rfl
structure AkAt(K:W.Frag)(CA CR:Addr)(ls:List Int)(ys:List Nat)(H:Hp)(p r d:Addr)(S:Nat):Prop where
 ob:∃dx,H p=some (.ins CA dx (akF r S))
 rk:RkAt K CR ls ys H r d
 ne:r≠p
 lt:S < 2 ^ ls.length
 s0:S≠0
 can:∀X,X < 2 ^ ls.length->Can (AE ls) (Al ys) ls.length X.testBit
theorem AkAt.same{r:Addr}(a:AkAt K CA CR ls ys H p r d S)(s:Yc H H'):AkAt K CA CR ls ys H' p r d S:=by
 obtain⟨dx,h⟩:=a.ob;exact⟨⟨dx,s _ _ h⟩,a.rk.same s,a.ne,a.lt,a.s0,a.can⟩
theorem Ir{C' x dx:Addr}{fs:List (Str × V)}(R:RkAt K C ls ys H x d)(f:Yk p H H')(hp:H p=some (.ins C' dx fs))(hx:x≠p):RkAt K C ls ys H' x d:=by
 obtain⟨dx,tl,yl,al,as,Yg,h1,h2,h3,h4,h5,h6,h7,h8⟩:=R.at_;exact⟨⟨dx,tl,yl,al,as,Yg,f _ _ hx h1,DB f hp Cy h2,f _ _ (AN h3 hp (by intro z;cases z)) h3,f _ _ (AN h4 hp (by intro z;cases z)) h4,f _ _ (AN h5 hp (by intro z;cases z)) h5,h6,h7,h8⟩,R.l16,R.y16⟩
noncomputable def FA(K:W.Frag)(CA CR CE:Addr):Sp:=fun vs H Q E=>match vs with
 | [.ref p,v]=>∃ls rs dx,H p=some (.ins CA dx [])/\Yh K H (gmD ls rs) v/\Gm ls rs/\(Ax ls rs->∀r d H',H r=none->H d=none->AkAt K CA CR ls (rs.map AV) H' p r d (2 ^ ls.length - 1)->Yk p H H'->Q .non H')/\∀i j,CB ls rs i j->∀d H',Yc H H'->H' d=some (XdO d (Fo i j))->E (.ref CE) (some d) H'
 | _=>False
theorem JA:FnOk P w K mg base (CXE P w) 6 T.z29.f T.z29.d ["self","game"] (FA K T.C_Asking T.C_Reckoner T.C_NoEnd):=by
 refine T.z29.F.okE So (fun vs H Q E h=>by unfold FA at h;walk_at "e") ?_;walk_at "f";have hr_z23:=hr.mono (show 4<=_ by decide);have hr1_z23:=hr.mono (show 4+1<=_ by decide);unfold FA at h;walk_at "g"
 rename_i p v;obtain⟨ls,rs,dp,hp,hv,G,q,qE⟩:=h;have l1:=G.l1;have hp3:2 ^ 1<=2 ^ ls.length:=Zj (by decide) l1;refine⟨_,(@AF _ _ _ _ _ (@DJ _ _ _ _ (AJ (@Qz P w K mg base T) (hr.mono (show 3<=_ by decide)) rfl T.z18.m T.z18.F.kp T.z18.b .nil Tv (AA (vv 1) AB)) (by rfl)) (@AF _ _ _ _ _ (PS.nox (C7 T.cl_Asking T.na_Asking_reckoner (vv 0) (KD T.mk_Reckoner (@RL P w K mg base T) hr1_z23 rfl T.mC_Reckoner T.z23.b .nil AG (AA (vv 1) AB)))) (@AI _ _ _ (PS.nox (C7 T.cl_Asking T.na_Asking_fitting (vv 0) (EN (Ay T.cl_Asking T.na_Asking_reckoner (vv 0)) T.cl_Reckoner T.z15.m (@OK P w K mg base T) (hr.mono (show 3<=_ by decide)) T.z15.b .nil AG)))))),?_⟩;refine⟨ls,rs,hv,G,fun he H0 s0=>?_,qE⟩;intro x dx hx hdx Yr
 have s1:Yc H0 (upd (upd H0 dx (.own x)) x (.ins T.C_Reckoner dx [])):=(Yc.upd (o:=.own x) hdx).trans (fun b o e=>by
  have:b≠x:=fun z=>by
   rw[z,AH (Ne.symm Yr),hx]at e;cases e
  rw[AH this];exact e)
 have hx1:upd (upd H0 dx (.own x)) x (.ins T.C_Reckoner dx []) x=some (.ins T.C_Reckoner dx []):=AC;generalize upd (upd H0 dx (.own x)) x (.ins T.C_Reckoner dx [])=H1 at *;have S1:=s0.trans s1;refine⟨ls,rs,dx,hx1,hv.same S1,G,fun d H2 hd R f2=>⟨rfl,?_⟩⟩;have hd0:H d=none:=S1.free hd;have nx0:H x=none:=s0.free hx;have s2:Yc H H2:=fun b o e=>f2 b o (BD e nx0) (S1 _ _ e)
 have hxp:x≠p:=fun z=>by rw[z,hp]at nx0;cases nx0
 have hp2:=s2 _ _ hp;refine⟨dp,_,hp2,(show 0 < 1000 by decide),?_⟩;have f3:Yk p H2 (upd H2 p (.ins T.C_Asking dp (Ac "reckoner" (.ref x) []))):=Yk.updT;have hp3':upd H2 p (.ins T.C_Asking dp (Ac "reckoner" (.ref x) [])) p=some (.ins T.C_Asking dp [("reckoner",.ref x)]):=by rw[pk1];exact AC
 have R3:=Ir R f3 hp2 hxp;have F3:Yk p H _:=(A5 s2).trans f3;generalize upd H2 p (.ins T.C_Asking dp (Ac "reckoner" (.ref x) []))=H3 at *;obtain⟨dx3,tl3,yl3,al3,as3,kvs3,k1,_⟩:=id R3.at_;refine⟨dp,_,_,hp3',by rfl,x,dx3,_,rfl,k1,lnB _ _ _ _,ls,_,d,R3,dp,_,hp3',(show 1 < 1000 by decide),?_⟩;rw[pk2];have f4:Yk p H3 (upd H3 p (.ins T.C_Asking dp (akF x (2 ^ ls.length - 1)))):=Yk.updT;exact q he x d _ nx0 hd0 ⟨⟨dp,AC⟩,Ir R3 f4 hp3' hxp,hxp,by lia,by lia,Kp he⟩ (F3.trans f4)
noncomputable def Dg(K:W.Frag)(CA CR Pt:Addr):Sp:=fun vs H Q _=>match vs with
 | [.ref p]=>∃ls ys r d S,AkAt K CA CR ls ys H p r d S/\BG Pt H/\(One (AE ls) S.testBit->∀H',Yc H H'->Q .non H') /\
  (¬One (AE ls) S.testBit->∀(j:Nat) H',FirstQ ls ys S j->AkAt K CA CR ls ys H' p r d S->FrX [d,Pt] H H'->BG Pt H'->Q (.int (j:Nat)) H')
 | _=>False
theorem OC:AZ (Dg K CA CR Pt):=fun vs H Q Q' E h q=>by
 unfold Dg at *;split at q
 ·obtain⟨ls,ys,r,d,S,h1,h2,q1,q2⟩:=q;exact⟨ls,ys,r,d,S,h1,h2,fun o H' x=>h _ _ (q1 o H' x),fun o j H' x1 x2 x3 x4=>h _ _ (q2 o j H' x1 x2 x3 x4)⟩
 ·exact q.elim
theorem Os{r:Addr}(a:AkAt K CA CR ls ys H p r d S)(L:BG Pt H)(f:FrX [d,Pt] H H')(R:RkAt K CR ls ys H' r d):AkAt K CA CR ls ys H' p r d S:=by
 obtain⟨dx,h⟩:=a.ob;obtain⟨_,_,_,_,_,_,_,_,_,_,k5,_⟩:=a.rk.at_;obtain⟨ps,hP,_⟩:=L;refine⟨⟨dx,f _ _ ?_ h⟩,R,a.ne,a.lt,a.s0,a.can⟩;simp only[ZI,Z7,or_false,not_or];exact⟨AN h k5 (by intro z;cases z),AN h hP (by intro z;cases z)⟩
theorem O8(B:BMn mg base):Xb P w mg base T.z33 78 (Dg K T.C_Asking T.C_Reckoner T.p_z10):=by
 refine T.z33.F.ok Uq (fun vs H Q E h=>by unfold Dg at h;walk_at "e") ?_;walk_at "f";unfold Dg at h;walk_at "g"
 rename_i p;obtain⟨ls,ys,r,d,S,AK,L,q1,q2⟩:=h;obtain⟨dp,hp⟩:=AK.ob;obtain⟨dx,tl,yl,al,as,Yg,k1,_⟩:=id AK.rk.at_;refine⟨_,(@AF _ _ _ _ _ (@Aw _ _ _ _ _ _ _ _ (CY (BN (Ay T.cl_Asking T.na_Asking_reckoner (vv 0)) T.cl_Reckoner T.z11.m (@Ib P w K mg base T) (hr.mono (show 2<=_ by decide)) T.z11.b .nil AG (AA (Ay T.cl_Asking T.na_Asking_fitting (vv 0)) AB))) (@AI _ _ _ (@AR _ _ _ _ B7)) Av) (@AI _ _ _ (@AR _ _ _ _ (BN (Ay T.cl_Asking T.na_Asking_reckoner (vv 0)) T.cl_Reckoner T.z10.m (@Ow P w K mg base T B) (hr.mono (show 77<=_ by decide)) T.z10.b .nil AG (AA (Ay T.cl_Asking T.na_Asking_fitting (vv 0)) AB))))),?_⟩;refine⟨dp,_,_,hp,la1 _ _,r,dx,_,rfl,k1,ln3 _ _ _ _,dp,_,_,hp,la2 _ _,ls,ys,d,S,AK.rk,rfl,AK.lt,fun b H1 hb s1=>?_⟩;cases b with
 | true=>exact q1 (hb.mp rfl) H1 s1
 | false =>
  have ho:¬One (AE ls) S.testBit:=fun o=>nomatch hb.mpr o
  have A1:=AK.same s1;dsimp only[CJ];refine⟨dp,_,_,s1 _ _ hp,la1 _ _,r,dx,_,rfl,s1 _ _ k1,ln9 _ _ _ _,dp,_,_,s1 _ _ hp,la2 _ _,ls,ys,d,S,A1.rk,rfl,AK.lt,⟨_,AK.can _ AK.lt⟩,ho,L.same s1,fun j H2 hj R2 f2 L2'=>?_⟩;exact q2 ho j H2 hj (Os A1 (L.same s1) f2 R2) ((FrX.same s1).trans f2) L2'
theorem OB:Xb P w mg base T.z26 1 (G4 T.C_NoThing "question"):=by
 refine T.z26.F.ok U3 (fun vs H Q E h=>by unfold G4 at h;walk_at "e") (fun Yu A outer s H vs Q E hr h=>?_);unfold G4 at h;walk_at "g"
 rename_i x y;obtain⟨g,q⟩:=h;refine⟨_,(@AI _ _ _ (HA T.xI_NoThing T.na_NoThing_question (vv 0) (vv 1))),?_⟩;exact .inl ⟨g,fun d hd=>q d hd⟩
noncomputable def ML(j:Nat):List (Str × V):=[("question",.int (j:Nat))]
noncomputable def lfA(S:Nat)(ys:List Nat)(j:Nat)(ans:Bool):Nat:=if ans=true then S &&& ys.getD j 0 else S - (S &&& ys.getD j 0)
noncomputable def GH(K:W.Frag)(CA CR CT:Addr):Sp:=fun vs H Q E=>match vs with
 | [.ref p,.int i,.bl ans]=>∃ls ys r d S j,AkAt K CA CR ls ys H p r d S/\i=(j:Nat)/\j < ys.length/\(lfA S ys j ans≠0 ->
  ∀H',AkAt K CA CR ls ys H' p r d (lfA S ys j ans)->Yk p H H'->Q .non H')/\(lfA S ys j ans=0->∀d' H',Yc H H'->H' d'=some (XdO d' (ML j))->E (.ref CT) (some d') H')
 | _=>False
theorem Tw:FnOk P w K mg base (CXE P w) 3 T.z35.f T.z35.d ["self","question","answer"] (GH K T.C_Asking T.C_Reckoner T.C_NoThing):=by
 refine T.z35.F.okE sc_z35 (fun vs H Q E h=>by unfold GH at h;walk_at "e") ?_;walk_at "f";have hr_z26:=hr.mono (show 1<=_ by decide);have hr1_z26:=hr.mono (show 1+1<=_ by decide);unfold GH at h;walk_at "g"
 rename_i p i ans;obtain⟨ls,ys,r,d,S,j,AK,e1,hj,q,qE⟩:=h;subst e1;have hy:ys[j]? = some (ys.getD j 0):=by rw[ZV,ZE hj];rfl
 have hle:=Nat.and_le_left (n:=S) (m:=ys.getD j 0);have Ym:=AK.lt;obtain⟨dp,hp⟩:=AK.ob;obtain⟨dx,tl,yl,al,as,Yg,k1,_⟩:=id AK.rk.at_;refine⟨_,(@AF _ _ _ _ _ (PS.nox (@AO _ _ 3 _ _ _ _ sc_z35.nd rfl (by right) (BN (Ay T.cl_Asking T.na_Asking_reckoner (vv 0)) T.cl_Reckoner T.z17.m (@Kj P w K mg base T) (hr.mono (show 1<=_ by decide)) T.z17.b .nil AG (AA (Ay T.cl_Asking T.na_Asking_fitting (vv 0)) (AA (vv 1) (AA (vv 2) AB)))) (by rfl) (by symm))) (@AF _ _ _ _ _ (@Aw _ _ _ _ _ _ _ _ (PT.nox (Ak (kEq (K:=K) hu) (vv 3) AD)) (@AI _ _ _ (MH (W:=fun _ od H=>E (.ref T.C_NoThing) od H) T.xI_NoThing (@OB P w K mg base T) hr1_z26 T.z26.b (fun _ _ _ _ _ _ I e h0 q=>Jy I e h0 q) rfl rfl rfl T.mC_NoThing (AA (vv 1) AB))) Av) (@AI _ _ _ (PS.nox (C7 T.cl_Asking T.na_Asking_fitting (vv 0) (vv 3)))))),?_⟩;refine⟨dp,_,_,hp,la1 _ _,r,dx,_,rfl,k1,ln7 _ _ _ _,dp,_,_,hp,la2 _ _,ls,ys,d,S,j,_,AK.rk,rfl,rfl,hy,?_⟩;dsimp only[Af];have hlt2:lfA S ys j ans < 2 ^ ls.length:=by unfold lfA;split <;> lia
 have eS:(if ans=true then S &&& ys.getD j 0 else S - (S &&& ys.getD j 0))=lfA S ys j ans:=rfl;rw[eS];generalize lfA S ys j ans=S' at *
 by_cases h0:S'=0
 ·subst h0;refine⟨(show 1<=1000 by decide),fun x0 hx0=>⟨AC,fun d0 hd0=>?_⟩⟩;have n0:d0≠x0:=fun z=>by rw[z,AC]at hd0;cases hd0
  rw[AH n0]at hd0;refine⟨rfl,some d0,by rw[AH (Ne.symm n0),AC],?_⟩;refine qE rfl d0 _ (fun c u hc=>?_) ?_
  ·have n1:c≠x0:=fun z=>by rw[z,hx0]at hc;cases hc
   have n2:c≠d0:=fun z=>by rw[z,hd0]at hc;cases hc
   rw[DL n1,AH n2,AH n1,AH n1];exact hc
  ·rw[DL n0];exact AC
 have e0:(false ^^ ((S':Int) == 0))=false:=by
  rw[Zs,beq_eq_false_iff_ne];lia
 refine Ao (fun e=>absurd (e0 ▸ e) (by decide)) (fun _=>?_);dsimp only[CJ];refine⟨dp,_,hp,(show 2 < 1000 by decide),?_⟩;rw[pk3];have f4:Yk p H (upd H p (.ins T.C_Asking dp (akF r S'))):=Yk.updT;exact q h0 _ ⟨⟨dp,AC⟩,Ir AK.rk f4 hp AK.ne,AK.ne,hlt2,h0,AK.can⟩ f4
noncomputable def Db(K:W.Frag)(CA CR:Addr):Sp:=fun vs H Q _=>match vs with
 | [.ref p]=>∃ls ys r d S,AkAt K CA CR ls ys H p r d S/\∀t H',H t=none->Yc H H'->H' t=some (.tup (iL (B5 S)))->Q (.ref t) H'
 | _=>False
theorem Vg:AZ (Db K CA CR):=fun vs H Q Q' E h q=>by
 unfold Db at *;walk_at "q"
theorem Ro:Xb P w mg base T.z27 5 (Db K T.C_Asking T.C_Reckoner):=by
 refine T.z27.F.ok On (fun vs H Q E h=>by unfold Db at h;walk_at "e") ?_;walk_at "f";unfold Db at h;walk_at "g"
 rename_i p;obtain⟨ls,ys,r,d,S,AK,q⟩:=h;obtain⟨dp,hp⟩:=AK.ob;have l16:=AK.rk.l16;have Ym:=AK.lt;have h60:2 ^ ls.length<=2 ^ 60:=Zj (by decide) (by lia);refine⟨_,(@AI _ _ _ (@AR _ _ _ _ (AJ (@Le P w K mg base T) (hr.mono (show 4<=_ by decide)) rfl T.z40.m T.z40.F.kp T.z40.b .nil AG (AA (Ay T.cl_Asking T.na_Asking_fitting (vv 0)) AB)))),?_⟩;exact⟨dp,_,_,hp,la2 _ _,S,rfl,by lia,q⟩
noncomputable def Di(K:W.Frag)(CA CR:Addr):Sp:=fun vs H Q _=>match vs with
 | [.ref p]=>∃ls ys r d S,AkAt K CA CR ls ys H p r d S/\(One (AE ls) S.testBit->∀k H',S.testBit k=true->Yc H H'->Q (.int (AE ls k)) H')/\(¬One (AE ls) S.testBit->∀H',Yc H H'->Q .non H')
 | _=>False
theorem PV:AZ (Di K CA CR):=fun vs H Q Q' E h q=>by
 unfold Di at *;split at q
 ·obtain⟨ls,ys,r,d,S,h1,q1,q2⟩:=q;exact⟨ls,ys,r,d,S,h1,fun o k H' x1 x2=>h _ _ (q1 o k H' x1 x2),fun o H' x1=>h _ _ (q2 o H' x1)⟩
 ·exact q.elim
theorem Ud:Xb P w mg base T.z24 6 (Di K T.C_Asking T.C_Reckoner):=by
 refine T.z24.F.ok Po (fun vs H Q E h=>by unfold Di at h;walk_at "e") ?_;walk_at "f";unfold Di at h;walk_at "g"
 rename_i p;obtain⟨ls,ys,r,d,S,AK,q1,q2⟩:=h;obtain⟨dp,hp⟩:=AK.ob;obtain⟨dx,tl,yl,al,as,Yg,k1,_⟩:=id AK.rk.at_;refine⟨_,(@AF _ _ _ _ _ (@Aw _ _ _ _ _ _ _ _ (CY (BN (Ay T.cl_Asking T.na_Asking_reckoner (vv 0)) T.cl_Reckoner T.z11.m (@Ib P w K mg base T) (hr.mono (show 2<=_ by decide)) T.z11.b .nil AG (AA (Ay T.cl_Asking T.na_Asking_fitting (vv 0)) AB))) (@AI _ _ _ (@AR _ _ _ _ (BN (Ay T.cl_Asking T.na_Asking_reckoner (vv 0)) T.cl_Reckoner T.z16.m (@SD P w K mg base T) (hr.mono (show 5<=_ by decide)) T.z16.b .nil AG (AA (Ay T.cl_Asking T.na_Asking_fitting (vv 0)) AB)))) Av) (@AI _ _ _ (@AR _ _ _ _ B7))),?_⟩;refine⟨dp,_,_,hp,la1 _ _,r,dx,_,rfl,k1,ln3 _ _ _ _,dp,_,_,hp,la2 _ _,ls,ys,d,S,AK.rk,rfl,AK.lt,fun b H1 hb s1=>?_⟩;cases b with
 | true =>
  refine⟨dp,_,_,s1 _ _ hp,la1 _ _,r,dx,_,rfl,s1 _ _ k1,ln8 _ _ _ _,dp,_,_,s1 _ _ hp,la2 _ _,ls,ys,d,S,AK.rk.same s1,rfl,AK.lt,AK.s0,fun k H2 hk s2=>?_⟩;exact q1 (hb.mp rfl) k H2 hk (s1.trans s2)
 | false=>exact q2 (fun o=>nomatch hb.mpr o) H1 s1
noncomputable def DW(K:W.Frag)(CA CR:Addr):Sp:=fun vs H Q _=>match vs with
 | [.ref p]=>∃ls ys r d S,AkAt K CA CR ls ys H p r d S/\∀H',AkAt K CA CR ls ys H' p r d S->Yk d H H'->Q (.int (need ls ys S:Nat)) H'
 | _=>False
theorem Pu:AZ (DW K CA CR):=fun vs H Q Q' E h q=>by
 unfold DW at *;walk_at "q"
theorem R0{r:Addr}(a:AkAt K CA CR ls ys H p r d S)(f:Yk d H H')(R:RkAt K CR ls ys H' r d):AkAt K CA CR ls ys H' p r d S:=by
 obtain⟨dx,h⟩:=a.ob;obtain⟨_,_,_,_,_,_,_,_,_,_,k5,_⟩:=a.rk.at_;exact⟨⟨dx,f _ _ (AN h k5 (by intro z;cases z)) h⟩,R,a.ne,a.lt,a.s0,a.can⟩
theorem Nl:Xb P w mg base T.z31 73 (DW K T.C_Asking T.C_Reckoner):=by
 refine T.z31.F.ok O5 (fun vs H Q E h=>by unfold DW at h;walk_at "e") ?_;walk_at "f";unfold DW at h;walk_at "g"
 rename_i p;obtain⟨ls,ys,r,d,S,AK,q⟩:=h;obtain⟨dp,hp⟩:=AK.ob;have l16:=AK.rk.l16;obtain⟨dx,tl,yl,al,as,Yg,k1,_⟩:=id AK.rk.at_;refine⟨_,(@AI _ _ _ (@AR _ _ _ _ (BN (Ay T.cl_Asking T.na_Asking_reckoner (vv 0)) T.cl_Reckoner T.z13.m (@Uy P w K mg base T) (hr.mono (show 72<=_ by decide)) T.z13.b .nil AG (AA (Ay T.cl_Asking T.na_Asking_fitting (vv 0)) AB)))),?_⟩;refine⟨dp,_,_,hp,la1 _ _,r,dx,_,rfl,k1,ln1 _ _ _ _,dp,_,_,hp,la2 _ _,ls,ys,d,S,AK.rk,rfl,AK.lt,⟨_,AK.can _ AK.lt⟩,by have:=Iq ls.length S.testBit;lia,fun m H1 hm R1 f1=>?_⟩;rw[<- EC hm];exact q H1 (R0 AK f1 R1) f1
noncomputable def Dj(K:W.Frag):Sp:=fun vs H Q _=>match vs with
 | [v]=>∃ls rs,Yh K H (gmD ls rs) v/\Gm ls rs/\(Ax ls rs->∀H',Yc H H'->Q .non H')/\∀i j,CB ls rs i j->∀t H',Yc H H'->H' t=some (.tup [.int (i:Nat),.int (j:Nat)])->Q (.ref t) H'
 | _=>False
theorem P7:AZ (Dj K):=fun vs H Q Q' E h q=>by
 unfold Dj at *;split at q
 ·obtain⟨ls,rs,h1,h2,q1,q2⟩:=q;exact⟨ls,rs,h1,h2,fun x1 H' x2=>h _ _ (q1 x1 H' x2),fun i j x1 t H' x2 x3=>h _ _ (q2 i j x1 t H' x2 x3)⟩
 ·exact q.elim
theorem PB:Xa P w base T.z44 8 (Dj K):=by
 refine T.z44.F.ok sc_z44 (fun vs H Q E h=>by unfold Dj at h;walk_at "e") ?_;walk_at "f";have hr_z29:=hr.mono (show 6<=_ by decide);have hr1_z29:=hr.mono (show 6+1<=_ by decide);unfold Dj at h;walk_at "g"
 rename_i v;obtain⟨ls,rs,hv,G,q1,q2⟩:=h;refine⟨_,(@AF _ _ _ _ _ (@AO _ _ 1 _ _ _ _ sc_z44.nd rfl (by right) B7 (by rfl) (by symm)) (@AF _ _ _ _ _ (Rt (j:=2) sc_z44.nd rfl rfl rfl rfl rfl T.mC_NoEnd (Qq T.mk_Asking (@JA P w K mg base T) hr1_z29 rfl T.mC_Asking T.z29.b .nil (AA (vv 0) AB)) (fun _=>(@AI _ _ _ (@AO _ _ 1 _ _ _ _ sc_z44.nd rfl (by right) (A2 (AA (Fl (K:=K) (vv 2)) (AA (Fl (K:=K) (vv 2)) AB))) (by rfl) (by symm))))) (@AI _ _ _ (@AR _ _ _ _ (vv 1))))),?_⟩;intro x dx hx hdx Yr
 have s1:Yc H (upd (upd H dx (.own x)) x (.ins T.C_Asking dx [])):=(Yc.upd (o:=.own x) hdx).trans (fun b o e=>by
  have:b≠x:=fun z=>by
   rw[z,AH (Ne.symm Yr),hx]at e;cases e
  rw[AH this];exact e)
 have hx1:upd (upd H dx (.own x)) x (.ins T.C_Asking dx []) x=some (.ins T.C_Asking dx []):=AC;generalize upd (upd H dx (.own x)) x (.ins T.C_Asking dx [])=H1 at *;refine⟨ls,rs,dx,hx1,Yh.same s1 _ _ hv,G,fun he r d H2 hr0 hd0 AK f2=>⟨rfl,?_⟩,fun i j hf d H2 s2 gd=>⟨T.xm_NoEnd_NoEnd,fun e he=>?_⟩⟩
 ·exact q1 he H2 fun b o e=>f2 b o (BD e hx) (s1 _ _ e)
 ·have dn:d≠e:=fun z=>by rw[z,he]at gd;cases gd
  have s3:=Yc.upd (o:=BY e (.ref T.C_NoEnd) (some d)) he;have e0:ExcAt (upd H2 e (BY e (.ref T.C_NoEnd) (some d))) e T.C_NoEnd (some d):=⟨AC,fun d' z=>by cases z;exact⟨_,by rw[AH dn];exact gd⟩⟩;have g0:upd H2 e (BY e (.ref T.C_NoEnd) (some d)) d=some (XdO d (Fo i j)):=by rw[AH dn];exact gd
  refine⟨_,d,_,_,e0,g0,T.xc_NoEnd,T.na_NoEnd_one,T.hd_NoEnd,rfl,_,d,_,_,e0,g0,T.xc_NoEnd,T.na_NoEnd_other,T.hd_NoEnd,rfl,smq rfl,fun p3 h3=>?_⟩;exact q2 i j hf p3 _ (s1.trans (s2.trans (s3.trans (Yc.upd h3)))) AC
noncomputable def Da(K:W.Frag)(CA CR:Addr):Sp:=fun vs H Q _=>match vs with
 | [.ref p,.int i,.bl ans]=>∃ls ys r d S j,AkAt K CA CR ls ys H p r d S/\i=(j:Nat)/\j < ys.length/\(lfA S ys j ans≠0 ->
  ∀u H',AkAt K CA CR ls ys H' p r d (lfA S ys j ans)->Yk p H H'->Yh K H' (.tup [.str "told",.non]) u->Q u H')/\(lfA S ys j ans=0->∀u H',Yc H H'->Yh K H' (.tup [.str "none",.int (j:Nat),.bl true]) u->Q u H')
 | _=>False
theorem VH:AZ (Da K CA CR):=fun vs H Q Q' E h q=>by
 unfold Da at *;split at q
 ·obtain⟨ls,ys,r,d,S,j,h1,h2,h3,q1,q2⟩:=q;exact⟨ls,ys,r,d,S,j,h1,h2,h3,fun x1 u H' x2 x3 x4=>h _ _ (q1 x1 u H' x2 x3 x4),fun x1 u H' x2 x3=>h _ _ (q2 x1 u H' x2 x3)⟩
 ·exact q.elim
theorem Qu:Xa P w base T.z28 4 (Da K T.C_Asking T.C_Reckoner):=by
 refine T.z28.F.ok sc_z28 (fun vs H Q E h=>by unfold Da at h;walk_at "e") ?_;walk_at "f";unfold Da at h;walk_at "g"
 rename_i p i ans;obtain⟨ls,ys,r,d,S,j,AK,e1,hj,q1,q2⟩:=h;subst e1;obtain⟨dp,hp⟩:=AK.ob;refine⟨_,(@AF _ _ _ _ _ (@AO _ _ 3 _ _ _ _ sc_z28.nd rfl (by right) B7 (by rfl) (by symm)) (@AF _ _ _ _ _ (Qw (i:=3) (j:=4) sc_z28.nd rfl (by right) rfl rfl rfl rfl rfl T.mC_FlipError (VD EA (Ux (vv 0) T.cl_Asking T.z35.m (@Tw P w K mg base T) (hr.mono (show 3<=_ by decide)) T.z35.b .nil (AA (vv 1) (AA (vv 2) AB)))) (fun _=>(@AF _ _ _ _ _ (@AO _ _ 3 _ _ _ _ sc_z28.nd rfl (by right) (A2 (AA EA AB)) (by rfl) (by symm)) (@AF _ _ _ _ _ (@AO _ _ 5 _ _ _ _ sc_z28.nd rfl (by right) (@A6 _ _ _ _ (AA (AX (DG (K:=K)) rfl T.z_isinstance (by rfl) (AA (vv 4) (AA (C6 (v:=.ref T.C_Alike) rfl T.mC_Alike rfl) AB))) (AA (AX (DG (K:=K)) rfl T.z_isinstance (by rfl) (AA (vv 4) (AA (C6 (v:=.ref T.C_NoName) rfl T.mC_NoName rfl) AB))) (AA (AX (DG (K:=K)) rfl T.z_isinstance (by rfl) (AA (vv 4) (AA (C6 (v:=.ref T.C_NoRow) rfl T.mC_NoRow rfl) AB))) (AA (AX (DG (K:=K)) rfl T.z_isinstance (by rfl) (AA (vv 4) (AA (C6 (v:=.ref T.C_NoTable) rfl T.mC_NoTable rfl) AB))) AB))))) (by rfl) (by symm)) (@AI _ _ _ (@Aw _ _ _ _ _ _ _ _ (PW.pt (De (Ak (LJ (K:=K)) Bs (vv 5)) (De (CY (AX (DG (K:=K)) rfl T.z_isinstance (by rfl) (AA (vv 4) (AA (C6 (v:=.ref T.C_NoThing) rfl T.mC_NoThing rfl) AB)))) (EF (IF (CY (AX (DG (K:=K)) rfl T.z_isinstance (by rfl) (AA (vv 4) (AA (A2 (AA (C6 (v:=.ref T.C_NoText) rfl T.mC_NoText rfl) (AA (C6 (v:=.ref T.C_NoEnd) rfl T.mC_NoEnd rfl) AB))) AB))))))))) (@AI _ _ _ (@AO _ _ 3 _ _ _ _ sc_z28.nd rfl (by right) (A2 (AA EA (AA (Fl (K:=K) (vv 4)) (AA (AX (DG (K:=K)) rfl T.z_isinstance (by rfl) (AA (vv 4) (AA (Nm (v:=.ty "ValueError") rfl T.z_ValueError (by rfl) rfl) AB))) AB)))) (by rfl) (by symm))) Av)))))) (@AI _ _ _ (@AR _ _ _ _ (vv 3))))),?_⟩;refine⟨p,dp,_,rfl,hp,na2 _ _,ls,ys,r,d,S,j,AK,rfl,hj,fun h0 H' AK' f' p2 hp2=>?_,fun h0 d' H' s' gd=>⟨T.xm_NoThing_FlipError,fun x hx=>?_⟩⟩
 ·have s2:=Yc.upd (o:=.tup [.str "told",.non]) hp2;exact q1 h0 _ _ (AK'.same s2) (f'.trans (A5 s2)) (Am AC (AS EZ (AS (by unfold Yh;rfl) AU)))
 have dx:d'≠x:=fun z=>by rw[z,hx]at gd;cases gd
 have e0:ExcAt (upd H' x (BY x (.ref T.C_NoThing) (some d'))) x T.C_NoThing (some d'):=⟨AC,fun d2 e=>by cases e;exact⟨_,by rw[AH dx];exact gd⟩⟩;have g0:upd H' x (BY x (.ref T.C_NoThing) (some d')) d'=some (XdO d' (ML j)):=by rw[AH dx];exact gd
 have s0:=s'.trans (Yc.upd (o:=BY x (.ref T.C_NoThing) (some d')) hx);generalize upd H' x (BY x (.ref T.C_NoThing) (some d'))=H2 at *;have es:∀{H3},Yc H2 H3->ExcAt H3 x T.C_NoThing (some d'):=fun s=>⟨s _ _ e0.1,fun d' e=>let ⟨o,g⟩:=e0.2 d' e;⟨o,s _ _ g⟩⟩
 refine⟨smq rfl,fun p1 h1=>?_⟩;have s1:=Yc.upd (o:=.tup [.str "odd"]) h1;refine⟨_,_,_,es s1,T.xc_NoThing,.inl T.kk_NoThing_Alike,_,_,_,es s1,T.xc_NoThing,.inl T.kk_NoThing_NoName,_,_,_,es s1,T.xc_NoThing,.inl T.kk_NoThing_NoRow,_,_,_,es s1,T.xc_NoThing,.inl T.kk_NoThing_NoTable,smq rfl,fun lo hlo=>?_⟩;have s2:=s1.trans (Yc.upd (o:=.lst [.bl false,.bl false,.bl false,.bl false]) hlo);dsimp only[Af];refine⟨_,.inl (.of AC),rfl,rfl,?_⟩;refine⟨_,_,true,es s2,T.xc_NoThing,.inl T.kk_NoThing_NoThing,?_⟩;refine⟨smq rfl,fun p2 h2=>?_⟩;have s3:=s2.trans (Yc.upd (o:=.tup [.ref T.C_NoText,.ref T.C_NoEnd]) h2);refine⟨_,_,false,es s3,T.xc_NoThing,.inr ⟨[T.C_NoText,T.C_NoEnd],AC,?_⟩,?_⟩
 ·simp only[List.map,W.kitAny,T.kk_NoThing_NoText,T.kk_NoThing_NoEnd]
 refine⟨_,d',_,_,es s3,s3 _ _ g0,T.xc_NoThing,T.na_NoThing_question,T.hd_NoThing,rfl,_,_,true,es s3,T.xc_NoThing,T.kk_NoThing_ValueError,smq rfl,fun p3 h3=>?_⟩;have s4:=s3.trans (Yc.upd (o:=.tup [.str "none",.int (j:Nat),.bl true]) h3);exact q2 h0 _ _ (s0.trans s4) (Am AC (AS EZ (AS CV (AS (by unfold Yh;rfl) AU))))
theorem Cc(ls:List Int)(rs:List (List Bool)):Bh (gmD ls rs)=true:=by
 have h1:∀ls:List Int,Az (ls.map Dv.int)=true:=by
  intro ls
  induction ls with
  | nil=>rfl
  | cons i ls ih =>
   show(true && Az (ls.map Dv.int))=true
   rw[ih];rfl
 show(Az (ls.map Dv.int) && (Az (Ae rs) && true))=true
 rw[h1,Ce];rfl
noncomputable def BQ(X:List Addr)(H:Hp):Prop:=∀x∈X,∃o,H x=some o/\Be o/\∀ns:List Int,o≠.lst (ns.map V.int)
theorem Hq(xs:List Nat):iL xs=(xs.map fun(n:Nat)=>(n:Int)).map V.int:=by unfold iL;rw[Z3];rfl
section
variable {X:List Addr}{H H':Hp}
theorem B2(f:FrX X H H')(O:BQ X H){b:Addr}(e:H b=some (.tup xs)):H' b=some (.tup xs):=f _ _ (fun z=>by obtain⟨o,h1,h2,_⟩:=O b z;rw[e]at h1;exact h2.1 xs (ZQ h1).symm) e
theorem JS(f:FrX X H H')(O:BQ X H){b:Addr}(e:Yq K H b xs):Yq K H' b xs:=by
 rcases e with (e | ⟨ob,e⟩) | e
 ·exact .inl (.inl (B2 f O e))
 ·exact .inl (.inr ⟨ob,f _ _ (fun z=>by obtain⟨o,h1,h2,_⟩:=O b z;rw[e]at h1;exact h2.2 _ _ (ZQ h1).symm) e⟩)
 ·exact .inr e
theorem E5(f:FrX X H H')(O:BQ X H){b:Addr}{ns:List Int}(e:H b=some (.lst (ns.map V.int))):H' b=some (.lst (ns.map V.int)):=f _ _ (fun z=>by obtain⟨o,h1,_,h2⟩:=O b z;rw[e]at h1;exact h2 ns (ZQ h1).symm) e
theorem DK(f:FrX X H H')(O:BQ X H){d:Dv}(hd:Bh d=true)(h:Yh K H d v):Yh K H' d v:=Yh.mv (fun _ _ e=>JS f O e) d v hd h
theorem ES(f:FrX X H H')(O:BQ X H)(F:GFeed H t N)(ht:t∉X):GFeed H' t N:=by
 obtain⟨l,i,gg,c,ns,h1,h2,h3,h4,h5,h6,h7,h8⟩:=F.at_;exact⟨l,i,gg,c,ns,h1,h2,h3,h4,f _ _ ht h5,h6,E5 f O h7,h8⟩
theorem QY{r:Addr}(R:RkAt K C ls ys H r d)(f:FrX X H H')(O:BQ X H)(hr:r∉X)(hd:d∉X):RkAt K C ls ys H' r d:=by
 obtain⟨dx,tl,yl,al,as,Yg,h1,h2,h3,h4,h5,h6,h7,h8⟩:=R.at_;refine⟨⟨dx,tl,yl,al,as,Yg,f _ _ hr h1,JS f O h2,?_,?_,f _ _ hd h5,h6,h7,h8⟩,R.l16,R.y16⟩
 ·rw[Hq]at h3 ⊢;exact E5 f O h3
 ·rw[Hq]at h4 ⊢;exact E5 f O h4
theorem Fb{r:Addr}(a:AkAt K CA CR ls ys H p r d S)(f:FrX X H H')(O:BQ X H)(hp:p∉X)(hr:r∉X)(hd:d∉X):AkAt K CA CR ls ys H' p r d S:=by
 obtain⟨dx,h⟩:=a.ob;exact⟨⟨dx,f _ _ hp h⟩,QY a.rk f O hr hd,a.ne,a.lt,a.s0,a.can⟩
end
theorem Bb(h:H a=some o)(h1:Be o)(h2:∀xs,o≠.lst xs):∃o,H a=some o/\Be o/\∀ns:List Int,o≠.lst (ns.map V.int):=⟨o,h,h1,fun _ z=>h2 _ z⟩
theorem IQ:Be (.lst xs):=⟨(fun _ z=>nomatch z),(fun _ _ z=>nomatch z)⟩
theorem K4{ps:Array Value}:Be (.tbl ps):=⟨(fun _ z=>nomatch z),(fun _ _ z=>nomatch z)⟩
theorem Bk(h:∃o,H a=some o/\Be o/\∀ns:List Int,o≠.lst (ns.map V.int)):BQ [a] H:=fun x hx=>by rw[ZF.mp hx];exact h
theorem C0(h:∃o,H a=some o/\Be o/\∀ns:List Int,o≠.lst (ns.map V.int))(O:BQ X H):BQ (a::X) H:=fun x hx=>by
 rcases ZI.mp hx with rfl | hx
 ·exact h
 ·exact O x hx
structure SdA where
 l:Addr
 p:Addr
 r:Addr
 d:Addr
 kd:Addr
structure Sd(K:W.Frag)(CA CR:Addr)(H:Hp)(A:SdA)(ga:Addr)(ls:List Int)(rs:List (List Bool))(tp:Addr)(ts:List Nat)(Yg:List (List Key × V)):Prop where
 lst:H A.l=some (.lst [.ref A.p,.ref ga,.ref tp,.ref A.kd])
 ak:AkAt K CA CR ls (rs.map AV) H A.p A.r A.d (msk ts)
 gm:Yh K H (gmD ls rs) (.ref ga)
 tp:H tp=some (.tup (iL ts))
 rise:ts.Pairwise (· < ·)
 lt:∀t∈ts,t < ls.length
 kd:H A.kd=some (.dT Yg)
 mm:NMemo ls rs Yg
noncomputable def Off(X:List Addr)(A:SdA):Prop:=A.l∉X/\A.p∉X/\A.r∉X/\A.d∉X/\A.kd∉X
theorem Sd.fr{ga tp:Addr}{A:SdA}(n:Sd K CA CR H A ga ls rs tp ts Yg)(f:FrX X H H')(O:BQ X H)(h:Off X A):Sd K CA CR H' A ga ls rs tp ts Yg :=
 ⟨f _ _ h.1 n.lst,Fb n.ak f O h.2.1 h.2.2.1 h.2.2.2.1,DK f O (Cc _ _) n.gm,B2 f O n.tp,n.rise,n.lt,f _ _ h.2.2.2.2 n.kd,n.mm⟩
theorem Sd.same{ga tp:Addr}{A:SdA}(n:Sd K CA CR H A ga ls rs tp ts Yg)(s:Yc H H'):Sd K CA CR H' A ga ls rs tp ts Yg :=
 ⟨s _ _ n.lst,n.ak.same s,Yh.same s _ _ n.gm,s _ _ n.tp,n.rise,n.lt,s _ _ n.kd,n.mm⟩
theorem ON(h:FirstQ ls ys S j)(g:FirstQ ls ys S k):j=k:=by
 rcases Z2 j k with z | z | z
 ·have:=g.lt j h.mem z
  have:=h.le k g.mem
  lia
 ·exact z
 ·have:=h.lt k g.mem z
  have:=g.le j h.mem
  lia
theorem EG{i:Int}(h:i.natAbs<=100000000000000000000):Cj i=true:=by
 unfold Cj;refine ZT ?_
 by_cases z:i.natAbs=0
 ·rw[z];decide
 ·exact ZBF ((Nat.log2_lt z).mpr (Nat.lt_of_le_of_lt h (show 100000000000000000000 < 2 ^ 70 by decide))) (by decide)
noncomputable abbrev C5(d:Dv):Prop:=CQ d=true/\B6 d<=8000/\AY d<=60
theorem Sw(h:∀t∈ts,t < 100)(hl:ts.length<=100):C5 (.tup (iD ts)):=by
 have a:∀ts:List Nat,(∀t∈ts,t < 100)->Cn (iD ts)=true/\Cb (iD ts)=ts.length:=by
  intro ts
  induction ts with
  | nil=>exact fun _=>⟨rfl,rfl⟩
  | cons t ts ih =>
   intro h;obtain⟨h1,h2⟩:=ih fun x hx=>h x (ZW _ hx)
   have ht:=h t (Zg ..);refine⟨?_,?_⟩
   ·show(Cj (t:Int) && Cn (iD ts))=true
    rw[EG (by lia),h1];rfl
   ·show 0+1+Cb (iD ts)=ts.length+1;lia
 obtain⟨h1,h2⟩:=a ts h;refine⟨h1,?_,?_⟩
 ·show Cb (iD ts)<=8000;lia
 ·unfold AY;rw[EO];decide
theorem OQ{i:Int}(h:i.natAbs<=100000000000000000000):C5 (.int i):=⟨EG h,ZP _,ZP _⟩
theorem Pg{i:Int}(h:i.natAbs<=100000000000000000000):C5 (.tup [.non,.int i]):=by
 refine⟨?_,?_,?_⟩
 ·show(true && (Cj i && true))=true
  rw[EG h];rfl
 ·show 0+1+(0+1+0)<=8000;decide
 ·show max 0 (max 0 0)+1<=60;decide
theorem Sz{i:Int}(h:i.natAbs<=100000000000000000000):C5 (.tup [.int i,.non]):=by
 refine⟨?_,?_,?_⟩
 ·show(Cj i && (true && true))=true
  rw[EG h];rfl
 ·show 0+1+(0+1+0)<=8000;decide
 ·show max 0 (max 0 0)+1<=60;decide
theorem N5(hp:ts.Pairwise (· < ·))(hl:∀t∈ts,t < N):B5 (msk ts)=ts:=HE _ _ (SA _) hp fun k=>by
 rw[mem_memS,(Bo hp hl).2 k,decide_eq_true_iff]
theorem KQ(L:BG Pt H)(hd:H d=some (.dT Yg))(f:Yk d H H'):BG Pt H':=by
 obtain⟨ps,a,b,c⟩:=L;refine⟨ps,f _ _ (AN a hd (by intro z;cases z)) a,b,?_⟩
 rcases c with c | ⟨c',c,e⟩
 ·exact .inl c
 ·exact .inr ⟨c',c,f _ _ (AN e hd (by intro z;cases z)) e⟩
noncomputable def DT(K:W.Frag)(CA CR PA:Addr):Sp:=fun vs H Q _=>match vs with
 | [.ref p,u,.ref tp,.ref kd]=>∃r d ls rs ts Yg,AkAt K CA CR ls (rs.map AV) H p r d (msk ts)/\Yh K H (gmD ls rs) u/\Gm ls rs/\Ax ls rs/\H tp=some (.tup (iL ts))/\ts.Pairwise (· < ·)/\(∀t∈ts,t < ls.length)/\H kd=some (.dT Yg)/\NMemo ls rs Yg/\BG PA H /\
  ∀(kvs':List (List Key × V)) H',AkAt K CA CR ls (rs.map AV) H' p r d (msk ts)->H' kd=some (.dT kvs')->NMemo ls rs kvs'->BG PA H'->FrX [d,PA,kd] H H'->Q (.bl true) H'
 | _=>False
theorem Uj{PA:Addr}:AZ (DT K CA CR PA):=fun vs H Q Q' E h q=>by
 unfold DT at *;walk_at "q"
theorem Pp(B:BMn mg base):Xa P w base T.z20 79 (DT K T.C_Asking T.C_Reckoner T.p_z10):=by
 refine T.z20.F.ok sc_z20 (fun vs H Q E h=>by unfold DT at h;walk_at "e") ?_;walk_at "f";unfold DT at h;walk_at "g"
 rename_i p u tp kd;obtain⟨r,d,ls,rs,ts,Yg,AK,hg,G,he,htp,hrise,Ym,hkd,M,L,q⟩:=h;have mo1:AZ (Bi K 17):=Er;have mo2:AZ (DC K):=NL;have mo3:AZ (Dg K T.C_Asking T.C_Reckoner T.p_z10):=OC;have mo4:AZ (Di K T.C_Asking T.C_Reckoner):=PV;have mo5:AZ (Db K T.C_Asking T.C_Reckoner):=Vg;have mo6:AZ (DW K T.C_Asking T.C_Reckoner):=Pu;have l16:=G.l16;have tl16:=E4 hrise Ym;obtain⟨dp0,hp0⟩:=id AK.ob;obtain⟨_,_,_,_,_,kvd,hr0,_,_,_,hd0,_⟩:=id AK.rk.at_;obtain⟨psL,hPA0,_⟩:=id L;have npk:p≠kd:=AN hp0 hkd (by intro z;cases z);have nrk:r≠kd:=AN hr0 hkd (by intro z;cases z);have ndk:d≠kd:=AN hd0 hkd (by intro z;cases z);have eT:(msk ts).testBit=fun k=>decide (k∈ts):=E9 hrise Ym
 have kAK:∀{H1 H2:Hp} {kv:List (List Key × V)},AkAt K T.C_Asking T.C_Reckoner ls (rs.map AV) H1 p r d (msk ts)->H1 kd=some (.dT kv)->Yk kd H1 H2->AkAt K T.C_Asking T.C_Reckoner ls (rs.map AV) H2 p r d (msk ts):=fun a h f=>Fb a (FrX.frm f (ZF.mpr rfl)) (Bk (Bb h B0 fun _ z=>nomatch z)) (by simp[npk]) (by simp[nrk]) (by simp[ndk])
 refine⟨_,(@AF _ _ _ _ _ (@AO _ _ 4 _ _ _ _ sc_z20.nd rfl (by right) (AJ (@GO P w K mg base T) (hr.mono (show 19<=_ by decide)) rfl T.z48.m T.z48.F.kp T.z48.b .nil AG (AA (vv 1) (AA (vv 2) (AA (vv 3) AB)))) (by rfl) (by symm)) (@AF _ _ _ _ _ (@AO _ _ 5 _ _ _ _ sc_z20.nd rfl (by right) (DQ (Ak (kEq (K:=K) hu) (vv 4) AD) (A2 (AA B7 (AA (Yo (K:=K) (Yo (K:=K) (vv 1) AD) (Yo (K:=K) (vv 2) AD)) AB))) (A2 (AA (AJ (@J1 P w K mg base T) (hr.mono (show 20<=_ by decide)) rfl T.z41.m T.z41.F.kp T.z41.b .nil AG (AA (vv 1) (AA (vv 2) (AA (vv 3) AB)))) (AA B7 AB)))) (by rfl) (by symm)) (@AF _ _ _ _ _ (@Aw _ _ _ _ _ _ _ _ (Ak (kNe (K:=K) hu) (AX (Co (K:=K) hr) rfl T.z_repr (by rfl) (AA (A2 (AA (EN (vv 0) T.cl_Asking T.z33.m (@O8 P w K mg base T B) (hr.mono (show 78<=_ by decide)) T.z33.b .nil AG) (AA (EN (vv 0) T.cl_Asking T.z24.m (@Ud P w K mg base T) (hr.mono (show 6<=_ by decide)) T.z24.b .nil AG) AB))) AB)) (AX (Co (K:=K) hr) rfl T.z_repr (by rfl) (AA (vv 5) AB))) (@AI _ _ _ (@AR _ _ _ _ Bs)) Av) (@AI _ _ _ (@AR _ _ _ _ (Qe (Ba (kEq (K:=K) hu) (AX (Co (K:=K) hr) rfl T.z_repr (by rfl) (AA (EN (vv 0) T.cl_Asking T.z27.m (@Ro P w K mg base T) (hr.mono (show 5<=_ by decide)) T.z27.b .nil AG) AB)) (AX (Co (K:=K) hr) rfl T.z_repr (by rfl) (AA (vv 2) AB))) (Rl (Ba (kEq (K:=K) hu) (AX (Co (K:=K) hr) rfl T.z_repr (by rfl) (AA (EN (vv 0) T.cl_Asking T.z31.m (@Nl P w K mg base T) (hr.mono (show 73<=_ by decide)) T.z31.b .nil AG) AB)) (AX (Co (K:=K) hr) rfl T.z_repr (by rfl) (AA (vv 4) AB)))))))))),?_⟩;generalize hPA:T.p_z10=PA at *;refine⟨ls,rs,ts,Yg,hg,G,he,htp,hrise,Ym,by lia,hkd,M,fun m kvs1 H1 hm f1 hkd1 M1=>?_⟩;dsimp only[Af];have em:=Mi hrise Ym hm;have fz:=NG hm;have AK1:=kAK AK hkd f1;have hg1:Yh K H1 (gmD ls rs) u:=DK (FrX.frm f1 (ZF.mpr rfl)) (Bk (Bb hkd B0 fun _ z=>nomatch z)) (Cc _ _) hg;have htp1:H1 tp=some (.tup (iL ts)):=B2 (FrX.frm f1 (ZF.mpr rfl)) (Bk (Bb hkd B0 fun _ z=>nomatch z)) htp;have L1:BG PA H1:=KQ L hkd f1
 have lab_sm:∀t∈ts,(AE ls t).natAbs<=100000000000000000000:=fun t ht=>by
  have:=Ym t ht
  unfold AE;rw[ZV,ZE this];exact G.sm _ (Zl this)
 have fq16:∀{j:Nat},FirstQ ls (rs.map AV) (msk ts) j->j < 16:=fun h=>by
  have h1:=(Zm.mp h.mem).1;have h1:=Zn.mp h1;rw[ZC]at h1
  have:=G.r16
  lia
 refine Ag (fun σ H'=>∃(dv:V) (D2:Dv) (kvs2:List (List Key × V)),σ=[some (.ref p),some u,some (.ref tp),some (.ref kd),some (.int (m:Nat)),some dv]/\Yk kd H1 H'/\H' kd=some (.dT kvs2)/\NMemo ls rs kvs2/\Yh K H' D2 dv/\Bh D2=true/\C5 D2/\((One (AE ls) (msk ts).testBit/\∃t0∈ts,D2=.tup [.non,.int (AE ls t0)])\/(¬One (AE ls) (msk ts).testBit/\∃j,FirstQ ls (rs.map AV) (msk ts) j/\D2=.tup [.int (j:Nat),.non]))) ?_ ?_ (by walk_at "sm")
 ·by_cases o:One (AE ls) (fun k=>decide (k∈ts))
  ·obtain rfl:=fz.mpr o
   obtain⟨t0,r0,rfl⟩:∃t0 r0,ts=t0::r0:=by
    cases ts with
    | nil=>exact absurd rfl AK.s0
    | cons t0 r0=>exact⟨t0,r0,rfl⟩
   have ht0:=Ym t0 (Zg ..);obtain⟨ga,tl,rl,ps,rfl,g⟩:=CI hg1;refine⟨_,.ref tl,.inr g.two,rfl,_,.int (t0:Nat),.inr (.of htp1),Ai (n:=0) rfl rfl,_,.int (AE ls t0),.inr g.lab,Ci ht0,smq rfl,fun dv hdv=>?_⟩;have s2:=Yc.upd (o:=.tup [.non,.int (AE ls t0)]) hdv;exact⟨_,_,kvs1,rfl,A5 s2,s2 _ _ hkd1,M1,Am AC (AS (by unfold Yh;rfl) (AS (by unfold Yh;rfl) AU)),rfl,Pg (lab_sm t0 (Zg ..)),.inl ⟨by rw[eT];exact o,t0,Zg ..,rfl⟩⟩
  ·have m0:m≠0:=fun z=>o (fz.mp z)
   refine Ao (fun e=>?_) (fun _=>?_)
   ·have e:(false ^^ (((m:Nat):Int) == 0))=true:=e;rw[Zs,beq_iff_eq]at e;lia
   ·refine⟨ls,rs,ts,kvs1,hg1,G,he,htp1,hrise,Ym,o,hkd1,M1,fun j kvs2 H2 fq f2 hkd2 M2=>⟨smq rfl,fun dv hdv=>?_⟩⟩;have s3:=Yc.upd (o:=.tup [.int (j:Nat),.non]) hdv;exact⟨_,_,kvs2,rfl,f2.trans (A5 s3),s3 _ _ hkd2,M2,Am AC (AS (by unfold Yh;rfl) (AS (by unfold Yh;rfl) AU)),rfl,Sz (by have:=fq16 fq;lia),.inr ⟨by rw[eT];exact o,j,fq,rfl⟩⟩
 rintro σ H2 ⟨dv,D2,kvs2,rfl,f2,hkd2,M2,rd2,tD2,⟨d1,d2,d3⟩,hD2⟩;have X1:=FrX.frm f2 (ZF.mpr rfl);have O1:=Bk (Bb hkd1 B0 fun _ z=>nomatch z);have AK2:=kAK AK1 hkd1 f2;have L2':BG PA H2:=KQ L1 hkd1 f2;have htp2:=B2 X1 O1 htp1;have F02:FrX [d,PA,kd] H H2:=(FrX.frm f1 (by simp)).trans (FrX.frm f2 (by simp))
 have OO:∀{H':Hp} {kv:List (List Key × V)},AkAt K T.C_Asking T.C_Reckoner ls (rs.map AV) H' p r d (msk ts)->BG PA H'->H' kd=some (.dT kv)->BQ [d,PA,kd] H':=fun a l k=>by
  obtain⟨_,_,_,_,_,kv',_,_,_,_,h5,_⟩:=a.rk.at_;obtain⟨ps,hP,_⟩:=l;exact C0 (Bb h5 Gu fun _ z=>nomatch z) (C0 (Bb hP K4 fun _ z=>nomatch z) (Bk (Bb k B0 fun _ z=>nomatch z)))
 have nkP:kd≠PA:=AN hkd hPA0 (by intro z;cases z);have DP:∀{H1' H2':Hp} {kv:List (List Key × V)},H1' kd=some (.dT kv)->FrX [d,PA] H1' H2'->H2' kd=some (.dT kv):=fun h f=>f _ _ (by simp[Ne.symm ndk,nkP]) h
 refine Ag (fun σ H'=>σ=[some (.ref p),some u,some (.ref tp),some (.ref kd),some (.int (m:Nat)),some dv]/\AkAt K T.C_Asking T.C_Reckoner ls (rs.map AV) H' p r d (msk ts)/\H' kd=some (.dT kvs2)/\BG PA H'/\FrX [d,PA,kd] H2 H') ?_ ?_ (by walk_at "sm")
 ·obtain⟨dp2,hp2⟩:=AK2.ob;refine⟨p,dp2,_,rfl,hp2,na1 _ _,ls,_,r,d,_,AK2,L2',fun o H3 s3=>?_,fun no j H3 fq AK3 f3 L3=>?_⟩
  ·rcases hD2 with ⟨_,t0,ht0,rfl⟩ | ⟨no,_⟩
   rotate_left
   ·exact absurd o no
   have AK3:=AK2.same s3;refine⟨p,dp2,_,rfl,s3 _ _ hp2,na4 _ _,ls,_,r,d,_,AK3,fun _ k H4 hk s4=>?_,fun no=>absurd o no⟩;have ek:AE ls k=AE ls t0:=o k t0 hk (by rw[eT];exact ZT ht0);rw[ek];refine⟨smq rfl,fun p1 h1=>?_⟩;have s5:=Yc.upd (o:=.tup [.non,.int (AE ls t0)]) h1;have S:=s3.trans (s4.trans s5);refine⟨_,Am AC (AS (by unfold Yh;rfl) (AS (by unfold Yh;rfl) AU)),d1,d2,d3,?_⟩;refine⟨_,Yh.same S _ _ rd2,d1,d2,d3,?_⟩;generalize BI (.tup [.non,.int (AE ls t0)])=SS;exact Ao (fun e=>absurd e (by simp)) (fun _=>⟨rfl,AK2.same S,S _ _ hkd2,L2'.same S,FrX.same S⟩)
  ·rcases hD2 with ⟨o,_⟩ | ⟨_,j0,fq0,rfl⟩
   ·exact absurd o no
   obtain rfl:=ON fq0 fq;obtain⟨dp3,hp3⟩:=AK3.ob;have hkd3:=DP hkd2 f3;have X3:FrX [d,PA,kd] H2 H3:=f3.up (by simp);have rd3:=DK X3 (OO AK2 L2' hkd2) tD2 rd2;refine⟨p,dp3,_,rfl,hp3,na4 _ _,ls,_,r,d,_,AK3,fun o=>absurd o no,fun _ H4 s4=>?_⟩;refine⟨smq rfl,fun p1 h1=>?_⟩;have s5:=Yc.upd (o:=.tup [.int (j0:Nat),.non]) h1;have S:=s4.trans s5;refine⟨_,Am AC (AS (by unfold Yh;rfl) (AS (by unfold Yh;rfl) AU)),d1,d2,d3,?_⟩;refine⟨_,Yh.same S _ _ rd3,d1,d2,d3,?_⟩;generalize BI (.tup [.int (j0:Nat),.non])=SS;exact Ao (fun e=>absurd e (by simp)) (fun _=>⟨rfl,AK3.same S,S _ _ hkd3,L3.same S,X3.trans (FrX.same S)⟩)
 rintro σ H3 ⟨rfl,AK3,hkd3,L3,X3⟩;have htp3:=B2 X3 (OO AK2 L2' hkd2) htp2;obtain⟨dp3,hp3⟩:=AK3.ob;obtain⟨i1,i2,i3⟩:=Sw (ts:=ts) (fun t ht=>by have:=Ym t ht;lia) (by lia);have hm16:m<=16:=by have:=Mc he Ym hm;lia
 obtain⟨j1,j2,j3⟩:=OQ (i:=((m:Nat):Int)) (by lia);refine⟨p,dp3,_,rfl,hp3,na3 _ _,ls,_,r,d,_,AK3,fun t H4 ht4 s4 gt4=>?_⟩;rw[N5 hrise Ym]at gt4;refine⟨_,Am gt4 (Cr ts),i1,i2,i3,_,Am (s4 _ _ htp3) (Cr ts),i1,i2,i3,?_⟩;generalize BI (.tup (iD ts))=SS;have e0:(false ^^ (SS == SS))=true:=by simp
 show if (false ^^ (SS == SS))=true then _ else _
 rw[e0];have AK4:=AK3.same s4;refine⟨p,dp3,_,rfl,s4 _ _ hp3,na5 _ _,ls,_,r,d,_,AK4,fun H5 AK5 f5=>?_⟩;rw[em];refine⟨.int (m:Nat),by unfold Yh;rfl,j1,j2,j3,.int (m:Nat),by unfold Yh;rfl,j1,j2,j3,?_⟩;generalize BI (.int (m:Nat))=S2;have e2:(false ^^ (S2 == S2))=true:=by simp
 have hkd5:=f5 _ _ (Ne.symm ndk) (s4 _ _ hkd3);have X5:FrX [d,PA,kd] H3 H5:=(FrX.same s4).trans (FrX.frm f5 (by simp))
 have L5:BG PA H5:=by
  obtain⟨_,_,_,_,_,kv',_,_,_,_,h5,_⟩:=id AK4.rk.at_;exact Dy (L3.same s4) f5 h5 (.inr (.inl ⟨_,rfl⟩))
 have q':=q kvs2 H5 AK5 hkd5 M2 L5 (F02.trans (X3.trans X5));show Q (.bl (false ^^ (S2 == S2))) H5;rw[e2];exact q'
section
variable {CA CR ga tp t:Addr}{N:Nat}{H H':Hp}{A:SdA}{ls:List Int}{rs:List (List Bool)}{ts:List Nat}{Yg kvs':List (List Key × V)}
theorem JM(F:GFeed H t N):∃o,H t=some o/\Be o/\∀ns:List Int,o≠.lst (ns.map V.int):=by
 obtain⟨l,i,gg,c,ns,_,_,_,_,ht,_⟩:=F.at_;refine⟨_,ht,IQ,fun ns z=>?_⟩;injection z with z
 cases ns with
 | nil=>cases z
 | cons x r=>cases z
theorem Gn{l:Addr}(h:H l=some (.lst (.ref a::xs))):∃o,H l=some o/\Be o/\∀ns:List Int,o≠.lst (ns.map V.int):=⟨_,h,IQ,fun ns z=>by
 injection z with z
 cases ns with
 | nil=>cases z
 | cons x r=>cases z⟩
theorem Sd.kinds(n:Sd K CA CR H A ga ls rs tp ts Yg):(∃dx,H A.p=some (.ins CA dx (akF A.r (msk ts))))/\(∃dx fs,H A.r=some (.ins CR dx fs))/\∃kv,H A.d=some (.dK kv):=by
 obtain⟨dx,tl,yl,al,as,kv,h1,_,_,_,h5,_⟩:=n.ak.rk.at_;exact⟨n.ak.ob,⟨_,_,h1⟩,_,h5⟩
theorem Sd.not_t(n:Sd K CA CR H A ga ls rs tp ts Yg)(F:GFeed H t N):Off [t] A:=by
 obtain⟨l,i,gg,c,ns,_,_,_,_,ht,_⟩:=F.at_;obtain⟨⟨dx,h1⟩,⟨_,_,h2⟩,kv,h3⟩:=n.kinds;refine⟨fun z=>?_,fun z=>?_,fun z=>?_,fun z=>?_,fun z=>?_⟩
 ·have h:=n.lst;rw[ZF.mp z,ht]at h;have h:=ZQ h;injection h with h
  cases h
 ·rw[ZF.mp z,ht]at h1;cases h1
 ·rw[ZF.mp z,ht]at h2;cases h2
 ·rw[ZF.mp z,ht]at h3;cases h3
 ·have h:=n.kd;rw[ZF.mp z,ht]at h;cases h
theorem Sd.drew(n:Sd K CA CR H A ga ls rs tp ts Yg)(F:GFeed H t N)(f:∀b,b≠t->H' b=H b):Sd K CA CR H' A ga ls rs tp ts Yg:=n.fr (FrX.frm (Ab f) (ZF.mpr rfl)) (Bk (JM F)) (n.not_t F)
theorem Sd.kdl(n:Sd K CA CR H A ga ls rs tp ts Yg):BQ [A.kd] H:=Bk (Bb n.kd B0 fun _ z=>nomatch z)
theorem Sd.known(n:Sd K CA CR H A ga ls rs tp ts Yg)(f:Yk A.kd H H')(h:H' A.kd=some (.dT kvs'))(M:NMemo ls rs kvs'):Sd K CA CR H' A ga ls rs tp ts kvs':=by
 obtain⟨⟨dx,h1⟩,⟨_,_,h2⟩,kv,h3⟩:=n.kinds;have X:=FrX.frm f (ZF.mpr (rfl:A.kd=A.kd));have k:=n.kd;exact⟨f _ _ (AN n.lst k (by intro z;cases z)) n.lst,Fb n.ak X n.kdl (by simp[AN h1 k (by intro z;cases z)]) (by simp[AN h2 k (by intro z;cases z)]) (by simp[AN h3 k (by intro z;cases z)]),DK X n.kdl (Cc _ _) n.gm,B2 X n.kdl n.tp,n.rise,n.lt,h,M⟩
theorem Sd.kfeed(n:Sd K CA CR H A ga ls rs tp ts Yg)(F:GFeed H t N)(f:Yk A.kd H H'):GFeed H' t N:=ES (FrX.frm f (ZF.mpr rfl)) n.kdl F (fun z=>(n.not_t F).2.2.2.2 (ZF.mpr (ZF.mp z).symm))
theorem Sj(hj:rs[j]? = some r)(hp:ts.Pairwise (· < ·))(hl:∀t∈ts,t < ls.length)(ans:Bool):lfA (msk ts) (rs.map AV) j ans=msk (AM r ans ts):=by
 have e:(rs.map AV).getD j 0=AV r:=by rw[ZV,ZR,hj];rfl
 unfold lfA;rw[e];cases ans with
 | true=>rw[if_pos rfl,Ma hp hl]
 | false=>rw[if_neg (by decide),NI hp hl]
theorem msk_zero:∀{ts:List Nat},msk ts=0 ↔ ts=[]
 | []=>⟨fun _=>rfl,fun _=>rfl⟩
 | t::ts=>by
  rw[D7]
  have:=ZBd t
  exact⟨fun h=>by lia,fun h=>by cases h⟩
end
theorem TU:C5 (.tup [.str "told",.non]):=by
 refine⟨?_,?_,?_⟩
 ·show((Str.ofString "told").cps.toList.all (fun c=>decide (c < 16 ^ 8)) && (true && true))=true
  decide
 ·show(Str.ofString "told").cps.size+1+(0+1+0)<=8000
  decide
 ·show max 0 (max 0 0)+1<=60;decide
theorem VE{i:Int}(h:i.natAbs<=100000000000000000000):C5 (.tup [.str "none",.int i,.bl true]):=by
 refine⟨?_,?_,?_⟩
 ·show((Str.ofString "none").cps.toList.all (fun c=>decide (c < 16 ^ 8)) && (Cj i && (true && true)))=true
  rw[EG h];decide
 ·show(Str.ofString "none").cps.size+1+(0+1+(0+1+0))<=8000
  decide
 ·show max 0 (max 0 (max 0 0))+1<=60;decide
noncomputable def DV(K:W.Frag)(CA CR:Addr):Sp:=fun vs H Q _=>match vs with
 | [.ref t,.ref l]=>∃(N:Nat) (A:SdA) (ga:Addr) (ls:List Int) (rs:List (List Bool)) (tp:Addr) (ts:List Nat) (Yg:List (List Key × V)),GFeed H t N/\N<=800000000/\l=A.l/\Sd K CA CR H A ga ls rs tp ts Yg/\Gm ls rs/\Ax ls rs /\
  ∀(tp':Addr) (ts':List Nat) (kvs':List (List Key × V)) H',GFeed H' t (N+5)->Sd K CA CR H' A ga ls rs tp' ts' kvs'->FrX [t,A.kd,A.l,A.p] H H'->Q (.bl true) H'
 | _=>False
theorem SX:AZ (DV K CA CR):=fun vs H Q Q' E h q=>by
 unfold DV at *;walk_at "q"
theorem PY:Xa P w base T.z46 21 (DV K T.C_Asking T.C_Reckoner):=by
 have G_z47:=@C9 P w K mg base T;refine T.z46.F.ok sc_z46 (fun vs H Q E h=>by unfold DV at h;walk_at "e") ?_;walk_at "f";have hr_z47:=hr.mono (show 1<=_ by decide);unfold DV at h;walk_at "g"
 rename_i t l;obtain⟨N,A',ga,ls,rs,tp,ts,Yg,F,hN,e1,n,G,he,q⟩:=h;subst e1;have mo1:AZ (Bi K 17):=Er;have mo2:AZ (DC K):=NL;have mo3:AZ (Cq K):=JQ;have mo4:AZ (Da K T.C_Asking T.C_Reckoner):=VH;have l16:=G.l16;have r1:=G.r1;have r16:=G.r16;have tl16:=E4 n.rise n.lt
 have t1:0 < ts.length:=by
  rcases ZB0 ts.length with z | z
  ·exact absurd (msk_zero.mpr (ZB2.mp z)) n.ak.s0
  ·exact z
 refine⟨_,(@AF _ _ _ _ _ (@Ct _ _ _ _ _ _ (vv 1) (Rs (K:=K) (n:=4) rfl (CO (AT (i:=2) sc_z46.nd rfl (by right)) (CO (AT (i:=3) sc_z46.nd rfl (by right)) (CO (AT (i:=4) sc_z46.nd rfl (by right)) (CO (AT (i:=5) sc_z46.nd rfl (by right)) E6))))) (by rfl) (by rfl) (by rfl)) (@AF _ _ _ _ _ (@AO _ _ 6 _ _ _ _ sc_z46.nd rfl (by right) (AJ G_z47 hr_z47 rfl T.z47.m T.z47.F.kp T.z47.b .nil AG (AA (vv 0) (AA (AX (BA (K:=K)) rfl T.z_len (by rfl) (AA (Yo (K:=K) (vv 3) AD) AB)) AB))) (by rfl) (by symm)) (@AF _ _ _ _ _ (@Aw _ _ _ _ _ _ _ _ (PW.pt (De (Ak (kEq (K:=K) hu) (AJ G_z47 hr_z47 rfl T.z47.m T.z47.F.kp T.z47.b .nil AG (AA (vv 0) (AA AD AB))) AD) (EF (Ak Hr (AJ (@GO P w K mg base T) (hr.mono (show 19<=_ by decide)) rfl T.z48.m T.z48.F.kp T.z48.b .nil AG (AA (vv 3) (AA (vv 4) (AA (vv 5) AB)))) AD)))) (@AI _ _ _ (@AO _ _ 6 _ _ _ _ sc_z46.nd rfl (by right) (AJ (@J1 P w K mg base T) (hr.mono (show 20<=_ by decide)) rfl T.z41.m T.z41.F.kp T.z41.b .nil AG (AA (vv 3) (AA (vv 4) (AA (vv 5) AB)))) (by rfl) (by symm))) Av) (@AF _ _ _ _ _ (@AO _ _ 7 _ _ _ _ sc_z46.nd rfl (by right) (Ba (kEq (K:=K) hu) (AJ G_z47 hr_z47 rfl T.z47.m T.z47.F.kp T.z47.b .nil AG (AA (vv 0) (AA AD AB))) AD) (by rfl) (by symm)) (@AF _ _ _ _ _ (@Aw _ _ _ _ _ _ _ _ (Ak Hr (AJ G_z47 hr_z47 rfl T.z47.m T.z47.F.kp T.z47.b .nil AG (AA (vv 0) (AA AD AB))) AD) (@AI _ _ _ (@AO _ _ 7 _ _ _ _ sc_z46.nd rfl (by right) (Yo (K:=K) (Yo (K:=K) (Yo (K:=K) (vv 3) AD) (vv 6)) (Yo (K:=K) (vv 4) (AJ G_z47 hr_z47 rfl T.z47.m T.z47.F.kp T.z47.b .nil AG (AA (vv 0) (AA (AX (BA (K:=K)) rfl T.z_len (by rfl) (AA (vv 4) AB)) AB))))) (by rfl) (by symm))) Av) (@AF _ _ _ _ _ (@AO _ _ 8 _ _ _ _ sc_z46.nd rfl (by right) (Yo (K:=K) (AJ (@IH P w K mg base T) (hr.mono (show 1<=_ by decide)) rfl T.z42.m T.z42.F.kp T.z42.b .nil AG (AA (vv 3) (AA (vv 4) (AA (vv 6) AB)))) (Ar GN rfl T.z_int (by rfl) (AA (vv 7) AB))) (by rfl) (by symm)) (@AF _ _ _ _ _ (@AO _ _ 9 _ _ _ _ sc_z46.nd rfl (by right) (DQ (Ak (kEq (K:=K) hu) (vv 8) (A2 AB)) (A2 (AA EA (AA (vv 6) (AA Bs AB)))) (A2 (AA EA (AA B7 AB)))) (by rfl) (by symm)) (@AF _ _ _ _ _ (@Aw _ _ _ _ _ _ _ _ (Ak (VC (K:=K) hu) (vv 8) (A2 AB)) (@AI _ _ _ (@Ct _ _ _ _ _ _ (vv 8) (C1 (vv 1) AD C8) (by rfl) (by rfl) (by rfl))) Av) (@AI _ _ _ (@AR _ _ _ _ (Ba (kEq (K:=K) hu) (AX (Co (K:=K) hr) rfl T.z_repr (by rfl) (AA (AJ (@Qu P w K mg base T) (hr.mono (show 4<=_ by decide)) rfl T.z28.m T.z28.F.kp T.z28.b .nil AG (AA (vv 2) (AA (vv 6) (AA (vv 7) AB)))) AB)) (AX (Co (K:=K) hr) rfl T.z_repr (by rfl) (AA (vv 9) AB))))))))))))),?_⟩;refine⟨_,.inl (.of n.lst),rfl,_,_,rfl,_,_,rfl,_,_,rfl,_,_,rfl,rfl,?_⟩;dsimp only[Af];obtain⟨ga',tl,rl,ps,ea,g⟩:=CI n.gm;cases ea;refine⟨_,.ref rl,.inr g.two,rfl,rs.length,.inr ⟨_,g.rows,by rw[ZC,g.len]⟩,_,F,by lia,An (by lia) (by lia),fun y H1 y0 y1 F1 f1=>?_⟩;obtain⟨j0,rfl⟩:=ZBk y0;dsimp only[Af];have n1:=n.drew F f1;clear g;refine Ag (fun σ H'=>∃(j:Nat) (kvs':List (List Key × V)),σ=[some (.ref t),some (.ref A'.l),some (.ref A'.p),some (.ref ga),some (.ref tp),some (.ref A'.kd),some (.int (j:Nat)),none,none,none]/\j < rs.length/\GFeed H' t (N+2)/\Sd K T.C_Asking T.C_Reckoner H' A' ga ls rs tp ts kvs'/\FrX [t,A'.kd,A'.l,A'.p] H H') ?_ ?_ (by walk_at "sm")
 ·refine⟨_,F1,by lia,An (by decide) (by decide),fun y2 H2 a0 a1 F2 f2=>?_⟩;have n2:=n1.drew F1 f2;have X2:FrX [t,A'.kd,A'.l,A'.p] H H2:=(FrX.frm (Ab f1) (by simp)).trans (FrX.frm (Ab f2) (by simp));refine Ao (fun e=>?_) (fun e=>⟨j0,Yg,rfl,by lia,F2,n2,X2⟩);refine⟨ls,rs,ts,Yg,n2.gm,G,he,n2.tp,n2.rise,n2.lt,by lia,n2.kd,n2.mm,fun m kvs3 H3 hm f3 hkd3 M3=>?_⟩;have n3:=n2.known f3 hkd3 M3;have F3:=n2.kfeed F2 f3;have X3:FrX [t,A'.kd,A'.l,A'.p] H H3:=X2.trans (FrX.frm f3 (by simp));refine Ao (fun e=>?_) (fun e=>⟨j0,kvs3,rfl,by lia,F3,n3,X3⟩);have m0:(0:Int) < (m:Nat):=ZZ e;refine⟨ls,rs,ts,kvs3,n3.gm,G,he,n3.tp,n3.rise,n3.lt,fun o=>?_,n3.kd,n3.mm,fun j kvs4 H4 fq f4 hkd4 M4=>?_⟩
  ·have:=(NG hm).mpr o
   lia
  ·have hj:=Zn.mp (Zm.mp fq.mem).1;rw[ZC]at hj;exact⟨j,kvs4,rfl,hj,n3.kfeed F3 f4,n3.known f4 hkd4 M4,X3.trans (FrX.frm f4 (by simp))⟩
 clear n1 F1 f1 y1;rintro σ H2 ⟨j,kvs2,rfl,hj,F2,n2,X2⟩;have er:rs[j]? = some rs[j]:=ZE hj;have hrl:rs[j].length=ls.length:=G.row _ (Zl hj);generalize rs[j]=r at *;refine Ag (fun σ H'=>∃(ans:Bool),σ=[some (.ref t),some (.ref A'.l),some (.ref A'.p),some (.ref ga),some (.ref tp),some (.ref A'.kd),some (.int (j:Nat)),some (.bl ans),none,none]/\GFeed H' t (N+3)/\Sd K T.C_Asking T.C_Reckoner H' A' ga ls rs tp ts kvs2/\FrX [t,A'.kd,A'.l,A'.p] H H') ?_ ?_ (by walk_at "sm")
 ·exact⟨_,F2,by lia,An (by decide) (by decide),fun y3 H3 a0 a1 F3 f3=>⟨_,rfl,F3,n2.drew F2 f3,X2.trans (FrX.frm (Ab f3) (by simp))⟩⟩
 clear F2 n2 X2 H2;rintro σ H2 ⟨ans0,rfl,F2,n2,X2⟩;refine Ag (fun σ H'=>∃(ans:Bool),σ=[some (.ref t),some (.ref A'.l),some (.ref A'.p),some (.ref ga),some (.ref tp),some (.ref A'.kd),some (.int (j:Nat)),some (.bl ans),none,none]/\GFeed H' t (N+5)/\Sd K T.C_Asking T.C_Reckoner H' A' ga ls rs tp ts kvs2/\FrX [t,A'.kd,A'.l,A'.p] H H') ?_ ?_ (by walk_at "sm")
 ·refine⟨_,F2,by lia,An (by decide) (by decide),fun y3 H3 a0 a1 F3 f3=>?_⟩;have n3:=n2.drew F2 f3;have X3:FrX [t,A'.kd,A'.l,A'.p] H H3:=X2.trans (FrX.frm (Ab f3) (by simp));refine Ao (fun e=>?_) (fun e=>⟨_,rfl,F3.mono (by lia),n3,X3⟩);obtain⟨ga',tl,rl,ps,ea,g⟩:=CI n3.gm;cases ea;obtain⟨b,hb⟩:∃b,ps[j]? = some b:=⟨_,ZE (by rw[g.len];exact hj)⟩;have hrow:=g.row j b r hb er;refine⟨_,.ref rl,.inr g.two,rfl,_,.ref b,.inr g.rows,Ai rfl (by rw[ZR,hb];rfl),ts.length,.inr ⟨_,.of n3.tp,by rw[At]⟩,_,F3,by lia,An (by lia) (by lia),fun y4 H4 b0 b1 F4 f4=>?_⟩;obtain⟨k,rfl⟩:=ZBk b0;have hk:k < ts.length:=by lia
  have n4:=n3.drew F3 f4;have hrow4:=JS (FrX.frm (Ab f4) (ZF.mpr rfl)) (Bk (JM F3)) hrow;refine⟨_,.int (ts[k]:Nat),.inr (.of n4.tp),Ai rfl ?_,_,.bl (gB r ts[k]),.inr hrow4,HZ (by rw[hrl];exact n.lt _ (Zl hk)),_,rfl,F4,n4,X3.trans (FrX.frm (Ab f4) (by simp))⟩;unfold iL;rw[ZR,ZE hk];rfl
 clear F2 n2 X2 H2 ans0;rintro σ H2 ⟨ans,rfl,F2,n2,X2⟩;refine Ag (fun σ H'=>∃(pl:Addr),σ=[some (.ref t),some (.ref A'.l),some (.ref A'.p),some (.ref ga),some (.ref tp),some (.ref A'.kd),some (.int (j:Nat)),some (.bl ans),some (.ref pl),none]/\Yc H2 H'/\H' pl=some (.tup (iL (AM r ans ts)))) ?_ ?_ (by walk_at "sm")
 ·refine⟨ls,rs,ts,j,r,n2.gm,G,.of n2.tp,by lia,n.lt,rfl,er,fun l2 pn py H3 hl2 s3 gl gn gy=>?_⟩;cases ans with
  | true=>exact⟨_,.ref py,.inl (.of gl),Ai (n:=1) rfl rfl,py,rfl,s3,gy⟩
  | false=>exact⟨_,.ref pn,.inl (.of gl),Ai (n:=0) rfl rfl,pn,rfl,s3,gn⟩
 rintro σ H3 ⟨pl,rfl,s3,gpl⟩;have n3:=n2.same s3;have F3:=F2.same s3;have X3:FrX [t,A'.kd,A'.l,A'.p] H H3:=X2.trans (FrX.same s3);clear F2 n2 X2 s3 H2;have eL:=Sj (ls:=ls) er n.rise n.lt ans;have hj16:((j:Nat):Int).natAbs<=100000000000000000000:=by lia
 have dz:∀xs:List Nat,AY (.tup (iD xs))<=50:=fun xs=>by unfold AY;rw[EO];lia
 by_cases z:AM r ans ts=[]
 ·rw[z]at gpl eL;obtain⟨i1,i2,i3⟩:=VE hj16;refine⟨ZP _,fun r0 m0=>?_⟩;have s4:=Yc.upd (o:=.tup []) m0;have g4:upd H3 r0 (.tup []) r0=some (.tup []):=AC;generalize upd H3 r0 (.tup [])=H4 at *;refine⟨.tup [],.tup [],Am (s4 _ _ gpl) AU,Am g4 AU,by decide,?_⟩;refine⟨smq rfl,fun dv hdv=>?_⟩;have s5:=Yc.upd (o:=.tup [.str (Str.ofString "none"),.int (j:Nat),.bl true]) hdv;have g5:upd H4 dv (.tup [.str (Str.ofString "none"),.int (j:Nat),.bl true]) dv=some (.tup [.str (Str.ofString "none"),.int (j:Nat),.bl true]):=AC;dsimp only[Af];generalize upd H4 dv (.tup [.str (Str.ofString "none"),.int (j:Nat),.bl true])=H5 at *;refine⟨ZP _,fun r1 m1=>⟨[],.inl ⟨.of ((Yc.upd m1) _ _ (s5 _ _ (s4 _ _ gpl))),.of AC⟩,?_⟩⟩;have s6:=Yc.upd (o:=.tup []) m1;generalize upd H5 r1 (.tup [])=H6 at *;have S:=s4.trans (s5.trans s6);refine⟨ls,_,A'.r,A'.d,_,j,n3.ak.same S,rfl,by rw[ZC];exact hj,fun h0=>absurd eL h0,fun _ u H7 s7 ru=>?_⟩;refine⟨_,ru,i1,i2,i3,_,Am (s7 _ _ (s6 _ _ g5)) (AS EZ (AS CV (AS (by unfold Yh;rfl) AU))),i1,i2,i3,?_⟩;have S7:=S.trans s7;have q':=q tp ts kvs2 H7 (F3.same S7) (n3.same S7) (X3.trans (FrX.same S7));generalize BI _=SS;show Q (.bl (false ^^ (SS == SS))) H7;rw[show(false ^^ (SS == SS))=true by simp];exact q'
 ·obtain⟨i1,i2,i3⟩:=TU
  obtain⟨x0,x1,ex⟩:∃x0 x1,AM r ans ts=x0::x1:=by
   cases e:AM r ans ts with
   | nil=>exact absurd e z
   | cons x0 x1=>exact⟨_,_,rfl⟩
  refine⟨ZP _,fun r0 m0=>?_⟩;have s4:=Yc.upd (o:=.tup []) m0;have g4:upd H3 r0 (.tup []) r0=some (.tup []):=AC;generalize upd H3 r0 (.tup [])=H4 at *;refine⟨.tup (iD (AM r ans ts)),.tup [],Am (s4 _ _ gpl) (Cr _),Am g4 AU,Za (dz _) (by decide),?_⟩;rw[ex];refine⟨smq rfl,fun dv hdv=>?_⟩;have s5:=Yc.upd (o:=.tup [.str (Str.ofString "told"),.non]) hdv;have g5:upd H4 dv (.tup [.str (Str.ofString "told"),.non]) dv=some (.tup [.str (Str.ofString "told"),.non]):=AC;dsimp only[Af];generalize upd H4 dv (.tup [.str (Str.ofString "told"),.non])=H5 at *;refine⟨ZP _,fun r1 m1=>⟨iL (AM r ans ts),.inl ⟨.of ((Yc.upd m1) _ _ (s5 _ _ (s4 _ _ gpl))),.of AC⟩,?_⟩⟩;rw[ex];have s6:=Yc.upd (o:=.tup []) m1;generalize upd H5 r1 (.tup [])=H6 at *;have S:=s4.trans (s5.trans s6);have n6:=n3.same S;have F6:=F3.same S;refine⟨_,2,n6.lst,rfl,?_⟩;have f7:Yk A'.l H6 (upd H6 A'.l (.lst [.ref A'.p,.ref ga,.ref pl,.ref A'.kd])):=Yk.updT;have g7:upd H6 A'.l (.lst [.ref A'.p,.ref ga,.ref pl,.ref A'.kd]) A'.l=some (.lst [.ref A'.p,.ref ga,.ref pl,.ref A'.kd]):=AC;dsimp only[List.set];generalize upd H6 A'.l (.lst [.ref A'.p,.ref ga,.ref pl,.ref A'.kd])=H7 at *;obtain⟨⟨dx1,k1⟩,⟨_,_,k2⟩,kv3,k3⟩:=n6.kinds;have x7:=FrX.frm f7 (ZF.mpr (rfl:A'.l=A'.l));have o7:=Bk (Gn n6.lst);have AK7:=Fb n6.ak x7 o7 (by simp[AN k1 n6.lst (by intro z;cases z)]) (by simp[AN k2 n6.lst (by intro z;cases z)]) (by simp[AN k3 n6.lst (by intro z;cases z)]);refine⟨ls,_,A'.r,A'.d,_,j,AK7,rfl,by rw[ZC];exact hj,fun h0 u H8 AK8 f8 ru=>?_,fun h0=>absurd (msk_zero.mp (eL.symm.trans h0)) z⟩;rw[eL]at AK8;have npl:=AN k1 n6.lst (by intro z;cases z);have nkl:=AN n6.kd n6.lst (by intro z;cases z);have npk:=AN k1 n6.kd (by intro z;cases z);have x8:=FrX.frm f8 (ZF.mpr (rfl:A'.p=A'.p));have o8:=Bk (Bb (f7 _ _ npl k1) Cy fun _ z=>nomatch z);have n8:Sd K T.C_Asking T.C_Reckoner H8 A' ga ls rs pl (AM r ans ts) kvs2:=⟨f8 _ _ (Ne.symm npl) g7,AK8,DK x8 o8 (Cc _ _) (DK x7 o7 (Cc _ _) n6.gm),B2 x8 o8 (B2 x7 o7 (S _ _ gpl)),n6.rise.filter _,fun t ht=>n6.lt t (Zm.mp ht).1,f8 _ _ (Ne.symm npk) (f7 _ _ nkl n6.kd),n6.mm⟩;have nt:=n6.not_t F6;have F8:=ES x8 o8 (ES x7 o7 F6 (by simp[fun z=>nt.1 (ZF.mpr z),Ne.symm (fun z=>nt.1 (ZF.mpr z))])) (by simp[Ne.symm (fun z=>nt.2.1 (ZF.mpr z))]);refine⟨_,ru,i1,i2,i3,_,Am (B2 x8 o8 (B2 x7 o7 (s6 _ _ g5))) (AS EZ (AS (by unfold Yh;rfl) AU)),i1,i2,i3,?_⟩;have q':=q pl _ kvs2 H8 F8 n8 (X3.trans ((FrX.same S).trans ((FrX.frm f7 (by simp)).trans (FrX.frm f8 (by simp)))));generalize BI _=SS;show Q (.bl (false ^^ (SS == SS))) H8;rw[show(false ^^ (SS == SS))=true by simp];exact q'
noncomputable def adr(A:SdA):List Addr:=[A.l,A.p,A.r,A.d,A.kd]
noncomputable def K1(A B:SdA):Prop:=∀x∈adr A,x∉adr B
theorem Gw{A B:SdA}(h:K1 A B)(hx:∀x∈X,x∈adr A):Off X B:=⟨fun z=>h _ (hx _ z) (by simp[adr]),fun z=>h _ (hx _ z) (by simp[adr]),fun z=>h _ (hx _ z) (by simp[adr]),fun z=>h _ (hx _ z) (by simp[adr]),fun z=>h _ (hx _ z) (by simp[adr])⟩
theorem Ht{Y:List Addr}{A:SdA}(h:Off X A)(g:Off Y A):Off (X++Y) A:=by
 have k:∀{b},b∉X->b∉Y->b∉X++Y:=fun a b z=>(Zh.mp z).elim a b
 exact⟨k h.1 g.1,k h.2.1 g.2.1,k h.2.2.1 g.2.2.1,k h.2.2.2.1 g.2.2.2.1,k h.2.2.2.2 g.2.2.2.2⟩
theorem UM(L:BG Pt H)(f:FrX X H H')(h:∀x∈X,∃o,H x=some o/\((∃xs,o=.lst xs)\/(∃xs,o=.dT xs)\/∃c x fs,o=.ins c x fs)):BG Pt H':=by
 obtain⟨ps,a,b,c⟩:=L
 have key:∀{b:Addr} {o:HO},H b=some o->(∀xs,o≠.lst xs)->(∀xs,o≠.dT xs)->(∀c x fs,o≠.ins c x fs)->H' b=some o:=fun e n1 n2 n3=>f _ _ (fun z=>by
  obtain⟨o',h1,h2⟩:=h _ z;rw[e]at h1;cases h1
  rcases h2 with ⟨xs,rfl⟩ | ⟨xs,rfl⟩ | ⟨c,x,fs,rfl⟩
  ·exact n1 _ rfl
  ·exact n2 _ rfl
  ·exact n3 _ _ _ rfl) e
 refine⟨ps,key a (fun _ z=>nomatch z) (fun _ z=>nomatch z) (fun _ _ _ z=>nomatch z),b,?_⟩
 rcases c with c | ⟨c',c,d⟩
 ·exact .inl c
 ·exact .inr ⟨c',c,key d (fun _ z=>nomatch z) (fun _ z=>nomatch z) (fun _ _ _ z=>nomatch z)⟩
noncomputable def era(sl:Addr)(H:Hp):Hp:=fun b=>if b=sl then none else H b
structure Ring(K:W.Frag)(CA CR PA:Addr)(H:Hp)(t:Addr)(N:Nat)(sl:Addr)(As:List SdA):Prop where
 fd:GFeed H t N
 lm:BG PA H
 st:H sl=some (.lst (As.map fun A=>V.ref A.l))
 ne:sl≠t
 hl:As.length<=3
 all:∀A∈As,∃ga ls rs tp ts Yg,Gm ls rs/\Ax ls rs/\Sd K CA CR H A ga ls rs tp ts Yg
 ap:∀A∈As,∀B∈As,A=B\/K1 A B
section
variable {CA CR PA t sl:Addr}{N N':Nat}{H H':Hp}{As:List SdA}{A:SdA}{ga ga' tp tp':Addr}{ls ls':List Int}{rs rs':List (List Bool)}{ts ts':List Nat}{Yg kvs':List (List Key × V)}
theorem Sd.grow(n:Sd K CA CR H A ga ls rs tp ts Yg)(f:Yk sl H H')(h:H sl=some (.lst xs))(hx:∀(m:Int) r,xs≠.int m::r)(hy:rs≠[])(hl:A.l≠sl):Sd K CA CR H' A ga ls rs tp ts Yg:=by
 obtain⟨dx0,h0⟩:=n.ak.ob;obtain⟨dx,tl,yl,al,as,kv,h1,h2,h3,h4,h5,h6,h7,h8⟩:=n.ak.rk.at_
 have key:∀{b:Addr} {ns:List Nat},ns≠[]->H b=some (.lst (iL ns))->b≠sl:=fun {b ns} hn e z=>by
  rw[z,h]at e;have e:=ZQ e;injection e with e
  cases ns with
  | nil=>exact hn rfl
  | cons n r=>exact hx _ _ e
 have ha:as≠[]:=fun z=>by
  have:=(h7 0 (ZBd _)).mpr (fun i j hi=>by rw[Nat.zero_testBit]at hi;cases hi)
  rw[z]at this;cases this
 have hm:rs.map AV≠[]:=fun z=>hy (List.map_eq_nil_iff.mp z)
 exact⟨f _ _ hl n.lst,⟨⟨dx0,f _ _ (AN h0 h (by intro z;cases z)) h0⟩,⟨⟨dx,tl,yl,al,as,kv,f _ _ (AN h1 h (by intro z;cases z)) h1,DB f h IQ h2,f _ _ (key hm h3) h3,f _ _ (key ha h4) h4,f _ _ (AN h5 h (by intro z;cases z)) h5,h6,h7,h8⟩,n.ak.rk.l16,n.ak.rk.y16⟩,n.ak.ne,n.ak.lt,n.ak.s0,n.ak.can⟩,Yh.frm f ⟨_,h⟩ _ _ (Cc _ _) n.gm,f _ _ (AN n.tp h (by intro z;cases z)) n.tp,n.rise,n.lt,f _ _ (AN n.kd h (by intro z;cases z)) n.kd,n.mm⟩
theorem Jr(s:Yc H H'):Yc (era sl H) (era sl H'):=fun b o e=>by
 unfold era at *;split at e
 ·cases e
 ·rename_i h;rw[if_neg h];exact s _ _ e
theorem Ring.same(R:Ring K CA CR PA H t N sl As)(s:Yc H H'):Ring K CA CR PA H' t N sl As:=⟨R.fd.same s,R.lm.same s,s _ _ R.st,R.ne,R.hl,fun A hA=>let ⟨ga,ls,rs,tp,ts,Yg,a,b,n⟩:=R.all A hA;⟨ga,ls,rs,tp,ts,Yg,a,b,n.same s⟩,R.ap⟩
theorem Ring.drew(R:Ring K CA CR PA H t N sl As)(F:GFeed H' t N')(f:∀b,b≠t->H' b=H b):Ring K CA CR PA H' t N' sl As:=by
 obtain⟨zs,ht⟩:=R.fd.lst;exact⟨F,Dy R.lm (Ab f) ht (.inl ⟨_,rfl⟩),by rw[f _ R.ne];exact R.st,R.ne,R.hl,fun A hA=>let ⟨ga,ls,rs,tp,ts,Yg,a,b,n⟩:=R.all A hA;⟨ga,ls,rs,tp,ts,Yg,a,b,n.drew R.fd f⟩,R.ap⟩
theorem Ring.off(R:Ring K CA CR PA H t N sl As)(n:Sd K CA CR H A ga ls rs tp ts Yg):sl≠A.l/\sl≠A.p/\sl≠A.d/\sl≠A.kd:=by
 obtain⟨⟨dx,h1⟩,_,kv,h3⟩:=n.kinds;refine⟨fun z=>?_,AN R.st h1 (by intro z;cases z),AN R.st h3 (by intro z;cases z),AN R.st n.kd (by intro z;cases z)⟩;have h:=n.lst;rw[<- z,R.st]at h;have h:=ZQ h;injection h with h
 have h:=congrArg List.length h;rw[ZC]at h
 have:=R.hl
 simp only[Zk,List.length_nil]at h;lia
theorem Ring.deed(R:Ring K CA CR PA H t N sl As)(hA:A∈As)(n:Sd K CA CR H A ga ls rs tp ts Yg)(F:GFeed H' t N')(n':Sd K CA CR H' A ga ls rs tp' ts' kvs')(G:Gm ls rs)(he:Ax ls rs)(f:FrX [t,A.kd,A.l,A.p] H H'):Ring K CA CR PA H' t N' sl As:=by
 obtain⟨⟨dx,h1⟩,_,kv,h3⟩:=n.kinds;obtain⟨o1,o2,o3,o4⟩:=R.off n;obtain⟨zs,ht⟩:=R.fd.lst;have O:BQ [t,A.kd,A.l,A.p] H:=C0 (JM R.fd) (C0 (Bb n.kd B0 fun _ z=>nomatch z) (C0 (Gn n.lst) (Bk (Bb h1 Cy fun _ z=>nomatch z))));refine⟨F,UM R.lm f fun x hx=>?_,f _ _ (by simp[R.ne,o1,o2,o4]) R.st,R.ne,R.hl,fun B hB=>?_,R.ap⟩
 ·simp only[ZI,Z7,or_false]at hx
  rcases hx with rfl | rfl | rfl | rfl
  ·exact⟨_,ht,.inl ⟨_,rfl⟩⟩
  ·exact⟨_,n.kd,.inr (.inl ⟨_,rfl⟩)⟩
  ·exact⟨_,n.lst,.inl ⟨_,rfl⟩⟩
  ·exact⟨_,h1,.inr (.inr ⟨_,_,_,rfl⟩)⟩
 ·rcases R.ap A hA B hB with rfl | h
  ·exact⟨_,_,_,_,_,_,G,he,n'⟩
  ·obtain⟨ga2,ls2,rs2,tp2,ts2,kvs2,a,b,m⟩:=R.all B hB;exact⟨ga2,ls2,rs2,tp2,ts2,kvs2,a,b,m.fr f O (Ht (X:=[t]) (m.not_t R.fd) (Gw h (by simp[adr])))⟩
theorem Ring.looks(R:Ring K CA CR PA H t N sl As)(hA:A∈As)(n:Sd K CA CR H A ga ls rs tp ts Yg)(G:Gm ls rs)(he:Ax ls rs)(AK:AkAt K CA CR ls (rs.map AV) H' A.p A.r A.d (msk ts))(hk:H' A.kd=some (.dT kvs'))(M:NMemo ls rs kvs')(L:BG PA H')(f:FrX [A.d,PA,A.kd] H H'):Ring K CA CR PA H' t N sl As/\BQ [A.d,PA,A.kd] H:=by
 obtain⟨⟨dx,h1⟩,_,kv,h3⟩:=n.kinds;obtain⟨o1,o2,o3,o4⟩:=R.off n;obtain⟨zs,ht⟩:=R.fd.lst;obtain⟨ps,hP,_⟩:=id R.lm;have O:BQ [A.d,PA,A.kd] H:=C0 (Bb h3 Gu fun _ z=>nomatch z) (C0 (Bb hP K4 fun _ z=>nomatch z) (Bk (Bb n.kd B0 fun _ z=>nomatch z)));have e1:=AN ht h3 (by intro z;cases z);have e2:=AN ht hP (by intro z;cases z);have e3:=AN ht n.kd (by intro z;cases z);have e4:=AN R.st hP (by intro z;cases z);have e5:=AN n.lst h3 (by intro z;cases z);have e6:=AN n.lst hP (by intro z;cases z);have e7:=AN n.lst n.kd (by intro z;cases z);refine⟨⟨ES f O R.fd (by simp[e1,e2,e3]),L,f _ _ (by simp[o3,e4,o4]) R.st,R.ne,R.hl,fun B hB=>?_,R.ap⟩,O⟩
 rcases R.ap A hA B hB with rfl | h
 ·exact⟨_,_,_,_,_,_,G,he,f _ _ (by simp[e5,e6,e7]) n.lst,AK,DK f O (Cc _ _) n.gm,B2 f O n.tp,n.rise,n.lt,hk,M⟩
 ·obtain⟨ga2,ls2,rs2,tp2,ts2,kvs2,a,b,m⟩:=R.all B hB;obtain⟨⟨_,m1⟩,⟨_,_,m2⟩,_,m3⟩:=m.kinds;refine⟨ga2,ls2,rs2,tp2,ts2,kvs2,a,b,m.fr f O (Ht (X:=[A.d]) (Gw h (by simp[adr])) (Ht (X:=[PA]) ⟨?_,?_,?_,?_,?_⟩ (Gw h (by simp[adr]))))⟩
  ·simp[AN m.lst hP (by intro z;cases z)]
  ·simp[AN m1 hP (by intro z;cases z)]
  ·simp[AN m2 hP (by intro z;cases z)]
  ·simp[AN m3 hP (by intro z;cases z)]
  ·simp[AN m.kd hP (by intro z;cases z)]
theorem Ring.add(R:Ring K CA CR PA H t N sl As)(F0:As=[]->GFeed (era sl H) t N)(hl:As.length < 3)(nw:∀x∈adr A,H x=none)(f:Yk sl H H')(st:H' sl=some (.lst ((As++[A]).map fun A=>V.ref A.l)))(G:Gm ls rs)(he:Ax ls rs)(n:Sd K CA CR H' A ga ls rs tp ts Yg):Ring K CA CR PA H' t N sl (As++[A]):=by
 have old:∀B∈As,∀x∈adr B,∃o,H x=some o:=fun B hB x hx=>by
  obtain⟨ga2,ls2,rs2,tp2,ts2,kvs2,a,b,m⟩:=R.all B hB;obtain⟨⟨_,m1⟩,⟨_,_,m2⟩,_,m3⟩:=m.kinds;simp only[adr,ZI,Z7,or_false]at hx
  rcases hx with rfl | rfl | rfl | rfl | rfl
  ·exact⟨_,m.lst⟩
  ·exact⟨_,m1⟩
  ·exact⟨_,m2⟩
  ·exact⟨_,m3⟩
  ·exact⟨_,m.kd⟩
 have apt:∀B∈As,∀x∈adr B,x∉adr A:=fun B hB x hx z=>by
  obtain⟨o,h⟩:=old B hB x hx;rw[nw x z]at h;cases h
 have O:As≠[]->BQ [sl] H:=fun h=>by
  have h2:=R.st;cases As with
  | nil=>exact absurd rfl h
  | cons B r=>exact Bk (Gn h2)
 have X:=FrX.frm f (ZF.mpr (rfl:sl=sl))
 have F:GFeed H' t N:=by
  by_cases z:As=[]
  ·exact(F0 z).same fun b o e=>by
    unfold era at e;split at e
    ·cases e
    ·rename_i h;exact f _ _ h e
  ·exact ES X (O z) R.fd (by simp[Ne.symm R.ne])
 refine⟨F,Dy R.lm f R.st (.inl ⟨_,rfl⟩),st,R.ne,by rw[ZL];exact hl,fun B hB=>?_,fun B hB C hC=>?_⟩
 ·rcases Zh.mp hB with hB | hB
  ·obtain⟨ga2,ls2,rs2,tp2,ts2,kvs2,a,b,m⟩:=R.all B hB;obtain⟨⟨_,m1⟩,⟨_,_,m2⟩,_,m3⟩:=m.kinds;obtain⟨o1,o2,o3,o4⟩:=R.off m;exact⟨ga2,ls2,rs2,tp2,ts2,kvs2,a,b,m.fr X (O (List.ne_nil_of_mem hB)) ⟨by simp[Ne.symm o1],by simp[Ne.symm o2],by simp[AN m2 R.st (by intro z;cases z)],by simp[Ne.symm o3],by simp[Ne.symm o4]⟩⟩
  ·rw[ZF.mp hB];exact⟨_,_,_,_,_,_,G,he,n⟩
 ·rcases Zh.mp hB with hB | hB <;> rcases Zh.mp hC with hC | hC
  ·exact R.ap B hB C hC
  ·rw[ZF.mp hC];exact .inr (apt B hB)
  ·rw[ZF.mp hB];exact .inr fun x hx z=>apt C hC x z hx
  ·rw[ZF.mp hB,ZF.mp hC];exact .inl rfl
end
noncomputable def EH(K:W.Frag)(CA CR:Addr):Sp:=fun vs H Q _=>match vs with
 | [.ref p,v]=>∃ls rs dx,H p=some (.ins CA dx [])/\Yh K H (gmD ls rs) v/\Gm ls rs/\Ax ls rs/\∀r d H',H r=none->H d=none->AkAt K CA CR ls (rs.map AV) H' p r d (2 ^ ls.length - 1)->Yk p H H'->Q .non H'
 | _=>False
theorem OA:AZ (EH K CA CR):=fun vs H Q Q' E h q=>by
 unfold EH at *;walk_at "q"
theorem Qp{CE:Addr}:∀vs H Q E,EH K CA CR vs H Q E->FA K CA CR CE vs H Q fun _ _ _=>False:=fun vs H Q E h=>by
 unfold EH at h;walk_at "g"
 obtain⟨ls,rs,dx,h1,h2,h3,h4,q⟩:=h;exact⟨ls,rs,dx,h1,h2,h3,fun _=>q,fun i j f=>absurd f.1 (h4 i j)⟩
theorem Li(L:BG Pt H)(F:GFeed H t N)(f:Yk t H H'):BG Pt H':=by
 obtain⟨zs,ht⟩:=F.lst;exact Dy L f ht (.inl ⟨_,rfl⟩)
theorem Qd{i' j':Nat}(a:CB ls rs i j)(b:CB ls rs i' j'):i=i'/\j=j':=by
 have h1:=a.2 i' j' b.1;have h2:=b.2 i j a.1;lia
theorem NF(n:Nat):(List.range n).Pairwise (· < ·):=ZBn
theorem Ot(n:Nat):msk (List.range n)=2 ^ n - 1:=by
 apply ZB4;intro k;rw[(Bo (NF n) (fun t ht=>Zn.mp ht)).2 k,Nat.testBit_two_pow_sub_one];simp
noncomputable def IsP(ls:List Int)(rs:List (List Bool))(D:Dv):Prop:=(Ax ls rs/\D=.non)\/∃i j:Nat,CB ls rs i j/\D=.tup [.int (i:Nat),.int (j:Nat)]
theorem OE{D D':Dv}(h:IsP ls rs D)(g:IsP ls rs D'):D=D':=by
 rcases h with ⟨h,rfl⟩ | ⟨i,j,h,rfl⟩ <;> rcases g with ⟨g,rfl⟩ | ⟨i',j',g,rfl⟩
 ·rfl
 ·exact absurd g.1 (h _ _)
 ·exact absurd h.1 (g _ _)
 ·obtain⟨rfl,rfl⟩:=Qd h g;rfl
theorem NC{D:Dv}(h:IsP ls rs D):AY D<=1:=by
 rcases h with ⟨_,rfl⟩ | ⟨i,j,_,rfl⟩
 ·exact ZP _
 ·show max 0 (max 0 0)+1<=1;decide
theorem Jm{ds:List Dv}(h:H p=some (.lst xs))(r:Yd K H ds xs):Yh K H (.lst ds) (.ref p):=by unfold Yh;exact⟨p,xs,rfl,.of h,r⟩
noncomputable def JC(K:W.Frag)(H0:Hp)(gs:List (List Int × List (List Bool)))(i:Nat)(ys:List V)(H':Hp):Prop:=Yc H0 H'/\ys.length=i/\∃Ds:List Dv,Yd K H' Ds ys/\∀(k:Nat) D,Ds[k]? = some D->∃g,gs[k]? = some g/\IsP g.1 g.2 D
theorem JC.step{H0 H1 H2:Hp}{gs:List (List Int × List (List Bool))}{ys:List V}{D:Dv}{g:List Int × List (List Bool)}(j:JC K H0 gs i ys H1)(hg:gs[i]? = some g)(s:Yc H1 H2)(h:IsP g.1 g.2 D)(r:Yh K H2 D v):JC K H0 gs (i+1) (ys++[v]) H2:=by
 obtain⟨s0,e,Ds,r0,h0⟩:=j;have el:=Yd.length r0;refine⟨s0.trans s,by rw[ZL,e];rfl,Ds++[D],Yd.append (Yd.same s _ _ r0) (AS r AU),fun k E hk=>?_⟩
 rcases Z2 k Ds.length with z | z | z
 ·rw[ZBK z]at hk;exact h0 k E hk
 ·rw[z,List.getElem?_concat_length]at hk;cases hk;exact⟨g,by rw[z,el,e];exact hg,h⟩
 ·rw[ZBZ (by rw[ZL];exact z)]at hk;cases hk
noncomputable def Gd(K:W.Frag)(H:Hp)(v:V):Prop:=∃ls rs,Gm ls rs/\Ax ls rs/\Yh K H (gmD ls rs) v
theorem Gd.same(g:Gd K H v)(s:Yc H H'):Gd K H' v:=let ⟨ls,rs,a,b,c⟩:=g;⟨ls,rs,a,b,Yh.same s _ _ c⟩
theorem TQ(B:BMn mg base):FnOk P w K mg base CX0 80 T.f_law T.d_law ["_law_script"] (Ek K [T.p_z10]):=by
 have G_z45:=@SI P w K mg base T;have G_z47:=@C9 P w K mg base T;have G_z20:=@Pp P w K mg base T B;have G_z29:=@JA P w K mg base T;have G_z29:=(@JA P w K mg base T).calm Qp;refine T.F_law.ok sc_law (fun vs H Q E h=>by obtain⟨a,ns,rfl,_⟩:=h;rfl) ?_;walk_at "f";have hr_z45:=hr.mono (show 4<=_ by decide);have hr_z47:=hr.mono (show 1<=_ by decide);have hr_z20:=hr.mono (show 79<=_ by decide);have hr_z29:=hr.mono (show 6<=_ by decide);have hr1_z29:=hr.mono (show 6+1<=_ by decide);obtain⟨a,ns,rfl,hS,Yl,hPt,q⟩:=h;refine⟨_,(@AF _ _ _ _ _ (@AO _ _ 1 _ _ _ _ sc_law.nd rfl (by right) (AJ (@Nd P w K mg base T) (hr.mono (show 1<=_ by decide)) rfl T.z49.m T.z49.F.kp T.z49.b .nil AG (AA (vv 0) AB)) (by rfl) (by symm)) (@AF _ _ _ _ _ (@AO _ _ 2 _ _ _ _ sc_law.nd rfl (by right) (@A6 _ _ _ _ (AA (AJ G_z45 hr_z45 rfl T.z45.m T.z45.F.kp T.z45.b .nil AG (AA (vv 1) AB)) (AA (AJ G_z45 hr_z45 rfl T.z45.m T.z45.F.kp T.z45.b .nil AG (AA (vv 1) AB)) AB))) (by rfl) (by symm)) (@AF _ _ _ _ _ (@DA _ _ _ _ _ _ _ ["_law_game_here"] 1 [] _ _ _ _ 3 _ _ _ rfl sc_law.nd rfl rfl (BB (K:=K) (vv 2)) (by kernel_rfl) rfl rfl (by kernel_rfl) (fun c=>AT (i:=0) (show(["_law_game_here"]:List Str).Nodup by decide +kernel) rfl (by right)) (Ah (by decide)) (fun c=>Ap) (fun c=>(AJ (@Ob P w K mg base T) (hr.mono (show 2<=_ by decide)) rfl T.z36.m T.z36.F.kp T.z36.b .nil AG (AA (vv 0) AB))) (by rfl) (by intro _;rfl)) (@AF _ _ _ _ _ (@Aw _ _ _ _ _ _ _ _ (Ak (kNe (K:=K) hu) (@Aq _ _ _ _ _ _ _ ["_law_game_here"] 1 [] _ _ _ _ rfl (BB (K:=K) (vv 2)) (by kernel_rfl) rfl rfl (by kernel_rfl) (fun c=>AT (i:=0) (show(["_law_game_here"]:List Str).Nodup by decide +kernel) rfl (by right)) (Ah (by decide)) (fun c=>Ap) (fun c=>(AJ (@PB P w K mg base T) (hr.mono (show 8<=_ by decide)) rfl T.z44.m T.z44.F.kp T.z44.b .nil AG (AA (vv 0) AB))) (by intro _;rfl)) (@Aq _ _ _ _ _ _ _ ["_law_game_here"] 1 [] _ _ _ _ rfl (BB (K:=K) (vv 2)) (by kernel_rfl) rfl rfl (by kernel_rfl) (fun c=>AT (i:=0) (show(["_law_game_here"]:List Str).Nodup by decide +kernel) rfl (by right)) (Ah (by decide)) (fun c=>Ap) (fun c=>(AJ (@LB P w K mg base T) (hr.mono (show 1<=_ by decide)) rfl T.z50.m T.z50.F.kp T.z50.b .nil AG (AA (vv 0) AB))) (by intro _;rfl))) (@AI _ _ _ (@AR _ _ _ _ Bs)) Av) (@AF _ _ _ _ _ (@AO _ _ 4 _ _ _ _ sc_law.nd rfl (by right) (@A6 _ _ _ _ AB) (by rfl) (by symm)) (@AF _ _ _ _ _ (@Bq _ _ _ _ _ _ _ _ PassesOwn.never rfl (BB (K:=K) (A2 (AA AD (AA AD (AA AD AB))))) (AT (i:=5) sc_law.nd rfl (by right)) (@AF _ _ _ _ _ (@AO _ _ 6 _ _ _ _ sc_law.nd rfl (by right) (Ar (A9 (K:=K)) rfl T.z_tuple (by rfl) (AA (@Aq _ _ _ _ _ _ _ ["_law_one"] 1 [] _ _ _ _ rfl (A3 rfl T.z_range (AA (AX (BA (K:=K)) rfl T.z_len (by rfl) (AA (Yo (K:=K) (Yo (K:=K) (vv 3) (vv 5)) AD) AB)) AB)) (by kernel_rfl) rfl rfl (by kernel_rfl) (fun c=>AT (i:=0) (show(["_law_one"]:List Str).Nodup by decide +kernel) rfl (by right)) (Ah (by decide)) (fun c=>Ap) (fun c=>(vv 0)) (by intro _;rfl)) AB)) (by rfl) (by symm)) (@AI _ _ _ (@DJ _ _ _ _ (Du (K:=K) (vv 4) (AA (@A6 _ _ _ _ (AA (KD T.mk_Asking G_z29 hr1_z29 rfl T.mC_Asking T.z29.b .nil AG (AA (Yo (K:=K) (vv 3) (vv 5)) AB)) (AA (Yo (K:=K) (vv 3) (vv 5)) (AA (vv 6) (AA RX AB))))) AB)) (by rfl)))) (by intro _;rfl)) (@AF _ _ _ _ _ (@Bq _ _ _ _ _ _ _ _ PassesOwn.never rfl (A3 rfl T.z_range (AA (AQ (A8 (K:=K)) AD (AJ G_z47 hr_z47 rfl T.z47.m T.z47.F.kp T.z47.b .nil AG (AA (vv 1) (AA AD AB)))) AB)) (AT (i:=7) sc_law.nd rfl (by right)) (@AF _ _ _ _ _ (@Aw _ _ _ _ _ _ _ _ (IF (CY (AJ (@PY P w K mg base T) (hr.mono (show 21<=_ by decide)) rfl T.z46.m T.z46.F.kp T.z46.b .nil AG (AA (vv 1) (AA (Yo (K:=K) (vv 4) (AJ G_z47 hr_z47 rfl T.z47.m T.z47.F.kp T.z47.b .nil AG (AA (vv 1) (AA AD AB)))) AB))))) (@AI _ _ _ (@AR _ _ _ _ Bs)) Av) (@AF _ _ _ _ _ (@AO _ _ 8 _ _ _ _ sc_law.nd rfl (by right) (AJ G_z47 hr_z47 rfl T.z47.m T.z47.F.kp T.z47.b .nil AG (AA (vv 1) (AA AD AB))) (by rfl) (by symm)) (@AI _ _ _ (@Bq _ _ _ _ _ _ _ _ PassesOwn.never rfl (BB (K:=K) (@Yo _ K _ _ _ _ _ (@A6 _ _ _ _ (@AA _ _ _ _ _ (@A6 _ _ _ _ (@pa1 _ _ _ AD (by rfl))) (@AA _ _ _ _ _ (@A6 _ _ _ _ (@pa1 _ _ _ AD (by rfl))) (@AA _ _ _ _ _ (@A6 _ _ _ _ (@pa1 _ _ _ AD (by rfl))) (@AA _ _ _ _ _ (@A6 _ _ _ _ (@AA _ _ _ _ _ AD (@AA _ _ _ _ _ AD (@pa1 _ _ _ AD (by rfl)) (by rfl)) (by rfl))) (@AA _ _ _ _ _ (@A6 _ _ _ _ (@AB _)) (@AB _) L2.star_lst) L2.star_lst) L2.star_lst) L2.star_lst) L2.star_lst)) (vv 8) (by intro _ _;rfl) (by rfl))) (AT (i:=5) sc_law.nd rfl (by right)) (@AI _ _ _ (@Aw _ _ _ _ _ _ _ _ (IF (CY (AJ G_z20 hr_z20 rfl T.z20.m T.z20.F.kp T.z20.b .nil AG (AA (Yo (K:=K) (Yo (K:=K) (vv 4) (vv 5)) AD) (AA (Yo (K:=K) (Yo (K:=K) (vv 4) (vv 5)) AD) (AA (Yo (K:=K) (Yo (K:=K) (vv 4) (vv 5)) AD) (AA (Yo (K:=K) (Yo (K:=K) (vv 4) (vv 5)) AD) AB))))))) (@AI _ _ _ (@AR _ _ _ _ Bs)) Av)) (by intro _;rfl))))) (by intro _;rfl)) (@AI _ _ _ (@AR _ _ _ _ (Ba (LJ (K:=K)) Bs (@Aq _ _ _ _ _ _ _ ["_law_side"] 1 [] _ _ _ _ rfl (BB (K:=K) (vv 4)) (by kernel_rfl) rfl rfl (by kernel_rfl) (fun c=>AT (i:=0) (show(["_law_side"]:List Str).Nodup by decide +kernel) rfl (by right)) (Ah (by decide)) (fun c=>Ap) (fun c=>(AJ G_z20 hr_z20 rfl T.z20.m T.z20.F.kp T.z20.b .nil AG (AA (Yo (K:=K) (vv 0) AD) (AA (Yo (K:=K) (vv 0) AD) (AA (Yo (K:=K) (vv 0) AD) (AA (Yo (K:=K) (vv 0) AD) AB)))))) (by intro _;rfl)))))))))))),?_⟩;have mo1:AZ (Bz K 500 800000000):=Si;have mo2:AZ (DX K):=RS;have mo3:AZ (Dj K):=P7;have mo4:AZ (CD K):=Lm;have mo5:AZ (EH K T.C_Asking T.C_Reckoner):=OA;have mo6:AZ (DV K T.C_Asking T.C_Reckoner):=SX;have mo7:AZ (DT K T.C_Asking T.C_Reckoner T.p_z10):=Uj;have L0:BG T.p_z10 H:=QZ (hPt _ (ZF.mpr rfl));generalize T.p_z10=PA at *;refine⟨ns,hS,fun t H1 ht s1 F1=>?_⟩;dsimp only[Af];have L1:=L0.same s1;refine⟨_,F1,by decide,fun ls0 rs0 u0 H2 G0 r2 F2 f2=>⟨_,F2,by decide,fun ls1 rs1 u1 H3 G1 r3 F3 f3=>⟨smq rfl,fun dl hdl=>?_⟩⟩⟩;have L3:=Li (Li L1 F1 f2) F2 f3;have r2':=Yh.frm f3 F2.lst _ _ (Cc _ _) r2;dsimp only[Af];have s4:=Yc.upd (o:=.lst [u0,u1]) hdl;have g4:upd H3 dl (.lst [u0,u1]) dl=some (.lst [u0,u1]):=AC;generalize upd H3 dl (.lst [u0,u1])=H4 at *;have F4:=F3.same s4;have L4:=L3.same s4
 have DD:∀(k:Nat) v,[u0,u1][k]? = some v->∃g,[(ls0,rs0),(ls1,rs1)][k]? = some g/\Gm g.1 g.2/\Yh K H4 (gmD g.1 g.2) v:=fun k v h=>by
  rcases k with _ | _ | k
  ·cases h;exact⟨_,rfl,G0,Yh.same s4 _ _ r2'⟩
  ·cases h;exact⟨_,rfl,G1,Yh.same s4 _ _ r3⟩
  ·cases h
 generalize [(ls0,rs0),(ls1,rs1)]=gs at DD;clear r2 r2' r3 L0 L1 L3 F1 F2 F3 f2 f3 s4 s1 hdl;refine Ag (fun σ H'=>∃(gl:Addr) (v0 v1:V),σ=[some (.ref a),some (.ref t),some (.ref dl),some (.ref gl),none,none,none,none,none]/\Yc H4 H'/\H' gl=some (.lst [v0,v1])/\Gd K H' v0/\Gd K H' v1) ?_ ?_ (by walk_at "sm")
 ·refine .inl ⟨⟨_,.of g4⟩,?_⟩;refine B1 (xs:=[u0,u1]) (fun i ys H'=>Yc H4 H'/\ys.length=i/\∀v∈ys,Gd K H' v) ⟨Yc.refl _,rfl,fun v h=>by cases h⟩ (fun i ys H' _ ⟨s,_⟩=>.of (s _ _ g4)) (fun i ys H' hi ⟨_,e,_⟩=>Ad (by have:i < 2:=hi;lia)) ?_ ?_
  ·rintro i x ys H' hx ⟨s,e,h⟩;obtain⟨⟨ls,rs⟩,_,G,r⟩:=DD i x hx;refine⟨ls,rs,Yh.same s _ _ r,G,fun ls' u H5 s5 G' he r5=>⟨s.trans s5,by rw[ZL,e];rfl,fun v hv=>?_⟩⟩
   rcases Zh.mp hv with hv | hv
   ·exact(h v hv).same s5
   ·rw[ZF.mp hv];exact⟨_,_,G',he,r5⟩
  ·rintro ys H' ⟨s,e,h⟩ gl hgl
   match ys,e,h with
   | [v0,v1],_,h=>exact⟨gl,v0,v1,rfl,s.trans (Yc.upd hgl),AC,(h v0 (by simp)).same (Yc.upd hgl),(h v1 (by simp)).same (Yc.upd hgl)⟩
 rintro σ H5 ⟨gl,v0,v1,rfl,s5,ggl,gd0,gd1⟩;have F5:=F4.same s5;have L5:=L4.same s5;have g5:=s5 _ _ g4;have DE:∀(k:Nat) v,[u0,u1][k]? = some v->∃g,gs[k]? = some g/\Gm g.1 g.2/\Yh K H5 (gmD g.1 g.2) v:=fun k v h=>let ⟨g,a,b,c⟩:=DD k v h;⟨g,a,b,Yh.same s5 _ _ c⟩
 clear DD F4 L4 g4 s5 H4;refine Ag (fun σ H'=>σ=[some (.ref a),some (.ref t),some (.ref dl),some (.ref gl),none,none,none,none,none]/\Yc H5 H') ?_ ?_ (by walk_at "sm")
 ·refine .inl ⟨⟨_,.of g5⟩,?_⟩;refine B1 (xs:=[u0,u1]) (JC K H5 gs) ⟨Yc.refl _,rfl,[],AU,fun k D h=>by cases h⟩ (fun i ys H' _ ⟨s,_⟩=>.of (s _ _ g5)) (fun i ys H' hi ⟨_,e,_⟩=>Ad (by have:i < 2:=hi;lia)) ?_ ?_
  ·rintro i x ys H' hx j;obtain⟨g,hg,G,r⟩:=DE i x hx;exact⟨_,_,Yh.same j.1 _ _ r,G,fun he H6 s6=>j.step hg s6 (.inl ⟨he,rfl⟩) (by unfold Yh;rfl),fun m n hf p H6 s6 gp=>j.step hg s6 (.inr ⟨m,n,hf,rfl⟩) (Am gp (AS CV (AS CV AU)))⟩
  rintro ys H6 j1 p1 hp1;have s7:=Yc.upd (o:=.lst ys) hp1;have g7:upd H6 p1 (.lst ys) p1=some (.lst ys):=AC;generalize upd H6 p1 (.lst ys)=H7 at *;have S7:=j1.1.trans s7;refine .inl ⟨⟨_,.of (S7 _ _ g5)⟩,?_⟩;refine B1 (xs:=[u0,u1]) (JC K H7 gs) ⟨Yc.refl _,rfl,[],AU,fun k D h=>by cases h⟩ (fun i ys H' _ ⟨s,_⟩=>.of (s _ _ (S7 _ _ g5))) (fun i ys H' hi ⟨_,e,_⟩=>Ad (by have:i < 2:=hi;lia)) ?_ ?_
  ·rintro i x ys H' hx j;obtain⟨g,hg,G,r⟩:=DE i x hx;exact⟨_,_,Yh.same (S7.trans j.1) _ _ r,G,fun H6 s6 he=>j.step hg s6 (.inl ⟨he,rfl⟩) (by unfold Yh;rfl),fun m n p H6 hf _ s6 gp=>j.step hg s6 (.inr ⟨m,n,hf,rfl⟩) (Am gp (AS CV (AS CV AU)))⟩
  rintro zs H8 j2 p2 hp2;have s9:=Yc.upd (o:=.lst zs) hp2;have g9:upd H8 p2 (.lst zs) p2=some (.lst zs):=AC;generalize upd H8 p2 (.lst zs)=H9 at *;obtain⟨_,e1,Ds,a1,a2⟩:=j1;obtain⟨s8,e2,Es,b1,b2⟩:=j2;have l1:=Yd.length a1;have l2:=Yd.length b1;have e1:ys.length=2:=e1;have e2:zs.length=2:=e2
  have eq:Ds=Es:=by
   refine List.ext_getElem? fun k=>?_
   by_cases hk:k < 2
   ·have k1:k < Ds.length:=by lia
    have k2:k < Es.length:=by lia
    obtain⟨g,x1,x2⟩:=a2 k _ (ZE k1);obtain⟨g',y1,y2⟩:=b2 k _ (ZE k2);rw[x1]at y1;cases y1;rw[ZE k1,ZE k2,OE x2 y2]
   ·rw[ZBZ (by lia),ZBZ (by lia)]
  have S9:=s8.trans s9;refine⟨.lst Ds,.lst Es,Jm (S9 _ _ g7) (Yd.same (s7.trans S9) _ _ a1),Jm g9 (Yd.same s9 _ _ b1),?_,?_⟩
  ·match Ds,a2,l1.trans e1 with
   | [D0,D1],a2,_ =>
    obtain⟨_,_,h0⟩:=a2 0 D0 rfl;obtain⟨_,_,h1⟩:=a2 1 D1 rfl
    have:=NC h0
    have:=NC h1
    show max (AY D0) (max (AY D1) 0)+1<=60;lia
  ·rw[eq];refine Ao (fun e=>?_) (fun _=>⟨rfl,S7.trans S9⟩);have e:(true ^^ eqD (.lst Es) (.lst Es))=true:=e;rw[Ec]at e;cases e
 rintro σ H6 ⟨rfl,s6⟩;have F6:=F5.same s6;have L6:=L5.same s6;have ggl:=s6 _ _ ggl;have gd0:=gd0.same s6;have gd1:=gd1.same s6;clear DE F5 L5 g5 s6 G0 G1;refine⟨ZP _,fun sl hsl=>?_⟩;dsimp only[Af];have s7:Yc H6 (upd H6 sl (.lst [])):=Yc.upd hsl;have R7:Ring K T.C_Asking T.C_Reckoner PA (upd H6 sl (.lst [])) t 1000 sl []:=⟨F6.same s7,L6.same s7,AC,Ne.symm (let ⟨_,h⟩:=F6.lst;BD h hsl),ZP _,(fun A h=>by cases h),fun A h=>by cases h⟩
 have E7:GFeed (era sl (upd H6 sl (.lst []))) t 1000:=GFeed.same F6 fun b o e=>by
  unfold era;rw[if_neg (BD e hsl),AH (BD e hsl)];exact e
 have ngl:gl≠sl:=BD ggl hsl;have ggl:=s7 _ _ ggl;have gd0:=gd0.same s7;have gd1:=gd1.same s7;generalize upd H6 sl (.lst [])=H7 at *;clear F6 L6 s7 hsl;refine Ag (fun σ H'=>(∃z5 z6:Option V,σ=[some (.ref a),some (.ref t),some (.ref dl),some (.ref gl),some (.ref sl),z5,z6,none,none])/\∃As:List SdA,As.length=3/\Ring K T.C_Asking T.C_Reckoner PA H' t 1000 sl As) ?_ ?_ (by walk_at "sm")
 ·refine⟨smq rfl,fun tq htq=>.inr ⟨⟨_,.of AC⟩,?_⟩⟩;have s8:=Yc.upd (o:=.tup [.int 0,.int 0,.int 1]) htq;have g8:upd H7 tq (.tup [.int 0,.int 0,.int 1]) tq=some (.tup [.int 0,.int 0,.int 1]):=AC;generalize upd H7 tq (.tup [.int 0,.int 0,.int 1])=H8 at *;refine Tq (xs:=[.int 0,.int 0,.int 1]) (fun i σ H'=>(∃z5 z6:Option V,σ=[some (.ref a),some (.ref t),some (.ref dl),some (.ref gl),some (.ref sl),z5,z6,none,none])/\H' tq=some (.tup [.int 0,.int 0,.int 1])/\H' gl=some (.lst [v0,v1])/\Gd K H' v0/\Gd K H' v1/\∃As:List SdA,As.length=i/\Ring K T.C_Asking T.C_Reckoner PA H' t 1000 sl As/\(As=[]->GFeed (era sl H') t 1000)) ⟨⟨_,_,rfl⟩,g8,s8 _ _ ggl,gd0.same s8,gd1.same s8,[],rfl,R7.same s8,fun _=>E7.same (Jr s8)⟩ (fun i σ H' _ ⟨_,h,_⟩=>.of h) ?_ (fun σ H' ⟨z,_,_,_,_,As,e,R,_⟩=>⟨z,As,e,R⟩);clear R7 E7 ggl gd0 gd1 g8 s8 H8 htq;rintro i x0 σ H8 hx0 ⟨⟨z5,z6,rfl⟩,gq,gg,d0,d1,As,ea,R,FE⟩
  obtain⟨c,v,rfl,hv,gv,hi⟩:∃(c:Nat) (v:V),x0=.int (c:Nat)/\[v0,v1][c]? = some v/\Gd K H8 v/\i < 3:=by
   rcases i with _ | _ | _ | i
   ·cases hx0;exact⟨0,v0,rfl,rfl,d0,by decide⟩
   ·cases hx0;exact⟨0,v0,rfl,rfl,d0,by decide⟩
   ·cases hx0;exact⟨1,v1,rfl,rfl,d1,by decide⟩
   ·cases hx0
  clear hx0;obtain⟨ls,rs,G,he,rv⟩:=gv;obtain⟨ga,tl,rl,ps,rfl,g⟩:=CI rv;have l16:=G.l16;refine Ag (fun σ H'=>∃tp,σ=[some (.ref a),some (.ref t),some (.ref dl),some (.ref gl),some (.ref sl),some (.int (c:Nat)),some (.ref tp),none,none]/\Yc H8 H'/\H' tp=some (.tup (iL (List.range ls.length)))) ?_ ?_ (by walk_at "sm")
  ·refine⟨_,.ref ga,.inl (.of gg),Ai (n:=c) rfl hv,_,.ref tl,.inr g.two,rfl,ls.length,.inr ⟨_,g.lab,by rw[ZC]⟩,(ls.length:Int),rfl,by lia,by lia,?_⟩;refine BU (fun j ys H'=>H'=H8/\ys=iL (List.range j)) ⟨rfl,rfl⟩ (fun j ys H' hj ⟨_,e⟩=>by rw[e,At,Z8];exact Ad (by lia)) ?_ ?_
   ·rintro j ys H' hj ⟨rfl,rfl⟩;refine⟨rfl,?_⟩;rw[ZBM,Bt,show(0:Int)+(j:Int)=(j:Int) from Int.zero_add _];rfl
   ·rintro ys H' ⟨rfl,rfl⟩ lt Ym;rw[Zb];exact⟨_,.inl ⟨.of AC,fun tp ntp=>⟨tp,rfl,(Yc.upd Ym).trans (Yc.upd ntp),AC⟩⟩⟩
  rintro σ H9 ⟨tp,rfl,s9,gtp⟩;have R9:=R.same s9;have FE9:As=[]->GFeed (era sl H9) t 1000:=fun z=>(FE z).same (Jr s9)
  have gq9:=s9 _ _ gq;have gg9:=s9 _ _ gg;have d09:=d0.same s9;have d19:=d1.same s9;have rv9:=Yh.same s9 _ _ rv;clear R FE gq gg d0 d1 rv g s9 H8;refine⟨.inl ⟨rfl,_,.of R9.st⟩,_,.ref ga,.inl (.of gg9),Ai (n:=c) rfl hv,?_⟩;intro x dx hx hdx Yr
  have s10:Yc H9 (upd (upd H9 dx (.own x)) x (.ins T.C_Asking dx [])):=(Yc.upd (o:=.own x) hdx).trans (fun b o e=>by
   have:b≠x:=fun z=>by
    rw[z,AH (Ne.symm Yr),hx]at e;cases e
   rw[AH this];exact e)
  have hx10:upd (upd H9 dx (.own x)) x (.ins T.C_Asking dx []) x=some (.ins T.C_Asking dx []):=AC;generalize upd (upd H9 dx (.own x)) x (.ins T.C_Asking dx [])=H10 at *;refine⟨ls,rs,dx,hx10,Yh.same s10 _ _ rv9,G,he,fun r d H11 nr nd A11 f11=>⟨rfl,?_⟩⟩;have s11:Yc H9 H11:=fun b o e=>f11 b o (BD e hx) (s10 _ _ e)
  refine⟨_,.ref ga,.inl (.of (s11 _ _ gg9)),Ai (n:=c) rfl hv,?_⟩;intro kd nkd;have s12:=s11.trans (Yc.upd (o:=.dT []) nkd);have A12:=A11.same (Yc.upd (o:=.dT []) nkd);have g12:upd H11 kd (.dT []) kd=some (.dT []):=AC;generalize upd H11 kd (.dT [])=H12 at *;refine⟨smq rfl,fun l hl=>?_⟩;have s13:=Yc.upd (o:=.lst [.ref x,.ref ga,.ref tp,.ref kd]) hl;have g13:upd H12 l (.lst [.ref x,.ref ga,.ref tp,.ref kd]) l=some (.lst [.ref x,.ref ga,.ref tp,.ref kd]):=AC;generalize upd H12 l (.lst [.ref x,.ref ga,.ref tp,.ref kd])=H13 at *;have S13:=s12.trans s13;have st13:=S13 _ _ R9.st;refine⟨_,st13,by rw[ZC,ea];exact Ad (by lia),?_⟩;have n13:Sd K T.C_Asking T.C_Reckoner H13 ⟨l,x,r,d,kd⟩ ga ls rs tp (List.range ls.length) []:=⟨g13,by rw[Ot];exact A12.same s13,Yh.same S13 _ _ rv9,S13 _ _ gtp,NF _,fun k hk=>Zn.mp hk,s13 _ _ g12,⟨by simp,fun e he=>by cases he⟩⟩;have nls:l≠sl:=fun z=>by rw[z,s12 _ _ R9.st]at hl;cases hl
  have f14:Yk sl H13 (upd H13 sl (.lst ((As.map fun A=>V.ref A.l)++[.ref l]))):=Yk.updT;have g14:upd H13 sl (.lst ((As.map fun A=>V.ref A.l)++[.ref l])) sl=some (.lst ((As.map fun A=>V.ref A.l)++[.ref l])):=AC;generalize upd H13 sl (.lst ((As.map fun A=>V.ref A.l)++[.ref l]))=H14 at *;have hr0:rs≠[]:=fun z=>by have:=G.r1;rw[z]at this;cases this
  have n14:=n13.grow f14 st13 (fun m r z=>by cases As <;> cases z) hr0 nls;have F14:Yk sl H9 H14:=(A5 S13).trans f14;have gd14:∀{v:V},Gd K H9 v->Gd K H14 v:=fun g=>let ⟨l1,r1,a,b,c⟩:=g.same S13;⟨l1,r1,a,b,Yh.frm f14 ⟨_,st13⟩ _ _ (Cc _ _) c⟩
  refine⟨⟨_,_,rfl⟩,F14 _ _ (AN gq9 R9.st (by intro z;cases z)) gq9,F14 _ _ ngl gg9,gd14 d09,gd14 d19,As++[⟨l,x,r,d,kd⟩],by rw[ZL,ea];rfl,R9.add FE9 (by lia) (fun y hy=>?_) F14 (by rw[ZN];exact g14) G he n14,fun z=>by simp at z⟩;simp only[adr,ZI,Z7,or_false]at hy
  rcases hy with rfl | rfl | rfl | rfl | rfl
  ·exact s12.free hl
  ·exact hx
  ·exact s10.free nr
  ·exact s10.free nd
  ·exact s11.free nkd
 clear R7 E7 ggl gd0 gd1 ngl;rintro σ H8 ⟨⟨z5,z6,rfl⟩,As,ea,R⟩;refine Ag (fun σ H'=>(∃z5 z7 z8:Option V,σ=[some (.ref a),some (.ref t),some (.ref dl),some (.ref gl),some (.ref sl),z5,z6,z7,z8])/\∃N,Ring K T.C_Asking T.C_Reckoner PA H' t N sl As) ?_ ?_ (by walk_at "sm")
 ·refine⟨_,R.fd,by decide,An (by decide) (by decide),fun y H9 y0 y1 F9 f9=>?_⟩;have R9:=R.drew F9 f9;obtain⟨n,rfl⟩:=ZBk y0;refine⟨8+(n:Int),rfl,by lia,by lia,?_⟩;refine CK (fun i σ H'=>(∃z5 z7 z8:Option V,σ=[some (.ref a),some (.ref t),some (.ref dl),some (.ref gl),some (.ref sl),z5,z6,z7,z8])/\Ring K T.C_Asking T.C_Reckoner PA H' t (1001+7 * i) sl As) ⟨⟨_,_,_,rfl⟩,R9⟩ ?_ (fun σ H' ⟨z,R⟩=>⟨z,_,R⟩);clear R R9 F9 f9 H9;rintro i σ H9 hi ⟨⟨z5,z7,z8,rfl⟩,R⟩;have hi18:i < 18:=by lia
  refine Ag (fun σ H'=>(∃z5 z7 z8:Option V,σ=[some (.ref a),some (.ref t),some (.ref dl),some (.ref gl),some (.ref sl),z5,z6,z7,z8])/\Ring K T.C_Asking T.C_Reckoner PA H' t (1001+7 * i+1+5) sl As) ?_ ?_ (by walk_at "sm")
  ·refine⟨_,R.fd,by lia,An (by decide) (by decide),fun y H10 b0 b1 F10 f10=>?_⟩;obtain⟨k,rfl⟩:=ZBk b0;have R10:=R.drew F10 f10;have hk:k < As.length:=by lia
   obtain⟨ga,ls,rs,tp,ts,Yg,G,he,n⟩:=R10.all _ (Zl hk);refine⟨_,.ref As[k].l,.inl (.of R10.st),Ai (n:=k) rfl (by rw[ZR,ZE hk];rfl),?_⟩;exact⟨_,As[k],ga,ls,rs,tp,ts,Yg,F10,by lia,rfl,n,G,he,fun tp' ts' kvs' H12 F12 n12 x12=>⟨⟨_,_,_,rfl⟩,R10.deed (Zl hk) n F12 n12 G he x12⟩⟩
  clear R z5 z7 z8 H9;rintro σ H9 ⟨⟨z5,z7,z8,rfl⟩,R⟩;refine⟨_,R.fd,by lia,An (by decide) (by decide),fun y H10 c0 c1 F10 f10=>?_⟩;obtain⟨w0,rfl⟩:=ZBk c0;have R10:=R.drew F10 f10;dsimp only[Af];clear F10 f10 R H9;refine⟨smq rfl,fun q0 h0=>?_⟩;have s0:=Yc.upd (o:=.lst [.int 0]) h0;have g0:upd H10 q0 (.lst [.int 0]) q0=some (.lst [.int 0]):=AC;generalize upd H10 q0 (.lst [.int 0])=X0 at *;refine⟨smq rfl,fun q1 h1=>?_⟩;have s1:=Yc.upd (o:=.lst [.int 1]) h1;have g1:upd X0 q1 (.lst [.int 1]) q1=some (.lst [.int 1]):=AC;generalize upd X0 q1 (.lst [.int 1])=X1 at *;refine⟨smq rfl,fun q2 h2=>?_⟩;have s2:=Yc.upd (o:=.lst [.int 2]) h2;have g2:upd X1 q2 (.lst [.int 2]) q2=some (.lst [.int 2]):=AC;generalize upd X1 q2 (.lst [.int 2])=X2 at *;refine⟨smq rfl,fun q3 h3=>?_⟩;have s3:=Yc.upd (o:=.lst [.int 2,.int 1,.int 0]) h3;have g3:upd X2 q3 (.lst [.int 2,.int 1,.int 0]) q3=some (.lst [.int 2,.int 1,.int 0]):=AC;generalize upd X2 q3 (.lst [.int 2,.int 1,.int 0])=X3 at *;refine⟨ZP _,fun q4 h4=>?_⟩;have s4:=Yc.upd (o:=.lst []) h4;have g4:upd X3 q4 (.lst []) q4=some (.lst []):=AC;generalize upd X3 q4 (.lst [])=X4 at *;refine⟨smq rfl,fun qq hqq=>?_⟩;have s5:=Yc.upd (o:=.lst [.ref q0,.ref q1,.ref q2,.ref q3,.ref q4]) hqq;have g5:upd X4 qq (.lst [.ref q0,.ref q1,.ref q2,.ref q3,.ref q4]) qq=some (.lst [.ref q0,.ref q1,.ref q2,.ref q3,.ref q4]):=AC;generalize upd X4 qq (.lst [.ref q0,.ref q1,.ref q2,.ref q3,.ref q4])=X5 at *;have t4:=s4.trans s5;have t3:=s3.trans t4;have t2:=s2.trans t3;have t1:=s1.trans t2
  obtain⟨qz,xs,hq,gq,lx⟩:∃(qz:Addr) (xs:List Nat),[V.ref q0,.ref q1,.ref q2,.ref q3,.ref q4][w0]? = some (.ref qz)/\X5 qz=some (.lst (iL xs))/\∀c∈xs,c < 3:=by
   have:w0 < 5:=by lia
   rcases w0 with _ | _ | _ | _ | _ | w0
   ·exact⟨q0,[0],rfl,t1 _ _ g0,by decide⟩
   ·exact⟨q1,[1],rfl,t2 _ _ g1,by decide⟩
   ·exact⟨q2,[2],rfl,t3 _ _ g2,by decide⟩
   ·exact⟨q3,[2,1,0],rfl,t4 _ _ g3,by decide⟩
   ·exact⟨q4,[],rfl,s5 _ _ g4,by decide⟩
   ·lia
  refine⟨_,.ref qz,.inl (.of g5),Ai (n:=w0) rfl hq,.inl ⟨⟨_,.of gq⟩,?_⟩⟩;have R15:=R10.same (s0.trans t1);refine VI (xs:=iL xs) (fun j σ H'=>(∃z5 z7 z8:Option V,σ=[some (.ref a),some (.ref t),some (.ref dl),some (.ref gl),some (.ref sl),z5,z6,z7,z8])/\H' qz=some (.lst (iL xs))/\Ring K T.C_Asking T.C_Reckoner PA H' t (1001+7 * i+1+5+1) sl As) ⟨⟨_,_,_,rfl⟩,gq,R15⟩ (fun j σ H' _ ⟨_,h,_⟩=>.of h) ?_ (fun σ H' ⟨z,_,R⟩=>⟨z,by rw[show 1001+7 * (i+1)=1001+7 * i+1+5+1 by lia];exact R⟩);clear R10 R15 gq g0 g1 g2 g3 g4 g5 s0 s1 s2 s3 s4 s5 t1 t2 t3 t4 h0 h1 h2 h3 h4 hqq X0 X1 X2 X3 X4 X5;rintro j x σ H11 hx ⟨⟨z5,z7,z8,rfl⟩,gq,R⟩
  obtain⟨c,hc,rfl⟩:∃c∈xs,x=.int (c:Nat):=by
   unfold iL at hx;rw[ZR,ZBz]at hx;obtain⟨c,h,rfl⟩:=hx;exact⟨c,Zz h,rfl⟩
  have hk:c < As.length:=by have:=lx c hc;lia
  obtain⟨ga,ls,rs,tp,ts,Yg,G,he,n⟩:=R.all _ (Zl hk);have at_:(As.map fun A=>V.ref A.l)[c]? = some (.ref As[c].l):=by rw[ZR,ZE hk];rfl
  refine⟨_,.ref As[c].l,.inl (.of R.st),Ai (n:=c) rfl at_,_,.ref As[c].p,.inl (.of n.lst),Ai (n:=0) rfl rfl,_,.ref As[c].l,.inl (.of R.st),Ai (n:=c) rfl at_,_,.ref ga,.inl (.of n.lst),Ai (n:=1) rfl rfl,_,.ref As[c].l,.inl (.of R.st),Ai (n:=c) rfl at_,_,.ref tp,.inl (.of n.lst),Ai (n:=2) rfl rfl,_,.ref As[c].l,.inl (.of R.st),Ai (n:=c) rfl at_,_,.ref As[c].kd,.inl (.of n.lst),Ai (n:=3) rfl rfl,?_⟩;refine⟨As[c].r,As[c].d,ls,rs,ts,Yg,n.ak,n.gm,G,he,n.tp,n.rise,n.lt,n.kd,n.mm,R.lm,fun kvs' H12 AK hk' M L f=>?_⟩;obtain⟨R12,O⟩:=R.looks (Zl hk) n G he AK hk' M L f;exact⟨⟨_,_,_,rfl⟩,by rw[Hq]at gq ⊢;exact E5 f O gq,R12⟩
 rintro σ H9 ⟨⟨z5',z7,z8,rfl⟩,N,R9⟩;refine .inl ⟨⟨_,.of R9.st⟩,?_⟩;refine B1 (xs:=As.map fun A=>V.ref A.l) (fun i ys H'=>Ring K T.C_Asking T.C_Reckoner PA H' t N sl As/\ys=List.replicate i (.bl true)) ⟨R9,rfl⟩ (fun i ys H' _ ⟨R,_⟩=>.of R.st) (fun i ys H' hi ⟨_,e⟩=>by rw[e,ZBg];rw[ZC]at hi;exact Ad (by lia)) ?_ ?_
 ·rintro i x ys H' hx ⟨R,rfl⟩
  obtain⟨A,hA,rfl⟩:∃A∈As,x=.ref A.l:=by
   rw[ZR,ZBz]at hx;obtain⟨c,h,rfl⟩:=hx;exact⟨c,Zz h,rfl⟩
  obtain⟨ga,ls,rs,tp,ts,Yg,G,he,n⟩:=R.all _ hA;refine⟨_,.ref A.p,.inl (.of n.lst),Ai (n:=0) rfl rfl,_,.ref ga,.inl (.of n.lst),Ai (n:=1) rfl rfl,_,.ref tp,.inl (.of n.lst),Ai (n:=2) rfl rfl,_,.ref A.kd,.inl (.of n.lst),Ai (n:=3) rfl rfl,?_⟩;refine⟨A.r,A.d,ls,rs,ts,Yg,n.ak,n.gm,G,he,n.tp,n.rise,n.lt,n.kd,n.mm,R.lm,fun kvs' H12 AK hk' M L f=>?_⟩;exact⟨(R.looks hA n G he AK hk' M L f).1,by rw[List.replicate_succ']⟩
 ·rintro ys H' ⟨R,rfl⟩ p hp;rw[ZC,ea];exact⟨_,.inl (.of AC),rfl,rfl,q _⟩
end
noncomputable abbrev DI(K:W.Frag)(n:Str)(st:Stmt)(f:Addr):Prop:=∃(oc kV dc pm cd ct:Value) (od an:Option Addr) (sl:Array (Option Value)),W.nsIn K mainGlobals n=some (some (.ref f))/\K.lookup f=some ⟨oc,od,.func (W.fnOf n n (BZ st) (BE st) (AL st) .none kV dc pm an cd ct),sl⟩/\W.codeIn K cd n=true/\W.keepIn K (.ref f)=true
structure FD(K:W.Frag)(mg:Str->Option Value)(n:Str)(st:Stmt)(ps:List Str)(f:Addr) where
 d:FuncData
 F:Fun K n n st f d
 b:Binds K d ps []
 m:mg n=some (.ref f)
theorem DI.fd{h:Heap}{mg:Str->Option Value}{n:Str}{st:Stmt}{f:Addr}{ps:List Str}(i:DI K n st f)(X:K.In h)(G:h.Ns mainGlobals mg)(hb:∀(kV doc pm:Value) (an:Option Addr) (Yu ct:Value) (us:List Value),us.length=ps.length->bindArgs (W.fnOf n n (BZ st) (BE st) (AL st) .none kV doc pm an Yu ct) ⟨us,[]⟩=pure (ps.zip us)):Nonempty (FD K mg n st ps f):=by
 obtain⟨oc,kV,dc,pm,cd,ct,od,an,sl,a,l,c,k⟩:=i;exact⟨⟨_,Ch l c k,(Ch l c k).binds hb,W.mg_of X G a⟩⟩
noncomputable abbrev DM(K:W.Frag)(C:Addr)(n q:Str)(st:Stmt)(f:Addr):Prop:=∃(oc kV dc pm cd ct:Value) (od an:Option Addr) (sl:Array (Option Value)),W.findIn K (.ref C) n=some (some (.ref f))/\W.isFn K (.ref f)=true/\K.lookup f=some ⟨oc,od,.func (W.fnOf n q (BZ st) (BE st) (AL st) .none kV dc pm an cd ct),sl⟩/\W.codeIn K cd q=true/\W.keepIn K (.ref f)=true
structure FM(K:W.Frag)(C:Addr)(n q:Str)(st:Stmt)(ps:List Str)(f:Addr) where
 d:FuncData
 F:Fun K n q st f d
 b:Binds K d ps []
 m:Meth K C n f
theorem DM.fm{n q:Str}{st:Stmt}{f:Addr}{ps:List Str}(i:DM K C n q st f)(hb:∀(kV doc pm:Value) (an:Option Addr) (Yu ct:Value) (us:List Value),us.length=ps.length->bindArgs (W.fnOf n q (BZ st) (BE st) (AL st) .none kV doc pm an Yu ct) ⟨us,[]⟩=pure (ps.zip us)):Nonempty (FM K C n q st ps f):=by
 obtain⟨oc,kV,dc,pm,cd,ct,od,an,sl,a,i,l,c,k⟩:=i;exact⟨⟨_,Ch l c k,(Ch l c k).binds hb,⟨a,i,k⟩⟩⟩
theorem all_di{n:Str}{st:Stmt}{f:Addr}{oc kV dc pm cd ct:Value}{od an:Option Addr}{sl:Array (Option Value)}(a:W.nsIn K mainGlobals n=some (some (.ref f)))(l:K.lookup f=some ⟨oc,od,.func (W.fnOf n n (BZ st) (BE st) (AL st) .none kV dc pm an cd ct),sl⟩)(c:W.codeIn K cd n=true)(k:W.keepIn K (.ref f)=true):DI K n st f:=⟨_,_,_,_,_,_,_,_,_,a,l,c,k⟩
theorem all_dm{n q:Str}{st:Stmt}{f:Addr}{oc kV dc pm cd ct:Value}{od an:Option Addr}{sl:Array (Option Value)}(a:W.findIn K (.ref C) n=some (some (.ref f)))(i:W.isFn K (.ref f)=true)(l:K.lookup f=some ⟨oc,od,.func (W.fnOf n q (BZ st) (BE st) (AL st) .none kV dc pm an cd ct),sl⟩)(c:W.codeIn K cd q=true)(k:W.keepIn K (.ref f)=true):DM K C n q st f:=⟨_,_,_,_,_,_,_,_,_,a,i,l,c,k⟩
theorem all_mk {l:W.OpenLaw} {w:World} {h:Heap} {mg:Str->Option Value} {fa:Addr} (X:K.In h) (G:h.Ns mainGlobals mg) (hfa:mg "law" = some (.ref fa))
 {C_Asking:Addr}
 {C_Reckoner:Addr}
 {C_Alike:Addr}
 {C_FlipError:Addr}
 {C_NoEnd:Addr}
 {C_NoName:Addr}
 {C_NoRow:Addr}
 {C_NoTable:Addr}
 {C_NoText:Addr}
 {C_NoThing:Addr}
 {f0 f1 f46:Addr} {oc0 kV0 dc0 pm0 cd0 ct0 oc1 kV1 dc1 pm1 cd1 ct1 oc46 kV46 dc46 pm46 cd46 ct46:Value} {od0 an0 od1 an1 od46 an46:Option Addr} {sl0 sl1 sl46:Array (Option Value)}
 {f18:Addr} {oc18 kV18 dc18 pm18 ct18:Value} {od18 an18:Option Addr} {sl18:Array (Option Value)} {g18 p18:Addr} {cvs18:Array Value} {cod18:Option Addr} {csl18:Array (Option Value)}
 {f2 f3 f4 f5 f6 f7 f8 f9 f10 f11 f12 f13 f14 f15 f16 f17 f19 f20 f21 f22 f23 f24 f25 f26 f27 f28 f29 f30 f31 f32 f33 f34 f35 f36 f37 f38 f39 f40 f41 f42 f43 f44 f45:Addr}
 (aC_Asking:W.nsIn K mainGlobals "Asking" = some (some (.ref C_Asking)))
 (pg_Asking:W.plainGet K C_Asking Str.empty=true)
 (hd_Asking:W.hasDictIn K C_Asking=true)
 (po_Asking:W.plainOver K C_Asking=true)
 (sa_Asking:W.findIn K (.ref C_Asking) "__setattr__" = some (some (.builtin "object.__setattr__")))
 (mk_Asking:W.makesIn K C_Asking=true)
 (kc_Asking:W.keepIn K (.ref C_Asking)=true)
 (na_reckoner_Asking:W.findIn K (.ref C_Asking) "reckoner" = some none)
 (na_fitting_Asking:W.findIn K (.ref C_Asking) "fitting" = some none)
 (aC_Reckoner:W.nsIn K mainGlobals "Reckoner" = some (some (.ref C_Reckoner)))
 (pg_Reckoner:W.plainGet K C_Reckoner Str.empty=true)
 (hd_Reckoner:W.hasDictIn K C_Reckoner=true)
 (po_Reckoner:W.plainOver K C_Reckoner=true)
 (sa_Reckoner:W.findIn K (.ref C_Reckoner) "__setattr__" = some (some (.builtin "object.__setattr__")))
 (mk_Reckoner:W.makesIn K C_Reckoner=true)
 (kc_Reckoner:W.keepIn K (.ref C_Reckoner)=true)
 (na_labels_Reckoner:W.findIn K (.ref C_Reckoner) "labels" = some none)
 (na_yeses_Reckoner:W.findIn K (.ref C_Reckoner) "yeses" = some none)
 (na_alike_Reckoner:W.findIn K (.ref C_Reckoner) "alike" = some none)
 (na_known_Reckoner:W.findIn K (.ref C_Reckoner) "known" = some none)
 (aC_Alike:W.nsIn K mainGlobals "Alike" = some (some (.ref C_Alike)))
 (aC_FlipError:W.nsIn K mainGlobals "FlipError" = some (some (.ref C_FlipError)))
 (aC_NoEnd:W.nsIn K mainGlobals "NoEnd" = some (some (.ref C_NoEnd)))
 (aC_NoName:W.nsIn K mainGlobals "NoName" = some (some (.ref C_NoName)))
 (aC_NoRow:W.nsIn K mainGlobals "NoRow" = some (some (.ref C_NoRow)))
 (aC_NoTable:W.nsIn K mainGlobals "NoTable" = some (some (.ref C_NoTable)))
 (aC_NoText:W.nsIn K mainGlobals "NoText" = some (some (.ref C_NoText)))
 (aC_NoThing:W.nsIn K mainGlobals "NoThing" = some (some (.ref C_NoThing)))
 (x1_NoEnd:W.findIn K (.ref C_NoEnd) "__getattribute__" = some (some (.builtin "BaseException.__getattribute__")))
 (x2_NoEnd:W.findIn K (.ref C_NoEnd) "__getattr__" = some none)
 (x3_NoEnd:W.mroIn K C_NoEnd (.type "BaseException")=some true)
 (x4_NoEnd:W.mroIn K C_NoEnd (.type "object")=some true)
 (x5_NoEnd:W.findIn K (.ref C_NoEnd) "__class__" = some (some (.builtin "object.__class__")))
 (x6_NoEnd:W.specialIn K (.builtin "object.__class__") "__get__" = some (some (.builtin "getset_descriptor.__get__")))
 (x7_NoEnd:W.takesIn K (.builtin "object.__class__")=some true)
 (xs_NoEnd:W.findIn K (.ref C_NoEnd) "__setattr__" = some (some (.builtin "object.__setattr__")))
 (hd_NoEnd:W.hasDictIn K C_NoEnd=true)
 (na_one_NoEnd:W.findIn K (.ref C_NoEnd) "one" = some none)
 (na_other_NoEnd:W.findIn K (.ref C_NoEnd) "other" = some none)
 (xm_NoEnd_FlipError:W.exmOne K (.ref C_NoEnd) (.ref C_FlipError)=some true)
 (xm_NoEnd_NoEnd:W.exmOne K (.ref C_NoEnd) (.ref C_NoEnd)=some true)
 (kk_NoEnd_Alike:W.kitOne K (.ref C_NoEnd) (.ref C_Alike)=some false)
 (kk_NoEnd_NoEnd:W.kitOne K (.ref C_NoEnd) (.ref C_NoEnd)=some true)
 (kk_NoEnd_NoName:W.kitOne K (.ref C_NoEnd) (.ref C_NoName)=some false)
 (kk_NoEnd_NoRow:W.kitOne K (.ref C_NoEnd) (.ref C_NoRow)=some false)
 (kk_NoEnd_NoTable:W.kitOne K (.ref C_NoEnd) (.ref C_NoTable)=some false)
 (kk_NoEnd_NoText:W.kitOne K (.ref C_NoEnd) (.ref C_NoText)=some false)
 (kk_NoEnd_NoThing:W.kitOne K (.ref C_NoEnd) (.ref C_NoThing)=some false)
 (kk_NoEnd_ValueError:W.kitOne K (.ref C_NoEnd) (.type "ValueError")=some true)
 (x1_NoThing:W.findIn K (.ref C_NoThing) "__getattribute__" = some (some (.builtin "BaseException.__getattribute__")))
 (x2_NoThing:W.findIn K (.ref C_NoThing) "__getattr__" = some none)
 (x3_NoThing:W.mroIn K C_NoThing (.type "BaseException")=some true)
 (x4_NoThing:W.mroIn K C_NoThing (.type "object")=some true)
 (x5_NoThing:W.findIn K (.ref C_NoThing) "__class__" = some (some (.builtin "object.__class__")))
 (x6_NoThing:W.specialIn K (.builtin "object.__class__") "__get__" = some (some (.builtin "getset_descriptor.__get__")))
 (x7_NoThing:W.takesIn K (.builtin "object.__class__")=some true)
 (xs_NoThing:W.findIn K (.ref C_NoThing) "__setattr__" = some (some (.builtin "object.__setattr__")))
 (hd_NoThing:W.hasDictIn K C_NoThing=true)
 (na_question_NoThing:W.findIn K (.ref C_NoThing) "question" = some none)
 (xm_NoThing_FlipError:W.exmOne K (.ref C_NoThing) (.ref C_FlipError)=some true)
 (xm_NoThing_NoEnd:W.exmOne K (.ref C_NoThing) (.ref C_NoEnd)=some false)
 (kk_NoThing_Alike:W.kitOne K (.ref C_NoThing) (.ref C_Alike)=some false)
 (kk_NoThing_NoEnd:W.kitOne K (.ref C_NoThing) (.ref C_NoEnd)=some false)
 (kk_NoThing_NoName:W.kitOne K (.ref C_NoThing) (.ref C_NoName)=some false)
 (kk_NoThing_NoRow:W.kitOne K (.ref C_NoThing) (.ref C_NoRow)=some false)
 (kk_NoThing_NoTable:W.kitOne K (.ref C_NoThing) (.ref C_NoTable)=some false)
 (kk_NoThing_NoText:W.kitOne K (.ref C_NoThing) (.ref C_NoText)=some false)
 (kk_NoThing_NoThing:W.kitOne K (.ref C_NoThing) (.ref C_NoThing)=some true)
 (kk_NoThing_ValueError:W.kitOne K (.ref C_NoThing) (.type "ValueError")=some true)
 (a0:W.findIn K (.ref C_NoEnd) "__init__" = some (some (.ref f0)))
 (i0:W.isFn K (.ref f0)=true)
 (l0:K.lookup f0=some ⟨oc0,od0,.func (W.fnOf "__init__" "NoEnd.__init__" (BZ Dl) (BE Dl) (AL Dl) .none kV0 dc0 pm0 an0 cd0 ct0),sl0⟩)
 (c0:W.codeIn K cd0 "NoEnd.__init__" = true)
 (k0:W.keepIn K (.ref f0)=true)
 (a1:W.findIn K (.ref C_NoThing) "__init__" = some (some (.ref f1)))
 (i1:W.isFn K (.ref f1)=true)
 (l1:K.lookup f1=some ⟨oc1,od1,.func (W.fnOf "__init__" "NoThing.__init__" (BZ Dk) (BE Dk) (AL Dk) .none kV1 dc1 pm1 an1 cd1 ct1),sl1⟩)
 (c1:W.codeIn K cd1 "NoThing.__init__" = true)
 (k1:W.keepIn K (.ref f1)=true)
 (i2:DI K "two_to" JF f2)
 (i3:DI K "power_of" HY f3)
 (i4:DI K "is_on" GU f4)
 (i5:DI K "within" HK f5)
 (i6:DI K "set_holding" Fx f6)
 (i7:DI K "members_of" JB f7)
 (i8:DM K C_Reckoner "__init__" "Reckoner.__init__" G8 f8)
 (i9:DM K C_Reckoner "everything" "Reckoner.everything" HN f9)
 (i10:DM K C_Reckoner "has_one_label" "Reckoner.has_one_label" Ic f10)
 (i11:DM K C_Reckoner "label_of" "Reckoner.label_of" GX f11)
 (i12:DM K C_Reckoner "left_of" "Reckoner.left_of" HX f12)
 (i13:DM K C_Reckoner "fewest_among" "Reckoner.fewest_among" Hv f13)
 (i14:DM K C_Reckoner "fewest_reckoned" "Reckoner.fewest_reckoned" GZ f14)
 (i15:DM K C_Reckoner "parting" "Reckoner.parting" G3 f15)
 (i16:DM K C_Reckoner "worst_behind" "Reckoner.worst_behind" Hh f16)
 (i17:DM K C_Reckoner "harder_left" "Reckoner.harder_left" IR f17)
 (a18:W.findIn K (.ref C_Reckoner) "first_question" = some (some (.ref f18)))
 (i18:W.isFn K (.ref f18)=true)
 (l18:K.lookup f18=some ⟨oc18,od18,.func (W.fnOf "first_question" "Reckoner.first_question" (BZ CP) (BE CP) (AL CP) .none kV18 dc18 pm18 an18 (.ref g18) ct18),sl18⟩)
 (c18:W.codeIn K (.ref g18) "Reckoner.first_question" = true)
 (k18:W.keepIn K (.ref f18)=true)
 (lc18:K.lookup g18=some ⟨.type "code",cod18,.fields cvs18,csl18⟩)
 (pv18:cvs18[11]? = some (.ref p18))
 (gh18:W.codeHdIn K g18 p18=true)
 (gt18:h.get? p18=some (W.tabObj #[]))
 (i19:DI K "members_where" Gc f19)
 (i20:DI K "refuse_without_end" IC f20)
 (i21:DI K "first_unparted" HP f21)
 (i22:DM K C_Asking "__init__" "Asking.__init__" Gh f22)
 (i23:DM K C_Asking "ask" "Asking.ask" Hm f23)
 (i24:DM K C_Asking "say" "Asking.say" Ig f24)
 (i25:DM K C_Asking "left" "Asking.left" Fm f25)
 (i26:DM K C_Asking "label" "Asking.label" Iz f26)
 (i27:DM K C_Asking "most" "Asking.most" IZ f27)
 (i28:DI K "_law_feed" GY f28)
 (i29:DI K "_law_draw" G5 f29)
 (i30:DI K "_law_table" Ho f30)
 (i31:DI K "_law_table_game" JP f31)
 (i32:DI K "_law_class" GB f32)
 (i33:DI K "_law_class_game" Jc f33)
 (i34:DI K "_law_picks" IP f34)
 (i35:DI K "_law_any_game" HD f35)
 (i36:DI K "_law_game" GW f36)
 (i37:DI K "_law_pair" HB f37)
 (i38:DI K "_law_ending" Hf f38)
 (i39:DI K "_law_sides" Ii f39)
 (i40:DI K "_law_need" Gv f40)
 (i41:DI K "_law_first" IN f41)
 (i42:DI K "_law_looks_right" GA f42)
 (i43:DI K "_law_answered" Iu f43)
 (i44:DI K "_law_begun" He f44)
 (i45:DI K "_law_deed" Hn f45)
 (a46:W.nsIn K mainGlobals "law" = some (some (.ref f46)))
 (l46:K.lookup f46=some ⟨oc46,od46,.func (W.fnOf "law" "law" (BZ CS) (BE CS) (AL CS) .none kV46 dc46 pm46 an46 cd46 ct46),sl46⟩)
 (c46:W.codeIn K cd46 "law" = true)
 (k46:W.keepIn K (.ref f46)=true)
 (z_ValueError:W.nsIn K mainGlobals "ValueError" = some none)
 (z_any:W.nsIn K mainGlobals "any" = some none)
 (z_enumerate:W.nsIn K mainGlobals "enumerate" = some none)
 (z_int:W.nsIn K mainGlobals "int" = some none)
 (z_isinstance:W.nsIn K mainGlobals "isinstance" = some none)
 (z_len:W.nsIn K mainGlobals "len" = some none)
 (z_list:W.nsIn K mainGlobals "list" = some none)
 (z_max:W.nsIn K mainGlobals "max" = some none)
 (z_min:W.nsIn K mainGlobals "min" = some none)
 (z_range:W.nsIn K mainGlobals "range" = some none)
 (z_repr:W.nsIn K mainGlobals "repr" = some none)
 (z_set:W.nsIn K mainGlobals "set" = some none)
 (z_sorted:W.nsIn K mainGlobals "sorted" = some none)
 (z_sum:W.nsIn K mainGlobals "sum" = some none)
 (z_tuple:W.nsIn K mainGlobals "tuple" = some none)
 (xj_NoEnd:DH K C_NoEnd f0=true)
 (xj_NoThing:DH K C_NoThing f1=true)
 (hnt:W.noTabs K=true) :
 ∃(fd:FuncData) (ts:List (Addr × Addr)),W.TabsAt ts h/\W.noTabs K=true/\(∀(s:Shared) (v:Value),BindsTo s fd ⟨[v],[]⟩ [("_law_script",v)])/\∀base:Heap,K.In base->base.Ns mainGlobals mg->BMn mg base->FnOk l.prog w K mg base CX0 80 fa fd ["_law_script"] (Ek K (ts.map (·.2))):=by
 have e:=hfa.symm.trans (W.mg_of X G a46);cases e;have F0:=Ch (st:=Dl) l0 c0 k0;have b0:=F0.binds (ps:=["self","one","other"]) fun _ _ _ _ _ _=>L2.on3 (fun _ _ _=>rfl)
 have F1:=Ch (st:=Dk) l1 c1 k1;have b1:=F1.binds (ps:=["self","question"]) fun _ _ _ _ _ _=>L2.on2 (fun _ _=>rfl)
 obtain⟨Q2⟩:=i2.fd X G (ps:=["n"]) fun _ _ _ _ _ _=>L2.on1 (fun _=>rfl)
 obtain⟨Q3⟩:=i3.fd X G (ps:=["base","times"]) fun _ _ _ _ _ _=>L2.on2 (fun _ _=>rfl)
 obtain⟨Q4⟩:=i4.fd X G (ps:=["place","switch"]) fun _ _ _ _ _ _=>L2.on2 (fun _ _=>rfl)
 obtain⟨Q5⟩:=i5.fd X G (ps:=["subset","other"]) fun _ _ _ _ _ _=>L2.on2 (fun _ _=>rfl)
 obtain⟨Q6⟩:=i6.fd X G (ps:=["members"]) fun _ _ _ _ _ _=>L2.on1 (fun _=>rfl)
 obtain⟨Q7⟩:=i7.fd X G (ps:=["subset"]) fun _ _ _ _ _ _=>L2.on1 (fun _=>rfl)
 obtain⟨Q8⟩:=i8.fm (ps:=["self","game"]) fun _ _ _ _ _ _=>L2.on2 (fun _ _=>rfl)
 obtain⟨Q9⟩:=i9.fm (ps:=["self"]) fun _ _ _ _ _ _=>L2.on1 (fun _=>rfl)
 obtain⟨Q10⟩:=i10.fm (ps:=["self","things"]) fun _ _ _ _ _ _=>L2.on2 (fun _ _=>rfl)
 obtain⟨Q11⟩:=i11.fm (ps:=["self","things"]) fun _ _ _ _ _ _=>L2.on2 (fun _ _=>rfl)
 obtain⟨Q12⟩:=i12.fm (ps:=["self","things","question","answer"]) fun _ _ _ _ _ _=>L2.on4 (fun _ _ _ _=>rfl)
 obtain⟨Q13⟩:=i13.fm (ps:=["self","things"]) fun _ _ _ _ _ _=>L2.on2 (fun _ _=>rfl)
 obtain⟨Q14⟩:=i14.fm (ps:=["self","things"]) fun _ _ _ _ _ _=>L2.on2 (fun _ _=>rfl)
 obtain⟨Q15⟩:=i15.fm (ps:=["self","things"]) fun _ _ _ _ _ _=>L2.on2 (fun _ _=>rfl)
 obtain⟨Q16⟩:=i16.fm (ps:=["self","things","question"]) fun _ _ _ _ _ _=>L2.on3 (fun _ _ _=>rfl)
 obtain⟨Q17⟩:=i17.fm (ps:=["self","things","question"]) fun _ _ _ _ _ _=>L2.on3 (fun _ _ _=>rfl)
 have F18:=Ch (st:=CP) l18 c18 k18;have b18:=F18.binds (ps:=["self","things"]) fun _ _ _ _ _ _=>L2.on2 (fun _ _=>rfl)
 obtain⟨Q19⟩:=i19.fd X G (ps:=["wanted","values"]) fun _ _ _ _ _ _=>L2.on2 (fun _ _=>rfl)
 obtain⟨Q20⟩:=i20.fd X G (ps:=["game"]) fun _ _ _ _ _ _=>L2.on1 (fun _=>rfl)
 obtain⟨Q21⟩:=i21.fd X G (ps:=["game"]) fun _ _ _ _ _ _=>L2.on1 (fun _=>rfl)
 obtain⟨Q22⟩:=i22.fm (ps:=["self","game"]) fun _ _ _ _ _ _=>L2.on2 (fun _ _=>rfl)
 obtain⟨Q23⟩:=i23.fm (ps:=["self"]) fun _ _ _ _ _ _=>L2.on1 (fun _=>rfl)
 obtain⟨Q24⟩:=i24.fm (ps:=["self","question","answer"]) fun _ _ _ _ _ _=>L2.on3 (fun _ _ _=>rfl)
 obtain⟨Q25⟩:=i25.fm (ps:=["self"]) fun _ _ _ _ _ _=>L2.on1 (fun _=>rfl)
 obtain⟨Q26⟩:=i26.fm (ps:=["self"]) fun _ _ _ _ _ _=>L2.on1 (fun _=>rfl)
 obtain⟨Q27⟩:=i27.fm (ps:=["self"]) fun _ _ _ _ _ _=>L2.on1 (fun _=>rfl)
 obtain⟨Q28⟩:=i28.fd X G (ps:=["_law_script"]) fun _ _ _ _ _ _=>L2.on1 (fun _=>rfl)
 obtain⟨Q29⟩:=i29.fd X G (ps:=["_law_feed_here","_law_many"]) fun _ _ _ _ _ _=>L2.on2 (fun _ _=>rfl)
 obtain⟨Q30⟩:=i30.fd X G (ps:=["_law_feed_here","_law_n"]) fun _ _ _ _ _ _=>L2.on2 (fun _ _=>rfl)
 obtain⟨Q31⟩:=i31.fd X G (ps:=["_law_table_here"]) fun _ _ _ _ _ _=>L2.on1 (fun _=>rfl)
 obtain⟨Q32⟩:=i32.fd X G (ps:=["_law_feed_here","_law_n","_law_many"]) fun _ _ _ _ _ _=>L2.on3 (fun _ _ _=>rfl)
 obtain⟨Q33⟩:=i33.fd X G (ps:=["_law_tables"]) fun _ _ _ _ _ _=>L2.on1 (fun _=>rfl)
 obtain⟨Q34⟩:=i34.fd X G (ps:=["_law_feed_here"]) fun _ _ _ _ _ _=>L2.on1 (fun _=>rfl)
 obtain⟨Q35⟩:=i35.fd X G (ps:=["_law_feed_here"]) fun _ _ _ _ _ _=>L2.on1 (fun _=>rfl)
 obtain⟨Q36⟩:=i36.fd X G (ps:=["_law_feed_here"]) fun _ _ _ _ _ _=>L2.on1 (fun _=>rfl)
 obtain⟨Q37⟩:=i37.fd X G (ps:=["_law_game_here"]) fun _ _ _ _ _ _=>L2.on1 (fun _=>rfl)
 obtain⟨Q38⟩:=i38.fd X G (ps:=["_law_game_here"]) fun _ _ _ _ _ _=>L2.on1 (fun _=>rfl)
 obtain⟨Q39⟩:=i39.fd X G (ps:=["_law_game_here","_law_things","_law_question"]) fun _ _ _ _ _ _=>L2.on3 (fun _ _ _=>rfl)
 obtain⟨Q40⟩:=i40.fd X G (ps:=["_law_game_here","_law_things","_law_known"]) fun _ _ _ _ _ _=>L2.on3 (fun _ _ _=>rfl)
 obtain⟨Q41⟩:=i41.fd X G (ps:=["_law_game_here","_law_things","_law_known"]) fun _ _ _ _ _ _=>L2.on3 (fun _ _ _=>rfl)
 obtain⟨Q42⟩:=i42.fd X G (ps:=["_law_asking","_law_game_here","_law_things","_law_known"]) fun _ _ _ _ _ _=>L2.on4 (fun _ _ _ _=>rfl)
 obtain⟨Q43⟩:=i43.fd X G (ps:=["_law_asking","_law_question","_law_answer"]) fun _ _ _ _ _ _=>L2.on3 (fun _ _ _=>rfl)
 obtain⟨Q44⟩:=i44.fd X G (ps:=["_law_game_here"]) fun _ _ _ _ _ _=>L2.on1 (fun _=>rfl)
 obtain⟨Q45⟩:=i45.fd X G (ps:=["_law_feed_here","_law_side"]) fun _ _ _ _ _ _=>L2.on2 (fun _ _=>rfl)
 have F46:=Ch (st:=CS) l46 c46 k46;have b46:=F46.binds (ps:=["_law_script"]) fun _ _ _ _ _ _=>L2.on1 (fun _=>rfl)
 let T:Txt K mg:={ C_Asking:=C_Asking,mC_Asking:=W.mg_of X G aC_Asking,cl_Asking:=⟨pg_Asking,hd_Asking,po_Asking,sa_Asking⟩,na_Asking_reckoner:=na_reckoner_Asking,na_Asking_fitting:=na_fitting_Asking,C_Reckoner:=C_Reckoner,mC_Reckoner:=W.mg_of X G aC_Reckoner,cl_Reckoner:=⟨pg_Reckoner,hd_Reckoner,po_Reckoner,sa_Reckoner⟩,na_Reckoner_labels:=na_labels_Reckoner,na_Reckoner_yeses:=na_yeses_Reckoner,na_Reckoner_alike:=na_alike_Reckoner,na_Reckoner_known:=na_known_Reckoner,C_Alike:=C_Alike,mC_Alike:=W.mg_of X G aC_Alike,C_FlipError:=C_FlipError,mC_FlipError:=W.mg_of X G aC_FlipError,C_NoEnd:=C_NoEnd,mC_NoEnd:=W.mg_of X G aC_NoEnd,C_NoName:=C_NoName,mC_NoName:=W.mg_of X G aC_NoName,C_NoRow:=C_NoRow,mC_NoRow:=W.mg_of X G aC_NoRow,C_NoTable:=C_NoTable,mC_NoTable:=W.mg_of X G aC_NoTable,C_NoText:=C_NoText,mC_NoText:=W.mg_of X G aC_NoText,C_NoThing:=C_NoThing,mC_NoThing:=W.mg_of X G aC_NoThing,xc_NoEnd:=⟨x1_NoEnd,x2_NoEnd,x3_NoEnd,x4_NoEnd,x5_NoEnd,x6_NoEnd,x7_NoEnd⟩,hd_NoEnd:=hd_NoEnd,na_NoEnd_one:=na_one_NoEnd,na_NoEnd_other:=na_other_NoEnd,xm_NoEnd_FlipError:=xm_NoEnd_FlipError,xm_NoEnd_NoEnd:=xm_NoEnd_NoEnd,kk_NoEnd_Alike:=kk_NoEnd_Alike,kk_NoEnd_NoEnd:=kk_NoEnd_NoEnd,kk_NoEnd_NoName:=kk_NoEnd_NoName,kk_NoEnd_NoRow:=kk_NoEnd_NoRow,kk_NoEnd_NoTable:=kk_NoEnd_NoTable,kk_NoEnd_NoText:=kk_NoEnd_NoText,kk_NoEnd_NoThing:=kk_NoEnd_NoThing,kk_NoEnd_ValueError:=kk_NoEnd_ValueError,xc_NoThing:=⟨x1_NoThing,x2_NoThing,x3_NoThing,x4_NoThing,x5_NoThing,x6_NoThing,x7_NoThing⟩,hd_NoThing:=hd_NoThing,na_NoThing_question:=na_question_NoThing,xm_NoThing_FlipError:=xm_NoThing_FlipError,xm_NoThing_NoEnd:=xm_NoThing_NoEnd,kk_NoThing_Alike:=kk_NoThing_Alike,kk_NoThing_NoEnd:=kk_NoThing_NoEnd,kk_NoThing_NoName:=kk_NoThing_NoName,kk_NoThing_NoRow:=kk_NoThing_NoRow,kk_NoThing_NoTable:=kk_NoThing_NoTable,kk_NoThing_NoText:=kk_NoThing_NoText,kk_NoThing_NoThing:=kk_NoThing_NoThing,kk_NoThing_ValueError:=kk_NoThing_ValueError,z34:=⟨f0,_,F0,b0,⟨a0,i0,k0⟩⟩,xI_NoEnd:=⟨xj_NoEnd,⟨x1_NoEnd,x2_NoEnd,x3_NoEnd,x4_NoEnd,x5_NoEnd,x6_NoEnd,x7_NoEnd⟩,xs_NoEnd,i0⟩,z26:=⟨f1,_,F1,b1,⟨a1,i1,k1⟩⟩,xI_NoThing:=⟨xj_NoThing,⟨x1_NoThing,x2_NoThing,x3_NoThing,x4_NoThing,x5_NoThing,x6_NoThing,x7_NoThing⟩,xs_NoThing,i1⟩,z53:=⟨f2,Q2.d,Q2.F,Q2.b,Q2.m⟩,z51:=⟨f3,Q3.d,Q3.F,Q3.b,Q3.m⟩,z54:=⟨f4,Q4.d,Q4.F,Q4.b,Q4.m⟩,z52:=⟨f5,Q5.d,Q5.F,Q5.b,Q5.m⟩,z37:=⟨f6,Q6.d,Q6.F,Q6.b,Q6.m⟩,z40:=⟨f7,Q7.d,Q7.F,Q7.b,Q7.m⟩,z23:=⟨f8,Q8.d,Q8.F,Q8.b,Q8.m⟩,mk_Reckoner:=⟨mk_Reckoner,Q8.m.at_,Q8.m.fn,kc_Reckoner⟩,z15:=⟨f9,Q9.d,Q9.F,Q9.b,Q9.m⟩,z11:=⟨f10,Q10.d,Q10.F,Q10.b,Q10.m⟩,z16:=⟨f11,Q11.d,Q11.F,Q11.b,Q11.m⟩,z17:=⟨f12,Q12.d,Q12.F,Q12.b,Q12.m⟩,z13:=⟨f13,Q13.d,Q13.F,Q13.b,Q13.m⟩,z0:=⟨f14,Q14.d,Q14.F,Q14.b,Q14.m⟩,z19:=⟨f15,Q15.d,Q15.F,Q15.b,Q15.m⟩,z12:=⟨f16,Q16.d,Q16.F,Q16.b,Q16.m⟩,z14:=⟨f17,Q17.d,Q17.F,Q17.b,Q17.m⟩,g_z10:=g18,p_z10:=p18,gc_z10:=rfl,gh_z10:=gh18,z10:=⟨f18,_,F18,b18,⟨a18,i18,k18⟩⟩,z30:=⟨f19,Q19.d,Q19.F,Q19.b,Q19.m⟩,z18:=⟨f20,Q20.d,Q20.F,Q20.b,Q20.m⟩,z25:=⟨f21,Q21.d,Q21.F,Q21.b,Q21.m⟩,z29:=⟨f22,Q22.d,Q22.F,Q22.b,Q22.m⟩,mk_Asking:=⟨mk_Asking,Q22.m.at_,Q22.m.fn,kc_Asking⟩,z33:=⟨f23,Q23.d,Q23.F,Q23.b,Q23.m⟩,z35:=⟨f24,Q24.d,Q24.F,Q24.b,Q24.m⟩,z27:=⟨f25,Q25.d,Q25.F,Q25.b,Q25.m⟩,z24:=⟨f26,Q26.d,Q26.F,Q26.b,Q26.m⟩,z31:=⟨f27,Q27.d,Q27.F,Q27.b,Q27.m⟩,z49:=⟨f28,Q28.d,Q28.F,Q28.b,Q28.m⟩,z47:=⟨f29,Q29.d,Q29.F,Q29.b,Q29.m⟩,z43:=⟨f30,Q30.d,Q30.F,Q30.b,Q30.m⟩,z22:=⟨f31,Q31.d,Q31.F,Q31.b,Q31.m⟩,z39:=⟨f32,Q32.d,Q32.F,Q32.b,Q32.m⟩,z21:=⟨f33,Q33.d,Q33.F,Q33.b,Q33.m⟩,z38:=⟨f34,Q34.d,Q34.F,Q34.b,Q34.m⟩,z32:=⟨f35,Q35.d,Q35.F,Q35.b,Q35.m⟩,z45:=⟨f36,Q36.d,Q36.F,Q36.b,Q36.m⟩,z50:=⟨f37,Q37.d,Q37.F,Q37.b,Q37.m⟩,z36:=⟨f38,Q38.d,Q38.F,Q38.b,Q38.m⟩,z42:=⟨f39,Q39.d,Q39.F,Q39.b,Q39.m⟩,z48:=⟨f40,Q40.d,Q40.F,Q40.b,Q40.m⟩,z41:=⟨f41,Q41.d,Q41.F,Q41.b,Q41.m⟩,z20:=⟨f42,Q42.d,Q42.F,Q42.b,Q42.m⟩,z28:=⟨f43,Q43.d,Q43.F,Q43.b,Q43.m⟩,z44:=⟨f44,Q44.d,Q44.F,Q44.b,Q44.m⟩,z46:=⟨f45,Q45.d,Q45.F,Q45.b,Q45.m⟩,f_law:=fa,d_law:=_,F_law:=F46,b_law:=b46,m_law:=W.mg_of X G a46,z_ValueError:=W.mg_none_of X G z_ValueError,z_any:=W.mg_none_of X G z_any,z_enumerate:=W.mg_none_of X G z_enumerate,z_int:=W.mg_none_of X G z_int,z_isinstance:=W.mg_none_of X G z_isinstance,z_len:=W.mg_none_of X G z_len,z_list:=W.mg_none_of X G z_list,z_max:=W.mg_none_of X G z_max,z_min:=W.mg_none_of X G z_min,z_range:=W.mg_none_of X G z_range,z_repr:=W.mg_none_of X G z_repr,z_set:=W.mg_none_of X G z_set,z_sorted:=W.mg_none_of X G z_sorted,z_sum:=W.mg_none_of X G z_sum,z_tuple:=W.mg_none_of X G z_tuple };exact⟨W.fnOf "law" "law" (BZ CS) (BE CS) (AL CS) .none kV46 dc46 pm46 an46 cd46 ct46,[(g18,p18)],List.forall_mem_cons.mpr ⟨⟨W.codeHd_of_K X gh18,gt18⟩,fun _ z=>nomatch z⟩,hnt,fun s v=>.of_eq rfl,fun base _ _ B=>TQ T B⟩
theorem walk {l:W.OpenLaw} {q:Program} {loose:List Str} {XP:(Str->Option Value)->Heap->Prop} {YP:World->Heap->Prop} {d:DefRec} {K:Params->W.Frag} (hn:l.most=some 63) (hdf:d.params.defaults=[])
 (hY:∀(w:World) (h:Heap),YP w h->(K w.params).In h)
 (F:∀(w:World) (mg:Str->Option Value) (fa:Addr) (h:Heap),YP w h->(K w.params).In h->h.Ns mainGlobals mg->mg d.name=some (.ref fa) ->
   ∃(fd:FuncData) (ts:List (Addr × Addr)),W.TabsAt ts h/\W.noTabs (K w.params)=true/\(∀(s:Shared) (u:Value),BindsTo s fd ⟨[u],[]⟩ [("_law_script",u)])/\∀base:Heap,(K w.params).In base->base.Ns mainGlobals mg->BMn mg base->FnOk l.prog w (K w.params) mg base CX0 80 fa fd ["_law_script"] (Ek (K w.params) (ts.map (·.2)))) :
 W.WalkO q loose XP YP l.row.toRowW d [] (fun f vs=>PySem.call f vs) :=
 L2.walk_ofT (n:=63) (k:=80) (x:="_law_script") (sp:=fun w ts=>Ek (K w.params) ts) hn (by decide) hdf ⟨rfl,by decide,by decide,rfl⟩ hY F (fun _ _ a ns ts hl hO hS=>⟨a,ns,rfl,hS,hl,hO,fun _=>rfl⟩)
end Mine
structure PySem.W.Fast:Prop where(tw8997348903042345470 tw3262064413155330821 tw3070976216473547846 tw8610352156844611029 tw6569447823169148634 tw6289869658507076224 tw1041412738855625283 tw132510552505279064 tw14608250776259748786 tw3791991451395553619 tw2285397865853922470 tw5690220645918245400 tw13885595185574466875 tw12544507054847831765 tw16073066893883068267 tw17900246289406857889 tw9341966746859162211 tw6565209277962463244 tw12769242678341810553 tw12924643271725119280 tw375829799331648644 tw11430614309342085572 tw21137557704774766 tw5527427459458104793 tw9222045225538873142 tw17390152462633013350 tw238142820282016744 tw5610690321410301028 tw5126391094107535119 tw6894799071554441515 tw7190101872466080232 tw9825461920118435749 tw9023186218435129216 tw8652027977150448071 tw5552800819462293001 tw15450344740513961591 tw1130091649599348617 tw2782715002581157661 tw1537229223716763450 tw9169915299520377513 tw6841410733012210297 tw6887286556607158533 tw14198094900095684464 tw4172922399900671867 tw15181442147720862609 tw17402279583494074465 tw8390847245285524965 tw13695037891211822650 tw6978257148726002229 tw14286609300170144759 tw17050381293069527665 tw6446425409422694483 tw12832036324501911670 tw9621775824103047894 tw15383857721431248803 tw9163378911514395616 tw486306836033042158 tw17386304179597251624 tw5496574432028459446 tw1784096346368983167 tw15280490267333169315 tw11772787373498247531 tw1449115191259317725 tw5691614317127083382 tw6056480172517156241 tw11910803898831934739 tw10107202105462260894 tw4906708071929555175 tw9395558766638775272 tw915739800103079536 tw3903721569291541945 tw5743349340433891365 tw3758745681746729787 tw43698369746532464 tw8688385303367187907 tw10855855490006811660 tw11045151384791842965 tw1055206257170940432 tw1732092801480566308 tw3756603925334970873 tw948515758485733289 tw13981735789180424120 tw5853951726092335494 tw4678649172913995685 tw15921798971933949292 tw17726776068542517918 tw9778640845189670674 tw1792667656255726800 tw11459458010279045669 tw6115096780757597046 tw5820233691965379180 tw9007434249463248000 tw3708090828643157245 tw6206865070991336736 tw9521962501739934517 tw8787491724266624137 tw6077322745998215079 tw96424021735292391 tw5741130782305488962 tw5011655352969224070 tw7882585644368803056 tw3744464023906090266 tw13757028861009766058 tw6183826808959839961 tw17879528368129156157 tw8692907238144174139 tw9532826820697438219 tw15517014905309827345 tw8175636954470812349 tw8756970519921326431 tw10989365939631163651 tw7092972858644548322 tw3553595981886046755 tw2382790540540764272 tw10734539784136089813 tw18238520142067348026 tw10817861846119026933 tw12631826004686497365 tw5798583497578844947 tw2691974283077810164 tw9721097804943575521 tw10337607576216765561 tw16464256588680859623 tw95858603008062706:True)
open PySem PySem.W PyProof.Rows
local macro_rules | `(tactic| walk_at "k")=>`(tactic| (refine' Mine.all_di ?a ?b ?c ?d;(case a=>k_is);(case b=>k_is);(case c=>k_is);(case d=>k_is)))
local macro_rules | `(tactic| walk_at "l")=>`(tactic| (refine' Mine.all_dm ?a ?e ?b ?c ?d;(case a=>k_is);(case e=>k_is);(case b=>k_is);(case c=>k_is);(case d=>k_is)))
set_option maxRecDepth 100000 in
set_option maxHeartbeats 0 in
theorem PySem.Challenge.cw_flips_k48_askings_by_turns_holds : PySem.Challenge.rw_flips_k48_askings_by_turns.Holds := by
 w_on;o_law;k_head;(case hw=>w_witness2)
 k_fill
 refine Mine.walk (l:=PySem.Challenge.rw_flips_k48_askings_by_turns) rfl rfl (fun w h Y=>PySem.W.km_in_of Y) ?F
 case F =>
  intro w mg fa h Y KX G hmg
  refine' Mine.all_mk KX G hmg ?aC_Asking ?pg_Asking ?hd_Asking ?po_Asking ?sa_Asking ?mk_Asking ?kc_Asking ?na_reckoner_Asking ?na_fitting_Asking ?aC_Reckoner ?pg_Reckoner ?hd_Reckoner ?po_Reckoner ?sa_Reckoner ?mk_Reckoner ?kc_Reckoner ?na_labels_Reckoner ?na_yeses_Reckoner ?na_alike_Reckoner ?na_known_Reckoner ?aC_Alike ?aC_FlipError ?aC_NoEnd ?aC_NoName ?aC_NoRow ?aC_NoTable ?aC_NoText ?aC_NoThing ?x1_NoEnd ?x2_NoEnd ?x3_NoEnd ?x4_NoEnd ?x5_NoEnd ?x6_NoEnd ?x7_NoEnd ?xs_NoEnd ?hd_NoEnd ?na_one_NoEnd ?na_other_NoEnd ?xm_NoEnd_FlipError ?xm_NoEnd_NoEnd ?kk_NoEnd_Alike ?kk_NoEnd_NoEnd ?kk_NoEnd_NoName ?kk_NoEnd_NoRow ?kk_NoEnd_NoTable ?kk_NoEnd_NoText ?kk_NoEnd_NoThing ?kk_NoEnd_ValueError ?x1_NoThing ?x2_NoThing ?x3_NoThing ?x4_NoThing ?x5_NoThing ?x6_NoThing ?x7_NoThing ?xs_NoThing ?hd_NoThing ?na_question_NoThing ?xm_NoThing_FlipError ?xm_NoThing_NoEnd ?kk_NoThing_Alike ?kk_NoThing_NoEnd ?kk_NoThing_NoName ?kk_NoThing_NoRow ?kk_NoThing_NoTable ?kk_NoThing_NoText ?kk_NoThing_NoThing ?kk_NoThing_ValueError ?a0 ?i0 ?l0 ?c0 ?k0 ?a1 ?i1 ?l1 ?c1 ?k1 ?i2 ?i3 ?i4 ?i5 ?i6 ?i7 ?i8 ?i9 ?i10 ?i11 ?i12 ?i13 ?i14 ?i15 ?i16 ?i17 ?a18 ?i18 ?l18 ?c18 ?k18 ?lc18 ?pv18 ?gh18 ?gt18 ?i19 ?i20 ?i21 ?i22 ?i23 ?i24 ?i25 ?i26 ?i27 ?i28 ?i29 ?i30 ?i31 ?i32 ?i33 ?i34 ?i35 ?i36 ?i37 ?i38 ?i39 ?i40 ?i41 ?i42 ?i43 ?i44 ?i45 ?a46 ?l46 ?c46 ?k46 ?z_ValueError ?z_any ?z_enumerate ?z_int ?z_isinstance ?z_len ?z_list ?z_max ?z_min ?z_range ?z_repr ?z_set ?z_sorted ?z_sum ?z_tuple ?xj_NoEnd ?xj_NoThing ?hnt
  (case aC_Asking | pg_Asking | hd_Asking | po_Asking | sa_Asking | mk_Asking | kc_Asking | na_reckoner_Asking | na_fitting_Asking | aC_Reckoner | pg_Reckoner | hd_Reckoner | po_Reckoner | sa_Reckoner | mk_Reckoner | kc_Reckoner | na_labels_Reckoner | na_yeses_Reckoner | na_alike_Reckoner | na_known_Reckoner | aC_Alike | aC_FlipError | aC_NoEnd | aC_NoName | aC_NoRow | aC_NoTable | aC_NoText | aC_NoThing | x1_NoEnd | x2_NoEnd | x3_NoEnd | x4_NoEnd | x5_NoEnd | x6_NoEnd | x7_NoEnd | xs_NoEnd | hd_NoEnd | na_one_NoEnd | na_other_NoEnd | x1_NoThing | x2_NoThing | x3_NoThing | x4_NoThing | x5_NoThing | x6_NoThing | x7_NoThing | xs_NoThing | hd_NoThing | na_question_NoThing | a0 | i0 | l0 | c0 | k0 | a1 | i1 | l1 | c1 | k1 | a18 | i18 | l18 | c18 | k18 | lc18 | a46 | l46 | c46 | k46 | z_ValueError | z_any | z_enumerate | z_int | z_isinstance | z_len | z_list | z_max | z_min | z_range | z_repr | z_set | z_sorted | z_sum | z_tuple=>k_is)
  (case xm_NoEnd_FlipError=>kts_exm)
  (case xm_NoEnd_NoEnd=>kts_exm)
  (case kk_NoEnd_Alike=>kit_is)
  (case kk_NoEnd_NoEnd=>kit_is)
  (case kk_NoEnd_NoName=>kit_is)
  (case kk_NoEnd_NoRow=>kit_is)
  (case kk_NoEnd_NoTable=>kit_is)
  (case kk_NoEnd_NoText=>kit_is)
  (case kk_NoEnd_NoThing=>kit_is)
  (case kk_NoEnd_ValueError=>kit_is)
  (case xm_NoThing_FlipError=>kts_exm)
  (case xm_NoThing_NoEnd=>kts_exm)
  (case kk_NoThing_Alike=>kit_is)
  (case kk_NoThing_NoEnd=>kit_is)
  (case kk_NoThing_NoName=>kit_is)
  (case kk_NoThing_NoRow=>kit_is)
  (case kk_NoThing_NoTable=>kit_is)
  (case kk_NoThing_NoText=>kit_is)
  (case kk_NoThing_NoThing=>kit_is)
  (case kk_NoThing_ValueError=>kit_is)
  (case i2=>walk_at "k")
  (case i3=>walk_at "k")
  (case i4=>walk_at "k")
  (case i5=>walk_at "k")
  (case i6=>walk_at "k")
  (case i7=>walk_at "k")
  (case i8=>walk_at "l")
  (case i9=>walk_at "l")
  (case i10=>walk_at "l")
  (case i11=>walk_at "l")
  (case i12=>walk_at "l")
  (case i13=>walk_at "l")
  (case i14=>walk_at "l")
  (case i15=>walk_at "l")
  (case i16=>walk_at "l")
  (case i17=>walk_at "l")
  (case pv18=>rfl)
  (case gh18=>kernel_rfl)
  (case gt18=>exact PySem.W.km_tabs_of Y _ (by k_mem))
  (case i19=>walk_at "k")
  (case i20=>walk_at "k")
  (case i21=>walk_at "k")
  (case i22=>walk_at "l")
  (case i23=>walk_at "l")
  (case i24=>walk_at "l")
  (case i25=>walk_at "l")
  (case i26=>walk_at "l")
  (case i27=>walk_at "l")
  (case i28=>walk_at "k")
  (case i29=>walk_at "k")
  (case i30=>walk_at "k")
  (case i31=>walk_at "k")
  (case i32=>walk_at "k")
  (case i33=>walk_at "k")
  (case i34=>walk_at "k")
  (case i35=>walk_at "k")
  (case i36=>walk_at "k")
  (case i37=>walk_at "k")
  (case i38=>walk_at "k")
  (case i39=>walk_at "k")
  (case i40=>walk_at "k")
  (case i41=>walk_at "k")
  (case i42=>walk_at "k")
  (case i43=>walk_at "k")
  (case i44=>walk_at "k")
  (case i45=>walk_at "k")
  (case xj_NoEnd=>kernel_rfl)
  (case xj_NoThing=>kernel_rfl)
  (case hnt=>kernel_rfl)
