import PyProof.Rows.All
import Wide.All
import OpenK.AllK
import Wide.FinOn
import Lean
import PyProof.EqAt
import PyProof.EqKinds
import PyProof.TupleCall
import PyProof.NeKinds
import PyProof.ReprRoads
import PyProof.ReprBulk
import PyProof.Draws
import PyProof.EnumMake
import KE.BitLaws
import PyProof.ListIndex
import PyProof.AttrMissHeap
import PyProof.DictUpdate
import KE.KDictOf
import PyProof.FactsAll.enumerate_1
import PyProof.FactsAll.tuple_2
import PyProof.ListMulRoad
import PyProof.ListRange
import PyProof.FactsAll.list_3
import PyProof.Rows.SortWalk
import PyProof.Rows.MinMaxN
import KE.KEqDict
import KE.KDictSum
import PyProof.WalksMore
import PyProof.Rows.SetFrom
import PyProof.SetRoads
import PyProof.FactsAll.set_1
import KE.KItemsList
import KE.KSortTup
import KE.KLam
import PyProof.FactsAll.dict_1
import PyProof.StrBlockH
import PyProof.StrLawsTight
import PyProof.StrLawsOccR
import PyProof.StrLawsJoin
import PyProof.StationsW
import PyProof.NsDelKeeps
import PyProof.RulesAs
import PyProof.ExcInit
import KE.KTryMore
import PyProof.ExcClass3
import PyProof.ExcBaseAll.ValueError
import OpenK.KOwn
import PyProof.ExcArgsOwn
import PyProof.InstStoreFacts
import PyProof.FactsAll.tuple_2
import PyProof.FactsAll.tuple_3
import PyProof.TupleOfStr
import KE.KMinKey
import PyProof.FactsAll.list_4
import PySem.Challenge.RW_flips_k53_whole_called_otherwise
set_option Elab.async false
set_option linter.all false
set_option compiler.extract_closed false
set_option bootstrap.genMatcherCode false
set_option maxRecDepth 100000
set_option maxHeartbeats 0
section
open PySem PySem.Spec PyProof.Rows PySem.W
theorem ZA:type_of% @PySem.wpAny_bind:=@PySem.wpAny_bind
theorem ZB:type_of% @List.length_map:=@List.length_map
theorem ZC:type_of% @PySem.wpAny_pure:=@PySem.wpAny_pure
theorem ZD:type_of% @List.getElem?_eq_getElem:=@List.getElem?_eq_getElem
theorem ZE:type_of% @Nat.le_refl:=@Nat.le_refl
theorem ZF:type_of% @List.map_append:=@List.map_append
theorem ZG:type_of% @PySem.Heap.lt_size:=@PySem.Heap.lt_size
theorem ZH:type_of% @List.mem_cons:=@List.mem_cons
theorem ZI:type_of% @PySem.Heap.get?_push_of_some:=@PySem.Heap.get?_push_of_some
theorem ZJ:type_of% @List.mem_map:=@List.mem_map
theorem ZK:type_of% @List.size_toArray:=@List.size_toArray
theorem ZL:type_of% @decide_eq_true:=@decide_eq_true
theorem ZM:type_of% @List.length_append:=@List.length_append
theorem ZN:type_of% @List.getD_eq_getElem?_getD:=@List.getD_eq_getElem?_getD
theorem ZO:type_of% @List.mem_singleton:=@List.mem_singleton
theorem ZP:type_of% @List.getElem?_map:=@List.getElem?_map
theorem ZQ:type_of% @Bool.and_eq_true:=@Bool.and_eq_true
theorem ZR:type_of% @of_decide_eq_true:=@of_decide_eq_true
theorem ZS:type_of% @PySem.Heap.get?_push_size:=@PySem.Heap.get?_push_size
theorem ZT:type_of% @Nat.ne_of_lt:=@Nat.ne_of_lt
theorem ZU:type_of% @Option.some.inj:=@Option.some.inj
theorem ZV:type_of% @Nat.zero_le:=@Nat.zero_le
theorem ZW:type_of% @List.length_take:=@List.length_take
theorem ZX:type_of% @Nat.lt_of_lt_of_le:=@Nat.lt_of_lt_of_le
theorem ZY:type_of% @List.mem_append_right:=@List.mem_append_right
theorem ZZ:type_of% @Int.toNat_natCast:=@Int.toNat_natCast
theorem Za:type_of% @List.map_cons:=@List.map_cons
theorem Zb:type_of% @List.mem_append:=@List.mem_append
theorem Zc:type_of% @List.getElem_mem:=@List.getElem_mem
theorem Zd:type_of% @Nat.lt_irrefl:=@Nat.lt_irrefl
theorem Ze:type_of% @List.mem_cons_of_mem:=@List.mem_cons_of_mem
theorem Zf:type_of% @List.getElem?_eq_some_iff:=@List.getElem?_eq_some_iff
theorem Zg:type_of% @decide_eq_false:=@decide_eq_false
theorem Zh:type_of% @Bool.false_ne_true:=@Bool.false_ne_true
theorem Zi:type_of% @List.length_cons:=@List.length_cons
theorem Zj:type_of% @Array.length_toList:=@Array.length_toList
theorem Zk:type_of% @PySem.wpAny_holding:=@PySem.wpAny_holding
theorem Zl:type_of% @Nat.pow_le_pow_right:=@Nat.pow_le_pow_right
theorem Zm:type_of% @List.take_add_one:=@List.take_add_one
theorem Zn:type_of% @Nat.le_trans:=@Nat.le_trans
theorem Zo:type_of% @List.mem_cons_self:=@List.mem_cons_self
theorem Zp:type_of% @List.getElem_of_mem:=@List.getElem_of_mem
theorem Zq:type_of% @List.take_length:=@List.take_length
theorem Zr:type_of% @List.mem_range:=@List.mem_range
theorem Zs:type_of% @PySem.wpAny_mono:=@PySem.wpAny_mono
theorem Zt:type_of% @List.mem_of_getElem?:=@List.mem_of_getElem?
theorem Zu:type_of% @Nat.lt_or_ge:=@Nat.lt_or_ge
theorem Zv:type_of% @List.mem_append_left:=@List.mem_append_left
theorem Zw:type_of% @List.append_nil:=@List.append_nil
theorem Zx:type_of% @PySem.wpAny_newObj_type:=@PySem.wpAny_newObj_type
theorem Zy:type_of% @Nat.le_of_lt:=@Nat.le_of_lt
theorem Zz:type_of% @PySem.wpAny_call_entry:=@PySem.wpAny_call_entry
theorem Z0:type_of% @PySem.wpAny_ite_split:=@PySem.wpAny_ite_split
theorem Z1:type_of% @Nat.testBit_and:=@Nat.testBit_and
theorem Z2:type_of% @Bool.false_xor:=@Bool.false_xor
theorem Z3:type_of% @List.all_eq_true:=@List.all_eq_true
theorem Z4:type_of% @PySem.Heap.size_push:=@PySem.Heap.size_push
theorem Z5:type_of% @List.lookup_cons:=@List.lookup_cons
theorem Z6:type_of% @List.mem_nil_iff:=@List.mem_nil_iff
theorem Z7:type_of% @PySem.Heap.SameBut.update:=@PySem.Heap.SameBut.update
theorem Z8:type_of% @List.mem_filter:=@List.mem_filter
theorem Z9:type_of% @PySem.wpAny_truthy_bool:=@PySem.wpAny_truthy_bool
theorem ZBA:type_of% @PySem.plainId_quiet:=@PySem.plainId_quiet
theorem ZBB:type_of% @List.length_range:=@List.length_range
theorem ZBC:type_of% @List.length_drop:=@List.length_drop
theorem ZBD:type_of% @PySem.codeAny_builtin:=@PySem.codeAny_builtin
theorem ZBE:type_of% @List.getElem?_append_right:=@List.getElem?_append_right
theorem ZBF:type_of% @PySem.Heap.get?_update_other:=@PySem.Heap.get?_update_other
theorem ZBG:type_of% @Bool.eq_iff_iff:=@Bool.eq_iff_iff
theorem ZBH:type_of% @Nat.lt_trichotomy:=@Nat.lt_trichotomy
theorem ZBI:type_of% @PySem.Around.under_plainId:=@PySem.Around.under_plainId
theorem ZBJ:type_of% @Nat.lt_succ_self:=@Nat.lt_succ_self
theorem ZBK:type_of% @PySem.codeAny_mono:=@PySem.codeAny_mono
theorem ZBL:type_of% @List.getElem?_append_left:=@List.getElem?_append_left
theorem ZBM:type_of% @Nat.lt_trans:=@Nat.lt_trans
theorem ZBN:type_of% @List.range_succ:=@List.range_succ
theorem ZBO:type_of% @List.any_eq_true:=@List.any_eq_true
theorem ZBP:type_of% @PySem.wpAny_tryCatch:=@PySem.wpAny_tryCatch
theorem ZBQ:type_of% @Nat.ne_of_gt:=@Nat.ne_of_gt
theorem ZBR:type_of% @PySem.wpAny_field:=@PySem.wpAny_field
theorem ZBS:type_of% @List.length_set:=@List.length_set
theorem ZBT:type_of% @Nat.not_lt_zero:=@Nat.not_lt_zero
theorem ZBU:type_of% @PySem.wpAny_setField:=@PySem.wpAny_setField
theorem ZBV:type_of% @Array.getElem?_eq_getElem:=@Array.getElem?_eq_getElem
theorem ZBW:type_of% @PySem.wpAny_letGo:=@PySem.wpAny_letGo
theorem ZBX:type_of% @List.map_map:=@List.map_map
theorem ZBY:type_of% @List.filterMap_cons:=@List.filterMap_cons
theorem ZBZ:type_of% @PySem.wpAny_standAt:=@PySem.wpAny_standAt
theorem ZBa:type_of% @Nat.le_of_eq:=@Nat.le_of_eq
theorem ZBb:type_of% @Nat.le_succ:=@Nat.le_succ
theorem ZBc:type_of% @List.nodup_cons:=@List.nodup_cons
theorem ZBd:type_of% @PySem.Heap.get?_update_self:=@PySem.Heap.get?_update_self
theorem ZBe:type_of% @Option.map_some:=@Option.map_some
theorem ZBf:type_of% @List.pairwise_map:=@List.pairwise_map
theorem ZBg:type_of% @Nat.two_pow_pos:=@Nat.two_pow_pos
theorem ZBh:type_of% @List.length_replicate:=@List.length_replicate
theorem ZBi:type_of% @Nat.le_of_succ_le:=@Nat.le_of_succ_le
theorem ZBj:type_of% @List.take_of_length_le:=@List.take_of_length_le
theorem ZBk:type_of% @List.find?_cons:=@List.find?_cons
theorem ZBl:type_of% @Nat.and_le_left:=@Nat.and_le_left
theorem ZBm:type_of% @Nat.sub_self:=@Nat.sub_self
theorem ZBn:type_of% @List.replicate_succ:=@List.replicate_succ
theorem ZBo:type_of% @List.append_assoc:=@List.append_assoc
theorem ZBp:type_of% @List.nil_append:=@List.nil_append
theorem ZBq:type_of% @List.getElem_toArray:=@List.getElem_toArray
theorem ZBr:type_of% @List.any_cons:=@List.any_cons
theorem ZBs:type_of% @Int.toNat_of_nonneg:=@Int.toNat_of_nonneg
theorem ZBt:type_of% @Array.getElem?_toList:=@Array.getElem?_toList
theorem ZBu:type_of% @List.pairwise_lt_range:=@List.pairwise_lt_range
theorem ZBv:type_of% @Nat.lt_succ_of_lt:=@Nat.lt_succ_of_lt
theorem ZBw:type_of% @List.not_mem_nil:=@List.not_mem_nil
theorem ZBx:type_of% @List.filter_append:=@List.filter_append
theorem ZBy:type_of% @List.map_congr_left:=@List.map_congr_left
theorem ZBz:type_of% @Bool.not_eq_true':=@Bool.not_eq_true'
theorem ZB0:type_of% @List.mem_filterMap:=@List.mem_filterMap
theorem ZB1:type_of% @Int.natCast_nonneg:=@Int.natCast_nonneg
theorem ZB2:type_of% @List.getElem?_replicate:=@List.getElem?_replicate
theorem ZB3:type_of% @Bool.false_eq_true:=@Bool.false_eq_true
theorem ZB4:type_of% @Option.map_eq_some_iff:=@Option.map_eq_some_iff
theorem ZB5:type_of% @List.length_eq_zero_iff:=@List.length_eq_zero_iff
theorem ZB6:type_of% @Array.toList_append:=@Array.toList_append
theorem ZB7:type_of% @List.length_filter_le:=@List.length_filter_le
theorem ZB8:type_of% @List.getElem?_eq_none:=@List.getElem?_eq_none
end
-- CHANGE: your row's module here,as the last of these rows
namespace L2
open PySem PySem.Spec PyProof.Rows
variable {us:List Value}{x:Str}{u:Value}{H:Hp}{C a b:Addr}{o:HO}{P:Program}{w:World}{base h:Heap}{i k t':Nat}{A:Around}{E Q:Value->Shared->Prop}{v:V}{s:Shared}{pos:Pos}{Ya:List (Addr × Obj)}{Z:St}{K:W.Frag}{mg:Str->Option Value}
noncomputable abbrev Key:=Sum Int Str
noncomputable def Dc:Key->Value->Bool
 | .inl k,v=>Value.isInt k v
 | .inr x,v=>Value.isStrOf x v
noncomputable def Wb(w:World):Key->Int
 | .inl k=>hashInt k
 | .inr x=>hashStr w x
theorem keyIs_shape:∀{k:Key} {v:Value},Dc k v=true->(∃i t,k=Sum.inl i/\v=Value.int i t)\/(∃x t,k=Sum.inr x/\v=Value.str x t)
 | .inl i,v,h=>by
  obtain⟨t,e⟩:=Value.isInt_shape (k:=i) (v:=v) h;exact .inl ⟨i,t,rfl,e⟩
 | .inr x,v,h=>by
  obtain⟨t,e⟩:=Value.isStrOf_shape (x:=x) (v:=v) h;exact .inr ⟨x,t,rfl,e⟩
theorem T5(i:Int)(t:Tok):Dc (.inl i) (.int i t)=true:=by simp[Dc,Value.isInt]
theorem W3(x:Str)(t:Tok):Dc (.inr x) (.str x t)=true:=by simp[Dc,Value.isStrOf]
theorem XV(a b:Int):decide ((Sum.inl a:Key)=Sum.inl b)=(a == b):=by
 by_cases e:a=b
 ·subst e;simp
 ·have h:¬(Sum.inl a:Key)=Sum.inl b:=fun q=>e (Sum.inl.inj q)
  rw[Zg h];exact(beq_eq_false_iff_ne.mpr e).symm
theorem P1(a b:Str):decide ((Sum.inr a:Key)=Sum.inr b)=decide (a=b):=by
 by_cases e:a=b
 ·subst e;simp
 ·have h:¬(Sum.inr a:Key)=Sum.inr b:=fun q=>e (Sum.inr.inj q)
  rw[Zg h,Zg e]
theorem QE(a:Int)(b:Str):decide ((Sum.inl a:Key)=Sum.inr b)=false:=Zg (fun q=>nomatch q)
theorem Rz(a:Str)(b:Int):decide ((Sum.inr a:Key)=Sum.inl b)=false:=Zg (fun q=>nomatch q)
noncomputable def BQ(prog:Program)(w:World):PySem.KeyKind prog w Key where
 is:=Dc
 hash:=Wb w
 inj:=fun v a b ha hb=>by
  rcases keyIs_shape ha with ⟨i,t,rfl,rfl⟩ | ⟨x,t,rfl,rfl⟩
  ·rcases keyIs_shape hb with ⟨j,u,rfl,e⟩ | ⟨y,u,rfl,e⟩
   ·injection e with e1 _;rw[e1]
   ·exact nomatch e
  ·rcases keyIs_shape hb with ⟨j,u,rfl,e⟩ | ⟨y,u,rfl,e⟩
   ·exact nomatch e
   ·injection e with e1 _;rw[e1]
 byValue:=fun k v h=>by
  rcases keyIs_shape h with ⟨i,t,rfl,rfl⟩ | ⟨x,t,rfl,rfl⟩ <;> rfl
 pyHash:=fun hv h=>by
  rcases keyIs_shape hv with ⟨i,t,rfl,rfl⟩ | ⟨x,t,rfl,rfl⟩
  ·exact wpAny_pyHash_int h
  ·exact wpAny_pyHash_str h
 eqBool:=fun hu hv h=>by
  rcases keyIs_shape hu with ⟨i,t,rfl,rfl⟩ | ⟨x,t,rfl,rfl⟩
  ·rcases keyIs_shape hv with ⟨j,u,rfl,rfl⟩ | ⟨y,u,rfl,rfl⟩
   ·rw[XV]at h;exact wpAny_eqBool_int h
   ·rw[QE]at h;exact SeqAt.EqAt.int_str i t y u _ _ _ _ h
  ·rcases keyIs_shape hv with ⟨j,u,rfl,rfl⟩ | ⟨y,u,rfl,rfl⟩
   ·rw[Rz]at h;exact SeqAt.EqAt.str_int x t j u _ _ _ _ h
   ·rw[P1]at h;exact wpAny_eqBool_str h
 «strs»:=fun k x t v h=>by
  rcases keyIs_shape h with ⟨i,u,rfl,e⟩ | ⟨y,u,rfl,e⟩
  ·exact nomatch e
  ·injection e with e1 _
   subst e1;cases v <;> rfl
theorem WB(prog:Program)(w:World)(i:Int)(t:Tok):(BQ prog w).is (.inl i) (.int i t)=true:=T5 i t
theorem Rn(prog:Program)(w:World)(x:Str)(t:Tok):(BQ prog w).is (.inr x) (.str x t)=true:=W3 x t
inductive V where
 | non | bl (b:Bool) | int (i:Int) | str (x:Str) | byt (b:Array UInt8) | flt (b:UInt64) | ref (a:Addr) | ty (n:String)
 deriving DecidableEq
noncomputable def Yh:V->Value->Prop
 | .non,u=>u=Value.none
 | .bl b,u=>u=Value.bool b
 | .int i,u=>∃t,u=Value.int i t
 | .str x,u=>∃t,u=Value.str x t
 | .byt b,u=>∃t,u=Value.bytes b t
 | .flt b,u=>∃t,u=Value.float b t
 | .ref a,u=>u=Value.ref a
 | .ty n,u=>u=Value.type n
noncomputable abbrev Yi:List V->List Value->Prop:=Paired Yh
theorem Yi.length{xs:List V}(r:Yi xs us):xs.length=us.length:=Paired.length r
theorem Yi.get:∀{xs:List V} {us:List Value} {i:Nat} {x:V},Yi xs us->xs[i]? = some x->∃u,us[i]? = some u/\Yh x u
 | _,_,_,_,.nil,e=>by simp at e
 | _,_,0,_,.cons r _,e=>by simp at e;subst e;exact⟨_,rfl,r⟩
 | _,_,i+1,x,.cons _ t,e=>by
  obtain⟨u,h1,h2⟩:=Yi.get (i:=i) (x:=x) t (by simpa using e);exact⟨u,by simpa using h1,h2⟩
theorem Yi.set{x:V}(r:Yh x u):∀{xs:List V} {us:List Value} (i:Nat),Yi xs us->Yi (xs.set i x) (us.set i u)
 | _,_,_,.nil=>.nil
 | _,_,0,.cons _ t=>.cons r t
 | _,_,i+1,.cons q t=>.cons q (Yi.set r i t)
theorem Yi.append:∀{xs ys:List V} {us ws:List Value},Yi xs us->Yi ys ws->Yi (xs++ys) (us++ws)
 | _,_,_,_,.nil,s=>s
 | _,_,_,_,.cons r t,s=>.cons r (Yi.append t s)
theorem Yi.take:∀{xs:List V} {us:List Value} (n:Nat),Yi xs us->Yi (xs.take n) (us.take n)
 | _,_,0,_=>.nil
 | _,_,_+1,.nil=>.nil
 | _,_,n+1,.cons r t=>.cons r (Yi.take n t)
theorem Yi.drop:∀{xs:List V} {us:List Value} (n:Nat),Yi xs us->Yi (xs.drop n) (us.drop n)
 | _,_,0,r=>r
 | _,_,_+1,.nil=>.nil
 | _,_,n+1,.cons _ t=>Yi.drop n t
noncomputable def RelO:Option V->Option Value->Prop
 | some v,some u=>Yh v u
 | none,none=>True
 | _,_=>False
noncomputable def KV{κ:Type}:List (κ × V)->List (κ × Value)->Prop:=Paired fun(p:κ × V) (q:κ × Value)=>p.1=q.1/\Yh p.2 q.2
noncomputable def kV:Key->V
 | .inl i=>.int i
 | .inr x=>.str x
inductive HO where
 | lst (xs:List V)
 | tup (xs:List V)
 | dK (Yd:List (Key × V)) | dT (Yd:List (List Key × V))
 | set (S:Int->Bool) (n:Nat)
 | ins (C dx:Addr) (fs:List (Str × V))
 | own (x:Addr)
 | xd (fs:List (Str × V))
 | met (f x:Addr)
 | rng (lo hi:Int)
 | frz (o:Obj) (u:HO)
 | tbl (ps:Array Value)
 | ext (φ:Heap->Prop)
noncomputable abbrev Hp:=Addr->Option HO
noncomputable def upd(H:Hp)(a:Addr)(o:HO):Hp:=fun b=>if b=a then some o else H b
theorem AD:upd H a o a=some o:=by unfold upd;rw[if_pos rfl]
theorem AJ(h:b≠a):upd H a o b=H b:=by unfold upd;rw[if_neg h]
theorem Bg{u:HO}(h:H a=some o)(h':H b=some u)(d:o≠u):a≠b:=by
 intro e;subst e;rw[h]at h';exact d (ZU h')
theorem BU(h:H a=some o)(h':H b=none):a≠b:=by
 intro e;subst e;rw[h]at h';cases h'
noncomputable def IsTupN(h:Heap)(a:Addr)(items:Array Value):Prop:=∃o,h.get? a=some o/\o.cls=.type "tuple" /\ (∃n,o.data=.seq items n)/\o.dict=none
theorem IsTupN.tup{h:Heap}{a:Addr}{items:Array Value}(x:IsTupN h a items):PyProof.Rows.IsTup h a items:=by
 obtain⟨o,e,c,d,_⟩:=x;exact⟨o,e,c,d⟩
theorem IsTupN.new(h:Heap)(items:Array Value):IsTupN (h.push { cls:=.type "tuple",data:=.seq items }) h.objs.size items:=⟨_,ZS _ rfl,rfl,⟨_,rfl⟩,rfl⟩
section
variable (P:Program)(w:World)
noncomputable def ObjOk(H:Hp)(h:Heap)(a:Addr):HO->Prop
 | .lst xs=>xs.length<=sizeLine/\∃(Ye:List Value) (n:Nat),Yi xs Ye/\h.get? a=some { cls:=.type "list",data:=.seq Ye.toArray n }
 | .tup xs=>xs.length<=sizeLine/\∃Ye:List Value,Yi xs Ye/\IsTupN h a Ye.toArray
 | .dK Yd=>Yd.length<=sizeLine/\(a == sysModules)=false/\∃vs,KV Yd vs/\h.DictOf (BQ P w) a vs
 | .dT Yd=>Yd.length<=sizeLine/\(a == sysModules)=false/\∃xs:List (List Key × Addr × Value),
  Paired (fun(p:List Key × V) (q:List Key × Addr × Value)=>p.1=q.1/\H q.2.1=some (.tup (p.1.map kV))/\Yh p.2 q.2.2) Yd xs /\
  ∃o es ep,h.get? a=some o/\o.ExactDict/\o.data=.dict es ep/\es.toList=xs.map (entryOfKey (tupleKind (BQ P w)))/\(xs.map (·.1)).Nodup
 | .set S n=>h.SetOf (intKind P w) a S n
 | .ins C dx fs=>H dx=some (.own a)/\fs.length<=1000/\dx≠a/\h.get? a=some (PySem.W.instObj C dx) /\
  ∃mA,h.Ns1 dx mA/\(∀f,RelO (fs.lookup f) (mA f))/\PySem.Within mA (fs.map (·.1))
 | .own _=>∃o,h.get? a=some o
 | .xd fs=>∃mA,h.Ns1 a mA/\∀f,RelO (fs.lookup f) (mA f)
 | .rng lo hi=>∃t u v,h.get? a=some { cls:=.type "range",data:=.fields #[.int lo t,.int hi u,.int 1 v] }
 | .frz o u=>h.get? a=some o/\ObjOk H h a u
 | .tbl ps=>h.get? a=some { cls:=.none,data:=.fields ps }
 | .met f x=>h.get? a=some (PySem.W.methodObj (.ref f) (.ref x))
 | .ext φ=>φ h/\(∃o,h.get? a=some o)/\∀h1 h2:Heap,φ h1->(∀o,h1.get? a=some o->h2.get? a=some o)->φ h2
noncomputable def HOk(H:Hp)(h:Heap):Prop:=∀a o,H a=some o->ObjOk P w H h a o
end
section
variable {P:Program}{w:World}{H H':Hp}{h h':Heap}{a:Addr}{o:HO}
theorem ObjOk.lt(x:ObjOk P w H h a o):a < h.objs.size:=by
 cases o with
 | lst xs=>obtain⟨_,_,_,_,e⟩:=x;exact ZG e
 | tup xs=>obtain⟨_,_,_,p⟩:=x;exact p.tup.lt
 | dK Yd=>obtain⟨_,_,_,_,o,_,_,e,_⟩:=x;exact ZG e
 | dT Yd=>obtain⟨_,_,_,_,o,_,_,e,_⟩:=x;exact ZG e
 | set S n=>obtain⟨o,_,_,_,e,_⟩:=x;exact ZG e
 | ins C dx fs=>obtain⟨_,_,_,e,_⟩:=x;exact ZG e
 | own y=>obtain⟨_,e⟩:=x;exact ZG e
 | xd fs=>obtain⟨_,⟨_,_,_,e,_⟩,_⟩:=x;exact ZG e
 | rng lo hi=>obtain⟨_,_,_,e⟩:=x;exact ZG e
 | frz ob u=>obtain⟨e,_⟩:=x;exact ZG e
 | tbl ps=>exact ZG (show h.get? a=some _ from x)
 | met f y=>exact ZG (show h.get? a=some _ from x)
 | ext φ=>obtain⟨_,⟨_,e⟩,_⟩:=x;exact ZG e
theorem Paired.mapP{α β:Type}{F G:α->β->Prop}:∀{l₁:List α} {l₂:List β},Paired F l₁ l₂->(∀a b,F a b->G a b)->Paired G l₁ l₂
 | _,_,.nil,_=>.nil
 | _,_,.cons r t,f=>.cons (f _ _ r) (Paired.mapP t f)
theorem ObjOk.stay (x:ObjOk P w H h a o) (k:∀b u,(b=a\/H b=some (.own a))->h.get? b=some u->h'.get? b=some u)
 (ho:∀b,H b=some (.own a)->H' b=some (.own a)) (ht:∀b xs,H b=some (.tup xs)->H' b=some (.tup xs)):ObjOk P w H' h' a o:=by
 induction o with
 | lst xs=>obtain⟨z,Ye,n,r,e⟩:=x;exact⟨z,Ye,n,r,k _ _ (.inl rfl) e⟩
 | tup xs=>obtain⟨z,Ye,r,ob,e,c⟩:=x;exact⟨z,Ye,r,ob,k _ _ (.inl rfl) e,c⟩
 | dK Yd=>obtain⟨z,y,vs,r,ob,es,ep,e,c⟩:=x;exact⟨z,y,vs,r,ob,es,ep,k _ _ (.inl rfl) e,c⟩
 | dT Yd =>
  obtain⟨z,y,xs,r,ob,es,ep,e,c⟩:=x;exact⟨z,y,xs,Paired.mapP r fun p q z=>⟨z.1,ht _ _ z.2.1,z.2.2⟩,ob,es,ep,k _ _ (.inl rfl) e,c⟩
 | set S n=>obtain⟨ob,es,ep,t,e,c⟩:=x;exact⟨ob,es,ep,t,k _ _ (.inl rfl) e,c⟩
 | ins C dx fs =>
  obtain⟨d,z,ne,e,mA,⟨od,es,ep,e2,c⟩,r⟩:=x;exact⟨ho _ d,z,ne,k _ _ (.inl rfl) e,mA,⟨od,es,ep,k _ _ (.inr d) e2,c⟩,r⟩
 | own y=>obtain⟨ob,e⟩:=x;exact⟨ob,k _ _ (.inl rfl) e⟩
 | xd fs=>obtain⟨mA,⟨od,es,ep,e,c⟩,r⟩:=x;exact⟨mA,⟨od,es,ep,k _ _ (.inl rfl) e,c⟩,r⟩
 | rng lo hi=>obtain⟨t,u,v,e⟩:=x;exact⟨t,u,v,k _ _ (.inl rfl) e⟩
 | frz ob u ih=>obtain⟨e,q⟩:=x;exact⟨k _ _ (.inl rfl) e,ih q⟩
 | tbl ps =>
  have e:h.get? a=some { cls:=.none,data:=.fields ps }:=x;show h'.get? a=some { cls:=.none,data:=.fields ps };exact k a _ (.inl rfl) e
 | met f y =>
  have e:h.get? a=some (PySem.W.methodObj (.ref f) (.ref y)):=x;show h'.get? a=some (PySem.W.methodObj (.ref f) (.ref y));exact k a _ (.inl rfl) e
 | ext φ=>obtain⟨p,⟨o,e⟩,st⟩:=x;exact⟨st _ _ p fun o q=>k _ _ (.inl rfl) q,⟨o,k _ _ (.inl rfl) e⟩,st⟩
theorem HOk.lt(x:HOk P w H h)(e:H a=some o):a < h.objs.size:=(x a o e).lt
theorem HOk.fresh(x:HOk P w H h)(e:h.objs.size<=a):H a=none:=by
 cases q:H a with
 | none=>rfl
 | some u=>exact absurd (ZX (x.lt q) e) (Zd _)
theorem HOk.kept(x:HOk P w H h)(k:∀b u,h.get? b=some u->h'.get? b=some u):HOk P w H h':=fun a o e =>
 (x a o e).stay (fun b u _ q=>k b u q) (fun _ q=>q) fun _ _ q=>q
theorem HOk.laid(x:HOk P w H h)(k:∀b u,h.get? b=some u->h'.get? b=some u)(hp:h.objs.size<=a)(new:ObjOk P w (upd H a o) h' a o):HOk P w (upd H a o) h':=fun b u e=>by
 have hn:=x.fresh hp
 by_cases hb:b=a
 ·subst hb;rw[AD]at e;cases e;exact new
 ·rw[AJ hb]at e;exact(x b u e).stay (fun c v _ q=>k c v q) (fun c q=>by rw[AJ (BU q hn)];exact q) fun c xs q=>by rw[AJ (BU q hn)];exact q
end
noncomputable def Rd(H:Hp)(a:Addr)(u:HO):Prop:=H a=some u\/∃o,H a=some (.frz o u)
theorem Rd.of{u:HO}(h:H a=some u):Rd H a u:=.inl h
theorem Rd.ok{u:HO}(r:Rd H a u)(x:HOk P w H h):ObjOk P w H h a u:=by
 rcases r with r | ⟨o,r⟩
 ·exact x a u r
 ·obtain⟨_,q⟩:=x a _ r;exact q
noncomputable def Mut:Option HO->Prop
 | some (.lst _)=>True
 | some (.dK _)=>True
 | some (.dT _)=>True
 | some (.set _ _)=>True
 | some (.ins _ _ _)=>True
 | some (.ext _)=>True
 | _=>False
section
variable {P:Program}{w:World}{H:Hp}{h h':Heap}{x e:Addr}{o':HO}
theorem HOk.write (ok:HOk P w H h) (mu:Mut (H x)) (he:e=x\/H e=some (.own x)) (k:∀b u,b≠e->h.get? b=some u->h'.get? b=some u) (heo:∃u,h'.get? e=some u)
 (new:ObjOk P w (upd H x o') h' x o'):HOk P w (upd H x o') h':=fun b u q=>by
 have nown:∀c y,H c=some (.own y)->c≠x:=fun c y r z=>by subst z;rw[r]at mu;exact mu
 have ntup:∀c xs,H c=some (.tup xs)->c≠x:=fun c xs r z=>by subst z;rw[r]at mu;exact mu
 by_cases hb:b=x
 ·subst hb;rw[AD]at q;cases q;exact new
 ·rw[AJ hb]at q
  by_cases hbe:b=e
  ·have q':H b=some (.own x):=by
    rcases he with z | z
    ·exact absurd (hbe.trans z) hb
    ·rw[hbe];exact z
   rw[q]at q';cases q';obtain⟨v,hv⟩:=heo;exact⟨v,by rw[hbe];exact hv⟩
  ·refine(ok b u q).stay (fun c v hc r=>k c v ?_ r) (fun c r=>by rw[AJ (nown c b r)];exact r) fun c xs r=>by rw[AJ (ntup c xs r)];exact r
   rcases hc with rfl | hc
   ·exact hbe
   ·rintro rfl
    rcases he with z | z
    ·exact nown c b hc z
    ·rw[hc]at z;cases z;exact hb rfl
end
structure Un(fs ex:List Addr)(H H':Hp)(h h':Heap):Prop where
 keep:∀b o,h.get? b=some o->H b=none->b∉fs->b∉ex->h'.get? b=some o
 slot:∀b o,h.get? b=some o->H b=none->b∈fs->b∉ex->∃sl,h'.get? b=some { o with slots:=sl }
 free:∀b o,h.get? b=some o->H b=none->b∉ex->H' b=none
 there:∀b o,h.get? b=some o->b∉ex->∃o',h'.get? b=some o'
 tups:∀b xs,H b=some (.tup xs)->H' b=some (.tup xs)
 frzs:∀b o u,H b=some (.frz o u)->H' b=some (.frz o u)
 tbls:∀b ps,H b=some (.tbl ps)->∃more,H' b=some (.tbl (ps++more))
section
variable {fs fs' ex ex':List Addr}{H H1 H2:Hp}{h h1 h2 h':Heap}{a x e:Addr}{o:HO}
theorem Un.any(u:Un fs ex H H1 h h1){ob:Obj}(q:h.get? b=some ob)(n:H b=none)(hx:b∉ex):∃sl,h1.get? b=some { ob with slots:=sl }:=by
 by_cases hb:b∈fs
 ·exact u.slot b ob q n hb hx
 ·exact⟨ob.slots,u.keep b ob q n hb hx⟩
theorem Un.kept(k:∀b u,h.get? b=some u->h'.get? b=some u):Un fs ex H H h h' :=
 ⟨fun b ob q _ _ _=>k b ob q,fun b ob q _ _ _=>⟨ob.slots,k b ob q⟩,fun _ _ _ n _=>n,fun b ob q _=>⟨ob,k b ob q⟩,fun _ _ q=>q,fun _ _ _ q=>q,fun _ ps q=>⟨#[],by rw[q];simp⟩⟩
theorem Un.refl:Un fs ex H H h h:=Un.kept fun _ _ q=>q
theorem Un.laid(k:∀b u,h.get? b=some u->h'.get? b=some u)(hp:h.objs.size<=a)(hn:H a=none):Un fs ex H (upd H a o) h h' where
 keep:=fun b u q _ _ _=>k b u q
 slot:=fun b u q _ _ _=>⟨u.slots,k b u q⟩
 free:=fun b u q n _=>by rw[AJ (ZT (ZX (ZG q) hp))];exact n
 there:=fun b u q _=>⟨u,k b u q⟩
 tups:=fun b xs q=>by rw[AJ (BU q hn)];exact q
 frzs:=fun b u xs q=>by rw[AJ (BU q hn)];exact q
 tbls:=fun b ps q=>⟨#[],by rw[AJ (BU q hn),q];simp⟩
theorem Un.write(mu:Mut (H x))(he:e=x\/H e=some (.own x))(k:∀b u,b≠e->h.get? b=some u->h'.get? b=some u)(heo:∃u,h'.get? e=some u):Un fs ex H (upd H x o) h h':=by
 have hx:∀b,H b=none->b≠x:=fun b n z=>by subst z;rw[n]at mu;exact mu
 have hb:∀b,H b=none->b≠e:=fun b n z=>by
  subst z
  rcases he with r | r
  ·exact hx b n r
  ·rw[n]at r;cases r
 have hm:∀b u,H b=some u->¬Mut (some u)->b≠x:=fun b u q nm z=>by subst z;rw[q]at mu;exact nm mu
 refine⟨fun b u q n _ _=>k b u (hb b n) q,fun b u q n _ _=>⟨u.slots,k b u (hb b n) q⟩,fun b u q n _=>by rw[AJ (hx b n)];exact n,fun b u q _=>?_,
  fun b xs q=>by rw[AJ (hm b _ q fun z=>z)];exact q,fun b u xs q=>by rw[AJ (hm b _ q fun z=>z)];exact q,fun b ps q=>⟨#[],by rw[AJ (hm b _ q fun z=>z),q];simp⟩⟩
 by_cases hbe:b=e
 ·subst hbe;exact heo
 ·exact⟨u,k b u hbe q⟩
end
noncomputable def trk(h:Heap)(H:Hp):List Addr:=(List.range h.objs.size).filter fun a=>(H a).isSome
noncomputable def Cf(h:Heap)(H:Hp):Heap:=PySem.W.hideAll h (trk h H)
theorem Lk(h:Heap)(H:Hp):(Cf h H).objs.size=h.objs.size:=PySem.W.hideAll_size _ _
theorem K2{o:Obj}(e:h.get? b=some o)(n:H b=none):(Cf h H).get? b=some o :=
 PySem.W.hideAll_get _ e fun hm=>by
  have q:(H b).isSome=true:=(Z8.mp hm).2;rw[n]at q;simp at q
theorem LX{o:Obj}(e:(Cf h H).get? b=some o):h.get? b=some o/\H b=none:=by
 have e':h.get? b=some o:=PySem.W.of_hideAll (trk h H) e;refine⟨e',?_⟩;cases q:H b with
 | none=>rfl
 | some x =>
  have hm:b∈trk h H:=Z8.mpr ⟨Zr.mpr (ZG e'),by simp[q]⟩;have z:(Cf h H).get? b=none:=PySem.W.hideAll_none (trk h H) hm;rw[z]at e;cases e
structure Mod(K:W.Frag)(mg:Str->Option Value)(base:Heap):Prop where
 kin:K.In base
 glob:base.Ns mainGlobals mg
 blt:∃mb,base.Ns builtinsNs mb/\∀x:Str,x ≠ "__name__" -> mb x=bootBuiltins x
 nolimit:base.NoLimit
structure Cx where
 prog:Program
 w:World
 K:W.Frag
 mg:Str->Option Value
 base:Heap
 A:Around
 N:List Str
 s₀:Shared
 H₀:Hp
 env:Env
 outer:List Env
 stack:List Env
 ex:List Addr
 fn:Str->Bool
 calm:Bool
 pn:List (Addr × Obj)
 xe:Value->Shared->Prop
noncomputable def frs(l:List Env):List Addr:=l.filterMap (·.frame)
noncomputable abbrev Cx.fs(X:Cx):List Addr:=frs X.outer
noncomputable def Vis(sc:Scope)(x:Str):Prop:=sc.names.lookup x=some .local\/sc.names.lookup x=some .cell\/sc.names.lookup x=some .free
noncomputable def Loc(sc:Scope)(x:Str):Prop:=sc.names.lookup x=some .local\/sc.names.lookup x=some .cell
noncomputable def W6(env:Env)(h:Heap)(m:Str->Option Value)(x:Str)(u:Value):Prop :=
 (env.kindOf x=some .local/\m x=some u)\/((env.kindOf x=some .cell\/env.kindOf x=some .free)/\∃c,env.cells.lookup x=some c/\h.IsCell c (some u))
structure Cx.Ok(X:Cx):Prop where
 mod:Mod X.K X.mg X.base
 kind:X.env.scope.kind=.function
 glob:X.env.globals=mainGlobals
 blt:X.env.builtins=builtinsNs
 above:X.s₀.heap.objs.size<=X.env.locals
 inj:∀x y c,X.env.cells.lookup x=some c->X.env.cells.lookup y=some c->x=y
 has:∀x,(X.env.kindOf x=some .cell\/X.env.kindOf x=some .free)->∃c,X.env.cells.lookup x=some c
 cab:∀x c,X.fn x=true->X.env.cells.lookup x=some c->X.s₀.heap.objs.size<=c
 hd:X.calm=true->X.A.handled=none
 frames:X.A.frames=some X.stack
 stk:X.stack=X.outer\/(X.stack=X.env::X.outer/\X.env.frame=some X.env.locals)
 exf:∀b∈X.ex,b≠X.env.locals/\∀x c,X.env.cells.lookup x=some c->c≠b
 bs:∀b o,X.base.get? b=some o->X.s₀.heap.get? b=some o/\X.H₀ b=none
 bsz:X.base.objs.size<=X.s₀.heap.objs.size
 noex:∀b o,X.base.get? b=some o->b∉X.ex
 exfs:∀b∈X.ex,b∉X.fs
 funs:X.s₀.heap.FunFrames X.base X.outer
 frf:∀b∈X.fs,X.H₀ b=none
structure Yg(X:Cx)(Ya:List (Addr × Obj))(Z:List (Option V))(H:Hp)(s:Shared):Prop where
 ok:X.Ok
 os:s.os=X.s₀.os
 bare:AllBare s.gens
 base:Un X.fs X.ex X.H₀ H X.s₀.heap s.heap
 loc:∃m,s.heap.Ns X.env.locals m/\∀(i:Nat) (x:Str) (v:V),X.N[i]? = some x->Z[i]? = some (some v)->Vis X.env.scope x->∃u,Yh v u/\W6 X.env s.heap m x u
 cell:∀x c,X.env.cells.lookup x=some c->∃v,s.heap.IsCell c v
 free:H X.env.locals=none
 freeC:∀x c,X.env.cells.lookup x=some c->H c=none
 pin:∀p∈X.pn++Ya,s.heap.get? p.1=some p.2/\H p.1=none/\p.1≠X.env.locals/\p.1∉X.fs/\∀v,p.2.data≠.cell v
 hok:HOk X.prog X.w H s.heap
 len:Z.length=X.N.length
section
variable {X:Cx}{Ya:List (Addr × Obj)}{Z:List (Option V)}{H H':Hp}{s:Shared}{h':Heap}
theorem Cx.Ok.nofr(ok:X.Ok){o:Obj}(e:X.base.get? b=some o):b∉X.fs:=fun hb=>by
 have:=(ok.funs.mem hb).1
 rw[e]at this;cases this
theorem Yg.bs(I:Yg X Ya Z H s):∀b o,X.base.get? b=some o->s.heap.get? b=some o/\H b=none:=fun b o e =>
 ⟨I.base.keep b o (I.ok.bs b o e).1 (I.ok.bs b o e).2 (I.ok.nofr e) (I.ok.noex b o e),I.base.free b o (I.ok.bs b o e).1 (I.ok.bs b o e).2 (I.ok.noex b o e)⟩
theorem Yg.bk(I:Yg X Ya Z H s):∀b o,X.base.get? b=some o->s.heap.get? b=some o:=fun b o e=>(I.bs b o e).1
theorem Yg.mod(I:Yg X Ya Z H s):Mod X.K X.mg X.base:=I.ok.mod
theorem Yg.kIn(I:Yg X Ya Z H s):X.K.In s.heap:=I.ok.mod.kin.keeps I.bk
theorem Yg.lt(I:Yg X Ya Z H s):X.env.locals < s.heap.objs.size:=let ⟨_,hn,_⟩:=I.loc;hn.lt
theorem Yg.sz(I:Yg X Ya Z H s):X.s₀.heap.objs.size<=s.heap.objs.size:=Zn I.ok.above (Zy I.lt)
theorem Yg.nofs(I:Yg X Ya Z H s)(h:s.heap.objs.size<=a):a∉X.fs:=fun hb=>by
 obtain⟨_,o,ho,_⟩:=I.ok.funs.mem hb;exact absurd (ZX (ZG ho) (Zn I.sz h)) (Zd _)
theorem Yg.cne(I:Yg X Ya Z H s):∀x c,X.env.cells.lookup x=some c->c≠X.env.locals:=fun x c e z=>by
 obtain⟨v,o,ho,hd⟩:=I.cell x c e;obtain⟨m,⟨o',es,ep,ho',hd',_⟩,_⟩:=I.loc;rw[z,ho']at ho;cases ho;rw[hd']at hd;cases hd
theorem Yg.funs(I:Yg X Ya Z H s):s.heap.FunFrames X.base X.outer:=by
 have all:∀(l:List Env),(∀b∈frs l,b∈X.fs)->X.s₀.heap.FunFrames X.base l->s.heap.FunFrames X.base l:=by
  intro l
  induction l with
  | nil=>intro _ _;trivial
  | cons env r ih =>
   intro hs hl;obtain⟨hk,⟨L,o,hf,hn,ho,hd⟩,hr⟩:=hl;have hL:L∈X.fs:=hs L (by unfold frs;rw[ZBY,hf];exact Zo);obtain⟨sl,e⟩:=I.base.slot L o ho (I.ok.frf L hL) hL fun z=>I.ok.exfs L z hL
   exact⟨hk,⟨L,_,hf,hn,e,hd⟩,ih (fun b hb=>hs b (by unfold frs;rw[ZBY,hf];exact Ze _ hb)) hr⟩
 exact all X.outer (fun _ hb=>hb) I.ok.funs
theorem Yg.stack(I:Yg X Ya Z H s):s.heap.FunFrames X.base X.stack:=by
 rcases I.ok.stk with e | ⟨e,hf⟩
 ·rw[e];exact I.funs
 ·rw[e];obtain⟨m,hn,_⟩:=I.loc;refine .cons (by rw[I.ok.kind];decide) hf hn ?_ I.funs;exact Heap.get?_none_of_le (Zn I.ok.bsz I.ok.above)
theorem Yg.stkSub(I:Yg X Ya Z H s):∀b∈frs X.stack,b∈X.env.locals::X.fs:=fun b hb=>by
 rcases I.ok.stk with e | ⟨e,hf⟩
 ·rw[e]at hb;exact Ze _ hb
 ·rw[e]at hb;unfold frs at hb;rw[ZBY,hf]at hb;exact hb
theorem Yg.stkFree(I:Yg X Ya Z H s):∀b∈frs X.stack,H b=none:=fun b hb=>by
 rcases ZH.mp (I.stkSub b hb) with e | hb
 ·rw[e];exact I.free
 ·obtain⟨_,o,ho,_⟩:=I.ok.funs.mem hb;exact I.base.free b o ho (I.ok.frf b hb) fun z=>I.ok.exfs b z hb
theorem Yg.step {g':Array GenState} {d':Drawn} {ch:List Addr} (I:Yg X Ya Z H s)
 (hch:∀b∈ch,(b∈X.ex\/X.s₀.heap.objs.size<=b)/\b≠X.env.locals/\(∀x c,X.env.cells.lookup x=some c->c≠b)/\∀p∈X.pn++Ya,p.1≠b)
 (keep:∀b o,b≠X.env.locals->b∉X.fs->b∉ch->s.heap.get? b=some o->H b=none->h'.get? b=some o)
 (slot:∀b o,b≠X.env.locals->b∈X.fs->b∉ch->s.heap.get? b=some o->H b=none->∃sl,h'.get? b=some { o with slots:=sl }) (free:∀b o,b∉ch->s.heap.get? b=some o->H b=none->H' b=none)
 (there:∀b o,b∉ch->s.heap.get? b=some o->∃o',h'.get? b=some o')
 (tups:∀b xs,H b=some (.tup xs)->H' b=some (.tup xs)) (frzs:∀b o u,H b=some (.frz o u)->H' b=some (.frz o u)) (tbls:∀b ps,H b=some (.tbl ps)->∃more,H' b=some (.tbl (ps++more)))
 (ns:∀m,s.heap.Ns X.env.locals m->h'.Ns X.env.locals m) (hok:HOk X.prog X.w H' h') (hg:AllBare g') :
 Yg X Ya Z H' { s with heap:=h',gens:=g',drawn:=d',toks:=t' }:=by
 have neL:∀b o,X.s₀.heap.get? b=some o->b≠X.env.locals:=fun b o e=>ZT (ZX (ZG e) I.ok.above)
 have neC:∀b o,X.s₀.heap.get? b=some o->b∉X.ex->b∉ch:=fun b o e hx hb=>by
  rcases(hch b hb).1 with z | z
  ·exact hx z
  ·exact absurd (ZX (ZG e) z) (Zd _)
 have cellK:∀x c,X.env.cells.lookup x=some c->∀v,s.heap.IsCell c v->h'.IsCell c v:=fun x c e v ⟨o,ho,hd⟩=>by
  have nch:c∉ch:=fun z=>(hch c z).2.2.1 x c e rfl
  by_cases hc:c∈X.fs
  ·obtain⟨sl,q⟩:=slot c o (I.cne x c e) hc nch ho (I.freeC x c e);exact⟨_,q,hd⟩
  ·exact⟨o,keep c o (I.cne x c e) hc nch ho (I.freeC x c e),hd⟩
 refine⟨I.ok,I.os,hg,⟨fun b o e n hb hx=>?_,fun b o e n hb hx=>?_,fun b o e n hx=>?_,fun b o e hx=>?_,fun b xs e=>tups b xs (I.base.tups b xs e),fun b o xs e=>frzs b o xs (I.base.frzs b o xs e),fun b ps e=>?_⟩,?_,fun x c e=>?_,?_,fun x c e=>?_,fun p hp=>?_,hok,I.len⟩
 ·exact keep b o (neL b o e) hb (neC b o e hx) (I.base.keep b o e n hb hx) (I.base.free b o e n hx)
 ·obtain⟨sl,e1⟩:=I.base.slot b o e n hb hx;obtain⟨sl',e2⟩:=slot b _ (neL b o e) hb (neC b o e hx) e1 (I.base.free b o e n hx);exact⟨sl',e2⟩
 ·obtain⟨o',e1⟩:=I.base.there b o e hx;exact free b o' (neC b o e hx) e1 (I.base.free b o e n hx)
 ·obtain⟨o',e1⟩:=I.base.there b o e hx;exact there b o' (neC b o e hx) e1
 ·obtain⟨m1,e1⟩:=I.base.tbls b ps e;obtain⟨m2,e2⟩:=tbls b _ e1;exact⟨m1++m2,by rw[e2,Array.append_assoc]⟩
 ·obtain⟨m,hn,hl⟩:=I.loc;refine⟨m,ns m hn,fun i x v e1 e2 e3=>?_⟩;obtain⟨u,r,l⟩:=hl i x v e1 e2 e3;refine⟨u,r,?_⟩
  rcases l with l | ⟨k,c,e,z⟩
  ·exact .inl l
  ·exact .inr ⟨k,c,e,cellK x c e _ z⟩
 ·obtain⟨v,z⟩:=I.cell x c e;exact⟨v,cellK x c e v z⟩
 ·obtain⟨m,⟨o,_,_,ho,_⟩,_⟩:=I.loc;exact free _ o (fun z=>(hch _ z).2.1 rfl) ho I.free
 ·obtain⟨v,o,ho,hd⟩:=I.cell x c e;exact free c o (fun z=>(hch c z).2.2.1 x c e rfl) ho (I.freeC x c e)
 ·obtain⟨e,n,ne,nf,d⟩:=I.pin p hp;have nch:p.1∉ch:=fun z=>(hch p.1 z).2.2.2 p hp rfl
  exact⟨keep p.1 p.2 ne nf nch e n,free p.1 p.2 nch e n,ne,nf,d⟩
theorem Yg.un(I:Yg X Ya Z H s)(u:Un X.fs [] H H' s.heap h')(hok:HOk X.prog X.w H' h'):Yg X Ya Z H' { s with heap:=h',toks:=t' }:=by
 obtain⟨m,⟨o,es,ep,ho,r⟩,_⟩:=id I.loc;obtain⟨sl,hL⟩:=u.any ho I.free (by simp)
 exact I.step (g':=s.gens) (d':=s.drawn) (ch:=[]) (fun _ z=>nomatch z) (fun b o _ hb _ e n=>u.keep b o e n hb (by simp)) (fun b o _ hb _ e n=>u.slot b o e n hb (by simp)) (fun b o _ e n=>u.free b o e n (by simp)) (fun b o _ e=>u.there b o e (by simp)) u.tups u.frzs u.tbls (fun m' hm=>by
  obtain⟨o',es',ep',ho',r'⟩:=hm;rw[ho]at ho';cases ho';exact⟨_,es',ep',hL,r'⟩) hok I.bare
theorem Yg.call {g':Array GenState} {d':Drawn} {ch:List Addr} (I:Yg X Ya Z H s) (u:Un (frs X.stack) ch H H' s.heap h') (hok:HOk X.prog X.w H' h') (hg:AllBare g')
 (hch:∀b∈ch,(b∈X.ex\/X.s₀.heap.objs.size<=b)/\b≠X.env.locals/\(∀x c,X.env.cells.lookup x=some c->c≠b)/\∀p∈X.pn++Ya,p.1≠b) :
 Yg X Ya Z H' { s with heap:=h',gens:=g',drawn:=d',toks:=t' }:=by
 obtain⟨m,⟨o,es,ep,ho,r⟩,_⟩:=id I.loc;obtain⟨sl,hL⟩:=u.any ho I.free fun z=>(hch _ z).2.1 rfl
 exact I.step (ch:=ch) hch (fun b o hL hb hc e n=>u.keep b o e n (fun z=>(ZH.mp (I.stkSub b z)).elim hL hb) hc) (fun b o _ _ hc e n=>u.any e n hc) (fun b o hc e n=>u.free b o e n hc) (fun b o hc e=>u.there b o e hc) u.tups u.frzs u.tbls (fun m' hm=>by
  obtain⟨o',es',ep',ho',r'⟩:=hm;rw[ho]at ho';cases ho';exact⟨_,es',ep',hL,r'⟩) hok hg
theorem Yg.turned {it:Addr} (I:Yg X Ya Z H s) (k:∀b o,b≠it->s.heap.get? b=some o->h'.get? b=some o) (hn:H it=none) (hL:it≠X.env.locals)
 (h1:it∈X.ex\/X.s₀.heap.objs.size<=it) (h2:∀x c,X.env.cells.lookup x=some c->c≠it) (h3:∀p∈X.pn++Ya,p.1≠it):Yg X Ya Z H { s with heap:=h',toks:=t' }:=by
 have nit:∀b u,H b=some u->b≠it:=fun b u e z=>by rw[z,hn]at e;cases e
 refine I.step (g':=s.gens) (d':=s.drawn) (ch:=[it]) (fun b hb=>?_) (fun b o _ _ hc e _=>k b o (fun z=>hc (by simp[z])) e) (fun b o _ _ hc e _=>⟨o.slots,k b o (fun z=>hc (by simp[z])) e⟩) (fun _ _ _ _ n=>n)
  (fun b o hc e=>⟨o,k b o (fun z=>hc (by simp[z])) e⟩) (fun _ _ e=>e) (fun _ _ _ e=>e) (fun b ps e=>⟨#[],by rw[e];simp⟩) (fun m hm=>?_) (fun b u e=>?_) I.bare
 ·have e:b=it:=by simpa using hb
  subst e;exact⟨h1,hL,h2,h3⟩
 ·obtain⟨o,es,ep,ho,r⟩:=hm;exact⟨o,es,ep,k _ o (Ne.symm hL) ho,r⟩
 ·refine(I.hok b u e).stay (fun c v hc q=>k c v ?_ q) (fun _ q=>q) fun _ _ q=>q
  rcases hc with z | z
  ·rw[z];exact nit b u e
  ·exact nit c _ z
theorem Yg.tok(I:Yg X Ya Z H s)(t:Nat):Yg X Ya Z H { s with toks:=t }:=I.un (h':=s.heap) (t':=t) Un.refl I.hok
theorem Yg.kept(I:Yg X Ya Z H s)(k:∀b u,s.heap.get? b=some u->h'.get? b=some u):Yg X Ya Z H { s with heap:=h',toks:=t' }:=I.un (Un.kept k) (I.hok.kept k)
theorem Yg.laid(I:Yg X Ya Z H s)(k:∀b u,s.heap.get? b=some u->h'.get? b=some u)(hp:s.heap.objs.size<=a)(new:ObjOk X.prog X.w (upd H a o) h' a o) :
 Yg X Ya Z (upd H a o) { s with heap:=h',toks:=t' }:=I.un (Un.laid k hp (I.hok.fresh hp)) (I.hok.laid k hp new)
theorem Yg.write {x e:Addr} (I:Yg X Ya Z H s) (mu:Mut (H x)) (he:e=x\/H e=some (.own x)) (k:∀b u,b≠e->s.heap.get? b=some u->h'.get? b=some u) (heo:∃u,h'.get? e=some u)
 (new:ObjOk X.prog X.w (upd H x o) h' x o):Yg X Ya Z (upd H x o) { s with heap:=h',toks:=t' }:=I.un (Un.write mu he k heo) (I.hok.write mu he k heo new)
theorem Yg.weak{σ':List (Option V)}(I:Yg X Ya Z H s)(hl:σ'.length=Z.length)(w:∀(i:Nat) v,σ'[i]? = some (some v)->Z[i]? = some (some v)):Yg X Ya σ' H s :=
 ⟨I.ok,I.os,I.bare,I.base,let ⟨m,hn,hl'⟩:=I.loc;⟨m,hn,fun i x v e1 e2 e3=>hl' i x v e1 (w i v e2) e3⟩,I.cell,I.free,I.freeC,I.pin,I.hok,hl.trans I.len⟩
theorem Yg.pins_of{pins':List (Addr × Obj)}(I:Yg X Ya Z H s)(h:∀p∈pins',s.heap.get? p.1=some p.2/\H p.1=none/\p.1≠X.env.locals/\p.1∉X.fs/\∀v,p.2.data≠.cell v):Yg X pins' Z H s :=
 ⟨I.ok,I.os,I.bare,I.base,I.loc,I.cell,I.free,I.freeC,fun p hp=>(Zb.mp hp).elim (fun z=>I.pin p (Zv _ z)) (h p),I.hok,I.len⟩
theorem No{N:List Str}(hN:N.Nodup){j:Nat}(a:N[i]? = some x)(b:N[j]? = some x):i=j:=by
 obtain⟨h1,e1⟩:=Zf.mp a;obtain⟨h2,e2⟩:=Zf.mp b;exact(List.getElem_inj hN).mp (e1.trans e2.symm)
theorem MP {M:Model} {Q:Unit->Shared->Prop} (I:Yg X Ya Z H s) (hN:X.N.Nodup) (hi:X.N[i]? = some x) (hx:Loc X.env.scope x) (r:Yh v u)
 (h:∀s',Yg X Ya (Z.set i (some v)) H s'->(∃a,Heap.SameBut a s.heap s'.heap/\(a=X.env.locals\/X.env.cells.lookup x=some a))->Q () s') (hf:X.fn x=true\/X.env.scope.names.lookup x=some .local:=by first | exact .inl rfl | exact .inr rfl | assumption):wpAny M A (storeName X.env x u) Q E s:=by
 obtain⟨m,hn,hl⟩:=id I.loc;have hcls:(X.env.scope.kind == .class || (X.env.scope.kind == .module && X.env.locals != X.env.globals))=false:=by rw[I.ok.kind];rfl
 have hiσ:i < Z.length:=by rw[I.len];exact(Zf.mp hi).1
 have cne:=I.cne
 have tracked:∀{a:Addr} {h':Heap},(∃o,s.heap.get? a=some o/\H a=none)->Heap.SameBut a s.heap h'->HOk X.prog X.w H h':=fun {a h'} ha hs b ob e=>by
  obtain⟨_,_,hfree⟩:=ha;refine(I.hok b ob e).stay (fun c w' hc q=>(hs.2 c ?_).trans q) (fun _ q=>q) fun _ _ q=>q
  rintro rfl
  rcases hc with rfl | hc
  ·rw[hfree]at e;cases e
  ·rw[hfree]at hc;cases hc
 rcases hx with hk | hk
 ·refine wpAny_storeName_local hk hn (fun h' hn' hs=>?_) hcls;obtain⟨oL,_,_,hoL,_⟩:=id hn;refine h _ ⟨I.ok,I.os,I.bare,⟨fun b o e n hb hx=>?_,fun b o e n hb hx=>?_,I.base.free,fun b o e hx=>?_,I.base.tups,I.base.frzs,I.base.tbls⟩,⟨_,hn',fun j y v' e1 e2 e3=>?_⟩,fun y c e=>?_,I.free,I.freeC,fun p hp=>?_,tracked ⟨oL,hoL,I.free⟩ hs,by simpa using I.len⟩ ⟨_,hs,.inl rfl⟩
  ·exact(hs.2 b (ZT (ZX (ZG e) I.ok.above))).trans (I.base.keep b o e n hb hx)
  ·obtain⟨sl,e1⟩:=I.base.slot b o e n hb hx;exact⟨sl,(hs.2 b (ZT (ZX (ZG e) I.ok.above))).trans e1⟩
  ·obtain⟨o',e1⟩:=I.base.there b o e hx;exact⟨o',(hs.2 b (ZT (ZX (ZG e) I.ok.above))).trans e1⟩
  ·by_cases hj:j=i
   ·subst hj;rw[hi]at e1;cases e1;rw[List.getElem?_set_self hiσ]at e2;cases e2;exact⟨u,r,.inl ⟨hk,by simp⟩⟩
   ·rw[List.getElem?_set_ne (Ne.symm hj)]at e2;obtain⟨u',r',q⟩:=hl j y v' e1 e2 e3;refine⟨u',r',?_⟩
    rcases q with ⟨k,e⟩ | ⟨k,c,e,z⟩
    ·refine .inl ⟨k,?_⟩
     have:y≠x:=fun e=>hj (No hN e1 (e ▸ hi))
     simp[this,e]
    ·exact .inr ⟨k,c,e,z.sameBut hs (cne y c e)⟩
  ·obtain⟨w',z⟩:=I.cell y c e;exact⟨w',z.sameBut hs (cne y c e)⟩
  ·obtain⟨e,n,ne,nf,d⟩:=I.pin p hp;exact⟨(hs.2 p.1 ne).trans e,n,ne,nf,d⟩
 ·have hfn:X.fn x=true:=by
   rcases hf with z | z
   ·exact z
   ·rw[z]at hk;cases hk
  obtain⟨c,hc⟩:=I.ok.has x (.inl hk);obtain⟨w',z⟩:=I.cell x c hc;refine wpAny_storeName_cell I.ok.kind hk hc z (fun h' hc' hs=>?_);obtain⟨oc,hoc,hocd⟩:=id z;refine h { s with heap:=h' } ⟨I.ok,I.os,I.bare,⟨fun b o e n hb hx=>?_,fun b o e n hb hx=>?_,I.base.free,fun b o e hx=>?_,I.base.tups,I.base.frzs,I.base.tbls⟩,⟨m,hn.sameBut hs (Ne.symm (cne x c hc)),fun j y v' e1 e2 e3=>?_⟩,fun y c' e=>?_,I.free,I.freeC,fun p hp=>?_,tracked ⟨oc,hoc,I.freeC x c hc⟩ hs,by simpa using I.len⟩ ⟨c,hs,.inr hc⟩
  ·exact(hs.2 b (ZT (ZX (ZG e) (I.ok.cab x c hfn hc)))).trans (I.base.keep b o e n hb hx)
  ·obtain⟨sl,e1⟩:=I.base.slot b o e n hb hx;exact⟨sl,(hs.2 b (ZT (ZX (ZG e) (I.ok.cab x c hfn hc)))).trans e1⟩
  ·obtain⟨o',e1⟩:=I.base.there b o e hx;exact⟨o',(hs.2 b (ZT (ZX (ZG e) (I.ok.cab x c hfn hc)))).trans e1⟩
  ·by_cases hj:j=i
   ·subst hj;rw[hi]at e1;cases e1;rw[List.getElem?_set_self hiσ]at e2;cases e2;exact⟨u,r,.inr ⟨.inl hk,c,hc,hc'⟩⟩
   ·rw[List.getElem?_set_ne (Ne.symm hj)]at e2;obtain⟨u',r',q⟩:=hl j y v' e1 e2 e3;refine⟨u',r',?_⟩
    rcases q with q | ⟨k,c',e,z'⟩
    ·exact .inl q
    ·refine .inr ⟨k,c',e,z'.sameBut hs ?_⟩;rintro rfl;exact hj (No hN e1 (I.ok.inj _ _ _ e hc ▸ hi))
  ·by_cases hcc:c'=c
   ·subst hcc;exact⟨_,hc'⟩
   ·obtain⟨w2,z2⟩:=I.cell y c' e;exact⟨w2,z2.sameBut hs hcc⟩
  ·obtain⟨e,n,ne,nf,d⟩:=I.pin p hp;refine⟨(hs.2 p.1 ?_).trans e,n,ne,nf,d⟩;intro q;rw[q,hoc]at e;have q':oc=p.2:=ZU e;exact d w' (by rw[<- q'];exact hocd)
theorem Nq {M:Model} {Q:Unit->Shared->Prop} (I:Yg X Ya Z H s) (hN:X.N.Nodup) (hi:X.N[i]? = some x) (hx:Loc X.env.scope x) (r:Yh v u)
 (h:∀s',Yg X Ya (Z.set i (some v)) H s'->Q () s') (hf:X.fn x=true\/X.env.scope.names.lookup x=some .local:=by first | exact .inl rfl | exact .inr rfl | assumption):wpAny M A (storeName X.env x u) Q E s :=
 MP I hN hi hx r (fun s' I' _=>h s' I') hf
theorem Yg.call' {s':Shared} {ch:List Addr} (I:Yg X Ya Z H s) (ho:s'.os=s.os) (u:Un (frs X.stack) ch H H' s.heap s'.heap) (hok:HOk X.prog X.w H' s'.heap) (hg:AllBare s'.gens)
 (hch:∀b∈ch,(b∈X.ex\/X.s₀.heap.objs.size<=b)/\b≠X.env.locals/\(∀x c,X.env.cells.lookup x=some c->c≠b)/\∀p∈X.pn++Ya,p.1≠b):Yg X Ya Z H' s':=by
 obtain⟨h',g',d',t',o'⟩:=s';have e:o'=s.os:=ho;subst e;exact I.call (g':=g') (t':=t') (d':=d') u hok hg hch
end
noncomputable abbrev XK:=Value->Option Addr->Hp->Prop
noncomputable abbrev St:=List (Option V)
noncomputable abbrev VK:=V->Hp->Prop
noncomputable abbrev TE:=St->Hp->VK->Prop
noncomputable abbrev TT:=St->Hp->(Bool->Hp->Prop)->Prop
noncomputable abbrev TA:=St->Hp->(List V->Hp->Prop)->Prop
structure Ends where
 nx:St->Hp->Prop
 rt:VK
 bk:St->Hp->Prop:=fun _ _=>False
 ct:St->Hp->Prop:=fun _ _=>False
noncomputable abbrev TS:=Ends->St->Hp->Prop
noncomputable def EP(X:Cx)(Ya:List (Addr × Obj))(Z:St)(Q:VK)(u:Value)(s':Shared):Prop:=∃v H',Yg X Ya Z H' s'/\Yh v u/\Q v H'
noncomputable def TP(X:Cx)(Ya:List (Addr × Obj))(Z:St)(Q:Bool->Hp->Prop)(b:Bool)(s':Shared):Prop:=∃H',Yg X Ya Z H' s'/\Q b H'
noncomputable def AP(X:Cx)(Ya:List (Addr × Obj))(Z:St)(Q:List V->Hp->Prop)(us:List Value)(s':Shared):Prop:=∃vs H',Yg X Ya Z H' s'/\Yi vs us/\Q vs H'
noncomputable def SP(X:Cx)(Ya:List (Addr × Obj))(D:Ends)(f:Flow)(s':Shared):Prop :=
 match f with
 | .next=>∃σ' H',Yg X Ya σ' H' s'/\D.nx σ' H'
 | .brk=>∃σ' H',Yg X Ya σ' H' s'/\D.bk σ' H'
 | .cont=>∃σ' H',Yg X Ya σ' H' s'/\D.ct σ' H'
 | .ret u=>∃v σ' H',Yg X Ya σ' H' s'/\Yh v u/\D.rt v H'
noncomputable def PE(X:Cx)(e:Expr)(t:TE):Prop :=
 ∀(Ya:List (Addr × Obj)) (s:Shared) (Z:St) (H:Hp) (Q:VK),Yg X Ya Z H s->t Z H Q->wpAny (model X.prog X.w) X.A (eval e X.env) (EP X Ya Z Q) X.xe s
noncomputable def PT(X:Cx)(e:Expr)(t:TT):Prop :=
 ∀(Ya:List (Addr × Obj)) (s:Shared) (Z:St) (H:Hp) (Q:Bool->Hp->Prop),Yg X Ya Z H s->t Z H Q->wpAny (model X.prog X.w) X.A (isTrue e X.env (eval e X.env)) (TP X Ya Z Q) X.xe s
noncomputable def PW(X:Cx)(e:Expr)(t:TT):Prop :=
 ∀(whole:Sem Value) (Ya:List (Addr × Obj)) (s:Shared) (Z:St) (H:Hp) (Q:Bool->Hp->Prop),Yg X Ya Z H s->t Z H Q->wpAny (model X.prog X.w) X.A (isTrue e X.env whole) (TP X Ya Z Q) X.xe s
theorem PW.pt{X:Cx}{e:Expr}{t:TT}(h:PW X e t):PT X e t:=h _
noncomputable def PA(X:Cx)(es:List Expr)(t:TA):Prop :=
 ∀(pos:Pos) (Ya:List (Addr × Obj)) (s:Shared) (Z:St) (H:Hp) (Q:List V->Hp->Prop),Yg X Ya Z H s->t Z H Q->wpAny (model X.prog X.w) X.A (spliced (backTo pos (starEach es X.env))) (AP X Ya Z Q) X.xe s
noncomputable def PS(X:Cx)(st:Stmt)(t:TS):Prop :=
 ∀(Ya:List (Addr × Obj)) (s:Shared) (Z:St) (H:Hp) (D:Ends),Yg X Ya Z H s->t D Z H->wpAny (model X.prog X.w) X.A (exec st X.env) (SP X Ya D) X.xe s
noncomputable def PSs(X:Cx)(st:List Stmt)(t:TS):Prop :=
 ∀(Ya:List (Addr × Obj)) (s:Shared) (Z:St) (H:Hp) (D:Ends),Yg X Ya Z H s->t D Z H->wpAny (model X.prog X.w) X.A (execs st X.env) (SP X Ya D) X.xe s
theorem Yn{α:Type}{t:Sem α}{Q Q':α->Shared->Prop}{M:Model}(h:wpAny M A t Q E s)(hQ:∀a s,Q a s->Q' a s):wpAny M A t Q' E s:=Zs h hQ fun _ _ x=>x
section
variable {X:Cx}
noncomputable def Vv(i:Nat):TE:=fun Z H Q=>∃v,Z[i]? = some (some v)/\Q v H
noncomputable def tC(v:V):TE:=fun _ H Q=>Q v H
theorem SC(hN:X.N[i]? = some x)(hv:Vis X.env.scope x)(hd:(x == ("__debug__" : Str))=false:=by decide)(hcd:(x == ("__classdict__" : Str))=false:=by decide):PE X (.Name x pos) (Vv i):=by
 intro Ya s Z H Q I h;obtain⟨v,e,h⟩:=h;obtain⟨m,hn,hl⟩:=I.loc;obtain⟨u,r,l⟩:=hl i x v hN e hv;have fin:EP X Ya Z Q u s:=⟨v,H,I,r,h⟩
 rcases l with ⟨hk,hm⟩ | ⟨hk,c,hc,hcell⟩
 ·exact wpAny_Name (wpAny_loadName_local I.ok.kind hk hn hm fin) hd
 ·rcases hk with hk | hk
  ·exact wpAny_Name (wpAny_loadName_cell I.ok.kind hk hc hcell fin) hd
  ·exact wpAny_Name (wpAny_loadName_free I.ok.kind hk hc hcell fin hcd) hd
theorem AC{i j pos}:PE X (.Constant (.int i) j pos) (tC (.int i)):=fun _ _ _ H _ I h=>wpAny_Constant_int ⟨.int i,H,I.tok _,⟨_,rfl⟩,h⟩
theorem Aw{b j pos}:PE X (.Constant (.bool b) j pos) (tC (.bl b)):=fun _ _ _ H _ I h=>Constant_bool ⟨.bl b,H,I,rfl,h⟩
theorem FG{j pos}:PE X (.Constant .none j pos) (tC .non):=fun _ _ _ H _ I h=>Constant_none ⟨.non,H,I,rfl,h⟩
theorem Cw{x j pos}:PE X (.Constant (.str x) j pos) (tC (.str x)):=fun _ _ _ H _ I h=>Calls.Constant_str ⟨.str x,H,I.tok _,⟨_,rfl⟩,h⟩
noncomputable def Gl(X:Cx)(x:Str):Prop:=X.env.kindOf x=some .globalImplicit
theorem GC (I:Yg X Ya Z H s) (hg:Gl X x) (hm:X.mg x=some u) (h:Q u s)
 (hd:(x == ("__debug__" : Str))=false:=by decide):wpAny (model X.prog X.w) X.A (eval (.Name x pos) X.env) Q E s :=
 Calls.Name_function_global I.ok.kind hg (Calls.loadGlobal_global (by rw[I.ok.glob];exact I.mod.glob.keeps I.bk) hm h) hd
theorem Cv (I:Yg X Ya Z H s) (hg:Gl X x) (hm:X.mg x=none) (hv:bootBuiltins x=some u) (h:Q u s)
 (hn:x ≠ "__name__":=by decide) (hd:(x == ("__debug__" : Str))=false:=by decide):wpAny (model X.prog X.w) X.A (eval (.Name x pos) X.env) Q E s:=by
 obtain⟨mb,h1,h2⟩:=I.mod.blt;exact Calls.Name_function_global I.ok.kind hg (Calls.loadGlobal_builtin (by rw[I.ok.glob];exact I.mod.glob.keeps I.bk) hm (by rw[I.ok.blt];exact h1.keeps I.bk) ((h2 x hn).trans hv) h) hd
theorem Ge(hg:Gl X x)(hm:X.mg x=some u)(r:Yh v u)(hd:(x == ("__debug__" : Str))=false:=by decide):PE X (.Name x pos) (tC v) :=
 fun _ _ _ H _ I h=>GC I hg hm ⟨v,H,I,r,h⟩ hd
theorem EA(hg:Gl X x)(hm:X.mg x=none)(hv:bootBuiltins x=some u)(r:Yh v u)(hn:x ≠ "__name__":=by decide)(hd:(x == ("__debug__" : Str))=false:=by decide):PE X (.Name x pos) (tC v) :=
 fun _ _ _ H _ I h=>Cv I hg hm hv ⟨v,H,I,r,h⟩ hn hd
variable {a b:Expr}{ta tb:TE}{pos:Pos}
theorem Ig(b:Expr){op:CmpOp}(h:op≠.In)(h2:op≠.NotIn):behindInMarks op b=false:=by
 have e1:(op == CmpOp.In)=false:=by cases op <;> first | rfl | exact absurd rfl h
 have e2:(op == CmpOp.NotIn)=false:=by cases op <;> first | rfl | exact absurd rfl h2
 cases b <;> simp[behindInMarks,e1,e2]
variable {tA tB':TT}{rest:List Expr}
noncomputable def Ln(t u:TT):TT:=fun Z H Q=>t Z H fun c H1=>if c=true then u Z H1 Q else Q false H1
noncomputable def tOr(t u:TT):TT:=fun Z H Q=>t Z H fun c H1=>if c=true then Q true H1 else u Z H1 Q
noncomputable def Md(t:TT):TT:=fun Z H Q=>t Z H fun c H1=>Q (!c) H1
theorem Dk(ha:PT X a tA):PW X (.BoolOp .And [a] pos) tA:=by
 intro wh Ya s Z H Q I h;refine isTrue_and (Yn (ha Ya s Z H Q I h) fun c s1 e=>?_);cases c with
 | true=>exact isTrue_and_nil e
 | false=>exact e
theorem Dy(ha:PT X a tA):PW X (.BoolOp .Or [a] pos) tA:=by
 intro wh Ya s Z H Q I h;refine isTrue_or (Yn (ha Ya s Z H Q I h) fun c s1 e=>?_);cases c with
 | false=>exact isTrue_or_nil e
 | true=>exact e
theorem DS(ha:PT X a tA)(hb:PW X (.BoolOp .And (b::rest) pos) tB'):PW X (.BoolOp .And (a::b::rest) pos) (Ln tA tB'):=by
 intro wh Ya s Z H Q I h;refine isTrue_and (Yn (ha Ya s Z H _ I h) fun c s1 ⟨H1,I1,q1⟩=>?_);cases c with
 | true=>exact hb wh Ya s1 Z H1 Q I1 q1
 | false=>exact⟨H1,I1,q1⟩
theorem Dd(ha:PT X a tA)(hb:PW X (.BoolOp .Or (b::rest) pos) tB'):PW X (.BoolOp .Or (a::b::rest) pos) (tOr tA tB'):=by
 intro wh Ya s Z H Q I h;refine isTrue_or (Yn (ha Ya s Z H _ I h) fun c s1 ⟨H1,I1,q1⟩=>?_);cases c with
 | true=>exact⟨H1,I1,q1⟩
 | false=>exact hb wh Ya s1 Z H1 Q I1 q1
theorem Cd(ha:PT X a tA):PT X (.UnaryOp .Not a pos) (Md tA):=by
 intro Ya s Z H Q I h;exact isTrue_not (ha Ya s Z H (fun c H1=>Q (!c) H1) I h)
noncomputable def Of(ta tb:TE):TE:=fun Z H Q=>ta Z H fun x H1=>∃c,x=.bl c/\if c=true then tb Z H1 Q else Q (.bl false) H1
noncomputable def PC(ta tb:TE):TE:=fun Z H Q=>ta Z H fun x H1=>∃c,x=.bl c/\if c=true then Q (.bl true) H1 else tb Z H1 Q
noncomputable def V5(ta:TE):TE:=fun Z H Q=>ta Z H fun x H1=>∃c,x=.bl c/\Q (.bl (!c)) H1
theorem CT{op}{t:TE}(h:PE X a t):PE X (.BoolOp op [a] pos) t:=fun Ya s Z H Q I hw=>BoolOp_one (h Ya s Z H Q I hw)
theorem QV(ha:PE X a ta)(hb:PE X (.BoolOp .And (b::rest) pos) tb):PE X (.BoolOp .And (a::b::rest) pos) (Of ta tb):=by
 intro Ya s Z H Q I h;refine BoolOp_and (Yn (ha Ya s Z H _ I h) fun v s1 ⟨x,H1,I1,r1,q1⟩=>?_);obtain⟨c,rfl,q1⟩:=q1;cases r1;refine Z9 ?_;cases c with
 | true=>exact hb Ya s1 Z H1 Q I1 q1
 | false=>exact⟨.bl false,H1,I1,rfl,q1⟩
theorem Ur(ha:PE X a ta)(hb:PE X (.BoolOp .Or (b::rest) pos) tb):PE X (.BoolOp .Or (a::b::rest) pos) (PC ta tb):=by
 intro Ya s Z H Q I h;refine BoolOp_or (Yn (ha Ya s Z H _ I h) fun v s1 ⟨x,H1,I1,r1,q1⟩=>?_);obtain⟨c,rfl,q1⟩:=q1;cases r1;refine Z9 ?_;cases c with
 | false=>exact hb Ya s1 Z H1 Q I1 q1
 | true=>exact⟨.bl true,H1,I1,rfl,q1⟩
theorem RL(ha:PE X a ta):PE X (.UnaryOp .Not a pos) (V5 ta):=by
 intro Ya s Z H Q I h;refine UnaryOp_ (Yn (ha Ya s Z H _ I h) fun v s1 ⟨x,H1,I1,r1,q1⟩=>?_);obtain⟨c,rfl,q1⟩:=q1;cases r1;exact not_of (Z9 ⟨.bl (!c),H1,I1,rfl,q1⟩)
noncomputable def tIf(t:TT)(ta tb:TE):TE:=fun Z H Q=>t Z H fun c H1=>if c=true then ta Z H1 Q else tb Z H1 Q
theorem DW{c:Expr}(hc:PT X c tA)(ha:PE X a ta)(hb:PE X b tb):PE X (.IfExp c a b pos) (tIf tA ta tb):=by
 intro Ya s Z H Q I h;refine wpAny_IfExp (Yn (hc Ya s Z H _ I h) fun d s1 ⟨H1,I1,q1⟩=>?_);cases d with
 | true=>exact ha Ya s1 Z H1 Q I1 q1
 | false=>exact hb Ya s1 Z H1 Q I1 q1
end
noncomputable def Yw(K:W.Frag)(H:Hp)(a:Addr)(xs:List V):Prop :=
 Rd H a (.lst xs) \/
  ∃(o:Obj) (Ye:Array Value) (n:Nat),K.lookup a=some o/\o.cls=.type "list" /\ o.dict=none/\o.data=.seq Ye n/\Ye.size<=sizeLine/\Yi xs Ye.toList
noncomputable def Yp(K:W.Frag)(H:Hp)(a:Addr)(xs:List V):Prop :=
 Rd H a (.tup xs) \/
  ∃(o:Obj) (Ye:Array Value) (n:Nat),K.lookup a=some o/\o.cls=.type "tuple" /\ o.dict=none/\o.data=.seq Ye n/\Ye.size<=sizeLine/\Yi xs Ye.toList
noncomputable def Sj:Value->Option V
 | .none=>some .non
 | .bool b=>some (.bl b)
 | .int i _=>some (.int i)
 | .str x _=>some (.str x)
 | .bytes b _=>some (.byt b)
 | .float b _=>some (.flt b)
 | .ref a=>some (.ref a)
 | .type n=>some (.ty n)
 | _=>none
theorem Yh.abs{x:V}(r:Yh x u):Sj u=some x:=by
 cases x with
 | non=>cases r;rfl
 | bl _=>cases r;rfl
 | int _=>obtain⟨t,rfl⟩:=r;rfl
 | str _=>obtain⟨t,rfl⟩:=r;rfl
 | byt _=>obtain⟨t,rfl⟩:=r;rfl
 | flt _=>obtain⟨t,rfl⟩:=r;rfl
 | ref _=>cases r;rfl
 | ty _=>cases r;rfl
theorem Yh.inj{x y:V}(r:Yh x u)(q:Yh y u):x=y:=ZU (r.abs.symm.trans q.abs)
theorem Yi.inj:∀{xs ys:List V} {us:List Value},Yi xs us->Yi ys us->xs=ys
 | _,_,_,.nil,.nil=>rfl
 | _,_,_,.cons r t,.cons r' t'=>by rw[r.inj r',Yi.inj t t']
section
variable {X:Cx}{Ya:List (Addr × Obj)}{Z:St}{H:Hp}{s:Shared}{a:Addr}{xs ys:List V}
theorem Yw.of(h:H a=some (.lst xs)):Yw K H a xs:=.inl (.inl h)
theorem Yp.of(h:H a=some (.tup xs)):Yp K H a xs:=.inl (.inl h)
theorem Yg.list(I:Yg X Ya Z H s)(h:Yw X.K H a xs):∃Ye:List Value,Yi xs Ye/\PlainL s.heap a Ye.toArray/\xs.length<=sizeLine:=by
 rcases h with h | ⟨o,Ye,n,hk,hc,hd,hs,hz,r⟩
 ·obtain⟨z,Ye,n,r,e⟩:=h.ok I.hok;exact⟨Ye,r,⟨_,n,e,rfl,rfl,rfl⟩,z⟩
 ·refine⟨Ye.toList,r,⟨o,n,I.kIn a o hk,hc,hd,by simpa using hs⟩,?_⟩;have e:=r.length;simp only[Zj]at e;lia
theorem Yg.tuple(I:Yg X Ya Z H s)(h:Yp X.K H a xs):∃Ye:List Value,Yi xs Ye/\IsTup s.heap a Ye.toArray/\xs.length<=sizeLine:=by
 rcases h with h | ⟨o,Ye,n,hk,hc,hdd,hs,hz,r⟩
 ·obtain⟨z,Ye,r,p⟩:=h.ok I.hok;exact⟨Ye,r,p.tup,z⟩
 ·refine⟨Ye.toList,r,⟨o,I.kIn a o hk,hc,n,by simpa using hs⟩,?_⟩;have e:=r.length;simp only[Zj]at e;lia
theorem Yg.tupleN(I:Yg X Ya Z H s)(h:Yp X.K H a xs):∃Ye:List Value,Yi xs Ye/\IsTupN s.heap a Ye.toArray/\xs.length<=sizeLine:=by
 rcases h with h | ⟨o,Ye,n,hk,hc,hdd,hs,hz,r⟩
 ·obtain⟨z,Ye,r,p⟩:=h.ok I.hok;exact⟨Ye,r,p,z⟩
 ·refine⟨Ye.toList,r,⟨o,I.kIn a o hk,hc,⟨n,by simpa using hs⟩,hdd⟩,?_⟩;have e:=r.length;simp only[Zj]at e;lia
theorem Yg.list_inj(I:Yg X Ya Z H s)(h:Yw X.K H a xs)(h':Yw X.K H a ys):xs=ys:=by
 obtain⟨Ye,r,⟨o,n,e,_,_,d⟩,_⟩:=I.list h;obtain⟨its',r',⟨o',n',e',_,_,d'⟩,_⟩:=I.list h';rw[e]at e';cases e';rw[d]at d';injection d' with d1 _
 have:Ye=its':=by simpa using congrArg Array.toList d1
 subst this;exact r.inj r'
theorem Yg.tuple_inj(I:Yg X Ya Z H s)(h:Yp X.K H a xs)(h':Yp X.K H a ys):xs=ys:=by
 obtain⟨Ye,r,⟨o,e,_,n,d⟩,_⟩:=I.tuple h;obtain⟨its',r',⟨o',e',_,n',d'⟩,_⟩:=I.tuple h';rw[e]at e';cases e';rw[d]at d';injection d' with d1 _
 have:Ye=its':=by simpa using congrArg Array.toList d1
 subst this;exact r.inj r'
end
noncomputable abbrev Cx.wish(X:Cx)(E:Value->Shared->Prop):Cx:={ X with xe:=E }
noncomputable abbrev Cx.nox(X:Cx):Cx:=X.wish fun _ _=>False
theorem Cx.Ok.wish{X:Cx}(ok:X.Ok)(E:Value->Shared->Prop):(X.wish E).Ok :=
 ⟨ok.mod,ok.kind,ok.glob,ok.blt,ok.above,ok.inj,ok.has,ok.cab,ok.hd,ok.frames,ok.stk,ok.exf,ok.bs,ok.bsz,ok.noex,ok.exfs,ok.funs,ok.frf⟩
theorem Cx.Ok.unwish{X:Cx}(ok:(X.wish E).Ok):X.Ok :=
 ⟨ok.mod,ok.kind,ok.glob,ok.blt,ok.above,ok.inj,ok.has,ok.cab,ok.hd,ok.frames,ok.stk,ok.exf,ok.bs,ok.bsz,ok.noex,ok.exfs,ok.funs,ok.frf⟩
section
variable {X:Cx}{Ya:List (Addr × Obj)}{Z:St}{H:Hp}{s:Shared}{E:Value->Shared->Prop}
theorem Yg.wish(I:Yg X Ya Z H s)(E:Value->Shared->Prop):Yg (X.wish E) Ya Z H s:=⟨I.ok.wish E,I.os,I.bare,I.base,I.loc,I.cell,I.free,I.freeC,I.pin,I.hok,I.len⟩
theorem Yg.unwish(I:Yg (X.wish E) Ya Z H s):Yg X Ya Z H s:=⟨I.ok.unwish,I.os,I.bare,I.base,I.loc,I.cell,I.free,I.freeC,I.pin,I.hok,I.len⟩
theorem SP.unwish{D:Ends}{f:Flow}{s':Shared}(h:SP (X.wish E) Ya D f s'):SP X Ya D f s':=by
 cases f with
 | next=>obtain⟨σ',H',I,q⟩:=h;exact⟨σ',H',I.unwish,q⟩
 | brk=>obtain⟨σ',H',I,q⟩:=h;exact⟨σ',H',I.unwish,q⟩
 | cont=>obtain⟨σ',H',I,q⟩:=h;exact⟨σ',H',I.unwish,q⟩
 | ret u=>obtain⟨v,σ',H',I,r,q⟩:=h;exact⟨v,σ',H',I.unwish,r,q⟩
theorem PSs.nox{st:List Stmt}{t:TS}(h:PSs X.nox st t):PSs X st t:=fun Ya s Z H D I hw =>
 Zs (h Ya s Z H D (I.wish _) hw) (fun _ _ q=>q.unwish) fun _ _ z=>False.elim z
end
section
variable {X:Cx}{st:Stmt}{rest:List Stmt}{t u:TS}{e:Expr}{te:TE}{pos:Pos}
noncomputable def Co:TS:=fun D Z H=>D.nx Z H
noncomputable def JI(t u:TS):TS:=fun D Z H=>t { D with nx:=u D } Z H
theorem An:PSs X [] Co:=fun _ _ Z H _ I h=>wpAny_execs_nil ⟨Z,H,I,h⟩
theorem AF(h1:PS X st t)(h2:PSs X rest u):PSs X (st::rest) (JI t u):=by
 intro Ya s Z H D I h;refine wpAny_execs_cons (Yn (h1 Ya s Z H { D with nx:=u D } I h) fun f s1 q=>?_);cases f with
 | next =>
  obtain⟨σ',H',I',q⟩:=q;exact h2 Ya s1 σ' H' D I' q
 | ret v=>exact q
 | brk=>exact q
 | cont=>exact q
theorem AH(h1:PS X st t):PSs X [st] t:=by
 intro Ya s Z H D I h;refine wpAny_execs_cons (Yn (h1 Ya s Z H D I h) fun f s1 q=>?_);cases f with
 | next=>exact wpAny_execs_nil q
 | ret v=>exact q
 | brk=>exact q
 | cont=>exact q
theorem Yg.quiet(I:Yg X Ya Z H s):interactive X.env=false:=by simp[interactive,I.ok.kind]
noncomputable def KG(te:TE):TS:=fun D Z H=>te Z H fun _ H1=>D.nx Z H1
theorem CP(he:PE X e te)(hs:swapsWith e none pos.line X.env=pure false:=by rfl):PS X (.Expr e pos) (KG te):=by
 intro Ya s Z H D I h;exact wpAny_Expr_any (Yn (he Ya s Z H _ I h) fun v s1 ⟨x,H1,I1,r1,q1⟩=>⟨Z,H1,I1,q1⟩) I.quiet hs
noncomputable def MF(te:TE):TS:=fun D Z H=>te Z H D.rt
theorem AL(he:PE X e te):PS X (.Return (some e) pos) (MF te):=by
 intro Ya s Z H D I h;exact wpAny_Return_some (Yn (he Ya s Z H _ I h) fun v s1 ⟨x,H1,I1,r1,q1⟩=>⟨x,Z,H1,I1,r1,q1⟩)
noncomputable def MN(c:TT)(t u:TS):TS:=fun D Z H=>c Z H fun b H1=>if b=true then t D Z H1 else u D Z H1
theorem Ao{c:Expr}{a b:List Stmt}{tc:TT}(hc:PT X c tc)(ha:PSs X a t)(hb:PSs X b u):PS X (.If c a b pos) (MN tc t u):=by
 intro Ya s Z H D I h;refine wpAny_If (Yn (hc Ya s Z H _ I h) fun d s1 ⟨H1,I1,q1⟩=>?_);cases d with
 | true=>exact ha Ya s1 Z H1 D I1 q1
 | false=>exact hb Ya s1 Z H1 D I1 q1
noncomputable def WT:TS:=fun _ _ _=>False
theorem Va:PS X st WT:=fun _ _ _ _ _ _ h=>h.elim
end
noncomputable abbrev TG:=V->St->Hp->(St->Hp->Prop)->Prop
noncomputable abbrev TGs:=List V->St->Hp->(St->Hp->Prop)->Prop
noncomputable def PG(X:Cx)(target:Expr)(t:TG):Prop :=
 ∀(Ya:List (Addr × Obj)) (s:Shared) (Z:St) (H:Hp) (v:V) (u:Value) (Q:St->Hp->Prop),Yg X Ya Z H s->Yh v u->t v Z H Q ->
  wpAny (model X.prog X.w) X.A (assign target X.env u) (fun _ s'=>∃σ' H',Yg X Ya σ' H' s'/\Q σ' H') X.xe s
noncomputable def PGs(X:Cx)(ts:List Expr)(t:TGs):Prop :=
 ∀(Ya:List (Addr × Obj)) (s:Shared) (Z:St) (H:Hp) (vs:List V) (us:List Value) (Q:St->Hp->Prop),Yg X Ya Z H s->Yi vs us->t vs Z H Q ->
  wpAny (model X.prog X.w) X.A (assignInOrder ((assignEach ts X.env).map (·.2)) us) (fun _ s'=>∃σ' H',Yg X Ya σ' H' s'/\Q σ' H') X.xe s
noncomputable abbrev Dx:=V->V->V->Hp->(Hp->Prop)->Prop
noncomputable def JV(X:Cx)(t:Dx):Prop :=
 ∀(Ya:List (Addr × Obj)) (s:Shared) (Z:St) (H:Hp) (o i v:V) (ov iv u:Value) (Q:Hp->Prop),Yg X Ya Z H s->Yh o ov->Yh i iv->Yh v u->t o i v H Q ->
  wpAny (model X.prog X.w) X.A (setItem ov iv u) (fun _ s'=>∃H',Yg X Ya Z H' s'/\Q H') X.xe s
section
variable {X:Cx}{pos:Pos}
noncomputable def AT(i:Nat):TG:=fun v Z H Q=>Q (Z.set i (some v)) H
theorem AO(hN:X.N.Nodup)(hi:X.N[i]? = some x)(hx:Loc X.env.scope x)(hf:X.fn x=true\/X.env.scope.names.lookup x=some .local:=by first | exact .inl rfl | exact .inr rfl | assumption):PG X (.Name x pos) (AT i):=by
 intro Ya s Z H v u Q I r h;exact wpAny_assign_Name (Nq I hN hi hx r (fun s' I'=>⟨_,H,I',h⟩) hf)
noncomputable def HI:TGs:=fun vs Z H Q=>vs=[]/\Q Z H
noncomputable def Jf(t:TG)(u:TGs):TGs:=fun vs Z H Q=>∃v r,vs=v::r/\t v Z H fun σ' H'=>u r σ' H' Q
theorem B9:PGs X [] HI:=by
 intro Ya s Z H vs us Q I r h;obtain⟨e,h⟩:=h;subst e;cases r;exact assignInOrder_nil ⟨Z,H,I,h⟩
theorem Az {e:Expr} {es:List Expr} {t:TG} {u:TGs} (h1:PG X e t) (h2:PGs X es u)
 (hs:(assignEach (e::es) X.env).map (·.2)=assign e X.env::(assignEach es X.env).map (·.2):=by rfl):PGs X (e::es) (Jf t u):=by
 intro Ya s Z H vs us Q I r h;obtain⟨v,vr,e1,h⟩:=h;subst e1;cases r with
 | cons r rr =>
  rw[hs];refine assignInOrder_cons (Yn (h1 Ya s Z H _ _ _ I r h) fun _ s1 ⟨σ1,H1,I1,q1⟩=>?_);exact h2 Ya s1 σ1 H1 _ _ Q I1 rr q1
noncomputable def KW(K:W.Frag)(n:Nat)(t:TGs):TG:=fun v Z H Q=>∃a xs,v=.ref a/\Yp K H a xs/\xs.length=n/\t xs Z H Q
theorem Kq {es:List Expr} {t:TGs} {n:Nat} (hc:X.calm=true) (h:PGs X es t)
 (hn:(assignEach es X.env).length=n:=by rfl) (hst:(assignEach es X.env).findIdx? (·.1)=none:=by rfl):PG X (.Tuple es k pos) (KW X.K n t):=by
 intro Ya s Z H v u Q I r hw;obtain⟨a,xs,e1,hq,hl,hw⟩:=hw;subst e1;cases r;obtain⟨Ye,rv,ht,hz⟩:=I.tuple hq;refine assign_Tuple_tuple (I.ok.hd hc) ht (by simp[hn,<- hl,rv.length]) hst fun h' hx=>?_
 have I1:Yg X Ya Z H { s with heap:=h' }:=I.kept (t':=s.toks) fun b o e=>hx b o (ZT (ZG e)) e
 exact h Ya _ Z H xs _ Q I1 (by simpa using rv) hw
noncomputable def K6(to ti:TE)(t:Dx):TG:=fun v Z H Q=>to Z H fun o H1=>ti Z H1 fun i H2=>t o i v H2 fun H3=>Q Z H3
theorem Em {o i:Expr} {to ti:TE} {t:Dx} (ho:PE X o to) (hi:PE X i ti) (hs:JV X t)
 (ha:∀v,assign (.Subscript o i pos) X.env v=(do
   let ov <- holding [v] (eval o X.env);let iv <- holding [v,ov] (eval i X.env)
   standAt pos
   holding [v,ov,iv] (setItem ov iv v)
   release [v,ov,iv] []):=by intro _;rfl):PG X (.Subscript o i pos) (K6 to ti t):=by
 intro Ya s Z H v u Q I r h;rw[ha];refine ZA (Zk (Yn (ho Ya s Z H _ I h) fun ov s1 ⟨x,H1,I1,r1,q1⟩=>?_));refine ZA (Zk (Yn (hi Ya s1 Z H1 _ I1 q1) fun iv s2 ⟨y,H2,I2,r2,q2⟩=>?_));refine ZA (ZBZ (ZA (Zk (Yn (hs Ya s2 Z H2 x y v ov iv u _ I2 r1 r2 r q2) fun _ s3 ⟨H3,I3,q3⟩=>?_))));exact wpAny_release ⟨Z,H3,I3,q3⟩
noncomputable def EC(te:TE)(g:TG):TS:=fun D Z H=>te Z H fun x H1=>g x Z H1 D.nx
theorem Cp {tg e:Expr} {te:TE} {g:TG} (he:PE X e te) (hg:PG X tg g) (hs:swapsWithSole [tg] e pos.line X.env=pure false:=by rfl) (hw:swappedStores [tg] e X.env=pure none:=by rfl)
 (h1:(assignEach [tg] X.env).map (·.2)=[assign tg X.env]:=by rfl):PS X (.Assign [tg] e pos) (EC te g):=by
 intro Ya s Z H D I h;refine wpAny_Assign_stores (Yn (he Ya s Z H _ I h) fun v s1 ⟨x,H1,I1,r1,q1⟩=>?_) hs hw;rw[h1];exact Yn (hg Ya s1 Z H1 x v _ I1 r1 q1) fun _ s2 q=>q
theorem AN{i:Nat}{x:Str}{e:Expr}{te:TE}{pos':Pos}(hN:X.N.Nodup)(hi:X.N[i]? = some x)(hx:Loc X.env.scope x)(he:PE X e te)(hs:swapsWith e (some (.Name x pos')) pos.line X.env=pure false:=by rfl)(hf:X.fn x=true\/X.env.scope.names.lookup x=some .local:=by first | exact .inl rfl | exact .inr rfl | assumption) :
 PS X (.Assign [.Name x pos'] e pos) (EC te (AT i)):=by
 intro Ya s Z H D I h;refine wpAny_Assign_Name (Yn (he Ya s Z H _ I h) fun v s1 ⟨y,H1,I1,r1,q1⟩=>?_) hs;exact Nq I1 hN hi hx r1 (fun s2 I2=>⟨_,H1,I2,q1⟩) hf
end
structure It where
 go:Nat->Hp->Prop
 yld:Nat->Hp->V->Hp->Prop
 stop:Nat->Hp->Prop
noncomputable def BJ(X:Cx)(Ya:List (Addr × Obj))(H:Hp)(b:Addr):Prop :=
 H b=none/\b≠X.env.locals/\b∉X.fs/\(b∈X.ex\/X.s₀.heap.objs.size<=b)/\(∀x c,X.env.cells.lookup x=some c->c≠b)/\∀p∈X.pn++Ya,p.1≠b
theorem Yg.fpOk{X:Cx}{H':Hp}(I:Yg X Ya Z H s)(hb:s.heap.objs.size<=b)(hn:H' b=none):BJ X Ya H' b:=by
 refine⟨hn,ZBQ (ZX I.lt hb),I.nofs hb,.inr (Zn I.sz hb),fun x c e z=>?_,fun p hp z=>?_⟩
 ·obtain⟨v,q⟩:=I.cell x c e;exact absurd (ZX q.lt (by rw[z];exact hb)) (Zd _)
 ·exact absurd (ZX (ZG (I.pin p hp).1) (by rw[z];exact hb)) (Zd _)
structure Turn(P:Program)(w:World)(K:W.Frag)(tg:Expr)(J:It)(fp:List Addr)(it:Addr)(tn:Nat->Heap->Prop):Prop where
 mem:it∈fp
 obj:∀i h,tn i h->∀b∈fp,∃o,h.get? b=some o/\∀v,o.data≠.cell v
 keep:∀i h h',tn i h->(∀b∈fp,∀o,h.get? b=some o->h'.get? b=some o)->tn i h'
 item:∀(X:Cx),X.prog=P->X.w=w->X.K=K->X.calm=true->∀(i:Nat) (Ya:List (Addr × Obj)) (s:Shared) (Z:St) (H:Hp) (E:Value->Shared->Prop),Yg X Ya Z H s->(∀b∈fp,BJ X Ya H b)->tn i s.heap->J.go i H ->
  wpAny (model P w) X.A (pyNext (.ref it)) (fun r s1=>∃u,r=some u /\
   wpAny (model P w) X.A (letOwnedTupleGo tg (.ref it) u) (fun _ s2=>∃x H',Yg X Ya Z H' s2/\Yh x u/\J.yld i H x H'/\tn (i+1) s2.heap/\∀b∈fp,H' b=none) E s1) E s
 done:∀(X:Cx),X.prog=P->X.w=w->X.K=K->X.calm=true->∀(i:Nat) (Ya:List (Addr × Obj)) (s:Shared) (Z:St) (H:Hp) (E:Value->Shared->Prop),Yg X Ya Z H s->(∀b∈fp,BJ X Ya H b)->tn i s.heap->J.stop i H ->
  wpAny (model P w) X.A (pyNext (.ref it)) (fun r s1=>r=none/\Yg X Ya Z H s1) E s
 self:∀(A:Around) (i:Nat) (s:Shared) (Q:Value->Shared->Prop) (E:Value->Shared->Prop),tn i s.heap->Q (.ref it) s->wpAny (model P w) A (pyIter (.ref it)) Q E s
noncomputable abbrev TI:=St->Hp->(It->Hp->Prop)->Prop
noncomputable def PIE(X:Cx)(Ya:List (Addr × Obj))(Z:St)(tg:Expr)(R:It->Hp->Prop)(itv:Value)(s2:Shared):Prop :=
 ∃(it:Addr) (fp:List Addr) (tn:Nat->Heap->Prop) (J:It) (H':Hp),itv=.ref it/\Yg X Ya Z H' s2/\Turn X.prog X.w X.K tg J fp it tn/\tn 0 s2.heap/\(∀b∈fp,BJ X Ya H' b)/\R J H'
noncomputable def PI(X:Cx)(tg iter:Expr)(wi:TI):Prop :=
 ∀(Ya:List (Addr × Obj)) (s:Shared) (Z:St) (H:Hp) (R:It->Hp->Prop),Yg X Ya Z H s->wi Z H R ->
  wpAny (model X.prog X.w) X.A (eval iter X.env) (fun v s1=>wpAny (model X.prog X.w) X.A (pyIter v) (PIE X Ya Z tg R) X.xe s1) X.xe s
theorem Hu {M:Model} {tg:Expr} {it:Addr} {o:Obj} {n:String} {vs:Array Value} {Q:Unit->Shared->Prop} (ho:s.heap.get? it=some o) (hc:o.cls=.type n) (hd:o.data=.fields vs)
 (hn:["enumerate","zip","dict_itemiterator","dict_reverseitemiterator","odict_iterator","itertools.zip_longest","itertools.pairwise"].contains n=false) (hQ:Q () s):wpAny M A (letOwnedTupleGo tg (.ref it) u) Q E s:=by
 unfold letOwnedTupleGo
 cases tg <;> first
  | exact ZC hQ
  | (cases u <;> first
      | exact ZC hQ
      | (refine ZA (wpAny_load ho ?_)
         rw[hc,hd];show wpAny M A (if (["enumerate","zip","dict_itemiterator","dict_reverseitemiterator","odict_iterator","itertools.zip_longest","itertools.pairwise"].contains n && vs[0]? == some (rawInt _))=true then _ else _) Q E s;rw[if_neg (by intro h;rw[hn,Bool.false_and]at h;cases h)];exact ZC hQ))
noncomputable def Itl(K:W.Frag)(a:Addr):It :=
 ⟨fun i H=>∃xs x,Yw K H a xs/\xs[i]? = some x,fun i H x H'=>H'=H/\∀xs,Yw K H a xs->xs[i]? = some x,fun i H=>∃xs,Yw K H a xs/\xs.length<=i⟩
noncomputable def Itt(K:W.Frag)(a:Addr):It :=
 ⟨fun i H=>∃xs x,Yp K H a xs/\xs[i]? = some x,fun i H x H'=>H'=H/\∀xs,Yp K H a xs->xs[i]? = some x,fun i H=>∃xs,Yp K H a xs/\xs.length<=i⟩
noncomputable def Itr(lo:Int)(n:Nat):It:=⟨fun i _=>i < n,fun i H x H'=>H'=H/\x=.int (lo+i),fun i _=>n<=i⟩
theorem TH{tg:Expr}(a it:Addr):Turn P w K tg (Itl K a) [it] it (fun i h=>h.IsListIter it a i) where
 mem:=by simp
 obj:=fun i h st b hb=>by
  have e:b=it:=by simpa using hb
  subst e;obtain⟨o,e,c,d⟩:=st;exact⟨o,e,fun v z=>by rw[d]at z;cases z⟩
 keep:=fun i h h' st k=>st.at fun o e=>k it (by simp) o e
 item:=by
  intro X hP hw hK hc i Ya s Z H E I hf st hg;subst hP hw hK;obtain⟨xs,x,hq,hx⟩:=hg;obtain⟨Ye,rv,p,hz⟩:=I.list hq;obtain⟨u,hu,ru⟩:=rv.get hx;obtain⟨f0,f1,f2,f3,f4,f5⟩:=hf it (by simp);refine wpAny_pyNext_list_item st p.isList (x:=u) (by simpa using hu) fun h' st' sb=>?_
  have I1:Yg X Ya Z H { s with heap:=h' }:=I.turned (t':=s.toks) (fun b o hb e=>(sb.2 b hb).trans e) f0 f1 f3 f4 f5;obtain⟨o,e,c,d⟩:=id st';exact⟨u,rfl,Hu (s:={ s with heap:=h' }) e c d (by decide) ⟨x,H,I1,ru,⟨rfl,fun ys hy=>by rw[I.list_inj hy hq];exact hx⟩,st',fun b hb=>(hf b hb).1⟩⟩
 done:=by
  intro X hP hw hK hc i Ya s Z H E I hf st hg;subst hP hw hK;obtain⟨xs,hq,hx⟩:=hg;obtain⟨Ye,rv,p,hz⟩:=I.list hq;obtain⟨f0,f1,f2,f3,f4,f5⟩:=hf it (by simp);have hl:=rv.length;exact wpAny_pyNext_list_end (I.ok.hd hc) st p.isList (by simp;lia) fun h' eb=>⟨rfl,I.turned (t':=s.toks) (fun b o hb e=>eb b o hb e) f0 f1 f3 f4 f5⟩
 self:=fun _ _ _ _ _ st h=>wpAny_pyIter_listiter st h
theorem Ub{tg:Expr}(a it:Addr):Turn P w K tg (Itt K a) [it] it (fun i h=>h.IsTupleIter it a i) where
 mem:=by simp
 obj:=fun i h st b hb=>by
  have e:b=it:=by simpa using hb
  subst e;obtain⟨o,e,c,d⟩:=st;exact⟨o,e,fun v z=>by rw[d]at z;cases z⟩
 keep:=fun i h h' st k=>st.at fun o e=>k it (by simp) o e
 item:=by
  intro X hP hw hK hc i Ya s Z H E I hf st hg;subst hP hw hK;obtain⟨xs,x,hq,hx⟩:=hg;obtain⟨Ye,rv,p,hz⟩:=I.tuple hq;obtain⟨u,hu,ru⟩:=rv.get hx;obtain⟨f0,f1,f2,f3,f4,f5⟩:=hf it (by simp);refine wpAny_pyNext_tuple_item st (show s.heap.IsTuple a Ye.toArray from p) (x:=u) (by simpa using hu) fun h' st' sb=>?_
  have I1:Yg X Ya Z H { s with heap:=h' }:=I.turned (t':=s.toks) (fun b o hb e=>(sb.2 b hb).trans e) f0 f1 f3 f4 f5;obtain⟨o,e,c,d⟩:=id st';exact⟨u,rfl,Hu (s:={ s with heap:=h' }) e c d (by decide) ⟨x,H,I1,ru,⟨rfl,fun ys hy=>by rw[I.tuple_inj hy hq];exact hx⟩,st',fun b hb=>(hf b hb).1⟩⟩
 done:=by
  intro X hP hw hK hc i Ya s Z H E I hf st hg;subst hP hw hK;obtain⟨xs,hq,hx⟩:=hg;obtain⟨Ye,rv,p,hz⟩:=I.tuple hq;obtain⟨f0,f1,f2,f3,f4,f5⟩:=hf it (by simp);have hl:=rv.length;exact wpAny_pyNext_tuple_end (I.ok.hd hc) st (show s.heap.IsTuple a Ye.toArray from p) (by simp;lia) fun h' eb=>⟨rfl,I.turned (t':=s.toks) (fun b o hb e=>eb b o hb e) f0 f1 f3 f4 f5⟩
 self:=fun _ _ _ _ _ st h=>wpAny_pyIter_tupleiter st h
theorem Vg{tg:Expr}(it:Addr)(lo:Int)(n:Nat):Turn P w K tg (Itr lo n) [it] it (fun i h=>IsRangeIter h it (lo+(i:Nat) * 1) ((n:Int) - (i:Nat)) 1) where
 mem:=by simp
 obj:=fun i h st b hb=>by
  have e:b=it:=by simpa using hb
  subst e
  exact⟨_,st,fun v z=>by
   have z':Data.fields _=Data.cell v:=z;cases z'⟩
 keep:=fun i h h' st k=>k it (by simp) _ st
 item:=by
  intro X hP hw hK hc i Ya s Z H E I hf st hg;subst hP hw hK;obtain⟨f0,f1,f2,f3,f4,f5⟩:=hf it (by simp);have W:=Walks.range (prog:=X.prog) (w:=X.w) (I.ok.hd hc) it lo 1 n;refine W.item i s _ _ hg st fun v h' tk hv st' kk=>?_
  obtain⟨t,rfl⟩:=hv;have I1:Yg X Ya Z H { s with heap:=h',toks:=tk }:=I.turned (fun b o hb e=>kk b o (by simpa using hb) e) f0 f1 f3 f4 f5;refine⟨_,rfl,Hu (s:={ s with heap:=h',toks:=tk }) (n:="range_iterator") st' rfl rfl (by decide) ⟨.int (lo+i),H,I1,⟨t,?_⟩,⟨rfl,rfl⟩,st',fun b hb=>(hf b hb).1⟩⟩;rw[Int.mul_one]
 done:=by
  intro X hP hw hK hc i Ya s Z H E I hf st hg;subst hP hw hK;obtain⟨f0,f1,f2,f3,f4,f5⟩:=hf it (by simp);exact wpAny_pyNext_range_end (I.ok.hd hc) st (by have:n<=i:=hg;lia) fun h' eb=>⟨rfl,I.turned (t':=s.toks) (fun b o hb e=>eb b o hb e) f0 f1 f3 f4 f5⟩
 self:=fun _ _ _ _ _ st h=>wpAny_pyIter_rangeiter st h
section
variable {X:Cx}{tg:Expr}
theorem Np {R:It->Hp->Prop} {lo hi:Int} {t u v:Tok} {tk:Nat} (I:Yg X Ya Z H s) (h1 : -(2 ^ 62)<=lo) (h2:lo < 2 ^ 62) (h3 : -(2 ^ 62)<=hi) (h4:hi < 2 ^ 62)
 (q:R (Itr lo (hi - lo).toNat) H):wpAny (model X.prog X.w) X.A (pyIter (.ref s.heap.objs.size)) (PIE X Ya Z tg R) E { s with heap:=s.heap.push { cls:=.type "range",data:=.fields #[.int lo t,.int hi u,.int 1 v] },toks:=tk }:=by
 refine wpAny_pyIter_range (IsRange.new ..) (small_one h1 h2 h3 h4) ?_;have I1:Yg X Ya Z H { s with heap:=s.heap.push { cls:=.type "range",data:=.fields #[.int lo t,.int hi u,.int 1 v] },toks:=tk }:=I.kept fun b o e=>ZI _ e
 refine⟨(s.heap.push { cls:=.type "range",data:=.fields #[.int lo t,.int hi u,.int 1 v] }).objs.size,[(s.heap.push { cls:=.type "range",data:=.fields #[.int lo t,.int hi u,.int 1 v] }).objs.size],_,_,H,rfl,
  I1.kept (t':=tk) fun b o e=>ZI _ e,Vg _ lo (hi - lo).toNat,?_,fun b hb=>?_,q⟩
 ·have e1:lo+((0:Nat):Int) * 1=lo:=by simp
  have e2:(((hi - lo).toNat:Nat):Int) - ((0:Nat):Int)=Builtin.Range.rangeSize lo hi 1:=by rw[rangeSize_one];split <;> lia
  show IsRangeIter _ _ (lo+((0:Nat):Int) * 1) ((((hi - lo).toNat:Nat):Int) - ((0:Nat):Int)) 1;rw[e1,e2];exact ZS _ rfl
 ·have e:b=(s.heap.push { cls:=.type "range",data:=.fields #[.int lo t,.int hi u,.int 1 v] }).objs.size:=by simpa using hb
  subst e;exact I1.fpOk (ZE _) (I1.hok.fresh (ZE _))
noncomputable def Lx(ta:TA):TI:=fun Z H R=>ta Z H fun vs H1=>∃j:Int,vs=[.int j] /\ -(2 ^ 62)<=j/\j < 2 ^ 62/\R (Itr 0 j.toNat) H1
noncomputable def Km(ta:TA):TI:=fun Z H R=>ta Z H fun vs H1=>∃i j:Int,vs=[.int i,.int j]/\(-(2 ^ 62)<=i/\i < 2 ^ 62 /\ -(2 ^ 62)<=j/\j < 2 ^ 62)/\R (Itr i (j - i).toNat) H1
theorem BC{a:Expr}{ta:TA}{p:Pos}(hg:Gl X "range")(hm:X.mg "range" = none)(ha:PA X [a] ta)(hs:starEach [a] X.env=[(false,eval a X.env)]:=by rfl):PI X tg (.Call (.Name "range" p) [a] [] pos) (Lx ta):=by
 intro Ya s Z H R I h;refine Call_ (Cv I hg hm boot_range (PyProof.Rows.callWith_type1 (Yn (ha pos Ya s Z H _ I h) fun us s1 ⟨vs,H1,I1,r1,q1⟩=>?_) hs rfl));obtain⟨j,e,q1,q2,q⟩:=q1;subst e;cases r1 with
 | cons r rr =>
  cases rr;obtain⟨t,rfl⟩:=r;exact call_range_1 (Np I1 (by lia) (by lia) q1 q2 (by simpa using q))
theorem HY{a b:Expr}{ta:TA}{p:Pos}(hg:Gl X "range")(hm:X.mg "range" = none)(ha:PA X [a,b] ta)(hs:starEach [a,b] X.env=[(false,eval a X.env),(false,eval b X.env)]:=by rfl)(hs2:starEach [b] X.env=[(false,eval b X.env)]:=by rfl) :
 PI X tg (.Call (.Name "range" p) [a,b] [] pos) (Km ta):=by
 intro Ya s Z H R I h;refine Call_ (Cv I hg hm boot_range (PyProof.Rows.callWith_type1 (Yn (ha pos Ya s Z H _ I h) fun us s1 ⟨vs,H1,I1,r1,q1⟩=>?_) (by rw[hs,hs2]) (by rw[hs2];rfl)));obtain⟨i,j,e,⟨q1,q2,q3,q4⟩,q⟩:=q1;subst e;cases r1 with
 | cons r rr =>
  cases rr with
  | cons r' rr =>
   cases rr;obtain⟨t,rfl⟩:=r;obtain⟨t',rfl⟩:=r';exact call_range_2 (Np I1 q1 q2 q3 q4 q)
noncomputable def Kg(wi:TI)(g:TG)(tb:TS):TS:=fun D Z H=>wi Z H fun J H1=>∃W:Nat->Nat->St->Hp->Prop,(∃m,W 0 m Z H1)/\∀i m Z H,W i m Z H ->
 (J.stop i H/\D.nx Z H)\/(J.go i H/\∃N:St->Hp->Prop,(∀σ' H',N σ' H'->∃m',m' < m/\W (i+1) m' σ' H')/\∀x H',J.yld i H x H'->g x Z H' fun σ2 H2=>tb { D with nx:=N,ct:=N,bk:=D.nx } σ2 H2)
noncomputable def CL(fp:List Addr)(h:Heap):List (Addr × Obj):=fp.filterMap fun b=>(h.get? b).map fun o=>(b,o)
theorem Ck{fp:List Addr}{o:Obj}(hb:b∈fp)(e:h.get? b=some o):(b,o)∈CL fp h:=ZB0.mpr ⟨b,hb,by rw[e];rfl⟩
theorem Kf{fp:List Addr}{p:Addr × Obj}(hp:p∈CL fp h):p.1∈fp/\h.get? p.1=some p.2:=by
 obtain⟨b,hb,e⟩:=ZB0.mp hp;cases q:h.get? b with
 | none=>rw[q]at e;cases e
 | some o =>
  rw[q]at e;have e':(b,o)=p:=ZU e;subst e';exact⟨hb,q⟩
theorem Yg.pinned{fp:List Addr}(I:Yg X Ya Z H s)(hf:∀b∈fp,BJ X Ya H b)(ho:∀b∈fp,∃o,s.heap.get? b=some o/\∀v,o.data≠.cell v):Yg X (Ya++CL fp s.heap) Z H s :=
 I.pins_of fun p hp=>(Zb.mp hp).elim (fun z=>I.pin p (ZY _ z)) fun z=>by
  obtain⟨hb,e⟩:=Kf z;obtain⟨f0,f1,f2,_⟩:=hf p.1 hb;obtain⟨o,e',d⟩:=ho p.1 hb;rw[e]at e';cases e';exact⟨e,f0,f1,f2,d⟩
theorem Yg.unpinned{pl:List (Addr × Obj)}(I:Yg X (Ya++pl) Z H s):Yg X Ya Z H s:=I.pins_of fun p hp=>I.pin p (ZY _ (Zv _ hp))
theorem Be {iter:Expr} {body:List Stmt} {wi:TI} {g:TG} {tb:TS} {pos:Pos} (hp:PassesOwn (model X.prog X.w) X.A X.env X.xe) (hc:X.calm=true) (hi:PI X tg iter wi) (hg:PG X tg g) (hb:PSs X body tb)
 (hs:∀x,foldedSetIterable iter X.env x=pure x:=by intro _;rfl):PS X (.For tg iter body [] pos) (Kg wi g tb):=by
 intro Ya s Z H D I h;refine wpAny_For (Yn (hi Ya s Z H _ I h) fun v s1 h1=>Yn h1 fun itv s2 h2=>?_) hs;obtain⟨it,fp,tn,J,H2,e,I2,T,st2,f2,W,⟨m0,w0⟩,turn⟩:=h2;subst e
 -- what stays true of the iterator's objects through the loop
 have stat:∀{H':Hp},(∀b∈fp,H' b=none)->∀b∈fp,BJ X Ya H' b:=fun hn b hb=>⟨hn b hb,(f2 b hb).2⟩
 refine codeAny_forLoop_any (fun n s'=>∃i σ' H',Yg X Ya σ' H' s'/\tn i s'.heap/\(∀b∈fp,H' b=none)/\W i n σ' H') ?_ m0 ⟨0,Z,H2,I2,st2,fun b hb=>(f2 b hb).1,w0⟩;rintro n s3 ⟨i,σ3,H3,I3,st3,fr3,w3⟩
 rcases turn i n σ3 H3 w3 with ⟨stop,qn⟩ | ⟨go,N,hN,step⟩
 ·refine wpAny_passesOwn hp (Yn (T.done X rfl rfl rfl hc i Ya s3 σ3 H3 X.xe I3 (stat fr3) st3 stop) fun r s4 ⟨hr,I4⟩=>?_);subst hr;exact wpAny_execs_nil ⟨σ3,H3,I4,qn⟩
 ·refine wpAny_passesOwn hp (Yn (T.item X rfl rfl rfl hc i Ya s3 σ3 H3 X.xe I3 (stat fr3) st3 go) fun r s4 ⟨u,hr,h4⟩=>?_);subst hr;refine wpAny_passesOwn hp (Yn h4 fun _ s5 ⟨x,H5,I5,r5,y5,st5,fr5⟩=>?_);have I5':=I5.pinned (stat fr5) (T.obj _ _ st5);refine wpAny_passesOwn hp (Yn (hg _ s5 σ3 H5 x u _ I5' r5 (step x H5 y5)) fun _ s6 ⟨σ6,H6,I6,q6⟩=>?_);refine wpAny_passesOwn hp (Yn (hb _ s6 σ6 H6 _ I6 q6) fun f s7 q7=>?_)
  have again:∀{σ7:St} {H7:Hp},Yg X (Ya++CL fp s5.heap) σ7 H7 s7->N σ7 H7->∃m,m < n/\∃i σ' H',Yg X Ya σ' H' s7/\tn i s7.heap/\(∀b∈fp,H' b=none)/\W i m σ' H':=fun {σ7 H7} I7 n7=>by
   obtain⟨m',hm,w7⟩:=hN σ7 H7 n7;refine⟨m',hm,i+1,σ7,H7,I7.unpinned,T.keep _ _ _ st5 fun b hb o e=>(I7.pin (b,o) (ZY _ (ZY _ (Ck hb e)))).1,fun b hb=>?_,w7⟩;obtain⟨o,e,d⟩:=T.obj _ _ st5 b hb;exact(I7.pin (b,o) (ZY _ (ZY _ (Ck hb e)))).2.1
  cases f with
  | next=>obtain⟨σ7,H7,I7,n7⟩:=q7;exact again I7 n7
  | cont=>obtain⟨σ7,H7,I7,n7⟩:=q7;exact again I7 n7
  | brk=>obtain⟨σ7,H7,I7,q7⟩:=q7;exact⟨σ7,H7,I7.unpinned,q7⟩
  | ret v=>obtain⟨x7,σ7,H7,I7,r7,q7⟩:=q7;exact⟨x7,σ7,H7,I7.unpinned,r7,q7⟩
end
theorem Jj {xs:List V} {g:TG} {tb:TS} {D:Ends} (Pv:Nat->St->Hp->Prop) (h0:Pv 0 Z H) (hl:∀i Z H,i<=xs.length->Pv i Z H->Yw K H a xs)
 (hs:∀i x Z H,xs[i]? = some x->Pv i Z H->g x Z H fun σ2 H2=>tb { D with nx:=Pv (i+1),ct:=Pv (i+1),bk:=D.nx } σ2 H2) (hd:∀Z H,Pv xs.length Z H->D.nx Z H) :
 ∃W:Nat->Nat->St->Hp->Prop,(∃m,W 0 m Z H)/\∀i m Z H,W i m Z H ->
  ((Itl K a).stop i H/\D.nx Z H)\/((Itl K a).go i H/\∃N:St->Hp->Prop,(∀σ' H',N σ' H'->∃m',m' < m/\W (i+1) m' σ' H')/\∀x H',(Itl K a).yld i H x H'->g x Z H' fun σ2 H2=>tb { D with nx:=N,ct:=N,bk:=D.nx } σ2 H2):=by
 refine⟨fun i m Z H=>m=xs.length - i/\i<=xs.length/\Pv i Z H,⟨xs.length,by simp,ZV _,h0⟩,?_⟩;rintro i m Z H ⟨rfl,hi,p⟩;have q:=hl i Z H hi p
 by_cases Yr:i < xs.length
 ·refine .inr ⟨⟨xs,xs[i],q,by simp[Yr]⟩,Pv (i+1),fun σ' H' p'=>⟨xs.length - (i+1),by lia,rfl,Yr,p'⟩,fun x H' y=>?_⟩;obtain⟨e,y⟩:=y;subst e;exact hs i x Z _ (y xs q) p
 ·have e:i=xs.length:=by lia
  subst e;exact .inl ⟨⟨xs,q,ZE _⟩,hd Z H p⟩
theorem Ht {xs:List V} {g:TG} {tb:TS} {D:Ends} (Pv:Nat->St->Hp->Prop) (h0:Pv 0 Z H) (hl:∀i Z H,i<=xs.length->Pv i Z H->Yp K H a xs)
 (hs:∀i x Z H,xs[i]? = some x->Pv i Z H->g x Z H fun σ2 H2=>tb { D with nx:=Pv (i+1),ct:=Pv (i+1),bk:=D.nx } σ2 H2) (hd:∀Z H,Pv xs.length Z H->D.nx Z H) :
 ∃W:Nat->Nat->St->Hp->Prop,(∃m,W 0 m Z H)/\∀i m Z H,W i m Z H ->
  ((Itt K a).stop i H/\D.nx Z H)\/((Itt K a).go i H/\∃N:St->Hp->Prop,(∀σ' H',N σ' H'->∃m',m' < m/\W (i+1) m' σ' H')/\∀x H',(Itt K a).yld i H x H'->g x Z H' fun σ2 H2=>tb { D with nx:=N,ct:=N,bk:=D.nx } σ2 H2):=by
 refine⟨fun i m Z H=>m=xs.length - i/\i<=xs.length/\Pv i Z H,⟨xs.length,by simp,ZV _,h0⟩,?_⟩;rintro i m Z H ⟨rfl,hi,p⟩;have q:=hl i Z H hi p
 by_cases Yr:i < xs.length
 ·refine .inr ⟨⟨xs,xs[i],q,by simp[Yr]⟩,Pv (i+1),fun σ' H' p'=>⟨xs.length - (i+1),by lia,rfl,Yr,p'⟩,fun x H' y=>?_⟩;obtain⟨e,y⟩:=y;subst e;exact hs i x Z _ (y xs q) p
 ·have e:i=xs.length:=by lia
  subst e;exact .inl ⟨⟨xs,q,ZE _⟩,hd Z H p⟩
theorem C3 {lo:Int} {n:Nat} {g:TG} {tb:TS} {D:Ends} (Pv:Nat->St->Hp->Prop) (h0:Pv 0 Z H)
 (hs:∀i Z H,i < n->Pv i Z H->g (.int (lo+i)) Z H fun σ2 H2=>tb { D with nx:=Pv (i+1),ct:=Pv (i+1),bk:=D.nx } σ2 H2) (hd:∀Z H,Pv n Z H->D.nx Z H) :
 ∃W:Nat->Nat->St->Hp->Prop,(∃m,W 0 m Z H)/\∀i m Z H,W i m Z H ->
  ((Itr lo n).stop i H/\D.nx Z H)\/((Itr lo n).go i H/\∃N:St->Hp->Prop,(∀σ' H',N σ' H'->∃m',m' < m/\W (i+1) m' σ' H')/\∀x H',(Itr lo n).yld i H x H'->g x Z H' fun σ2 H2=>tb { D with nx:=N,ct:=N,bk:=D.nx } σ2 H2):=by
 refine⟨fun i m Z H=>m=n - i/\i<=n/\Pv i Z H,⟨n,by simp,ZV _,h0⟩,?_⟩;rintro i m Z H ⟨rfl,hi,p⟩
 by_cases Yr:i < n
 ·refine .inr ⟨Yr,Pv (i+1),fun σ' H' p'=>⟨n - (i+1),by lia,rfl,Yr,p'⟩,fun x H' y=>?_⟩;obtain⟨e,y⟩:=y;subst e y;exact hs i Z _ Yr p
 ·have e:i=n:=by lia
  subst e;exact .inl ⟨ZE _,hd Z H p⟩
noncomputable abbrev R2:=V->V->Hp->VK->Prop
noncomputable def Yt(X:Cx)(f:Value->Value->Sem Value)(r:R2):Prop :=
 ∀(Ya:List (Addr × Obj)) (s:Shared) (Z:St) (H:Hp) (x y:V) (v u:Value) (Q:VK),Yg X Ya Z H s->Yh x v->Yh y u->r x y H Q ->
  wpAny (model X.prog X.w) X.A (f v u) (EP X Ya Z Q) X.xe s
noncomputable def UnR(X:Cx)(f:Value->Sem Value)(r:V->Hp->VK->Prop):Prop :=
 ∀(Ya:List (Addr × Obj)) (s:Shared) (Z:St) (H:Hp) (x:V) (v:Value) (Q:VK),Yg X Ya Z H s->Yh x v->r x H Q ->
  wpAny (model X.prog X.w) X.A (f v) (EP X Ya Z Q) X.xe s
noncomputable def CallR(X:Cx)(f:Value)(r:List V->Hp->VK->Prop):Prop :=
 ∀(Ya:List (Addr × Obj)) (s:Shared) (Z:St) (H:Hp) (xs:List V) (us:List Value) (Q:VK),Yg X Ya Z H s->Yi xs us->r xs H Q ->
  wpAny (model X.prog X.w) X.A (call f us) (EP X Ya Z Q) X.xe s
noncomputable def tOp(r:R2)(ta tb:TE):TE:=fun Z H Q=>ta Z H fun x H1=>tb Z H1 fun y H2=>r x y H2 Q
noncomputable def tUn(r:V->Hp->VK->Prop)(ta:TE):TE:=fun Z H Q=>ta Z H fun x H1=>r x H1 Q
noncomputable def rI(C:Int->Int->Prop)(g:Int->Int->V):R2:=fun x y H Q=>∃i j,x=.int i/\y=.int j/\C i j/\Q (g i j) H
noncomputable def rI0(g:Int->Int->V):R2:=fun x y H Q=>∃i j,x=.int i/\y=.int j/\Q (g i j) H
noncomputable def rU(g:Int->V):V->Hp->VK->Prop:=fun x H Q=>∃i,x=.int i/\Q (g i) H
section
variable {X:Cx}{a b c:Expr}{ta tb tc:TE}{pos:Pos}
theorem IS (ha:PE X a ta) (hb:PE X b tb) {R:V->V->Hp->Prop} (I:Yg X Ya Z H s)
 (h:ta Z H fun x H1=>tb Z H1 fun y H2=>R x y H2) {f:Value->Value->Sem Value}
 (hf:∀v u s2 x y H2,Yg X Ya Z H2 s2->Yh x v->Yh y u->R x y H2->wpAny (model X.prog X.w) X.A (f v u) Q X.xe s2) :
 wpAny (model X.prog X.w) X.A (eval a X.env) (fun v s₁=>wpAny (model X.prog X.w) X.A (eval b X.env) (fun u s₂=>wpAny (model X.prog X.w) X.A (f v u) Q X.xe s₂) X.xe s₁) X.xe s:=by
 refine Yn (ha Ya s Z H _ I h) fun v s1 ⟨x,H1,I1,r1,q1⟩=>?_
 refine Yn (hb Ya s1 Z H1 _ I1 q1) fun u s2 ⟨y,H2,I2,r2,q2⟩=>?_
 exact hf v u s2 x y H2 I2 r1 r2 q2
theorem AQ{op:Operator}{r:R2}(ho:Yt X (binaryOp op) r)(ha:PE X a ta)(hb:PE X b tb):PE X (.BinOp a op b pos) (tOp r ta tb):=by
 intro Ya s Z H Q I h;exact wpAny_BinOp (IS ha hb I h fun v u s2 x y H2 I2 rx ry q=>ho Ya s2 Z H2 x y v u Q I2 rx ry q)
theorem OP{op:UnaryOp}{r:V->Hp->VK->Prop}(ho:UnR X (unaryOp op) r)(ha:PE X a ta):PE X (.UnaryOp op a pos) (tUn r ta):=by
 intro Ya s Z H Q I h;exact UnaryOp_ (Yn (ha Ya s Z H _ I h) fun v s1 ⟨x,H1,I1,r1,q1⟩=>ho Ya s1 Z H1 x v Q I1 r1 q1)
theorem opI {f:Value->Value->Sem Value} {C:Int->Int->Prop} {g:Int->Int->Int}
 (rule:∀(i j:Int) (t u:Tok) (s:Shared) (Q:Value->Shared->Prop) (E:Value->Shared->Prop),C i j->Q (.int (g i j) s.toks) { s with toks:=s.toks+1 } -> wpAny (model X.prog X.w) X.A (f (.int i t) (.int j u)) Q E s) :
 Yt X f (rI C fun i j=>.int (g i j)):=by
 intro Ya s Z H x y v u Q I rx ry h;obtain⟨i,j,rfl,rfl,hc,q⟩:=h;obtain⟨t,rfl⟩:=rx;obtain⟨t',rfl⟩:=ry;exact rule i j t t' s _ _ hc ⟨.int (g i j),H,I.tok _,⟨_,rfl⟩,q⟩
theorem HN {f:Value->Value->Sem Value} {g:Int->Int->Int}
 (rule:∀(i j:Int) (t u:Tok) (s:Shared) (Q:Value->Shared->Prop) (E:Value->Shared->Prop),Q (.int (g i j) s.toks) { s with toks:=s.toks+1 } -> wpAny (model X.prog X.w) X.A (f (.int i t) (.int j u)) Q E s) :
 Yt X f (rI0 fun i j=>.int (g i j)):=by
 intro Ya s Z H x y v u Q I rx ry h;obtain⟨i,j,rfl,rfl,q⟩:=h;obtain⟨t,rfl⟩:=rx;obtain⟨t',rfl⟩:=ry;exact rule i j t t' s _ _ ⟨.int (g i j),H,I.tok _,⟨_,rfl⟩,q⟩
theorem Go {f:Value->Value->Sem Value} {g:Int->Int->Bool}
 (rule:∀(i j:Int) (t u:Tok) (s:Shared) (Q:Value->Shared->Prop) (E:Value->Shared->Prop),Q (.bool (g i j)) s->wpAny (model X.prog X.w) X.A (f (.int i t) (.int j u)) Q E s) :
 Yt X f (rI0 fun i j=>.bl (g i j)):=by
 intro Ya s Z H x y v u Q I rx ry h;obtain⟨i,j,rfl,rfl,q⟩:=h;obtain⟨t,rfl⟩:=rx;obtain⟨t',rfl⟩:=ry;exact rule i j t t' s _ _ ⟨.bl (g i j),H,I,rfl,q⟩
noncomputable def Fn(i j:Int):Prop:=0<=j/\j<=1000000/\i.natAbs < 2 ^ 64
noncomputable def CMul(i j:Int):Prop:=(-(2 ^ 64) < i/\i < 2 ^ 64)\/(-(2 ^ 64) < j/\j < 2 ^ 64)
theorem CMul.ok{i j:Int}(h:CMul i j):IntMulOk i j:=by
 rcases h with ⟨h1,h2⟩ | ⟨h1,h2⟩
 ·exact .of_left (intBits_le_64 h1 h2)
 ·exact .of_right (intBits_le_64 h1 h2)
theorem WD(k:Nat):(0:Int)<=2 ^ k:=by
 rw[two_pow_cast];exact ZB1 _
theorem NW:Yt X (binaryOp .Add) (rI0 fun i j=>.int (i+j)):=HN fun _ _ _ _ _ _ _ q=>add_int q
theorem UI:Yt X (binaryOp .Sub) (rI0 fun i j=>.int (i - j)):=HN fun _ _ _ _ _ _ _ q=>sub_int q
theorem Tp:Yt X (binaryOp .Mod) (rI (fun _ j=>0 < j) fun i j=>.int (i % j)):=opI fun i j _ _ _ _ _ hc q=>by
 have h1:(0:Int) < j:=hc;exact mod_int' (by lia) (by rw[Int.fmod_eq_emod_of_nonneg i (by lia)];exact q)
theorem Vt:Yt X (binaryOp .Pow) (rI Fn fun i j=>.int (i ^ j.toNat)):=opI fun _ _ _ _ _ _ _ hc q=>pow_int_small hc.1 hc.2.1 hc.2.2 q
theorem O5:Yt X (binaryOp .LShift) (rI Fn fun i j=>.int (i * 2 ^ j.toNat)):=opI fun _ _ _ _ _ _ _ hc q=>lshift_int_small hc.1 hc.2.1 hc.2.2 q
theorem WR:Yt X (binaryOp .RShift) (rI (fun _ j=>0<=j) fun i j=>.int (i / 2 ^ j.toNat)):=opI fun i j _ _ _ _ _ hc q =>
 rshift_int hc (by rw[Int.fdiv_eq_ediv_of_nonneg i (WD _)];exact q)
theorem QD:Yt X (binaryOp .BitAnd) (rI0 fun i j=>.int (Builtin.bitAnd i j)):=HN fun _ _ _ _ _ _ _ q=>and_int q
theorem unI {f:Value->Sem Value} {g:Int->Int}
 (rule:∀(i:Int) (t:Tok) (s:Shared) (Q:Value->Shared->Prop) (E:Value->Shared->Prop),Q (.int (g i) s.toks) { s with toks:=s.toks+1 } -> wpAny (model X.prog X.w) X.A (f (.int i t)) Q E s) :
 UnR X f (rU fun i=>.int (g i)):=by
 intro Ya s Z H x v Q I rx h;obtain⟨i,rfl,q⟩:=h;obtain⟨t,rfl⟩:=rx;exact rule i t s _ _ ⟨.int (g i),H,I.tok _,⟨_,rfl⟩,q⟩
theorem Vu:UnR X (unaryOp .USub) (rU fun i=>.int (-i)):=unI fun _ _ _ _ _ q=>neg_int q
end
section
variable {X:Cx}{a b c:Expr}{ta tb tc:TE}{pos:Pos}
theorem MU{Q:VK}{k k':Bool}(I:Yg X Ya Z H s)(q:Q (.bl k) H)(e:k=k'):EP X Ya Z Q (.bool k') s:=by
 subst e;exact⟨.bl k,H,I,rfl,q⟩
theorem Oq:Yt X (compareOp .Lt) (rI0 fun i j=>.bl (decide (i < j))):=Go fun _ _ _ _ _ _ _ q=>lt_int q
theorem T9:Yt X (compareOp .LtE) (rI0 fun i j=>.bl (decide (i<=j))):=Go fun _ _ _ _ _ _ _ q=>le_int q
theorem TQ:Yt X (compareOp .Gt) (rI0 fun i j=>.bl (decide (j < i))):=Go fun _ _ _ _ _ _ _ q=>gt_int q
theorem Oy:Yt X (compareOp .GtE) (rI0 fun i j=>.bl (decide (j<=i))):=Go fun _ _ _ _ _ _ _ q=>ge_int q
theorem SO:Yt X (compareOp .Is) (fun x y H Q=>y=.non/\Q (.bl (decide (x=.non))) H):=by
 intro Ya s Z H x y v u Q I rx ry h;obtain⟨rfl,q⟩:=h;cases ry;refine is_none_gen (MU I q ?_)
 cases x <;> first
  | (cases rx;rfl)
  | (obtain⟨t,rfl⟩:=rx;rfl)
theorem RA:Yt X (compareOp .IsNot) (fun x y H Q=>y=.non/\Q (.bl (!decide (x=.non))) H):=by
 intro Ya s Z H x y v u Q I rx ry h;obtain⟨rfl,q⟩:=h;cases ry;refine isnot_none_gen (MU I q ?_)
 cases x <;> first
  | (cases rx;rfl)
  | (obtain⟨t,rfl⟩:=rx;rfl)
theorem RD{op:CmpOp}{r:R2}(ho:Yt X (compareOp op) r)(ha:PE X a ta)(hb:PE X b tb)(hm:behindInMarks op b=false):PE X (.Compare a [op] [b] pos) (tOp r ta tb):=by
 intro Ya s Z H Q I h;exact wpAny_Compare1 (IS ha hb I h fun v u s2 x y H2 I2 rx ry q=>ho Ya s2 Z H2 x y v u Q I2 rx ry q) hm
theorem Dn:(sizeLine:Nat) < 2 ^ 63:=by rw[sizeLine_eq];decide
theorem Wi:Yt X (binaryOp .Add) (fun x y H Q=>∃i j,x=.str i/\y=.str j/\i.length+j.length<=sizeLine/\Q (.str (i++j)) H):=by
 intro Ya s Z H x y v u Q I rx ry h;obtain⟨i,j,rfl,rfl,hz,q⟩:=h;obtain⟨t,rfl⟩:=rx;obtain⟨t',rfl⟩:=ry;exact add_str (fun t' tk=>⟨.str (i++j),H,I.tok _,⟨_,rfl⟩,q⟩) hz
theorem BS{x:V}(r:Yi [x] us):∃u,us=[u]/\Yh x u:=by
 cases r with
 | cons r1 r2=>cases r2;exact⟨_,rfl,r1⟩
theorem ER{x y:V}(r:Yi [x,y] us):∃u w',us=[u,w']/\Yh x u/\Yh y w':=by
 cases r with
 | cons r1 r2 =>
  cases r2 with
  | cons r3 r4=>cases r4;exact⟨_,_,rfl,r1,r3⟩
theorem Ws(hc:X.calm=true):CallR X (.builtin "max") (fun xs H Q=>∃i j,xs=[.int i,.int j]/\Q (.int (if j > i then j else i)) H):=by
 intro Ya s Z H xs us Q I r h;obtain⟨i,j,rfl,q⟩:=h;obtain⟨u,w',rfl,⟨t,rfl⟩,⟨t',rfl⟩⟩:=ER r;refine max_two_ints (I.ok.hd hc) fun h' tk k=>⟨_,H,I.kept k,?_,q⟩
 by_cases hj:j > i
 ·rw[if_pos hj,if_pos hj];exact⟨_,rfl⟩
 ·rw[if_neg hj,if_neg hj];exact⟨_,rfl⟩
theorem call_int1:CallR X (.type "int") (fun xs H Q=>(∃i,xs=[.int i]/\Q (.int i) H)\/∃k,xs=[.bl k]/\Q (.int (if k then 1 else 0)) H):=by
 intro Ya s Z H xs us Q I r h
 rcases h with ⟨i,rfl,q⟩ | ⟨k,rfl,q⟩
 ·obtain⟨u,rfl,t,rfl⟩:=BS r;exact call_int_int ⟨.int i,H,I,⟨_,rfl⟩,q⟩
 ·obtain⟨u,rfl,r1⟩:=BS r;cases r1;exact call_int_bool ⟨.int (if k then 1 else 0),H,I.tok _,⟨_,rfl⟩,q⟩
noncomputable def Mj(K:W.Frag)(x:V)(H:Hp)(n:Nat):Prop :=
 match x with
 | .str y=>y.length<=sizeLine/\n=y.length
 | .byt y=>y.size<=sizeLine/\n=y.size
 | .ref p=>(∃xs,Yw K H p xs/\n=xs.length)\/∃xs,Yp K H p xs/\n=xs.length
 | _=>False
theorem call_len:CallR X (.builtin "len") (fun xs H Q=>∃x n,xs=[x]/\Mj X.K x H n/\Q (.int n) H):=by
 intro Ya s Z H xs us Q I r h;obtain⟨x,n,rfl,e,q⟩:=h;obtain⟨u,rfl,rx⟩:=BS r;have hl:=Dn;have hs:sizeLine=16777216:=sizeLine_eq;cases x with
 | str y =>
  obtain⟨t,rfl⟩:=rx;obtain⟨hy,e'⟩:y.length<=sizeLine/\n=y.length:=e;subst e';exact len_str (by lia) ⟨.int _,H,I.tok _,⟨_,rfl⟩,q⟩
 | byt y =>
  obtain⟨t,rfl⟩:=rx;obtain⟨hy,e'⟩:y.size<=sizeLine/\n=y.size:=e;subst e';exact PySem.W.len_bytes (by lia) ⟨.int _,H,I.tok _,⟨_,rfl⟩,q⟩
 | ref p =>
  cases rx;have e':(∃xs,Yw X.K H p xs/\n=xs.length)\/∃xs,Yp X.K H p xs/\n=xs.length:=e
  rcases e' with ⟨xs,hx,e'⟩ | ⟨xs,hx,e'⟩
  ·subst e';obtain⟨Ye,r',pl,hz⟩:=I.list hx;have Yk:=r'.length;exact Calls.call_len_list pl.isList (by simp only[ZK];lia) ⟨.int xs.length,H,I.tok _,⟨_,by simp only[ZK];rw[Yk]⟩,q⟩
  ·subst e';obtain⟨Ye,r',pl,hz⟩:=I.tuple hx;have Yk:=r'.length;exact len_tuple pl (by simp only[ZK];lia) ⟨.int xs.length,H,I.tok _,⟨_,by simp only[ZK];rw[Yk]⟩,q⟩
 | _=>exact(show False from e).elim
end
structure ObjM(h:Heap)(x dx C:Addr)(mA:Str->Option Value):Prop where
 obj:h.get? x=some (PySem.W.instObj C dx)
 ns:h.Ns1 dx mA
 ne:dx≠x
theorem Ry{dx:Addr}{mA:Str->Option Value}(n:h.Ns1 dx mA):∃od,h.get? dx=some od/\∀name,PySem.W.lookIn name od=some (mA name):=by
 obtain⟨o,es,ep,ho,hd,hk,_,hm⟩:=n;refine⟨o,ho,fun name=>?_⟩;have e:=hm name;unfold nsFind findBy at e;rw[<- Array.find?_toList]at e;unfold PySem.W.lookIn;rw[hd];dsimp only;split
 ·rename_i y q;rw[q]at e;exact congrArg some e
 ·rename_i q;rw[q]at e
  have a:es.toList.any (·.refKey)=false:=by
   rw[List.any_eq_false];intro y hy;obtain⟨z,t,hkey⟩:=hk y (Array.mem_toList_iff.mp hy);simp[DictEntry.refKey,hkey]
  have a':¬es.toList.any (·.refKey)=true:=by rw[a];exact Zh
  rw[if_neg a'];exact congrArg some e
theorem ObjM.look{x dx:Addr}{mA:Str->Option Value}(I:ObjM h x dx C mA):∃od,PySem.W.InstAt h x (PySem.W.instObj C dx) C (some od)/\∀name,PySem.W.lookIn name od=some (mA name) :=
 let ⟨od,ho,hl⟩:=Ry I.ns
 ⟨od,⟨I.obj,rfl,rfl,ho⟩,hl⟩
section
variable {prog:Program}{w:World}{A:Around}{E:Value->Shared->Prop}{s:Shared}{K:W.Frag}{x dx C f:Addr}{mA:Str->Option Value}{name:Str}{v:Value}
theorem WF {expr:Bool} (X:K.In s.heap) (I:ObjM s.heap x dx C mA) (hg:PySem.W.plainGet K C name=true) (hh:PySem.W.hasDictIn K C=true)
 (ha:PySem.W.findIn K (.ref C) name=some none) (hv:mA name=some v) (hv':PySem.W.handedIn v=true) (h:Q v { s with toks:=s.toks+1 }) :
 wpAny (model prog w) A (getAttr (.ref x) name expr) Q E s:=by
 obtain⟨od,J,hl⟩:=I.look;exact PySem.W.get_value X J (PySem.W.plainGet_of hg).1 (PySem.W.findObj_own hh ha rfl (by rw[hl,hv])) hv' h
theorem WL {pl:Sem Bool} {Q:Value × List Value->Shared->Prop} (X:K.In s.heap) (I:ObjM s.heap x dx C mA) (hg:PySem.W.plainGet K C name=true)
 (hf:PySem.W.findIn K (.ref C) name=some (some (.ref f))) (ht:PySem.W.isFn K (.ref f)=true) (hv:mA name=none) (h:Q (.ref f,[.ref x]) s) :
 wpAny (model prog w) A (getMethod (.ref x) name pl) Q E s:=by
 obtain⟨od,J,hl⟩:=I.look;exact PySem.W.method_fn X J (PySem.W.plainGet_of hg).1 (PySem.W.plainGet_of hg).2 hf (beq_iff_eq.mp ht) (by show(PySem.W.lookIn name od).map (·.isSome)=some false;rw[hl,hv];rfl) h
theorem Te {ns:List Str} {Q:Unit->Shared->Prop} (X:K.In s.heap) (I:ObjM s.heap x dx C mA)
 (hs:PySem.W.findIn K (.ref C) "__setattr__" = some (some (.builtin "object.__setattr__"))) (hp:PySem.W.plainOver K C=true) (ht:PySem.W.takerIn K C name=some none) (hh:PySem.W.hasDictIn K C=true)
 (hw:PySem.Within mA ns) (hsz:ns.length<=sizeLine)
 (h:∀h',ObjM h' x dx C (fun y=>if y=name then some v else mA y)->Heap.SameBut dx s.heap h'->Q () { s with heap:=h',toks:=s.toks+2 }) :
 wpAny (model prog w) A (setAttr (.ref x) name v) Q E s:=by
 obtain⟨od,J,hl⟩:=I.look;refine PySem.W.set_plain X J hs (PySem.W.osa_open (s:={ s with toks:=s.toks+1 }) (r:=none) X J hp ht fun b=>?_);obtain⟨cd,hc,hd'⟩:=PySem.W.any_some hh;have hx:s.heap.get? x=some ⟨.ref C,some dx,.plain,#[]⟩:=I.obj;refine ZA (ZC (ZA (ZA (wpAny_loadPart hx (ZA (PySem.W.Looks.here (s:={ s with toks:=s.toks+1 }) (PySem.W.looks_clsIn X hc) ?_))))));rw[hd'];refine ZC (a:=some dx) (ZA (ZC (ZA ?_)));refine wpAny_nsSet1 (s:={ s with toks:=s.toks+1 }) I.ns fun h' hn2 hs2=>?_
 obtain⟨oD,esD,epD,hoD,hdD,hcD⟩:=hn2.count (PySem.Within.cons name v hw);refine ZA (wpAny_lookBehind hoD (by rw[hdD];exact pastItsLine_dict (Zn hcD (by rw[Zi];lia))) ?_);exact ZC (h _ ⟨(hs2.2 _ (Ne.symm I.ne)).trans I.obj,hn2,I.ne⟩ hs2)
theorem RZ {R:Result->Shared->Prop} {vs:List Value} {kw:List (Str × Value)} (X:K.In s.heap) (hm:PySem.W.makesIn K C=true)
 (hi:PySem.W.findIn K (.ref C) "__init__" = some (some (.ref f))) (hf:PySem.W.typeIn K (.ref f)=some (.type "function"))
 (h:codeAny (model prog w) (A.under (.builtin "type.__call__" ⟨.ref C::vs,kw⟩)) (.call (.ref f) ⟨.ref (s.heap.objs.size+1)::vs,kw⟩) (PySem.W.InitBack (s.heap.objs.size+1) R)
   { s with heap:=(s.heap.push PySem.W.emptyDict).push (PySem.W.instObj C s.heap.objs.size) }) :
 codeAny (model prog w) A (.call (.ref C) ⟨vs,kw⟩) R s:=by
 obtain⟨hh,g,d,t,os⟩:=s;exact PySem.W.make_core (PySem.W.makes_of X hm) (PySem.W.looks_findIn X hi) (fun self=>PySem.W.bind_fn X self hf) (.inl rfl) h
end
noncomputable def AZ(f:Str)(v:V):List (Str × V)->List (Str × V)
 | []=>[(f,v)]
 | (g,x)::r=>if g=f then (g,v)::r else (g,x)::AZ f v r
theorem Lp(f g:Str)(v:V):∀fs:List (Str × V),(AZ f v fs).lookup g=if g=f then some v else fs.lookup g
 | []=>by
  show List.lookup g [(f,v)]=_
  by_cases h:g=f
  ·have hb:(g == f)=true:=beq_iff_eq.mpr h;simp only[List.lookup,hb,if_pos h]
  ·have hb:(g == f)=false:=beq_eq_false_iff_ne.mpr h;simp only[List.lookup,hb,if_neg h]
 | (k,x)::r=>by
  have ih:=Lp f g v r;rw[show AZ f v ((k,x)::r)=(if k=f then (k,v)::r else (k,x)::AZ f v r) from rfl]
  by_cases hk:k=f
  ·rw[if_pos hk]
   by_cases h:g=k
   ·have hb:(g == k)=true:=beq_iff_eq.mpr h;simp only[List.lookup,hb,if_pos (h.trans hk)]
   ·have hb:(g == k)=false:=beq_eq_false_iff_ne.mpr h;simp only[List.lookup,hb,if_neg (fun e:g=f=>h (e.trans hk.symm))]
  ·rw[if_neg hk]
   by_cases h:g=k
   ·have hb:(g == k)=true:=beq_iff_eq.mpr h;simp only[List.lookup,hb,if_neg (fun e:g=f=>hk (h.symm.trans e))]
   ·have hb:(g == k)=false:=beq_eq_false_iff_ne.mpr h;simp only[List.lookup,hb];exact ih
theorem JB(f:Str)(v:V):∀fs:List (Str × V),f∈(AZ f v fs).map (·.1)/\∀g,g∈fs.map (·.1)->g∈(AZ f v fs).map (·.1)
 | []=>⟨by simp[AZ],fun g h=>by simp at h⟩
 | (k,x)::r=>by
  obtain⟨i1,i2⟩:=JB f v r;rw[show AZ f v ((k,x)::r)=(if k=f then (k,v)::r else (k,x)::AZ f v r) from rfl]
  by_cases hk:k=f
  ·rw[if_pos hk];subst hk;exact⟨by simp,fun g h=>by simpa using h⟩
  ·rw[if_neg hk];refine⟨?_,fun g h=>?_⟩
   ·rw[Za];exact Ze _ i1
   ·rw[Za]at h ⊢
    rcases ZH.mp h with e | e
    ·exact ZH.mpr (.inl e)
    ·exact Ze _ (i2 g e)
theorem ML(f:Str)(v:V):∀fs:List (Str × V),(AZ f v fs).length<=fs.length+1
 | []=>by simp[AZ]
 | (k,x)::r=>by
  have ih:=ML f v r;rw[show AZ f v ((k,x)::r)=(if k=f then (k,v)::r else (k,x)::AZ f v r) from rfl]
  by_cases hk:k=f
  ·rw[if_pos hk,Zi,Zi];lia
  ·rw[if_neg hk,Zi,Zi];lia
theorem RelO.some_of{o:Option Value}(r:RelO (some v) o):∃u,o=some u/\Yh v u:=by
 cases o with
 | none=>exact(show False from r).elim
 | some u=>exact⟨u,rfl,r⟩
theorem RelO.none_of{o:Option Value}(r:RelO none o):o=none:=by
 cases o with
 | none=>rfl
 | some u=>exact(show False from r).elim
theorem Td(r:Yh v u):PySem.W.handedIn u=true:=by
 cases v with
 | non=>cases (show u=Value.none from r);rfl
 | bl b=>cases (show u=Value.bool b from r);rfl
 | int i=>obtain⟨t,e⟩:=(show ∃t,u=Value.int i t from r);cases e;rfl
 | str x=>obtain⟨t,e⟩:=(show ∃t,u=Value.str x t from r);cases e;rfl
 | byt b=>obtain⟨t,e⟩:=(show ∃t,u=Value.bytes b t from r);cases e;rfl
 | flt b=>obtain⟨t,e⟩:=(show ∃t,u=Value.float b t from r);cases e;rfl
 | ref a=>cases (show u=Value.ref a from r);rfl
 | ty n=>cases (show u=Value.type n from r);rfl
section
variable {P:Program}{w:World}{H H':Hp}{h h':Heap}{a C dx:Addr}{fs fs':List (Str × V)}
theorem Gv(hok:HOk P w H h)(e:H a=some (.ins C dx fs)):∃mA,ObjM h a dx C mA/\(∀f,RelO (fs.lookup f) (mA f))/\PySem.Within mA (fs.map (·.1))/\fs.length<=1000/\H dx=some (.own a):=by
 obtain⟨d,z,ne,ob,mA,n,r,q⟩:=(show ObjOk P w H h a (.ins C dx fs) from hok a _ e);exact⟨mA,⟨ob,n,ne⟩,r,q,z,d⟩
end
structure Cls(K:W.Frag)(C:Addr):Prop where
 pg:PySem.W.plainGet K C Str.empty=true
 hd:PySem.W.hasDictIn K C=true
 po:PySem.W.plainOver K C=true
 sa:PySem.W.findIn K (.ref C) "__setattr__" = some (some (.builtin "object.__setattr__"))
theorem Cls.get(c:Cls K C)(f:Str):PySem.W.plainGet K C f=true:=c.pg
noncomputable def NoAttr(K:W.Frag)(C:Addr)(f:Str):Prop:=PySem.W.findIn K (.ref C) f=some none
theorem NoAttr.taker{f:Str}(n:NoAttr K C f):PySem.W.takerIn K C f=some none:=by
 unfold PySem.W.takerIn;rw[show PySem.W.findIn K (.ref C) f=some none from n];rfl
structure Meth(K:W.Frag)(C:Addr)(m:Str)(f:Addr):Prop where
 at_:PySem.W.findIn K (.ref C) m=some (some (.ref f))
 fn:PySem.W.isFn K (.ref f)=true
 kp:PySem.W.keepIn K (.ref f)=true
section
variable {X:Cx}{Ya:List (Addr × Obj)}{Z:St}{H:Hp}{s:Shared}{a C dx:Addr}{fs:List (Str × V)}{f:Str}{v:V}{A:Around}{E:Value->Shared->Prop}
theorem O4 {b:Bool} (I:Yg X Ya Z H s) (e:H a=some (.ins C dx fs)) (c:Cls X.K C) (n:NoAttr X.K C f) (l:fs.lookup f=some v)
 (h:∀u s',Yg X Ya Z H s'->Yh v u->Q u s'):wpAny (model X.prog X.w) A (getAttr (.ref a) f b) Q E s:=by
 obtain⟨mA,O,r,_,_,_⟩:=Gv I.hok e;obtain⟨u,hu,ru⟩:=RelO.some_of (v:=v) (o:=mA f) (by rw[<- l];exact r f);exact WF I.kIn O (c.get f) c.hd n hu (Td ru) (h u _ (I.tok _) ru)
theorem Nm {m:Str} {g:Addr} {pl:Sem Bool} {Q:Value × List Value->Shared->Prop} (I:Yg X Ya Z H s) (e:H a=some (.ins C dx fs)) (c:Cls X.K C) (k:Meth X.K C m g) (l:fs.lookup m=none)
 (h:Q (.ref g,[.ref a]) s):wpAny (model X.prog X.w) A (getMethod (.ref a) m pl) Q E s:=by
 obtain⟨mA,O,r,_,_,_⟩:=Gv I.hok e;have hn:mA m=none:=RelO.none_of (by rw[<- l];exact r m);exact WL I.kIn O (c.get m) k.at_ k.fn hn h
theorem Ue {y:V} {Q:Unit->Shared->Prop} (I:Yg X Ya Z H s) (e:H a=some (.ins C dx fs)) (c:Cls X.K C) (n:NoAttr X.K C f) (hl:fs.length < 1000) (ry:Yh y u)
 (h:∀s',Yg X Ya Z (upd H a (.ins C dx (AZ f y fs))) s'->Q () s'):wpAny (model X.prog X.w) A (setAttr (.ref a) f u) Q E s:=by
 obtain⟨mA,O,r,wi,_,ho⟩:=Gv I.hok e;have hz:(fs.map (·.1)).length<=sizeLine:=by rw[ZB,sizeLine_eq];lia
 refine Te I.kIn O c.sa c.po n.taker c.hd wi hz fun h' O' sb=>h _ ?_
 have hd:∃o,h'.get? dx=some o:=let ⟨o,_,_,e',_⟩:=O'.ns;⟨o,e'⟩;refine I.write (x:=a) (e:=dx) (by rw[e];exact True.intro) (.inr ho) (fun b q hb z=>(sb.2 b hb).trans z) hd ?_;refine⟨by rw[AJ O.ne];exact ho,?_,O.ne,O'.obj,_,O'.ns,fun g=>?_,fun g hg=>?_⟩
 ·have:=ML f y fs;lia
 ·show RelO ((AZ f y fs).lookup g) (if g=f then some u else mA g);rw[Lp]
  by_cases q:g=f
  ·rw[if_pos q,if_pos q];exact ry
  ·rw[if_neg q,if_neg q];exact r g
 ·by_cases q:g=f
  ·rw[q];exact(JB f y fs).1
  ·refine(JB f y fs).2 g (wi g fun z=>hg ?_)
   show(if g=f then some u else mA g)=none
   rw[if_neg q];exact z
theorem Yg.made(I:Yg X Ya Z H s):Yg X Ya Z (upd (upd H s.heap.objs.size (.own (s.heap.objs.size+1))) (s.heap.objs.size+1) (.ins C s.heap.objs.size []))
 { s with heap:=(s.heap.push PySem.W.emptyDict).push (PySem.W.instObj C s.heap.objs.size) }:=by
 have e1:(s.heap.push PySem.W.emptyDict).get? s.heap.objs.size=some PySem.W.emptyDict:=ZS s.heap rfl
 have e2:((s.heap.push PySem.W.emptyDict).push (PySem.W.instObj C s.heap.objs.size)).get? (s.heap.objs.size+1)=some (PySem.W.instObj C s.heap.objs.size):=by
  have:=ZS (s.heap.push PySem.W.emptyDict) (o:=PySem.W.instObj C s.heap.objs.size) rfl
  rwa [Z4]at this
 have e3:(s.heap.push PySem.W.emptyDict).Ns s.heap.objs.size (fun _=>none):=⟨PySem.W.emptyDict,#[],_,e1,rfl,(fun e he=>absurd he (by simp)),fun _=>rfl⟩;have I1:=I.laid (a:=s.heap.objs.size) (o:=.own (s.heap.objs.size+1)) (h':=s.heap.push PySem.W.emptyDict) (t':=s.toks) (fun b u q=>ZI _ q) (ZE _) ⟨_,e1⟩;refine I1.laid (a:=s.heap.objs.size+1) (o:=.ins C s.heap.objs.size []) (t':=s.toks) (fun b u q=>ZI _ q) (ZBa (Z4 _ _)) ?_;have ne:s.heap.objs.size≠s.heap.objs.size+1:=ZT (ZBJ _);refine⟨by rw[AJ ne,AD],ZV _,ne,e2,fun _=>none,(Heap.Ns1.of_empty e3).at fun o q=>ZI _ q,fun _=>True.intro,fun y hy=>absurd rfl hy⟩
theorem Xl {prog:Program} {env:Env} {e:Expr} {f:Str} (hb:attributeBase e f env (eval e env)=eval e env)
 (h:wpAny (model prog w) A (eval e env) (fun o s₁=>wpAny (model prog w) A (getAttr o f true) Q E s₁) E s):wpAny (model prog w) A (eval (.Attribute e f pos) env) Q E s :=
 Attribute_any_ h (by rw[arm_eval_Attribute,hb])
end
section
variable {X:Cx}{Ya:List (Addr × Obj)}{Z:St}{H:Hp}{s:Shared}{A:Around}{E:Value->Shared->Prop}{Q:Value->Shared->Prop}{c:Value}{b:Bool}
inductive TyOf (K:W.Frag) (H:Hp):V->Value->Prop where
 | non:TyOf K H .non (.type "NoneType")
 | bl (x:Bool):TyOf K H (.bl x) (.type "bool")
 | int (i:Int):TyOf K H (.int i) (.type "int")
 | str (x:Str):TyOf K H (.str x) (.type "str")
 | flt (x:UInt64):TyOf K H (.flt x) (.type "float")
 | lst {a:Addr} {xs:List V} (e:H a=some (.lst xs)):TyOf K H (.ref a) (.type "list")
 | frz {a:Addr} {o:Obj} {xs:List V} (e:H a=some (.frz o (.lst xs))):TyOf K H (.ref a) (.type "list")
 | tup {a:Addr} {xs:List V} (e:H a=some (.tup xs)):TyOf K H (.ref a) (.type "tuple")
 | dK {a:Addr} {Yd:List (Key × V)} (e:H a=some (.dK Yd)):TyOf K H (.ref a) (.type "dict")
 | dT {a:Addr} {Yd:List (List Key × V)} (e:H a=some (.dT Yd)):TyOf K H (.ref a) (.type "dict")
 | ins {a C dx:Addr} {fs:List (Str × V)} (e:H a=some (.ins C dx fs)) (cl:Cls K C) (ha:PySem.W.findIn K (.ref C) "__class__" = some (some (.builtin "object.__class__")))
  (hn:PySem.W.specialIn K (.builtin "object.__class__") "__get__" = some (some (.builtin "getset_descriptor.__get__"))) (htk:PySem.W.takesIn K (.builtin "object.__class__")=some true)
  (hm:PySem.W.mroIn K C (.type "object")=some true):TyOf K H (.ref a) (.ref C)
theorem XG{x:V}{t:Value}(I:Yg X Ya Z H s)(rx:Yh x u)(ty:TyOf X.K H x t)(e:PySem.W.kitOne X.K t c=some b)(h:∀tk,Q (.bool b) { s with toks:=tk }) :
 wpAny (model X.prog X.w) A (call (.builtin "isinstance") [u,c]) Q E s:=by
 cases ty with
 | non=>cases (show u=Value.none from rx);exact PySem.W.kia_one PySem.W.kitx_none I.kIn True.intro e (fun z=>nomatch z) h
 | bl y=>cases (show u=Value.bool y from rx);exact PySem.W.kia_one PySem.W.kitx_bool I.kIn True.intro e (fun z=>nomatch z) h
 | int i=>obtain⟨t,q⟩:=(show ∃t,u=Value.int i t from rx);cases q;exact PySem.W.kia_one PySem.W.kitx_int I.kIn True.intro e (fun z=>nomatch z) h
 | str y=>obtain⟨t,q⟩:=(show ∃t,u=Value.str y t from rx);cases q;exact PySem.W.kia_one PySem.W.kitx_str I.kIn True.intro e (fun z=>nomatch z) h
 | flt y=>obtain⟨t,q⟩:=(show ∃t,u=Value.float y t from rx);cases q;exact PySem.W.kia_one PySem.W.kitx_float I.kIn True.intro e (fun z=>nomatch z) h
 | @lst a xs ea =>
  cases (show u=Value.ref a from rx);obtain⟨_,_,n,_,h1⟩:=(show ObjOk X.prog X.w H s.heap a (.lst xs) from I.hok a _ ea);exact PySem.W.kia_one PySem.W.kitx_list I.kIn ⟨_,h1,rfl⟩ e (fun z=>nomatch z) h
 | @frz a ob xs ea =>
  cases (show u=Value.ref a from rx);obtain⟨_,_,_,n,_,h1⟩:=(show ObjOk X.prog X.w H s.heap a (.frz ob (.lst xs)) from I.hok a _ ea);exact PySem.W.kia_one PySem.W.kitx_list I.kIn ⟨_,h1,rfl⟩ e (fun z=>nomatch z) h
 | @tup a xs ea =>
  cases (show u=Value.ref a from rx);obtain⟨_,_,_,p⟩:=(show ObjOk X.prog X.w H s.heap a (.tup xs) from I.hok a _ ea);obtain⟨o,h1,h2,_⟩:=p;exact PySem.W.kia_one PySem.W.kitx_tuple I.kIn ⟨o,h1,h2⟩ e (fun z=>nomatch z) h
 | @dK a Yd ea =>
  cases (show u=Value.ref a from rx);obtain⟨_,_,vs,_,p⟩:=(show ObjOk X.prog X.w H s.heap a (.dK Yd) from I.hok a _ ea);obtain⟨o,es,ep,h1,h2,_⟩:=p;exact PySem.W.kia_one PySem.W.kitx_dict I.kIn ⟨o,h1,h2.1⟩ e (fun z=>nomatch z) h
 | @dT a Yd ea =>
  cases (show u=Value.ref a from rx);obtain⟨_,_,xs,_,o,es,ep,h1,h2,_⟩:=(show ObjOk X.prog X.w H s.heap a (.dT Yd) from I.hok a _ ea);exact PySem.W.kia_one PySem.W.kitx_dict I.kIn ⟨o,h1,h2.1⟩ e (fun z=>nomatch z) h
 | @ins a C dx fs ea cl ha hn htk hm =>
  cases (show u=Value.ref a from rx);obtain⟨mA,O,_⟩:=Gv I.hok ea;obtain⟨od,J,_⟩:=O.look;exact PySem.W.kia_one (PySem.W.kitx_own (cl.get _) cl.hd ha hn htk hm) I.kIn J e (fun z=>nomatch z) h
end
structure Room(k:Nat)(A:Around):Prop where
 hd:A.handled=none
 dp:A.depth+3 * k+5 < recursionLimit
 un:A.units+16 * k+200 < cLine
 gd:A.guards=some []
theorem Room.mono{j:Nat}(r:Room k A)(h:j<=k):Room j A:=⟨r.hd,by have:=r.dp;lia,by have:=r.un;lia,r.gd⟩
theorem Room.deeper(r:Room (k+1) A)(env:Env):Room k (A.deeper env) :=
 ⟨r.hd,by have:=r.dp;show A.depth+1+3 * k+5 < _;lia,by have:=r.un;show A.units+3+16 * k+200 < _;lia,r.gd⟩
theorem Room.in1(r:Room (k+1) A):Room k A.in1 :=
 ⟨r.hd,by have:=r.dp;show A.depth+3 * k+5 < _;lia,by have:=r.un;show A.units+1+16 * k+200 < _;lia,r.gd⟩
theorem Rh{kw:List (Str × Value)}:(A.under (.builtin "type.__call__" ⟨.ref C::us,kw⟩)).depth=A.depth+1:=by
 first | rfl | simp[Around.under,Code.weight,Code.isCreation,Code.isGuard,Code.isCaller,Code.frames,Code.isFrame,guardIds]
theorem Uf{kw:List (Str × Value)}:(A.under (.builtin "type.__call__" ⟨.ref C::us,kw⟩)).units=A.units+1:=by
 first | rfl | simp[Around.under,Code.cUnits,Code.frames,Code.isFrame]
theorem Room.make(r:Room (k+1) A)(C:Addr)(us:List Value)(kw:List (Str × Value)):Room k (A.under (.builtin "type.__call__" ⟨.ref C::us,kw⟩)) :=
 ⟨r.hd,by have:=r.dp;rw[Rh];lia,by have:=r.un;rw[Uf];lia,by first | exact r.gd | (simpa [Around.under,Code.guards,Code.isGuard,guardIds,pushGuards] using r.gd)⟩
theorem Room.depth(r:Room k A):A.depth < recursionLimit:=by have:=r.dp;lia
noncomputable def Fm:TA:=fun _ H Q=>Q [] H
noncomputable def J8(ta:TE)(tr:TA):TA:=fun Z H Q=>ta Z H fun x H1=>tr Z H1 fun xs H2=>Q (x::xs) H2
section
variable {X:Cx}{e:Expr}{es:List Expr}{te:TE}{t:TA}{pos:Pos}
theorem AB:PA X [] Fm:=fun _ _ _ _ H Q I h=>Calls.spliced_nil ⟨[],H,I,.nil,h⟩
theorem AA(ha:PE X e te)(hr:PA X es t)(hs:starEach (e::es) X.env=(false,eval e X.env)::starEach es X.env:=by rfl):PA X (e::es) (J8 te t):=by
 intro pos Ya s Z H Q I h;rw[hs];show wpAny _ _ (spliced ((false,eval e X.env)::backTo pos (starEach es X.env))) _ _ s;refine Calls.spliced_cons (Yn (ha Ya s Z H _ I h) fun u s1 ⟨x,H1,I1,r1,q1⟩=>?_);exact Yn (hr pos Ya s1 Z H1 _ I1 q1) fun us s2 ⟨xs,H2,I2,r2,q2⟩=>⟨x::xs,H2,I2,.cons r1 r2,q2⟩
noncomputable def Mo(t:TA):TE:=fun Z H Q=>t Z H fun xs H1=>xs.length<=sizeLine/\∀p,H1 p=none->Q (.ref p) (upd H1 p (.tup xs))
noncomputable def MY(t:TA):TE:=fun Z H Q=>t Z H fun xs H1=>xs.length<=sizeLine/\∀p,H1 p=none->Q (.ref p) (upd H1 p (.lst xs))
theorem BD{x1}(h:PA X es t):PE X (.Tuple es x1 pos) (Mo t):=by
 intro Ya s Z H Q I hq;refine wpAny_Tuple_spliced (Yn (h pos Ya s Z H _ I hq) fun us s1 ⟨xs,H1,I1,r,z,q⟩=>⟨by rw[<- r.length];exact z,?_⟩);have hf:H1 s1.heap.objs.size=none:=I1.hok.fresh (ZE _);refine⟨.ref s1.heap.objs.size,upd H1 s1.heap.objs.size (.tup xs),I1.laid (t':=s1.toks) (fun b u e=>ZI _ e) (ZE _) ?_,rfl,q _ hf⟩;exact⟨z,us,r,⟨_,ZS _ rfl,rfl,⟨_,rfl⟩,rfl⟩⟩
theorem BK(h:PA X es t):PE X (.List es pos) (MY t):=by
 intro Ya s Z H Q I hq;refine wpAny_List_spliced (Yn (h pos Ya s Z H _ I hq) fun us s1 ⟨xs,H1,I1,r,z,q⟩=>⟨by rw[<- r.length];exact z,?_⟩);have hf:H1 s1.heap.objs.size=none:=I1.hok.fresh (ZE _);refine⟨.ref s1.heap.objs.size,upd H1 s1.heap.objs.size (.lst xs),I1.laid (t':=s1.toks) (fun b u e=>ZI _ e) (ZE _) ?_,rfl,q _ hf⟩;exact⟨z,us,0,r,ZS _ rfl⟩
end
noncomputable abbrev Sp:=List V->Hp->VK->XK->Prop
noncomputable abbrev CXT:=List Env->Hp->Shared->XK->Value->Shared->Prop
structure Env0(P:Program)(w:World)(K:W.Frag)(mg:Str->Option Value)(base:Heap)(A:Around)(outer:List Env)(s:Shared)(H:Hp):Prop where
 frames:A.frames=some outer
 mod:Mod K mg base
 bs:∀b o,base.get? b=some o->s.heap.get? b=some o/\H b=none
 bsz:base.objs.size<=s.heap.objs.size
 funs:s.heap.FunFrames base outer
 frf:∀b∈frs outer,H b=none
 hok:HOk P w H s.heap
 bare:AllBare s.gens
noncomputable def CE(outer:List Env)(P:Program)(w:World)(H:Hp)(s:Shared)(Q:VK)(u:Value)(s':Shared):Prop :=
 ∃v H',s'.os=s.os/\AllBare s'.gens/\Un (frs outer) [] H H' s.heap s'.heap/\HOk P w H' s'.heap/\Yh v u/\Q v H'
noncomputable def CR(CX:CXT)(outer:List Env)(P:Program)(w:World)(H:Hp)(s:Shared)(Q:VK)(E:XK)(r:Result)(s':Shared):Prop :=
 match r with
 | .ok (.ret u)=>CE outer P w H s Q u s'
 | .ok _=>False
 | .error e=>CX outer H s E e s'
structure FnOk(P:Program)(w:World)(K:W.Frag)(mg:Str->Option Value)(base:Heap)(CX:CXT)(k:Nat)(f:Addr)(fd:FuncData)(ps:List Str)(sp:Sp):Prop where
 len:∀vs H Q E,sp vs H Q E->vs.length=ps.length
 run:∀(A:Around) (outer:List Env) (s:Shared) (H:Hp) (args:Args) (us:List Value) (vs:List V) (Q:VK) (E:XK),Room k A->Env0 P w K mg base A outer s H->BindsTo s fd args (ps.zip us)->Yi vs us->sp vs H Q E ->
  codeAny (model P w) A (.call (.ref f) args) (CR CX outer P w H s Q E) s
theorem FnOk.imp {CX:CXT} {f:Addr} {fd:FuncData} {ps:List Str} {sp sp':Sp} (F:FnOk P w K mg base CX k f fd ps sp)
 (h:∀vs H Q E,sp' vs H Q E->sp vs H Q E):FnOk P w K mg base CX k f fd ps sp' :=
 ⟨fun vs H Q E q=>F.len vs H Q E (h _ _ _ _ q),fun A outer s H args us vs Q E hr he hb hv hs=>F.run A outer s H args us vs Q E hr he hb hv (h _ _ _ _ hs)⟩
theorem Env0.make{outer:List Env}(e:Env0 P w K mg base A outer s H)(C:Addr)(us:List Value)(kw:List (Str × Value)) :
 Env0 P w K mg base (A.under (.builtin "type.__call__" ⟨.ref C::us,kw⟩)) outer s H:=⟨by first | exact e.frames | (simpa [Around.under,Code.envs,Code.isFrame,pushEnvs] using e.frames),e.mod,e.bs,e.bsz,e.funs,e.frf,e.hok,e.bare⟩
theorem Env0.in1{outer:List Env}(e:Env0 P w K mg base A outer s H) :
 Env0 P w K mg base A.in1 outer s H:=⟨e.frames,e.mod,e.bs,e.bsz,e.funs,e.frf,e.hok,e.bare⟩
section
variable {X:Cx}{Ya:List (Addr × Obj)}{Z:St}{H:Hp}{s s':Shared}
theorem Yg.env0(I:Yg X Ya Z H s):Env0 X.prog X.w X.K X.mg X.base X.A X.stack s H :=
 ⟨I.ok.frames,I.ok.mod,I.bs,Zn I.ok.bsz I.sz,I.stack,I.stkFree,I.hok,I.bare⟩
theorem Yg.after{Q:VK}(I:Yg X Ya Z H s)(h:CE X.stack X.prog X.w H s Q u s'):EP X Ya Z Q u s':=by
 obtain⟨v,H',os,bare,un,hok,r,q⟩:=h;obtain⟨hh,g,d,t,os'⟩:=s';obtain rfl:os'=s.os:=os;exact⟨v,H',I.call (h':=hh) (g':=g) (d':=d) (t':=t) (ch:=[]) un hok bare (fun b z=>absurd z (by simp)),r,q⟩
end
noncomputable def Ml(sp:Sp)(dvs:List V)(E:XK)(t:TA):TE:=fun Z H Q=>t Z H fun vs H1=>sp (vs++dvs) H1 Q E
noncomputable def IB(C:Addr)(m:Str)(sp:Sp)(dvs:List V)(E:XK)(ta:TE)(t:TA):TE:=fun Z H Q=>ta Z H fun x H1=>∃a dx fs,x=.ref a/\H1 a=some (.ins C dx fs)/\fs.lookup m=none /\
 t Z H1 fun vs H2=>sp (x::(vs++dvs)) H2 Q E
noncomputable def VW(C:Addr)(sp:Sp)(dvs:List V)(E:XK)(t:TA):TE:=fun Z H Q=>t Z H fun vs H1=>∀x dx,H1 x=none->H1 dx=none->dx≠x ->
 sp (.ref x::(vs++dvs)) (upd (upd H1 dx (.own x)) x (.ins C dx [])) (fun v H2=>v=.non/\Q (.ref x) H2) E
noncomputable def Binds(K:W.Frag)(fd:FuncData)(ps:List Str)(ds:List Value):Prop :=
 ∀(s:Shared) (us:List Value),K.In s.heap->(us++ds).length=ps.length->BindsTo s fd ⟨us,[]⟩ (ps.zip (us++ds))
theorem Binds.all{fd:FuncData}{ps:List Str}(h:∀us:List Value,us.length=ps.length->bindArgs fd ⟨us,[]⟩=pure (ps.zip us)):Binds K fd ps []:=fun s us _ hl=>by
 rw[Zw]at hl ⊢;exact .of_eq (h us hl)
noncomputable def Db(CX:CXT)(X:Cx)(E:XK):Prop:=∀(Ya:List (Addr × Obj)) (Z:St) (H:Hp) (s:Shared) (e:Value) (s':Shared),Yg X Ya Z H s->CX X.stack H s E e s'->X.xe e s'
section
variable {X:Cx}{CX:CXT}{k:Nat}{f C:Addr}{fd:FuncData}{ps:List Str}{sp:Sp}{dvs:List V}{ds:List Value}{E:XK}{x m:Str}{p pos apos:Pos}{e o:Expr}{es:List Expr}{ta:TE}{t:TA}
theorem GP {Q:VK} {vs:List V} (F:FnOk X.prog X.w X.K X.mg X.base CX k f fd ps sp) (hr:Room k X.A) (hb:Binds X.K fd ps ds) (hd:Yi dvs ds) (hx:Db CX X E)
 (I:Yg X Ya Z H s) (r:Yi vs us) (h:sp (vs++dvs) H Q E):wpAny (model X.prog X.w) X.A (call (.ref f) us) (EP X Ya Z Q) X.xe s:=by
 have r2:Yi (vs++dvs) (us++ds):=r.append hd;have hl:(us++ds).length=ps.length:=by rw[<- r2.length];exact F.len _ _ _ _ h
 refine wpAny_call (ZBK (F.run X.A X.stack s H ⟨us,[]⟩ (us++ds) (vs++dvs) Q E hr I.env0 (hb s us I.kIn hl) r2 h) fun r s' hq=>?_);cases r with
 | error e=>exact hx Ya Z H s e s' I hq
 | ok fl =>
  cases fl with
  | ret u=>exact I.after hq
  | next=>exact False.elim hq
  | brk=>exact False.elim hq
  | cont=>exact False.elim hq
theorem AI (F:FnOk X.prog X.w X.K X.mg X.base CX k f fd ps sp) (hr:Room k X.A) (hg:Gl X x) (hm:X.mg x=some (.ref f)) (hk:PySem.W.keepIn X.K (.ref f)=true) (hb:Binds X.K fd ps ds) (hd:Yi dvs ds) (hx:Db CX X E)
 (ha:PA X (e::es) t) (hdb:(x == ("__debug__" : Str))=false:=by decide) (he:starEach (e::es) X.env=(false,eval e X.env)::starEach es X.env:=by rfl) (hpl:(backTo pos (starEach es X.env)).any (·.1)=false:=by rfl) :
 PE X (.Call (.Name x p) (e::es) [] pos) (Ml sp dvs E t):=by
 intro Ya s Z H Q I h;refine wpAny_Call_Name_kw (GC I hg hm ?_ hdb);refine PySem.W.callWith_K (h₀:=X.base) I.ok.mod.kin hk (Yn (ha pos Ya s Z H _ I h) fun us s1 ⟨vs,H1,I1,r,q⟩=>⟨I1.kIn,?_⟩) he hpl;exact GP F hr hb hd hx I1 r q
theorem Ay {pl:Sem Bool} (he:PE X o ta) (c:Cls X.K C) (hm:Meth X.K C m f) (F:FnOk X.prog X.w X.K X.mg X.base CX k f fd ps sp) (hr:Room k X.A) (hb:Binds X.K fd ps ds) (hd:Yi dvs ds) (hx:Db CX X E) (ha:PA X (e::es) t)
 (hst:starEach (e::es) X.env=(false,eval e X.env)::starEach es X.env:=by rfl) (hpl:(backTo pos (starEach es X.env)).any (·.1)=false:=by rfl)
 (ht:eval (.Call (.Attribute o m apos) (e::es) [] pos) X.env=(do
   let ov <- eval o X.env
   standAt apos.atName
   let (f,first) <- holding [ov] (getMethod ov m pl)
   callWith pos f first (backTo pos (starEach (e::es) X.env)) (backToKw pos (keywordEach [] X.env))):=by rfl) :
 PE X (.Call (.Attribute o m apos) (e::es) [] pos) (IB C m sp dvs E ta t):=by
 intro Ya s Z H Q I h;refine PySem.W.methodCall_KW (pl:=pl) (Yn (he Ya s Z H _ I h) fun u s1 ⟨x,H1,I1,rx,a,dx,fs,ex,ea,l,q⟩=>?_) ht;subst ex;obtain rfl:u=Value.ref a:=rx;refine Nm I1 ea c hm l ?_;refine PySem.W.callWith_K (first:=[.ref a]) (h₀:=X.base) I.ok.mod.kin hm.kp (Yn (ha pos Ya s1 Z H1 _ I1 q) fun us s2 ⟨vs,H2,I2,r,q2⟩=>⟨I2.kIn,?_⟩) hst hpl;exact GP (us:=.ref a::us) (vs:=.ref a::vs) F hr hb hd hx I2 (.cons rfl r) q2
theorem NU {pl:Sem Bool} (he:PE X o ta) (c:Cls X.K C) (hm:Meth X.K C m f) (F:FnOk X.prog X.w X.K X.mg X.base CX k f fd ps sp) (hr:Room k X.A) (hb:Binds X.K fd ps ds) (hd:Yi dvs ds) (hx:Db CX X E)
 (ht:eval (.Call (.Attribute o m apos) [] [] pos) X.env=(do
   let ov <- eval o X.env
   standAt apos.atName
   let (f,first) <- holding [ov] (getMethod ov m pl)
   callWith pos f first (backTo pos (starEach [] X.env)) (backToKw pos (keywordEach [] X.env))):=by rfl) :
 PE X (.Call (.Attribute o m apos) [] [] pos) (IB C m sp dvs E ta Fm):=by
 intro Ya s Z H Q I h;refine PySem.W.methodCall_KW (pl:=pl) (Yn (he Ya s Z H _ I h) fun u s1 ⟨x,H1,I1,rx,a,dx,fs,ex,ea,l,q⟩=>?_) ht;subst ex;obtain rfl:u=Value.ref a:=rx;refine Nm I1 ea c hm l ?_;exact PySem.W.callWith_K0 (first:=[.ref a]) I1.kIn hm.kp (GP (us:=[.ref a]) (vs:=[.ref a]) F hr hb hd hx I1 (.cons rfl .nil) q)
structure Mk(K:W.Frag)(C f:Addr):Prop where
 makes:PySem.W.makesIn K C=true
 init:PySem.W.findIn K (.ref C) "__init__" = some (some (.ref f))
 fn:PySem.W.isFn K (.ref f)=true
 kp:PySem.W.keepIn K (.ref C)=true
theorem Wt {Q:VK} {vs:List V} (M:Mk X.K C f) (F:FnOk X.prog X.w X.K X.mg X.base CX k f fd ps sp) (hr:Room (k+1) X.A) (hb:Binds X.K fd ps ds) (hd:Yi dvs ds)
 (hx:Db CX X E) (I:Yg X Ya Z H s) (r:Yi vs us)
 (h:∀x dx,H x=none->H dx=none->dx≠x->sp (.ref x::(vs++dvs)) (upd (upd H dx (.own x)) x (.ins C dx [])) (fun v H2=>v=.non/\Q (.ref x) H2) E) :
 wpAny (model X.prog X.w) X.A (call (.ref C) us) (EP X Ya Z Q) X.xe s:=by
 have hq:=h (s.heap.objs.size+1) s.heap.objs.size (I.hok.fresh (ZBb _)) (I.hok.fresh (ZE _)) (ZT (ZBJ _));have I2:=Yg.made (C:=C) I;have r2:Yi (V.ref (s.heap.objs.size+1)::(vs++dvs)) (Value.ref (s.heap.objs.size+1)::(us++ds)):=.cons rfl (r.append hd)
 have hl:(Value.ref (s.heap.objs.size+1)::us++ds).length=ps.length:=by
  have e:=r2.length;rw[F.len _ _ _ _ hq]at e;exact e.symm
 refine wpAny_call (RZ (f:=f) I.kIn M.makes M.init (beq_iff_eq.mp M.fn) (ZBK (F.run _ X.stack _ _ ⟨Value.ref (s.heap.objs.size+1)::us,[]⟩ (Value.ref (s.heap.objs.size+1)::(us++ds)) _ _ E (hr.make C us [])
  (I2.env0.make C us []) (hb _ (Value.ref (s.heap.objs.size+1)::us) I2.kIn hl) r2 hq) fun r s' hq'=>?_))
 cases r with
 | error e=>exact hx Ya Z _ _ e s' I2 hq'
 | ok fl =>
  cases fl with
  | ret u =>
   obtain⟨v,H',I3,rv,ev,q3⟩:=I2.after hq';subst ev;exact⟨rv,⟨V.ref (s.heap.objs.size+1),H',I3,rfl,q3⟩⟩
  | next=>exact False.elim hq'
  | brk=>exact False.elim hq'
  | cont=>exact False.elim hq'
theorem LC (M:Mk X.K C f) (F:FnOk X.prog X.w X.K X.mg X.base CX k f fd ps sp) (hr:Room (k+1) X.A) (hg:Gl X x) (hm:X.mg x=some (.ref C)) (hb:Binds X.K fd ps ds) (hd:Yi dvs ds) (hx:Db CX X E)
 (ha:PA X (e::es) t) (hdb:(x == ("__debug__" : Str))=false:=by decide) (he:starEach (e::es) X.env=(false,eval e X.env)::starEach es X.env:=by rfl) (hpl:(backTo pos (starEach es X.env)).any (·.1)=false:=by rfl) :
 PE X (.Call (.Name x p) (e::es) [] pos) (VW C sp dvs E t):=by
 intro Ya s Z H Q I h;refine wpAny_Call_Name_kw (GC I hg hm ?_ hdb);refine PySem.W.callWith_K (h₀:=X.base) I.ok.mod.kin M.kp (Yn (ha pos Ya s Z H _ I h) fun us s1 ⟨vs,H1,I1,r,q⟩=>⟨I1.kIn,?_⟩) he hpl;exact Wt M F hr hb hd hx I1 r q
end
structure FnScope(N P:List Str)(sc:Scope):Prop where
 kind:sc.kind=.function
 co:sc.isCoroutine=false
 gen:sc.isGenerator=false
 nd:N.Nodup
 pre:N.take P.length=P
 par:∀x∈P,sc.names.lookup x=some .local\/sc.names.lookup x=some .cell
 nofree:∀y∈sc.names,y.2≠.free
theorem OB{kindOf:Str->Option NameKind}:∀{binds:List (Str × Value)} {m:Str->Option Value},(∀v,(x,v)∉binds)->bindL kindOf binds m x=m x
 | [],_,_=>rfl
 | (n,v)::r,m,h=>by
  unfold bindL;rw[OB fun w hw=>h w (Ze _ hw)];split
  ·have:x≠n:=by rintro rfl;exact h v Zo
   simp[this]
  ·rfl
theorem LB{kindOf:Str->Option NameKind}:∀{binds:List (Str × Value)} {m:Str->Option Value},(∀v,(x,v)∉binds)->bindC kindOf binds m x=m x
 | [],_,_=>rfl
 | (n,v)::r,m,h=>by
  unfold bindC;rw[LB fun w hw=>h w (Ze _ hw)];split
  ·rfl
  ·have:x≠n:=by rintro rfl;exact h v Zo
   simp[this]
theorem Kk{kindOf:Str->Option NameKind}{v:Value}:∀{P:List Str} {vs:List Value} {i:Nat} {m:Str->Option Value},P.Nodup->P[i]? = some x->vs[i]? = some v->kindOf x=some .local ->
 bindL kindOf (P.zip vs) m x=some v
 | [],_,_,_,_,h,_,_=>by simp at h
 | _::_,[],_,_,_,_,h,_=>by simp at h
 | p::P,w::vs,0,m,nd,h1,h2,hk=>by
  simp at h1 h2;subst h1;subst h2;show bindL kindOf ((p,w)::P.zip vs) m p=_;unfold bindL;rw[OB fun v hv=>(ZBc.mp nd).1 (List.of_mem_zip hv).1,if_pos hk];simp
 | p::P,w::vs,i+1,m,nd,h1,h2,hk=>by
  show bindL kindOf ((p,w)::P.zip vs) m x=_;unfold bindL;exact Kk (i:=i) (ZBc.mp nd).2 (by simpa using h1) (by simpa using h2) hk
theorem Ny{kindOf:Str->Option NameKind}{v:Value}:∀{P:List Str} {vs:List Value} {i:Nat} {m:Str->Option Value},P.Nodup->P[i]? = some x->vs[i]? = some v->kindOf x≠some .local ->
 bindC kindOf (P.zip vs) m x=some v
 | [],_,_,_,_,h,_,_=>by simp at h
 | _::_,[],_,_,_,_,h,_=>by simp at h
 | p::P,w::vs,0,m,nd,h1,h2,hk=>by
  simp at h1 h2;subst h1;subst h2;show bindC kindOf ((p,w)::P.zip vs) m p=_;unfold bindC;rw[LB fun v hv=>(ZBc.mp nd).1 (List.of_mem_zip hv).1,if_neg hk];simp
 | p::P,w::vs,i+1,m,nd,h1,h2,hk=>by
  show bindC kindOf ((p,w)::P.zip vs) m x=_;unfold bindC;exact Ny (i:=i) (ZBc.mp nd).2 (by simpa using h1) (by simpa using h2) hk
noncomputable def C1(N:List Str)(vs:List V):St:=vs.map some++List.replicate (N.length - vs.length) none
noncomputable def Dm(CX:CXT)(P:Program)(w:World)(K:W.Frag)(mg:Str->Option Value)(base:Heap)(N:List Str)(qual:Str)(scope:Scope)(f:Addr)(cd:Value)(A:Around)(outer:List Env)(s:Shared)(H:Hp)(E:XK):Cx where
 prog:=P
 w:=w
 K:=K
 mg:=mg
 base:=base
 A:=A.deeper (envOfC qual scope s.heap.objs.size f cd)
 N:=N
 s₀:=s
 H₀:=H
 env:=envOfC qual scope s.heap.objs.size f cd
 outer:=outer
 stack:=envOfC qual scope s.heap.objs.size f cd::outer
 ex:=[]
 calm:=true
 fn:=fun _=>true
 pn:=[]
 xe:=fun e s'=>wpAny (model P w) (A.deeper (envOfC qual scope s.heap.objs.size f cd)) (leaving (envOfC qual scope s.heap.objs.size f cd) e) (fun _ s''=>CX outer H s E e s'') (fun e' s''=>CX outer H s E e' s'') s'
theorem Lz{sc:Scope}{n:Nat}(h:sc.names.lookup x=some .cell):∃c,(cellsFrom n sc.names []).lookup x=some c:=by
 have q:=PySem.W.cellsFrom_some sc.names n [] (.inl h);exact Option.isSome_iff_exists.mp q
theorem Re {CX:CXT} {N ps:List Str} {qual:Str} {scope:Scope} {f:Addr} {cd:Value} {outer:List Env} {s1:Shared} {E:XK} {vs:List V}
 (S:FnScope N ps scope) (hd:A.handled=none) (e0:Env0 P w K mg base A outer s H) (hl:vs.length=ps.length) (r:Yi vs us)
 (x:InCallC s s.heap.objs.size (bindL (envOfC qual scope s.heap.objs.size f cd).kindOf (ps.zip us) fun _=>none) (cellsFrom (s.heap.objs.size+1) scope.names []) (bindC (envOfC qual scope s.heap.objs.size f cd).kindOf (ps.zip us) fun _=>none) s1) :
 Yg (Dm CX P w K mg base N qual scope f cd A outer s H E) [] (C1 N vs) H s1:=by
 have hpl:ps.length<=N.length:=by have:=congrArg List.length S.pre;rw[ZW]at this;lia
 obtain⟨h1,tk,rfl,hk⟩:=x.done;have noA:∀b:Addr,b∉(Dm CX P w K mg base N qual scope f cd A outer s H E).ex:=fun b z=>absurd (show b∈([]:List Addr) from z) (by simp)
 refine⟨⟨e0.mod,S.kind,rfl,rfl,ZE _,fun y z c h1 h2=>?_,fun y hy=>?_,fun y c _ h=>?_,fun _=>hd,Around.frames_deeper e0.frames,.inr ⟨rfl,rfl⟩,fun b z=>absurd z (noA b),e0.bs,e0.bsz,fun b _ _=>noA b,fun b z=>absurd z (noA b),e0.funs,e0.frf⟩,
  rfl,e0.bare,Un.kept hk,⟨_,x.toInCall.ns,fun i y v h1 h2 h3=>?_⟩,fun y c h=>⟨_,x.cell y c h⟩,e0.hok.fresh (ZE _),fun y c h=>?_,fun p hp=>absurd (show p∈([]:List (Addr × Obj)) from hp) (by simp),e0.hok.kept hk,?_⟩
 ·exact name_of_addr x.apart (PySem.mem_of_lookup h1) (PySem.mem_of_lookup h2)
 ·have hy:scope.names.lookup y=some .cell\/scope.names.lookup y=some .free:=hy
  rcases hy with hy | hy
  ·exact Lz hy
  ·exact absurd rfl (S.nofree _ (PySem.mem_of_lookup hy))
 ·exact Zy (x.above y c (PySem.mem_of_lookup h))
 ·have hi:i < vs.length:=by
   unfold C1 at h2
   by_cases hi:i < vs.length
   ·exact hi
   ·rw[ZBE (by simpa using hi)]at h2;rw[ZB2]at h2;split at h2 <;> cases h2
  have ha:vs[i]? = some v:=by
   unfold C1 at h2;rw[ZBL (by simpa using hi),ZP]at h2;cases e:vs[i]? with
   | none=>rw[e]at h2;cases h2
   | some a=>rw[e]at h2;cases h2;rfl
  obtain⟨u,hu,rv⟩:=r.get ha
  have hp:ps[i]? = some y:=by
   rw[<- S.pre,List.getElem?_take_of_lt (by lia)];exact h1
  have ndP:ps.Nodup:=by rw[<- S.pre];exact S.nd.sublist (List.take_sublist _ _)
  refine⟨u,rv,?_⟩
  rcases S.par y (Zt hp) with k | k
  ·exact .inl ⟨k,Kk ndP hp hu k⟩
  ·obtain⟨c,e⟩:=Lz (n:=s.heap.objs.size+1) k;refine .inr ⟨.inl k,c,e,?_⟩;have q:=x.cell y c e;rw[Ny ndP hp hu (by show scope.names.lookup y≠_;rw[k];decide)]at q;exact q
 ·exact e0.hok.fresh (Zy (x.above y c (PySem.mem_of_lookup h)))
 ·unfold C1;show _=N.length;rw[ZM,ZB,ZBh];lia
theorem MV {CX:CXT} {f:Addr} {name qual:Str} {params:Arguments} {body:List Stmt} {scope:Scope} {dV kV doc pm Yy ct oc:Value} {an od:Option Addr}
 {osl:Array (Option Value)} {N ps:List Str} {sp:Sp} (lk:K.lookup f=some ⟨oc,od,.func (PySem.W.fnOf name qual params body scope dV kV doc pm an Yy ct),osl⟩) (hcd:PySem.W.codeIn K Yy qual=true) (S:FnScope N ps scope)
 (len:∀vs H Q E,sp vs H Q E->vs.length=ps.length)
 (hbody:∀(A:Around) (outer:List Env) (s:Shared) (H:Hp) (vs:List V) (Q:VK) (E:XK),Room k (A.deeper (envOfC qual scope s.heap.objs.size f Yy))->sp vs H Q E ->
   ∃t,PSs (Dm CX P w K mg base N qual scope f Yy A outer s H E) body t/\t { nx:=fun _ H'=>Q .non H',rt:=Q } (C1 N vs) H) :
 FnOk P w K mg base CX (k+1) f (PySem.W.fnOf name qual params body scope dV kV doc pm an Yy ct) ps sp:=by
 refine⟨len,fun A outer s H args us vs Q E hr e0 hb r hsp=>?_⟩;have hl:=len _ _ _ _ hsp;have KX:K.In s.heap:=e0.mod.kin.keeps fun b o e=>(e0.bs b o e).1
 have lim:s.heap.NoLimit:=e0.mod.nolimit.keeps fun b o e=>(e0.bs b o e).1
 have hkind:∀y∈ps.zip us,scope.names.lookup y.1=some .local\/(scope.names.lookup y.1=some .cell/\((cellsFrom (s.heap.objs.size+1) scope.names []).lookup y.1).isSome=true):=fun⟨n,v⟩ hy=>by
  rcases S.par n (List.of_mem_zip hy).1 with q | q
  ·exact .inl q
  ·exact .inr ⟨q,PySem.W.cellsFrom_some _ _ _ (.inl q)⟩
 refine codeAny_call_function hr.depth (KX _ _ lk) rfl S.co S.gen rfl (PySem.W.codeRec_of KX hcd) (hb _ _ _ _ ?_);refine wpAny_newFunctionEnv_cells S.kind hkind fun env he s1 x=>?_
 subst he;refine⟨lim.keeps x.toInCall.keep,codeAny_func ?_⟩;obtain⟨t,ht,hq⟩:=hbody A outer s H vs Q E (hr.deeper _) hsp;have I:Yg (Dm CX P w K mg base N qual scope f Yy A outer s H E) [] (C1 N vs) H s1:=Re S hr.hd e0 hl r x;refine Zs (ht [] s1 (C1 N vs) H _ I hq) (fun fl s' hs=>?_) fun e s' hs=>hs
 have fin:∀{σ':St} {H':Hp} {v:V} {u:Value},Yg (Dm CX P w K mg base N qual scope f Yy A outer s H E) [] σ' H' s'->Yh v u->Q v H'->CE outer P w H s Q u s' :=
  fun {σ' H' v u} J rv q=>⟨v,H',J.os,J.bare,J.base,J.hok,rv,q⟩
 cases fl with
 | ret u =>
  obtain⟨v,σ',H',J,rv,q⟩:=hs;exact fin J rv q
 | next =>
  obtain⟨σ',H',J,q⟩:=hs;exact fin (v:=V.non) (u:=Value.none) J rfl q
 | brk =>
  obtain⟨_,_,_,q⟩:=hs;exact False.elim q
 | cont =>
  obtain⟨_,_,_,q⟩:=hs;exact False.elim q
section
variable {X:Cx}{x:Str}{p pos:Pos}{e:Expr}{es:List Expr}{t:TA}{id T:String}{r:List V->Hp->VK->Prop}
noncomputable def tCB(r:List V->Hp->VK->Prop)(t:TA):TE:=fun Z H Q=>t Z H fun vs H1=>r vs H1 Q
theorem Aa (hc:CallR X (.builtin id) r) (hg:Gl X x) (hm:X.mg x=none) (hv:bootBuiltins x=some (.builtin id)) (ha:PA X (e::es) t) (hn:x ≠ "__name__":=by decide) (hdb:(x == ("__debug__" : Str))=false:=by decide)
 (he:starEach (e::es) X.env=(false,eval e X.env)::starEach es X.env:=by rfl) (hpl:(backTo pos (starEach es X.env)).any (·.1)=false:=by rfl):PE X (.Call (.Name x p) (e::es) [] pos) (tCB r t):=by
 intro Ya s Z H Q I h;refine wpAny_Call_Name_kw (Cv I hg hm hv ?_ hn hdb);exact PyProof.Rows.callWith_builtin1 (Yn (ha pos Ya s Z H _ I h) fun us s1 ⟨vs,H1,I1,r1,q1⟩=>hc Ya s1 Z H1 vs us Q I1 r1 q1) he hpl
theorem At (hc:CallR X (.type T) r) (hg:Gl X x) (hm:X.mg x=none) (hv:bootBuiltins x=some (.type T)) (ha:PA X (e::es) t) (hn:x ≠ "__name__":=by decide) (hdb:(x == ("__debug__" : Str))=false:=by decide)
 (he:starEach (e::es) X.env=(false,eval e X.env)::starEach es X.env:=by rfl) (hpl:(backTo pos (starEach es X.env)).any (·.1)=false:=by rfl):PE X (.Call (.Name x p) (e::es) [] pos) (tCB r t):=by
 intro Ya s Z H Q I h;refine wpAny_Call_Name_kw (Cv I hg hm hv ?_ hn hdb);exact PyProof.Rows.callWith_type1 (Yn (ha pos Ya s Z H _ I h) fun us s1 ⟨vs,H1,I1,r1,q1⟩=>hc Ya s1 Z H1 vs us Q I1 r1 q1) he hpl
end
end L2
namespace HT
open PySem PyProof.Rows
section
open PySem.SeqAt
open PySem.AutoSeq1 (wpAny_loadPart')
open PySem.MeetsSeq PySem.MeetsSeq2 PySem.MeetsSeq3
end
section
variable {prog:Program}{w:World}{A:Around}{E:Value->Shared->Prop}{s:Shared}
theorem cat_tup {t b:Addr} {vs ws:List Value} {Q:Value->Shared->Prop} (ht:IsTup s.heap t vs.toArray) (hb:IsTup s.heap b ws.toArray) (hv:vs≠[])
 (h1:ws=[]->Q (.ref t) s) (h2:ws≠[]->Q (.ref s.heap.objs.size) { s with heap:=s.heap.push { cls:=.type "tuple",data:=.seq (vs++ws).toArray } })
 (hsz:vs.length+ws.length<=sizeLine):wpAny (model prog w) A (binaryOp .Add (.ref t) (.ref b)) Q E s:=by
 obtain⟨⟨cls,dd,data,sl⟩,ho,hc,n,hd⟩:=id ht;obtain⟨⟨cls2,dd2,data2,sl2⟩,ho2,hc2,n2,hd2⟩:=id hb;simp only at hc hd hc2 hd2;subst hc hd hc2 hd2;have e:vs.toArray++ws.toArray=(vs++ws).toArray:=by simp
 by_cases hw:ws=[]
 ·exact concat_meets ⟨_,ho,rfl⟩ ⟨_,ho2,rfl⟩ noFill_tuple_add seq_tuple_add PySem.F.slot_tuple_add PySem.F.entry_tuple_add (PySem.F.args_tuple_add_2 _ _)
   (tuple_addW1 t b vs.toArray ws.toArray n n2 dd dd2 sl sl2 (by simpa using hv) (by simp[hw])) ⟨ho,ho2,h1 hw⟩
 ·refine concat_meets ⟨_,ho,rfl⟩ ⟨_,ho2,rfl⟩ noFill_tuple_add seq_tuple_add PySem.F.slot_tuple_add PySem.F.entry_tuple_add (PySem.F.args_tuple_add_2 _ _)
   (tuple_addW2 t b vs.toArray ws.toArray n n2 dd dd2 sl sl2 (by simpa using hv) (by simpa using hw) (by rw[ZK,ZK];exact hsz)) ⟨ho,ho2,?_⟩
  rw[e];exact h2 hw
noncomputable def sIx(n d:Nat):Option Int->Nat
 | none=>d
 | some v=>if v < 0 then (v+(n:Int)).toNat else min v.toNat n
theorem sIx_none(n d:Nat):sIx n d none=d:=rfl
theorem sIx_nat(n d k:Nat):sIx n d (some (k:Int))=min k n:=by
 show(if (k:Int) < 0 then ((k:Int)+(n:Int)).toNat else min (k:Int).toNat n)=min k n
 rw[if_neg (by lia),ZZ]
theorem Rv(n d:Nat)(hd:d<=n)(o:Option Int):sIx n d o<=n:=by
 cases o with
 | none=>exact hd
 | some v =>
  show(if v < 0 then (v+(n:Int)).toNat else min v.toNat n)<=n
  by_cases hv:v < 0
  ·rw[if_pos hv];lia
  ·rw[if_neg hv];exact Nat.min_le_right _ _
theorem Lb(v:Int)(n d:Nat):(if v < 0 then max (v+(n:Int)) 0 else min v (n:Int))=((sIx n d (some v):Nat):Int):=by
 show(if v < 0 then max (v+(n:Int)) 0 else min v (n:Int))=(((if v < 0 then (v+(n:Int)).toNat else min v.toNat n):Nat):Int)
 by_cases hv:v < 0
 ·simp only[if_pos hv];lia
 ·simp only[if_neg hv];lia
theorem Si(lo hi:Option Int)(n:Nat):Builtin.Slice.sliceAdjust lo hi 1 (n:Int)=(((sIx n 0 lo:Nat):Int),((sIx n n hi:Nat):Int)):=by
 have h1:¬((1:Int) < 0):=by lia
 unfold Builtin.Slice.sliceAdjust;simp only[h1,if_false];refine Prod.ext ?_ ?_
 ·cases lo with
  | none=>rfl
  | some v=>exact Lb v n 0
 ·cases hi with
  | none=>rfl
  | some v=>exact Lb v n n
theorem Sk(i j:Nat):Builtin.Slice.slicePlaces (i:Int) (j:Int) 1=j - i:=by
 unfold Builtin.Slice.slicePlaces;have h1:(1:Int) > 0:=by lia
 simp only[h1,if_true,Int.ediv_one];split <;> lia
theorem Ly{v:Value}{o:Option Int}{Q:Option Int->Shared->Prop}(p:IsPart v o)(h:Q o s):wpAny (model prog w) A (Builtin.Slice.slicePartIndex v) Q E s:=by
 cases p with
 | none=>exact slicePart_none h
 | int i t=>exact slicePart_int h
theorem M7 {sl:Addr} {vl vu:Value} {lo hi:Option Int} {n:Nat} {Q:Int × Int × Nat->Shared->Prop} (hs:s.heap.IsSliceOf sl vl vu .none) (pl:IsPart vl lo) (pu:IsPart vu hi)
 (h:Q (((sIx n 0 lo:Nat):Int),1,sIx n n hi - sIx n 0 lo) s):wpAny (model prog w) A (Builtin.Slice.sliceApplied (.ref sl) (pure (n:Int))) Q E s:=by
 obtain⟨os,hos,hcs,hds⟩:=id hs;unfold Builtin.Slice.sliceApplied Builtin.Slice.sliceFields;refine ZA (ZA (ZBR hos hds (x:=vl) rfl (ZA (ZBR hos hds (x:=vu) rfl (ZA (ZBR hos hds (x:=.none) rfl (ZC ?_)))))));refine ZA (slicePart_none ?_);show wpAny _ _ (if ((1:Int) == 0)=true then _ else _) _ _ s;rw[if_neg (by decide)];refine ZA (Ly pl (ZA (Ly pu (ZA (ZC ?_)))));show wpAny _ _ (match Builtin.Slice.sliceAdjust lo hi 1 (n:Int) with | (lo,hi)=>pure (lo,(1:Int),Builtin.Slice.slicePlaces lo hi 1)) _ _ s;rw[Si lo hi n];show wpAny _ _ (pure (((sIx n 0 lo:Nat):Int),(1:Int),Builtin.Slice.slicePlaces ((sIx n 0 lo:Nat):Int) ((sIx n n hi:Nat):Int) 1)) _ _ s;rw[Sk];exact ZC h
theorem XA(xs:Array Value)(i k:Nat):((List.range k).filterMap fun(m:Nat)=>xs[((i:Int)+(m:Int) * 1).toNat]?).toArray=((xs.toList.drop i).take k).toArray:=by
 have e:(fun(m:Nat)=>xs[((i:Int)+(m:Int) * 1).toNat]?)=fun m=>xs[i+m]?:=by
  funext m
  have:((i:Int)+(m:Int) * 1).toNat=i+m:=by lia
  rw[this]
 rw[e]
 have:=pick_run xs i k
 rw[List.filterMap_map]at this;have e2:((fun x=>xs[x]?) ∘ fun x=>i+x)=fun m=>xs[i+m]?:=rfl
 rw[e2]at this;rw[this]
theorem getItem_tuple_cut {t sl:Addr} {items:Array Value} {vl vu:Value} {lo hi:Option Int} {Q:Value->Shared->Prop} (ht:IsTup s.heap t items) (hs:s.heap.IsSliceOf sl vl vu .none) (pl:IsPart vl lo) (pu:IsPart vu hi)
 (hw:¬(sIx items.size 0 lo=0/\sIx items.size items.size hi=items.size))
 (h:Q (.ref s.heap.objs.size) { s with heap:=s.heap.push { cls:=.type "tuple",data:=.seq ((items.toList.drop (sIx items.size 0 lo)).take (sIx items.size items.size hi - sIx items.size 0 lo)).toArray } })
 (hsz:items.size<=sizeLine):wpAny (model prog w) A (getItem (.ref t) (.ref sl)) Q E s:=by
 have htake:sizeOk (.seq ((items.toList.drop (sIx items.size 0 lo)).take (sIx items.size items.size hi - sIx items.size 0 lo)).toArray):=by
  show((items.toList.drop (sIx items.size 0 lo)).take (sIx items.size items.size hi - sIx items.size 0 lo)).toArray.size<=sizeLine
  rw[ZK,ZW,ZBC,Zj];lia
 have hj:sIx items.size items.size hi<=items.size:=Rv _ _ (ZE _) hi;obtain⟨os,hos,hcs,hds⟩:=id hs;have hTs:s.TypeIs (.ref sl) "slice":=⟨os,hos,hcs⟩;unfold getItem
 try with_reducible refine Zk ?_
 first | refine ZA (ZC ?_) | skip
 refine ZA (wpAny_sequenceKey ht.typeIs (by decide) ?_)
 refine ZA (wpAny_callSpecial?_slot (name:=Str.ofString "__getitem__") ht.typeIs PyProof.Rows.slot_tuple_getitem
  (Zz PyProof.Rows.slot_tuple_getitem ht.typeIs entry_tuple_getitem ?_ (args_tuple_getitem _ _)))
 show wpAny _ _ (Builtin.Tuple.tupleItemsOf (.ref t) >>= _) _ _ s;refine ZA (tupleItemsOf_ ht ?_);refine ZA (wpAny_typeOf hTs ?_);rw[if_pos (by decide)];refine ZA (M7 hs pl pu ?_)
 have hno:¬((((sIx items.size 0 lo:Nat):Int) == 0 && (1:Int) == 1 && (sIx items.size items.size hi - sIx items.size 0 lo) == items.size)=true):=by
  intro q;rw[ZQ,ZQ]at q;have q1:((sIx items.size 0 lo:Nat):Int)=0:=eq_of_beq q.1.1;have q2:sIx items.size items.size hi - sIx items.size 0 lo=items.size:=eq_of_beq q.2;exact hw ⟨by lia,by lia⟩
 show wpAny _ _ (if (((sIx items.size 0 lo:Nat):Int) == 0 && (1:Int) == 1 && (sIx items.size items.size hi - sIx items.size 0 lo) == items.size)=true then _ else _) _ _ s;rw[if_neg hno,XA]
 first
  | exact ZA (m:=Builtin.Tuple.tupleExact _) (Zx (ZC ⟨_,rfl,ZC h⟩) htake)
  | exact ZA (m:=Builtin.Tuple.tupleExact _) (Zx (ZA (ZC (ZC ⟨_,rfl,ZC h⟩))) htake)
  | exact ZA (ZA (m:=Builtin.Tuple.tupleExact _) (Zx (ZC (ZC ⟨_,rfl,ZC h⟩)) htake))
  | exact ZA (ZA (m:=Builtin.Tuple.tupleExact _) (Zx (ZC ⟨_,rfl,ZC h⟩) htake))
end
end HT
namespace L2
open PySem PySem.Spec PyProof.Rows
noncomputable abbrev TO:=St->Hp->(Option Int->Hp->Prop)->Prop
noncomputable def PO(X:Cx)(e:Option Expr)(t:TO):Prop :=
 ∀(Ya:List (Addr × Obj)) (s:Shared) (Z:St) (H:Hp) (Q:Option Int->Hp->Prop),Yg X Ya Z H s->t Z H Q ->
  wpAny (model X.prog X.w) X.A (evalPart e X.env) (fun u s'=>∃o H',Yg X Ya Z H' s'/\IsPart u o/\Q o H') X.xe s
noncomputable def OO:TO:=fun _ H Q=>Q none H
noncomputable def Mz(t:TE):TO:=fun Z H Q=>t Z H fun x H1=>∃i,x=.int i/\Q (some i) H1
theorem EI{ns:List Int}:∀{us:List Value},Yi (ns.map V.int) us->IntsAre us ns:=by
 induction ns with
 | nil=>intro us r;rw[List.map_nil]at r;cases r;exact .nil
 | cons n ns ih =>
  intro us r;rw[Za]at r;cases r with
  | cons r1 r2 =>
   obtain⟨t,e⟩:=r1;subst e;exact .cons n t (ih r2)
section
variable {X:Cx}{e:Expr}{te:TE}{lo hi:Option Expr}{tl th:TO}{pos p2:Pos}
theorem Fz:PO X none OO:=by
 intro Ya s Z H Q I h;rw[evalPart_none];exact ZC ⟨none,H,I,.none,h⟩
theorem Gh(h:PE X e te):PO X (some e) (Mz te):=by
 intro Ya s Z H Q I hw;rw[evalPart_some];refine Yn (h Ya s Z H _ I hw) fun u s1 ⟨x,H1,I1,r1,q1⟩=>?_
 obtain⟨i,rfl,q⟩:=q1;obtain⟨t,rfl⟩:=r1;exact⟨some i,H1,I1,.int i t,q⟩
noncomputable def SlR(X:Cx)(r:V->Option Int->Option Int->Hp->VK->Prop):Prop :=
 ∀(Ya:List (Addr × Obj)) (s:Shared) (Z:St) (H:Hp) (x:V) (v vl vu:Value) (lo hi:Option Int) (sl:Addr) (Q:VK),Yg X Ya Z H s->Yh x v->s.heap.IsSliceOf sl vl vu .none->IsPart vl lo->IsPart vu hi->r x lo hi H Q ->
  ∃T id,typeLookup (.type T) "__getitem__" = pure (some (.builtin id))/\s.TypeIs v T/\wpAny (model X.prog X.w) X.A (getItem v (.ref sl)) (EP X Ya Z Q) X.xe s
noncomputable def tSl(r:V->Option Int->Option Int->Hp->VK->Prop)(te:TE)(tl th:TO):TE:=fun Z H Q=>te Z H fun x H1=>tl Z H1 fun l H2=>th Z H2 fun u H3=>r x l u H3 Q
theorem Nk{r:V->Option Int->Option Int->Hp->VK->Prop}(hr:SlR X r)(he:PE X e te)(hl:PO X lo tl)(hu:PO X hi th):PE X (.Subscript e (.Slice lo hi none p2) pos) (tSl r te tl th):=by
 intro Ya s Z H Q I h;refine Subscript_ (Yn (he Ya s Z H _ I h) fun v s1 ⟨x,H1,I1,r1,q1⟩=>?_);refine wpAny_Slice (Yn (hl Ya s1 Z H1 _ I1 q1) fun vl s2 ⟨l,H2,I2,pl,q2⟩=>Yn (hu Ya s2 Z H2 _ I2 q2) fun vu s3 ⟨u,H3,I3,pu,q3⟩=>?_);rw[evalPart_none];refine ZC ?_;have I4:Yg X Ya Z H3 { s3 with heap:=s3.heap.push { cls:=.type "slice",data:=.fields #[vl,vu,.none] } }:=I3.kept (t':=s3.toks) fun b ob q=>ZI _ q
 obtain⟨T,id,hT,ht,hg⟩:=hr Ya { s3 with heap:=s3.heap.push { cls:=.type "slice",data:=.fields #[vl,vu,.none] } } Z H3 x v vl vu l u s3.heap.objs.size Q I4 r1 (Heap.IsSliceOf.new ..) pl pu q3;show wpAny (model X.prog X.w) X.A (subscriptTail e (.Slice lo hi none p2) v (.ref s3.heap.objs.size)) (EP X Ya Z Q) X.xe { s3 with heap:=s3.heap.push { cls:=.type "slice",data:=.fields #[vl,vu,.none] } };exact tail_any (ops:=[.ref s3.heap.objs.size,v]) ht hT hg (by with_unfolding_all rfl)
noncomputable def Bb(xs:List V)(lo hi:Option Int):List V:=(xs.drop (HT.sIx xs.length 0 lo)).take (HT.sIx xs.length xs.length hi - HT.sIx xs.length 0 lo)
theorem LG(xs:List V)(lo hi:Option Int):(Bb xs lo hi).length<=xs.length:=by
 unfold Bb;rw[ZW,ZBC];lia
noncomputable def Up(K:W.Frag):V->Option Int->Option Int->Hp->VK->Prop:=fun x lo hi H Q=>∃a xs,x=.ref a/\Yp K H a xs /\
 ¬(HT.sIx xs.length 0 lo=0/\HT.sIx xs.length xs.length hi=xs.length)/\∀p,H p=none->Q (.ref p) (upd H p (.tup (Bb xs lo hi)))
theorem NP:SlR X (Up X.K):=by
 intro Ya s Z H x v vl vu lo hi sl Q I rx hs pl pu h;obtain⟨a,xs,rfl,hx,hw,q⟩:=h;cases rx;obtain⟨Ye,r,ht,hz⟩:=I.tuple hx;have Yk:Ye.toArray.size=xs.length:=by rw[ZK];exact r.length.symm
 refine⟨"tuple",_,PyProof.Rows.slot_tuple_getitem.lookup,ht.typeIs,?_⟩;refine HT.getItem_tuple_cut ht hs pl pu (by rw[Yk];exact hw) ?_ (by rw[Yk];exact hz);rw[Yk];refine⟨.ref s.heap.objs.size,_,I.laid (t':=s.toks) (o:=.tup (Bb xs lo hi)) (fun b ob q=>ZI _ q) (ZE _) ?_,rfl,q _ (I.hok.fresh (ZE _))⟩;exact⟨Zn (LG xs lo hi) hz,_,(r.drop (HT.sIx xs.length 0 lo)).take (HT.sIx xs.length xs.length hi - HT.sIx xs.length 0 lo),IsTupN.new _ _⟩
noncomputable def MQ(K:W.Frag):R2:=fun x y H Q=>∃a b xs ys,x=.ref a/\y=.ref b/\Yp K H a xs/\Yp K H b ys/\xs≠[]/\xs.length+ys.length<=sizeLine /\
 (ys=[]->Q (.ref a) H)/\(ys≠[]->∀p,H p=none->Q (.ref p) (upd H p (.tup (xs++ys))))
theorem Yi.nil_iff{xs:List V}{us:List Value}(r:Yi xs us):us=[] ↔ xs=[]:=by
 cases r with
 | nil=>simp
 | cons _ _=>simp
theorem N1:Yt X (binaryOp .Add) (MQ X.K):=by
 intro Ya s Z H x y v u Q I rx ry h;obtain⟨a,b,xs,ys,rfl,rfl,ha,hb,hx,hz,q1,q2⟩:=h;cases rx;cases ry;obtain⟨Ye,r1,p1,_⟩:=I.tuple ha;obtain⟨its2,r2,p2,_⟩:=I.tuple hb;refine HT.cat_tup p1 p2 (fun z=>hx (r1.nil_iff.mp z)) (fun z=>⟨.ref a,H,I,rfl,q1 (r2.nil_iff.mp z)⟩) (fun z=>?_) (by rw[<- r1.length,<- r2.length];exact hz);refine⟨.ref s.heap.objs.size,_,I.laid (t':=s.toks) (o:=.tup (xs++ys)) (fun b ob q=>ZI _ q) (ZE _) ?_,rfl,q2 (fun w=>z (r2.nil_iff.mpr w)) _ (I.hok.fresh (ZE _))⟩;exact⟨by rw[ZM];exact hz,_,r1.append r2,IsTupN.new _ _⟩
end
noncomputable def ixN(n:Nat)(i:Int):Option Nat:=if 0<=i then (if i < n then some i.toNat else none) else if -(n:Int)<=i then some (i+n).toNat else none
noncomputable def atI{α:Type}(xs:List α)(i:Int):Option α:=(ixN xs.length i).bind fun j=>xs[j]?
theorem Ob{n:Nat}{i:Int}{j:Nat}(h:ixN n i=some j):seqIndex? i n=some j/\j < n /\ -(n:Int)<=i/\i < n:=by
 unfold ixN at h
 by_cases h0:0<=i
 ·rw[if_pos h0]at h
  by_cases h1:i < n
  ·rw[if_pos h1]at h;have e:i.toNat=j:=ZU h;exact⟨by rw[seqIndex_of h0 h1,e],by lia,by lia,h1⟩
  ·rw[if_neg h1]at h;cases h
 ·rw[if_neg h0]at h
  by_cases h1 : -(n:Int)<=i
  ·rw[if_pos h1]at h;have e:(i+n).toNat=j:=ZU h;exact⟨by rw[seqIndex_neg (by lia) h1,e],by lia,h1,by lia⟩
  ·rw[if_neg h1]at h;cases h
theorem IK{α:Type}{xs:List α}{i:Int}{v:α}(h:atI xs i=some v):∃j,seqIndex? i xs.length=some j/\xs[j]? = some v/\j < xs.length /\ -(xs.length:Int)<=i/\i < xs.length:=by
 unfold atI at h;cases e:ixN xs.length i with
 | none=>rw[e]at h;cases h
 | some j =>
  rw[e]at h;obtain⟨h1,h2,h3,h4⟩:=Ob e;exact⟨j,h1,h,h2,h3,h4⟩
noncomputable def Iz(b:Expr):Prop:=∀o i,subscripted b false o i=operate [o,i] (getItem o i)
noncomputable def IxR(X:Cx)(r:R2):Prop :=
 ∀(value slice:Expr) (Ya:List (Addr × Obj)) (s:Shared) (Z:St) (H:Hp) (x y:V) (v u:Value) (Q:VK),Yg X Ya Z H s->Yh x v->Yh y u->r x y H Q ->
  subscripted slice false v u=operate [v,u] (getItem v u)->wpAny (model X.prog X.w) X.A (subscriptTail value slice v u) (EP X Ya Z Q) X.xe s
noncomputable def MtR(X:Cx)(id:String)(r:V->List V->Hp->VK->Prop):Prop :=
 ∀(Ya:List (Addr × Obj)) (s:Shared) (Z:St) (H:Hp) (x:V) (xs:List V) (v:Value) (us:List Value) (Q:VK),Yg X Ya Z H s->Yh x v->Yi xs us->r x xs H Q ->
  wpAny (model X.prog X.w) X.A (call (.builtin id) (v::us)) (EP X Ya Z Q) X.xe s
section
variable {X:Cx}{a b:Expr}{ta tb:TE}{pos:Pos}
theorem IxR.or{r r':R2}(h:IxR X r)(h':IxR X r'):IxR X (fun x y H Q=>r x y H Q\/r' x y H Q):=by
 intro value slice Ya s Z H x y v u Q I rx ry q hs
 rcases q with q | q
 ·exact h value slice Ya s Z H x y v u Q I rx ry q hs
 ·exact h' value slice Ya s Z H x y v u Q I rx ry q hs
theorem Sy{r:R2}(hr:IxR X r)(ha:PE X a ta)(hb:PE X b tb)(hs:Iz b):PE X (.Subscript a b pos) (tOp r ta tb):=by
 intro Ya s Z H Q I h;exact Subscript_ (IS ha hb I h fun v u s2 x y H2 I2 rx ry q=>hr a b Ya s2 Z H2 x y v u Q I2 rx ry q (hs _ _))
noncomputable def Mq(K:W.Frag):R2:=fun x y H Q=>∃p xs i v,x=.ref p/\y=.int i/\Yw K H p xs/\atI xs i=some v/\Q v H
noncomputable def L0(K:W.Frag):R2:=fun x y H Q=>∃p xs i v,x=.ref p/\y=.int i/\Yp K H p xs/\atI xs i=some v/\Q v H
noncomputable def NM:R2:=fun x y H Q=>∃z i c,x=.str z/\y=.int i/\z.length<=sizeLine/\atI z.cps.toList i=some c/\Q (.str ⟨#[c]⟩) H
theorem ix_list:IxR X (Mq X.K):=by
 intro value slice Ya s Z H x y v u Q I rx ry h hs;obtain⟨p,xs,i,z,rfl,rfl,hq,he,q⟩:=h;cases rx;obtain⟨t,rfl⟩:=ry;obtain⟨Ye,r,pl,hz⟩:=I.list hq;obtain⟨j,h1,h2,h3,h4,h5⟩:=IK he;obtain⟨w,ew,rw'⟩:=r.get h2;have hl:=r.length;have hn:=Dn;have fin:EP X Ya Z Q w s:=⟨z,H,I,rw',q⟩
 by_cases h0:0<=i
 ·have hj:i.toNat=j:=by
   rw[seqIndex_of h0 h5]at h1;exact ZU h1
  exact item_listR pl.isList h0 (by lia) (by rw[hj];simpa using ew) fin hs
 ·have hj:(i+(Ye.toArray.size:Int)).toNat=j:=by
   rw[seqIndex_neg (by lia) h4]at h1;rw[ZK,<- hl];exact ZU h1
  exact subscriptTail_builtinR (x:=w) pl.isList.typeIs slot_list_getitem.lookup
   (wpAny_getItem_list_neg (Q:=fun r s'=>r=w/\EP X Ya Z Q r s') pl.isList (by lia) (by rw[ZK] <;> lia) (by lia) (by rw[hj];simpa using ew) ⟨rfl,fin⟩) hs
theorem ix_tup:IxR X (L0 X.K):=by
 intro value slice Ya s Z H x y v u Q I rx ry h hs;obtain⟨p,xs,i,z,rfl,rfl,hq,he,q⟩:=h;cases rx;obtain⟨t,rfl⟩:=ry;obtain⟨Ye,r,pl,hz⟩:=I.tuple hq;obtain⟨j,h1,h2,h3,h4,h5⟩:=IK he;obtain⟨w,ew,rw'⟩:=r.get h2;have hl:=r.length;have hn:=Dn;have fin:EP X Ya Z Q w s:=⟨z,H,I,rw',q⟩
 exact subscriptTail_builtinR (x:=w) pl.typeIs slot_tuple_getitem.lookup
  (getItem_tuple (j:=j) (Q:=fun r s'=>r=w/\EP X Ya Z Q r s') pl (by lia) (by lia) (by rw[ZK,<- hl];exact h1) (by simpa using ew) ⟨rfl,fin⟩) hs
theorem XM:IxR X NM:=by
 intro value slice Ya s Z H x y v u Q I rx ry h hs;obtain⟨z,i,c,rfl,rfl,hz,he,q⟩:=h;obtain⟨t,rfl⟩:=rx;obtain⟨t',rfl⟩:=ry;obtain⟨j,h1,h2,h3,h4,h5⟩:=IK he;have hl:z.cps.toList.length=z.length:=by simp[Str.length]
 rw[hl]at h1 h4 h5;have hn:=Dn
 exact tail_any (typeIs_str s z t) slot_str_getitem.lookup (getItem_str (c:=c) (by
  have e1:decide (i < -(2 ^ 63:Int))=false:=Zg (by lia);have e2:decide (i ≥ 2 ^ 63)=false:=Zg (by lia);rw[e1,e2,Bool.or_false]) (by rw[h1];simpa using h2) ⟨.str ⟨#[c]⟩,H,I.tok _,⟨_,rfl⟩,q⟩) hs
noncomputable def rIx(K:W.Frag):R2:=fun x y H Q=>Mq K x y H Q\/L0 K x y H Q\/NM x y H Q
theorem ix_seq:IxR X (rIx X.K):=ix_list.or (ix_tup.or XM)
theorem Xh(Ye:List Value)(n j:Nat)(u:Value):Obj.mapSeq (·.setIfInBounds j u) { cls:=.type "list",data:=.seq Ye.toArray n } = { cls:=.type "list",data:=.seq (Ye.set j u).toArray n }:=by
 simp[Obj.mapSeq]
theorem Yg.lst{Ya:List (Addr × Obj)}{Z:St}{H:Hp}{s:Shared}{p:Addr}{xs:List V}(I:Yg X Ya Z H s)(h:H p=some (.lst xs)) :
 ∃(Ye:List Value) (n:Nat),Yi xs Ye/\s.heap.get? p=some { cls:=.type "list",data:=.seq Ye.toArray n } /\ xs.length<=sizeLine:=by
 obtain⟨z,Ye,n,r,e⟩:=I.hok p _ h;exact⟨Ye,n,r,e,z⟩
theorem Yg.lstUpd {Ya:List (Addr × Obj)} {Z:St} {H:Hp} {s:Shared} {p:Addr} {xs ys:List V} {Ye its':List Value} {n n':Nat} {f:Obj->Obj} (I:Yg X Ya Z H s) (h:H p=some (.lst xs))
 (ho:s.heap.get? p=some { cls:=.type "list",data:=.seq Ye.toArray n }) (hf:f { cls:=.type "list",data:=.seq Ye.toArray n } = { cls:=.type "list",data:=.seq its'.toArray n' }) (r:Yi ys its') (hz:ys.length<=sizeLine) (t:Nat) :
 Yg X Ya Z (upd H p (.lst ys)) { s with heap:=s.heap.update p f,toks:=t }:=by
 have e:(s.heap.update p f).get? p=some { cls:=.type "list",data:=.seq its'.toArray n' }:=by
  rw[ZBd f ho (by rw[hf] <;> rfl),hf]
 refine I.write (x:=p) (e:=p) (by rw[h];trivial) (.inl rfl) (fun b u hb q=>(ZBF _ _ (Ne.symm hb)).trans q) ⟨_,e⟩ ?_;exact⟨hz,its',n',r,e⟩
noncomputable def RC:V->V->V->Hp->(Hp->Prop)->Prop:=fun o i v H Q=>∃p xs k j,o=.ref p/\i=.int k/\H p=some (.lst xs)/\ixN xs.length k=some j/\Q (upd H p (.lst (xs.set j v)))
theorem SZ:JV X RC:=by
 intro Ya s Z H o i v ov iv u Q I ro ri rv h;obtain⟨p,xs,k,j,rfl,rfl,hp,hj,q⟩:=h;cases ro;obtain⟨t,rfl⟩:=ri;obtain⟨Ye,n,r,ho,hz⟩:=I.lst hp;obtain⟨h1,h2,h3,h4⟩:=Ob hj;have hl:=r.length;have hn:=Dn
 have I':Yg X Ya Z (upd H p (.lst (xs.set j v))) { s with heap:=s.heap.update p (Obj.mapSeq (·.setIfInBounds j u)) } :=
  I.lstUpd hp ho (Xh Ye n j u) (r.set rv j) (by rw[ZBS];exact hz) s.toks
 by_cases h0:0<=k
 ·have hk:k.toNat=j:=by
   rw[seqIndex_of h0 h4]at h1;exact ZU h1
  exact PySem.W.ki_setAt ho h0 (by lia) (by rw[ZK,<- hl];exact h4) (by rw[hk];exact⟨_,I',q⟩)
 ·have hk:(k+(Ye.toArray.size:Int)).toNat=j:=by
   rw[seqIndex_neg (by lia) h3]at h1;rw[ZK,<- hl];exact ZU h1
  exact PySem.W.ki_setBack ho (by lia) (by rw[ZK,<- hl];exact h3) (by lia) (by rw[hk];exact⟨_,I',q⟩)
theorem RT(lo hi:Option Int)(n:Nat):(sliceBounds lo hi none n).1=((HT.sIx n 0 lo:Nat):Int)/\(sliceBounds lo hi none n).2.1=((HT.sIx n n hi:Nat):Int)/\(sliceBounds lo hi none n).2.2=1:=by
 refine⟨?_,?_,rfl⟩
 ·cases lo with
  | none=>simp[sliceBounds,HT.sIx]
  | some i =>
   simp only[sliceBounds,HT.sIx,Option.getD_none,show(1:Int) > 0 by decide,if_true]
   by_cases h:i < 0
   ·simp only[h,if_true] <;> lia
   ·simp only[h,if_false] <;> lia
 ·cases hi with
  | none=>simp[sliceBounds,HT.sIx]
  | some i =>
   simp only[sliceBounds,HT.sIx,Option.getD_none,show(1:Int) > 0 by decide,if_true]
   by_cases h:i < 0
   ·simp only[h,if_true] <;> lia
   ·simp only[h,if_false] <;> lia
theorem Px(Ye:List Value)(lo hi:Option Int):slicePick Ye.toArray lo hi none=((Ye.drop (HT.sIx Ye.length 0 lo)).take (HT.sIx Ye.length Ye.length hi - HT.sIx Ye.length 0 lo)).toArray:=by
 obtain⟨h1,h2,h3⟩:=RT lo hi Ye.toArray.size;unfold slicePick;rw[h1,h2,h3];simp only[sliceRange_one,pick_run,ZK] <;> rfl
noncomputable def XZ(K:W.Frag):V->Option Int->Option Int->Hp->VK->Prop:=fun x lo hi H Q=>∃a xs,x=.ref a/\Yw K H a xs/\∀p,H p=none->Q (.ref p) (upd H p (.lst (Bb xs lo hi)))
theorem Ul:SlR X (XZ X.K):=by
 intro Ya s Z H x v vl vu lo hi sl Q I rx hs pl pu h;obtain⟨a,xs,rfl,hx,q⟩:=h;cases rx;obtain⟨Ye,r,ht,hz⟩:=I.list hx;have Yk:=r.length;refine⟨"list",_,slot_list_getitem.lookup,ht.isList.typeIs,?_⟩;refine wpAny_getItem_list_slice ht.isList hs pl pu .none (by simp) ?_ (by rw[ZK] <;> lia);rw[Px,<- Yk];refine⟨.ref s.heap.objs.size,_,I.laid (t':=s.toks) (o:=.lst (Bb xs lo hi)) (fun b ob q=>ZI _ q) (ZE _) ?_,rfl,q _ (I.hok.fresh (ZE _))⟩;exact⟨Zn (LG xs lo hi) hz,_,0,(r.drop (HT.sIx xs.length 0 lo)).take (HT.sIx xs.length xs.length hi - HT.sIx xs.length 0 lo),ZS _ rfl⟩
noncomputable def C4:V->Bool
 | .non=>true
 | .bl _=>true
 | .int _=>true
 | .str _=>true
 | _=>false
noncomputable def eqV:V->V->Bool
 | .non,.non=>true
 | .bl a,.bl b=>a == b
 | .bl a,.int b=>(if a then 1 else 0) == b
 | .int a,.bl b=>a == (if b then 1 else 0)
 | .int a,.int b=>a == b
 | .str a,.str b=>a == b
 | _,_=>false
theorem W9{A:Around}{s:Shared}{y x:V}{u v:Value}(ry:Yh y u)(rx:Yh x v)(fy:C4 y=true)(fx:C4 x=true):SeqAt.EqAt A s u v (eqV y x):=by
 cases y with
 | non =>
  cases ry;cases x with
  | non=>cases rx;exact SeqAt.EqAt.same _
  | bl b=>cases rx;exact SeqAt.EqAt.none_bool b
  | int b=>obtain⟨t,rfl⟩:=rx;exact SeqAt.EqAt.none_int b t
  | str b=>obtain⟨t,rfl⟩:=rx;exact SeqAt.EqAt.none_str b t
  | _=>exact absurd (show false=true from fx) Zh
 | bl a =>
  cases ry;cases x with
  | non=>cases rx;exact SeqAt.EqAt.bool_none a
  | bl b=>cases rx;exact SeqAt.EqAt.bool_bool a b
  | int b=>obtain⟨t,rfl⟩:=rx;exact SeqAt.EqAt.bool_int a b t
  | str b=>obtain⟨t,rfl⟩:=rx;exact SeqAt.EqAt.bool_str a b t
  | _=>exact absurd (show false=true from fx) Zh
 | int a =>
  obtain⟨t',rfl⟩:=ry;cases x with
  | non=>cases rx;exact SeqAt.EqAt.int_none a t'
  | bl b=>cases rx;exact SeqAt.EqAt.int_bool a t' b
  | int b=>obtain⟨t,rfl⟩:=rx;exact SeqAt.EqAt.int_int a t' b t
  | str b=>obtain⟨t,rfl⟩:=rx;exact SeqAt.EqAt.int_str a t' b t
  | _=>exact absurd (show false=true from fx) Zh
 | str a =>
  obtain⟨t',rfl⟩:=ry;cases x with
  | non=>cases rx;exact SeqAt.EqAt.str_none a t'
  | bl b=>cases rx;exact SeqAt.EqAt.str_bool a t' b
  | int b=>obtain⟨t,rfl⟩:=rx;exact SeqAt.EqAt.str_int a t' b t
  | str b=>obtain⟨t,rfl⟩:=rx;exact SeqAt.EqAt.str_str a t' b t
  | _=>exact absurd (show false=true from fx) Zh
 | _=>exact absurd (show false=true from fy) Zh
noncomputable def eqU(x:V)(u:Value):Bool:=match u with
 | .none=>eqV .non x
 | .bool b=>eqV (.bl b) x
 | .int i _=>eqV (.int i) x
 | .str z _=>eqV (.str z) x
 | _=>false
theorem LR{x y:V}{u:Value}(r:Yh y u)(f:C4 y=true):eqU x u=eqV y x:=by
 cases y with
 | non=>cases r;rfl
 | bl b=>cases r;rfl
 | int i=>obtain⟨t,rfl⟩:=r;rfl
 | str z=>obtain⟨t,rfl⟩:=r;rfl
 | _=>exact absurd (show false=true from f) Zh
theorem NL{A:Around}{s:Shared}{x:V}{v:Value}(rx:Yh x v)(fx:C4 x=true):∀{xs:List V} {us:List Value},Yi xs us->xs.all C4=true->∀u∈us,SeqAt.EqAt A s u v (eqU x u)
 | _,_,.nil,_=>fun u hu=>by cases hu
 | y::xs,u::us,.cons r t,f=>fun u' hu=>by
  rw[List.all_cons,ZQ]at f
  rcases ZH.mp hu with rfl | hu
  ·rw[LR r f.1];exact W9 r rx f.1 fx
  ·exact NL rx fx t f.2 u' hu
theorem call_list_of:CallR X (.type "list") (fun xs H Q=>∃p ys,xs=[.ref p]/\(Yw X.K H p ys\/Yp X.K H p ys)/\∀l,H l=none->Q (.ref l) (upd H l (.lst ys))):=by
 intro Ya s Z H xs us Q I r h;obtain⟨p,ys,rfl,hq,q⟩:=h;obtain⟨u,rfl,rx⟩:=BS r;cases rx
 have fin:∀(Ye:List Value),Yi ys Ye->ys.length<=sizeLine->∀(h':Heap) (c':Nat),(∀b o',s.heap.get? b=some o'->h'.get? b=some o') ->
  h'.get? s.heap.objs.size=some { cls:=.type "list",dict:=none,data:=.seq Ye.toArray c',slots:=#[] } -> EP X Ya Z Q (.ref s.heap.objs.size) { s with heap:=h' }:=fun Ye r' hz h' c' kp e =>
  ⟨.ref s.heap.objs.size,_,I.laid (t':=s.toks) kp (ZE _) (show ObjOk X.prog X.w _ h' _ (.lst ys) from⟨hz,Ye,c',r',e⟩),rfl,q _ (I.hok.fresh (ZE _))⟩
 rcases hq with hq | hq
 ·obtain⟨Ye,r',pl,hz⟩:=I.list hq;have Yk:=r'.length;obtain⟨o,ho,hc,n,hd⟩:=pl.isList;exact call_list_seq p (.inl rfl) ho hc hd (fun h' c' kp e=>fin Ye r' hz h' c' kp e) (by simp only[ZK] <;> lia)
 ·obtain⟨Ye,r',pl,hz⟩:=I.tuple hq;have Yk:=r'.length;obtain⟨o,ho,hc,n,hd⟩:=pl;exact call_list_seq p (.inr rfl) ho hc hd (fun h' c' kp e=>fin Ye r' hz h' c' kp e) (by simp only[ZK] <;> lia)
theorem call_tuple_of:CallR X (.type "tuple") (fun xs H Q=>∃p ys,xs=[.ref p]/\((Yw X.K H p ys/\∀l,H l=none->Q (.ref l) (upd H l (.tup ys)))\/(Yp X.K H p ys/\Q (.ref p) H))):=by
 intro Ya s Z H xs us Q I r h;obtain⟨p,ys,rfl,h⟩:=h;obtain⟨u,rfl,rx⟩:=BS r;cases rx
 rcases h with ⟨hq,q⟩ | ⟨hq,q⟩
 ·obtain⟨Ye,r',pl,hz⟩:=I.list hq;have Yk:=r'.length;refine call_tuple_list pl.isList (fun h' kp=>?_) (by simp only[ZK] <;> lia);have I1:Yg X Ya Z H { s with heap:=h' }:=I.kept (t':=s.toks) kp
  have I2:Yg X Ya Z (upd H h'.objs.size (.tup ys)) { s with heap:=h'.push { cls:=.type "tuple",data:=.seq Ye.toArray } } :=
   I1.laid (t':=s.toks) (fun b o e=>ZI _ e) (ZE _) (show ObjOk X.prog X.w _ _ _ (.tup ys) from⟨hz,Ye,r',IsTupN.new _ _⟩)
  exact⟨.ref h'.objs.size,_,I2,rfl,q _ (I1.hok.fresh (ZE _))⟩
 ·obtain⟨Ye,r',pl,hz⟩:=I.tuple hq;exact call_tuple_same pl ⟨.ref p,H,I,rfl,q⟩
noncomputable def tyV(K:W.Frag)(T:String)(x:V)(H:Hp):Prop:=match x with
 | .str _=>T = "str"
 | .int _=>T = "int"
 | .ref p=>(T = "list" /\ ∃xs,Yw K H p xs)\/(T = "tuple" /\ ∃o,K.lookup p=some o/\o.cls=.type "tuple" /\ o.dict=none) \/
  (T = "dict" /\ ((∃Yd,H p=some (.dK Yd))\/∃Yd,H p=some (.dT Yd)))\/(T = "set" /\ ∃S n,H p=some (.set S n))
 | _=>False
theorem NF{Ya:List (Addr × Obj)}{Z:St}{H:Hp}{s:Shared}{T:String}{x:V}{v:Value}(I:Yg X Ya Z H s)(r:Yh x v)(ty:tyV X.K T x H) :
 s.TypeIs v T/\∀a,v=.ref a->∃ob,s.heap.get? a=some ob/\ob.dict=none:=by
 cases x with
 | str z =>
  obtain⟨t,rfl⟩:=r;cases (show T = "str" from ty);exact⟨typeIs_str s z t,fun _ e=>nomatch e⟩
 | int i =>
  obtain⟨t,rfl⟩:=r;cases (show T = "int" from ty);exact⟨typeIs_int s i t,fun _ e=>nomatch e⟩
 | ref p =>
  cases r
  rcases ty with ⟨rfl,xs,hq⟩ | ⟨rfl,o,hk,hc,hd⟩ | ⟨rfl,hk⟩ | ⟨rfl,S,n,hk⟩
  ·obtain⟨Ye,_,pl,_⟩:=I.list hq;refine⟨pl.isList.typeIs,fun a e=>?_⟩;cases e;obtain⟨o,n,e,c,hd,_⟩:=pl;exact⟨o,e,hd⟩
  ·refine⟨⟨o,I.kIn p o hk,hc⟩,fun a e=>?_⟩;cases e;exact⟨o,I.kIn _ o hk,hd⟩
  ·have z:∃o,s.heap.get? p=some o/\o.ExactDict:=by
    rcases hk with ⟨Yd,hk⟩ | ⟨Yd,hk⟩
    ·obtain⟨_,_,_,_,o,_,_,e,ex,_⟩:=I.hok p _ hk;exact⟨o,e,ex⟩
    ·obtain⟨_,_,_,_,o,_,_,e,ex,_⟩:=I.hok p _ hk;exact⟨o,e,ex⟩
   obtain⟨o,e,ex⟩:=z;refine⟨⟨o,e,ex.1⟩,fun a e2=>?_⟩;cases e2;exact⟨o,e,ex.2.1⟩
  ·obtain⟨o,_,_,_,e,ex,_⟩:=I.hok p _ hk;refine⟨⟨o,e,ex.1⟩,fun a e2=>?_⟩;cases e2;exact⟨o,e,ex.2.1⟩
 | _=>exact False.elim ty
noncomputable def F0(K:W.Frag)(T:String)(r:V->List V->Hp->VK->Prop)(to:TE):TE:=fun Z H Q=>to Z H fun x H1=>tyV K T x H1/\r x [] H1 Q
noncomputable def tBM(K:W.Frag)(T:String)(r:V->List V->Hp->VK->Prop)(to:TE)(t:TA):TE:=fun Z H Q=>to Z H fun x H1=>tyV K T x H1/\t Z H1 fun xs H2=>r x xs H2 Q
variable {o e:Expr}{es:List Expr}{to:TE}{t:TA}{name:Str}{apos cpos:Pos}{T id:String}{r:V->List V->Hp->VK->Prop}
theorem LW (pa:PlainAttrs T) (slot:Slot T name id) (hty:typeOf (.builtin id)=pure (.type "method_descriptor")) (hm:MtR X id r) (ho:PE X o to)
 (hbase:attributeBase o name X.env (eval o X.env)=eval o X.env:=by rfl) (hline:(apos.endLine == cpos.line)=true:=by rfl):PE X (.Call (.Attribute o name apos) [] [] cpos) (F0 X.K T r to):=by
 intro Ya s Z H Q I h;refine wpAny_Call_method0_late hbase hline (Yn (ho Ya s Z H _ I h) fun v s1 ⟨x,H1,I1,r1,ty,q1⟩=>?_);obtain⟨h1,h2⟩:=NF I1 r1 ty;exact⟨T,id,pa,slot,hty,h1,h2,Calls.callWith_builtin rfl (PySem.evalArgs_none (hm Ya s1 Z H1 x [] v [] Q I1 r1 .nil q1))⟩
theorem FR (pa:PlainAttrs T) (slot:Slot T name id) (hty:typeOf (.builtin id)=pure (.type "method_descriptor")) (hm:MtR X id r) (ho:PE X o to) (ha:PA X (e::es) t)
 (hbase:attributeBase o name X.env (eval o X.env)=eval o X.env:=by rfl)
 (hfew:((backTo cpos (starEach (e::es) X.env)).all (fun x=>!x.1) && (backToKw cpos (keywordEach [] X.env)).all (fun x=>x.1.isSome)
   && decide ((e::es).length+([]:List Keyword).length+(if ([]:List Keyword).isEmpty then 0 else 1) < 30))=true:=by rfl)
 (hline:(apos.endLine == cpos.line)=true:=by rfl) (hs:starEach (e::es) X.env=(false,eval e X.env)::starEach es X.env:=by rfl) (hplain:(backTo cpos (starEach es X.env)).any (·.1)=false:=by rfl) :
 PE X (.Call (.Attribute o name apos) (e::es) [] cpos) (tBM X.K T r to t):=by
 intro Ya s Z H Q I h;refine wpAny_Call_method_late hbase hfew hline rfl (Yn (ho Ya s Z H _ I h) fun v s1 ⟨x,H1,I1,r1,ty,q1⟩=>?_);obtain⟨h1,h2⟩:=NF I1 r1 ty;refine⟨T,id,pa,slot,hty,h1,h2,?_⟩;have hA:=ha cpos Ya s1 Z H1 _ I1 q1;rw[hs]at hA ⊢;refine Calls.callWith_builtin (by show(false || (backTo cpos (starEach es X.env)).any (·.1))=false;rw[hplain] <;> rfl) (Calls.evalArgs_plain ?_);exact Yn hA fun us s2 ⟨vs,H2,I2,r2,q2⟩=>hm Ya s2 Z H2 x vs v us Q I2 r1 r2 q2
end
noncomputable def MtM(X:Cx)(id:String)(r:V->List V->Hp->VK->Prop):Prop :=
 ∀(Ya:List (Addr × Obj)) (s:Shared) (Z:St) (H:Hp) (x:V) (xs:List V) (v:Value) (us:List Value) (Q:VK),Yg X Ya Z H s->Yh x v->Yi xs us->r x xs H Q ->
  wpAny (model X.prog X.w) X.A (call (.builtin id) (v::us)) (EP X Ya Z Q) X.xe s
theorem Yi.one:∀{x:V} {us:List Value},Yi [x] us->∃u,us=[u]/\Yh x u
 | _,_,.cons r .nil=>⟨_,rfl,r⟩
theorem Yi.rep{xs:List V}{us:List Value}(h:Yi xs us):∀k:Nat,Yi (List.replicate k xs).flatten (List.replicate k us).flatten
 | 0=>.nil
 | k+1=>by
  rw[ZBn,ZBn,List.flatten_cons,List.flatten_cons];exact Yi.append h (Yi.rep h k)
theorem Jh(Ye:List Value):∀(k:Nat) (Ys:List Value),
 List.foldl (fun x1 x2=>x1++x2) Ys.toArray (List.replicate k Ye.toArray)=(Ys++(List.replicate k Ye).flatten).toArray
 | 0,Ys=>by simp
 | k+1,Ys=>by
  have e:Ys.toArray++Ye.toArray=(Ys++Ye).toArray:=by simp
  have e2:(Ys++Ye)++(List.replicate k Ye).flatten=Ys++(List.replicate (k+1) Ye).flatten:=by
   rw[ZBn,List.flatten_cons,ZBo]
  rw[<- e2,<- Jh Ye k (Ys++Ye),<- e,ZBn,List.foldl_cons]
section
variable {X:Cx}{Ya:List (Addr × Obj)}{Z:St}{H:Hp}{s:Shared}{l b:Addr}{xs ys zs:List V}
theorem Yg.lset {Ye its':List Value} {n:Nat} {f:Array Value->Array Value} {t':Nat} (I:Yg X Ya Z H s) (hH:H l=some (.lst xs))
 (e:s.heap.get? l=some { cls:=.type "list",data:=.seq Ye.toArray n }) (hf:f Ye.toArray=its'.toArray) (hv:Yi ys its') (hz:ys.length<=sizeLine) :
 Yg X Ya Z (upd H l (.lst ys)) { s with heap:=s.heap.update l (Obj.mapSeq f),toks:=t' }:=by
 have q:=PySem.IsL.update e f;rw[hf]at q;refine I.write (x:=l) (e:=l) (by rw[hH];exact trivial) (.inl rfl) (fun b' u hb hu=>(ZBF s.heap (Obj.mapSeq f) (Ne.symm hb)).trans hu) ⟨_,q⟩ ?_;exact⟨hz,its',_,hv,q⟩
theorem Yg.lnew{Ye:List Value}{t':Nat}(I:Yg X Ya Z H s)(hv:Yi ys Ye)(hz:ys.length<=sizeLine) :
 Yg X Ya Z (upd H s.heap.objs.size (.lst ys)) { s with heap:=s.heap.push { cls:=.type "list",data:=.seq Ye.toArray },toks:=t' } :=
 I.laid (fun _ _ q=>ZI _ q) (ZE _) ⟨hz,Ye,0,hv,ZS _ rfl⟩
theorem Yg.fresh(I:Yg X Ya Z H s):H s.heap.objs.size=none:=I.hok.fresh (ZE _)
theorem Yg.lstM(I:Yg X Ya Z H s)(hH:H l=some (.lst xs)):xs.length<=sizeLine/\∃(Ye:List Value) (n:Nat),Yi xs Ye/\xs.length=Ye.length/\s.heap.get? l=some { cls:=.type "list",data:=.seq Ye.toArray n }:=by
 obtain⟨z,Ye,n,r,e⟩:=I.hok l _ hH;exact⟨z,Ye,n,r,r.length,e⟩
theorem Qz{n:Nat}(h:n<=sizeLine):Builtin.List.listTooLong n=false:=by
 unfold Builtin.List.listTooLong;exact Zg (by lia)
end
section
variable {X:Cx}
noncomputable def Sw:V->List V->Hp->VK->Prop:=fun x vs H Q=>∃l xs y,x=.ref l/\vs=[y]/\H l=some (.lst xs)/\xs.length < sizeLine/\Q .non (upd H l (.lst (xs++[y])))
theorem QB:MtM X "list.append" Sw:=by
 intro Ya s Z H x vs v us Q I rx rv h;obtain⟨l,xs,y,rfl,rfl,hH,hz,q⟩:=h;cases rx;obtain⟨u,rfl,ru⟩:=rv.one;obtain⟨z,Ye,n,r,hl,e⟩:=I.lstM hH;refine call_meets F.slot_list_append ⟨_,e,rfl⟩ F.entry_list_append (F.args_list_append_2 _ _) (PySem.list_append l Ye.toArray n u (by rw[ZK];lia)) ⟨e,?_⟩;refine⟨.non,_,I.lset (its':=Ye++[u]) hH e (by simp) (r.append (.cons ru .nil)) ?_,rfl,q⟩;rw[ZM,List.length_singleton];lia
noncomputable def Ju:R2:=fun x y H Q=>∃l b xs zs,x=.ref l/\y=.ref b/\H l=some (.lst xs)/\H b=some (.lst zs)/\xs.length+zs.length<=sizeLine/\∀p,H p=none->Q (.ref p) (upd H p (.lst (xs++zs)))
theorem K4:Yt X (binaryOp .Add) Ju:=by
 intro Ya s Z H x y v u Q I rx ry h;obtain⟨l,b,xs,zs,rfl,rfl,hH,hB,hz,q⟩:=h;cases rx;cases ry;obtain⟨z,Ye,n,r,hl,e⟩:=I.lstM hH;obtain⟨z2,its2,n2,r2,hl2,e2⟩:=I.lstM hB;refine PySem.P.add_list e e2 ?_ (by rw[ZK,ZK];lia);have ea:Ye.toArray++its2.toArray=(Ye++its2).toArray:=by simp
 rw[ea];exact⟨.ref _,_,I.lnew (t':=s.toks) (r.append r2) (by rw[ZM];lia),rfl,q _ I.fresh⟩
noncomputable def OR:R2:=fun x y H Q=>∃l k xs,x=.ref l/\y=.int k/\H l=some (.lst xs) /\ -(2 ^ 63)<=k/\k < 2 ^ 63/\xs.length * k.toNat<=sizeLine /\
 ∀p,H p=none->Q (.ref p) (upd H p (.lst (List.replicate k.toNat xs).flatten))
theorem NV{α:Type}(xs:List α)(k:Nat):(List.replicate k xs).flatten.length=k * xs.length:=by
 induction k with
 | zero=>simp
 | succ k ih=>rw[ZBn,List.flatten_cons,ZM,ih,Nat.succ_mul,Nat.add_comm]
theorem UO:Yt X (binaryOp .Mult) OR:=by
 intro Ya s Z H x y v u Q I rx ry h;obtain⟨l,k,xs,rfl,rfl,hH,h1,h2,hz,q⟩:=h;cases rx;obtain⟨t,rfl⟩:=ry;obtain⟨z,Ye,n,r,hl,e⟩:=I.lstM hH;have Yk:Ye.toArray.size * k.toNat<=sizeLine:=by rw[ZK,<- hl];exact hz
 have hcap:¬Ye.toArray.size * k.toNat > (2 ^ 63 - 1) / 8:=by
  have:(sizeLine:Nat)<=(2 ^ 63 - 1) / 8:=by decide
  lia
 have hfit:¬(!Builtin.List.listFitsIndex k)=true:=by
  rw[fitsIndex_both h1 h2];exact Zh
 have hlong:¬Builtin.List.listTooLong (Ye.toArray.size * k.toNat)=true:=by
  rw[Qz Yk];exact Zh
 have hnew:List.foldl (fun x1 x2=>x1++x2) #[] (List.replicate (if Ye.toArray.isEmpty=true then 0 else k.toNat) Ye.toArray)=(List.replicate k.toNat Ye).flatten.toArray:=by
  have f0:∀m:Nat,List.foldl (fun x1 x2=>x1++x2) #[] (List.replicate m Ye.toArray)=(List.replicate m Ye).flatten.toArray:=fun m=>by
   have:=Jh Ye m []
   rw[ZBp]at this;exact this
  rw[f0];cases Ye with
  | nil=>simp
  | cons a r'=>rw[if_neg (by simp)]
 refine wpAny_binaryOp_repeat_ref (T:="list") (U:="int") (by decide) ⟨_,e,rfl⟩ (fun s'=>typeIs_int s' k t) noFill_list_mul F.fills_int_mul F.slot_int_rmul repeat_list F.slot_int_index.lookup
  (call_meets F.slot_int_rmul (typeIs_int s k t) F.entry_int_rmul (F.args_int_rmul_2 _ _) (int___rmul___int_list k t l Ye.toArray n)
    ⟨e,rfl,⟨_,e,rfl⟩,call_meets F.slot_list_mul ⟨_,e,rfl⟩ F.entry_list_mul (F.args_list_mul_2 _ _) (AutoListH.list___mul___list_int_3 l Ye.toArray n k t hfit hcap hlong) ⟨e,?_⟩⟩)
 rw[hnew];exact⟨.ref _,_,I.lnew (t':=s.toks) (r.rep k.toNat) (by rw[NV,Nat.mul_comm];exact hz),rfl,q _ I.fresh⟩
end
end L2
namespace Att
open PySem PySem.W PySem.Calls PyProof.Rows
theorem Wx{P:Params}{h:Heap}:∀(ns:List Int) (vs:List Value),WellAll P h vs (ns.map WData.int)->IntsAre vs ns:=by
 intro ns
 induction ns with
 | nil =>
  intro vs w;rw[List.map_nil]at w;cases w;exact .nil
 | cons n ns ih =>
  intro vs w;rw[Za]at w;cases w with
  | cons a b =>
   cases a;exact .cons _ _ (ih _ b)
theorem T7 {l:OpenLaw} {n:Nat} (hn:l.most=some n) {P:Params} {h:Heap} {args:List WData} {vals:List Value}
 (hpre:l.row.toRowW.claim.pre args=true) (hwl:WellAll P h vals args) :
 ∃a vs ns,vals=[Value.ref a]/\args=[WData.list (ns.map WData.int)]/\h.get? a=some { cls:=.type "list",data:=.seq vs.toArray } /\ IntsAre vs ns/\ns.length<=n:=by
 have hsh:WShape.hasAll [] args [.list .int]=true:=(pre_splitW hpre).1;have hc:l.pre.holds [] { args:=args } = true:=(pre_splitW hpre).2;obtain⟨d,r,rfl,h1,h2⟩:=hasAllW_cons hsh;obtain rfl:=hasAllW_nil h2;obtain⟨xs,rfl,h3⟩:=hasW_list h1;obtain⟨ns,rfl⟩:=items_int h3
 have Yk:ns.length<=n:=by
  unfold OpenLaw.pre at hc
  have h4:(WTm.not (.lt (.lit (.int (n:Int))) (.len (.arg 0)))).holds [] { args:=[.list (ns.map .int)] } = true:=by
   have h4:=(holds_andW hc).1;rw[hn]at h4;exact h4
  have h5:=condW_of h4 (w_not (w_lt w_lit (w_len_list (w_arg rfl))));rw[ZB]at h5;refine Nat.le_of_not_lt fun q=>?_
  have q':(n:Int) < ((ns.length:Nat):Int):=by lia
  first
   | (rw[ZL q']at h5;exact absurd h5 (by decide))
   | (simp at h5;lia)
 cases hwl with
 | cons w1 w2 =>
  cases w2;cases w1 with
  | list ho hall=>exact⟨_,_,ns,rfl,rfl,ho,Wx ns _ hall,Yk⟩
theorem Pa(l:OpenLaw)(args:List WData):l.row.toRowW.claim.post args (.bool true) args=true :=
 postW_of (r:=l.row.toRowW) (X:=(true == true))
  (show WShape.has [] (.bool true) .bool=true by first | rfl | decide | simp[WShape.has,WShape.arms,WShape.armsAll])
  (show(WTm.eq .res (.lit (.bool true))).value [] { args:=args,res:=some (.bool true),after:=args } = some (.bool (true == true)) from w_eq_bool (w_res rfl) w_lit) rfl
theorem attach_call {l:OpenLaw} {n:Nat} {q:Program} {loose:List Str} {XP:(Str->Option Value)->Heap->Prop} {YP:World->Heap->Prop} {d:DefRec}
 (hn:l.most=some n) (hdf:d.params.defaults=[])
 (call:∀(w:World) (s₀ s₁:Shared) (mg mb:Str->Option Value) (fa:Addr) (o:Obj) (pm cd doc:Value) (a:Addr) (vs:List Value) (ns:List Int),
   Ground q loose [] XP w s₀ mg mb s₁.heap->YP w s₁.heap ->
   s₁.heap.get? fa=some o->o.data=.func (docDef d.name d.params d.body d.scope pm cd doc)->s₁.heap.CodeRec cd d.name->mg d.name=some (.ref fa) ->
   s₁.heap.get? a=some { cls:=.type "list",data:=.seq vs.toArray } -> IntsAre vs ns->ns.length<=n->s₁.gens = #[] ->
   codeAny (model l.prog w) callerA (.call (.ref fa) ⟨[.ref a],[]⟩) (fun r s'=>r=.ok (.ret (.bool true))/\OldK s₁.heap s'.heap/\s'.os=s₁.os/\AllBare s'.gens) s₁) :
 WalkO q loose XP YP l.row.toRowW d [] (fun f vs=>PySem.call f vs):=by
 intro w s₀ s₁ mg mb G Y fa o pm cd doc dV kV ho hd hcd hD hmg hg args vals as hpre hlay hrd hwl hlo;obtain rfl:dV=.none:=Dflts.none hD hdf;obtain rfl:kV=.none:=Dflts.noKw hD;obtain⟨a,vs,ns,rfl,rfl,hobj,hints,Yk⟩:=T7 hn hpre hwl;refine enter_call (ZBK (call w s₀ s₁ mg mb fa o pm cd doc a vs ns G Y ho (fd_plain hd) hcd hmg hobj hints Yk hg) fun r s' hq=>?_);obtain⟨rfl,h2,h3,h4⟩:=hq;exact⟨.inl ⟨.bool true,.bool true,[],rfl,fun _=>rfl,.bool true,Pa l _,fun _=>⟨List.Pairwise.nil,fun _ hm=>(nomatch hm)⟩⟩,h2,h3,h4⟩
section
variable {prog:Program}{w:World}{A:Around}{E:Value->Shared->Prop}{s:Shared}{K:Frag}
noncomputable def Gn(h:Heap):Heap:={ h with objs:=#[] }
theorem N9(h:Heap)(b:Addr):(Gn h).get? b=none:=by
 cases e:(Gn h).get? b with
 | none=>rfl
 | some o=>exact absurd (ZG e) (ZBT _)
theorem VY{h:Heap}{L:Addr}{m:Str->Option Value}(n:h.Ns L m):Fr (Gn h) L h m :=
 ⟨n,fun b o e=>(by rw[N9]at e;cases e),ZV _⟩
end
end Att
namespace L2
open PySem PySem.Spec PyProof.Rows
variable {X:Cx}{x:Str}{i n own:Nat}{H H':Hp}{a l t:Addr}{pos:Pos}{K:W.Frag}{Z σc:St}{v y:V}{r:R2}{ds:List Dv}{xs:List V}{A:Around}{Q:Value->Shared->Prop}{o:HO}{ta te:TE}{es:List Expr}{s:Shared}{u:Value}{P:Program}{w:World}{Yd:List (List Key × V)}
theorem LJ:∀{vs:List Value} {ns:List Int},IntsAre vs ns->Yi (ns.map V.int) vs
 | _,_,.nil=>.nil
 | _,_,.cons n t h=>.cons ⟨t,rfl⟩ (LJ h)
noncomputable def Bc(s:Stmt)(j:Nat):Stmt:=match s with
 | .ClassDef _ _ _ body _ _ _ _ _ _ _=>body.getD j (.Pass ⟨0,0,0,0⟩)
 | _=>.Pass ⟨0,0,0,0⟩
noncomputable def Bq(s:Stmt):Arguments:=match s with
 | .FunctionDef _ a _ _ _ _ _ _ _ _=>a
 | _=>{ posonlyargs:=[],args:=[],vararg:=none,kwonlyargs:=[],kw_defaults:=[],kwarg:=none,defaults:=[] }
noncomputable def BY(s:Stmt):List Stmt:=match s with
 | .FunctionDef _ _ b _ _ _ _ _ _ _=>b
 | _=>[]
noncomputable def AK(s:Stmt):Scope:=match s with
 | .FunctionDef _ _ _ _ _ _ sc _ _ _=>sc
 | _=>{ kind:=.function,names:=[],isGenerator:=false,isCoroutine:=false }
noncomputable abbrev CX0:CXT:=fun _ _ _ _ _ _=>False
noncomputable abbrev E0:XK:=fun _ _ _=>False
theorem AG:Db CX0 X E0:=fun _ _ _ _ _ _ _ h=>h.elim
structure Fun(K:W.Frag)(x qual:Str)(st:Stmt)(f:Addr)(fd:FuncData):Prop where
 ex:∃(oc:Value) (od:Option Addr) (kV doc pm:Value) (an:Option Addr) (Yy ct:Value) (osl:Array (Option Value)),
  fd=PySem.W.fnOf x qual (Bq st) (BY st) (AK st) .none kV doc pm an Yy ct/\K.lookup f=some ⟨oc,od,.func fd,osl⟩/\PySem.W.codeIn K Yy qual=true
 kp:PySem.W.keepIn K (.ref f)=true
section
variable {P:Program}{w:World}{K:W.Frag}{mg:Str->Option Value}{base:Heap}
theorem Fun.ok {qual:Str} {st:Stmt} {f:Addr} {fd:FuncData} {N ps:List Str} {k:Nat} {sp:Sp} (F:Fun K x qual st f fd) (S:FnScope N ps (AK st)) (len:∀vs H Q E,sp vs H Q E->vs.length=ps.length)
 (hbody:∀(Yy:Value) (A:Around) (outer:List Env) (s:Shared) (H:Hp) (vs:List V) (Q:VK) (E:XK),Room k (A.deeper (envOfC qual (AK st) s.heap.objs.size f Yy))->sp vs H Q E ->
   ∃t,PSs (Dm CX0 P w K mg base N qual (AK st) f Yy A outer s H E).nox (BY st) t/\t { nx:=fun _ H'=>Q .non H',rt:=Q } (C1 N vs) H):FnOk P w K mg base CX0 (k+1) f fd ps sp:=by
 obtain⟨oc,od,kV,doc,pm,an,Yy,ct,osl,rfl,lk,hcd⟩:=F.ex;refine MV lk hcd S len fun A outer s H vs Q E hr hsp=>?_
 obtain⟨t,h,q⟩:=hbody Yy A outer s H vs Q E hr hsp;exact⟨t,h.nox,q⟩
theorem Fun.binds {qual:Str} {st:Stmt} {f:Addr} {fd:FuncData} {ps:List Str} (F:Fun K x qual st f fd)
 (h:∀(kV doc pm:Value) (an:Option Addr) (Yy ct:Value) (us:List Value),us.length=ps.length->bindArgs (PySem.W.fnOf x qual (Bq st) (BY st) (AK st) .none kV doc pm an Yy ct) ⟨us,[]⟩=pure (ps.zip us)):Binds K fd ps []:=by
 obtain⟨oc,od,kV,doc,pm,an,Yy,ct,osl,rfl,lk,hcd⟩:=F.ex;exact .all (h kV doc pm an Yy ct)
theorem DT {qual:Str} {st:Stmt} {f:Addr} {oc:Value} {od an:Option Addr} {osl:Array (Option Value)} {kV doc pm Yy ct:Value} (l:K.lookup f=some ⟨oc,od,.func (PySem.W.fnOf x qual (Bq st) (BY st) (AK st) .none kV doc pm an Yy ct),osl⟩)
 (c:PySem.W.codeIn K Yy qual=true) (k:PySem.W.keepIn K (.ref f)=true):Fun K x qual st f (PySem.W.fnOf x qual (Bq st) (BY st) (AK st) .none kV doc pm an Yy ct):=⟨⟨oc,od,kV,doc,pm,an,Yy,ct,osl,rfl,l,c⟩,k⟩
end
theorem Ag(h:n<=1000):n < sizeLine:=Nat.lt_of_le_of_lt h (by decide)
theorem Pw{A B:Prop}(h:B):if false=true then A else B:=by
 rw[if_neg Zh];exact h
theorem Ak{c A B:Prop}[Decidable c](h1:c->A)(h2:¬c->B):if c then A else B:=by
 by_cases h:c
 ·rw[if_pos h];exact h1 h
 ·rw[if_neg h];exact h2 h
noncomputable def Yb(H H':Hp):Prop:=∀b o,H b=some o->H' b=some o
theorem Yb.refl(H:Hp):Yb H H:=fun _ _ h=>h
theorem Yb.trans{H1 H2:Hp}(a:Yb H H1)(b:Yb H1 H2):Yb H H2:=fun c o h=>b c o (a c o h)
theorem Yb.free(e:Yb H H')(h:H' l=Option.none):H l=Option.none:=by
 cases q:H l with
 | none=>rfl
 | some o =>
  rw[e l o q]at h;cases h
theorem ES:∀(names:List (Str × NameKind)) (n:Nat) (Ys:List (Str × Addr)),cellsFrom n names Ys=cellsFrom n names []++Ys
 | [],_,_=>rfl
 | (name,kind)::r,n,Ys=>by
  unfold cellsFrom;split
  ·rw[ES r (n+1) ((name,n)::Ys),ES r (n+1) [(name,n)],ZBo];rfl
  ·exact ES r n Ys
theorem cellsFrom_kind:∀(names:List (Str × NameKind)) (n:Nat) (Ys:List (Str × Addr)) (x:Str) (c:Addr),(x,c)∈cellsFrom n names Ys->(x,c)∈Ys\/(x,NameKind.cell)∈names
 | [],_,_,_,_,h=>.inl h
 | (name,kind)::r,n,Ys,x,c,h=>by
  unfold cellsFrom at h;split at h
  ·rename_i hk
   rcases cellsFrom_kind r _ _ x c h with h | h
   ·rcases ZH.mp h with e | h
    ·cases e
     have:kind=.cell:=by simpa using hk
     subst this;exact .inr Zo
    ·exact .inl h
   ·exact .inr (Ze _ h)
  ·rcases cellsFrom_kind r _ _ x c h with h | h
   ·exact .inl h
   ·exact .inr (Ze _ h)
theorem GR{α:Type}:∀(l r:List (Str × α)),(l++r).lookup x=(match l.lookup x with | some c=>some c | none=>r.lookup x)
 | [],r=>rfl
 | (k,v)::l,r=>by
  show List.lookup x ((k,v)::(l++r))=_;rw[Z5,Z5];cases x == k with
  | true=>rfl
  | false=>exact GR l r
theorem Nf{α:Type}:∀{l:List (Str × α)},(∀c,(x,c)∉l)->l.lookup x=none
 | [],_=>rfl
 | (k,v)::l,h=>by
  rw[Z5];cases hb:x == k with
  | true =>
   have:x=k:=by simpa using hb
   subst this;exact absurd Zo (h v)
  | false=>exact Nf fun c hc=>h c (Ze _ hc)
noncomputable def BP(cells:List (Str × Addr)):List (Str × NameKind)->List (Str × Addr)->List (Str × Addr)
 | [],Ys=>Ys
 | (n,k)::r,Ys=>if k == .free then BP cells r ((n,(cells.lookup n).getD 0)::Ys) else BP cells r Ys
theorem LN{scope:Scope}{env:Env}(h:∀y∈scope.names,y.2=.free->∃c,env.cells.lookup y.1=some c):closureFor scope env=pure (BP env.cells scope.names []):=by
 have all:∀(names:List (Str × NameKind)) (Ys:List (Str × Addr)),(∀y∈names,y.2=.free->∃c,env.cells.lookup y.1=some c) ->
  (forIn names Ys fun(x:Str × NameKind) cs=>(if (x.2 == NameKind.free)=true then (do let a <- cellOf env x.1;pure (ForInStep.yield ((x.1,a)::cs))) else pure (ForInStep.yield cs):Sem (ForInStep (List (Str × Addr)))))=(pure (BP env.cells names Ys):Sem _):=by
  intro names
  induction names with
  | nil=>intro Ys _;rfl
  | cons y r ih =>
   intro Ys hy;obtain⟨n,k⟩:=y;rw[List.forIn_cons];have hr:∀y∈r,y.2=.free->∃c,env.cells.lookup y.1=some c:=fun y hm=>hy y (Ze _ hm)
   unfold BP
   by_cases hk:(k == NameKind.free)=true
   ·obtain⟨c,e⟩:=hy (n,k) Zo (by simpa using hk);rw[if_pos hk,if_pos hk];have e2:cellOf env n=pure c:=by unfold cellOf;rw[show env.cells.lookup n=some c from e]
    rw[e2];rw[show env.cells.lookup n=some c from e];exact ih _ hr
   ·rw[if_neg hk,if_neg hk];exact ih _ hr
 have q:=all scope.names [] h;unfold closureFor;refine Eq.trans ?_ (congrArg (fun t=>t >>= pure) q |>.trans (by rfl))
 congr 1
theorem clOf_mem{cells:List (Str × Addr)}:∀(names:List (Str × NameKind)) (Ys:List (Str × Addr)) (x:Str) (c:Addr),(∀y∈names,y.2=.free->∃c,cells.lookup y.1=some c)->(x,c)∈BP cells names Ys->(x,c)∈Ys\/((x,NameKind.free)∈names/\cells.lookup x=some c)
 | [],_,_,_,_,h=>.inl h
 | (n,k)::r,Ys,x,c,hy,h=>by
  have hr:∀y∈r,y.2=.free->∃c,cells.lookup y.1=some c:=fun y hm=>hy y (Ze _ hm)
  unfold BP at h;split at h
  ·rename_i hk;have hk':k=.free:=by simpa using hk
   subst hk';obtain⟨d,e⟩:=hy (n,.free) Zo rfl
   rcases clOf_mem r _ x c hr h with h | ⟨h,h'⟩
   ·rcases ZH.mp h with e' | h
    ·obtain⟨e1,e2⟩:=Prod.mk.inj e';rw[show cells.lookup n=some d from e]at e2;subst e1;exact .inr ⟨Zo,by rw[e2];exact e⟩
    ·exact .inl h
   ·exact .inr ⟨Ze _ h,h'⟩
  ·rcases clOf_mem r _ x c hr h with h | ⟨h,h'⟩
   ·exact .inl h
   ·exact .inr ⟨Ze _ h,h'⟩
theorem Iy{cells:List (Str × Addr)}:∀(names:List (Str × NameKind)) (Ys:List (Str × Addr)),(∃c,(x,c)∈Ys)->∃c,(x,c)∈BP cells names Ys
 | [],_,h=>h
 | (n,k)::r,Ys,⟨c,h⟩=>by
  unfold BP;split
  ·exact Iy r _ ⟨c,Ze _ h⟩
  ·exact Iy r _ ⟨c,h⟩
theorem J5{cells:List (Str × Addr)}:∀(names:List (Str × NameKind)) (Ys:List (Str × Addr)),(x,NameKind.free)∈names->∃c,(x,c)∈BP cells names Ys
 | (n,k)::r,Ys,h=>by
  unfold BP
  rcases ZH.mp h with e | h
  ·cases e;rw[if_pos (by decide)];exact Iy r _ ⟨_,Zo⟩
  ·split
   ·exact J5 r _ h
   ·exact J5 r _ h
theorem OV{α:Type}:∀{l:List (Str × α)},(∃c,(x,c)∈l)->∃c,l.lookup x=some c
 | (k,v)::l,⟨c,h⟩=>by
  rw[Z5];cases hb:x == k with
  | true=>exact⟨v,rfl⟩
  | false =>
   rcases ZH.mp h with e | h
   ·cases e;simp at hb
   ·exact OV ⟨c,h⟩
noncomputable def FP(scope sc:Scope):Scope :=
 { scope with names:=scope.names.map fun(n,k)=>if (k == .free && sc.kind == .function && sc.names.lookup n == some .cell) then (n,.cell) else (n,k) }
structure CompScope(scope sc:Scope):Prop where
 kind:scope.kind=.function
 nd:(scope.names.map (·.1)).Nodup
 fr:∀y∈scope.names,y.2=.free->sc.names.lookup y.1=some .cell\/sc.names.lookup y.1=some .free
theorem Df{α:Type}:∀{l:List (Str × α)} {x:Str} {c:α},(l.map (·.1)).Nodup->(x,c)∈l->l.lookup x=some c
 | (k,v)::l,x,c,nd,h=>by
  obtain⟨n1,n2⟩:=ZBc.mp (show(k::l.map (·.1)).Nodup from nd);rw[Z5]
  rcases ZH.mp h with e | h
  ·cases e;simp
  ·have Yv:¬x=k:=fun e=>n1 (by rw[<- e];exact ZJ.mpr ⟨(x,c),h,rfl⟩)
   have:(x == k)=false:=by simpa using Yv
   rw[this];exact Df n2 h
theorem LO{scope sc:Scope}:(FP scope sc).names.lookup x=(scope.names.lookup x).map fun k=>if (k == .free && sc.kind == .function && sc.names.lookup x == some .cell) then NameKind.cell else k:=by
 show(scope.names.map _).lookup x=_
 generalize scope.names=names
 induction names with
 | nil=>rfl
 | cons y r ih =>
  obtain⟨n,k⟩:=y;rw[Za]
  by_cases hc:(k == .free && sc.kind == .function && sc.names.lookup n == some .cell)=true
  ·show List.lookup x ((if (k == .free && sc.kind == .function && sc.names.lookup n == some .cell)=true then (n,NameKind.cell) else (n,k))::_)=_;rw[if_pos hc,Z5,Z5];cases hb:x == n with
   | true =>
    have hx:x=n:=by simpa using hb
    subst hx;show some NameKind.cell=some (if _ then _ else _);rw[if_pos hc]
   | false=>exact ih
  ·show List.lookup x ((if (k == .free && sc.kind == .function && sc.names.lookup n == some .cell)=true then (n,NameKind.cell) else (n,k))::_)=_;rw[if_neg hc,Z5,Z5];cases hb:x == n with
   | true =>
    have hx:x=n:=by simpa using hb
    subst hx;show some k=some (if _ then _ else _);rw[if_neg hc]
   | false=>exact ih
structure CArgs where
 Ya:List (Addr × Obj)
 cells:List (Str × Addr)
 s:Shared
 H:Hp
 fp:List Addr
 C:Addr
noncomputable def Cx.comp(X:Cx)(scope:Scope)(N':List Str)(c:CArgs):Cx where
 prog:=X.prog
 w:=X.w
 K:=X.K
 mg:=X.mg
 base:=X.base
 A:=X.A
 N:=N'
 s₀:=c.s
 H₀:=c.H
 env:=compEnvC scope c.cells c.C X.env
 outer:=X.stack
 stack:=X.stack
 ex:=c.fp
 fn:=fun x=>scope.names.lookup x == some .cell
 calm:=X.calm
 pn:=X.pn++c.Ya
 xe:=fun _ _=>False
noncomputable def cSt(own:Nat)(ix:List Nat)(Z:St):St:=List.replicate own none++ix.map fun i=>(Z[i]?).join
section
variable {X:Cx}{Ya:List (Addr × Obj)}{Z:St}{H:Hp}{s s4:Shared}{fp:List Addr}{scope:Scope}{N':List Str}{own:Nat}{ix:List Nat}
theorem Ot (I:Yg X Ya Z H s) (f2:∀b∈fp,BJ X Ya H b) (hob:∀b∈fp,∃o,s.heap.get? b=some o) (S:CompScope scope X.env.scope)
 (Yk:N'.length=own+ix.length) (hN:(N'.drop own).map some=ix.map (X.N[·]?)) (hfr:∀x∈N'.drop own,scope.names.lookup x=some .free)
 {C:Addr} (hC:s.heap.objs.size < C) (k4:∀b o,s.heap.get? b=some o->s4.heap.get? b=some o) (os4:s4.os=s.os) (g4:s4.gens=s.gens)
 (n4:∃m,s4.heap.Ns C m) (own4:∀x c,(x,c)∈cellsFrom (C+1) scope.names []->s4.heap.IsCell c none/\C+1<=c)
 (apart:(cellsFrom (C+1) scope.names []).Pairwise fun x y=>x.2≠y.2) :
 Yg (X.comp scope N' ⟨Ya,cellsFrom (C+1) scope.names (BP X.env.cells scope.names []),s,H,fp,C⟩) [] (cSt own ix Z) H s4:=by
 have hfree:∀y∈scope.names,y.2=.free->∃c,X.env.cells.lookup y.1=some c:=fun y hy h=>I.ok.has y.1 (S.fr y hy h)
 -- a cell of the block
 have cases:∀x c,(cellsFrom (C+1) scope.names (BP X.env.cells scope.names [])).lookup x=some c ->
  ((x,c)∈cellsFrom (C+1) scope.names []/\scope.names.lookup x=some .cell)\/((x,NameKind.free)∈scope.names/\X.env.cells.lookup x=some c):=fun x c h=>by
  rw[ES,GR]at h;cases e:(cellsFrom (C+1) scope.names []).lookup x with
  | some d =>
   rw[e]at h;cases h;have m:=mem_of_lookup e
   rcases cellsFrom_kind _ _ _ _ _ m with z | z
   ·exact absurd z (by simp)
   ·exact .inl ⟨m,Df S.nd z⟩
  | none =>
   rw[e]at h
   rcases clOf_mem _ _ _ _ hfree (mem_of_lookup h) with z | z
   ·exact absurd z (by simp)
   ·exact .inr z
 have oldlt:∀x c,X.env.cells.lookup x=some c->c < s.heap.objs.size:=fun x c e=>let ⟨v,q⟩:=I.cell x c e;q.lt
 have kin:∀x,(FP scope X.env.scope).names.lookup x=some .cell\/(FP scope X.env.scope).names.lookup x=some .free->(scope.names.lookup x=some .cell\/scope.names.lookup x=some .free):=fun x h=>by
  rw[LO]at h;cases e:scope.names.lookup x with
  | none=>rw[e]at h;simp at h
  | some k =>
   rw[e]at h;cases k with
   | cell=>exact .inl rfl
   | free=>exact .inr rfl
   | _=>exact absurd h (by simp)
 have hCn:∀b o,s.heap.get? b=some o->b≠C:=fun b o e z=>by have:=ZG e;rw[z]at this;exact Zd _ (ZBM this hC)
 have lk:∀x,(x,NameKind.free)∈scope.names->∀c,X.env.cells.lookup x=some c->(cellsFrom (C+1) scope.names (BP X.env.cells scope.names [])).lookup x=some c:=fun x hx c hc=>by
  have hl:scope.names.lookup x=some .free:=Df S.nd hx;rw[ES,GR,Nf (l:=cellsFrom (C+1) scope.names []) fun d hd=>?_]
  ·obtain⟨d,hd⟩:=OV (J5 (cells:=X.env.cells) scope.names [] hx)
   rcases clOf_mem _ _ _ _ hfree (mem_of_lookup hd) with z | ⟨_,z⟩
   ·exact absurd z (by simp)
   ·rw[hc]at z;cases z;exact hd
  ·rcases cellsFrom_kind _ _ _ _ _ hd with z | z
   ·exact absurd z (by simp)
   ·rw[Df S.nd z]at hl;cases hl
 refine⟨⟨I.ok.mod,S.kind,I.ok.glob,I.ok.blt,Zy hC,fun x y c hx hy=>?_,fun x hx=>?_,fun x c hf hx=>?_,I.ok.hd,I.ok.frames,.inl rfl,fun b hb=>⟨?_,fun x c hx=>?_⟩,fun b o e=>I.bs b o e,Zn I.ok.bsz I.sz,fun b o e hb=>?_,fun b hb z=>?_,I.stack,I.stkFree⟩,
  os4,by rw[g4];exact I.bare,Un.kept k4,?_,fun x c hx=>?_,?_,fun x c hx=>?_,fun p hp=>?_,I.hok.kept k4,?_⟩
 ·-- inj
  rcases cases x c hx with ⟨m1,_⟩ | ⟨_,m1⟩ <;> rcases cases y c hy with ⟨m2,_⟩ | ⟨_,m2⟩
  ·exact name_of_addr apart m1 m2
  ·exact absurd (ZX (ZBM (oldlt y c m2) hC) (ZBi (own4 x c m1).2)) (Zd _)
  ·exact absurd (ZX (ZBM (oldlt x c m1) hC) (ZBi (own4 y c m2).2)) (Zd _)
  ·exact I.ok.inj x y c m1 m2
 ·-- has
  rcases kin x hx with h | h
  ·have q:=PySem.W.cellsFrom_some scope.names (C+1) (BP X.env.cells scope.names []) (.inl h);exact Option.isSome_iff_exists.mp q
  ·obtain⟨c,e⟩:=hfree (x,.free) (mem_of_lookup h) rfl;exact⟨c,lk x (mem_of_lookup h) c e⟩
 ·-- cab
  rcases cases x c hx with ⟨m1,_⟩ | ⟨m1,_⟩
  ·exact Zy (ZX hC (ZBi (own4 x c m1).2))
  ·have hl:=Df S.nd m1;have hf':(scope.names.lookup x == some NameKind.cell)=true:=hf;rw[hl]at hf';cases hf'
 ·obtain⟨o,e⟩:=hob b hb;exact hCn b o e
 ·intro z;obtain⟨o,e⟩:=hob b hb;have Yr:=ZG e
  rcases cases x c hx with ⟨m1,_⟩ | ⟨_,m1⟩
  ·subst z;exact absurd (ZX (ZBM Yr hC) (ZBi (own4 x c m1).2)) (Zd _)
  ·exact(f2 b hb).2.2.2.2.1 x c m1 z
 ·-- noex
  have e1:=(I.ok.bs b o e).1
  rcases(f2 b hb).2.2.2.1 with z | z
  ·exact I.ok.noex b o e z
  ·exact absurd (ZX (ZG e1) z) (Zd _)
 ·-- exfs
  rcases ZH.mp (I.stkSub b z) with e | z
  ·exact(f2 b hb).2.1 e
  ·exact(f2 b hb).2.2.1 z
 ·-- loc
  obtain⟨m,hm⟩:=n4;obtain⟨m0,hn0,hl0⟩:=I.loc;refine⟨m,hm,fun i x v h1 h2 h3=>?_⟩;have h1:N'[i]? = some x:=h1;unfold cSt at h2
  by_cases hi:i < own
  ·rw[ZBL (by simpa using hi),ZB2]at h2;split at h2 <;> cases h2
  ·rw[ZBE (by simpa using hi),ZBh,ZP]at h2;obtain⟨j,hj⟩:∃j,i=own+j:=⟨i - own,by lia⟩;subst hj;rw[Nat.add_sub_cancel_left]at h2;cases e:ix[j]? with
   | none=>rw[e]at h2;cases h2
   | some q =>
    rw[e]at h2;have h2:some (Z[q]?).join=some (some v):=h2;have h2:(Z[q]?).join=some v:=ZU h2
    have hσ:Z[q]? = some (some v):=by
     cases eq:Z[q]? with
     | none=>rw[eq]at h2;cases h2
     | some z=>rw[eq]at h2;simp at h2;rw[h2]
    have hx:(N'.drop own)[j]? = some x:=by rw[List.getElem?_drop];exact h1
    have hNq:X.N[q]? = some x:=by
     have:=congrArg (·[j]?) hN
     simp only[ZP,hx,e,ZBe]at this;exact(ZU this).symm
    have hfx:=hfr x (Zt hx);have hmem:=mem_of_lookup hfx;have kx:=S.fr (x,.free) hmem rfl;have vis:Vis X.env.scope x:=.inr kx;obtain⟨u,r,l⟩:=hl0 q x v hNq hσ vis;refine⟨u,r,?_⟩
    rcases l with ⟨k,_⟩ | ⟨k,c,hc,z⟩
    ·exfalso;have k':X.env.scope.names.lookup x=some .local:=k
     rcases kx with kx | kx
     ·rw[show X.env.scope.names.lookup x=some .cell from kx]at k';cases k'
     ·rw[show X.env.scope.names.lookup x=some .free from kx]at k';cases k'
    ·refine .inr ⟨?_,c,lk x hmem c hc,z.keeps k4⟩
     show(FP scope X.env.scope).names.lookup x=some .cell\/(FP scope X.env.scope).names.lookup x=some .free
     rw[LO,hfx]
     by_cases hc:(NameKind.free == .free && X.env.scope.kind == .function && X.env.scope.names.lookup x == some .cell)=true
     ·exact .inl (by rw[ZBe,if_pos hc])
     ·exact .inr (by rw[ZBe,if_neg hc])
 ·rcases cases x c hx with ⟨m1,_⟩ | ⟨_,m1⟩
  ·exact⟨_,(own4 x c m1).1⟩
  ·obtain⟨v,q⟩:=I.cell x c m1;exact⟨v,q.keeps k4⟩
 ·exact I.hok.fresh (Zy hC)
 ·rcases cases x c hx with ⟨m1,_⟩ | ⟨_,m1⟩
  ·exact I.hok.fresh (Zy (ZX hC (ZBi (own4 x c m1).2)))
  ·exact I.freeC x c m1
 ·have hp:p∈X.pn++Ya:=by
   have:p∈(X.pn++Ya)++[]:=hp
   rwa [Zw]at this
  obtain⟨e,n,ne,nf,d⟩:=I.pin p hp;refine⟨k4 _ _ e,n,hCn _ _ e,fun z=>?_,d⟩
  rcases ZH.mp (I.stkSub _ z) with q | q
  ·exact ne q
  ·exact nf q
 ·unfold cSt;rw[ZM,ZBh,ZB];exact Yk.symm
end
section
variable {prog:Program}{w:World}{A:Around}{R:Result->Shared->Prop}{s:Shared}
theorem Us {elt target iter:Expr} {ifs:List Expr} {scope:Scope} {it Ys:Value} {env:Env} (I:Nat->Shared->Prop)
 (turn:∀n s,I n s->wpAny (model prog w) A (pyNext it) (fun r s₁=>match r with
   | none=>R (.ok .next) s₁
   | some v=>wpAny (model prog w) A (letOwnedTupleGo target it v) (fun _ s₁'=>wpAny (model prog w) A (assign target env v) (fun _ s₂ =>
    wpAny (model prog w) A (forIn ifs true fun c r=>if r=true then do let ok <- isTrue c env (eval c env);pure (ForInStep.yield ok) else pure (ForInStep.yield r)) (fun ok s₃ =>
     if ok=true then wpAny (model prog w) A (eval elt env) (fun x s₄ =>
      wpAny (model prog w) A (call (.builtin "list.append") [Ys,x]) (fun _ s₅=>∃m,m < n/\I m s₅) (fun _ _=>False) s₄) (fun _ _=>False) s₃
     else ∃m,m < n/\I m s₃) (fun _ _=>False) s₂) (fun _ _=>False) s₁') (fun _ _=>False) s₁) (fun _ _=>False) s)
 (n:Nat) (h:I n s) :
 codeAny (model prog w) A (.compLoop (.ListComp elt [⟨target,iter,ifs,0⟩] scope pos) 0 it Ys env) R s:=by
 refine codeAny_loop rfl I (fun n s hI=>?_) n h;show wpAny _ A ((compTurn (.ListComp elt [⟨target,iter,ifs,0⟩] scope pos) 0 it Ys env).onRaise (fun x=>do noteFrame x env;theTreesLotGoes x)) _ _ s;refine wpAny_noted ?_;rw[compTurn_list];refine ZA (ZBZ (ZA (Zs (turn n s hI) (fun r s₁ h₁=>?_) fun _ _ h'=>h'.elim)));cases r with
 | none=>exact ZC h₁
 | some v =>
  refine ZA (Zs h₁ (fun _ s₁' h₁'=>?_) fun _ _ h'=>h'.elim);refine ZA (Zs h₁' (fun _ s₂ h₂=>ZA (Zs h₂ (fun ok s₃ h₃=>?_) fun _ _ h'=>h'.elim)) fun _ _ h'=>h'.elim);cases ok with
  | false=>exact ZC ⟨rfl,h₃⟩
  | true =>
   exact ZA (ZA (Zs h₃ (fun x s₄ h₄=>ZA (Zs h₄ (fun _ s₅ h₅=>ZC (ZC ⟨rfl,h₅⟩)) fun _ _ h'=>h'.elim)) fun _ _ h'=>h'.elim))
end
noncomputable def PTs(X:Cx)(ifs:List Expr)(t:TT):Prop :=
 ∀(Ya:List (Addr × Obj)) (s:Shared) (Z:St) (H:Hp) (Q:Bool->Hp->Prop),Yg X Ya Z H s->t Z H Q ->
  wpAny (model X.prog X.w) X.A (forIn ifs true fun c r=>if r=true then do let ok <- isTrue c X.env (eval c X.env);pure (ForInStep.yield ok) else pure (ForInStep.yield r)) (TP X Ya Z Q) X.xe s
noncomputable def Um:TT:=fun _ H Q=>Q true H
theorem Am:PTs X [] Um:=fun _ _ _ H _ I h=>wpAny_tests_nil ⟨H,I,h⟩
theorem D7{c:Expr}{t:TT}(h:PT X c t):PTs X [c] t:=fun Ya s Z H Q I hq=>wpAny_tests_one (h Ya s Z H Q I hq)
noncomputable def DP(own:Nat)(g:TG):Prop:=∀x Z H Q,g x Z H Q->g x Z H fun σ' H'=>(σ'.length=Z.length/\∀i,own<=i->σ'[i]? = Z[i]?)/\Q σ' H'
noncomputable def GN(own:Nat)(g:TGs):Prop:=∀x Z H Q,g x Z H Q->g x Z H fun σ' H'=>(σ'.length=Z.length/\∀i,own<=i->σ'[i]? = Z[i]?)/\Q σ' H'
theorem Ac(h:i < own):DP own (AT i):=fun x Z H Q q =>
 ⟨⟨by simp,fun j hj=>by rw[List.getElem?_set_ne (by lia)]⟩,q⟩
theorem EM:GN own HI:=fun x Z H Q ⟨e,q⟩=>⟨e,⟨rfl,fun _ _=>rfl⟩,q⟩
noncomputable def DR(g:TG):Prop:=∀x Z H (Q Q':St->Hp->Prop),(∀Z H,Q Z H->Q' Z H)->g x Z H Q->g x Z H Q'
noncomputable def FB(g:TGs):Prop:=∀x Z H (Q Q':St->Hp->Prop),(∀Z H,Q Z H->Q' Z H)->g x Z H Q->g x Z H Q'
theorem BR:DR (AT i):=fun _ _ _ _ _ h q=>h _ _ q
theorem By:FB HI:=fun _ _ _ _ _ h ⟨e,q⟩=>⟨e,h _ _ q⟩
theorem DX{t:TG}{u:TGs}(h1:DR t)(h2:FB u):FB (Jf t u):=fun _ _ _ _ _ h ⟨v,r,e,q⟩=>⟨v,r,e,h1 _ _ _ _ _ (fun _ _ q=>h2 _ _ _ _ _ h q) q⟩
theorem B6{t:TG}{u:TGs}(m:DR t)(mu:FB u)(h1:DP own t)(h2:GN own u):GN own (Jf t u):=fun x Z H Q ⟨v,r,e,q⟩ =>
 ⟨v,r,e,m _ _ _ _ _ (fun σ' H' ⟨⟨e1,e2⟩,q⟩=>mu _ _ _ _ _ (fun σ'' H'' ⟨⟨e3,e4⟩,q⟩=>⟨⟨e3.trans e1,fun i hi=>(e4 i hi).trans (e2 i hi)⟩,q⟩) (h2 r σ' H' Q q)) (h1 v Z H _ q)⟩
theorem Ei{t:TGs}(h:GN own t):DP own (KW K n t):=fun x Z H Q ⟨a,xs,e,s,l,q⟩=>⟨a,xs,e,s,l,h _ _ _ _ q⟩
theorem QL{ix:List Nat}(h:(cSt own ix Z)[i]? = some (some v)):own<=i:=by
 unfold cSt at h
 by_cases hi:i < own
 ·rw[ZBL (by simpa using hi),ZB2]at h;split at h <;> cases h
 ·lia
noncomputable def C9(J:It)(g:TG)(tc:TT)(te:TE)(σc:St)(Q:VK)(H1:Hp):Prop :=
 ∃W:Nat->Nat->List V->Hp->Prop,(∃m,W 0 m [] H1)/\∀i m ys H,W i m ys H ->
  (J.stop i H/\∀p,H p=none->Q (.ref p) (upd H p (.lst ys))) \/
  (J.go i H/\ys.length < sizeLine/\∃N:List V->Hp->Prop,(∀ys' H',N ys' H'->∃m',m' < m/\W (i+1) m' ys' H')/\∀x H',J.yld i H x H'->g x σc H' fun σ4 H4=>tc σ4 H4 fun b H5 =>
    if b=true then te σ4 H5 fun y H6=>N (ys++[y]) H6 else N ys H5)
noncomputable def Fd(wi:TI)(own:Nat)(ix:List Nat)(g:TG)(tc:TT)(te:TE):TE:=fun Z H Q=>wi Z H fun J H1=>C9 J g tc te (cSt own ix Z) Q H1
section
variable {X:Cx}{Ya:List (Addr × Obj)}{Z:St}{H:Hp}{s:Shared}{fp:List Addr}{it:Addr}{tn:Nat->Heap->Prop}{J:It}{tg iter elt:Expr}{ifs:List Expr}{scope:Scope}{pos:Pos}{N':List Str}{own:Nat}{ix:List Nat}{g:TG}{tc:TT}{te:TE}{Q:VK}{E:Value->Shared->Prop}
theorem NA (I:Yg X Ya Z H s) (T:Turn X.prog X.w X.K tg J fp it tn) (st:tn 0 s.heap) (f2:∀b∈fp,BJ X Ya H b) (hc:X.calm=true) (S:CompScope scope X.env.scope)
 (Yk:N'.length=own+ix.length) (hN:(N'.drop own).map some=ix.map (X.N[·]?)) (hfr:∀x∈N'.drop own,scope.names.lookup x=some .free)
 (hg:∀c,PG (X.comp scope N' c) tg g) (hgo:DP own g) (ht:∀c,PTs (X.comp scope N' c) ifs tc) (he:∀c,PE (X.comp scope N' c) elt te)
 (hq:C9 J g tc te (cSt own ix Z) Q H) {RR:Value->Addr->Result->Shared->Prop}
 (fin:∀(D C:Addr) (s':Shared) (H':Hp) (ys:List V) (Ye:List Value) (n:Nat),s'.os=s.os->AllBare s'.gens->Un (frs X.stack) fp H H' s.heap s'.heap->HOk X.prog X.w H' s'.heap->(∃m,s'.heap.Ns C m)->H' C=none->s.heap.objs.size<=C ->
   H' D=none->s.heap.objs.size<=D->D≠C->s'.heap.get? D=some { cls:=.type "list",data:=.seq Ye.toArray n } -> Yi ys Ye->ys.length<=sizeLine->(∀p,H' p=none->Q (.ref p) (upd H' p (.lst ys)))->RR (.ref D) C (.ok .next) s') :
 wpAny (model X.prog X.w) X.A (newList []) (fun Ys s₃=>wpAny (model X.prog X.w) X.A (newFunctionEnv scope X.env.globals (BP X.env.cells scope.names []) [] X.env.qual none .none (some X.env)) (fun cenv s₄ =>
  codeAny (model X.prog X.w) X.A (.compStart (.ListComp elt [⟨tg,iter,ifs,0⟩] scope pos) 0 (.ref it) Ys { cenv with scope:=relabel scope X.env }) (RR Ys cenv.locals) s₄) E s₃) E s:=by
 obtain⟨W,⟨m0,w0⟩,turn⟩:=hq;have hob:∀b∈fp,∃o,s.heap.get? b=some o:=fun b hb=>let ⟨o,e,_⟩:=T.obj 0 _ st b hb;⟨o,e⟩
 refine Zx ?_;generalize hH1:s.heap.push { cls:=.type "list",dict:=none,data:=.seq ([]:List Value).toArray } = h1;have hs1:h1.objs.size=s.heap.objs.size+1:=by rw[<- hH1,Z4]
 have k1:∀b o,s.heap.get? b=some o->h1.get? b=some o:=fun b o e=>by rw[<- hH1];exact ZI _ e
 have d1:h1.get? s.heap.objs.size=some { cls:=.type "list",data:=.seq ([]:List Value).toArray }:=by rw[<- hH1];exact ZS _ rfl
 simp only[newFunctionEnv,Option.isSome_some,if_true];refine ZA (wpAny_alloc ?_);generalize hH2:(({ s with heap:=h1 }:Shared).heap.push { cls:=.type "dict",data:=.dict #[] })=h2;have hH2':h1.push { cls:=.type "dict",data:=.dict #[] } = h2:=hH2;have hs2:h2.objs.size=h1.objs.size+1:=by rw[<- hH2',Z4]
 have k2:∀b o,h1.get? b=some o->h2.get? b=some o:=fun b o e=>by rw[<- hH2'];exact ZI _ e
 have n2:h2.Ns h1.objs.size (fun _=>none):=by rw[<- hH2'];exact Heap.Ns.new h1 (.type "dict")
 refine ZA (wpAny_layCells _ (fun name kind cells=>by cases hkc:kind == NameKind.cell <;> simp[hkc]) _ _ _ _ ?_);have ok:=cellsFrom_ok scope.names h2 (h1.objs.size+1) [] ⟨fun _ _ hm=>(nomatch hm),List.Pairwise.nil⟩ (by rw[hs2];exact ZE _);rw[hs2]at ok;show wpAny _ _ (forIn ([]:List (Str × Value)) PUnit.unit _ >>= _) _ _ _;rw[List.forIn_nil];refine ZA (ZC (ZC ?_));show codeAny _ _ (.compStart _ 0 (.ref it) (.ref s.heap.objs.size) (compEnvC scope (cellsFrom h2.objs.size scope.names (BP X.env.cells scope.names [])) h1.objs.size X.env)) (RR (.ref s.heap.objs.size) h1.objs.size) { s with heap:=pushCells h2 scope.names };rw[hs2];generalize hH3:pushCells h2 scope.names=h3 at ok ⊢;have k3:∀b o,h2.get? b=some o->h3.get? b=some o:=fun b o e=>by rw[<- hH3];exact pushCells_keeps _ _ b o e
 have kk:∀b o,s.heap.get? b=some o->h3.get? b=some o:=fun b o e=>k3 b o (k2 b o (k1 b o e))
 have d3:h3.get? s.heap.objs.size=some { cls:=.type "list",data:=.seq ([]:List Value).toArray }:=k3 _ _ (k2 _ _ d1);have hC:s.heap.objs.size < h1.objs.size:=by rw[hs1];exact ZBJ _
 have I3:Yg (X.comp scope N' ⟨Ya,cellsFrom (h1.objs.size+1) scope.names (BP X.env.cells scope.names []),s,H,fp,h1.objs.size⟩) [] (cSt own ix Z) H { s with heap:=h3 } :=
  Ot (s4:={ s with heap:=h3 }) I f2 hob S Yk hN hfr hC kk rfl rfl ⟨_,n2.keeps k3⟩ (fun x c hm=>ok.empty x c hm) ok.apart
 generalize hcs:cellsFrom (h1.objs.size+1) scope.names (BP X.env.cells scope.names [])=cs at I3 ⊢;generalize hCC:h1.objs.size=C at *;generalize hDD:s.heap.objs.size=D at *;have hY:=I3.ok
 -- what is fixed of the records
 have sD:D≠C/\(∀x c,cs.lookup x=some c->c≠D)/\D∉frs X.stack/\∀p∈X.pn++Ya,p.1≠D:=by
  refine⟨ZT hC,fun x c e z=>?_,fun z=>?_,fun p hp z=>?_⟩
  ·subst z;have e':=e;rw[<- hcs,ES,GR]at e';cases q:(cellsFrom (C+1) scope.names []).lookup x with
   | some d =>
    rw[q]at e';cases e'
    have:=(ok.empty x c (mem_of_lookup q)).2
    exact absurd (ZX hC (ZBi this)) (Zd _)
   | none =>
    rw[q]at e';have hfree:∀y∈scope.names,y.2=.free->∃c,X.env.cells.lookup y.1=some c:=fun y hy h=>I.ok.has y.1 (S.fr y hy h)
    rcases clOf_mem _ _ _ _ hfree (mem_of_lookup e') with z | ⟨_,z⟩
    ·exact absurd z (by simp)
    ·obtain⟨v,q⟩:=I.cell x c z
     have:=q.lt
     rw[hDD]at this;exact Zd _ this
  ·exact(I3.nofs (a:=D) (by exact absurd z (by
    intro z';obtain⟨_,o,ho,_⟩:=(show s.heap.FunFrames X.base X.stack from I.stack).mem z'
    have:=ZG ho
    rw[hDD]at this;exact Zd _ this))) z
  ·have:=ZG (I.pin p hp).1
   rw[z,hDD]at this;exact Zd _ this
 have stat:∀{H':Hp},(∀b∈fp,H' b=none)->∀b∈fp,BJ (X.comp scope N' ⟨Ya,cs,s,H,fp,C⟩) [] H' b:=fun {H'} hn b hb=>by
  refine⟨hn b hb,(hY.exf b hb).1,hY.exfs b hb,.inl hb,(hY.exf b hb).2,fun p hp=>?_⟩;have hp:p∈(X.pn++Ya)++[]:=hp;rw[Zw]at hp;exact(f2 b hb).2.2.2.2.2 p hp
 have statD:∀{H':Hp},H' D=none->BJ (X.comp scope N' ⟨Ya,cs,s,H,fp,C⟩) [] H' D:=fun {H'} hn=>by
  refine⟨hn,sD.1,sD.2.2.1,.inr (ZBa hDD),sD.2.1,fun p hp=>?_⟩;have hp:p∈(X.pn++Ya)++[]:=hp;rw[Zw]at hp;exact sD.2.2.2 p hp
 have loop:codeAny (model X.prog X.w) X.A (.compLoop (.ListComp elt [⟨tg,iter,ifs,0⟩] scope pos) 0 (.ref it) (.ref D) (compEnvC scope cs C X.env)) (RR (.ref D) C) { s with heap:=h3 }:=by
  refine Us (fun n s'=>∃(i:Nat) (H':Hp) (ys:List V) (Ye:List Value) (k:Nat),Yg (X.comp scope N' ⟨Ya,cs,s,H,fp,C⟩) [] (cSt own ix Z) H' s'/\tn i s'.heap/\(∀b∈fp,H' b=none)/\H' D=none /\
   s'.heap.get? D=some { cls:=.type "list",data:=.seq Ye.toArray k } /\ Yi ys Ye/\ys.length<=sizeLine/\W i n ys H') ?_ m0
   ⟨0,H,[],[],0,I3,T.keep _ _ _ st fun b _ o e=>kk b o e,fun b hb=>(f2 b hb).1,I.hok.fresh (ZBa hDD),d3,.nil,ZV _,w0⟩
  rintro n s4 ⟨i,H4,ys,Ye,k,I4,st4,fr4,dn4,d4,rv4,z4,w4⟩
  rcases turn i n ys H4 w4 with ⟨stop,qn⟩ | ⟨go,zl,N,hN2,step⟩
  ·have ID:=I4.pinned (fp:=[D]) (fun b hb=>by rw[ZO.mp hb];exact statD dn4) (fun b hb=>by rw[ZO.mp hb];exact⟨_,d4,fun v z=>nomatch z⟩)
   have nD:∀b∈fp,b≠D:=fun b hb z=>by
    obtain⟨o,e⟩:=hob b hb
    have:=ZG e
    rw[z,hDD]at this;exact Zd _ this
   have stat':∀b∈fp,BJ (X.comp scope N' ⟨Ya,cs,s,H,fp,C⟩) ([]++CL [D] s4.heap) H4 b:=fun b hb=>by
    obtain⟨q1,q2,q3,q4,q5,q6⟩:=stat fr4 b hb;refine⟨q1,q2,q3,q4,q5,fun p hp=>?_⟩
    rcases Zb.mp hp with z | z
    ·exact q6 p (Zv _ z)
    ·have:=(Kf (by simpa using z:p∈CL [D] s4.heap)).1
     rw[ZO.mp this];exact fun z=>nD b hb z.symm
   refine Yn (T.done (X.comp scope N' ⟨Ya,cs,s,H,fp,C⟩) rfl rfl rfl hc i _ s4 _ H4 (fun _ _=>False) ID stat' st4 stop) fun r s5 ⟨hr,I5⟩=>?_
   subst hr;obtain⟨m,hm,_⟩:=I5.loc;refine fin D C s5 H4 ys Ye k I5.os I5.bare I5.base I5.hok ⟨m,hm⟩ I5.free (Zy hC) dn4 (ZE _) sD.1 ?_ rv4 z4 qn
   ·exact(I5.pin (D,_) (ZY _ (ZY _ (Ck (ZO.mpr rfl) d4)))).1
  ·have nD:∀b∈fp,b≠D:=fun b hb z=>by
    obtain⟨o,e⟩:=hob b hb
    have:=ZG e
    rw[z,hDD]at this;exact Zd _ this
   have ID:=I4.pinned (fp:=[D]) (fun b hb=>by rw[ZO.mp hb];exact statD dn4) (fun b hb=>by rw[ZO.mp hb];exact⟨_,d4,fun v z=>nomatch z⟩)
   have statP:∀{H':Hp},(∀b∈fp,H' b=none)->∀b∈fp,BJ (X.comp scope N' ⟨Ya,cs,s,H,fp,C⟩) ([]++CL [D] s4.heap) H' b:=fun {H'} hn b hb=>by
    obtain⟨q1,q2,q3,q4,q5,q6⟩:=stat hn b hb;refine⟨q1,q2,q3,q4,q5,fun p hp=>?_⟩
    rcases Zb.mp hp with z | z
    ·exact q6 p (Zv _ z)
    ·have:=(Kf (by simpa using z:p∈CL [D] s4.heap)).1
     rw[ZO.mp this];exact fun z=>nD b hb z.symm
   refine Yn (T.item (X.comp scope N' ⟨Ya,cs,s,H,fp,C⟩) rfl rfl rfl hc i _ s4 _ H4 (fun _ _=>False) ID (statP fr4) st4 go) fun r s5 ⟨u,hr,h5⟩=>?_
   subst hr;refine Yn h5 fun _ s6 ⟨x,H6,I6,r6,y6,st6,fr6⟩=>?_
   have I6':=I6.pinned (statP fr6) (T.obj _ _ st6);refine Yn (hg _ _ s6 _ H6 x u _ I6' r6 (hgo _ _ _ _ (step x H6 y6))) fun _ s7 ⟨σ7,H7,I7,⟨e7,k7⟩,q7⟩=>?_
   have I7':Yg (X.comp scope N' ⟨Ya,cs,s,H,fp,C⟩) ([]++CL [D] s4.heap++CL fp s6.heap) σ7 H7 s7:=I7;refine Yn (ht _ _ s7 σ7 H7 _ I7' q7) fun b s8 ⟨H8,I8,q8⟩=>?_
   -- what is kept through the turn
   have back:∀{s9:Shared} {H9:Hp},Yg (X.comp scope N' ⟨Ya,cs,s,H,fp,C⟩) ([]++CL [D] s4.heap++CL fp s6.heap) σ7 H9 s9 ->
    Yg (X.comp scope N' ⟨Ya,cs,s,H,fp,C⟩) [] (cSt own ix Z) H9 s9/\tn (i+1) s9.heap/\(∀b∈fp,H9 b=none)/\H9 D=none/\s9.heap.get? D=some { cls:=.type "list",data:=.seq Ye.toArray k }:=fun {s9 H9} I9=>by
    have pD:=I9.pin (D,_) (ZY _ (Zv _ (ZY _ (Ck (ZO.mpr rfl) d4))));refine⟨I9.unpinned.unpinned.weak (by rw[e7]) fun j v hj=>?_,T.keep _ _ _ st6 fun b hb o e=>(I9.pin (b,o) (ZY _ (ZY _ (Ck hb e)))).1,fun b hb=>?_,pD.2.1,pD.1⟩
    ·rw[k7 j (QL hj)];exact hj
    ·obtain⟨o,e,_⟩:=T.obj _ _ st6 b hb;exact(I9.pin (b,o) (ZY _ (ZY _ (Ck hb e)))).2.1
   cases b with
   | false =>
    rw[if_neg Zh]at q8;obtain⟨m',hm,w8⟩:=hN2 _ _ q8;obtain⟨b1,b2,b3,b4,b5⟩:=back I8;exact⟨m',hm,i+1,H8,ys,Ye,k,b1,b2,b3,b4,b5,rv4,z4,w8⟩
   | true =>
    rw[if_pos rfl]at q8;rw[if_pos rfl];refine Yn (he _ _ s8 σ7 H8 _ I8 q8) fun yv s9 ⟨y,H9,I9,r9,q9⟩=>?_
    obtain⟨m',hm,w9⟩:=hN2 _ _ q9;obtain⟨b1,b2,b3,b4,b5⟩:=back I9;have hl:=rv4.length;refine call_meets F.slot_list_append ⟨_,b5,rfl⟩ F.entry_list_append (F.args_list_append_2 _ _) (PySem.list_append D Ye.toArray k yv (by rw[ZK];lia)) ⟨b5,?_⟩;have up:=PySem.IsL.update b5 (fun a=>a.push yv);have keep:∀b o,b≠D->s9.heap.get? b=some o->(s9.heap.update D (Obj.mapSeq fun a=>a.push yv)).get? b=some o:=fun b o hb q=>(ZBF _ _ (Ne.symm hb)).trans q
    obtain⟨f0,f1,f2',f3,f4,f5⟩:=statD b4;refine⟨m',hm,i+1,H9,ys++[y],Ye++[yv],(if ((Ye.toArray.push yv).size == Ye.toArray.size)=true then k else k+1),b1.turned (t':=s9.toks) keep b4 f1 f3 f4 f5,?_,b3,b4,?_,rv4.append (.cons r9 .nil),?_,w9⟩
    ·exact T.keep _ _ _ b2 fun b hb o e=>keep b o (nD b hb) e
    ·have e2:(Ye.toArray.push yv)=(Ye++[yv]).toArray:=by simp
     rw[<- e2];exact up
    ·rw[ZM,List.length_singleton];lia
 exact codeAny_compStart_list loop (T.self X.A 0 _ _ _ (T.keep _ _ _ st fun b _ o e=>kk b o e) loop)
end
section
variable {X:Cx}{Ya:List (Addr × Obj)}{Z:St}{H:Hp}{s:Shared}{fp:List Addr}{it:Addr}{tn:Nat->Heap->Prop}{J:It}{tg iter elt:Expr}{ifs:List Expr}{scope:Scope}{pos:Pos}{N':List Str}{own:Nat}{ix:List Nat}{g:TG}{tc:TT}{te:TE}{wi:TI}{E:Value->Shared->Prop}
theorem Kn {s':Shared} {D:Addr} {ys:List V} {Ye:List Value} (I:Yg X Ya Z H s) (f2:∀b∈fp,BJ X Ya H b) (ho:s'.os=s.os) (hg:AllBare s'.gens) (u:Un (frs X.stack) fp H H' s.heap s'.heap) (hok:HOk X.prog X.w H' s'.heap)
 (dn:H' D=none) (ds:s.heap.objs.size<=D) (d:s'.heap.get? D=some { cls:=.type "list",data:=.seq Ye.toArray n }) (rv:Yi ys Ye) (z:ys.length<=sizeLine):Yg X Ya Z (upd H' D (.lst ys)) s':=by
 have nD:∀b o,s.heap.get? b=some o->b≠D:=fun b o e q=>by rw[q,Heap.get?_none_of_le ds]at e;cases e
 have nH:∀b o,H' b=some o->b≠D:=fun b o e q=>by rw[q,dn]at e;cases e
 refine I.call' (ch:=fp) ho ⟨u.keep,u.slot,fun b o e q hx=>?_,u.there,fun b xs e=>?_,fun b o v e=>?_,fun b ps e=>?_⟩ (fun b o e=>?_) hg fun b hb=>?_
 ·rw[AJ (nD b o e)];exact u.free b o e q hx
 ·have:=u.tups b xs e
  rw[AJ (nH _ _ this)];exact this
 ·have:=u.frzs b o v e
  rw[AJ (nH _ _ this)];exact this
 ·obtain⟨more,q⟩:=u.tbls b ps e;exact⟨more,by rw[AJ (nH _ _ q)];exact q⟩
 ·by_cases hb:b=D
  ·subst hb;rw[AD]at e;cases e;exact⟨z,Ye,n,rv,d⟩
  ·rw[AJ hb]at e;exact(hok b o e).stay (fun _ _ _ q=>q) (fun c q=>by rw[AJ (nH _ _ q)];exact q) fun c xs q=>by rw[AJ (nH _ _ q)];exact q
 ·obtain⟨q1,q2,q3,q4,q5,q6⟩:=f2 b hb;exact⟨q4,q2,q5,q6⟩
theorem Yg.dictGone{s':Shared}{h':Heap}{C:Addr}{σ':St}(I:Yg X Ya Z H s)(J:Yg X Ya σ' H' s')(hC:s.heap.objs.size<=C)(hn:H' C=none)(k:Heap.SameBut C s'.heap h'):Yg X Ya σ' H' { s' with heap:=h' }:=by
 have hC0:=Heap.get?_none_of_le hC;refine J.turned (t':=s'.toks) (fun b o hb e=>(k.2 b hb).trans e) hn (fun z=>?_) (.inr (Zn I.sz hC)) (fun x c e z=>?_) fun p hp z=>?_
 ·obtain⟨m,⟨o,_,_,ho,_⟩,_⟩:=I.loc;rw[<- z,hC0]at ho;cases ho
 ·obtain⟨v,o,ho,_⟩:=I.cell x c e;rw[z,hC0]at ho;cases ho
 ·have:=(I.pin p hp).1
  rw[z,hC0]at this;cases this
theorem V4 (hc:X.calm=true) (hi:PI X tg iter wi) (S:CompScope scope X.env.scope)
 (Yk:N'.length=own+ix.length) (hN:(N'.drop own).map some=ix.map (X.N[·]?)) (hfr:∀x∈N'.drop own,scope.names.lookup x=some .free)
 (hg:∀c,PG (X.comp scope N' c) tg g) (hgo:DP own g) (ht:∀c,PTs (X.comp scope N' c) ifs tc) (he:∀c,PE (X.comp scope N' c) elt te)
 (hs:∀x,foldedSetIterable iter X.env x=pure x:=by intro _;rfl):PE X (.ListComp elt [⟨tg,iter,ifs,0⟩] scope pos) (Fd wi own ix g tc te):=by
 intro Ya s Z H Q I h;rw[eval_ListComp];have hfree:∀y∈scope.names,y.2=.free->∃c,X.env.cells.lookup y.1=some c:=fun y hy h=>I.ok.has y.1 (S.fr y hy h)
 refine wpAny_comprehension_free (use:=none) rfl hs (LN hfree) S.kind (fun y hy hl=>Df S.nd (by rw[<- hl];exact hy)) ?_;refine Yn (hi Ya s Z H _ I h) fun v s1 h1=>Yn h1 fun itv s2 h2=>?_
 obtain⟨it,fp,tn,J,H2,e,I2,T,st2,f2,q2⟩:=h2;subst e;refine NA (RR:=fun Ys C=>compPost (model X.prog X.w) X.A X.xe none (EP X Ya Z Q) Ys C) I2 T st2 f2 hc S Yk hN hfr hg hgo ht he q2 ?_;intro D C s' H' ys Ye n ho hgn u hok hm hC hCs hD hDs hDC d rv z q;obtain⟨m,hm⟩:=hm;have I3:=Kn I2 f2 ho hgn u hok hD hDs d rv z;refine⟨m,hm,fun h' hs'=>?_⟩;exact⟨.ref D,_,I2.dictGone I3 hCs (by rw[AJ (Ne.symm hDC)];exact hC) hs',rfl,q D hD⟩
theorem PH {y:Str} {py spos:Pos} (hc:X.calm=true) (hnd:X.N.Nodup) (hiy:X.N[i]? = some y) (hy:X.env.scope.names.lookup y=some .local) (hi:PI X tg iter wi) (S:CompScope scope X.env.scope)
 (Yk:N'.length=own+ix.length) (hN:(N'.drop own).map some=ix.map (X.N[·]?)) (hfr:∀x∈N'.drop own,scope.names.lookup x=some .free)
 (hg:∀c,PG (X.comp scope N' c) tg g) (hgo:DP own g) (ht:∀c,PTs (X.comp scope N' c) ifs tc) (he:∀c,PE (X.comp scope N' c) elt te)
 (hsw:swapsWith (.ListComp elt [⟨tg,iter,ifs,0⟩] scope pos) (some (.Name y py)) spos.line X.env=pure true)
 (hs:∀x,foldedSetIterable iter X.env x=pure x:=by intro _;rfl):PS X (.Assign [.Name y py] (.ListComp elt [⟨tg,iter,ifs,0⟩] scope pos) spos) (EC (Fd wi own ix g tc te) (AT i)):=by
 intro Ya s Z H D I h;rw[exec_Assign_Name_used _ _ _ _ hsw];refine ZA (ZBZ (ZA ?_));show wpAny _ _ (do let _ <- comprehension (.ListComp elt [⟨tg,iter,ifs,0⟩] scope pos) scope X.env _ (newList []) false (eval iter X.env) (some (assign (.Name y py) X.env))) _ _ s;have hfree:∀y∈scope.names,y.2=.free->∃c,X.env.cells.lookup y.1=some c:=fun y hy h=>I.ok.has y.1 (S.fr y hy h)
 refine ZA (Zs (wpAny_comprehension_free (use:=some (assign (.Name y py) X.env)) (Q:=fun _ s'=>SP X Ya D .next s') rfl hs (LN hfree) S.kind (fun y hy hl=>Df S.nd (by rw[<- hl];exact hy)) ?_) (fun _ s' hq=>ZC (ZC hq)) fun _ _ e=>e);refine Yn (hi Ya s Z H _ I h) fun v s1 h1=>Yn h1 fun itv s2 h2=>?_
 obtain⟨it,fp,tn,J,H2,e,I2,T,st2,f2,q2⟩:=h2;subst e;refine NA (RR:=fun Ys C=>compPost (model X.prog X.w) X.A X.xe (some (assign (.Name y py) X.env)) (fun _ s'=>SP X Ya D .next s') Ys C) I2 T st2 f2 hc S Yk hN hfr hg hgo ht he q2 ?_;intro d C s' H' ys Ye n ho hgn u hok hm hC hCs hD hDs hDC hd rv z q;obtain⟨m,hm⟩:=hm;have I3:=Kn I2 f2 ho hgn u hok hD hDs hd rv z;show wpAny _ _ (assign (.Name y py) X.env (.ref d)) _ _ s';have hCn:(upd H' d (.lst ys)) C=none:=by rw[AJ (Ne.symm hDC)];exact hC
 refine wpAny_assign_Name (MP I3 hnd hiy (.inl hy) (v:=.ref d) rfl (fun s3 I4 ⟨a,sb,ha⟩=>?_) (.inr hy))
 have ha':a≠C:=fun e=>by
  have hC0:=Heap.get?_none_of_le hCs
  rcases ha with z | z
  ·obtain⟨m,⟨o,_,_,ho,_⟩,_⟩:=I2.loc;rw[<- z,e,hC0]at ho;cases ho
  ·obtain⟨v,o,ho,_⟩:=I2.cell y a z;rw[e,hC0]at ho;cases ho
 refine⟨m,hm.sameBut sb (Ne.symm ha'),fun h' hs'=>?_⟩;exact⟨_,_,I2.dictGone I4 hCs hCn hs',q d hD⟩
end
section
variable {X:Cx}
theorem PE.imp{e:Expr}{t t':TE}(h:PE X e t)(f:∀Z H Q,t' Z H Q->t Z H Q):PE X e t':=fun Ya s Z H Q I q=>h Ya s Z H Q I (f Z H Q q)
theorem Yt.imp{f:Value->Value->Sem Value}{r':R2}(h:Yt X f r)(g:∀x y H Q,r' x y H Q->r x y H Q):Yt X f r':=fun Ya s Z H x y v u Q I rx ry q=>h Ya s Z H x y v u Q I rx ry (g _ _ _ _ q)
theorem CallR.imp{f:Value}{r r':List V->Hp->VK->Prop}(h:CallR X f r)(g:∀x H Q,r' x H Q->r x H Q):CallR X f r':=fun Ya s Z H xs us Q I r q=>h Ya s Z H xs us Q I r (g _ _ _ q)
noncomputable def Gq(i:Nat):TE:=fun Z H Q=>match Z[i]? with
 | some (some v)=>Q v H
 | _=>False
theorem vv (i:Nat) (hN:X.N[i]? = some x:=by rfl) (hv:Vis X.env.scope x:=by first | exact Or.inl rfl | exact Or.inr (Or.inl rfl) | exact Or.inr (Or.inr rfl)) (hd:(x == ("__debug__" : Str))=false:=by decide)
 (hcd:(x == ("__classdict__" : Str))=false:=by decide):PE X (.Name x pos) (Gq i):=(SC hN hv hd hcd).imp fun Z H Q q=>by
 unfold Gq at q;split at q
 ·rename_i v e;exact⟨v,e,q⟩
 ·exact q.elim
noncomputable def okMul(i j:Int):Prop:=(i.natAbs < 2 ^ 4096/\j.natAbs < 2 ^ 4096)\/(-(2 ^ 64) < i/\i < 2 ^ 64)\/(-(2 ^ 64) < j/\j < 2 ^ 64)
theorem Mi{i:Int}(h:i.natAbs < 2 ^ 4096):Builtin.Int.intBits i<=2 ^ 20:=by
 unfold Builtin.Int.intBits;split
 ·exact ZV _
 ·rename_i hz
  have Yv:i.natAbs≠0:=by
   have:¬i=0:=by simpa using hz
   lia
  have:=(Nat.log2_lt Yv).mpr h
  have e:(2:Nat) ^ 20=1048576:=by decide
  lia
theorem okMul.ok{i j:Int}(h:okMul i j):IntMulOk i j:=by
 rcases h with ⟨h1,h2⟩ | h | h
 ·exact .of_bits (Mi h1) (Mi h2)
 ·exact CMul.ok (.inl h)
 ·exact CMul.ok (.inr h)
noncomputable def okDiv(j:Int):Prop:=0 < j/\j < 2 ^ 4096
theorem okDiv.ok{i j:Int}(h:okDiv j):Builtin.divisionGoesByPylong i j=false:=by
 refine PyProof.noPylong_of_log2 ?_;obtain⟨h1,h2⟩:=h;have Yv:j.natAbs≠0:=by lia
 have h3:j.natAbs < 2 ^ 4096:=by
  have e:((j.natAbs:Int))=j:=by lia
  have h2':((j.natAbs:Nat):Int) < ((2 ^ 4096:Nat):Int):=by rw[e,Int.natCast_pow];exact h2
  exact Int.ofNat_lt.mp h2'
 have:=(Nat.log2_lt Yv).mpr h3
 lia
noncomputable def ET(K:W.Frag):R2:=fun x y H Q=>match x,y with
 | .int i,.int j=>Q (.int (i+j)) H
 | .str a,.str b=>a.length+b.length<=sizeLine/\Q (.str (a++b)) H
 | .ref a,.ref b=>Ju (.ref a) (.ref b) H Q\/MQ K (.ref a) (.ref b) H Q
 | _,_=>False
theorem Pi:Yt X (binaryOp .Add) (ET X.K):=by
 intro Ya s Z H x y v u Q I rx ry q
 cases x <;> cases y <;> first
  | exact False.elim q
  | exact NW Ya s Z H _ _ v u Q I rx ry ⟨_,_,rfl,rfl,q⟩
  | exact Wi Ya s Z H _ _ v u Q I rx ry ⟨_,_,rfl,rfl,q.1,q.2⟩
  | (rcases q with q | q
     ·exact K4 Ya s Z H _ _ v u Q I rx ry q
     ·exact N1 Ya s Z H _ _ v u Q I rx ry q)
noncomputable def Hs:R2:=fun x y H Q=>match x,y with
 | .int i,.int j=>Q (.int (i - j)) H
 | _,_=>False
theorem DC:Yt X (binaryOp .Sub) Hs:=by
 intro Ya s Z H x y v u Q I rx ry q
 cases x <;> cases y <;> first
  | exact False.elim q
  | exact UI Ya s Z H _ _ v u Q I rx ry ⟨_,_,rfl,rfl,q⟩
noncomputable def KS:R2:=fun x y H Q=>match x,y with
 | .int i,.int j=>okMul i j/\Q (.int (i * j)) H
 | .ref a,.int k=>OR (.ref a) (.int k) H Q
 | _,_=>False
theorem CO:Yt X (binaryOp .Mult) KS:=by
 have hI:Yt X (binaryOp .Mult) (rI okMul fun i j=>.int (i * j)):=opI fun _ _ _ _ _ _ _ hc q=>mul_int q hc.ok
 intro Ya s Z H x y v u Q I rx ry q
 cases x <;> cases y <;> first
  | exact False.elim q
  | exact hI Ya s Z H _ _ v u Q I rx ry ⟨_,_,rfl,rfl,q.1,q.2⟩
  | exact UO Ya s Z H _ _ v u Q I rx ry q
noncomputable def IU:R2:=fun x y H Q=>match x,y with
 | .int i,.int j=>okDiv j/\Q (.int (i / j)) H
 | _,_=>False
theorem FO:Yt X (binaryOp .FloorDiv) IU:=by
 have hI:Yt X (binaryOp .FloorDiv) (rI (fun _ j=>okDiv j) fun i j=>.int (i / j)):=opI fun i j _ _ _ _ _ hc q=>by
  refine floordiv_int (by have:=hc.1;lia) ?_ (.inl hc.ok);rw[Int.fdiv_eq_ediv_of_nonneg i (by have:=hc.1;lia)];exact q
 intro Ya s Z H x y v u Q I rx ry q
 cases x <;> cases y <;> first
  | exact False.elim q
  | exact hI Ya s Z H _ _ v u Q I rx ry ⟨_,_,rfl,rfl,q.1,q.2⟩
noncomputable def HS:R2:=fun x y H Q=>match x,y with
 | .int i,.int j=>0 < j/\Q (.int (i % j)) H
 | _,_=>False
theorem DJ:Yt X (binaryOp .Mod) HS:=by
 intro Ya s Z H x y v u Q I rx ry q
 cases x <;> cases y <;> first
  | exact False.elim q
  | exact Tp Ya s Z H _ _ v u Q I rx ry ⟨_,_,rfl,rfl,q.1,q.2⟩
noncomputable def Jb:R2:=fun x y H Q=>match x,y with
 | .int i,.int j=>Fn i j/\Q (.int (i ^ j.toNat)) H
 | _,_=>False
theorem OL:Yt X (binaryOp .Pow) Jb:=by
 intro Ya s Z H x y v u Q I rx ry q
 cases x <;> cases y <;> first
  | exact False.elim q
  | exact Vt Ya s Z H _ _ v u Q I rx ry ⟨_,_,rfl,rfl,q.1,q.2⟩
noncomputable def Gd(f:Int->Int->Int):R2:=fun x y H Q=>match x,y with
 | .int i,.int j=>Q (.int (f i j)) H
 | _,_=>False
theorem E6:Yt X (binaryOp .BitAnd) (Gd Builtin.bitAnd):=by
 intro Ya s Z H x y v u Q I rx ry q
 cases x <;> cases y <;> first
  | exact False.elim q
  | exact QD Ya s Z H _ _ v u Q I rx ry ⟨_,_,rfl,rfl,q⟩
noncomputable def QO:R2:=fun x y H Q=>match x,y with
 | .int i,.int j=>0<=j/\Q (.int (i / 2 ^ j.toNat)) H
 | _,_=>False
theorem SH:Yt X (binaryOp .RShift) QO:=by
 intro Ya s Z H x y v u Q I rx ry q
 cases x <;> cases y <;> first
  | exact False.elim q
  | exact WR Ya s Z H _ _ v u Q I rx ry ⟨_,_,rfl,rfl,q.1,q.2⟩
noncomputable def Gy:R2:=fun x y H Q=>match x,y with
 | .int i,.int j=>Fn i j/\Q (.int (i * 2 ^ j.toNat)) H
 | _,_=>False
theorem Mt:Yt X (binaryOp .LShift) Gy:=by
 intro Ya s Z H x y v u Q I rx ry q
 cases x <;> cases y <;> first
  | exact False.elim q
  | exact O5 Ya s Z H _ _ v u Q I rx ry ⟨_,_,rfl,rfl,q.1,q.2⟩
noncomputable def IC:V->Hp->VK->Prop:=fun x H Q=>match x with
 | .int i=>Q (.int (-i)) H
 | _=>False
theorem N2:UnR X (unaryOp .USub) IC:=by
 intro Ya s Z H x v Q I rx q
 cases x <;> first
  | exact False.elim q
  | exact Vu Ya s Z H _ v Q I rx ⟨_,rfl,q⟩
noncomputable def EX(p:Int->Int->Bool):R2:=fun x y H Q=>match x,y with
 | .int i,.int j=>Q (.bl (p i j)) H
 | _,_=>False
theorem Cu:Yt X (compareOp .Lt) (EX fun i j=>decide (i < j)):=by
 intro Ya s Z H x y v u Q I rx ry q
 cases x <;> cases y <;> first
  | exact False.elim q
  | exact Oq Ya s Z H _ _ v u Q I rx ry ⟨_,_,rfl,rfl,q⟩
theorem G4:Yt X (compareOp .LtE) (EX fun i j=>decide (i<=j)):=by
 intro Ya s Z H x y v u Q I rx ry q
 cases x <;> cases y <;> first
  | exact False.elim q
  | exact T9 Ya s Z H _ _ v u Q I rx ry ⟨_,_,rfl,rfl,q⟩
theorem Cb:Yt X (compareOp .Gt) (EX fun i j=>decide (j < i)):=by
 intro Ya s Z H x y v u Q I rx ry q
 cases x <;> cases y <;> first
  | exact False.elim q
  | exact TQ Ya s Z H _ _ v u Q I rx ry ⟨_,_,rfl,rfl,q⟩
theorem Gk:Yt X (compareOp .GtE) (EX fun i j=>decide (j<=i)):=by
 intro Ya s Z H x y v u Q I rx ry q
 cases x <;> cases y <;> first
  | exact False.elim q
  | exact Oy Ya s Z H _ _ v u Q I rx ry ⟨_,_,rfl,rfl,q⟩
end
inductive Dv where
 | non | bl (b:Bool) | int (i:Int) | str (x:Str) | tup (ds:List Dv) | lst (ds:List Dv)
mutual
noncomputable def Yf(K:W.Frag)(H:Hp):Dv->V->Prop
 | .non,v=>v=.non
 | .bl b,v=>v=.bl b
 | .int i,v=>v=.int i
 | .str x,v=>v=.str x
 | .tup ds,v=>∃a xs,v=.ref a/\Yp K H a xs/\Yc K H ds xs
 | .lst ds,v=>∃a xs,v=.ref a/\Yw K H a xs/\Yc K H ds xs
noncomputable def Yc(K:W.Frag)(H:Hp):List Dv->List V->Prop
 | [],xs=>xs=[]
 | d::ds,xs=>∃x r,xs=x::r/\Yf K H d x/\Yc K H ds r
end
mutual
noncomputable def eqD:Dv->Dv->Bool
 | .non,.non=>true
 | .bl a,.bl b=>a == b
 | .bl a,.int b=>(if a then 1 else 0) == b
 | .int a,.bl b=>a == (if b then 1 else 0)
 | .int a,.int b=>a == b
 | .str a,.str b=>a == b
 | .tup ds,.tup es=>BO ds es
 | .lst ds,.lst es=>BO ds es
 | _,_=>false
noncomputable def BO:List Dv->List Dv->Bool
 | [],[]=>true
 | d::ds,e::es=>eqD d e && BO ds es
 | _,_=>false
end
mutual
noncomputable def A4:Dv->Nat
 | .tup ds=>CM ds+1
 | .lst ds=>CM ds+1
 | _=>0
noncomputable def CM:List Dv->Nat
 | []=>0
 | d::ds=>max (A4 d) (CM ds)
end
theorem QJ(ds es:List Dv):eqD (.tup ds) (.tup es)=BO ds es:=by rw[eqD]
theorem Fh(ds es:List Dv):eqD (.lst ds) (.lst es)=BO ds es:=by rw[eqD]
theorem Yc.length:∀{ds:List Dv} {xs:List V},Yc K H ds xs->ds.length=xs.length
 | [],xs,h=>by unfold Yc at h;subst h;rfl
 | d::ds,xs,h=>by
  unfold Yc at h;obtain⟨x,r,rfl,_,h⟩:=h;rw[Zi,Zi,Yc.length h]
theorem Yc.get:∀{ds:List Dv} {xs:List V} {i:Nat} {d:Dv},Yc K H ds xs->ds[i]? = some d->∃x,xs[i]? = some x/\Yf K H d x
 | [],_,_,_,_,e=>by simp at e
 | d::ds,xs,0,_,h,e=>by
  unfold Yc at h;obtain⟨x,r,rfl,h1,_⟩:=h;simp at e;subst e;exact⟨x,rfl,h1⟩
 | d::ds,xs,i+1,_,h,e=>by
  unfold Yc at h;obtain⟨x,r,rfl,_,h⟩:=h;obtain⟨y,h1,h2⟩:=Yc.get (i:=i) h (by simpa using e);exact⟨y,by simpa using h1,h2⟩
theorem Lh{d:Dv}(h:ds[i]? = some d):A4 d<=CM ds:=by
 induction ds generalizing i with
 | nil=>simp at h
 | cons e es ih =>
  unfold CM;cases i with
  | zero=>simp at h;subst h;lia
  | succ i=>have:=ih (i:=i) (by simpa using h);lia
theorem JD:∀(ds es:List Dv),ds.length=es.length->BO ds es=(List.range ds.length).all fun i=>match ds[i]?,es[i]? with | some d,some e=>eqD d e | _,_=>false
 | [],[],_=>by unfold BO;rfl
 | d::ds,e::es,h=>by
  unfold BO;rw[Zi,List.range_succ_eq_map,List.all_cons,List.all_map,JD ds es (by simpa using h)]
  congr 1
 | [],e::es,h=>by simp at h
 | d::ds,[],h=>by simp at h
theorem HC:∀(ds es:List Dv),ds.length≠es.length->BO ds es=false
 | [],[],h=>absurd rfl h
 | [],_::_,_=>by unfold BO;rfl
 | _::_,[],_=>by unfold BO;rfl
 | d::ds,e::es,h=>by unfold BO;rw[HC ds es (fun z=>h (by simp[z])),Bool.and_false]
mutual
theorem HV:∀d:Dv,eqD d d=true
 | .non=>by unfold eqD;rfl
 | .bl b=>by unfold eqD;simp
 | .int i=>by unfold eqD;simp
 | .str x=>by unfold eqD;simp
 | .tup ds=>by unfold eqD;exact GO ds
 | .lst ds=>by unfold eqD;exact GO ds
theorem GO:∀ds:List Dv,BO ds ds=true
 | []=>by unfold BO;rfl
 | d::ds=>by unfold BO;rw[HV d,GO ds];rfl
end
section
variable {X:Cx}{Ya:List (Addr × Obj)}{Z:St}{H:Hp}{s:Shared}
theorem NQ{ys:List V}(I:Yg X Ya Z H s)(h:Yw X.K H a xs)(h':Yp X.K H a ys):False:=by
 obtain⟨Ye,_,⟨o,n,e,c,_⟩,_⟩:=I.list h;obtain⟨its',_,⟨o',e',c',_⟩,_⟩:=I.tuple h';rw[e]at e';cases e';rw[c]at c';exact absurd c' (by decide)
mutual
theorem Fu(I:Yg X Ya Z H s):∀(d e:Dv) (x:V),Yf X.K H d x->Yf X.K H e x->d=e
 | .non,e,x,h,h'=>by
  unfold Yf at h;subst h;cases e <;> unfold Yf at h' <;> first | rfl | (obtain⟨a,xs,q,_⟩:=h';cases q;done) | (cases h';done)
 | .bl b,e,x,h,h'=>by
  unfold Yf at h;subst h;cases e <;> unfold Yf at h' <;> first | (obtain⟨a,xs,q,_⟩:=h';cases q;done) | (cases h';rfl) | (cases h';done)
 | .int b,e,x,h,h'=>by
  unfold Yf at h;subst h;cases e <;> unfold Yf at h' <;> first | (obtain⟨a,xs,q,_⟩:=h';cases q;done) | (cases h';rfl) | (cases h';done)
 | .str b,e,x,h,h'=>by
  unfold Yf at h;subst h;cases e <;> unfold Yf at h' <;> first | (obtain⟨a,xs,q,_⟩:=h';cases q;done) | (cases h';rfl) | (cases h';done)
 | .tup ds,e,x,h,h'=>by
  unfold Yf at h;obtain⟨a,xs,rfl,hs,hr⟩:=h;cases e with
  | tup es =>
   unfold Yf at h';obtain⟨b,ys,q,hs',hr'⟩:=h';cases q;rw[I.tuple_inj hs' hs]at hr';rw[KY I ds es xs hr hr']
  | lst es =>
   unfold Yf at h';obtain⟨b,ys,q,hs',hr'⟩:=h';cases q;exact(NQ I hs' hs).elim
  | _=>unfold Yf at h';cases h'
 | .lst ds,e,x,h,h'=>by
  unfold Yf at h;obtain⟨a,xs,rfl,hs,hr⟩:=h;cases e with
  | lst es =>
   unfold Yf at h';obtain⟨b,ys,q,hs',hr'⟩:=h';cases q;rw[I.list_inj hs' hs]at hr';rw[KY I ds es xs hr hr']
  | tup es =>
   unfold Yf at h';obtain⟨b,ys,q,hs',hr'⟩:=h';cases q;exact(NQ I hs hs').elim
  | _=>unfold Yf at h';cases h'
theorem KY(I:Yg X Ya Z H s):∀(ds es:List Dv) (xs:List V),Yc X.K H ds xs->Yc X.K H es xs->ds=es
 | [],es,xs,h,h'=>by
  unfold Yc at h;subst h;cases es with
  | nil=>rfl
  | cons e es=>unfold Yc at h';obtain⟨x,r,q,_⟩:=h';cases q
 | d::ds,es,xs,h,h'=>by
  unfold Yc at h;obtain⟨x,r,rfl,h1,h2⟩:=h;cases es with
  | nil=>unfold Yc at h';cases h'
  | cons e es =>
   unfold Yc at h';obtain⟨y,r',q,h3,h4⟩:=h';cases q;rw[Fu I d e _ h1 h3,KY I ds es _ h2 h4]
end
noncomputable abbrev Eq3(A:Around)(s:Shared)(u v:Value)(b:Bool):Prop:=SeqAt.EqAt A s u v b/\SeqAt.RcAt A s u v b/\SeqAt.RcNeAt A s u v (!b)
theorem Rb {b:Addr} {ys:List V} {es:List Dv} (I:Yg X Ya Z H s) (hu:A.units < cLine) (ha:Yp X.K H a xs) (hb:Yp X.K H b ys) (hd:Yc X.K H ds xs) (he:Yc X.K H es ys)
 (ih:∀(i:Nat) (d e:Dv) (x y:V) (u v:Value),ds[i]? = some d->es[i]? = some e->xs[i]? = some x->ys[i]? = some y->Yh x u->Yh y v->SeqAt.EqAt A.in1 s u v (eqD d e)):Eq3 A s (.ref a) (.ref b) (eqD (.tup ds) (.tup es)):=by
 obtain⟨Ye,r1,p1,_⟩:=I.tuple ha;obtain⟨its2,r2,p2,_⟩:=I.tuple hb;have l1:=hd.length;have l2:=he.length;have l3:=r1.length;have l4:=r2.length
 have hitem:∀j (h1:j < Ye.toArray.size) (h2:j < its2.toArray.size),SeqAt.EqAt A.in1 s Ye.toArray[j] its2.toArray[j] (match ds[j]?,es[j]? with | some d,some e=>eqD d e | _,_=>false):=fun j h1 h2=>by
  rw[ZK]at h1 h2;have e1:ds[j]? = some ds[j]:=ZD (by lia);have e2:es[j]? = some es[j]:=ZD (by lia);have e3:xs[j]? = some xs[j]:=ZD (by lia);have e4:ys[j]? = some ys[j]:=ZD (by lia);obtain⟨u,q1,q2⟩:=r1.get e3;obtain⟨v,q3,q4⟩:=r2.get e4;rw[e1,e2];have z1:Ye.toArray[j]=u:=by rw[ZBq];rw[ZD h1]at q1;exact ZU q1
  have z2:its2.toArray[j]=v:=by rw[ZBq];rw[ZD h2]at q3;exact ZU q3
  rw[z1,z2];exact ih j _ _ _ _ _ _ e1 e2 e3 e4 q2 q4
 have val:((List.range (min Ye.toArray.size its2.toArray.size)).all (fun j=>match ds[j]?,es[j]? with | some d,some e=>eqD d e | _,_=>false) && Ye.toArray.size == its2.toArray.size)=eqD (.tup ds) (.tup es):=by
  rw[ZK,ZK,<- l3,<- l4,<- l1,<- l2,QJ]
  by_cases h:ds.length=es.length
  ·rw[h,Nat.min_self,<- h,JD ds es h];simp
  ·rw[HC ds es h]
   have:(ds.length == es.length)=false:=by simpa using h
   rw[this,Bool.and_false]
 have R:=SeqAt.RcAt.tuples (A:=A) p1 p2 hu hitem;have N:=SeqAt.RcNeAt.tuples (A:=A) p1 p2 hu hitem;rw[val]at R N;refine⟨?_,R,N⟩
 by_cases hab:a=b
 ·subst hab
  have e:ds=es:=by
   have:=Fu I (.tup ds) (.tup es) (.ref a) (by unfold Yf;exact⟨a,xs,rfl,ha,hd⟩) (by unfold Yf;exact⟨a,ys,rfl,hb,he⟩)
   cases this;rfl
  subst e;rw[HV];exact SeqAt.EqAt.same _
 ·exact .of_refs hab R
theorem Sn {b:Addr} {ys:List V} {es:List Dv} (I:Yg X Ya Z H s) (hu:A.units < cLine) (ha:Yw X.K H a xs) (hb:Yw X.K H b ys) (hd:Yc X.K H ds xs) (he:Yc X.K H es ys)
 (ih:∀(i:Nat) (d e:Dv) (x y:V) (u v:Value),ds[i]? = some d->es[i]? = some e->xs[i]? = some x->ys[i]? = some y->Yh x u->Yh y v->SeqAt.EqAt A.in1 s u v (eqD d e)):Eq3 A s (.ref a) (.ref b) (eqD (.lst ds) (.lst es)):=by
 obtain⟨Ye,r1,p1,_⟩:=I.list ha;obtain⟨its2,r2,p2,_⟩:=I.list hb;have l1:=hd.length;have l2:=he.length;have l3:=r1.length;have l4:=r2.length
 have hitem:∀j (h1:j < Ye.toArray.size) (h2:j < its2.toArray.size),SeqAt.EqAt A.in1 s Ye.toArray[j] its2.toArray[j] (match ds[j]?,es[j]? with | some d,some e=>eqD d e | _,_=>false):=fun j h1 h2=>by
  rw[ZK]at h1 h2;have e1:ds[j]? = some ds[j]:=ZD (by lia);have e2:es[j]? = some es[j]:=ZD (by lia);have e3:xs[j]? = some xs[j]:=ZD (by lia);have e4:ys[j]? = some ys[j]:=ZD (by lia);obtain⟨u,q1,q2⟩:=r1.get e3;obtain⟨v,q3,q4⟩:=r2.get e4;rw[e1,e2];have z1:Ye.toArray[j]=u:=by rw[ZBq];rw[ZD h1]at q1;exact ZU q1
  have z2:its2.toArray[j]=v:=by rw[ZBq];rw[ZD h2]at q3;exact ZU q3
  rw[z1,z2];exact ih j _ _ _ _ _ _ e1 e2 e3 e4 q2 q4
 have RN:SeqAt.RcAt A s (.ref a) (.ref b) (eqD (.lst ds) (.lst es))/\SeqAt.RcNeAt A s (.ref a) (.ref b) (!eqD (.lst ds) (.lst es)):=by
  by_cases h:ds.length=es.length
  ·have hsz:Ye.toArray.size=its2.toArray.size:=by rw[ZK,ZK];lia
   have val:(List.range Ye.toArray.size).all (fun j=>match ds[j]?,es[j]? with | some d,some e=>eqD d e | _,_=>false)=eqD (.lst ds) (.lst es):=by
    rw[Fh,ZK,<- l3,<- l1,JD ds es h]
   have R:=SeqAt.RcAt.lists (A:=A) p1.isList p2.isList hsz hu hitem;have N:=SeqAt.RcNeAt.lists (A:=A) p1.isList p2.isList hsz hu hitem;rw[val]at R N;exact⟨R,N⟩
  ·have hsz:(Ye.toArray.size != its2.toArray.size)=true:=by rw[ZK,ZK];simp;lia
   have val:eqD (.lst ds) (.lst es)=false:=by rw[Fh];exact HC ds es h
   rw[val];exact⟨SeqAt.RcAt.lists_lengths p1.isList p2.isList hsz hu,SeqAt.RcNeAt.lists_lengths p1.isList p2.isList hsz hu⟩
 refine⟨?_,RN.1,RN.2⟩
 by_cases hab:a=b
 ·subst hab
  have e:ds=es:=by
   have:=Fu I (.lst ds) (.lst es) (.ref a) (by unfold Yf;exact⟨a,xs,rfl,ha,hd⟩) (by unfold Yf;exact⟨a,ys,rfl,hb,he⟩)
   cases this;rfl
  subst e;rw[HV];exact SeqAt.EqAt.same _
 ·exact .of_refs hab RN.1
theorem HU(I:Yg X Ya Z H s):∀(n:Nat) (A:Around) (d e:Dv) (x y:V) (u v:Value),A4 d<=n->A.units+n < cLine->Yf X.K H d x->Yf X.K H e y->Yh x u->Yh y v->Eq3 A s u v (eqD d e):=by
 intro n
 induction n with
 | zero =>
  intro A d e x y u v hd hu hx hy ru rv;have hu':A.units < cLine:=by lia
  cases d with
  | tup ds=>unfold A4 at hd;lia
  | lst ds=>unfold A4 at hd;lia
  | non =>
   unfold Yf at hx;subst hx;cases ru;cases e <;> unfold Yf at hy
   case non=>subst hy;cases rv;exact⟨SeqAt.EqAt.same _,SeqAt.RcAt.none_none,SeqAt.RcNeAt.none_none⟩
   case bl=>subst hy;cases rv;exact⟨.none_bool _,.none_bool _,.none_bool _⟩
   case int=>subst hy;obtain⟨t,rfl⟩:=rv;exact⟨.none_int _ _,.none_int _ _,.none_int _ _⟩
   case str=>subst hy;obtain⟨t,rfl⟩:=rv;exact⟨.none_str _ _,.none_str _ _,.none_str _ _⟩
   case tup=>obtain⟨a,xs,rfl,ha,_⟩:=hy;cases rv;obtain⟨Ye,_,p,_⟩:=I.tuple ha;exact⟨.none_tuple p hu',.none_tuple p hu',.none_tuple p hu'⟩
   case lst=>obtain⟨a,xs,rfl,ha,_⟩:=hy;cases rv;obtain⟨Ye,_,p,_⟩:=I.list ha;exact⟨.none_list p.isList hu',.none_list p.isList hu',.none_list p.isList hu'⟩
  | bl c =>
   unfold Yf at hx;subst hx;cases ru;cases e <;> unfold Yf at hy
   case non=>subst hy;cases rv;exact⟨.bool_none _,.bool_none _,.bool_none _⟩
   case bl=>subst hy;cases rv;unfold eqD;exact⟨.bool_bool _ _,.bool_bool _ _,.bool_bool _ _⟩
   case int=>subst hy;obtain⟨t,rfl⟩:=rv;unfold eqD;exact⟨.bool_int _ _ _,.bool_int _ _ _,.bool_int _ _ _⟩
   case str=>subst hy;obtain⟨t,rfl⟩:=rv;exact⟨.bool_str _ _ _,.bool_str _ _ _,.bool_str _ _ _⟩
   case tup=>obtain⟨a,xs,rfl,ha,_⟩:=hy;cases rv;obtain⟨Ye,_,p,_⟩:=I.tuple ha;exact⟨.bool_tuple _ p hu',.bool_tuple _ p hu',.bool_tuple _ p hu'⟩
   case lst=>obtain⟨a,xs,rfl,ha,_⟩:=hy;cases rv;obtain⟨Ye,_,p,_⟩:=I.list ha;exact⟨.bool_list _ p.isList hu',.bool_list _ p.isList hu',.bool_list _ p.isList hu'⟩
  | int c =>
   unfold Yf at hx;subst hx;obtain⟨t0,rfl⟩:=ru;cases e <;> unfold Yf at hy
   case non=>subst hy;cases rv;exact⟨.int_none _ _,.int_none _ _,.int_none _ _⟩
   case bl=>subst hy;cases rv;unfold eqD;exact⟨.int_bool _ _ _,.int_bool _ _ _,.int_bool _ _ _⟩
   case int=>subst hy;obtain⟨t,rfl⟩:=rv;unfold eqD;exact⟨.int_int _ _ _ _,.int_int _ _ _ _,.int_int _ _ _ _⟩
   case str=>subst hy;obtain⟨t,rfl⟩:=rv;exact⟨.int_str _ _ _ _,.int_str _ _ _ _,.int_str _ _ _ _⟩
   case tup=>obtain⟨a,xs,rfl,ha,_⟩:=hy;cases rv;obtain⟨Ye,_,p,_⟩:=I.tuple ha;exact⟨.int_tuple _ _ p hu',.int_tuple _ _ p hu',.int_tuple _ _ p hu'⟩
   case lst=>obtain⟨a,xs,rfl,ha,_⟩:=hy;cases rv;obtain⟨Ye,_,p,_⟩:=I.list ha;exact⟨.int_list _ _ p.isList hu',.int_list _ _ p.isList hu',.int_list _ _ p.isList hu'⟩
  | str c =>
   unfold Yf at hx;subst hx;obtain⟨t0,rfl⟩:=ru;cases e <;> unfold Yf at hy
   case non=>subst hy;cases rv;exact⟨.str_none _ _,.str_none _ _,.str_none _ _⟩
   case bl=>subst hy;cases rv;exact⟨.str_bool _ _ _,.str_bool _ _ _,.str_bool _ _ _⟩
   case int=>subst hy;obtain⟨t,rfl⟩:=rv;exact⟨.str_int _ _ _ _,.str_int _ _ _ _,.str_int _ _ _ _⟩
   case str=>subst hy;obtain⟨t,rfl⟩:=rv;unfold eqD;exact⟨.str_str _ _ _ _,.str_str _ _ _ _,.str_str _ _ _ _⟩
   case tup=>obtain⟨a,xs,rfl,ha,_⟩:=hy;cases rv;obtain⟨Ye,_,p,_⟩:=I.tuple ha;exact⟨.str_tuple _ _ p hu',.str_tuple _ _ p hu',.str_tuple _ _ p hu'⟩
   case lst=>obtain⟨a,xs,rfl,ha,_⟩:=hy;cases rv;obtain⟨Ye,_,p,_⟩:=I.list ha;exact⟨.str_list _ _ p.isList hu',.str_list _ _ p.isList hu',.str_list _ _ p.isList hu'⟩
 | succ n ih =>
  intro A d e x y u v hd hu hx hy ru rv;have hu':A.units < cLine:=by lia
  have hin:A.in1.units+n < cLine:=by show A.units+1+n < cLine;lia
  cases d with
  | tup ds =>
   unfold A4 at hd;unfold Yf at hx;obtain⟨a,xs,rfl,ha,hr⟩:=hx;cases ru;cases e <;> unfold Yf at hy
   case tup es =>
    obtain⟨b,ys,rfl,hb,hr'⟩:=hy;cases rv;refine Rb I hu' ha hb hr hr' fun i d e x y u v e1 e2 e3 e4 ru rv=>?_
    obtain⟨x',q1,q2⟩:=hr.get e1;obtain⟨y',q3,q4⟩:=hr'.get e2;rw[e3]at q1;cases q1;rw[e4]at q3;cases q3;exact(ih A.in1 d e x y u v (by have:=Lh e1;lia) hin q2 q4 ru rv).1
   case non=>subst hy;cases rv;obtain⟨Ye,_,p,_⟩:=I.tuple ha;exact⟨.tuple_none p hu',.tuple_none p hu',.tuple_none p hu'⟩
   case bl=>subst hy;cases rv;obtain⟨Ye,_,p,_⟩:=I.tuple ha;exact⟨.tuple_bool _ p hu',.tuple_bool _ p hu',.tuple_bool _ p hu'⟩
   case int=>subst hy;obtain⟨t,rfl⟩:=rv;obtain⟨Ye,_,p,_⟩:=I.tuple ha;exact⟨.tuple_int _ _ p hu',.tuple_int _ _ p hu',.tuple_int _ _ p hu'⟩
   case str=>subst hy;obtain⟨t,rfl⟩:=rv;obtain⟨Ye,_,p,_⟩:=I.tuple ha;exact⟨.tuple_str _ _ p hu',.tuple_str _ _ p hu',.tuple_str _ _ p hu'⟩
   case lst=>obtain⟨b,ys,rfl,hb,_⟩:=hy;cases rv;obtain⟨Ye,_,p,_⟩:=I.tuple ha;obtain⟨its2,_,p2,_⟩:=I.list hb;exact⟨.tuple_list p p2.isList hu',.tuple_list p p2.isList hu',.tuple_list p p2.isList hu'⟩
  | lst ds =>
   unfold A4 at hd;unfold Yf at hx;obtain⟨a,xs,rfl,ha,hr⟩:=hx;cases ru;cases e <;> unfold Yf at hy
   case lst es =>
    obtain⟨b,ys,rfl,hb,hr'⟩:=hy;cases rv;refine Sn I hu' ha hb hr hr' fun i d e x y u v e1 e2 e3 e4 ru rv=>?_
    obtain⟨x',q1,q2⟩:=hr.get e1;obtain⟨y',q3,q4⟩:=hr'.get e2;rw[e3]at q1;cases q1;rw[e4]at q3;cases q3;exact(ih A.in1 d e x y u v (by have:=Lh e1;lia) hin q2 q4 ru rv).1
   case non=>subst hy;cases rv;obtain⟨Ye,_,p,_⟩:=I.list ha;exact⟨.list_none p.isList hu',.list_none p.isList hu',.list_none p.isList hu'⟩
   case bl=>subst hy;cases rv;obtain⟨Ye,_,p,_⟩:=I.list ha;exact⟨.list_bool _ p.isList hu',.list_bool _ p.isList hu',.list_bool _ p.isList hu'⟩
   case int=>subst hy;obtain⟨t,rfl⟩:=rv;obtain⟨Ye,_,p,_⟩:=I.list ha;exact⟨.list_int _ _ p.isList hu',.list_int _ _ p.isList hu',.list_int _ _ p.isList hu'⟩
   case str=>subst hy;obtain⟨t,rfl⟩:=rv;obtain⟨Ye,_,p,_⟩:=I.list ha;exact⟨.list_str _ _ p.isList hu',.list_str _ _ p.isList hu',.list_str _ _ p.isList hu'⟩
   case tup=>obtain⟨b,ys,rfl,hb,_⟩:=hy;cases rv;obtain⟨Ye,_,p,_⟩:=I.list ha;obtain⟨its2,_,p2,_⟩:=I.tuple hb;exact⟨.list_tuple p.isList p2 hu',.list_tuple p.isList p2 hu',.list_tuple p.isList p2 hu'⟩
  | non=>exact ih A .non e x y u v (by unfold A4;lia) (by lia) hx hy ru rv
  | bl c=>exact ih A (.bl c) e x y u v (by unfold A4;lia) (by lia) hx hy ru rv
  | int c=>exact ih A (.int c) e x y u v (by unfold A4;lia) (by lia) hx hy ru rv
  | str c=>exact ih A (.str c) e x y u v (by unfold A4;lia) (by lia) hx hy ru rv
end
section
variable {X:Cx}
noncomputable def mEq(neg:Bool)(K:W.Frag):R2:=fun x y H Q=>match x,y with
 | .non,.non=>Q (.bl (neg ^^ true)) H
 | .bl a,.bl b=>Q (.bl (neg ^^ (a == b))) H
 | .int a,.int b=>Q (.bl (neg ^^ (a == b))) H
 | .str a,.str b=>Q (.bl (neg ^^ (a == b))) H
 | x,y=>∃d e,Yf K H d x/\Yf K H e y/\A4 d<=60/\Q (.bl (neg ^^ eqD d e)) H
theorem U6(hu:X.A.units+60 < cLine):Yt X (compareOp .Eq) (fun x y H Q=>∃d e,Yf X.K H d x/\Yf X.K H e y/\A4 d<=60/\Q (.bl (eqD d e)) H):=by
 intro Ya s Z H x y v u Q I rx ry h;obtain⟨d,e,h1,h2,h3,q⟩:=h;exact(HU I 60 X.A d e x y v u h3 hu h1 h2 rx ry).2.1 X.prog X.w _ _ ⟨.bl _,H,I,rfl,q⟩
theorem Wr(hu:X.A.units+60 < cLine):Yt X (compareOp .NotEq) (fun x y H Q=>∃d e,Yf X.K H d x/\Yf X.K H e y/\A4 d<=60/\Q (.bl (!eqD d e)) H):=by
 intro Ya s Z H x y v u Q I rx ry h;obtain⟨d,e,h1,h2,h3,q⟩:=h;exact(HU I 60 X.A d e x y v u h3 hu h1 h2 rx ry).2.2 X.prog X.w _ _ ⟨.bl _,H,I,rfl,q⟩
theorem Ll{neg:Bool}{x:V}{Q:VK}(h:mEq neg K x y H Q):∃d e,Yf K H d x/\Yf K H e y/\A4 d<=60/\Q (.bl (neg ^^ eqD d e)) H:=by
 unfold mEq at h;split at h
 ·exact⟨.non,.non,by unfold Yf;rfl,by unfold Yf;rfl,by unfold A4;lia,by unfold eqD;exact h⟩
 ·rename_i a b;exact⟨.bl a,.bl b,by unfold Yf;rfl,by unfold Yf;rfl,by unfold A4;lia,by unfold eqD;exact h⟩
 ·rename_i a b;exact⟨.int a,.int b,by unfold Yf;rfl,by unfold Yf;rfl,by unfold A4;lia,by unfold eqD;exact h⟩
 ·rename_i a b;exact⟨.str a,.str b,by unfold Yf;rfl,by unfold Yf;rfl,by unfold A4;lia,by unfold eqD;exact h⟩
 ·exact h
theorem Vn(hu:X.A.units+60 < cLine):Yt X (compareOp .Eq) (mEq false X.K):=(U6 hu).imp fun x y H Q h=>by
 obtain⟨d,e,h1,h2,h3,q⟩:=Ll h;exact⟨d,e,h1,h2,h3,by rw[Z2]at q;exact q⟩
theorem QY(hu:X.A.units+60 < cLine):Yt X (compareOp .NotEq) (mEq true X.K):=(Wr hu).imp fun x y H Q h=>by
 obtain⟨d,e,h1,h2,h3,q⟩:=Ll h;exact⟨d,e,h1,h2,h3,by rw[Bool.true_xor]at q;exact q⟩
end
section
variable {X:Cx}{a b c e:Expr}{es:List Expr}{ta tb tc te:TE}{tA tB':TT}{t:TA}{pos p:Pos}{x:Str}
noncomputable def isB(v:V)(Q:Bool->Prop):Prop:=match v with
 | .bl c=>Q c
 | _=>False
theorem DL{Q:Bool->Prop}(h:isB v Q):∃c,v=.bl c/\Q c:=by
 cases v <;> first | exact False.elim h | exact⟨_,rfl,h⟩
noncomputable def Af(t:TE):Prop:=∀Z H (Q Q':VK),(∀v H,Q v H->Q' v H)->t Z H Q->t Z H Q'
noncomputable def uB(t:TE):TT:=fun Z H Q=>t Z H fun x H1=>isB x fun c=>Q c H1
theorem Ae{op:CmpOp}(ho:Yt X (compareOp op) r)(ha:PE X a ta)(hb:PE X b tb)(hm:behindInMarks op b=false:=by first | exact Ig _ (by decide) (by decide) | rfl):PT X (.Compare a [op] [b] pos) (uB (tOp r ta tb)):=by
 intro Ya s Z H Q I h
 refine wpAny_isTrue_Compare1 (Yn (ha Ya s Z H _ I h) fun v s1 ⟨x,H1,I1,r1,q1⟩=>Yn (hb Ya s1 Z H1 _ I1 q1) fun u s2 ⟨y,H2,I2,r2,q2⟩ =>
  Yn (ho Ya s2 Z H2 x y v u _ I2 r1 r2 q2) fun c s3 ⟨z,H3,I3,r3,q⟩=>?_) hm
 obtain⟨k,e,q3⟩:=DL q;subst e;cases r3;exact Z9 ⟨H3,I3,q3⟩
theorem A7{op:CmpOp}(ho:Yt X (compareOp op) r)(ha:PE X a ta)(hb:PE X b tb)(hm:behindInMarks op b=false:=by first | exact Ig _ (by decide) (by decide) | rfl):PE X (.Compare a [op] [b] pos) (tOp r ta tb):=RD ho ha hb hm
theorem BM(h:PE X e te)(he:∀whole,isTrue e X.env whole=(do let v <- whole;standAt e.pos;holding [v] (truthy v)):=by intro _;rfl):PT X e (uB te):=by
 intro Ya s Z H Q I hq;refine isTrue_plain (Yn (h Ya s Z H _ I hq) fun v s1 ⟨x,H1,I1,r1,q1⟩=>?_) (he _);obtain⟨k,e,q⟩:=DL q1;subst e;cases r1;exact Z9 ⟨H1,I1,q⟩
noncomputable def K1(r r':R2)(ta tb tc:TE):TE:=fun Z H Q=>ta Z H fun x H1=>tb Z H1 fun y H2=>r x y H2 fun z H3=>isB z fun k =>
 (if k=true then tc Z H3 fun w' H4=>r' y w' H4 Q else Q (.bl false) H3)
theorem WU {op op':CmpOp} {r':R2} (ho:Yt X (compareOp op) r) (ho':Yt X (compareOp op') r') (ha:PE X a ta) (hb:PE X b tb) (hc:PE X c tc)
 (hm:lastMarks [op,op'] [b,c]=false:=by with_unfolding_all rfl):PE X (.Compare a [op,op'] [b,c] pos) (K1 r r' ta tb tc):=by
 intro Ya s Z H Q I h
 refine Compare_chain (Yn (ha Ya s Z H _ I h) fun v s1 ⟨x,H1,I1,r1,q1⟩=>chain_link (Yn (hb Ya s1 Z H1 _ I1 q1) fun u s2 ⟨y,H2,I2,r2,q2⟩ =>
  Yn (ho Ya s2 Z H2 x y v u _ I2 r1 r2 q2) fun d s3 ⟨z,H3,I3,r3,q⟩=>?_)) hm
 obtain⟨k,e,q3⟩:=DL q;subst e;cases r3;refine Z9 ?_;cases k with
 | false=>exact ite_ff ⟨.bl false,H3,I3,rfl,q3⟩
 | true=>exact ite_tt (chain_last (Yn (hc Ya s3 Z H3 _ I3 q3) fun w' s4 ⟨z',H4,I4,r4,q4⟩=>ho' Ya s4 Z H4 y z' u w' Q I4 r2 r4 q4))
theorem PK {op op':CmpOp} {r':R2} (ho:Yt X (compareOp op) r) (ho':Yt X (compareOp op') r') (ha:PE X a ta) (hb:PE X b tb) (hc:PE X c tc)
 (hm:lastMarks [op,op'] [b,c]=false:=by with_unfolding_all rfl):PT X (.Compare a [op,op'] [b,c] pos) (uB (K1 r r' ta tb tc)):=by
 intro Ya s Z H Q I h
 refine isTrue_chain (Yn (ha Ya s Z H _ I h) fun v s1 ⟨x,H1,I1,r1,q1⟩=>test_link (Yn (hb Ya s1 Z H1 _ I1 q1) fun u s2 ⟨y,H2,I2,r2,q2⟩ =>
  Yn (ho Ya s2 Z H2 x y v u _ I2 r1 r2 q2) fun d s3 ⟨z,H3,I3,r3,q⟩=>?_)) hm
 obtain⟨k,e,q3⟩:=DL q;subst e;cases r3;refine Z9 ?_;cases k with
 | false =>
  have q3:Q false H3:=q3;exact ite_ff ⟨H3,I3,q3⟩
 | true =>
  refine ite_tt (test_last (Yn (hc Ya s3 Z H3 _ I3 q3) fun w' s4 ⟨z',H4,I4,r4,q4⟩=>Yn (ho' Ya s4 Z H4 y z' u w' _ I4 r2 r4 q4) fun d' s5 ⟨z2,H5,I5,r5,q5⟩=>?_));obtain⟨k2,e2,q5⟩:=DL q5;subst e2;cases r5;exact Z9 ⟨H5,I5,q5⟩
noncomputable def Tk(ta tb:TE):TE:=fun Z H Q=>ta Z H fun x H1=>isB x fun c=>if c=true then tb Z H1 Q else Q (.bl false) H1
noncomputable def vOr(ta tb:TE):TE:=fun Z H Q=>ta Z H fun x H1=>isB x fun c=>if c=true then Q (.bl true) H1 else tb Z H1 Q
noncomputable def MD(ta:TE):TE:=fun Z H Q=>ta Z H fun x H1=>isB x fun c=>Q (.bl (!c)) H1
theorem Cs(ha:PE X a ta)(hb:PE X (.BoolOp .And (b::es) pos) tb):PE X (.BoolOp .And (a::b::es) pos) (Tk ta tb):=by
 have ha':PE X a (fun Z H Q=>ta Z H fun x H1=>isB x fun c=>Q (.bl c) H1):=fun Ya s Z H Q I h=>Yn (ha Ya s Z H _ I h) fun v s1 ⟨x,H1,I1,r1,q1⟩=>by
  obtain⟨c,e,q⟩:=DL q1;subst e;exact⟨.bl c,H1,I1,r1,q⟩
 have h:=QV (pos:=pos) ha' hb
 exact h.imp fun Z H Q q=>by
  show ta Z H fun x H1=>isB x fun c=>∃c',V.bl c=.bl c'/\if c'=true then tb Z H1 Q else Q (.bl false) H1
  have e:(fun(x:V) (H1:Hp)=>isB x fun c=>∃c',V.bl c=.bl c'/\if c'=true then tb Z H1 Q else Q (.bl false) H1)=fun x H1=>isB x fun c=>if c=true then tb Z H1 Q else Q (.bl false) H1:=by
   funext x H1
   cases x <;> first | rfl | (apply propext;constructor;(rintro⟨c',e,h⟩;cases e;exact h);(intro h;exact⟨_,rfl,h⟩))
  rw[e];exact q
theorem JN(ha:PE X a ta)(hb:PE X (.BoolOp .Or (b::es) pos) tb):PE X (.BoolOp .Or (a::b::es) pos) (vOr ta tb):=by
 have ha':PE X a (fun Z H Q=>ta Z H fun x H1=>isB x fun c=>Q (.bl c) H1):=fun Ya s Z H Q I h=>Yn (ha Ya s Z H _ I h) fun v s1 ⟨x,H1,I1,r1,q1⟩=>by
  obtain⟨c,e,q⟩:=DL q1;subst e;exact⟨.bl c,H1,I1,r1,q⟩
 have h:=Ur (pos:=pos) ha' hb
 exact h.imp fun Z H Q q=>by
  show ta Z H fun x H1=>isB x fun c=>∃c',V.bl c=.bl c'/\if c'=true then Q (.bl true) H1 else tb Z H1 Q
  have e:(fun(x:V) (H1:Hp)=>isB x fun c=>∃c',V.bl c=.bl c'/\if c'=true then Q (.bl true) H1 else tb Z H1 Q)=fun x H1=>isB x fun c=>if c=true then Q (.bl true) H1 else tb Z H1 Q:=by
   funext x H1
   cases x <;> first | rfl | (apply propext;constructor;(rintro⟨c',e,h⟩;cases e;exact h);(intro h;exact⟨_,rfl,h⟩))
  rw[e];exact q
theorem N7(ha:PE X a ta):PE X (.UnaryOp .Not a pos) (MD ta):=by
 have ha':PE X a (fun Z H Q=>ta Z H fun x H1=>isB x fun c=>Q (.bl c) H1):=fun Ya s Z H Q I h=>Yn (ha Ya s Z H _ I h) fun v s1 ⟨x,H1,I1,r1,q1⟩=>by
  obtain⟨c,e,q⟩:=DL q1;subst e;exact⟨.bl c,H1,I1,r1,q⟩
 have h:=RL (pos:=pos) ha'
 exact h.imp fun Z H Q q=>by
  show ta Z H fun x H1=>isB x fun c=>∃c',V.bl c=.bl c'/\Q (.bl (!c')) H1
  have e:(fun(x:V) (H1:Hp)=>isB x fun c=>∃c',V.bl c=.bl c'/\Q (.bl (!c')) H1)=fun x H1=>isB x fun c=>Q (.bl (!c)) H1:=by
   funext x H1
   cases x <;> first | rfl | (apply propext;constructor;(rintro⟨c',e,h⟩;cases e;exact h);(intro h;exact⟨_,rfl,h⟩))
  rw[e];exact q
noncomputable def SqA(K:W.Frag)(H:Hp)(p:Addr)(xs:List V):Prop:=Yw K H p xs\/Yp K H p xs
noncomputable def mIx(K:W.Frag):R2:=fun x y H Q=>match x,y with
 | .ref p,.int i=>∃xs v,SqA K H p xs/\atI xs i=some v/\Q v H
 | .str z,.int i=>∃c,z.length<=sizeLine/\atI z.cps.toList i=some c/\Q (.str ⟨#[c]⟩) H
 | _,_=>False
theorem IxR.imp{r':R2}(h:IxR X r)(g:∀x y H Q,r' x y H Q->r x y H Q):IxR X r':=fun a b Ya s Z H x y v u Q I rx ry q z=>h a b Ya s Z H x y v u Q I rx ry (g _ _ _ _ q) z
theorem VG:IxR X (mIx X.K):=ix_seq.imp fun x y H Q q=>by
 cases x <;> cases y <;> first
  | exact False.elim q
  | (obtain⟨xs,v,h | h,e,q⟩:=q
     ·exact .inl ⟨_,xs,_,v,rfl,rfl,h,e,q⟩
     ·exact .inr (.inl ⟨_,xs,_,v,rfl,rfl,h,e,q⟩))
  | (obtain⟨c,hz,e,q⟩:=q
     exact .inr (.inr ⟨_,_,c,rfl,rfl,hz,e,q⟩))
theorem QH(ha:PE X a ta)(hb:PE X b tb)(hs:Iz b:=by intro _ _;rfl):PE X (.Subscript a b pos) (tOp (mIx X.K) ta tb):=Sy VG ha hb hs
noncomputable def Gg(K:W.Frag):List V->Hp->VK->Prop:=fun xs H Q=>match xs with
 | [x]=>∃n,Mj K x H n/\Q (.int n) H
 | _=>False
theorem Qa:CallR X (.builtin "len") (Gg X.K):=call_len.imp fun xs H Q q=>by
 match xs,q with
 | [x],⟨n,h,q⟩=>exact⟨x,n,rfl,h,q⟩
noncomputable def XN:List V->Hp->VK->Prop:=fun xs H Q=>match xs with
 | [.int i,.int j]=>Q (.int (max i j)) H
 | _=>False
theorem Xm(hc:X.calm=true):CallR X (.builtin "max") XN:=(Ws hc).imp fun xs H Q q=>by
 match xs,q with
 | [.int i,.int j],q =>
  refine⟨i,j,rfl,?_⟩;have e:(if j > i then j else i)=max i j:=by split <;> lia
  rw[e];exact q
noncomputable def P6:List V->Hp->VK->Prop:=fun xs H Q=>match xs with
 | [.int i]=>Q (.int i) H
 | [.bl k]=>Q (.int (if k then 1 else 0)) H
 | _=>False
theorem NB:CallR X (.type "int") P6:=call_int1.imp fun xs H Q q=>by
 match xs,q with
 | [.int i],q=>exact .inl ⟨i,rfl,q⟩
 | [.bl k],q=>exact .inr ⟨k,rfl,q⟩
noncomputable def GI(K:W.Frag):List V->Hp->VK->Prop:=fun xs H Q=>match xs with
 | [.ref p]=>∃ys,(Yw K H p ys/\∀l,H l=none->Q (.ref l) (upd H l (.tup ys)))\/(Yp K H p ys/\Q (.ref p) H)
 | _=>False
theorem T8:CallR X (.type "tuple") (GI X.K):=call_tuple_of.imp fun xs H Q q=>by
 match xs,q with
 | [.ref p],⟨ys,q⟩=>exact⟨p,ys,rfl,q⟩
noncomputable def Nt(K:W.Frag):List V->Hp->VK->Prop:=fun xs H Q=>match xs with
 | [.ref p]=>∃ys,SqA K H p ys/\∀l,H l=none->Q (.ref l) (upd H l (.lst ys))
 | _=>False
theorem Vo:CallR X (.type "list") (Nt X.K):=call_list_of.imp fun xs H Q q=>by
 match xs,q with
 | [.ref p],⟨ys,h,q⟩=>exact⟨p,ys,rfl,h,q⟩
noncomputable def OG(K:W.Frag)(T:String)(x:V)(H:Hp)(b:Bool):Prop:=match x with
 | .non=>b=(T == "NoneType")
 | .bl _=>b=(T == "bool" || T == "int")
 | .int _=>b=(T == "int")
 | .str _=>b=(T == "str")
 | .ref a=>(∃xs,(H a=some (.lst xs)\/∃o,H a=some (.frz o (.lst xs)))/\b=(T == "list"))\/(∃xs,H a=some (.tup xs)/\b=(T == "tuple"))\/((∃Yd,H a=some (.dK Yd))/\b=(T == "dict"))\/((∃Yd,H a=some (.dT Yd))/\b=(T == "dict"))
 | _=>False
noncomputable def kinds:List String:=["int","bool","str","tuple","list","dict"]
theorem UP(K:W.Frag):∀T∈kinds,PySem.W.kitOne K (.type "NoneType") (.type T)=some (T == "NoneType")/\PySem.W.kitOne K (.type "bool") (.type T)=some (T == "bool" || T == "int") /\
 PySem.W.kitOne K (.type "int") (.type T)=some (T == "int")/\PySem.W.kitOne K (.type "str") (.type T)=some (T == "str")/\PySem.W.kitOne K (.type "list") (.type T)=some (T == "list") /\
 PySem.W.kitOne K (.type "tuple") (.type T)=some (T == "tuple")/\PySem.W.kitOne K (.type "dict") (.type T)=some (T == "dict"):=by
 intro T h;unfold kinds at h
 rcases ZH.mp h with rfl | h
 ·exact⟨rfl,rfl,rfl,rfl,rfl,rfl,rfl⟩
 rcases ZH.mp h with rfl | h
 ·exact⟨rfl,rfl,rfl,rfl,rfl,rfl,rfl⟩
 rcases ZH.mp h with rfl | h
 ·exact⟨rfl,rfl,rfl,rfl,rfl,rfl,rfl⟩
 rcases ZH.mp h with rfl | h
 ·exact⟨rfl,rfl,rfl,rfl,rfl,rfl,rfl⟩
 rcases ZH.mp h with rfl | h
 ·exact⟨rfl,rfl,rfl,rfl,rfl,rfl,rfl⟩
 rcases ZH.mp h with rfl | h
 ·exact⟨rfl,rfl,rfl,rfl,rfl,rfl,rfl⟩
 ·exact absurd h (by simp)
theorem VP{T:String}{k:Bool}(hT:T∈kinds)(h:OG K T v H k):∃ty,TyOf K H v ty/\PySem.W.kitOne K ty (.type T)=some k:=by
 obtain⟨k1,k2,k3,k4,k5,k6,k7⟩:=UP K T hT;cases v with
 | non=>cases (show k=_ from h);exact⟨_,.non,k1⟩
 | bl _=>cases (show k=_ from h);exact⟨_,.bl _,k2⟩
 | int _=>cases (show k=_ from h);exact⟨_,.int _,k3⟩
 | str _=>cases (show k=_ from h);exact⟨_,.str _,k4⟩
 | ref q =>
  rcases h with ⟨xs,h | ⟨o,h⟩,e⟩ | ⟨xs,h,e⟩ | ⟨⟨Yd,h⟩,e⟩ | ⟨⟨Yd,h⟩,e⟩
  ·subst e;exact⟨_,.lst h,k5⟩
  ·subst e;exact⟨_,.frz h,k5⟩
  ·subst e;exact⟨_,.tup h,k6⟩
  ·subst e;exact⟨_,.dK h,k7⟩
  ·subst e;exact⟨_,.dT h,k7⟩
 | _=>exact False.elim h
noncomputable def Pz(K:W.Frag):List V->Hp->VK->Prop:=fun xs H Q=>match xs with
 | [x,.ty T]=>T∈kinds/\∃k,OG K T x H k/\Q (.bl k) H
 | _=>False
theorem Hm:CallR X (.builtin "isinstance") (Pz X.K):=by
 intro Ya s Z H xs us Q I r q
 match xs,q with
 | [x,.ty T],q =>
  obtain⟨hT,k,h,q⟩:=q;obtain⟨u,w',rfl,ru,rw'⟩:=ER r;cases rw';obtain⟨ty,h1,h2⟩:=VP hT h;exact XG I ru h1 h2 fun tk=>⟨.bl k,H,I.tok _,rfl,q⟩
end
noncomputable def Gi(scope sc:Scope):Bool :=
 decide (scope.kind=.function) && decide (scope.names.map (·.1)).Nodup && scope.names.all fun y=>!(y.2 == .free) || (sc.names.lookup y.1 == some .cell || sc.names.lookup y.1 == some .free)
theorem CompScope.of{scope sc:Scope}(h:Gi scope sc=true):CompScope scope sc:=by
 unfold Gi at h;rw[ZQ,ZQ]at h;obtain⟨⟨h1,h2⟩,h3⟩:=h;refine⟨ZR h1,ZR h2,fun y hy hf=>?_⟩
 have:=Z3.mp h3 y hy
 rw[hf]at this
 rcases(Bool.or_eq_true _ _).mp this with z | z
 ·exact absurd z (by decide)
 ·rcases(Bool.or_eq_true _ _).mp z with z | z
  ·exact .inl (by simpa using z)
  ·exact .inr (by simpa using z)
section
variable {X:Cx}{tg iter elt:Expr}{ifs:List Expr}{scope:Scope}{pos:Pos}{N':List Str}{own:Nat}{ix:List Nat}{g:TG}{tc:TT}{te:TE}{wi:TI}
theorem frB{l:List Str}(h:(l.all fun x=>scope.names.lookup x == some .free)=true):∀x∈l,scope.names.lookup x=some .free:=fun x hx=>by
 have:=Z3.mp h x hx
 simpa using this
theorem Ap (hc:X.calm=true) (hi:PI X tg iter wi) (S:Gi scope X.env.scope=true)
 (Yk:N'.length=own+ix.length) (hN:(N'.drop own).map some=ix.map (X.N[·]?)) (hfr:((N'.drop own).all fun x=>scope.names.lookup x == some .free)=true)
 (hg:∀c,PG (X.comp scope N' c) tg g) (hgo:DP own g) (ht:∀c,PTs (X.comp scope N' c) ifs tc) (he:∀c,PE (X.comp scope N' c) elt te)
 (hs:∀x,foldedSetIterable iter X.env x=pure x:=by intro _;rfl):PE X (.ListComp elt [⟨tg,iter,ifs,0⟩] scope pos) (Fd wi own ix g tc te) :=
 V4 hc hi (.of S) Yk hN (frB hfr) hg hgo ht he hs
theorem Da {i:Nat} {y:Str} {py spos:Pos} (hc:X.calm=true) (hnd:X.N.Nodup) (hiy:X.N[i]? = some y) (hy:X.env.scope.names.lookup y=some .local) (hi:PI X tg iter wi) (S:Gi scope X.env.scope=true)
 (Yk:N'.length=own+ix.length) (hN:(N'.drop own).map some=ix.map (X.N[·]?)) (hfr:((N'.drop own).all fun x=>scope.names.lookup x == some .free)=true)
 (hg:∀c,PG (X.comp scope N' c) tg g) (hgo:DP own g) (ht:∀c,PTs (X.comp scope N' c) ifs tc) (he:∀c,PE (X.comp scope N' c) elt te)
 (hsw:swapsWith (.ListComp elt [⟨tg,iter,ifs,0⟩] scope pos) (some (.Name y py)) spos.line X.env=pure true)
 (hs:∀x,foldedSetIterable iter X.env x=pure x:=by intro _;rfl):PS X (.Assign [.Name y py] (.ListComp elt [⟨tg,iter,ifs,0⟩] scope pos) spos) (EC (Fd wi own ix g tc te) (AT i)) :=
 PH hc hnd hiy hy hi (.of S) Yk hN (frB hfr) hg hgo ht he hsw hs
noncomputable def JC(K:W.Frag)(tl:TE):TI:=fun Z H R=>tl Z H fun x H1=>match x with
 | .ref a=>((∃xs,Yw K H1 a xs)/\R (Itl K a) H1)\/((∃xs,Yp K H1 a xs)/\R (Itt K a) H1)
 | _=>False
theorem WV{l:Expr}{tl:TE}(hl:PE X l tl):PI X tg l (JC X.K tl):=by
 intro Ya s Z H R I h;refine Yn (hl Ya s Z H _ I h) fun v s1 ⟨x,H1,I1,r1,q1⟩=>?_
 cases x with
 | ref a =>
  cases r1
  rcases q1 with ⟨⟨xs,hq⟩,q⟩ | ⟨⟨xs,hq⟩,q⟩
  ·obtain⟨Ye,rv,p,hz⟩:=I1.list hq;refine wpAny_pyIter_list p.isList ?_;refine⟨s1.heap.objs.size,[s1.heap.objs.size],_,_,H1,rfl,I1.kept (t':=s1.toks) fun b o e=>ZI _ e,TH a _,⟨_,ZS _ rfl,rfl,rfl⟩,fun b hb=>?_,q⟩;have e:b=s1.heap.objs.size:=by simpa using hb
   subst e;exact I1.fpOk (ZE _) (I1.hok.fresh (ZE _))
  ·obtain⟨Ye,rv,p,hz⟩:=I1.tuple hq;refine wpAny_pyIter_tuple (show s1.heap.IsTuple a Ye.toArray from p) ?_;refine⟨s1.heap.objs.size,[s1.heap.objs.size],_,_,H1,rfl,I1.kept (t':=s1.toks) fun b o e=>ZI _ e,Ub a _,⟨_,ZS _ rfl,rfl,rfl⟩,fun b hb=>?_,q⟩;have e:b=s1.heap.objs.size:=by simpa using hb
   subst e;exact I1.fpOk (ZE _) (I1.hok.fresh (ZE _))
 | _=>exact False.elim q1
noncomputable def J3:Dx:=fun o i v H Q=>match o,i with
 | .ref p,.int k=>∃xs j,H p=some (.lst xs)/\ixN xs.length k=some j/\Q (upd H p (.lst (xs.set j v)))
 | _,_=>False
theorem Eo:JV X J3:=by
 intro Ya s Z H o i v ov iv u Q I ro ri rv h
 cases o <;> cases i <;> first
  | exact False.elim h
  | (obtain⟨xs,j,h1,h2,q⟩:=h
     exact SZ Ya s Z H _ _ v ov iv u Q I ro ri rv ⟨_,xs,_,j,rfl,rfl,h1,h2,q⟩)
theorem DO {Q:VK} (Pv:Nat->List V->Hp->Prop) (h0:Pv 0 [] H) (hl:∀i ys H,i<=xs.length->Pv i ys H->Yw K H a xs) (hz:∀i ys H,i < xs.length->Pv i ys H->ys.length < sizeLine)
 (hs:∀i x ys H,xs[i]? = some x->Pv i ys H->g x σc H fun σ2 H2=>tc σ2 H2 fun b H3=>if b=true then te σ2 H3 fun y H4=>Pv (i+1) (ys++[y]) H4 else Pv (i+1) ys H3)
 (hd:∀ys H,Pv xs.length ys H->∀p,H p=none->Q (.ref p) (upd H p (.lst ys))):C9 (Itl K a) g tc te σc Q H:=by
 refine⟨fun i m ys H=>m=xs.length - i/\i<=xs.length/\Pv i ys H,⟨xs.length,by simp,ZV _,h0⟩,?_⟩;rintro i m ys H ⟨rfl,hi,p⟩;have q:=hl i ys H hi p
 by_cases Yr:i < xs.length
 ·refine .inr ⟨⟨xs,xs[i],q,by simp[Yr]⟩,hz i ys H Yr p,Pv (i+1),fun ys' H' p'=>⟨xs.length - (i+1),by lia,rfl,Yr,p'⟩,fun x H' y=>?_⟩;obtain⟨e,y⟩:=y;subst e;exact hs i x ys _ (y xs q) p
 ·have e:i=xs.length:=by lia
  subst e;exact .inl ⟨⟨xs,q,ZE _⟩,hd ys H p⟩
theorem Cq {Q:VK} (Pv:Nat->List V->Hp->Prop) (h0:Pv 0 [] H) (hl:∀i ys H,i<=xs.length->Pv i ys H->Yp K H a xs) (hz:∀i ys H,i < xs.length->Pv i ys H->ys.length < sizeLine)
 (hs:∀i x ys H,xs[i]? = some x->Pv i ys H->g x σc H fun σ2 H2=>tc σ2 H2 fun b H3=>if b=true then te σ2 H3 fun y H4=>Pv (i+1) (ys++[y]) H4 else Pv (i+1) ys H3)
 (hd:∀ys H,Pv xs.length ys H->∀p,H p=none->Q (.ref p) (upd H p (.lst ys))):C9 (Itt K a) g tc te σc Q H:=by
 refine⟨fun i m ys H=>m=xs.length - i/\i<=xs.length/\Pv i ys H,⟨xs.length,by simp,ZV _,h0⟩,?_⟩;rintro i m ys H ⟨rfl,hi,p⟩;have q:=hl i ys H hi p
 by_cases Yr:i < xs.length
 ·refine .inr ⟨⟨xs,xs[i],q,by simp[Yr]⟩,hz i ys H Yr p,Pv (i+1),fun ys' H' p'=>⟨xs.length - (i+1),by lia,rfl,Yr,p'⟩,fun x H' y=>?_⟩;obtain⟨e,y⟩:=y;subst e;exact hs i x ys _ (y xs q) p
 ·have e:i=xs.length:=by lia
  subst e;exact .inl ⟨⟨xs,q,ZE _⟩,hd ys H p⟩
theorem BW {lo:Int} {Q:VK} (Pv:Nat->List V->Hp->Prop) (h0:Pv 0 [] H) (hz:∀i ys H,i < n->Pv i ys H->ys.length < sizeLine)
 (hs:∀i ys H,i < n->Pv i ys H->g (.int (lo+i)) σc H fun σ2 H2=>tc σ2 H2 fun b H3=>if b=true then te σ2 H3 fun y H4=>Pv (i+1) (ys++[y]) H4 else Pv (i+1) ys H3)
 (hd:∀ys H,Pv n ys H->∀p,H p=none->Q (.ref p) (upd H p (.lst ys))):C9 (Itr lo n) g tc te σc Q H:=by
 refine⟨fun i m ys H=>m=n - i/\i<=n/\Pv i ys H,⟨n,by simp,ZV _,h0⟩,?_⟩;rintro i m ys H ⟨rfl,hi,p⟩
 by_cases Yr:i < n
 ·refine .inr ⟨Yr,hz i ys H Yr p,Pv (i+1),fun ys' H' p'=>⟨n - (i+1),by lia,rfl,Yr,p'⟩,fun x H' y=>?_⟩;obtain⟨e,y⟩:=y;subst e y;exact hs i ys _ Yr p
 ·have e:i=n:=by lia
  subst e;exact .inl ⟨ZE _,hd ys H p⟩
noncomputable def M5(c:TT)(tb:TS):TS:=fun D Z H=>∃W:Nat->St->Hp->Prop,(∃m,W m Z H)/\∀m Z H,W m Z H ->
 c Z H fun b H1=>if b=true then tb { D with nx:=fun σ' H'=>∃m',m' < m/\W m' σ' H',ct:=fun σ' H'=>∃m',m' < m/\W m' σ' H',bk:=D.nx } Z H1 else D.nx Z H1
theorem Er{c:Expr}{body:List Stmt}{tc:TT}{tb:TS}(hp:PassesOwn (model X.prog X.w) X.A X.env X.xe)(hc:PT X c tc)(hb:PSs X body tb):PS X (.While c body [] pos) (M5 tc tb):=by
 intro Ya s Z H D I h;obtain⟨W,⟨m0,w0⟩,turn⟩:=h;refine wpAny_While (codeAny_whileLoop (fun n s'=>∃σ' H',Yg X Ya σ' H' s'/\W n σ' H') ?_ m0 ⟨Z,H,I,w0⟩);rintro n s1 ⟨σ1,H1,I1,w1⟩;refine wpAny_passesOwn hp (Yn (hc Ya s1 σ1 H1 _ I1 (turn n σ1 H1 w1)) fun b s2 ⟨H2,I2,q2⟩=>?_);cases b with
 | true =>
  rw[if_pos rfl]at q2;rw[if_pos rfl];refine wpAny_passesOwn hp (Yn (hb Ya s2 σ1 H2 _ I2 q2) fun f s3 q3=>?_);cases f with
  | next =>
   obtain⟨σ3,H3,I3,m',hm,w3⟩:=q3;exact⟨m',hm,σ3,H3,I3,w3⟩
  | cont =>
   obtain⟨σ3,H3,I3,m',hm,w3⟩:=q3;exact⟨m',hm,σ3,H3,I3,w3⟩
  | brk=>exact q3
  | ret v=>exact q3
 | false =>
  rw[if_neg Zh]at q2;rw[if_neg Zh];exact wpAny_execs_nil ⟨σ1,H2,I2,q2⟩
end
theorem AS{k:Nat}(hr:Room k A):A.units+60 < cLine:=by have:=hr.un;lia
noncomputable def Yj(t:Addr)(H H':Hp):Prop:=∀b o,b≠t->H b=some o->H' b=some o
theorem Yj.refl:Yj t H H:=fun _ _ _ h=>h
theorem Yj.trans{H1 H2:Hp}(a:Yj t H H1)(b:Yj t H1 H2):Yj t H H2:=fun c o n h=>b c o n (a c o n h)
theorem Yj.upd{p:Addr}(h:H p=none):Yj t H (upd H p o):=fun b u _ e=>by rw[AJ (BU e h)];exact e
theorem Yj.updT:Yj t H (L2.upd H t o):=fun b u n e=>by rw[AJ n];exact e
theorem Yb.upd{p:Addr}(h:H p=none):Yb H (L2.upd H p o):=fun b u e=>by rw[AJ (BU e h)];exact e
theorem Yb.frm(h:Yb H H'):Yj t H H':=fun b o _ e=>h b o e
theorem Kw(h:Yw K H a xs)(k:∀o,H a=some o->H' a=some o):Yw K H' a xs:=by
 rcases h with (h | ⟨o,h⟩) | h
 ·exact .inl (.inl (k _ h))
 ·exact .inl (.inr ⟨o,k _ h⟩)
 ·exact .inr h
theorem Fy(h:Yp K H a xs)(k:∀o,H a=some o->H' a=some o):Yp K H' a xs:=by
 rcases h with (h | ⟨o,h⟩) | h
 ·exact .inl (.inl (k _ h))
 ·exact .inl (.inr ⟨o,k _ h⟩)
 ·exact .inr h
theorem AW{i:Int}(h:i=(n:Int))(hx:xs[n]? = some v):atI xs i=some v:=by
 subst h;have hn:n < xs.length:=(Zf.mp hx).1;unfold atI ixN;rw[if_pos (ZB1 n),if_pos (by lia)];simpa using hx
theorem Rx{ns:List Int}{i:Int}(h0:0<=i)(h1:i < ns.length):∃z,atI (ns.map V.int) i=some (.int z):=by
 obtain⟨n,rfl⟩:=Int.eq_ofNat_of_zero_le h0;have hn:n < ns.length:=by lia
 exact⟨ns[n],AW rfl (by rw[ZP,ZD hn];rfl)⟩
theorem Av{j:Int}(h1:0 < j)(h2:j<=2 ^ 1000):okDiv j:=⟨h1,Int.lt_of_le_of_lt h2 (by decide)⟩
theorem CZ(h:n<=1000):n<=sizeLine:=Zy (Ag h)
theorem smq(h:Nat.ble n 1000=true):n<=sizeLine:=CZ (Nat.le_of_ble_eq_true h)
noncomputable def CI(t:TT):Prop:=∀Z H (Q Q':Bool->Hp->Prop),(∀b H,Q b H->Q' b H)->t Z H Q->t Z H Q'
noncomputable def CG(t:TA):Prop:=∀Z H (Q Q':List V->Hp->Prop),(∀b H,Q b H->Q' b H)->t Z H Q->t Z H Q'
noncomputable def BZ(r:R2):Prop:=∀x y H (Q Q':VK),(∀v H,Q v H->Q' v H)->r x y H Q->r x y H Q'
noncomputable def NI(r:V->Hp->VK->Prop):Prop:=∀x H (Q Q':VK),(∀v H,Q v H->Q' v H)->r x H Q->r x H Q'
noncomputable def Ek(r:List V->Hp->VK->Prop):Prop:=∀xs H (Q Q':VK),(∀v H,Q v H->Q' v H)->r xs H Q->r xs H Q'
noncomputable def DU(r:V->List V->Hp->VK->Prop):Prop:=∀x xs H (Q Q':VK),(∀v H,Q v H->Q' v H)->r x xs H Q->r x xs H Q'
noncomputable def AR(sp:Sp):Prop:=∀vs H (Q Q':VK) E,(∀v H,Q v H->Q' v H)->sp vs H Q E->sp vs H Q' E
noncomputable def EQ(t:TI):Prop:=∀Z H (Q Q':It->Hp->Prop),(∀J H,Q J H->Q' J H)->t Z H Q->t Z H Q'
noncomputable def Kx(t:Dx):Prop:=∀o i v H (Q Q':Hp->Prop),(∀H,Q H->Q' H)->t o i v H Q->t o i v H Q'
structure Ends.le(D D':Ends):Prop where
 nx:∀Z H,D.nx Z H->D'.nx Z H
 rt:∀v H,D.rt v H->D'.rt v H
 bk:∀Z H,D.bk Z H->D'.bk Z H
 ct:∀Z H,D.ct Z H->D'.ct Z H
noncomputable def Bf(t:TS):Prop:=∀D D' Z H,Ends.le D D'->t D Z H->t D' Z H
theorem XR:Af (Gq i):=fun Z H Q Q' h q=>by
 unfold Gq at *;split at q
 ·exact h _ _ q
 ·exact q.elim
theorem Om:Af (tC v):=fun _ _ _ _ h q=>h _ _ q
theorem WG{tb:TE}(hr:BZ r)(ha:Af ta)(hb:Af tb):Af (tOp r ta tb):=fun Z H Q Q' h q=>ha _ _ _ _ (fun _ _ q=>hb _ _ _ _ (fun _ _ q=>hr _ _ _ _ _ h q) q) q
theorem Pj{r:V->Hp->VK->Prop}(hr:NI r)(ha:Af ta):Af (tUn r ta):=fun Z H Q Q' h q=>ha _ _ _ _ (fun _ _ q=>hr _ _ _ _ h q) q
theorem TK{K}:BZ (ET K):=fun x y H Q Q' h q=>by
 unfold ET at *;split at q
 ·exact h _ _ q
 ·exact⟨q.1,h _ _ q.2⟩
 ·rcases q with ⟨l,b,xs,zs,e1,e2,h1,h2,h3,q⟩ | ⟨a,b,xs,ys,e1,e2,h1,h2,h3,h4,q1,q2⟩
  ·exact .inl ⟨l,b,xs,zs,e1,e2,h1,h2,h3,fun p hp=>h _ _ (q p hp)⟩
  ·exact .inr ⟨a,b,xs,ys,e1,e2,h1,h2,h3,h4,fun e=>h _ _ (q1 e),fun e p hp=>h _ _ (q2 e p hp)⟩
 ·exact q.elim
theorem Pm:BZ Hs:=fun x y H Q Q' h q=>by unfold Hs at *;split at q <;> first | exact h _ _ q | exact q.elim
theorem UK:BZ KS:=fun x y H Q Q' h q=>by
 unfold KS at *;split at q
 ·exact⟨q.1,h _ _ q.2⟩
 ·obtain⟨l,k,xs,e1,e2,h1,h2,h3,h4,q⟩:=q;exact⟨l,k,xs,e1,e2,h1,h2,h3,h4,fun p hp=>h _ _ (q p hp)⟩
 ·exact q.elim
theorem Vb:BZ IU:=fun x y H Q Q' h q=>by unfold IU at *;split at q <;> first | exact⟨q.1,h _ _ q.2⟩ | exact q.elim
theorem PX:BZ HS:=fun x y H Q Q' h q=>by unfold HS at *;split at q <;> first | exact⟨q.1,h _ _ q.2⟩ | exact q.elim
theorem XH:BZ Jb:=fun x y H Q Q' h q=>by unfold Jb at *;split at q <;> first | exact⟨q.1,h _ _ q.2⟩ | exact q.elim
theorem Og{f}:BZ (Gd f):=fun x y H Q Q' h q=>by unfold Gd at *;split at q <;> first | exact h _ _ q | exact q.elim
theorem Xi:BZ Gy:=fun x y H Q Q' h q=>by unfold Gy at *;split at q <;> first | exact⟨q.1,h _ _ q.2⟩ | exact q.elim
theorem VL:NI IC:=fun x H Q Q' h q=>by unfold IC at *;split at q <;> first | exact h _ _ q | exact q.elim
theorem VQ{p}:BZ (EX p):=fun x y H Q Q' h q=>by unfold EX at *;split at q <;> first | exact h _ _ q | exact q.elim
theorem XF{n K}:BZ (mEq n K):=fun x y H Q Q' h q=>by
 unfold mEq at *;split at q <;> first | exact h _ _ q | (obtain⟨d,e,h1,h2,h3,q⟩:=q;exact⟨d,e,h1,h2,h3,h _ _ q⟩)
theorem RB{K}:BZ (mIx K):=fun x y H Q Q' h q=>by
 unfold mIx at *;split at q
 ·obtain⟨xs,v,h1,h2,q⟩:=q;exact⟨xs,v,h1,h2,h _ _ q⟩
 ·obtain⟨c,h1,h2,q⟩:=q;exact⟨c,h1,h2,h _ _ q⟩
 ·exact q.elim
theorem Mg{Q Q':Bool->Prop}(h:∀b,Q b->Q' b)(q:isB v Q):isB v Q':=by
 cases v <;> first | exact h _ q | exact q
theorem Oi{t:TE}(h:Af t):CI (uB t):=fun Z H Q Q' k q=>h _ _ _ _ (fun _ _ q=>Mg (fun b q=>k b _ q) q) q
theorem Qw(ha:Af ta):Af (MD ta):=fun Z H Q Q' h q=>ha _ _ _ _ (fun _ _ q=>Mg (fun b q=>h _ _ q) q) q
theorem SI{t:TT}{tb:TE}(ht:CI t)(ha:Af ta)(hb:Af tb):Af (tIf t ta tb):=fun Z H Q Q' h q=>ht _ _ _ _ (fun b _ q=>by
 cases b with
 | true=>exact ha _ _ _ _ h q
 | false=>exact hb _ _ _ _ h q) q
theorem RJ{t u:TT}(ht:CI t)(hu:CI u):CI (Ln t u):=fun Z H Q Q' h q=>ht _ _ _ _ (fun b _ q=>by
 cases b with
 | true=>exact hu _ _ _ _ h q
 | false=>exact h _ _ q) q
theorem Qo{t u:TT}(ht:CI t)(hu:CI u):CI (tOr t u):=fun Z H Q Q' h q=>ht _ _ _ _ (fun b _ q=>by
 cases b with
 | true=>exact h _ _ q
 | false=>exact hu _ _ _ _ h q) q
theorem Oj{t:TT}(ht:CI t):CI (Md t):=fun Z H Q Q' h q=>ht _ _ _ _ (fun b _ q=>h _ _ q) q
theorem T6:CG Fm:=fun _ _ _ _ h q=>h _ _ q
theorem WZ{t:TA}(ha:Af ta)(ht:CG t):CG (J8 ta t):=fun Z H Q Q' h q=>ha _ _ _ _ (fun _ _ q=>ht _ _ _ _ (fun _ _ q=>h _ _ q) q) q
theorem Od{r}{t:TA}(hr:Ek r)(ht:CG t):Af (tCB r t):=fun Z H Q Q' h q=>ht _ _ _ _ (fun _ _ q=>hr _ _ _ _ h q) q
theorem Rt{sp dvs E}{t:TA}(hs:AR sp)(ht:CG t):Af (Ml sp dvs E t):=fun Z H Q Q' h q=>ht _ _ _ _ (fun _ _ q=>hs _ _ _ _ _ h q) q
theorem U1{t:TA}(ht:CG t):Af (Mo t):=fun Z H Q Q' h q=>ht _ _ _ _ (fun _ _ q=>⟨q.1,fun p hp=>h _ _ (q.2 p hp)⟩) q
theorem RO{t:TA}(ht:CG t):Af (MY t):=fun Z H Q Q' h q=>ht _ _ _ _ (fun _ _ q=>⟨q.1,fun p hp=>h _ _ (q.2 p hp)⟩) q
theorem Vx{wi own ix g tc te}(hi:EQ wi):Af (Fd wi own ix g tc te):=fun Z H Q Q' h q=>hi _ _ _ _ (fun J H1 q=>by
 obtain⟨W,w0,turn⟩:=q;refine⟨W,w0,fun i m ys H w=>?_⟩
 rcases turn i m ys H w with ⟨a,b⟩ | r
 ·exact .inl ⟨a,fun p hp=>h _ _ (b p hp)⟩
 ·exact .inr r) q
theorem SB{K}:Ek (Gg K):=fun xs H Q Q' h q=>by unfold Gg at *;split at q <;> first | (obtain⟨n,a,q⟩:=q;exact⟨n,a,h _ _ q⟩) | exact q.elim
theorem SR{K}:Ek (GI K):=fun xs H Q Q' h q=>by
 unfold GI at *;split at q
 ·obtain⟨ys,⟨a,q⟩ | ⟨a,q⟩⟩:=q
  ·exact⟨ys,.inl ⟨a,fun l hl=>h _ _ (q l hl)⟩⟩
  ·exact⟨ys,.inr ⟨a,h _ _ q⟩⟩
 ·exact q.elim
theorem Os{K}{tl:TE}(h:Af tl):EQ (JC K tl):=fun Z H Q Q' k q=>h _ _ _ _ (fun v H1 q=>by
 cases v <;> first | exact q.elim | (rcases q with ⟨a,q⟩ | ⟨a,q⟩
                                     ·exact .inl ⟨a,k _ _ q⟩
                                     ·exact .inr ⟨a,k _ _ q⟩)) q
theorem SE{ta:TA}(h:CG ta):EQ (Lx ta):=fun Z H Q Q' k q=>h _ _ _ _ (fun _ _ ⟨j,e,a,b,q⟩=>⟨j,e,a,b,k _ _ q⟩) q
theorem Uo{ta:TA}(h:CG ta):EQ (Km ta):=fun Z H Q Q' k q=>h _ _ _ _ (fun _ _ ⟨i,j,e,a,q⟩=>⟨i,j,e,a,k _ _ q⟩) q
theorem Rg:Kx J3:=fun o i v H Q Q' h q=>by
 unfold J3 at *;split at q
 ·obtain⟨xs,j,a,b,q⟩:=q;exact⟨xs,j,a,b,h _ q⟩
 ·exact q.elim
theorem QC{to ti:TE}{t:Dx}(h1:Af to)(h2:Af ti)(h3:Kx t):DR (K6 to ti t):=fun v Z H Q Q' h q=>h1 _ _ _ _ (fun _ _ q=>h2 _ _ _ _ (fun _ _ q=>h3 _ _ _ _ _ _ (fun H q=>h _ _ q) q) q) q
theorem Vs:Bf Co:=fun D D' Z H h q=>h.nx _ _ q
theorem V0{t u:TS}(h1:Bf t)(h2:Bf u):Bf (JI t u):=fun D D' Z H h q=>h1 { D with nx:=u D } { D' with nx:=u D' } Z H ⟨fun Z H q=>h2 D D' Z H h q,h.rt,h.bk,h.ct⟩ q
theorem Xg{g:TG}(h1:Af te)(h2:DR g):Bf (EC te g):=fun D D' Z H h q=>h1 _ _ _ _ (fun _ _ q=>h2 _ _ _ _ _ h.nx q) q
theorem WW(h1:Af te):Bf (MF te):=fun D D' Z H h q=>h1 _ _ _ _ h.rt q
theorem Ta(h1:Af te):Bf (KG te):=fun D D' Z H h q=>h1 _ _ _ _ (fun _ _ q=>h.nx _ _ q) q
theorem Qr{c:TT}{t u:TS}(hc:CI c)(h1:Bf t)(h2:Bf u):Bf (MN c t u):=fun D D' Z H h q=>hc _ _ _ _ (fun b _ q=>by
 cases b with
 | true=>exact h1 _ _ _ _ h q
 | false=>exact h2 _ _ _ _ h q) q
theorem TN{c:TT}{tb:TS}(hc:CI c)(h1:Bf tb):Bf (M5 c tb):=fun D D' Z H h q=>by
 obtain⟨W,w0,turn⟩:=q;refine⟨W,w0,fun m Z H w=>hc _ _ _ _ (fun b H1 q=>?_) (turn m Z H w)⟩;cases b with
 | true=>exact h1 { D with nx:=fun σ' H'=>∃m',m' < m/\W m' σ' H',ct:=fun σ' H'=>∃m',m' < m/\W m' σ' H',bk:=D.nx } _ _ _ ⟨fun _ _ q=>q,h.rt,h.nx,fun _ _ q=>q⟩ q
 | false=>exact h.nx _ _ q
theorem SQ{wi:TI}{g:TG}{tb:TS}(hi:EQ wi)(hg:DR g)(h1:Bf tb):Bf (Kg wi g tb):=fun D D' Z H h q=>hi _ _ _ _ (fun J H1 q=>by
 obtain⟨W,w0,turn⟩:=q;refine⟨W,w0,fun i m Z H w=>?_⟩
 rcases turn i m Z H w with ⟨a,b⟩ | ⟨a,N,hN,step⟩
 ·exact .inl ⟨a,h.nx _ _ b⟩
 ·exact .inr ⟨a,N,hN,fun x H' y=>hg _ _ _ _ _ (fun σ2 H2 q=>h1 { D with nx:=N,ct:=N,bk:=D.nx } _ _ _ ⟨fun _ _ q=>q,h.rt,h.nx,fun _ _ q=>q⟩ q) (step x H' y)⟩) q
theorem AX{t u:TS}{D:Ends}(J:St->Hp->Prop)(h1:t { D with nx:=J } Z H)(h2:∀σ' H',J σ' H'->u D σ' H')(hm:Bf t):JI t u D Z H :=
 hm { D with nx:=J } { D with nx:=u D } Z H ⟨h2,fun _ _ q=>q,fun _ _ q=>q,fun _ _ q=>q⟩ h1
section
variable {X:Cx}{K:W.Frag}{a b c e l tg:Expr}{es:List Expr}{ta tb tc te tl:TE}{pos p:Pos}
theorem BA(hK:X.K=K:=by rfl):Yt X (binaryOp .Add) (ET K):=hK ▸ Pi
theorem kEq(hu:X.A.units+60 < cLine)(hK:X.K=K:=by rfl):Yt X (compareOp .Eq) (mEq false K):=hK ▸ Vn hu
theorem kNe(hu:X.A.units+60 < cLine)(hK:X.K=K:=by rfl):Yt X (compareOp .NotEq) (mEq true K):=hK ▸ QY hu
theorem Yl(ha:PE X a ta)(hb:PE X b tb)(hs:Iz b:=by intro _ _;rfl)(hK:X.K=K:=by rfl):PE X (.Subscript a b pos) (tOp (mIx K) ta tb):=hK ▸ QH ha hb hs
theorem As(hK:X.K=K:=by rfl):CallR X (.builtin "len") (Gg K):=hK ▸ Qa
theorem A8(hK:X.K=K:=by rfl):CallR X (.type "tuple") (GI K):=hK ▸ T8
theorem Lq(hK:X.K=K:=by rfl):CallR X (.type "list") (Nt K):=hK ▸ Vo
theorem BF(hl:PE X l tl)(hK:X.K=K:=by rfl):PI X tg l (JC K tl):=hK ▸ WV hl
theorem D0 {k:Nat} {t:TGs} (hc:X.calm=true) (h:PGs X es t)
 (hn:(assignEach es X.env).length=n:=by rfl) (hst:(assignEach es X.env).findIdx? (·.1)=none:=by rfl) (hK:X.K=K:=by rfl):PG X (.Tuple es k pos) (KW K n t):=hK ▸ Kq hc h hn hst
end
theorem Yg.turnedNew {Ya:List (Addr × Obj)} {h':Heap} {ch:List Addr} {T:Addr} (I:Yg X Ya Z H s) (hf:∀b∈ch,BJ X Ya H b) (hT:s.heap.objs.size<=T)
 (k:∀b u,b∉ch->s.heap.get? b=some u->h'.get? b=some u) (new:ObjOk X.prog X.w (upd H T o) h' T o) (th:∀b∈ch,∃u,h'.get? b=some u):Yg X Ya Z (upd H T o) { s with heap:=h' }:=by
 have hTn:H T=none:=I.hok.fresh hT;have nT:∀b u,H b=some u->b≠T:=fun b u e z=>by rw[z,hTn]at e;cases e
 have nc:∀b u,H b=some u->b∉ch:=fun b u e z=>by rw[(hf b z).1]at e;cases e
 refine I.step (g':=s.gens) (d':=s.drawn) (t':=s.toks) (ch:=ch) (fun b hb=>?_) (fun b u _ _ hc e _=>k b u hc e) (fun b u _ _ hc e _=>⟨u.slots,k b u hc e⟩) (fun b u hc e n=>?_) (fun b u hc e=>⟨u,k b u hc e⟩)
  (fun b xs e=>by rw[AJ (nT _ _ e)];exact e) (fun b u v e=>by rw[AJ (nT _ _ e)];exact e) (fun b ps e=>⟨#[],by rw[AJ (nT _ _ e),e];simp⟩) (fun m hm=>?_) (fun b u e=>?_) I.bare
 ·obtain⟨q1,q2,q3,q4,q5,q6⟩:=hf b hb;exact⟨q4,q2,q5,q6⟩
 ·rw[AJ (ZT (ZX (ZG e) hT))];exact n
 ·obtain⟨u,es,ep,ho,r⟩:=hm;exact⟨u,es,ep,k _ u (fun z=>(hf _ z).2.1 rfl) ho,r⟩
 ·by_cases hb:b=T
  ·subst hb;rw[AD]at e;cases e;exact new
  ·rw[AJ hb]at e;refine(I.hok b u e).stay (fun c v hc q=>k c v ?_ q) (fun c q=>by rw[AJ (nT _ _ q)];exact q) fun c xs q=>by rw[AJ (nT _ _ q)];exact q
   rcases hc with z | z
   ·rw[z];exact nc b u e
   ·exact nc c _ z
section
variable {X:Cx}{K:W.Frag}{o e:Expr}{es:List Expr}{to:TE}{t:TA}{apos cpos:Pos}
noncomputable def GH:V->List V->Hp->VK->Prop:=fun x vs H Q=>match x,vs with
 | .ref l,[y]=>∃xs,H l=some (.lst xs)/\xs.length < sizeLine/\Q .non (upd H l (.lst (xs++[y])))
 | _,_=>False
theorem Rw:MtR X "list.append" GH:=by
 intro Ya s Z H x vs v us Q I rx rv q
 match x,vs,q with
 | .ref l,[y],⟨xs,h1,h2,q⟩=>exact QB Ya s Z H _ _ v us Q I rx rv ⟨l,xs,y,rfl,rfl,h1,h2,q⟩
theorem Fb (ho:PE X o to) (ha:PA X [e] t) (hbase:attributeBase o "append" X.env (eval o X.env)=eval o X.env:=by rfl)
 (hfew:((backTo cpos (starEach [e] X.env)).all (fun x=>!x.1) && (backToKw cpos (keywordEach [] X.env)).all (fun x=>x.1.isSome)
   && decide ([e].length+([]:List Keyword).length+(if ([]:List Keyword).isEmpty then 0 else 1) < 30))=true:=by rfl)
 (hline:(apos.endLine == cpos.line)=true:=by rfl) (hs:starEach [e] X.env=(false,eval e X.env)::starEach [] X.env:=by rfl) (hplain:(backTo cpos (starEach [] X.env)).any (·.1)=false:=by rfl) (hK:X.K=K:=by rfl) :
 PE X (.Call (.Attribute o "append" apos) [e] [] cpos) (tBM K "list" GH to t):=hK ▸ FR PySem.F.plainAttrs_list PySem.F.slot_list_append PySem.F.type_list_append Rw ho ha hbase hfew hline hs hplain
noncomputable def Kr(K:W.Frag):V->List V->Hp->VK->Prop:=fun x vs H Q=>match x,vs with
 | .ref l,[y]=>∃(xs:List V) (j:Nat) (z:V),Yw K H l xs/\C4 y=true/\xs.all C4=true/\xs[j]? = some z/\eqV z y=true/\(∀(m:Nat) (v:V),m < j->xs[m]? = some v->eqV v y=false)/\Q (.int j) H
 | _,_=>False
theorem TJ:MtR X "list.index" (Kr X.K):=by
 intro Ya s Z H x vs v us Q I rx rv q
 match x,vs,q with
 | .ref l,[y],⟨xs,j,z,h1,h2,h3,h4,h5,h6,q⟩ =>
 cases rx;obtain⟨u,rfl,ru⟩:=rv.one;obtain⟨Ye,r,pl,hz⟩:=I.list h1;obtain⟨⟨cls,dd,data,sl⟩,n,ho,hc,hd,hs⟩:=id pl;simp only at hc hs;subst hc hs;have hj:j < xs.length:=(Zf.mp h4).1;have Yk:=r.length;have flat:∀(m:Nat) (v:V),xs[m]? = some v->C4 v=true:=fun m v e=>Z3.mp h3 v (Zt e)
 have val:∀(m:Nat) (hm:m < Ye.toArray.size) (v:V),xs[m]? = some v->eqU y Ye.toArray[m]=eqV v y:=fun m hm v e=>by
  obtain⟨w',q1,q2⟩:=r.get e
  have e2:Ye.toArray[m]=w':=by
   rw[ZBq];rw[ZD (by simpa using hm)]at q1;exact ZU q1
  rw[e2];exact LR q2 (flat m v e)
 have line:=Dn;refine call_meets F.slot_list_index ⟨_,ho,rfl⟩ F.entry_list_index (F.args_list_index_2 _ _) (SeqAt.list_indexAt l Ye.toArray n dd sl u (eqU y) j (by simp;lia) (by lia) ?_ ?_) ⟨ho,fun w hw=>NL ru h2 r h3 w (by simpa using hw),?_⟩
 ·rw[val j (by simp;lia) z h4];exact h5
 ·intro m hm hmj
  have:m < xs.length:=by simp at hm;lia
  rw[val m hm _ (ZD this)];exact h6 m _ hmj (ZD this)
 ·exact⟨.int _,H,I.tok _,⟨_,rfl⟩,q⟩
theorem M9 (ho:PE X o to) (ha:PA X [e] t) (hbase:attributeBase o "index" X.env (eval o X.env)=eval o X.env:=by rfl)
 (hfew:((backTo cpos (starEach [e] X.env)).all (fun x=>!x.1) && (backToKw cpos (keywordEach [] X.env)).all (fun x=>x.1.isSome)
   && decide ([e].length+([]:List Keyword).length+(if ([]:List Keyword).isEmpty then 0 else 1) < 30))=true:=by rfl)
 (hline:(apos.endLine == cpos.line)=true:=by rfl) (hs:starEach [e] X.env=(false,eval e X.env)::starEach [] X.env:=by rfl) (hplain:(backTo cpos (starEach [] X.env)).any (·.1)=false:=by rfl) (hK:X.K=K:=by rfl) :
 PE X (.Call (.Attribute o "index" apos) [e] [] cpos) (tBM K "list" (Kr K) to t):=hK ▸ FR PySem.F.plainAttrs_list PySem.F.slot_list_index PySem.F.type_list_index TJ ho ha hbase hfew hline hs hplain
theorem Uz{T:String}{r:V->List V->Hp->VK->Prop}(h1:Af to)(h2:CG t)(h3:DU r):Af (tBM K T r to t):=fun Z H Q Q' h q=>h1 _ _ _ _ (fun _ _ q=>⟨q.1,h2 _ _ _ _ (fun _ _ q=>h3 _ _ _ _ _ h q) q.2⟩) q
theorem WP:DU GH:=fun x xs H Q Q' h q=>by
 unfold GH at *;split at q
 ·obtain⟨ys,a,b,q⟩:=q;exact⟨ys,a,b,h _ _ q⟩
 ·exact q.elim
noncomputable def NR(K:W.Frag):List V->Hp->VK->Prop:=fun xs H Q=>match xs with
 | [.ref l]=>∃ns:List Int,Yw K H l (ns.map V.int)/\Q (.int ns.sum) H
 | _=>False
theorem VF(hc:X.calm=true):CallR X (.builtin "sum") (NR X.K):=by
 intro Ya s Z H xs us Q I r q
 match xs,q with
 | [.ref l],q =>
 obtain⟨ns,hl,q⟩:=q;obtain⟨u,rfl,ru⟩:=BS r;cases ru;obtain⟨Ye,rv,pl,hz⟩:=I.list hl;have hi:IntsAre Ye ns:=by simpa using EI rv
 obtain⟨zs,hzs⟩:=(hi.allInts).items;have e:(numsOf Ye).sum=ns.sum:=by rw[hi.numsOf]
 have pl':=pl.isList;rw[hzs]at pl';refine sum_intListG (I.ok.hd hc) pl' fun h' tk t' hk=>?_
 refine⟨.int _,H,I.kept hk,⟨t',rfl⟩,?_⟩
 have e2:preSum (numAt zs) zs.size=ns.sum:=by
  rw[preSum_eq,ZBj (by simp),<- e];rw[show Ye=Ye.toArray.toList by simp,hzs,nums_intItems]
 rw[e2];exact q
theorem Sb(hc:X.calm=true)(hK:X.K=K:=by rfl):CallR X (.builtin "sum") (NR K):=hK ▸ VF hc
noncomputable def Gu(K:W.Frag):List V->Hp->VK->Prop:=fun xs H Q=>match xs with
 | [.ref l]=>∃bs:List Bool,Yw K H l (bs.map V.bl)/\Q (.bl (bs.all id)) H
 | _=>False
theorem V7(hc:X.calm=true):CallR X (.builtin "all") (Gu X.K):=by
 intro Ya s Z H xs us Q I r q
 match xs,q with
 | [.ref l],q =>
 obtain⟨bs,hl,q⟩:=q;obtain⟨u,rfl,ru⟩:=BS r;cases ru;obtain⟨Ye,rv,pl,hz⟩:=I.list hl;have Yk:=rv.length;rw[ZB]at Yk;obtain⟨o1,n1,g1,_⟩:=id pl;have Yr:=ZG g1;refine call_all_walk (wpAny_pyIter_list pl.isList ?_);have Yv:l≠s.heap.objs.size:=ZT Yr;refine⟨_,_,_,_,_,_,fun i=>bs.getD i false,rfl,Walks.list (A:=X.A.in1) (I.ok.hd hc) s.heap.objs.size l Yv Ye.toArray,?_,?_,fun h' tk hk=>?_⟩
 ·exact⟨⟨_,ZS _ rfl,rfl,rfl⟩,(show s.heap.IsList l Ye.toArray from pl.isList).at fun o e=>ZI _ e⟩
 ·intro i v s' Q' E' hv hq;have hv:Ye.toArray[i]? = some v:=hv
  have hi:i < Ye.length:=by
   have:=(Array.getElem?_eq_some_iff.mp hv).1
   simpa using this
  have hb:(bs.map V.bl)[i]? = some (.bl bs[i]):=by rw[ZP,ZD (by lia)];rfl
  obtain⟨w',q1,q2⟩:=rv.get hb;have e:v=w':=by simp at hv;rw[q1]at hv;exact(ZU hv).symm
  subst e;cases q2;refine Z9 ?_;have e2:bs.getD i false=bs[i]:=by rw[ZN,ZD (by lia)];rfl
  have hq:Q' (bs.getD i false) s':=hq;rw[e2]at hq;exact hq
 ·refine⟨.bl _,H,I.kept (fun b o e=>hk b o ?_ (ZI _ e)),rfl,?_⟩
  ·simp only[ZO];exact ZT (ZG e)
  ·have e:(List.range Ye.toArray.size).all (fun i=>bs.getD i false)=bs.all id:=by
    rw[ZK,<- Yk];rw[ZBG,Z3,Z3];constructor
    ·intro h b hb;obtain⟨i,hi,rfl⟩:=List.mem_iff_getElem.mp hb
     have:=h i (Zr.mpr hi)
     rw[ZN,ZD hi]at this;exact this
    ·intro h i hi;have hi':=Zr.mp hi;rw[ZN,ZD hi'];exact h _ (Zc hi')
   rw[e];exact q
theorem J7(hc:X.calm=true)(hK:X.K=K:=by rfl):CallR X (.builtin "all") (Gu K):=hK ▸ V7 hc
theorem XJ:Ek (Gu K):=fun xs H Q Q' h q=>by
 unfold Gu at *;split at q
 ·obtain⟨ns,a,q⟩:=q;exact⟨ns,a,h _ _ q⟩
 ·exact q.elim
end
section
variable {prog:Program}{w:World}{A:Around}{E:Value->Shared->Prop}{s:Shared}
theorem Lr{it:Addr}{items:Array Value}(Yv:t≠it):∀(n i:Nat) (s:Shared) (Q:List Value->Shared->Prop),s.heap.IsListIter it t i->s.heap.IsList t items->i+n<=items.size ->
 (∀h',h'.IsListIter it t (i+n)->Heap.SameBut it s.heap h'->Q ((items.toList.drop i).take n) { s with heap:=h' })->wpAny (model prog w) A (draw (.ref it) n) Q E s
 | 0,i,s,Q,hit,_,_,hQ=>by
  show wpAny _ _ (pure []) Q E s;exact ZC (by simpa using hQ s.heap hit (Heap.SameBut.refl ..))
 | n+1,i,s,Q,hit,ht,hle,hQ=>by
  have Yr:i < items.size:=by lia
  show wpAny _ _ (pyNext (.ref it) >>= _) Q E s;refine ZA (wpAny_pyNext_list_item hit ht (x:=items[i]) (by simp[Yr]) fun h₁ hit₁ hs₁=>?_);refine ZA (Zk (Lr Yv n (i+1) _ _ hit₁ (ht.extBut hs₁.extBut Yv) (by lia) fun h₂ hit₂ hs₂=>ZC ?_));have hd:items.toList.drop i=items[i]::items.toList.drop (i+1):=by simp[List.drop_eq_getElem_cons,Yr]
  have:=hQ h₂ (by rw[show i+(n+1)=i+1+n by lia];exact hit₂) (hs₁.trans hs₂)
  rw[hd,List.take_succ_cons]at this;exact this
theorem TL {items:Array Value} {Q:List Value->Shared->Prop} (hh:A.handled=none) (ht:s.heap.IsList t items)
 (hQ:∀h',Heap.ExtBut s.heap.objs.size s.heap h'->Q items.toList { s with heap:=h' }):wpAny (model prog w) A (unpackItems (.ref t) items.size none) Q E s:=by
 have Yr:t≠s.heap.objs.size:=by obtain⟨o,ho,_⟩:=ht;exact ZT (ZG ho)
 unfold unpackItems;refine ZA ?_
 ·unfold notIterableAtAll;refine ZA (wpAny_specialOf ht.typeIs slot_list_iter.lookup ?_);refine ZC ?_;simp only[ZB3,if_false];refine ZA (Zk (wpAny_pyIter_list ht ?_));refine ZA (Zk (Lr Yr items.size 0 _ _ ⟨_,ZS _ rfl,rfl,rfl⟩ (ht.at fun o e=>ZI _ e) (by lia) fun h₁ hit₁ hs₁=>?_))
  have hall:List.take items.size (List.drop 0 items.toList)=items.toList:=by
   rw[List.drop_zero];exact ZBj (by simp)
  rw[hall];rw[if_neg (by simp)];have ht₁:h₁.IsList t items:=(Heap.IsList.at ht fun o e=>ZI _ e).extBut hs₁.extBut Yr;refine ZA (Zk (wpAny_pyNext_list_end hh hit₁ ht₁ (by simp) fun h₂ he₂=>?_));simp only[Option.isSome_none,ZB3,if_false];refine ZC (hQ h₂ fun b o hb e=>he₂ b o hb (hs₁.extBut b o hb (ZI _ e)))
theorem VD {env:Env} {elts:List Expr} {x1} {items:Array Value} {Q:Unit->Shared->Prop} (hh:A.handled=none) (ht:s.heap.IsList t items)
 (hn:(assignEach elts env).length=items.size) (hstar:(assignEach elts env).findIdx? (·.1)=none)
 (h:∀h',Heap.ExtBut s.heap.objs.size s.heap h'->wpAny (model prog w) A (assignInOrder ((assignEach elts env).map (·.2)) items.toList) Q E { s with heap:=h' }) :
 wpAny (model prog w) A (assign (.Tuple elts x1 pos) env (.ref t)) Q E s:=by
 rw[assign_Tuple];refine ZA (ZBZ ?_);unfold unpack;rw[hn,hstar];exact ZA (Zk (TL hh ht h))
end
section
variable {X:Cx}{K:W.Frag}{pos p2:Pos}{e:Expr}{lo hi:Option Expr}{te:TE}{tl th:TO}
noncomputable def LH(K:W.Frag)(n:Nat)(t:TGs):TG:=fun v Z H Q=>match v with
 | .ref a=>∃xs,SqA K H a xs/\xs.length=n/\t xs Z H Q
 | _=>False
theorem Dz {k:Nat} {t:TGs} (hc:X.calm=true) (h:PGs X es t)
 (hn:(assignEach es X.env).length=n:=by rfl) (hst:(assignEach es X.env).findIdx? (·.1)=none:=by rfl) (hK:X.K=K:=by rfl):PG X (.Tuple es k pos) (LH K n t):=by
 subst hK;intro Ya s Z H v u Q I r hw;cases v with
 | ref a =>
  obtain⟨xs,hq | hq,hl,hw⟩:=hw
  ·cases r;obtain⟨Ye,rv,ht,hz⟩:=I.list hq;refine VD (I.ok.hd hc) ht.isList (by simp[hn,<- hl,rv.length]) hst fun h' hx=>?_
   have I1:Yg X Ya Z H { s with heap:=h' }:=I.kept (t':=s.toks) fun b o e=>hx b o (ZT (ZG e)) e
   exact h Ya _ Z H xs _ Q I1 (by simpa using rv) hw
  ·exact Kq hc h hn hst Ya s Z H _ u Q I r ⟨a,xs,rfl,hq,hl,hw⟩
 | _=>exact False.elim hw
theorem TV{t:TGs}(h:FB t):DR (LH K n t):=fun v _ _ _ _ k q=>by
 cases v <;> first | exact False.elim q | (obtain⟨xs,s,l,q⟩:=q;exact⟨xs,s,l,h _ _ _ _ _ k q⟩)
noncomputable def L8(K:W.Frag):V->Option Int->Option Int->Hp->VK->Prop:=fun x lo hi H Q=>match x with
 | .ref a=>∃xs,(Yw K H a xs/\∀p,H p=none->Q (.ref p) (upd H p (.lst (Bb xs lo hi)))) \/
  (Yp K H a xs/\¬(HT.sIx xs.length 0 lo=0/\HT.sIx xs.length xs.length hi=xs.length)/\∀p,H p=none->Q (.ref p) (upd H p (.tup (Bb xs lo hi))))
 | _=>False
theorem RQ:SlR X (L8 X.K):=by
 intro Ya s Z H x v vl vu lo hi sl Q I rx hs pl pu q;cases x with
 | ref a =>
  obtain⟨xs,⟨h,q⟩ | ⟨h,h2,q⟩⟩:=q
  ·exact Ul Ya s Z H _ v vl vu lo hi sl Q I rx hs pl pu ⟨a,xs,rfl,h,q⟩
  ·exact NP Ya s Z H _ v vl vu lo hi sl Q I rx hs pl pu ⟨a,xs,rfl,h,h2,q⟩
 | _=>exact False.elim q
theorem Ua(he:PE X e te)(hl:PO X lo tl)(hu:PO X hi th)(hK:X.K=K:=by rfl):PE X (.Subscript e (.Slice lo hi none p2) pos) (tSl (L8 K) te tl th):=hK ▸ Nk RQ he hl hu
noncomputable def GJ(t:TO):Prop:=∀Z H (Q Q':Option Int->Hp->Prop),(∀b H,Q b H->Q' b H)->t Z H Q->t Z H Q'
theorem VJ:GJ OO:=fun _ _ _ _ h q=>h _ _ q
theorem PD(h:Af te):GJ (Mz te):=fun Z H Q Q' k q=>h _ _ _ _ (fun _ _ ⟨i,e,q⟩=>⟨i,e,k _ _ q⟩) q
end
theorem OZ(h:Yp K H a xs)(s:Yb H H'):Yp K H' a xs:=Fy h fun o e=>s a o e
mutual
theorem Yf.same(s:Yb H H'):∀(d:Dv) (v:V),Yf K H d v->Yf K H' d v
 | .non,v,h=>by unfold Yf at *;exact h
 | .bl b,v,h=>by unfold Yf at *;exact h
 | .int i,v,h=>by unfold Yf at *;exact h
 | .str x,v,h=>by unfold Yf at *;exact h
 | .tup ds,v,h=>by
  unfold Yf at *;obtain⟨a,xs,e,h1,h2⟩:=h;exact⟨a,xs,e,OZ h1 s,Yc.same s ds xs h2⟩
 | .lst ds,v,h=>by
  unfold Yf at *;obtain⟨a,xs,e,h1,h2⟩:=h;exact⟨a,xs,e,Kw h1 fun o e=>s a o e,Yc.same s ds xs h2⟩
theorem Yc.same(s:Yb H H'):∀(ds:List Dv) (xs:List V),Yc K H ds xs->Yc K H' ds xs
 | [],xs,h=>by unfold Yc at *;exact h
 | d::ds,xs,h=>by
  unfold Yc at *;obtain⟨x,r,e,h1,h2⟩:=h;exact⟨x,r,e,Yf.same s d x h1,Yc.same s ds r h2⟩
end
mutual
noncomputable def BB:Dv->Bool
 | .tup ds=>Ah ds
 | .lst _=>false
 | _=>true
noncomputable def Ah:List Dv->Bool
 | []=>true
 | d::ds=>BB d && Ah ds
end
mutual
theorem Yf.frm(s:Yj t H H')(ht:∃zs,H t=some (.lst zs)):∀(d:Dv) (v:V),BB d=true->Yf K H d v->Yf K H' d v
 | .non,v,_,h=>by unfold Yf at *;exact h
 | .bl b,v,_,h=>by unfold Yf at *;exact h
 | .int i,v,_,h=>by unfold Yf at *;exact h
 | .str x,v,_,h=>by unfold Yf at *;exact h
 | .tup ds,v,hd,h=>by
  unfold BB at hd;unfold Yf at *;obtain⟨a,xs,e,h1,h2⟩:=h;refine⟨a,xs,e,?_,Yc.frm s ht ds xs hd h2⟩;obtain⟨zs,hz⟩:=ht
  rcases h1 with (h1 | ⟨o,h1⟩) | h1
  ·exact .inl (.inl (s a _ (fun q=>by rw[q,hz]at h1;cases h1) h1))
  ·exact .inl (.inr ⟨o,s a _ (fun q=>by rw[q,hz]at h1;cases h1) h1⟩)
  ·exact .inr h1
 | .lst ds,v,hd,h=>by unfold BB at hd;cases hd
theorem Yc.frm(s:Yj t H H')(ht:∃zs,H t=some (.lst zs)):∀(ds:List Dv) (xs:List V),Ah ds=true->Yc K H ds xs->Yc K H' ds xs
 | [],xs,_,h=>by unfold Yc at *;exact h
 | d::ds,xs,hd,h=>by
  unfold Ah at hd;rw[ZQ]at hd;unfold Yc at *;obtain⟨x,r,e,h1,h2⟩:=h;exact⟨x,r,e,Yf.frm s ht d x hd.1 h1,Yc.frm s ht ds r hd.2 h2⟩
end
theorem BL{p:Addr}(h:H p=some (.tup xs))(r:Yc K H ds xs):Yf K H (.tup ds) (.ref p):=by unfold Yf;exact⟨p,xs,rfl,.of h,r⟩
theorem Ad:Yc K H [] []:=by unfold Yc;rfl
theorem AU{d:Dv}{x:V}(h:Yf K H d x)(r:Yc K H ds xs):Yc K H (d::ds) (x::xs):=by unfold Yc;exact⟨x,xs,rfl,h,r⟩
theorem IY{x:Int}:Yf K H (.int x) (.int x):=by unfold Yf;rfl
theorem XO{x:Bool}:Yf K H (.bl x) (.bl x):=by unfold Yf;rfl
theorem Yc.append:∀{ds es:List Dv} {xs ys:List V},Yc K H ds xs->Yc K H es ys->Yc K H (ds++es) (xs++ys)
 | [],es,xs,ys,h,h'=>by unfold Yc at h;subst h;exact h'
 | d::ds,es,xs,ys,h,h'=>by
  unfold Yc at h;obtain⟨x,r,rfl,h1,h2⟩:=h;exact AU h1 (Yc.append h2 h')
section
variable {κ:Type}[DecidableEq κ]
noncomputable def valV(Yd:List (κ × V))(k:κ):Option V:=(Yd.find? fun kv=>decide (kv.1=k)).map (·.2)
noncomputable def Al(Yd:List (κ × V))(k:κ)(v:V):List (κ × V) :=
 if (Yd.any fun kv=>decide (kv.1=k))=true then Yd.map (fun kv=>if kv.1=k then (kv.1,v) else kv) else Yd++[(k,v)]
theorem Bt{p:κ × V}{r:List (κ × V)}{k:κ}(e:p.1=k):valV (p::r) k=some p.2:=by simp[valV,ZBk,e]
theorem Bv{p:κ × V}{r:List (κ × V)}{k:κ}(e:¬p.1=k):valV (p::r) k=valV r k:=by simp[valV,ZBk,e]
theorem GF(k:κ):∀Yd:List (κ × V),(Yd.any fun kv=>decide (kv.1=k))=(valV Yd k).isSome
 | []=>rfl
 | p::r=>by
  rw[ZBr]
  by_cases e:p.1=k
  ·simp only[Bt e,ZL e,Bool.true_or,Option.isSome_some]
  ·rw[Bv e,Zg e,Bool.false_or];exact GF k r
theorem Lu(k j:κ)(y:V):∀Yd:List (κ × V),valV (Yd.map fun kv=>if kv.1=k then (kv.1,y) else kv) j=(valV Yd j).map fun x=>if j=k then y else x
 | []=>rfl
 | p::r=>by
  have ih:=Lu k j y r;rw[Za]
  by_cases h:p.1=k
  ·rw[if_pos h]
   by_cases e:p.1=j
   ·rw[Bt (p:=(p.1,y)) e,Bt e,ZBe,if_pos (e.symm.trans h)]
   ·rw[Bv (p:=(p.1,y)) e,Bv e,ih]
  ·rw[if_neg h]
   by_cases e:p.1=j
   ·rw[Bt (p:=p) e,Bt e,ZBe,if_neg (fun z=>h (e.trans z))]
   ·rw[Bv (p:=p) e,Bv e,ih]
theorem L6(k j:κ)(y:V):∀Yd:List (κ × V),valV Yd k=none->valV (Yd++[(k,y)]) j=if j=k then some y else valV Yd j
 | [],_=>by
  by_cases e:k=j
  ·rw[if_pos e.symm];exact Bt (p:=(k,y)) e
  ·rw[if_neg (fun z=>e z.symm)];exact Bv (p:=(k,y)) e
 | p::r,hn=>by
  rw[List.cons_append];have hk:¬p.1=k:=fun z=>by rw[Bt z]at hn;cases hn
  rw[Bv hk]at hn;have ih:=L6 k j y r hn
  by_cases e:p.1=j
  ·rw[Bt e,Bt e,if_neg (fun z=>hk (e.trans z))]
  ·rw[Bv e,Bv e,ih]
theorem MT(Yd:List (κ × V))(k j:κ)(y:V):valV (Al Yd k y) j=if j=k then some y else valV Yd j:=by
 unfold Al
 by_cases a:(Yd.any fun kv=>decide (kv.1=k))=true
 ·rw[if_pos a,Lu];rw[GF]at a
  by_cases e:j=k
  ·obtain⟨x,hx⟩:=Option.isSome_iff_exists.mp a;rw[if_pos e,e,hx,ZBe,if_pos rfl]
  ·rw[if_neg e];cases valV Yd j with
   | none=>rfl
   | some x=>rw[ZBe,if_neg e]
 ·rw[if_neg a];refine L6 k j y Yd ?_;rw[GF]at a;cases q:valV Yd k with
  | none=>rfl
  | some x=>rw[q]at a;exact(a rfl).elim
theorem LV(Yd:List (κ × V))(k:κ)(v:V):(Al Yd k v).length<=Yd.length+1:=by
 unfold Al;split
 ·rw[ZB];lia
 ·rw[ZM,Zi,List.length_nil];lia
theorem RelO.isSome_eq{o:Option V}{u:Option Value}(r:RelO o u):o.isSome=u.isSome:=by
 cases o with
 | none=>cases u with
  | none=>rfl
  | some _=>exact(show False from r).elim
 | some _=>cases u with
  | none=>exact(show False from r).elim
  | some _=>rfl
theorem RelO.getD{o:Option V}{u:Option Value}{d:V}{d':Value}(r:RelO o u)(rd:Yh d d'):Yh (o.getD d) (u.getD d'):=by
 cases o with
 | none=>cases u with
  | none=>exact rd
  | some _=>exact(show False from r).elim
 | some _=>cases u with
  | none=>exact(show False from r).elim
  | some _=>exact r
theorem KV.val{Yd:List (κ × V)}{vs:List (κ × Value)}(r:KV Yd vs)(k:κ):RelO (valV Yd k) (valueAt vs k):=by
 unfold KV at r
 induction r with
 | nil=>exact True.intro
 | @cons p q ps qs h t ih =>
  obtain⟨h1,h2⟩:=h
  by_cases e:p.1=k
  ·have e':q.1=k:=h1.symm.trans e;have b:valueAt (q::qs) k=some q.2:=by simp[valueAt,ZBk,e']
   rw[Bt e,b];exact h2
  ·have e':¬q.1=k:=fun z=>e (h1.trans z)
   have b:valueAt (q::qs) k=valueAt qs k:=by simp[valueAt,ZBk,e']
   rw[Bv e,b];exact ih
theorem KV.any{Yd:List (κ × V)}{vs:List (κ × Value)}(r:KV Yd vs)(k:κ):(Yd.any fun kv=>decide (kv.1=k))=vs.any fun kv=>decide (kv.1=k):=by
 unfold KV at r
 induction r with
 | nil=>rfl
 | cons h t ih=>rw[ZBr,ZBr,ih,h.1]
theorem KV.repl{Yd:List (κ × V)}{vs:List (κ × Value)}(r:KV Yd vs)(k:κ)(ry:Yh y u) :
 KV (Yd.map fun kv=>if kv.1=k then (kv.1,y) else kv) (vs.map fun kv=>if kv.1=k then (kv.1,u) else kv):=by
 unfold KV at r ⊢
 induction r with
 | nil=>exact .nil
 | @cons p q ps qs h t ih =>
  rw[Za,Za];refine .cons ?_ ih;obtain⟨h1,h2⟩:=h
  by_cases e:p.1=k
  ·rw[if_pos e,if_pos (h1.symm.trans e)];exact⟨h1,ry⟩
  ·rw[if_neg e,if_neg (fun z=>e (h1.trans z))];exact⟨h1,h2⟩
theorem KV.put{Yd:List (κ × V)}{vs:List (κ × Value)}(r:KV Yd vs)(k:κ)(ry:Yh y u):KV (Al Yd k y) (stored vs k u):=by
 unfold Al stored;rw[r.any k]
 by_cases e:(vs.any fun kv=>decide (kv.1=k))=true
 ·rw[if_pos e,if_pos e];exact r.repl k ry
 ·rw[if_neg e,if_neg e];exact Paired.snoc r ⟨rfl,ry⟩
theorem KV.length{Yd:List (κ × V)}{vs:List (κ × Value)}(r:KV Yd vs):Yd.length=vs.length:=Paired.length r
end
theorem FN{k:Key}(r:Yh (kV k) u):(BQ P w).is k u=true:=by
 cases k with
 | inl i=>obtain⟨t,e⟩:=(show ∃t,u=Value.int i t from r);subst e;exact WB P w i t
 | inr x=>obtain⟨t,e⟩:=(show ∃t,u=Value.str x t from r);subst e;exact Rn P w x t
theorem MZ:∀{ks:List Key} {us:List Value},Yi (ks.map kV) us->ItemsAre (BQ P w) ks us
 | [],_,r=>by rw[List.map_nil]at r;cases r;exact .nil
 | k::ks,_,r=>by
  rw[Za]at r;cases r with
  | cons h t=>exact .cons (FN h) (MZ t)
noncomputable abbrev KT(H:Hp):List (List Key × V)->List (List Key × Addr × Value)->Prop:=Paired fun p q=>p.1=q.1/\H q.2.1=some (.tup (p.1.map kV))/\Yh p.2 q.2.2
theorem KT.val{xs:List (List Key × Addr × Value)}(r:KT H Yd xs)(k:List Key):RelO (valV Yd k) ((atKey xs k).map (·.2)):=by
 induction r with
 | nil=>exact True.intro
 | @cons p q ps qs h t ih =>
  obtain⟨h1,_,h2⟩:=h
  by_cases e:p.1=k
  ·have e':q.1=k:=h1.symm.trans e;have b:atKey (q::qs) k=some q.2:=by simp[atKey,ZBk,e']
   rw[Bt e,b];exact h2
  ·have e':¬q.1=k:=fun z=>e (h1.trans z)
   have b:atKey (q::qs) k=atKey qs k:=by simp[atKey,ZBk,e']
   rw[Bv e,b];exact ih
theorem KT.repl{xs:List (List Key × Addr × Value)}(r:KT H Yd xs)(k:List Key)(ry:Yh y u) :
 KT H (Yd.map fun kv=>if kv.1=k then (kv.1,y) else kv) (xs.map (putAt k u)):=by
 induction r with
 | nil=>exact .nil
 | @cons p q ps qs h t ih =>
  rw[Za,Za];refine .cons ?_ ih;obtain⟨h1,h2,h3⟩:=h;unfold putAt
  by_cases e:p.1=k
  ·rw[if_pos e,if_pos (h1.symm.trans e)];exact⟨h1,h2,ry⟩
  ·rw[if_neg e,if_neg (fun z=>e (h1.trans z))];exact⟨h1,h2,h3⟩
theorem KT.put{xs:List (List Key × Addr × Value)}(r:KT H Yd xs)(k:List Key){b:Addr}(hb:H b=some (.tup (k.map kV)))(ry:Yh y u) :
 KT H (Al Yd k y) (storedH xs k b u):=by
 have e:(Yd.any fun kv=>decide (kv.1=k))=(atKey xs k).isSome:=by
  rw[GF,(r.val k).isSome_eq,Option.isSome_map]
 unfold Al storedH;rw[e]
 by_cases q:(atKey xs k).isSome=true
 ·rw[if_pos q,if_pos q];exact r.repl k ry
 ·rw[if_neg q,if_neg q];exact Paired.snoc r ⟨rfl,hb,ry⟩
theorem KT.keeps{xs:List (List Key × Addr × Value)}(r:KT H Yd xs)(ht:∀b ys,H b=some (.tup ys)->H' b=some (.tup ys)):KT H' Yd xs :=
 Paired.mapP r fun _ _ z=>⟨z.1,ht _ _ z.2.1,z.2.2⟩
section
variable {P:Program}{w:World}{H:Hp}{h:Heap}{a:Addr}
theorem MH{u:HO}(ok:HOk P w H h)(e:Rd H a u):ObjOk P w H h a u:=e.ok ok
theorem EU{Yd:List (Key × V)}(ok:HOk P w H h)(e:Rd H a (.dK Yd)):Yd.length<=sizeLine/\(a == sysModules)=false/\∃vs,KV Yd vs/\h.DictOf (BQ P w) a vs :=
 show ObjOk P w H h a (.dK Yd) from MH ok e
theorem Pc{Yd:List (Key × V)}(ok:HOk P w H h)(e:H a=some (.dK Yd)):Yd.length<=sizeLine/\(a == sysModules)=false/\∃vs,KV Yd vs/\h.DictOf (BQ P w) a vs:=EU ok (.inl e)
theorem Ff{ks:List Key}(ok:HOk P w H h)(e:H a=some (.tup (ks.map kV))):(tupleKind (BQ P w)).is h ks a:=by
 obtain⟨_,Ye,r,o,h1,h2,⟨n,h3⟩,_⟩:=(show ObjOk P w H h a (.tup (ks.map kV)) from ok a _ e);exact⟨o,Ye.toArray,n,h1,h2,h3,by simpa using MZ r⟩
theorem Dr(ok:HOk P w H h)(e:Rd H a (.dT Yd)):Yd.length<=sizeLine/\(a == sysModules)=false /\
 ∃xs,KT H Yd xs/\h.DictOfH (tupleKind (BQ P w)) a xs:=by
 obtain⟨z,y,xs,r,o,es,ep,h1,h2,h3,h4,h5⟩:=(show ObjOk P w H h a (.dT Yd) from MH ok e);refine⟨z,y,xs,r,o,es,ep,h1,h2,h3,h4,fun x hx=>?_,h5⟩
 have all:∀{l:List (List Key × V)} {m:List (List Key × Addr × Value)},KT H l m->∀x∈m,(tupleKind (BQ P w)).is h x.1 x.2.1:=by
  intro l m q
  induction q with
  | nil=>intro x hx;exact nomatch hx
  | @cons p q ps qs hq t ih =>
   intro x hx
   rcases ZH.mp hx with e | hx
   ·subst e;exact Ff ok (by rw[<- hq.1];exact hq.2.1)
   ·exact ih x hx
 exact all r x hx
theorem UV(ok:HOk P w H h)(e:H a=some (.dT Yd)):Yd.length<=sizeLine/\(a == sysModules)=false /\
 ∃xs,KT H Yd xs/\h.DictOfH (tupleKind (BQ P w)) a xs:=Dr ok (.inl e)
end
noncomputable def DGet(H:Hp)(a:Addr)(y:V)(r:Option V):Prop :=
 (∃Yd k,Rd H a (.dK Yd)/\y=kV k/\r=valV Yd k)\/∃Yd k b,Rd H a (.dT Yd)/\y=.ref b/\H b=some (.tup (k.map kV))/\r=valV Yd k
noncomputable def DPut(H:Hp)(a:Addr)(y v:V)(H':Hp):Prop :=
 (∃Yd k,H a=some (.dK Yd)/\y=kV k/\Yd.length < sizeLine/\H'=upd H a (.dK (Al Yd k v))) \/
 ∃Yd k b,H a=some (.dT Yd)/\y=.ref b/\H b=some (.tup (k.map kV))/\Yd.length < sizeLine/\H'=upd H a (.dT (Al Yd k v))
theorem DGet.k{Yd:List (Key × V)}{k:Key}(e:H a=some (.dK Yd)):DGet H a (kV k) (valV Yd k):=.inl ⟨Yd,k,.inl e,rfl,rfl⟩
theorem DPut.k{Yd:List (Key × V)}{k:Key}(e:H a=some (.dK Yd))(hl:Yd.length < sizeLine):DPut H a (kV k) v (upd H a (.dK (Al Yd k v))):=.inl ⟨Yd,k,e,rfl,hl,rfl⟩
section
variable {X:Cx}{Ya:List (Addr × Obj)}{Z:St}{H:Hp}{s:Shared}{a:Addr}{y v:V}{u r:Value}{o:Option V}{A:Around}{E:Value->Shared->Prop}
theorem Yg.big(I:Yg X Ya Z H s):sysModules < s.heap.objs.size:=by
 have h:mainGlobals < s.heap.objs.size:=(I.mod.glob.keeps I.bk).lt;exact ZBM (by decide) h
theorem Qm(hu:A.units+1 < cLine)(I:Yg X Ya Z H s)(g:DGet H a y (some v))(ry:Yh y u)(h:∀w' s',Yg X Ya Z H s'->Yh v w'->Q w' s') :
 wpAny (model X.prog X.w) A (getItem (.ref a) u) Q E s:=by
 rcases g with ⟨Yd,k,e,ey,l⟩ | ⟨Yd,k,b,e,ey,eb,l⟩
 ·subst ey;obtain⟨z,hd,vs,rel,dd⟩:=EU I.hok e;obtain⟨w',hw,rw'⟩:=RelO.some_of (v:=v) (o:=valueAt vs k) (by rw[l];exact rel.val k);exact wpAny_getItem_of (FN ry) dd.mapOf hw (h w' _ (I.tok _) rw')
 ·subst ey;cases (show u=Value.ref b from ry);obtain⟨z,hd,xs,rel,dd⟩:=Dr I.hok e;obtain⟨w',hw,rw'⟩:=RelO.some_of (v:=v) (o:=(atKey xs k).map (·.2)) (by rw[l];exact rel.val k);obtain⟨p,hp,hp2⟩:=ZB4.mp hw;refine wpAny_getItem_heap (tupleKind_room_in1 hu) (Ff I.hok eb) dd hp ?_;rw[hp2];exact h w' _ (I.tok _) rw'
theorem Uq(hu:A.units+1 < cLine)(I:Yg X Ya Z H s)(g:DGet H a y o)(ry:Yh y u)(h:∀s',Yg X Ya Z H s'->Q (.bool (!o.isSome)) s') :
 wpAny (model X.prog X.w) A (compareOp .NotIn u (.ref a)) Q E s:=by
 rcases g with ⟨Yd,k,e,ey,l⟩ | ⟨Yd,k,b,e,ey,eb,l⟩
 ·subst ey;obtain⟨z,hd,vs,rel,dd⟩:=EU I.hok e;refine wpAny_notIn_of (FN ry) hd dd.mapOf ?_;rw[<- (rel.val k).isSome_eq,<- l];exact h _ (I.tok _)
 ·subst ey;cases (show u=Value.ref b from ry);obtain⟨z,hd,xs,rel,dd⟩:=Dr I.hok e;refine wpAny_notIn_heap (tupleKind_room_in1 hu) (Ff I.hok eb) hd dd ?_;have q:=(rel.val k).isSome_eq;rw[Option.isSome_map]at q;rw[<- q,<- l];exact h _ (I.tok _)
theorem Mf{h':Heap}{t':Nat}{ob:HO}(I:Yg X Ya Z H s)(mu:Mut (H a))(hs:Heap.SameBut a s.heap h')(he:∃q,h'.get? a=some q)(new:ObjOk X.prog X.w (upd H a ob) h' a ob) :
 Yg X Ya Z (upd H a ob) { s with heap:=h',toks:=t' } :=
 I.write (x:=a) (e:=a) mu (.inl rfl) (fun b q hb z=>(hs.2 b hb).trans z) he new
theorem QQ{h':Heap}{Yd:List (Key × V)}{vs:List (Key × Value)}(z:Yd.length<=sizeLine)(hd:(a == sysModules)=false)(rel:KV Yd vs)(dd:h'.DictOf (BQ P w) a vs) :
 ObjOk P w H' h' a (.dK Yd):=⟨z,hd,vs,rel,dd⟩
theorem UA{Q:Unit->Shared->Prop}(hu:A.units+1 < cLine)(I:Yg X Ya Z H s)(g:DPut H a y v H')(ry:Yh y u)(rv:Yh v r)(h:∀s',Yg X Ya Z H' s'->Q () s') :
 wpAny (model X.prog X.w) A (setItem (.ref a) u r) Q E s:=by
 rcases g with ⟨Yd,k,e,ey,l,eH⟩ | ⟨Yd,k,b,e,ey,eb,l,eH⟩
 ·subst ey eH;obtain⟨z,hd,vs,rel,dd⟩:=Pc I.hok e;have hz:vs.length<=sizeLine:=by rw[<- rel.length];exact z
  have hl:(Al Yd k v).length<=sizeLine:=by have:=LV Yd k v;lia
  refine wpAny_setItem_pairs (hsz:=hz) (FN ry) dd fun h' dd' hs=>h _ ?_
  have he:∃q,h'.get? a=some q:=let ⟨q,_,_,hq,_⟩:=dd';⟨q,hq⟩;exact Mf I (by rw[e];exact True.intro) hs he (QQ hl hd (rel.put k rv) dd')
 ·subst ey eH;cases (show u=Value.ref b from ry);obtain⟨z,hd,xs,rel,dd⟩:=UV I.hok e;have hz:xs.length<=sizeLine:=by rw[<- Paired.length rel];exact z
  have hl:(Al Yd k v).length<=sizeLine:=by have:=LV Yd k v;lia
  refine wpAny_setItem_heap (hsz:=hz) (tupleKind_room_in1 hu) (Ff I.hok eb) dd fun h' dd' hs=>h _ ?_
  obtain⟨q,es,ep,hq,h2,h3,h4,_,h5⟩:=dd';refine Mf I (by rw[e];exact True.intro) hs ⟨q,hq⟩ ⟨hl,hd,_,(rel.put k eb rv).keeps fun c ys ec=>?_,q,es,ep,hq,h2,h3,h4,h5⟩;rw[AJ (Bg ec e (fun z=>nomatch z))];exact ec
end
noncomputable def MC(i:Expr):Prop:=∀ov iv,subscripted i false ov iv=operate [ov,iv] (getItem ov iv)
theorem Xj {prog:Program} {E:Value->Shared->Prop} {env:Env} {value slice:Expr} {T id:String} 
 (hl:typeLookup (.type T) "__getitem__" = pure (some (.builtin id))) (hs:MC slice)
 (h:wpAny (model prog w) A (eval value env) (fun o s₁=>wpAny (model prog w) A (eval slice env) (fun i s₂=>s₂.TypeIs o T/\wpAny (model prog w) A (getItem o i) Q E s₂) E s₁) E s) :
 wpAny (model prog w) A (eval (.Subscript value slice pos) env) Q E s:=by
 refine Subscript_ (Zs h (fun o s₁ h₁=>Zs h₁ (fun i s₂ h₂=>?_) fun _ _ x=>x) fun _ _ x=>x);obtain⟨hT,h₂⟩:=h₂;unfold subscriptTail;refine ZA ?_;rw[getitemInPython_of_ne hT.not_modules];refine ZA (wpAny_specialOf hT hl ?_)
 have fin:wpAny (model prog w) A (subscripted slice false o i) (fun r s₃=>wpAny (model prog w) A (letTemporaryGo value o r >>= fun _=>pure r) Q E s₃) E s₂:=by
  rw[hs o i];exact wpAny_operating (Zs h₂ (fun r s₃ h₃=>ZA (wpAny_letTemporaryGo (ZC h₃))) fun _ _ x=>x)
 first
  | exact ZC (ZA fin)
  | exact ZA (ZC (ZA fin))
  | exact ZA fin
theorem Xd{Ya:List (Addr × Obj)}{o:Option V}(I:Yg X Ya Z H s)(g:DGet H a y o):s.TypeIs (.ref a) "dict":=by
 rcases g with ⟨Yd,k,e,_,_⟩ | ⟨Yd,k,b,e,_,_,_⟩
 ·obtain⟨_,_,vs,_,dd⟩:=EU I.hok e;exact dd.typeIs
 ·obtain⟨_,_,xs,_,dd⟩:=Dr I.hok e;exact dd.typeIs
noncomputable def Pr(td ty:TE):TE:=fun Z H Q=>td Z H fun x H1=>ty Z H1 fun y H2=>∃a v,x=.ref a/\DGet H2 a y (some v)/\Q v H2
noncomputable def LZ(td ty tv:TE):TS:=fun D Z H=>tv Z H fun v H1=>td Z H1 fun x H2=>ty Z H2 fun y H3=>∃a H4,x=.ref a/\DPut H3 a y v H4/\D.nx Z H4
section
variable {X:Cx}{o i e value:Expr}{pos pos' tpos:Pos}{td ty tv:TE}
theorem N5(hu:X.A.units+1 < cLine)(ho:PE X o td)(hi:PE X i ty)(hs:MC i):PE X (.Subscript o i pos) (Pr td ty):=by
 intro Ya s Z H Q I h;refine Xj PySem.F.slot_dict_getitem.lookup hs (Yn (ho Ya s Z H _ I h) fun u s1 ⟨x,H1,I1,rx,q1⟩=>Yn (hi Ya s1 Z H1 _ I1 q1) fun iv s2 ⟨y,H2,I2,ry,a,v,ex,g,q2⟩=>?_);subst ex;obtain rfl:u=Value.ref a:=rx;exact⟨Xd I2 g,Qm hu I2 g ry fun w' s3 I3 rw'=>⟨v,H2,I3,rw',q2⟩⟩
theorem Fv(hu:X.A.units+1 < cLine)(ho:PE X o td)(hi:PE X i ty)(hv:PE X value tv)(hs:swapsWith value (some (.Subscript o i pos')) pos.line X.env=pure false) :
 PS X (.Assign [.Subscript o i pos'] value pos) (LZ td ty tv):=by
 intro Ya s Z H D I h;refine wpAny_Assign_Subscript (Yn (hv Ya s Z H _ I h) fun r s1 ⟨v,H1,I1,rv,q1⟩=>Yn (ho Ya s1 Z H1 _ I1 q1) fun u s2 ⟨x,H2,I2,rx,q2⟩=>Yn (hi Ya s2 Z H2 _ I2 q2) fun iv s3 ⟨y,H3,I3,ry,a,H4,ex,g,q3⟩=>?_) hs;subst ex;obtain rfl:u=Value.ref a:=rx;exact UA hu I3 g ry rv fun s4 I4=>⟨Z,H4,I4,q3⟩
end
theorem WS(h:Heap)(hb:sysModules < h.objs.size):ObjOk P w H (h.push { cls:=.type "dict",data:=.dict #[] }) h.objs.size (.dK []) :=
 ⟨ZV _,beq_eq_false_iff_ne.mpr (Ne.symm (ZT hb)),[],.nil,Heap.DictOf.new h⟩
noncomputable def Qj:TE:=fun _ H Q=>∀p,H p=none->Q (.ref p) (upd H p (.dK []))
section
variable {X:Cx}{pos:Pos}
theorem Gj:PE X (.Dict [] [] pos) Qj:=fun Ya s Z H Q I h =>
 wpAny_Dict_empty ⟨.ref s.heap.objs.size,_,I.laid (a:=s.heap.objs.size) (o:=.dK []) (t':=s.toks) (fun _ _ q=>ZI _ q) (ZE _) (WS s.heap I.big),rfl,h _ (I.hok.fresh (ZE _))⟩
end
structure M2(X:Cx)(o:Expr)(m:Str)(apos:Pos)(e f:Expr)(cpos:Pos):Prop where
 base:attributeBase o m X.env (eval o X.env)=eval o X.env
 few:((backTo cpos (starEach [e,f] X.env)).all (fun x=>!x.1) && (backToKw cpos (keywordEach [] X.env)).all (fun x=>x.1.isSome)
  && decide (([e,f]:List Expr).length+([]:List Keyword).length+(if ([]:List Keyword).isEmpty then 0 else 1) < 30))=true
 line:(apos.endLine == cpos.line)=true
 trees:backTo cpos (starEach [e,f] X.env)=[(false,eval e X.env),(false,eval f X.env)]
noncomputable def IsD(H:Hp)(a:Addr):Prop:=(∃Yd,Rd H a (.dK Yd))\/∃Yd,Rd H a (.dT Yd)
theorem Vh{Ya:List (Addr × Obj)}(I:Yg X Ya Z H s)(d:IsD H a) :
 s.TypeIs (.ref a) "dict" /\ (∀b,Value.ref a=.ref b->∃ob,s.heap.get? b=some ob/\ob.dict=none)/\(a == sysModules)=false:=by
 rcases d with ⟨Yd,e⟩ | ⟨Yd,e⟩
 ·obtain⟨_,hd,vs,_,dd⟩:=EU I.hok e;refine⟨dd.typeIs,fun b q=>?_,hd⟩;cases q;obtain⟨ob,_,_,h1,h2,_⟩:=dd;exact⟨ob,h1,h2.2.1⟩
 ·obtain⟨_,hd,xs,_,dd⟩:=Dr I.hok e;refine⟨dd.typeIs,fun b q=>?_,hd⟩;cases q;obtain⟨ob,_,_,h1,h2,_⟩:=dd;exact⟨ob,h1,h2.2.1⟩
section
variable {X:Cx}{Ya:List (Addr × Obj)}{Z:St}{H:Hp}{s:Shared}{a:Addr}{y d:V}{u r:Value}{o:Option V}{A:Around}{E:Value->Shared->Prop}
theorem Wf(hu:A.units+1 < cLine)(I:Yg X Ya Z H s)(g:DGet H a y o)(ry:Yh y u)(rd:Yh d r)(h:∀w' s',Yg X Ya Z H s'->Yh (o.getD d) w'->Q w' s') :
 wpAny (model X.prog X.w) A (call (.builtin "dict.get") [.ref a,u,r]) Q E s:=by
 rcases g with ⟨Yd,k,e,ey,l⟩ | ⟨Yd,k,b,e,ey,eb,l⟩
 ·subst ey;obtain⟨z,hd,vs,rel,dd⟩:=EU I.hok e;refine call_meetsIn PySem.F.slot_dict_get dd.typeIs PySem.F.entry_dict_get (PySem.F.args_dict_get_3 _ _ _) (meets_dict_get_default (BQ X.prog X.w) a (FN ry) hd r) ⟨_,dd.mapOf,h _ _ (I.tok _) ?_⟩;rw[l];exact(rel.val k).getD rd
 ·subst ey;cases (show u=Value.ref b from ry);obtain⟨z,hd,xs,rel,dd⟩:=Dr I.hok e;refine call_meetsIn PySem.F.slot_dict_get dd.typeIs PySem.F.entry_dict_get (PySem.F.args_dict_get_3 _ _ _) (meetsH_dict_get_default (tupleKind (BQ X.prog X.w)) a b hd r) ⟨tupleKind_room_in1 hu,k,xs,Ff I.hok eb,dd,h _ _ (I.tok _) ?_⟩;rw[l];exact(rel.val k).getD rd
end
noncomputable def UL(td ty tx:TE):TE:=fun Z H Q=>td Z H fun x H1=>∃a,x=.ref a/\IsD H1 a/\ty Z H1 fun y H2=>tx Z H2 fun z H3=>∃o,DGet H3 a y o/\Q (o.getD z) H3
section
variable {X:Cx}{o e f:Expr}{apos cpos:Pos}{td ty tx:TE}
theorem ME(hu:X.A.units+1 < cLine)(ho:PE X o td)(he:PE X e ty)(hf:PE X f tx)(m:M2 X o "get" apos e f cpos):PE X (.Call (.Attribute o "get" apos) [e,f] [] cpos) (UL td ty tx):=by
 intro Ya s Z H Q I h;refine wpAny_Call_method m.base m.few m.line PySem.F.plainAttrs_dict PySem.F.slot_dict_get PySem.F.type_dict_get (Yn (ho Ya s Z H _ I h) fun u s1 ⟨x,H1,I1,rx,a,ex,d,q1⟩=>?_);subst ex;obtain rfl:u=Value.ref a:=rx;obtain⟨t1,t2,_⟩:=Vh I1 d;refine⟨t1,t2,?_⟩;rw[m.trees]
 refine Calls.callWith_builtin rfl (Calls.evalArgs_plain (Calls.spliced_cons (Yn (he Ya s1 Z H1 _ I1 q1) fun iv s2 ⟨y,H2,I2,ry,q2⟩ =>
  Calls.spliced_cons (Yn (hf Ya s2 Z H2 _ I2 q2) fun fv s3 ⟨z,H3,I3,rz,ov,g,q3⟩=>Calls.spliced_nil ?_))))
 exact Wf hu I3 g ry rz fun w' s4 I4 rw'=>⟨_,H3,I4,rw',q3⟩
end
section
variable {X:Cx}{K:W.Frag}{o:Expr}{to:TE}{apos cpos:Pos}
noncomputable def NH:V->List V->Hp->VK->Prop:=fun x vs H Q=>match x,vs with
 | .int i,[]=>Q (.int (Builtin.Int.intBits i:Nat)) H
 | _,_=>False
theorem WY:MtR X "int.bit_length" NH:=by
 intro Ya s Z H x vs v us Q I rx rv q
 match x,vs,q with
 | .int i,[],q =>
  cases rv;obtain⟨t,rfl⟩:=(show ∃t,v=Value.int i t from rx);exact PyProof.Rows.call_int_bit_length ⟨.int (Builtin.Int.intBits i:Nat),H,I.tok _,⟨_,rfl⟩,q⟩
theorem Pn(ho:PE X o to)(hbase:attributeBase o "bit_length" X.env (eval o X.env)=eval o X.env:=by rfl)(hline:(apos.endLine == cpos.line)=true:=by rfl)(hK:X.K=K:=by rfl) :
 PE X (.Call (.Attribute o "bit_length" apos) [] [] cpos) (F0 K "int" NH to):=hK ▸ LW PySem.F.plainAttrs_int PySem.F.slot_int_bit_length PySem.F.type_int_bit_length WY ho hbase hline
end
theorem O7{T:String}{r:V->List V->Hp->VK->Prop}{to:TE}(h1:Af to)(h3:DU r):Af (F0 K T r to):=fun Z H Q Q' h q=>h1 _ _ _ _ (fun _ _ q=>⟨q.1,h3 _ _ _ _ _ h q.2⟩) q
noncomputable def Ite(K:W.Frag)(l:Addr):It :=
 ⟨fun i H=>∃xs x,Yw K H l xs/\xs[i]? = some x,
  fun i H v H'=>∃p x,H p=none/\v=.ref p/\H'=upd H p (.tup [.int i,x])/\∀xs,Yw K H l xs->xs[i]? = some x,
  fun i H=>∃xs,Yw K H l xs/\xs.length<=i⟩
theorem R0{kt:Nat}{tpos:Pos}{e it:Addr}(Yv:e≠it) :
 Turn P w K (.Tuple es kt tpos) (Ite K l) [e,it] e (fun i h=>(∃old,IsEnum h e it (i:Int) old)/\h.IsListIter it l i) where
 mem:=by simp
 obj:=fun i h st b hb=>by
  obtain⟨⟨old,hz⟩,⟨o1,e1,c1,d1⟩⟩:=st;simp only[ZH,Z6,or_false]at hb
  rcases hb with rfl | rfl
  ·exact⟨_,hz,fun v q=>nomatch q⟩
  ·exact⟨o1,e1,fun v q=>by rw[d1]at q;cases q⟩
 keep:=fun i h h' ⟨⟨old,hz⟩,h1⟩ k=>⟨⟨old,k e (by simp) _ hz⟩,h1.at fun o q=>k it (by simp) o q⟩
 item:=by
  intro X hP hw hK hc i Ya s Z H E I hf st hg;subst hP hw hK;obtain⟨xs,x,hq1,hx⟩:=hg;obtain⟨⟨old,hz⟩,h1⟩:=st;obtain⟨Ye,rv,p,_⟩:=I.list hq1;obtain⟨u,hu,ru⟩:=rv.get hx;refine wpAny_pyNext_enum_item hz h1 p.isList (x:=u) (by simpa using hu) Yv fun h' z1 z2 z3 z4 z5=>?_
  refine⟨_,rfl,?_⟩
  have z5':∀b v,b∉[e,it]->s.heap.get? b=some v->h'.get? b=some v:=fun b v hb q=>by
   simp only[ZH,Z6,or_false,not_or]at hb;exact z5 b v hb.1 hb.2 q
  have I1:Yg X Ya Z (upd H s.heap.objs.size (.tup [.int i,x])) { s with heap:=h' }:=by
   refine I.turnedNew (ch:=[e,it]) (fun b hb=>hf b hb) (ZE _) z5' ?_ fun b hb=>?_
   ·exact⟨smq rfl,[.int i s.toks,u],.cons ⟨_,rfl⟩ (.cons ru .nil),⟨_,z3,rfl,⟨_,rfl⟩,rfl⟩⟩
   ·simp only[ZH,Z6,or_false]at hb
    rcases hb with rfl | rfl
    ·exact⟨_,z1⟩
    ·obtain⟨o,q,_⟩:=z2;exact⟨o,q⟩
  refine wpAny_letOwnedTupleGo_enum (s:={ s with heap:=h',toks:=s.toks+1 }) z1 fun h'' z8 z9=>?_
  have hfz:=hf e (by simp)
  have neT:∀b,b∈[e,it]->b≠s.heap.objs.size:=fun b hb q=>by
   have st':∃o,s.heap.get? b=some o:=by
    simp only[ZH,Z6,or_false]at hb
    rcases hb with rfl | rfl
    ·exact⟨_,hz⟩
    ·obtain⟨o,q,_⟩:=h1;exact⟨o,q⟩
   obtain⟨o,ho⟩:=st'
   have:=ZG ho
   rw[q]at this;exact Zd _ this
  have hTH:∀b∈[e,it],upd H s.heap.objs.size (.tup [.int i,x]) b=none:=fun b hb=>by rw[AJ (neT b hb)];exact(hf b hb).1
  have I2:Yg X Ya Z (upd H s.heap.objs.size (.tup [.int i,x])) { s with heap:=h'',toks:=s.toks+1 } :=
   I1.turned (t':=s.toks+1) (fun b o hb q=>(z9.2 b hb).trans q) (hTH e (by simp)) hfz.2.1 hfz.2.2.2.1 hfz.2.2.2.2.1 hfz.2.2.2.2.2
  have up:∀b o,b≠e->h'.get? b=some o->h''.get? b=some o:=fun b o hb q=>(z9.2 b hb).trans q
  exact⟨.ref s.heap.objs.size,_,I2,rfl,⟨_,x,I.hok.fresh (ZE _),rfl,rfl,fun xs' h=>by rw[I.list_inj h hq1];exact hx⟩,⟨⟨_,z8⟩,z2.at fun o q=>up _ o (Ne.symm Yv) q⟩,hTH⟩
 done:=by
  intro X hP hw hK hc i Ya s Z H E I hf st hg;subst hP hw hK;obtain⟨xs,hq1,hl⟩:=hg;obtain⟨⟨old,hz⟩,h1⟩:=st;obtain⟨Ye,rv,p,_⟩:=I.list hq1;have e1:=rv.length;refine wpAny_pyNext_enum_end (I.ok.hd hc) hz h1 p.isList (by simp;lia) fun h' z7=>⟨rfl,?_⟩
  obtain⟨f0,f1,f2,f3,f4,f5⟩:=hf it (by simp);exact I.turned (t':=s.toks) (fun b o hb q=>z7 b o hb q) f0 f1 f3 f4 f5
 self:=fun _ _ _ _ _ st h=>wpAny_pyIter_enum st.1.choose_spec h
section
variable {X:Cx}
noncomputable def Qu(K:W.Frag)(ta:TA):TI:=fun Z H R=>ta Z H fun vs H1=>match vs with
 | [.ref a]=>(∃xs,Yw K H1 a xs)/\R (Ite K a) H1
 | _=>False
theorem UU {a:Expr} {ta:TA} {p:Pos} {kt:Nat} {tpos:Pos} (hg:Gl X "enumerate") (hm:X.mg "enumerate" = none) (ha:PA X [a] ta)
 (hs:starEach [a] X.env=[(false,eval a X.env)]:=by rfl) (hK:X.K=K:=by rfl) :
 PI X (.Tuple es kt tpos) (.Call (.Name "enumerate" p) [a] [] pos) (Qu K ta):=by
 subst hK;intro Ya s Z H R I h;refine Call_ (Cv I hg hm (by rfl:bootBuiltins "enumerate" = some (.type "enumerate")) (PyProof.Rows.callWith_type1 (Yn (ha pos Ya s Z H _ I h) fun us s1 ⟨vs,H1,I1,r1,q1⟩=>?_) (by rw[hs];rfl) (by rfl)))
 match vs,q1,r1 with
 | [.ref l1],⟨⟨xs,hx⟩,q⟩,r1 =>
 cases r1 with
 | cons r rr =>
 cases rr;cases r;obtain⟨Ye,rv,p1,_⟩:=I1.list hx;refine call_enumerate_list p1.isList fun h' z1 z2 z3 z4=>?_
 refine wpAny_pyIter_enum (s:={ s1 with heap:=h' }) z1 ?_;have I2:Yg X Ya Z H1 { s1 with heap:=h' }:=I1.kept (t':=s1.toks) z4;refine⟨_,_,_,_,H1,rfl,I2,R0 (l:=l1) (it:=s1.heap.objs.size) (ZBQ (ZBJ _)),⟨⟨_,z1⟩,z2⟩,fun b hb=>?_,q⟩;refine I1.fpOk ?_ (I1.hok.fresh ?_)
 all_goals
  simp only[ZH,Z6,or_false]at hb
  rcases hb with rfl | rfl
  ·exact ZBb _
  ·exact ZE _
theorem Tx {g:TG} {tc:TT} {Q:VK} (Pv:Nat->List V->Hp->Prop) (h0:Pv 0 [] H) (hl:∀i zs H,i<=xs.length->Pv i zs H->Yw K H l xs) (hz:∀i zs H,i < xs.length->Pv i zs H->zs.length < sizeLine)
 (hs:∀i x zs H p,xs[i]? = some x->Pv i zs H->H p=none->g (.ref p) σc (upd H p (.tup [.int (i:Nat),x])) fun σ2 H2=>tc σ2 H2 fun b H3=>if b=true then te σ2 H3 fun v H4=>Pv (i+1) (zs++[v]) H4 else Pv (i+1) zs H3)
 (hd:∀zs H,Pv xs.length zs H->∀p,H p=none->Q (.ref p) (upd H p (.lst zs))):C9 (Ite K l) g tc te σc Q H:=by
 refine⟨fun i m zs H=>m=xs.length - i/\i<=xs.length/\Pv i zs H,⟨xs.length,by simp,ZV _,h0⟩,?_⟩;rintro i m zs H ⟨rfl,hi,p⟩;have q1:=hl i zs H hi p
 by_cases Yr:i < xs.length
 ·refine .inr ⟨⟨xs,xs[i],q1,by simp[Yr]⟩,hz i zs H Yr p,Pv (i+1),fun zs' H' p'=>⟨xs.length - (i+1),by lia,rfl,Yr,p'⟩,?_⟩;rintro v H' ⟨pp,x,hp,rfl,rfl,k1⟩;exact hs i x zs H pp (k1 xs q1) p hp
 ·have e:i=xs.length:=by lia
  subst e;exact .inl ⟨⟨xs,q1,ZE _⟩,hd zs H p⟩
end
noncomputable def TyS(K:W.Frag)(H:Hp)(x:V)(t:String):Prop:=match x with
 | .int _=>t = "int"
 | .bl _=>t = "bool"
 | .ref a=>(t = "tuple" /\ ∃xs,Yp K H a xs)\/(t = "list" /\ ∃xs,Yw K H a xs)
 | _=>False
noncomputable def Bm(t T:String):Bool:=t == T || (t == "bool" && T == "int")
section
variable {X:Cx}{K:W.Frag}
theorem Lm{Ya:List (Addr × Obj)}{x:V}{t:String}(I:Yg X Ya Z H s)(rx:Yh x u)(h:TyS X.K H x t) :
 (t = "int" \/ t = "bool" \/ t = "tuple" \/ t = "list")/\u≠Value.builtin "__main__.__loader__#opaque" /\ ∃Hh:Heap->Prop,PySem.W.KitX X.K u (.type t) Hh/\Hh s.heap:=by
 cases x with
 | int i =>
  obtain⟨k,rfl⟩:=(show ∃t,u=Value.int i t from rx);cases (show t = "int" from h);exact⟨.inl rfl,(fun z=>nomatch z),_,PySem.W.kitx_int,True.intro⟩
 | bl b =>
  cases (show u=Value.bool b from rx);cases (show t = "bool" from h);exact⟨.inr (.inl rfl),(fun z=>nomatch z),_,PySem.W.kitx_bool,True.intro⟩
 | ref a =>
  cases (show u=Value.ref a from rx)
  rcases h with ⟨rfl,xs,hq⟩ | ⟨rfl,xs,hq⟩
  ·obtain⟨Ye,rv,p,_⟩:=I.tuple hq;obtain⟨o,h1,h2,_⟩:=p;exact⟨.inr (.inr (.inl rfl)),(fun z=>nomatch z),_,PySem.W.kitx_tuple,⟨o,h1,h2⟩⟩
  ·obtain⟨Ye,rv,p,_⟩:=I.list hq;obtain⟨o,n,h1,h2,_⟩:=p;exact⟨.inr (.inr (.inr rfl)),(fun z=>nomatch z),_,PySem.W.kitx_list,⟨o,h1,h2⟩⟩
 | _=>exact False.elim h
end
open AutoSeq1 (wpAny_loadPart')
section
variable {prog:Program}{w:World}{A:Around}{E:Value->Shared->Prop}{s:Shared}
theorem Pk {j tp:Addr} {k:Nat} {Ye:Array Value} {z:Value} (hj:s.heap.IsTupleIter j tp k) (hp:s.heap.IsTuple tp Ye) (hz:Ye[k]? = some z)
 (q:∀h',h'.IsTupleIter j tp (k+1)->Heap.SameBut j s.heap h'->Q z { s with heap:=h' }):wpAny (model prog w) A (Builtin.SmallTypes.nextOf (.ref j)) Q E s:=by
 obtain⟨ob,g1,g2,g3⟩:=id hj;obtain⟨ol,k1,_,nl,k3⟩:=hp;unfold Builtin.SmallTypes.nextOf;refine ZA (wpAny_callSpecial?_slot (name:=Str.ofString "__next__") hj.typeIs F.slot_tuple_iterator_next (Zz F.slot_tuple_iterator_next hj.typeIs F.entry_tuple_iterator_next ?_ (F.args_tuple_iterator_next_1 _)));show wpAny _ _ (field (.ref j) 0 >>= _) _ _ s;refine ZA (ZBR g1 g3 (x:=.ref tp) rfl ?_);show wpAny _ _ (if (Value.ref tp == Value.none)=true then _ else _) _ _ s;rw[if_neg (c:=(Value.ref tp == Value.none)=true) (fun z=>Zh z)];show wpAny _ _ (field (.ref j) 1 >>= _) _ _ s;refine ZA (ZBR g1 g3 (x:=.int k 0) rfl ?_);show wpAny _ _ (seqItems? (.ref tp) >>= _) _ _ s;refine ZA (wpAny_seqItems k1 k3 ?_);simp only[ZZ,hz];refine ZA (ZBU g1 g3 (by simp) (ZC ⟨z,rfl,ZC (q _ ?_ (Z7 ..))⟩));refine⟨_,ZBd _ g1 (Obj.isFreed_of_fields (Obj.data_mapFields g3 _)),(Obj.cls_mapFields ..).trans g2,?_⟩;rw[Obj.data_mapFields g3];simp[rawInt]
theorem Nu {j tp:Addr} {k:Nat} {Ye:Array Value} (hh:A.handled=none) (hj:s.heap.IsTupleIter j tp k) (hp:s.heap.IsTuple tp Ye) (hz:Ye[k]? = none)
 (q:∀h' e,Heap.ExtBut j s.heap h'->(∃o,h'.get? e=some o/\o.cls=.type "StopIteration")->E (.ref e) { s with heap:=h' }):wpAny (model prog w) A (Builtin.SmallTypes.nextOf (.ref j)) Q E s:=by
 obtain⟨ob,g1,g2,g3⟩:=id hj;obtain⟨ol,k1,_,nl,k3⟩:=hp;unfold Builtin.SmallTypes.nextOf;refine ZA (wpAny_callSpecial?_slot (name:=Str.ofString "__next__") hj.typeIs F.slot_tuple_iterator_next (Zz F.slot_tuple_iterator_next hj.typeIs F.entry_tuple_iterator_next ?_ (F.args_tuple_iterator_next_1 _)));show wpAny _ _ (field (.ref j) 0 >>= _) _ _ s;refine ZA (ZBR g1 g3 (x:=.ref tp) rfl ?_);show wpAny _ _ (if (Value.ref tp == Value.none)=true then _ else _) _ _ s;rw[if_neg (c:=(Value.ref tp == Value.none)=true) (fun z=>Zh z)];show wpAny _ _ (field (.ref j) 1 >>= _) _ _ s;refine ZA (ZBR g1 g3 (x:=.int k 0) rfl ?_);show wpAny _ _ (seqItems? (.ref tp) >>= _) _ _ s;refine ZA (wpAny_seqItems k1 k3 ?_);simp only[ZZ,hz];refine ZA (wpAny_rule (ZA (ZBU g1 g3 (by simp) ?_)));show wpAny _ _ (newExc (.type "StopIteration") [] >>= fun z=>_) _ _ _;refine ZA ?_;simp only[newExc,newTuple];refine ZA (Zx (hd:=by size_fits) ?_);refine ZA (m:=firstArgMember _ _) (wpAny_of_eq (a:=Value.none) (by first | (simp only[firstArgMember];rfl) | rfl) ?_);refine Zx (hd:=by size_fits) ?_;simp only[raiseNew];refine ZA (wpAny_handled ?_)
 first | rw[hh] | rw[show A.in1.handled=none from hh]
 refine ZA (ZC (wpAny_throw ?_));exact q _ _ (((Z7 ..).extBut.push _).push _) ⟨_,ZS _ rfl,rfl⟩
theorem Wl(hh:A.handled=none)(j tp:Addr)(Yv:tp≠j)(Ye:Array Value) :
 Draws prog w A j [j,tp] Ye.size (fun k v=>Ye[k]? = some v) (fun k h=>h.IsTupleIter j tp k/\h.IsTuple tp Ye) where
 live:=fun _ _ st=>by obtain⟨⟨o,ho,_⟩,_⟩:=st;exact⟨o,ho⟩
 frame:=fun _ _ _ st hk=>by
  obtain⟨st1,o,h1,h2⟩:=st;exact⟨st1.at fun o e=>hk j (by simp) o e,o,hk tp (by simp) o h1,h2⟩
 item:=fun k s Q E hi st hQ=>by
  refine Pk st.1 st.2 (z:=Ye[k]) (by simp[hi]) fun h' h1 h2=>?_
  exact hQ _ h' s.toks (by simp[hi]) ⟨h1,st.2.extBut h2.extBut Yv⟩ h2
 done:=fun s Q E st hE=>Nu hh st.1 st.2 (by simp) hE
theorem VN(tp:Addr)(Ye:Array Value)(n:Nat)(dct:Option Addr)(sl:Array (Option Value)) :
 Meets (Builtin.«enumerate.__new__» ⟨[.type "enumerate",.ref tp],[]⟩) (fun _ R s=>s.heap.get? tp=some { cls:=.type "tuple",dict:=dct,data:=.seq Ye n,slots:=sl } /\
  R (.ok (.ret (.ref (s.heap.push { cls:=.type "tuple_iterator",data:=.fields #[.ref tp,.int 0 0] }).objs.size)))
   { s with heap:=(s.heap.push { cls:=.type "tuple_iterator",data:=.fields #[.ref tp,.int 0 0] }).push { cls:=.type "enumerate",data:=.fields #[.none,.bool false,.ref s.heap.objs.size,rawInt 0,.none,.none] } }) :=
 .of_wp fun prog w A R s h=>by
  obtain⟨hp,g,d,tk,os⟩:=s;obtain⟨hl,h⟩:=h;have hsub:=sub_enumerate;have ht:Heap.IsTuple (Shared.heap ⟨hp,g,d,tk,os⟩) tp Ye:=⟨_,hl,rfl,n,rfl⟩
  wp_walk using wpAny_loadPart' hl
  refine wpAny_stack_any fun st=>ZC ?_
  split
  ·rename_i c _ _ _ _ _;cases (c == Value.type "enumerate") <;> (wp_walk using wpAny_loadPart' hl,wpAny_pyIter_tuple ht;exact⟨_,rfl,h⟩)
  ·wp_walk using wpAny_loadPart' hl,wpAny_pyIter_tuple ht
   exact⟨_,rfl,h⟩
theorem V3 {tp:Addr} {Ye:Array Value} (ht:s.heap.IsTuple tp Ye)
 (h:∀h',IsEnum h' (s.heap.objs.size+1) s.heap.objs.size 0 .none->h'.IsTupleIter s.heap.objs.size tp 0->(∀b o,s.heap.get? b=some o->h'.get? b=some o)->Q (.ref (s.heap.objs.size+1)) { s with heap:=h' }) :
 wpAny (model prog w) A (call (.type "enumerate") [.ref tp]) Q E s:=by
 obtain⟨⟨c,dct,dt,sl⟩,hl,hc,n,hd⟩:=ht;cases (show c=.type "tuple" from hc);cases (show dt=.seq Ye n from hd);refine callType_new F.called_enumerate (by decide) (F.typeCall_enumerate_1 _) (F.newCall_enumerate_1 _) (fun obj=>F.args_object_init_2 obj _) F.entry_enumerate_new (VN tp Ye n dct sl) ⟨hl,?_⟩;have z1:(s.heap.push { cls:=.type "tuple_iterator",data:=.fields #[.ref tp,.int 0 0] }).objs.size=s.heap.objs.size+1:=Z4 ..;show _/\_;rw[z1];have z2:=ZS (s.heap.push { cls:=.type "tuple_iterator",data:=.fields #[.ref tp,.int 0 0] }) (o:={ cls:=.type "enumerate",data:=.fields #[.none,.bool false,.ref s.heap.objs.size,rawInt 0,.none,.none] }) rfl;rw[z1]at z2;have z3:IsEnum _ (s.heap.objs.size+1) s.heap.objs.size 0 .none:=z2;exact⟨⟨_,z2,rfl⟩,h _ z3 ⟨_,ZI _ (ZS _ rfl),rfl,rfl⟩ fun b o x=>ZI _ (ZI _ x)⟩
end
noncomputable def KP(K:W.Frag)(l:Addr):It :=
 ⟨fun i H=>∃xs x,Yp K H l xs/\xs[i]? = some x,
  fun i H v H'=>∃p x,H p=none/\v=.ref p/\H'=upd H p (.tup [.int i,x])/\∀xs,Yp K H l xs->xs[i]? = some x,
  fun i H=>∃xs,Yp K H l xs/\xs.length<=i⟩
theorem RU{kt:Nat}{tpos:Pos}{e it:Addr}(Yv:e≠it) :
 Turn P w K (.Tuple es kt tpos) (KP K l) [e,it] e (fun i h=>(∃old,IsEnum h e it (i:Int) old)/\h.IsTupleIter it l i) where
 mem:=by simp
 obj:=fun i h st b hb=>by
  obtain⟨⟨old,hz⟩,⟨o1,e1,c1,d1⟩⟩:=st;simp only[ZH,Z6,or_false]at hb
  rcases hb with rfl | rfl
  ·exact⟨_,hz,fun v q=>nomatch q⟩
  ·exact⟨o1,e1,fun v q=>by rw[d1]at q;cases q⟩
 keep:=fun i h h' ⟨⟨old,hz⟩,h1⟩ k=>⟨⟨old,k e (by simp) _ hz⟩,h1.at fun o q=>k it (by simp) o q⟩
 item:=by
  intro X hP hw hK hc i Ya s Z H E I hf st hg;subst hP hw hK;obtain⟨xs,x,hq1,hx⟩:=hg;obtain⟨⟨old,hz⟩,h1⟩:=st;obtain⟨Ye,rv,p,_⟩:=I.tuple hq1;obtain⟨u,hu,ru⟩:=rv.get hx;have hp:s.heap.IsTuple l Ye.toArray:=p;have le:l≠e:=fun q=>by obtain⟨o,g1,g2,_⟩:=hp;rw[q]at g1;rw[show s.heap.get? e=_ from hz]at g1;cases g1;exact absurd (show Value.type "enumerate" = Value.type "tuple" from g2) (by decide)
  have li:l≠it:=fun q=>by obtain⟨o,g1,g2,_⟩:=hp;obtain⟨o',g3,g4,_⟩:=h1;rw[q,g3]at g1;cases g1;rw[g4]at g2;exact absurd g2 (by decide)
  refine wpAny_pyNext_enum_itemD (Wl (A:=X.A.in1) (show X.A.in1.handled=none from I.ok.hd hc) it l li Ye.toArray) hz ⟨h1,hp⟩ ?_ Yv (by simp[Yv,Ne.symm le]) fun y h' tk py z1 z2' z3 z4 z5=>?_
  ·have:=(Zf.mp hu).1
   simpa using this
  obtain⟨z2,_⟩:=z2'
  have ey:y=u:=by
   have:Ye.toArray[i]? = some u:=by simpa using hu
   rw[this]at py;exact(ZU py).symm
  subst ey;refine⟨_,rfl,?_⟩
  have z5':∀b v,b∉[e,it]->s.heap.get? b=some v->h'.get? b=some v:=fun b v hb q=>by
   simp only[ZH,Z6,or_false,not_or]at hb;exact z5 b v hb.1 hb.2 q
  have I1:Yg X Ya Z (upd H s.heap.objs.size (.tup [.int i,x])) { s with heap:=h' }:=by
   refine I.turnedNew (ch:=[e,it]) (fun b hb=>hf b hb) (ZE _) z5' ?_ fun b hb=>?_
   ·exact⟨smq rfl,[.int i tk,y],.cons ⟨_,rfl⟩ (.cons ru .nil),⟨_,z3,rfl,⟨_,rfl⟩,rfl⟩⟩
   ·simp only[ZH,Z6,or_false]at hb
    rcases hb with rfl | rfl
    ·exact⟨_,z1⟩
    ·obtain⟨o,q,_⟩:=z2;exact⟨o,q⟩
  refine wpAny_letOwnedTupleGo_enum (s:={ s with heap:=h',toks:=tk+1 }) z1 fun h'' z8 z9=>?_
  have hfz:=hf e (by simp)
  have neT:∀b,b∈[e,it]->b≠s.heap.objs.size:=fun b hb q=>by
   have st':∃o,s.heap.get? b=some o:=by
    simp only[ZH,Z6,or_false]at hb
    rcases hb with rfl | rfl
    ·exact⟨_,hz⟩
    ·obtain⟨o,q,_⟩:=h1;exact⟨o,q⟩
   obtain⟨o,ho⟩:=st'
   have:=ZG ho
   rw[q]at this;exact Zd _ this
  have hTH:∀b∈[e,it],upd H s.heap.objs.size (.tup [.int i,x]) b=none:=fun b hb=>by rw[AJ (neT b hb)];exact(hf b hb).1
  have I2:Yg X Ya Z (upd H s.heap.objs.size (.tup [.int i,x])) { s with heap:=h'',toks:=tk+1 } :=
   I1.turned (t':=tk+1) (fun b o hb q=>(z9.2 b hb).trans q) (hTH e (by simp)) hfz.2.1 hfz.2.2.2.1 hfz.2.2.2.2.1 hfz.2.2.2.2.2
  have up:∀b o,b≠e->h'.get? b=some o->h''.get? b=some o:=fun b o hb q=>(z9.2 b hb).trans q
  exact⟨.ref s.heap.objs.size,_,I2,rfl,⟨_,x,I.hok.fresh (ZE _),rfl,rfl,fun xs' h=>by rw[I.tuple_inj h hq1];exact hx⟩,⟨⟨_,z8⟩,z2.at fun o q=>up _ o (Ne.symm Yv) q⟩,hTH⟩
 done:=by
  intro X hP hw hK hc i Ya s Z H E I hf st hg;subst hP hw hK;obtain⟨xs,hq1,hl⟩:=hg;obtain⟨⟨old,hz⟩,h1⟩:=st;obtain⟨Ye,rv,p,_⟩:=I.tuple hq1;have e1:=rv.length;have hp:s.heap.IsTuple l Ye.toArray:=p;have hT:s.TypeIs (.ref e) "enumerate":=⟨_,hz,rfl⟩;unfold pyNext;refine ZA (wpAny_attempt (wpAny_callSpecial?_slot (name:=Str.ofString "__next__") hT F.slot_enumerate_next (Zz F.slot_enumerate_next hT F.entry_enumerate_next ?_ (F.args_enumerate_next_1 _))));show wpAny _ _ (field (.ref e) 2 >>= fun z=>_) _ _ _;refine ZA (ZBR hz rfl (x:=.ref it) rfl ?_);refine ZA (Nu (by first | exact I.ok.hd hc | simpa using I.ok.hd hc) h1 hp (by simp;lia) fun h' x z7 hx'=>?_);obtain⟨o,ho,hcl⟩:=hx';refine ZA (wpAny_isInstance (T:="StopIteration") (b:=true) ⟨o,ho,hcl⟩ isSubtype_stop (ZC ⟨rfl,?_⟩));obtain⟨f0,f1,f2,f3,f4,f5⟩:=hf it (by simp);exact I.turned (t':=s.toks) (fun b o hb q=>z7 b o hb q) f0 f1 f3 f4 f5
 self:=fun _ _ _ _ _ st h=>wpAny_pyIter_enum st.1.choose_spec h
section
variable {X:Cx}
noncomputable def Tm(K:W.Frag)(ta:TA):TI:=fun Z H R=>ta Z H fun vs H1=>match vs with
 | [.ref a]=>(∃xs,Yp K H1 a xs)/\R (KP K a) H1
 | _=>False
theorem KC {a:Expr} {ta:TA} {p:Pos} {kt:Nat} {tpos:Pos} (hg:Gl X "enumerate") (hm:X.mg "enumerate" = none) (ha:PA X [a] ta)
 (hs:starEach [a] X.env=[(false,eval a X.env)]:=by rfl) (hK:X.K=K:=by rfl) :
 PI X (.Tuple es kt tpos) (.Call (.Name "enumerate" p) [a] [] pos) (Tm K ta):=by
 subst hK;intro Ya s Z H R I h;refine Call_ (Cv I hg hm (by rfl:bootBuiltins "enumerate" = some (.type "enumerate")) (PyProof.Rows.callWith_type1 (Yn (ha pos Ya s Z H _ I h) fun us s1 ⟨vs,H1,I1,r1,q1⟩=>?_) (by rw[hs];rfl) (by rfl)))
 match vs,q1,r1 with
 | [.ref l1],⟨⟨xs,hx⟩,q⟩,r1 =>
 cases r1 with
 | cons r rr =>
 cases rr;cases r;obtain⟨Ye,rv,p1,_⟩:=I1.tuple hx;refine V3 (Ye:=Ye.toArray) p1 fun h' z1 z2 z4=>?_
 refine wpAny_pyIter_enum (s:={ s1 with heap:=h' }) z1 ?_;have I2:Yg X Ya Z H1 { s1 with heap:=h' }:=I1.kept (t':=s1.toks) z4;refine⟨_,_,_,_,H1,rfl,I2,RU (l:=l1) (it:=s1.heap.objs.size) (ZBQ (ZBJ _)),⟨⟨_,z1⟩,z2⟩,fun b hb=>?_,q⟩;refine I1.fpOk ?_ (I1.hok.fresh ?_)
 all_goals
  simp only[ZH,Z6,or_false]at hb
  rcases hb with rfl | rfl
  ·exact ZBb _
  ·exact ZE _
theorem HZ {g:TG} {tc:TT} {Q:VK} (Pv:Nat->List V->Hp->Prop) (h0:Pv 0 [] H) (hl:∀i zs H,i<=xs.length->Pv i zs H->Yp K H l xs) (hz:∀i zs H,i < xs.length->Pv i zs H->zs.length < sizeLine)
 (hs:∀i x zs H p,xs[i]? = some x->Pv i zs H->H p=none->g (.ref p) σc (upd H p (.tup [.int (i:Nat),x])) fun σ2 H2=>tc σ2 H2 fun b H3=>if b=true then te σ2 H3 fun v H4=>Pv (i+1) (zs++[v]) H4 else Pv (i+1) zs H3)
 (hd:∀zs H,Pv xs.length zs H->∀p,H p=none->Q (.ref p) (upd H p (.lst zs))):C9 (KP K l) g tc te σc Q H:=by
 refine⟨fun i m zs H=>m=xs.length - i/\i<=xs.length/\Pv i zs H,⟨xs.length,by simp,ZV _,h0⟩,?_⟩;rintro i m zs H ⟨rfl,hi,p⟩;have q1:=hl i zs H hi p
 by_cases Yr:i < xs.length
 ·refine .inr ⟨⟨xs,xs[i],q1,by simp[Yr]⟩,hz i zs H Yr p,Pv (i+1),fun zs' H' p'=>⟨xs.length - (i+1),by lia,rfl,Yr,p'⟩,?_⟩;rintro v H' ⟨pp,x,hp,rfl,rfl,k1⟩;exact hs i x zs H pp (k1 xs q1) p hp
 ·have e:i=xs.length:=by lia
  subst e;exact .inl ⟨⟨xs,q1,ZE _⟩,hd zs H p⟩
end
theorem GW(a b:Nat):Builtin.bitAnd (a:Int) (b:Int)=((a &&& b:Nat):Int):=by
 unfold Builtin.bitAnd;rw[ZL (ZB1 a),ZL (ZB1 b)];rfl
noncomputable def iL(xs:List Nat):List V:=xs.map fun i=>V.int (i:Nat)
noncomputable def iD(xs:List Nat):List Dv:=xs.map fun i=>Dv.int (i:Nat)
theorem Aj(xs:List Nat):(iL xs).length=xs.length:=by unfold iL;rw[ZB]
theorem Ce(xs ys:List Nat):iL (xs++ys)=iL xs++iL ys:=by unfold iL;rw[ZF]
theorem Bp{xs:List Nat}(h:(iL xs)[i]? = some v):∃x,xs[i]? = some x/\x∈xs/\v=.int (x:Nat):=by
 unfold iL at h;rw[ZP]at h;cases e:xs[i]? with
 | none=>rw[e]at h;cases h
 | some x=>rw[e]at h;exact⟨x,rfl,Zt e,(ZU h).symm⟩
theorem JM:∀xs:List Nat,Yc K H (iD xs) (iL xs)
 | []=>by unfold iD iL Yc;rfl
 | x::xs=>by
  show Yc K H (Dv.int (x:Nat)::iD xs) (V.int (x:Nat)::iL xs);unfold Yc;exact⟨_,_,rfl,by unfold Yf;rfl,JM xs⟩
theorem J6{H0:Hp}(s:Yb H0 H)(ht:H0 t=none):Yb H0 (upd H t o):=fun b u e=>by
 rw[AJ (BU e ht)];exact s b u e
theorem Yb.sqT(e:Yb H H')(h:Yp K H a xs):Yp K H' a xs:=Fy h (fun o k=>e _ _ k)
theorem Yb.sqL(e:Yb H H')(h:Yw K H a xs):Yw K H' a xs:=Kw h (fun o k=>e _ _ k)
noncomputable def Nl:Nat->Nat->Nat
 | 0,_=>0
 | f+1,x=>x % 2+Nl f (x / 2)
@[irreducible] noncomputable def many(x:Nat):Nat:=Nl 64 x
noncomputable def gB(bs:List Bool)(i:Nat):Bool:=bs.getD i false
theorem WN{bs:List Bool}(h:i < bs.length):gB bs i=bs[i]:=by unfold gB;rw[ZN,ZD h];rfl
theorem FU{bs:List Bool}(h:i < bs.length):atI (bs.map V.bl) ((i:Nat):Int)=some (.bl (gB bs i)):=by
 rw[WN h];exact AW rfl (by rw[ZP,ZD h];rfl)
noncomputable def Nb(x:Int)(k:Nat):Prop:=x.natAbs < 2 ^ k
theorem Nb.mul{x y:Int}{a b:Nat}(hx:Nb x a)(hy:Nb y b):Nb (x * y) (a+b):=by
 unfold Nb at *;rw[Int.natAbs_mul,Nat.pow_add];exact Nat.mul_lt_mul'' hx hy
theorem Nb.up{x:Int}{a b:Nat}(hx:Nb x a)(h:a<=b):Nb x b:=ZX hx (Zl (by decide) h)
theorem Nb.pow{x:Int}{a:Nat}(hx:Nb x a):∀i,Nb (x ^ i) (a * i+1)
 | 0=>by unfold Nb;rw[Int.pow_zero];show 1 < 2 ^ (a * 0+1);rw[Nat.mul_zero];decide
 | i+1=>by
  rw[Int.pow_succ]
  have:=(hx.pow i).mul hx
  rw[show a * (i+1)+1=a * i+1+a by rw[Nat.mul_succ];lia];exact this
theorem Nb.okMul{x y:Int}(hx:Nb x 4000)(hy:Nb y 4000):okMul x y:=.inl ⟨hx.up (by decide),hy.up (by decide)⟩
noncomputable def HH(H:Hp)(Q:VK)(xs:List V):Prop:=∀p H',H p=none->Yb H H'->H' p=some (.lst xs)->Q (.ref p) H'
theorem Oh(f:Nat->Bool)(n:Nat):((List.range (n+1)).map f).map V.bl=((List.range n).map f).map V.bl++[V.bl (f n)]:=by
 rw[ZBN,ZF,ZF];rfl
theorem UE{td ty tv:TE}(h1:Af td)(h2:Af ty)(h3:Af tv):Bf (LZ td ty tv):=fun D D' Z H h q=>h3 _ _ _ _ (fun _ _ q=>h1 _ _ _ _ (fun _ _ q=>h2 _ _ _ _ (fun _ _ ⟨a,H4,e,g,q⟩=>⟨a,H4,e,g,h.nx _ _ q⟩) q) q) q
theorem C8(h:A.units+60 < cLine):A.units+1 < cLine:=by lia
end L2
namespace L2
open PySem PySem.Spec PyProof.Rows
variable {H:Hp}{d t:Addr}{N:Nat}{K:W.Frag}{Yd:List (Key × V)}
section
variable {X:Cx}{K:W.Frag}{e sx:Expr}{te ts:TE}{lo hi:Option Expr}{tl th:TO}{pos p2:Pos}
noncomputable def mIs(neg:Bool):R2:=fun x y H Q=>match x,y with
 | .bl a,.bl b=>Q (.bl (neg ^^ (a == b))) H
 | x,.non=>Q (.bl (neg ^^ decide (x=.non))) H
 | _,_=>False
theorem WO:Yt X (compareOp .Is) (mIs false):=by
 intro Ya s Z H x y v u Q I rx ry h;unfold mIs at h;split at h
 ·cases rx;cases ry;rename_i a b;exact wpAny_of_eq (show compareOp .Is (.bool a) (.bool b)=pure (.bool (a == b)) by cases a <;> cases b <;> rfl) ⟨.bl (a == b),H,I,rfl,by rw[Z2]at h;exact h⟩
 ·exact SO Ya s Z H _ _ v u Q I rx ry ⟨rfl,by rw[Z2]at h;exact h⟩
 ·exact h.elim
theorem D2:Yt X (compareOp .IsNot) (mIs true):=by
 intro Ya s Z H x y v u Q I rx ry h;unfold mIs at h;split at h
 ·cases rx;cases ry;rename_i a b;exact wpAny_of_eq (show compareOp .IsNot (.bool a) (.bool b)=pure (.bool (!(a == b))) by cases a <;> cases b <;> rfl) ⟨.bl (!(a == b)),H,I,rfl,by rw[Bool.true_xor]at h;exact h⟩
 ·exact RA Ya s Z H _ _ v u Q I rx ry ⟨rfl,by rw[Bool.true_xor]at h;exact h⟩
 ·exact h.elim
theorem Rc{neg:Bool}:BZ (mIs neg):=fun x y H Q Q' h q=>by
 unfold mIs at *;split at q
 ·exact h _ _ q
 ·exact h _ _ q
 ·exact q.elim
end
structure GFeed(H:Hp)(t:Addr)(N:Nat):Prop where
 at_:∃(l:Addr) (i g c:Int) (ns:List Int),0<=i/\0<=g/\0<=c/\c<=N/\H t=some (.lst [.ref l,.int i,.int g,.int c])/\l≠t/\H l=some (.lst (ns.map V.int))/\ns.length≠0
theorem GFeed.same{H':Hp}(F:GFeed H t N)(h:Yb H H'):GFeed H' t N:=by
 obtain⟨l,i,g,c,ns,h1,h2,h3,h4,h5,h6,h7,h8⟩:=F.at_;exact⟨l,i,g,c,ns,h1,h2,h3,h4,h _ _ h5,h6,h _ _ h7,h8⟩
theorem GFeed.upd{p:Addr}{o:HO}(F:GFeed H t N)(h:H p=none):GFeed (L2.upd H p o) t N:=F.same (Yb.upd h)
theorem GFeed.mono{N':Nat}(F:GFeed H t N)(h:N<=N'):GFeed H t N':=by
 obtain⟨l,i,g,c,ns,h1,h2,h3,h4,h5⟩:=F.at_;exact⟨l,i,g,c,ns,h1,h2,h3,by lia,h5⟩
theorem GFeed.lst{H:Hp}{t:Addr}{N:Nat}(F:GFeed H t N):∃zs,H t=some (.lst zs):=by
 obtain⟨l,i,g,c,ns,h1,h2,h3,h4,h5,_⟩:=F.at_;exact⟨_,h5⟩
theorem GFeed.neT{p:Addr}(F:GFeed H t N)(hp:H p=none):p≠t:=fun e=>by
 obtain⟨zs,h⟩:=F.lst;rw[e,h]at hp;cases hp
theorem GFeed.free{H':Hp}{p:Addr}(F:GFeed H' t N)(h:Yj t H H')(hp:H' p=none):H p=none:=by
 cases e:H p with
 | none=>rfl
 | some o =>
  by_cases hpt:p=t
  ·subst hpt;obtain⟨zs,h3⟩:=F.lst;rw[h3]at hp;cases hp
  ·rw[h p o hpt e]at hp;cases hp
noncomputable def Ev:Sp:=fun vs H Q _=>match vs with
 | [.ref t,.int m]=>∃N,GFeed H t N/\N<=1000000000/\okDiv m/\∀d H',0<=d->d < m->GFeed H' t (N+1)->(∀b,b≠t->H' b=H b)->Q (.int d) H'
 | _=>False
theorem U5:AR Ev:=fun vs H Q Q' E h q=>by
 unfold Ev at *;split at q
 ·obtain⟨N,h1,h2,h3,q⟩:=q;exact⟨N,h1,h2,h3,fun d H' a b c e=>h _ _ (q d H' a b c e)⟩
 ·exact q.elim
noncomputable def JH(K:W.Frag):Sp:=fun vs H Q _=>match vs with
 | [.ref a]=>∃ns:List Int,Yw K H a (ns.map V.int)/\∀t H',H t=none->Yb H H'->GFeed H' t 0->Q (.ref t) H'
 | _=>False
theorem HL:∀ns:List Int,Yc K H (ns.map Dv.int) (ns.map V.int)
 | []=>Ad
 | n::ns=>AU IY (HL ns)
theorem Nn:∀ns:List Int,CM (ns.map Dv.int)=0
 | []=>by rw[List.map_nil];unfold CM;rfl
 | n::ns=>by rw[Za];unfold CM;rw[Nn ns];unfold A4;rfl
noncomputable def tyD:Dv->String
 | .non=>"NoneType"
 | .bl _=>"bool"
 | .int _=>"int"
 | .str _=>"str"
 | .tup _=>"tuple"
 | .lst _=>"list"
noncomputable def K7(K:W.Frag):List V->Hp->VK->Prop:=fun xs H Q=>match xs with
 | [x,.ty T]=>T∈kinds/\∃d,Yf K H d x/\Q (.bl (Bm (tyD d) T)) H
 | _=>False
theorem KU{t T:String}(ht:t = "int" \/ t = "bool" \/ t = "tuple" \/ t = "list")(hT:T∈kinds):PySem.W.kitOne K (.type t) (.type T)=some (Bm t T):=by
 unfold kinds at hT;simp only[ZH,Z6,or_false]at hT
 rcases ht with rfl | rfl | rfl | rfl <;> rcases hT with rfl | rfl | rfl | rfl | rfl | rfl <;> rfl
theorem Ew{X:Cx}:CallR X (.builtin "isinstance") (K7 X.K):=by
 intro Ya s Z H xs us Q I r q
 match xs,q with
 | [x,.ty T],q =>
  obtain⟨hT,d,h,q⟩:=q
  have go:∀t,TyS X.K H x t->Q (.bl (Bm t T)) H->wpAny (model X.prog X.w) X.A (call (.builtin "isinstance") us) (EP X Ya Z Q) X.xe s:=fun t ht hq=>by
   obtain⟨u,w',rfl,ru,rw'⟩:=ER r;cases rw';obtain⟨ht,hn,Hh,k,hh⟩:=Lm I ru ht;exact PySem.W.kia_one k I.kIn hh (KU ht hT) hn fun tk=>⟨.bl (Bm t T),H,I.tok _,rfl,hq⟩
  have hT':=hT;unfold kinds at hT';simp only[ZH,Z6,or_false]at hT';cases d with
  | non =>
   unfold Yf at h;subst h;refine Hm Ya s Z H _ us Q I r ⟨hT,_,rfl,?_⟩;have e:(T == "NoneType")=Bm (tyD .non) T:=by rcases hT' with rfl | rfl | rfl | rfl | rfl | rfl <;> rfl
   rw[e];exact q
  | str z =>
   unfold Yf at h;subst h;refine Hm Ya s Z H _ us Q I r ⟨hT,_,rfl,?_⟩;have e:(T == "str")=Bm (tyD (.str z)) T:=by rcases hT' with rfl | rfl | rfl | rfl | rfl | rfl <;> rfl
   rw[e];exact q
  | bl b=>unfold Yf at h;subst h;exact go _ rfl q
  | int i=>unfold Yf at h;subst h;exact go _ rfl q
  | tup ds=>unfold Yf at h;obtain⟨a,xs,rfl,hs,_⟩:=h;exact go _ (.inl ⟨rfl,xs,hs⟩) q
  | lst ds=>unfold Yf at h;obtain⟨a,xs,rfl,hs,_⟩:=h;exact go _ (.inr ⟨rfl,xs,hs⟩) q
theorem Qs{X:Cx}(hK:X.K=K:=by rfl):CallR X (.builtin "isinstance") (K7 K):=hK ▸ Ew
theorem Bx:∀bs:List Bool,Yc K H (bs.map Dv.bl) (bs.map V.bl)
 | []=>Ad
 | b::bs=>AU XO (Bx bs)
theorem Bj{ds:List Dv}{v:V}(h:Yf K H (.tup ds) v):∃a xs,v=.ref a/\Yp K H a xs/\Yc K H ds xs:=by unfold Yf at h;exact h
theorem Ba{p:Addr}{xs:List V}{ds:List Dv}(h:Yp K H p xs)(r:Yc K H ds xs):Yf K H (.tup ds) (.ref p):=by unfold Yf;exact⟨p,xs,rfl,h,r⟩
theorem OF:∀ds es:List Dv,Ah (ds++es)=(Ah ds && Ah es)
 | [],es=>by rw[ZBp];simp[Ah]
 | d::ds,es=>by
  rw[List.cons_append]
  show(BB d && Ah (ds++es))=(BB d && Ah ds && Ah es)
  rw[OF ds es,Bool.and_assoc]
theorem Hq:∀bs:List Bool,Ah (bs.map Dv.bl)=true
 | []=>rfl
 | b::bs=>by
  show(true && Ah (bs.map Dv.bl))=true
  rw[Hq bs];rfl
section
variable {X:Cx}{Ya:List (Addr × Obj)}{Z:St}{H:Hp}{s:Shared}
theorem Yg.hold(I:Yg X Ya Z H s)(h:H d=some (.dK Yd)):∃o,s.heap.get? d=some o/\Yg X Ya Z (upd H d (.frz o (.dK Yd))) s:=by
 obtain⟨hl,hs,vs,r,dd⟩:=(show ObjOk X.prog X.w H s.heap d (.dK Yd) from I.hok d _ h);obtain⟨o,es,ep,ho,rest⟩:=id dd;refine⟨o,ho,?_⟩
 have:=I.write (x:=d) (e:=d) (o:=.frz o (.dK Yd)) (h':=s.heap) (t':=s.toks) (by rw[h];exact True.intro) (.inl rfl) (fun b u _ q=>q) ⟨o,ho⟩ ⟨ho,hl,hs,vs,r,dd⟩
 exact this
theorem Yg.held{o:Obj}(I:Yg X Ya Z H s)(h:H d=some (.frz o (.dK Yd))):s.heap.get? d=some o/\(d == sysModules)=false/\Yd.length<=sizeLine/\∃vs,KV Yd vs/\s.heap.DictOf (BQ X.prog X.w) d vs:=by
 obtain⟨ho,hl,hs,vs,r,dd⟩:=(show ObjOk X.prog X.w H s.heap d (.frz o (.dK Yd)) from I.hok d _ h);exact⟨ho,hs,hl,vs,r,dd⟩
theorem KV.get{vs:List (Key × Value)}(r:KV Yd vs):∀{i:Nat} {q:Key × V},Yd[i]? = some q->∃v,vs[i]? = some (q.1,v)/\Yh q.2 v:=by
 induction r with
 | nil=>intro i q e;simp at e
 | @cons a b l1 l2 h t ih =>
  intro i q e;cases i with
  | zero =>
   simp at e;subst e;obtain⟨b1,b2⟩:=b;obtain⟨h1,h2⟩:=h;exact⟨b2,by simp;exact h1.symm,h2⟩
  | succ i =>
   obtain⟨v,h1,h2⟩:=ih (i:=i) (q:=q) (by simpa using e);exact⟨v,by simpa using h1,h2⟩
theorem KV.len{vs:List (Key × Value)}(r:KV Yd vs):Yd.length=vs.length:=Paired.length r
theorem UQ{k:Key}{u:Value}(h:Dc k u=true):Yh (kV k) u:=by
 rcases keyIs_shape h with ⟨i,t,rfl,rfl⟩ | ⟨x,t,rfl,rfl⟩
 ·exact⟨t,rfl⟩
 ·exact⟨t,rfl⟩
end
noncomputable def Itm(d:Addr)(o:Obj):It :=
 ⟨fun i H=>∃Yd q,H d=some (.frz o (.dK Yd))/\Yd[i]? = some q,
  fun i H v H'=>∃p Yd q,H d=some (.frz o (.dK Yd))/\Yd[i]? = some q/\H p=none/\v=.ref p/\H'=upd H p (.tup [kV q.1,q.2]),
  fun i H=>∃Yd,H d=some (.frz o (.dK Yd))/\Yd.length<=i⟩
theorem IA{P:Program}{w:World}{h:Heap}{o:Obj}{es:Array DictEntry}{ep:Nat}{vs:List (Key × Value)}(ho:h.get? d=some o)(hd:o.data=.dict es ep)(dd:h.DictOf (BQ P w) d vs):h.DictAt (BQ P w) d vs ep/\es.size=vs.length:=by
 obtain⟨o',es',ep',h1,h2,h3,h4,h5,h6⟩:=dd;rw[ho]at h1;cases h1;rw[hd]at h3;cases h3;exact⟨⟨o,es,ho,h2,hd,h4,h5,h6⟩,by rw[<- h5.length];simp⟩
theorem Wv:entryFor table "dict_itemiterator.__iter__" = some Builtin.«dict_keyiterator.__iter__» :=
 entryFor_alias (id':="dict_keyiterator.__iter__") (by kernel_rfl) (by first | rfl | decide +kernel) (by decide +kernel) (by kernel_rfl)
theorem US{prog:Program}{w:World}{A:Around}{E:Value->Shared->Prop}{s:Shared}{it:Addr}{i n ep:Nat}{ok ov:Value}{Q:Value->Shared->Prop}(hz:IsItemIter s.heap it d i n ep ok ov)(h:Q (.ref it) s):wpAny (model prog w) A (pyIter (.ref it)) Q E s:=by
 have hT:s.TypeIs (.ref it) "dict_itemiterator":=⟨_,hz,rfl⟩;refine wpAny_pyIter_slot hT F.slot_dict_itemiterator_iter (Zz F.slot_dict_itemiterator_iter hT Wv ?_ (F.args_dict_itemiterator_iter_1 _));show wpAny _ _ (ret (.ref it)) _ _ s;exact ZC ⟨_,rfl,"dict_itemiterator",_,hT,F.slot_dict_itemiterator_next.lookup,h⟩
theorem RF{P:Program}{w:World}{ts:List Expr}{kt:Nat}{tpos:Pos}{it:Addr}{o:Obj}{es:Array DictEntry}{ep:Nat}(hdat:o.data=.dict es ep) :
 Turn P w K (.Tuple ts kt tpos) (Itm d o) [it] it (fun i h=>∃ok ov,IsItemIter h it d i es.size ep ok ov) where
 mem:=by simp
 obj:=fun i h st b hb=>by
  obtain⟨ok,ov,hz⟩:=st;obtain rfl:b=it:=by simpa using hb
  exact⟨_,hz,fun v q=>nomatch q⟩
 keep:=fun i h h' ⟨ok,ov,hz⟩ k=>⟨ok,ov,k it (by simp) _ hz⟩
 item:=by
  intro X hP hw hK hc i Ya s Z H E I hf st hg;subst hP hw hK;obtain⟨Yd,q,hq1,hx⟩:=hg;obtain⟨ok,ov,hz⟩:=st;obtain⟨ho,hs,hl,vs,rv,dd⟩:=I.held hq1;obtain⟨da,hsz⟩:=IA ho hdat dd;obtain⟨u,hu,ru⟩:=rv.get hx;rw[hsz]at hz;refine wpAny_pyNext_items_item hz da hu fun key h' z0 z1 z2 z3 z4=>?_
  refine⟨_,rfl,?_⟩;have z4':∀b v,b∉[it]->s.heap.get? b=some v->h'.get? b=some v:=fun b v hb q=>z4 b v (by simpa using hb) q
  have I1:Yg X Ya Z (upd H s.heap.objs.size (.tup [kV q.1,q.2])) { s with heap:=h' }:=by
   refine I.turnedNew (ch:=[it]) (fun b hb=>hf b hb) (ZE _) z4' ?_ fun b hb=>?_
   ·exact⟨smq rfl,[key,u],.cons (UQ z0) (.cons ru .nil),⟨_,z2,rfl,⟨_,rfl⟩,rfl⟩⟩
   ·obtain rfl:b=it:=by simpa using hb
    exact⟨_,z1⟩
  refine wpAny_letOwnedTupleGo_items (s:={ s with heap:=h' }) z1 fun h'' z8 z9=>?_
  have hfz:=hf it (by simp)
  have neT:it≠s.heap.objs.size:=fun q=>by
   have:=ZG hz
   rw[q]at this;exact Zd _ this
  have hTH:∀b∈[it],upd H s.heap.objs.size (.tup [kV q.1,q.2]) b=none:=fun b hb=>by
   obtain rfl:b=it:=by simpa using hb
   rw[AJ neT];exact hfz.1
  have I2:Yg X Ya Z (upd H s.heap.objs.size (.tup [kV q.1,q.2])) { s with heap:=h'' } :=
   I1.turned (t':=s.toks) (fun b o hb q=>(z9.2 b hb).trans q) (hTH it (by simp)) hfz.2.1 hfz.2.2.2.1 hfz.2.2.2.2.1 hfz.2.2.2.2.2
  rw[<- hsz]at z8;exact⟨.ref s.heap.objs.size,_,I2,rfl,⟨_,Yd,q,hq1,hx,I.hok.fresh (ZE _),rfl,rfl⟩,⟨_,_,z8⟩,hTH⟩
 done:=by
  intro X hP hw hK hc i Ya s Z H E I hf st hg;subst hP hw hK;obtain⟨Yd,hq1,hl⟩:=hg;obtain⟨ok,ov,hz⟩:=st;obtain⟨ho,hs,hl',vs,rv,dd⟩:=I.held hq1;obtain⟨da,hsz⟩:=IA ho hdat dd;have e1:=rv.len;rw[hsz]at hz;refine wpAny_pyNext_items_end (I.ok.hd hc) hz da (by simp;lia) fun h' z7=>⟨rfl,?_⟩
  obtain⟨f0,f1,f2,f3,f4,f5⟩:=hf it (by simp);exact I.turned (t':=s.toks) (fun b o hb q=>z7 b o hb q) f0 f1 f3 f4 f5
 self:=fun A i s Q E st h=>by
  obtain⟨ok,ov,hz⟩:=st;exact US hz h
noncomputable def Ey(x:V)(H:Hp)(R:Addr->Obj->Hp->Prop):Prop:=match x with
 | .ref d=>(∃Yd,H d=some (.dK Yd)/\∀o,R d o (upd H d (.frz o (.dK Yd))))\/∃Yd o,H d=some (.frz o (.dK Yd))/\R d o H
 | _=>False
theorem Ri{X:Cx}{Ya:List (Addr × Obj)}{Z:St}{s:Shared}{x:V}{v:Value}{R:Addr->Obj->Hp->Prop}(I:Yg X Ya Z H s)(r:Yh x v)(h:Ey x H R) :
 ∃d Yd o H2,v=.ref d/\Yg X Ya Z H2 s/\H2 d=some (.frz o (.dK Yd))/\R d o H2:=by
 cases x with
 | ref d =>
  cases r
  rcases h with ⟨Yd,e,q⟩ | ⟨Yd,o,e,q⟩
  ·obtain⟨o,ho,I2⟩:=I.hold e;exact⟨d,Yd,o,_,rfl,I2,AD,q o⟩
  ·exact⟨d,Yd,o,H,rfl,I,e,q⟩
 | _=>exact False.elim h
noncomputable def NC(to:TE):TI:=fun Z H R=>to Z H fun x H1=>Ey x H1 fun d o H2=>R (Itm d o) H2
section
variable {X:Cx}{K:W.Frag}{tg oe:Expr}{to:TE}{ts:List Expr}{kt:Nat}{tpos apos cpos:Pos}
theorem Ik(ho:PE X oe to)(hbase:attributeBase oe "items" X.env (eval oe X.env)=eval oe X.env:=by rfl)(hline:(apos.endLine == cpos.line)=true:=by rfl) :
 PI X (.Tuple ts kt tpos) (.Call (.Attribute oe "items" apos) [] [] cpos) (NC to):=by
 intro Ya s Z H R I h;refine wpAny_Call_method0_late hbase hline (Yn (ho Ya s Z H _ I h) fun v s1 ⟨x,H1,I1,r1,q1⟩=>?_);obtain⟨d,Yd,o,H2,rfl,I2,hd2,q⟩:=Ri I1 r1 q1;obtain⟨ho',hs,hl,vs,rv,dd⟩:=I2.held hd2;obtain⟨o',es,ep,e1,e2,e3,_⟩:=id dd;rw[ho']at e1;cases e1;refine⟨"dict","dict.items",PySem.F.plainAttrs_dict,PySem.F.slot_dict_items,PySem.F.type_dict_items,dd.typeIs,fun a ea=>?_,Calls.callWith_builtin rfl (PySem.evalArgs_none ?_)⟩
 ·cases ea;exact⟨o,ho',e2.2.1⟩
 refine call_meetsIn PySem.F.slot_dict_items dd.typeIs PySem.F.entry_dict_items (PySem.F.args_dict_items_1 _) (meets_dict_items (BQ X.prog X.w) d hs) ⟨⟨vs,dd⟩,?_⟩;have I3:Yg X Ya Z H2 { s1 with heap:=s1.heap.push { cls:=.type "dict_items",data:=.fields #[.ref d] } }:=I2.kept (t':=s1.toks) fun b u e=>ZI _ e
 have hv:(s1.heap.push { cls:=.type "dict_items",data:=.fields #[.ref d] }).IsItemsView s1.heap.objs.size d:=⟨_,ZS _ rfl,rfl,rfl⟩;obtain⟨ho3,_,_,vs3,rv3,dd3⟩:=I3.held hd2;obtain⟨da,hsz⟩:=IA ho3 e3 dd3;refine wpAny_pyIter_items (s:={ s1 with heap:=s1.heap.push { cls:=.type "dict_items",data:=.fields #[.ref d] } }) hv da ?_;generalize s1.heap.push { cls:=.type "dict_items",data:=.fields #[.ref d] } = h3 at *;refine⟨h3.objs.size,[h3.objs.size],_,_,H2,rfl,I3.kept (t':=s1.toks) fun b o e=>ZI _ e,RF e3,⟨.none,.none,?_⟩,fun b hb=>?_,q⟩
 ·rw[hsz];exact ZS _ rfl
 ·obtain rfl:b=h3.objs.size:=by simpa using hb
  exact I3.fpOk (ZE _) (I3.hok.fresh (ZE _))
end
theorem VX{x:V}{R R':Addr->Obj->Hp->Prop}(k:∀d o H,R d o H->R' d o H)(h:Ey x H R):Ey x H R':=by
 cases x with
 | ref d =>
  rcases h with ⟨Yd,e,q⟩ | ⟨Yd,o,e,q⟩
  ·exact .inl ⟨Yd,e,fun o=>k _ _ _ (q o)⟩
  ·exact .inr ⟨Yd,o,e,k _ _ _ q⟩
 | _=>exact False.elim h
theorem V2{to:TE}(h:Af to):EQ (NC to):=fun Z H Q Q' k q=>h _ _ _ _ (fun _ _ q=>VX (fun _ _ _ q=>k _ _ q) q) q
theorem Wu {o:Obj} {g:TG} {tb:TS} {D:Ends} {Z:St} (Pv:Nat->St->Hp->Prop) (h0:Pv 0 Z H) (hl:∀i Z H,i<=Yd.length->Pv i Z H->H d=some (.frz o (.dK Yd)))
 (hs:∀i q p Z H,Yd[i]? = some q->Pv i Z H->H p=none->g (.ref p) Z (upd H p (.tup [kV q.1,q.2])) fun σ2 H2=>tb { D with nx:=Pv (i+1),ct:=Pv (i+1),bk:=D.nx } σ2 H2) (hd:∀Z H,Pv Yd.length Z H->D.nx Z H) :
 ∃W:Nat->Nat->St->Hp->Prop,(∃m,W 0 m Z H)/\∀i m Z H,W i m Z H ->
  ((Itm d o).stop i H/\D.nx Z H)\/((Itm d o).go i H/\∃N:St->Hp->Prop,(∀σ' H',N σ' H'->∃m',m' < m/\W (i+1) m' σ' H')/\∀x H',(Itm d o).yld i H x H'->g x Z H' fun σ2 H2=>tb { D with nx:=N,ct:=N,bk:=D.nx } σ2 H2):=by
 refine⟨fun i m Z H=>m=Yd.length - i/\i<=Yd.length/\Pv i Z H,⟨Yd.length,by simp,ZV _,h0⟩,?_⟩;rintro i m Z H ⟨rfl,hi,p⟩;have q:=hl i Z H hi p
 by_cases Yr:i < Yd.length
 ·refine .inr ⟨⟨Yd,Yd[i],q,by simp[Yr]⟩,Pv (i+1),fun σ' H' p'=>⟨Yd.length - (i+1),by lia,rfl,Yr,p'⟩,fun x H' y=>?_⟩;obtain⟨pp,kvs',r,e1,e2,e3,rfl,rfl⟩:=y;rw[q]at e1;cases e1;exact hs i r pp Z H e2 p e3
 ·have e:i=Yd.length:=by lia
  subst e;exact .inl ⟨⟨Yd,q,ZE _⟩,hd Z H p⟩
end L2
namespace L2
open PySem PySem.Spec PyProof.Rows PySem.W
open Att (Gn N9 VY)
variable {H H':Hp}{Pt:Addr}{K:W.Frag}{ps:Array Value}
noncomputable def CdO(a:Addr)(q:Str):HO:=.ext fun h=>h.CodeRec (.ref a) q
theorem TU{P:Program}{w:World}{h:Heap}{a:Addr}{q:Str}(r:h.CodeRec (.ref a) q):ObjOk P w H h a (CdO a q):=by
 refine⟨r,?_,fun h1 h2 p k=>?_⟩
 ·obtain⟨c,o,vs,t,e,g,_⟩:=r;cases e;exact⟨o,g⟩
 ·obtain⟨c,o,vs,t,e,g,z⟩:=p;cases e;exact⟨_,o,vs,t,rfl,k o g,z⟩
noncomputable def Yx(Pt:Addr)(pos:Pos)(q:Str)(H:Hp):Prop :=
 ∃ps:Array Value,H Pt=some (.tbl ps)/\TriplesOk ps.toList/\(codeAmong pos ps.toList=none\/∃c',codeAmong pos ps.toList=some (.ref c')/\H c'=some (CdO c' q))
noncomputable def Yu(Pt:Addr)(H H':Hp):Prop:=∀b o,b≠Pt->H b=some o->H' b=some o
theorem Yu.refl(Pt:Addr)(H:Hp):Yu Pt H H:=fun _ _ _ e=>e
theorem Yu.trans{H1 H2:Hp}(a:Yu Pt H H1)(b:Yu Pt H1 H2):Yu Pt H H2:=fun c o n e=>b c o n (a c o n e)
theorem Yu.same(h:Yb H H'):Yu Pt H H':=fun b o _ e=>h b o e
theorem Yx.same{pos:Pos}{q:Str}(l:Yx Pt pos q H)(h:Yb H H'):Yx Pt pos q H':=by
 obtain⟨ps,a,b,c⟩:=l;refine⟨ps,h _ _ a,b,?_⟩
 rcases c with c | ⟨c',c,d⟩
 ·exact .inl c
 ·exact .inr ⟨c',c,h _ _ d⟩
theorem Nh{a:Addr}{xs:List V}(s:Yu Pt H H')(hz:H Pt=some (.tbl ps))(h1:Yp K H a xs):Yp K H' a xs:=by
 rcases h1 with (h1 | ⟨o,h1⟩) | h1
 ·exact .inl (.inl (s a _ (fun q=>by rw[q,hz]at h1;cases h1) h1))
 ·exact .inl (.inr ⟨o,s a _ (fun q=>by rw[q,hz]at h1;cases h1) h1⟩)
 ·exact .inr h1
theorem SJ{a:Addr}{xs:List V}(s:Yu Pt H H')(hz:H Pt=some (.tbl ps))(h1:Yw K H a xs):Yw K H' a xs:=by
 rcases h1 with (h1 | ⟨o,h1⟩) | h1
 ·exact .inl (.inl (s a _ (fun q=>by rw[q,hz]at h1;cases h1) h1))
 ·exact .inl (.inr ⟨o,s a _ (fun q=>by rw[q,hz]at h1;cases h1) h1⟩)
 ·exact .inr h1
mutual
theorem Yf.tab(s:Yu Pt H H')(hz:H Pt=some (.tbl ps)):∀(d:Dv) (v:V),Yf K H d v->Yf K H' d v
 | .non,v,h=>by unfold Yf at *;exact h
 | .bl b,v,h=>by unfold Yf at *;exact h
 | .int i,v,h=>by unfold Yf at *;exact h
 | .str x,v,h=>by unfold Yf at *;exact h
 | .tup ds,v,h=>by
  unfold Yf at *;obtain⟨a,xs,e,h1,h2⟩:=h;exact⟨a,xs,e,Nh s hz h1,Yc.tab s hz ds xs h2⟩
 | .lst ds,v,h=>by
  unfold Yf at *;obtain⟨a,xs,e,h1,h2⟩:=h;exact⟨a,xs,e,SJ s hz h1,Yc.tab s hz ds xs h2⟩
theorem Yc.tab(s:Yu Pt H H')(hz:H Pt=some (.tbl ps)):∀(ds:List Dv) (xs:List V),Yc K H ds xs->Yc K H' ds xs
 | [],xs,h=>by unfold Yc at *;exact h
 | d::ds,xs,h=>by
  unfold Yc at *;obtain⟨x,r,e,h1,h2⟩:=h;exact⟨x,r,e,Yf.tab s hz d x h1,Yc.tab s hz ds r h2⟩
end
noncomputable def BMn(mg:Str->Option Value)(h:Heap):Prop:=∃bm ob,mg "__builtins__" = some (.ref bm)/\bm≠builtinsNs/\h.get? bm=some ob/\ob.cls=.type "module" /\ ob.dict=some builtinsNs/\ob.data=.plain
section
variable {X:Cx}{Ya:List (Addr × Obj)}{Z:List (Option V)}{H:Hp}{s:Shared}{h':Heap}
theorem Yg.grow {c':Addr} {more:Array Value} {t':Nat} {q:Str} (I:Yg X Ya Z H s) (hP:H Pt=some (.tbl ps)) (hx:Heap.ExtBut Pt s.heap h') (hP':h'.get? Pt=some (tabObj (ps++more)))
 (hc:s.heap.objs.size<=c') (hr:h'.CodeRec (.ref c') q):Yg X Ya Z (upd (upd H Pt (.tbl (ps++more))) c' (CdO c' q)) { s with heap:=h',toks:=t' }:=by
 have hcn:H c'=none:=I.hok.fresh hc;have hcP:c'≠Pt:=fun z=>by rw[z,hP]at hcn;cases hcn
 have hn:∀b,H b=none->b≠Pt:=fun b e z=>by rw[z,hP]at e;cases e
 have hs:∀b u,H b=some u->b≠c':=fun b u e z=>by rw[z,hcn]at e;cases e
 have up:∀b,b≠c'->b≠Pt->upd (upd H Pt (.tbl (ps++more))) c' (CdO c' q) b=H b:=fun b n1 n2=>by rw[AJ n1,AJ n2]
 refine I.un ⟨fun b o e n _ _=>hx b o (hn b n) e,fun b o e n _ _=>⟨o.slots,hx b o (hn b n) e⟩,fun b o e n _=>?_,fun b o e _=>?_,fun b xs e=>?_,fun b o u e=>?_,fun b qs e=>?_⟩ fun b u e=>?_
 ·rw[up b (ZT (ZX (ZG e) hc)) (hn b n)];exact n
 ·by_cases z:b=Pt
  ·subst z;exact⟨_,hP'⟩
  ·exact⟨o,hx b o z e⟩
 ·have z:b≠Pt:=fun z=>by rw[z,hP]at e;cases e
  rw[up b (hs b _ e) z];exact e
 ·have z:b≠Pt:=fun z=>by rw[z,hP]at e;cases e
  rw[up b (hs b _ e) z];exact e
 ·by_cases z:b=Pt
  ·subst z;rw[hP]at e;cases e;exact⟨more,by rw[AJ (Ne.symm hcP),AD]⟩
  ·exact⟨#[],by rw[up b (hs b _ e) z,e];simp⟩
 ·by_cases z:b=c'
  ·subst z;rw[AD]at e;cases e;exact TU hr
  ·rw[AJ z]at e
   by_cases y:b=Pt
   ·subst y;rw[AD]at e;cases e;exact hP'
   ·rw[AJ y]at e;refine(I.hok b u e).stay (fun c v hc' r=>hx c v ?_ r) (fun c r=>?_) fun c xs r=>?_
    ·rcases hc' with k | k
     ·rw[k];exact y
     ·rintro rfl;rw[hP]at k;cases k
    ·rw[up c (hs c _ r) (fun k=>by rw[k,hP]at r;cases r)];exact r
    ·rw[up c (hs c _ r) (fun k=>by rw[k,hP]at r;cases r)];exact r
end
theorem PJ {P:Program} {w:World} {mg mb:Str->Option Value} {CX:CXT} {k:Nat} {fa a:Addr} {fd:FuncData} {x:Str} {sp:Sp} {s₁:Shared} {vs:List Value} {ns:List Int} {ts:List (Addr × Addr)}
 (KX:K.In s₁.heap) (hns:s₁.heap.Ns mainGlobals mg) (hb:s₁.heap.Ns builtinsNs mb) (hbb:∀x:Str,x ≠ "__name__" -> mb x=bootBuiltins x) (hlim:s₁.heap.NoLimit) (hg:s₁.gens = #[])
 (ha:s₁.heap.get? a=some { cls:=.type "list",data:=.seq vs.toArray }) (hi:IntsAre vs ns) (hl:ns.length<=sizeLine) (hr:Room k callerA) (hbm:BMn mg s₁.heap) (hT:TabsAt ts s₁.heap) (hnt:noTabs K=true)
 (F:∀base:Heap,K.In base->base.Ns mainGlobals mg->BMn mg base->FnOk P w K mg base CX k fa fd [x] sp) (hbind:∀(s:Shared) (u:Value),BindsTo s fd ⟨[u],[]⟩ [(x,u)])
 (hsp:∀H:Hp,(∀q∈ts,H q.2=some (.tbl #[]))->Yw K H a (ns.map V.int)->sp [.ref a] H (fun v _=>v=.bl true) fun _ _ _=>False)
 (hCX:∀H e s',CX [] H s₁ (fun _ _ _=>False) e s'->False) :
 codeAny (model P w) callerA (.call (.ref fa) ⟨[.ref a],[]⟩) (fun r s'=>r=.ok (.ret (.bool true))/\OldK s₁.heap s'.heap/\s'.os=s₁.os/\AllBare s'.gens) s₁:=by
 have rv:=LJ hi;have lenV:=hi.length
 have tabK:∀b,b∈ts.map (·.2)->K.lookup b=none:=fun b hb'=>by
  obtain⟨q,hq,rfl⟩:=ZJ.mp hb';cases e:K.lookup q.2 with
  | none=>rfl
  | some o =>
   have e1:=KX _ _ e;rw[(hT q hq).2]at e1;cases e1;have h2:=Z3.mp hnt (q.2,tabObj #[]) (mem_of_lookupK e);exact absurd (show false=true from h2) Zh
 have tabO:∀b,b∈ts.map (·.2)->s₁.heap.get? b=some (tabObj #[]):=fun b hb'=>by
  obtain⟨q,hq,rfl⟩:=ZJ.mp hb';exact(hT q hq).2
 have core:∀H:Hp,(∀b,H b=none\/(∃o xs,H b=some (.frz o (.lst xs)))\/(b∈ts.map (·.2)/\H b=some (.tbl #[])))->(∀q∈ts,H q.2=some (.tbl #[]))->Yw K H a (ns.map V.int)->HOk P w H s₁.heap->(∀b,H b≠none->b=a\/b∈ts.map (·.2))->(H a≠none->K.lookup a=none) ->
  codeAny (model P w) callerA (.call (.ref fa) ⟨[.ref a],[]⟩) (fun r s'=>r=.ok (.ret (.bool true))/\OldK s₁.heap s'.heap/\s'.os=s₁.os/\AllBare s'.gens) s₁:=by
  intro H hO hTs hS hok hA hK;have base_of:∀{b:Addr} {o:Obj},s₁.heap.get? b=some o->H b=none->(Cf s₁.heap H).get? b=some o:=fun e n=>K2 e n
  have noA:∀{b:Addr} {o:Obj},s₁.heap.get? b=some o->(∀as n,o.data≠.seq as n)->(∀as,o.data≠.fields as)->H b=none:=fun {b o} e d d2=>by
   cases q:H b with
   | none=>rfl
   | some u =>
    rcases hA b (by rw[q];simp) with e' | e'
    ·subst e';rw[ha]at e;cases e;exact absurd rfl (d _ _)
    ·rw[tabO b e']at e;cases e;exact absurd rfl (d2 _)
  have nsK:∀{b:Addr} {m:Str->Option Value},s₁.heap.Ns b m->(Cf s₁.heap H).Ns b m:=fun {b m} ⟨o,es,ep,e,d,r⟩=>⟨o,es,ep,base_of e (noA e (fun _ _=>by rw[d];simp) (fun _=>by rw[d];simp)),d,r⟩
  have hKb:K.In (Cf s₁.heap H):=fun b o e=>base_of (KX b o e) (by
   cases q:H b with
   | none=>rfl
   | some u =>
    rcases hA b (by rw[q];simp) with e' | e'
    ·subst e';rw[hK (by rw[q];simp)]at e;cases e
    ·rw[tabK b e']at e;cases e)
  have hM:Mod K mg (Cf s₁.heap H):=⟨hKb,nsK hns,⟨mb,nsK hb,hbb⟩,let ⟨mc,h1,h2⟩:=hlim;⟨mc,nsK h1,h2⟩⟩
  have hBb:BMn mg (Cf s₁.heap H):=by
   obtain⟨bm,ob,b1,b2,b3,b4,b5,b6⟩:=hbm;exact⟨bm,ob,b1,b2,base_of b3 (noA b3 (fun _ _=>by rw[b6];simp) (fun _=>by rw[b6];simp)),b4,b5,b6⟩
  have e0:Env0 P w K mg (Cf s₁.heap H) callerA [] s₁ H:=⟨rfl,hM,fun b o e=>LX e,ZBa (Lk _ _),trivial,fun b hb=>absurd (show b∈([]:List Addr) from hb) (by simp),hok,.of_eq hg⟩;refine ZBK ((F _ hKb (nsK hns) hBb).run callerA [] s₁ H ⟨[.ref a],[]⟩ [.ref a] [.ref a] _ _ hr e0 (hbind s₁ (.ref a)) (.cons rfl .nil) (hsp H hTs hS)) fun r s' h=>?_
  cases r with
  | error e=>exact(hCX H e s' h).elim
  | ok fl =>
   cases fl with
   | next=>exact False.elim h
   | brk=>exact False.elim h
   | cont=>exact False.elim h
   | ret u =>
    obtain⟨v,H',os,bare,un,hok',r',q⟩:=h;have q':v=.bl true:=q;subst q';obtain rfl:u=Value.bool true:=r'
    have kk:∀b o,s₁.heap.get? b=some o->b∉ts.map (·.2)->s'.heap.get? b=some o:=fun b o e nb=>by
     cases q:H b with
     | none=>exact un.keep b o e q (by intro z;exact absurd (show b∈([]:List Addr) from z) (by simp)) (by simp)
     | some u =>
      rcases hO b with z | ⟨ob,xs,z⟩ | ⟨z,_⟩
      ·rw[q]at z;cases z
      ·have z2:=un.frzs b ob _ z;obtain⟨e1,_⟩:=hok b _ z;obtain⟨e2,_⟩:=hok' b _ z2;rw[e]at e1;cases e1;exact e2
      ·exact absurd z nb
    have tt:∀b,b∈ts.map (·.2)->∃more,s'.heap.get? b=some (tabObj more):=fun b hb'=>by
     obtain⟨q,hq,rfl⟩:=ZJ.mp hb';obtain⟨more,e⟩:=un.tbls _ _ (hTs q hq);exact⟨_,hok' _ _ e⟩
    refine⟨rfl,⟨fun b o e=>?_,fun b o e=>?_⟩,os,bare⟩
    ·by_cases z:b∈ts.map (·.2)
     ·obtain⟨more,e2⟩:=tt b z;have e3:=tabO b z;rw[e]at e3;cases e3;obtain⟨q,hq,rfl⟩:=ZJ.mp z;refine .inr (.inl ⟨((hT q hq).1.tab (hT q hq).2).isCodeTable,rfl,#[],more,rfl,by rw[e2];simp⟩)
     ·exact .inl (kk b o e z)
    ·by_cases z:b∈ts.map (·.2)
     ·obtain⟨more,e2⟩:=tt b z;exact⟨_,e2⟩
     ·exact⟨o,kk b o e z⟩
 have aT:a∉ts.map (·.2):=fun z=>by
  have e:=tabO a z;rw[ha]at e;cases e
 have tm:∀q∈ts,q.2∈ts.map (·.2):=fun q hq=>List.mem_map_of_mem hq
 cases hk:K.lookup a with
 | some o =>
  have e:=KX a o hk;rw[ha]at e;cases e;refine core (fun b=>if b∈ts.map (·.2) then some (.tbl #[]) else none) (fun b=>?_) (fun q hq=>if_pos (tm q hq)) (.inr ⟨_,vs.toArray,_,hk,rfl,rfl,rfl,by rw[ZK,lenV];exact hl,by simpa using rv⟩) (fun b u z=>?_) (fun b z=>?_) fun z=>absurd (if_neg aT) z
  ·by_cases z:b∈ts.map (·.2)
   ·exact .inr (.inr ⟨z,if_pos z⟩)
   ·exact .inl (if_neg z)
  ·by_cases y:b∈ts.map (·.2)
   ·have z':=(if_pos y).symm.trans z;cases z';exact tabO b y
   ·have z':=(if_neg y).symm.trans z;cases z'
  ·by_cases y:b∈ts.map (·.2)
   ·exact .inr y
   ·exact absurd (if_neg y) z
 | none =>
  refine core (fun b=>if b=a then some (.frz { cls:=.type "list",data:=.seq vs.toArray } (.lst (ns.map V.int))) else if b∈ts.map (·.2) then some (.tbl #[]) else none) (fun b=>?_) (fun q hq=>?_) (.inl (.inr ⟨{ cls:=.type "list",data:=.seq vs.toArray },if_pos rfl⟩)) (fun b u z=>?_) (fun b z=>?_) fun _=>hk
  ·by_cases hb:b=a
   ·exact .inr (.inl ⟨_,_,if_pos hb⟩)
   ·by_cases y:b∈ts.map (·.2)
    ·exact .inr (.inr ⟨y,(if_neg hb).trans (if_pos y)⟩)
    ·exact .inl ((if_neg hb).trans (if_neg y))
  ·have hb:q.2≠a:=fun z=>aT (z ▸ tm q hq)
   exact(if_neg hb).trans (if_pos (tm q hq))
  ·by_cases hb:b=a
   ·have z':=(if_pos hb).symm.trans z;cases z';subst hb;exact⟨ha,by rw[ZB];exact hl,vs,_,rv,ha⟩
   ·by_cases y:b∈ts.map (·.2)
    ·have z':=((if_neg hb).trans (if_pos y)).symm.trans z;cases z';exact tabO b y
    ·have z':=((if_neg hb).trans (if_neg y)).symm.trans z;cases z'
  ·by_cases hb:b=a
   ·exact .inl hb
   ·by_cases y:b∈ts.map (·.2)
    ·exact .inr y
    ·exact absurd ((if_neg hb).trans (if_neg y)) z
theorem walk_ofT {l:PySem.W.OpenLaw} {n k:Nat} {q:Program} {loose:List Str} {XP:(Str->Option Value)->Heap->Prop} {YP:World->Heap->Prop} {d:DefRec} {K:Params->W.Frag} {sp:World->List Addr->Sp} {x:Str}
 (hn:l.most=some n) (hn2:n<=sizeLine) (hdf:d.params.defaults=[]) (hr:Room k callerA)
 (hY:∀(w:World) (h:Heap),YP w h->(K w.params).In h)
 (F:∀(w:World) (mg:Str->Option Value) (fa:Addr) (h:Heap),YP w h->(K w.params).In h->h.Ns mainGlobals mg->mg d.name=some (.ref fa) ->
   ∃(fd:FuncData) (ts:List (Addr × Addr)),TabsAt ts h/\noTabs (K w.params)=true/\(∀(s:Shared) (u:Value),BindsTo s fd ⟨[u],[]⟩ [(x,u)]) /\
    ∀base:Heap,(K w.params).In base->base.Ns mainGlobals mg->BMn mg base->FnOk l.prog w (K w.params) mg base CX0 k fa fd [x] (sp w (ts.map (·.2))))
 (hsp:∀(w:World) (H:Hp) (a:Addr) (ns:List Int) (ts:List Addr),ns.length<=n->(∀Pt∈ts,H Pt=some (.tbl #[]))->Yw (K w.params) H a (ns.map V.int)->sp w ts [.ref a] H (fun v _=>v=.bl true) fun _ _ _=>False) :
 PySem.W.WalkO q loose XP YP l.row.toRowW d [] (fun f vs=>PySem.call f vs):=by
 refine Att.attach_call hn hdf fun w s₀ s₁ mg mb fa o pm cd doc a vs ns G Y ho hd hcd hmg hobj hints Yk hg=>?_
 have KX:=hY w _ Y;obtain⟨fd,ts,hT,hnt,hb,hF⟩:=F w mg fa _ Y KX G.T.g hmg
 exact PJ KX G.T.g G.T.b G.T.builtins G.T.nolimit hg hobj hints (Zn Yk hn2) hr G.T.bmain hT hnt hF hb (fun H hO hS=>hsp w H a ns _ Yk (fun Pt hP=>by
  obtain⟨q,hq,rfl⟩:=ZJ.mp hP;exact hO q hq) hS) fun H e s' z=>z
theorem Fun.okC {P:Program} {w:World} {mg:Str->Option Value} {base:Heap} {x qual:Str} {st:Stmt} {f c:Addr} {fd:FuncData} {N ps:List Str} {k:Nat} {sp:Sp} (F:Fun K x qual st f fd) (hc:fd.code=.ref c) (S:FnScope N ps (AK st)) (len:∀vs H Q E,sp vs H Q E->vs.length=ps.length)
 (hbody:∀(A:Around) (outer:List Env) (s:Shared) (H:Hp) (vs:List V) (Q:VK) (E:XK),Room k (A.deeper (envOfC qual (AK st) s.heap.objs.size f (.ref c)))->sp vs H Q E ->
   ∃t,PSs (Dm CX0 P w K mg base N qual (AK st) f (.ref c) A outer s H E).nox (BY st) t/\t { nx:=fun _ H'=>Q .non H',rt:=Q } (C1 N vs) H):FnOk P w K mg base CX0 (k+1) f fd ps sp:=by
 obtain⟨oc,od,kV,doc,pm,an,Yy,ct,osl,rfl,lk,hcd⟩:=F.ex;cases hc;refine MV lk hcd S len fun A outer s H vs Q E hr hsp=>?_
 obtain⟨t,h,q⟩:=hbody A outer s H vs Q E hr hsp;exact⟨t,h.nox,q⟩
end L2
namespace L2
open PySem
noncomputable def Gc(K:W.Frag)(ts:List Addr):Sp:=fun vs H Q _=>∃(a:Addr) (ns:List Int),vs=[.ref a]/\Yw K H a (ns.map V.int)/\ns.length<=63/\(∀Pt∈ts,H Pt=some (.tbl #[]))/\∀H',Q (.bl true) H'
theorem NT{Pt:Addr}{pos:Pos}{q:Str}{H:Hp}(h:H Pt=some (.tbl #[])):Yx Pt pos q H:=⟨#[],h,trivial,.inl rfl⟩
end L2
namespace L2
open PySem PySem.Spec PyProof.Rows
section
variable {X:Cx}{K:W.Frag}
noncomputable def MM(K:W.Frag):List V->Hp->VK->Prop:=fun xs H Q=>match xs with
 | [.ref l]=>∃bs:List Bool,Yw K H l (bs.map V.bl)/\Q (.bl (bs.any id)) H
 | _=>False
theorem Tq(hc:X.calm=true):CallR X (.builtin "any") (MM X.K):=by
 intro Ya s Z H xs us Q I r q
 match xs,q with
 | [.ref l],q =>
 obtain⟨bs,hl,q⟩:=q;obtain⟨u,rfl,ru⟩:=BS r;cases ru;obtain⟨Ye,rv,pl,hz⟩:=I.list hl;have Yk:=rv.length;rw[ZB]at Yk;obtain⟨o1,n1,g1,_⟩:=id pl;have Yr:=ZG g1;refine call_any_walk (wpAny_pyIter_list pl.isList ?_);have Yv:l≠s.heap.objs.size:=ZT Yr;refine⟨_,_,_,_,_,_,fun i=>bs.getD i false,rfl,Walks.list (A:=X.A.in1) (I.ok.hd hc) s.heap.objs.size l Yv Ye.toArray,?_,?_,fun h' tk hk=>?_⟩
 ·exact⟨⟨_,ZS _ rfl,rfl,rfl⟩,(show s.heap.IsList l Ye.toArray from pl.isList).at fun o e=>ZI _ e⟩
 ·intro i v s' Q' E' hv hq;have hv:Ye.toArray[i]? = some v:=hv
  have hi:i < Ye.length:=by
   have:=(Array.getElem?_eq_some_iff.mp hv).1
   simpa using this
  have hb:(bs.map V.bl)[i]? = some (.bl bs[i]):=by rw[ZP,ZD (by lia)];rfl
  obtain⟨w',q1,q2⟩:=rv.get hb;have e:v=w':=by simp at hv;rw[q1]at hv;exact(ZU hv).symm
  subst e;cases q2;refine Z9 ?_;have e2:bs.getD i false=bs[i]:=by rw[ZN,ZD (by lia)];rfl
  have hq:Q' (bs.getD i false) s':=hq;rw[e2]at hq;exact hq
 ·refine⟨.bl _,H,I.kept (fun b o e=>hk b o ?_ (ZI _ e)),rfl,?_⟩
  ·simp only[ZO];exact ZT (ZG e)
  ·have e:(List.range Ye.toArray.size).any (fun i=>bs.getD i false)=bs.any id:=by
    rw[ZK,<- Yk];rw[ZBG,ZBO,ZBO];constructor
    ·rintro⟨i,hi,e⟩;have hi':=Zr.mp hi;rw[ZN,ZD hi']at e;exact⟨_,Zc hi',e⟩
    ·rintro⟨b,hb,e⟩;obtain⟨i,hi,rfl⟩:=List.mem_iff_getElem.mp hb;refine⟨i,Zr.mpr hi,?_⟩;rw[ZN,ZD hi];exact e
   rw[e];exact q
theorem Wa(hc:X.calm=true)(hK:X.K=K:=by rfl):CallR X (.builtin "any") (MM K):=hK ▸ Tq hc
end
end L2
namespace L2
theorem on1{α:Type}{P:List α->Prop}(h:∀a,P [a]):∀us:List α,us.length=1->P us
 | [a],_=>h a
theorem on2{α:Type}{P:List α->Prop}(h:∀a b,P [a,b]):∀us:List α,us.length=2->P us
 | [a,b],_=>h a b
theorem on3{α:Type}{P:List α->Prop}(h:∀a b c,P [a,b,c]):∀us:List α,us.length=3->P us
 | [a,b,c],_=>h a b c
theorem on4{α:Type}{P:List α->Prop}(h:∀a b c d,P [a,b,c,d]):∀us:List α,us.length=4->P us
 | [a,b,c,d],_=>h a b c d
open PySem in
theorem star_lst{xs es:List PySem.Expr}{p:Pos}{env:Env}:starEach (.List xs p::es) env=(false,eval (.List xs p) env)::starEach es env:=by rfl
end L2
namespace L2
open PySem
noncomputable def K3:Expr->Bool
 | .ListComp ..=>true
 | .SetComp ..=>true
 | .DictComp ..=>true
 | _=>false
theorem Wg{e:Expr}{t:Option Expr}{l:Nat}{env:Env}(h:K3 e=false):swapsWith e t l env=pure false:=by
 cases e <;> first | rfl | cases h
theorem WJ{X:Cx}{pos:Pos}{i:Nat}{x:Str}{e:Expr}{te:TE}{pos':Pos}(hN:X.N.Nodup)(hi:X.N[i]? = some x)(hx:Loc X.env.scope x)(he:PE X e te)(hs:K3 e=false)(hf:X.fn x=true\/X.env.scope.names.lookup x=some .local) :
 PS X (.Assign [.Name x pos'] e pos) (EC te (AT i)):=AN hN hi hx he (Wg hs) hf
end L2
namespace L2
open PySem PyProof.Rows
theorem HQ:fillsNumberSlot (.type "tuple") "mul" = pure false :=
 PySem.fillsNumberSlot_seq (id:="tuple.__mul__") (r:=some (.builtin "tuple.__rmul__")) F.slot_tuple_mul.lookup (by decide +kernel) F.slot_tuple_rmul.lookup (by decide +kernel)
theorem Hz:seqRepeat? (.type "tuple")=pure (some (.builtin "tuple.__mul__")):=by
 unfold seqRepeat?;rw[PySem.seqSlot_of (T:="tuple") (name:="__mul__") (id:="tuple.__mul__") F.slot_tuple_mul.lookup (by decide +kernel),PySem.seqSlot_of (T:="tuple") (name:="__rmul__") (id:="tuple.__rmul__") F.slot_tuple_rmul.lookup (by decide +kernel)];rfl
theorem HE(a:Int)(t:Tok)(l:Addr)(items:Array Value)(n:Nat)(sl:Array (Option Value)) :
 Meets (Builtin.«int.__rmul__» ⟨[.int a t,.ref l],[]⟩) (fun _ R s=>s.heap.get? l=some { cls:=.type "tuple",dict:=none,data:=.seq items n,slots:=sl } /\ R (.ok (.ret Value.notImplemented)) s) :=
 .of_wp fun prog w A R s h=>by obtain⟨hp,g,d,tk,os⟩:=s;obtain⟨hl,h⟩:=h;wp_walk;exact⟨_,rfl,h⟩
theorem Sa(l:Addr)(items:Array Value)(n:Nat)(sl:Array (Option Value))(x:Int)(u:Tok)(h0:items.isEmpty=false)(h1:2<=x)(h2:x < 2 ^ 63)(h3:items.size * x.toNat<=sizeLine) :
 Meets (Builtin.«tuple.__mul__» ⟨[.ref l,.int x u],[]⟩) (fun _ R s=>s.heap.get? l=some { cls:=.type "tuple",dict:=none,data:=.seq items n,slots:=sl } /\ R (.ok (.ret (Value.ref s.heap.objs.size))) { s with heap:=s.heap.push { cls:=Value.type "tuple",data:=Data.seq (List.foldl (fun x1 x2=>x1++x2) #[] (List.replicate x.toNat items)) },toks:=s.toks }) :=
 .of_wp fun prog w A R s h=>by
  obtain⟨hp,g,d,tk,os⟩:=s;obtain⟨hl,h⟩:=h;have hx:((x.toNat:Nat):Int)=x:=ZBs (by lia);have hm:(items.size:Int) * x=((items.size * x.toNat:Nat):Int):=by rw[Int.natCast_mul,hx]
  have hs:(items.size:Int) * x<=(sizeLine:Int):=by rw[hm];exact Int.ofNat_le.mpr h3
  have hl8:(sizeLine:Int)<=(2 ^ 63 - 1) / 8:=by decide
  have hsz:(List.foldl (fun x1 x2=>x1++x2) #[] (List.replicate x.toNat items)).size<=sizeLine:=by
   rw[AutoListH.size_joined];simp only[Array.size_empty];rw[Nat.mul_comm]at h3;lia
  have c1:(decide (x < -(2 ^ 63)) || decide (x ≥ 2 ^ 63))=false:=by simp;lia
  have c2:(items.isEmpty || x == 1)=false:=by rw[h0];simp;lia
  have c3:(decide (x<=0) || items.isEmpty)=false:=by rw[h0];simp;lia
  have c4:¬((items.size:Int) * x > (2 ^ 63 - 1) / 8):=by lia
  have c5:Builtin.Tuple.tupleTooMany ((items.size:Int) * x)=false:=by unfold Builtin.Tuple.tupleTooMany;simp;exact hs
  wp_walk
  refine wpAny_ite_false (Zg (by rw[c1];exact Zh)) ?_
  wp_walk
  refine wpAny_ite_false (Zg (by rw[c2];exact Zh)) ?_
  wp_walk
  refine wpAny_ite_false (Zg (by rw[c3];exact Zh)) ?_;refine wpAny_ite_false (Zg c4) ?_;refine wpAny_ite_false (Zg (by rw[c5];exact Zh)) ?_;clear c1 c2 c3 c4 c5 hs hm hx hl8
  wp_walk
  exact⟨_,rfl,h⟩
theorem To(Ye:List Value)(k:Nat):List.foldl (fun x1 x2=>x1++x2) #[] (List.replicate k Ye.toArray)=(List.replicate k Ye).flatten.toArray:=by
 have:=Jh Ye k []
 rw[ZBp]at this;exact this
section
variable {X:Cx}
noncomputable def Vp(K:W.Frag):R2:=fun x y H Q=>∃a k xs,x=.ref a/\y=.int k/\Yp K H a xs/\xs≠[]/\2<=k/\k < 2 ^ 63/\xs.length * k.toNat<=sizeLine /\
 ∀p,H p=none->Q (.ref p) (upd H p (.tup (List.replicate k.toNat xs).flatten))
theorem Tf:Yt X (binaryOp .Mult) (Vp X.K):=by
 intro Ya s Z H x y v u Q I rx ry h;obtain⟨l,k,xs,rfl,rfl,hH,hx,h1,h2,hz,q⟩:=h;cases rx;obtain⟨t,rfl⟩:=ry;obtain⟨Ye,r,⟨o,e,hc,⟨n,hd⟩,hn⟩,_⟩:=I.tupleN hH;obtain⟨c,dd,da,sl⟩:=o;cases hc;cases hd;cases hn
 have h0:Ye.toArray.isEmpty=false:=by
  cases Ye with
  | nil=>exact absurd (r.nil_iff.mp rfl) hx
  | cons _ _=>rfl
 have Yk:Ye.toArray.size * k.toNat<=sizeLine:=by rw[ZK,<- r.length];exact hz
 refine wpAny_binaryOp_repeat_ref (T:="tuple") (U:="int") (by decide) ⟨_,e,rfl⟩ (fun s'=>typeIs_int s' k t) HQ F.fills_int_mul F.slot_int_rmul Hz F.slot_int_index.lookup
  (call_meets F.slot_int_rmul (typeIs_int s k t) F.entry_int_rmul (F.args_int_rmul_2 _ _) (HE k t l Ye.toArray n sl)
    ⟨e,rfl,⟨_,e,rfl⟩,call_meets F.slot_tuple_mul ⟨_,e,rfl⟩ F.entry_tuple_mul (F.args_tuple_mul_2 _ _) (Sa l Ye.toArray n sl k t h0 h1 h2 Yk) ⟨e,?_⟩⟩)
 rw[To];refine⟨.ref s.heap.objs.size,_,I.laid (t':=s.toks) (o:=.tup (List.replicate k.toNat xs).flatten) (fun b ob q=>ZI _ q) (ZE _) ?_,rfl,q _ (I.hok.fresh (ZE _))⟩;exact⟨by rw[NV,Nat.mul_comm];exact hz,_,r.rep k.toNat,IsTupN.new _ _⟩
end
theorem MA:∀{ns:List Int} {us:List Value},IntsAre us ns->Yi (ns.map V.int) us:=by
 intro ns us h
 induction h with
 | nil=>exact .nil
 | cons _ _ _ ih=>exact .cons ⟨_,rfl⟩ ih
noncomputable def Fj(K:W.Frag):List V->Hp->VK->Prop:=fun xs H Q=>match xs with
 | [.ref l]=>∃ns:List Int,Yw K H l (ns.map V.int)/\ns.length < 64/\∀(ms:List Int) p,ms.Perm ns->ms.Pairwise (· <= ·)->H p=none->Q (.ref p) (upd H p (.lst (ms.map V.int)))
 | _=>False
section
variable {X:Cx}{K:W.Frag}
theorem SG:CallR X (.builtin "sorted") (Fj X.K):=by
 intro Ya s Z H xs us Q I r q
 match xs,q with
 | [.ref l],q =>
 obtain⟨ns,hl,h64,q⟩:=q;obtain⟨u,rfl,ru⟩:=BS r;cases ru;obtain⟨Ye,rv,pl,hz⟩:=I.list hl;have hi:IntsAre Ye ns:=by simpa using EI rv
 have Yk:Ye.length=ns.length:=by rw[<- rv.length,ZB]
 refine sorted_ints pl.isList hi (by lia) fun out ms a1 a2 a3=>?_
 obtain⟨e,he⟩:=sortedAll_at s.heap Ye out;have hp:s.heap.objs.size<=s.heap.objs.size+1:=ZBb _;refine⟨.ref (s.heap.objs.size+1),_,I.laid (t':=s.toks) (o:=.lst (ms.map V.int)) (fun b o e=>sortedAll_old e) hp ?_,rfl,q ms _ a2 a3 (I.hok.fresh hp)⟩;refine⟨?_,out.toList,e,MA a1,he⟩;rw[ZB,a2.length_eq];exact Zn (Zy h64) (by decide)
theorem Ug(hK:X.K=K:=by rfl):CallR X (.builtin "sorted") (Fj K):=hK ▸ SG
theorem Ru:Ek (Fj K):=fun xs H Q Q' h q=>by
 unfold Fj at *;split at q
 ·obtain⟨ns,a,b,q⟩:=q;exact⟨ns,a,b,fun ms p x1 x2 x3=>h _ _ (q ms p x1 x2 x3)⟩
 ·exact q.elim
end
noncomputable def Fs:V->List V->Hp->VK->Prop:=fun x vs H Q=>match x,vs with
 | .ref l,[.int i,y]=>∃xs,H l=some (.lst xs)/\0<=i/\i<=xs.length/\xs.length < 1000/\Q .non (upd H l (.lst (xs.take i.toNat++y::xs.drop i.toNat)))
 | _,_=>False
theorem OJ:∀{xs:List V} {us:List Value} {y:V} {u:Value} (k:Nat),Yi xs us->Yh y u->Yi (xs.take k++y::xs.drop k) (us.take k++u::us.drop k)
 | _,_,_,_,0,r,ry=>by simpa using Paired.cons ry r
 | _,_,_,_,k+1,.nil,ry=>by simpa using Paired.cons ry .nil
 | _,_,_,_,k+1,.cons r t,ry=>by simpa using Paired.cons r (OJ k t ry)
section
variable {X:Cx}{K:W.Frag}{o e e2:Expr}{to:TE}{t:TA}{apos cpos:Pos}
theorem RY:MtR X "list.insert" Fs:=by
 intro Ya s Z H x vs v us Q I rx rv q
 match x,vs,q with
 | .ref l,[.int i,y],⟨xs,hH,h1,h2,h3,q⟩ =>
 cases rx;obtain⟨u1,u,rfl,⟨tk,rfl⟩,ru⟩:=ER rv;obtain⟨z,Ye,n,r,hl,e⟩:=I.lstM hH;have hi63:i < 2 ^ 63:=by lia
 have hfit:¬(!Builtin.List.listFitsIndex i)=true:=by
  rw[fitsIndex_both (by lia) hi63];exact Zh
 refine call_meets F.slot_list_insert ⟨_,e,rfl⟩ F.entry_list_insert (F.args_list_insert_3 _ _ _) (AutoListH.list_insert_list_int_val_1 l Ye.toArray n i tk u hfit (by rw[ZK];lia)) ⟨e,?_⟩;refine⟨.non,_,I.lset (its':=Ye.take i.toNat++u::Ye.drop i.toNat) hH e ?_ (OJ i.toNat r ru) ?_,rfl,q⟩
 ·have hm:min i.toNat Ye.length=i.toNat:=by lia
  show(have k:=if i < 0 then (i+((Ye.toArray.size:Nat):Int)).toNat else min i.toNat Ye.toArray.size;(Ye.toArray.extract 0 k).push u++Ye.toArray.extract k)=_
  rw[if_neg (by lia),ZK,hm];apply Array.toList_inj.mp;simp;exact ZBj (by rw[ZBC];exact ZE _)
 ·rw[ZM,Zi,ZW,ZBC];exact CZ (by lia)
theorem Ng (ho:PE X o to) (ha:PA X [e,e2] t) (hbase:attributeBase o "insert" X.env (eval o X.env)=eval o X.env:=by rfl)
 (hfew:((backTo cpos (starEach [e,e2] X.env)).all (fun x=>!x.1) && (backToKw cpos (keywordEach [] X.env)).all (fun x=>x.1.isSome)
   && decide ([e,e2].length+([]:List Keyword).length+(if ([]:List Keyword).isEmpty then 0 else 1) < 30))=true:=by rfl)
 (hline:(apos.endLine == cpos.line)=true:=by rfl) (hs:starEach [e,e2] X.env=(false,eval e X.env)::starEach [e2] X.env:=by rfl) (hplain:(backTo cpos (starEach [e2] X.env)).any (·.1)=false:=by rfl) (hK:X.K=K:=by rfl) :
 PE X (.Call (.Attribute o "insert" apos) [e,e2] [] cpos) (tBM K "list" Fs to t):=hK ▸ FR PySem.F.plainAttrs_list PySem.F.slot_list_insert PySem.F.type_list_insert RY ho ha hbase hfew hline hs hplain
theorem Ra:DU Fs:=fun x xs H Q Q' h q=>by
 unfold Fs at *;split at q
 ·obtain⟨ys,a,b,c,d,q⟩:=q;exact⟨ys,a,b,c,d,h _ _ q⟩
 ·exact q.elim
end
theorem RK(l:Addr)(items:Array Value)(n:Nat)(sl:Array (Option Value))(x:Int)(hx:x=1)(u:Tok) :
 Meets (Builtin.«tuple.__mul__» ⟨[.ref l,.int x u],[]⟩) (fun _ R s=>s.heap.get? l=some { cls:=.type "tuple",dict:=none,data:=.seq items n,slots:=sl } /\ R (.ok (.ret (Value.ref l))) s) :=
 .of_wp fun prog w A R s h=>by
  obtain⟨hp,g,d,tk,os⟩:=s;obtain⟨hl,h⟩:=h;have c1:(decide (x < -(2 ^ 63)) || decide (x ≥ 2 ^ 63))=false:=by rw[hx];decide
  have c2:(items.isEmpty || x == 1)=true:=by rw[hx];simp
  clear hx
  wp_walk
  refine wpAny_ite_false (Zg (by rw[c1];exact Zh)) ?_
  wp_walk
  exact⟨_,rfl,h⟩
theorem U4(l:Addr)(items:Array Value)(n:Nat)(sl:Array (Option Value))(x:Int)(hx:x=0)(u:Tok)(h0:items.isEmpty=false) :
 Meets (Builtin.«tuple.__mul__» ⟨[.ref l,.int x u],[]⟩) (fun _ R s=>s.heap.get? l=some { cls:=.type "tuple",dict:=none,data:=.seq items n,slots:=sl } /\ R (.ok (.ret (Value.ref s.heap.objs.size))) { s with heap:=s.heap.push { cls:=Value.type "tuple",data:=Data.seq #[] },toks:=s.toks }) :=
 .of_wp fun prog w A R s h=>by
  obtain⟨hp,g,d,tk,os⟩:=s;obtain⟨hl,h⟩:=h;have c1:(decide (x < -(2 ^ 63)) || decide (x ≥ 2 ^ 63))=false:=by rw[hx];decide
  have c2:(items.isEmpty || x == 1)=false:=by rw[h0,hx];rfl
  have c3:(decide (x<=0) || items.isEmpty)=true:=by rw[h0,hx];rfl
  clear hx
  wp_walk
  refine wpAny_ite_false (Zg (by rw[c1];exact Zh)) ?_
  wp_walk
  refine wpAny_ite_false (Zg (by rw[c2];exact Zh)) ?_
  wp_walk
  refine wpAny_ite_true (ZL c3) ?_
  wp_walk
  exact⟨_,rfl,h⟩
section
variable {X:Cx}
noncomputable def Et(K:W.Frag):R2:=fun x y H Q=>match x,y with
 | .ref a,.int k=>∃xs,Yp K H a xs/\xs≠[]/\0<=k/\k < 2 ^ 63/\xs.length * k.toNat<=sizeLine/\(k=1->Q (.ref a) H)/\(k≠1->∀p,H p=none->Q (.ref p) (upd H p (.tup (List.replicate k.toNat xs).flatten)))
 | _,_=>False
theorem VO:Yt X (binaryOp .Mult) (Et X.K):=by
 intro Ya s Z H x y v u Q I rx ry h;cases x <;> first | exact False.elim h | skip
 cases y <;> first | exact False.elim h | skip
 rename_i l k;obtain⟨xs,hH,hx,h1,h2,hz,q1,q2⟩:=h
 by_cases hk:2<=k
 ·exact Tf Ya s Z H _ _ v u Q I rx ry ⟨l,k,xs,rfl,rfl,hH,hx,hk,h2,hz,q2 (by lia)⟩
 cases rx;obtain⟨t,rfl⟩:=ry;obtain⟨Ye,r,⟨o,e,hc,⟨n,hd⟩,hn⟩,_⟩:=I.tupleN hH;obtain⟨c,dd,da,sl⟩:=o;cases hc;cases hd;cases hn
 have h0:Ye.toArray.isEmpty=false:=by
  cases Ye with
  | nil=>exact absurd (r.nil_iff.mp rfl) hx
  | cons _ _=>rfl
 have:k=0\/k=1:=by lia
 rcases this with rfl | rfl
 ·refine wpAny_binaryOp_repeat_ref (T:="tuple") (U:="int") (by decide) ⟨_,e,rfl⟩ (fun s'=>typeIs_int s' 0 t) HQ F.fills_int_mul F.slot_int_rmul Hz F.slot_int_index.lookup
   (call_meets F.slot_int_rmul (typeIs_int s 0 t) F.entry_int_rmul (F.args_int_rmul_2 _ _) (HE 0 t l Ye.toArray n sl)
     ⟨e,rfl,⟨_,e,rfl⟩,call_meets F.slot_tuple_mul ⟨_,e,rfl⟩ F.entry_tuple_mul (F.args_tuple_mul_2 _ _) (U4 l Ye.toArray n sl 0 rfl t h0) ⟨e,?_⟩⟩)
  refine⟨.ref s.heap.objs.size,_,I.laid (t':=s.toks) (o:=.tup []) (fun b ob q=>ZI _ q) (ZE _) ?_,rfl,q2 (by decide) _ (I.hok.fresh (ZE _))⟩;exact⟨ZV _,[],.nil,IsTupN.new _ _⟩
 ·refine wpAny_binaryOp_repeat_ref (T:="tuple") (U:="int") (by decide) ⟨_,e,rfl⟩ (fun s'=>typeIs_int s' 1 t) HQ F.fills_int_mul F.slot_int_rmul Hz F.slot_int_index.lookup
   (call_meets F.slot_int_rmul (typeIs_int s 1 t) F.entry_int_rmul (F.args_int_rmul_2 _ _) (HE 1 t l Ye.toArray n sl)
     ⟨e,rfl,⟨_,e,rfl⟩,call_meets F.slot_tuple_mul ⟨_,e,rfl⟩ F.entry_tuple_mul (F.args_tuple_mul_2 _ _) (RK l Ye.toArray n sl 1 rfl t) ⟨e,?_⟩⟩)
  exact⟨.ref l,H,I,rfl,q1 rfl⟩
theorem SW{K:W.Frag}(hK:X.K=K:=by rfl):Yt X (binaryOp .Mult) (Et K):=hK ▸ VO
theorem Xo{K:W.Frag}:BZ (Et K):=fun x y H Q Q' m q=>by
 unfold Et at *;split at q
 ·obtain⟨xs,e1,e2,e3,e4,e5,q1,q2⟩:=q;exact⟨xs,e1,e2,e3,e4,e5,fun e=>m _ _ (q1 e),fun e p hp=>m _ _ (q2 e p hp)⟩
 ·exact q.elim
end
end L2
namespace HT
open PySem PyProof.Rows
section
variable {prog:Program}{w:World}{A:Around}{E:Value->Shared->Prop}{s:Shared}
theorem getItem_tuple_whole {t sl:Addr} {items:Array Value} {vl vu:Value} {lo hi:Option Int} {Q:Value->Shared->Prop} (ht:IsTup s.heap t items) (hs:s.heap.IsSliceOf sl vl vu .none) (pl:IsPart vl lo) (pu:IsPart vu hi)
 (hw:sIx items.size 0 lo=0/\sIx items.size items.size hi=items.size)
 (h:Q (.ref t) s):wpAny (model prog w) A (getItem (.ref t) (.ref sl)) Q E s:=by
 obtain⟨os,hos,hcs,hds⟩:=id hs;have hTs:s.TypeIs (.ref sl) "slice":=⟨os,hos,hcs⟩;unfold getItem
 try with_reducible refine Zk ?_
 first | refine ZA (ZC ?_) | skip
 refine ZA (wpAny_sequenceKey ht.typeIs (by decide) ?_)
 refine ZA (wpAny_callSpecial?_slot (name:=Str.ofString "__getitem__") ht.typeIs PyProof.Rows.slot_tuple_getitem
  (Zz PyProof.Rows.slot_tuple_getitem ht.typeIs entry_tuple_getitem ?_ (args_tuple_getitem _ _)))
 show wpAny _ _ (Builtin.Tuple.tupleItemsOf (.ref t) >>= _) _ _ s;refine ZA (tupleItemsOf_ ht ?_);refine ZA (wpAny_typeOf hTs ?_);rw[if_pos (by decide)];refine ZA (M7 hs pl pu ?_);rw[hw.1,hw.2];show wpAny _ _ (if (((0:Nat):Int) == 0 && (1:Int) == 1 && (items.size - 0) == items.size)=true then _ else _) _ _ s;have hyes:(((0:Nat):Int) == 0 && (1:Int) == 1 && (items.size - 0) == items.size)=true:=by simp
 rw[if_pos hyes];unfold Builtin.Tuple.tupleIsExact;refine ZA (ZA (wpAny_typeOf ht.typeIs (ZC ?_)));rw[if_pos (by decide)];refine ZA (wpAny_rule ?_)
 first
  | exact ZA (ZC ⟨_,rfl,ZC h⟩)
  | exact ZC ⟨_,rfl,ZC h⟩
  | exact ZA (ZC (ZC ⟨_,rfl,ZC h⟩))
  | exact ZA (ZA (ZC (ZC ⟨_,rfl,ZC h⟩)))
end
end HT
namespace L2
open PySem PySem.Spec PyProof.Rows
section
variable {X:Cx}{K:W.Frag}{e sx:Expr}{te ts:TE}{lo hi:Option Expr}{tl th:TO}{pos p2:Pos}
noncomputable def IZ(K:W.Frag):V->Option Int->Option Int->Hp->VK->Prop:=fun x lo hi H Q=>match x with
 | .ref a=>∃xs,Yp K H a xs/\∀p H',Yb H H'->Yp K H' p (Bb xs lo hi)->Q (.ref p) H'
 | _=>False
theorem Qi:SlR X (IZ X.K):=by
 intro Ya s Z H x v vl vu lo hi sl Q I rx hs pl pu q;cases x with
 | ref a =>
  obtain⟨xs,hx,q⟩:=q
  by_cases hw:HT.sIx xs.length 0 lo=0/\HT.sIx xs.length xs.length hi=xs.length
  ·cases rx;obtain⟨Ye,r,ht,hz⟩:=I.tuple hx;have Yk:Ye.toArray.size=xs.length:=by rw[ZK];exact r.length.symm
   refine⟨"tuple",_,PyProof.Rows.slot_tuple_getitem.lookup,ht.typeIs,?_⟩;refine HT.getItem_tuple_whole ht hs pl pu (by rw[Yk];exact hw) ⟨.ref a,H,I,rfl,q a H (fun _ _ h=>h) ?_⟩
   have:Bb xs lo hi=xs:=by
    unfold Bb;rw[hw.1,hw.2,List.drop_zero,ZBj (by lia)]
   rw[this];exact hx
  ·exact NP Ya s Z H _ v vl vu lo hi sl Q I rx hs pl pu ⟨a,xs,rfl,hx,hw,fun p hp=>q p _ (Yb.upd hp) (.of AD)⟩
 | _=>exact False.elim q
theorem Ii(he:PE X e te)(hl:PO X lo tl)(hu:PO X hi th)(hK:X.K=K:=by rfl):PE X (.Subscript e (.Slice lo hi none p2) pos) (tSl (IZ K) te tl th):=hK ▸ Nk Qi he hl hu
theorem Wk(h:Af te)(h1:GJ tl)(h2:GJ th):Af (tSl (IZ K) te tl th):=fun Z H Q Q' k q=>h _ _ _ _ (fun v _ q=>h1 _ _ _ _ (fun _ _ q=>h2 _ _ _ _ (fun _ _ q=>by
 cases v <;> first | exact False.elim q | (obtain⟨xs,a,q⟩:=q;exact⟨xs,a,fun p H' s r=>k _ _ (q p H' s r)⟩)) q) q) q
end
end L2
namespace HT
open PySem PyProof.Rows
section
variable {prog:Program}{w:World}{A:Around}{E:Value->Shared->Prop}{s:Shared}
theorem cat_none{t b:Addr}{ws:List Value}{Q:Value->Shared->Prop}(ht:IsTup s.heap t #[])(hb:IsTup s.heap b ws.toArray)(h:Q (.ref b) s) :
 wpAny (model prog w) A (binaryOp .Add (.ref t) (.ref b)) Q E s:=by
 obtain⟨⟨cls,dd,data,sl⟩,ho,hc,n,hd⟩:=id ht;obtain⟨⟨cls2,dd2,data2,sl2⟩,ho2,hc2,n2,hd2⟩:=id hb;simp only at hc hd hc2 hd2;subst hc hd hc2 hd2
 exact concat_meets ⟨_,ho,rfl⟩ ⟨_,ho2,rfl⟩ noFill_tuple_add seq_tuple_add PySem.F.slot_tuple_add PySem.F.entry_tuple_add (PySem.F.args_tuple_add_2 _ _)
  (tuple_addW0 t b #[] ws.toArray n n2 dd dd2 sl sl2 rfl) ⟨ho,ho2,h⟩
end
end HT
namespace L2
open PySem PySem.Spec PyProof.Rows
section
variable {X:Cx}{K:W.Frag}
noncomputable def Jg(K:W.Frag):R2:=fun x y H Q=>match x,y with
 | .int i,.int j=>Q (.int (i+j)) H
 | .ref a,.ref b=>Ju (.ref a) (.ref b) H Q\/∃xs ys,Yp K H a xs/\Yp K H b ys/\xs.length+ys.length<=sizeLine/\∀p H',Yb H H'->Yp K H' p (xs++ys)->Q (.ref p) H'
 | _,_=>False
theorem XX:Yt X (binaryOp .Add) (Jg X.K):=by
 intro Ya s Z H x y v u Q I rx ry q
 cases x <;> cases y <;> first
  | exact False.elim q
  | exact NW Ya s Z H _ _ v u Q I rx ry ⟨_,_,rfl,rfl,q⟩
  | skip
 rename_i a b
 rcases q with q | ⟨xs,ys,ha,hb,hz,q⟩
 ·exact K4 Ya s Z H _ _ v u Q I rx ry q
 by_cases hx:xs=[]
 ·subst hx;cases rx;cases ry;obtain⟨Ye,r1,p1,_⟩:=I.tuple ha;obtain⟨its2,r2,p2,_⟩:=I.tuple hb;cases r1;exact HT.cat_none p1 p2 ⟨.ref b,H,I,rfl,q b H (fun _ _ h=>h) hb⟩
 ·exact N1 Ya s Z H _ _ v u Q I rx ry ⟨a,b,xs,ys,rfl,rfl,ha,hb,hx,hz,fun e=>q a H (fun _ _ h=>h) (by rw[e,Zw];exact ha),fun _ p hp=>q p _ (Yb.upd hp) (.of AD)⟩
theorem D9(hK:X.K=K:=by rfl):Yt X (binaryOp .Add) (Jg K):=hK ▸ XX
theorem Qe:BZ (Jg K):=fun x y H Q Q' m q=>by
 cases x <;> cases y <;> first
  | exact False.elim q
  | exact m _ _ q
  | skip
 rcases q with ⟨l,b,xs,zs,h1,h2,h3,h4,h5,q⟩ | ⟨xs,ys,ha,hb,hz,q⟩
 ·exact .inl ⟨l,b,xs,zs,h1,h2,h3,h4,h5,fun p hp=>m _ _ (q p hp)⟩
 ·exact .inr ⟨xs,ys,ha,hb,hz,fun p H' a b=>m _ _ (q p H' a b)⟩
end
section
variable {X:Cx}{K:W.Frag}
noncomputable def OU(K:W.Frag):List V->Hp->VK->Prop:=fun xs H Q=>match xs with
 | [.ref l]=>∃ns:List Int,Yw K H l (ns.map V.int)/\0 < ns.length/\∀M,M∈ns->(∀a∈ns,M<=a)->Q (.int M) H
 | _=>False
theorem So(hc:X.calm=true):CallR X (.builtin "min") (OU X.K):=by
 intro Ya s Z H xs us Q I r q
 match xs,q with
 | [.ref l],q =>
 obtain⟨ns,hl,Yv,q⟩:=q;obtain⟨u,rfl,ru⟩:=BS r;cases ru;obtain⟨Ye,rv,pl,hz⟩:=I.list hl;have hi:IntsAre Ye ns:=by simpa using EI rv
 obtain⟨zs,hzs⟩:=(hi.allInts).items;have pl':=pl.isList;rw[hzs]at pl'
 have hns:ns=zs.toList.map (·.1):=by
  rw[<- hi.numsOf,<- nums_intItems,<- hzs]
 have hsz:0 < zs.size:=by
  rw[hns,ZB,Zj]at Yv;exact Yv
 refine min_intList (I.ok.hd hc) pl' hsz fun v h' tk hv hk=>?_
 obtain⟨t,rfl⟩:=intItems_at hv;obtain⟨h1,h2⟩:=argBest_lt (numAt zs) (zs.size - 1);refine⟨.int _,H,I.kept hk,⟨t,rfl⟩,q _ ?_ fun a ha=>?_⟩
 ·rw[hns,numAt_eq];exact getD_mem (by rw[ZB,Zj];lia)
 ·rw[hns]at ha;obtain⟨j,hj,rfl⟩:=mem_getD ha;rw[ZB,Zj]at hj;rw[<- numAt_eq];exact h2 j (by lia)
theorem Ov(hc:X.calm=true)(hK:X.K=K:=by rfl):CallR X (.builtin "min") (OU K):=hK ▸ So hc
end
noncomputable def IG(K:W.Frag)(neg:Bool):R2:=fun x y H Q=>match y with
 | .ref p=>∃(xs:List V) (ds:List Dv) (d:Dv),SqA K H p xs/\Yc K H ds xs/\Yf K H d x/\(∀e∈ds,A4 e<=50)/\Q (.bl (neg ^^ ds.any fun e=>eqD e d)) H
 | _=>False
theorem QI{x y:V}{u:Value}(h1:Yh x u)(h2:Yh y u):x=y:=by
 cases x <;> cases y <;> simp only[Yh]at h1 h2 <;> (first | (obtain⟨t,rfl⟩:=h1) | subst h1) <;> (first | (obtain⟨t',e⟩:=h2;cases e;done) | (obtain⟨t',e⟩:=h2;cases e;rfl) | (cases h2;done) | (cases h2;rfl))
open Classical in
noncomputable def Cm(K:W.Frag)(H:Hp)(u:Value):Dv:=if h:∃d x,Yh x u/\Yf K H d x then h.choose else .non
section
variable {X:Cx}{K:W.Frag}{Ya:List (Addr × Obj)}{Z:St}{H:Hp}{s:Shared}
theorem Lf(I:Yg X Ya Z H s){d:Dv}{x:V}{u:Value}(r:Yh x u)(h:Yf X.K H d x):Cm X.K H u=d:=by
 have hx:∃d x,Yh x u/\Yf X.K H d x:=⟨d,x,r,h⟩;unfold Cm;rw[dif_pos hx];obtain⟨y,r',h'⟩:=hx.choose_spec;obtain rfl:=QI r r';exact Fu I _ _ _ h' h
theorem G8(I:Yg X Ya Z H s){d:Dv}:∀{ds:List Dv} {xs:List V} {us:List Value},Yc X.K H ds xs->Yi xs us->us.any (fun u=>eqD (Cm X.K H u) d)=ds.any fun e=>eqD e d
 | [],_,_,h,r=>by
  unfold Yc at h;subst h;cases r;rfl
 | e::ds,xs,us,h,r=>by
  unfold Yc at h;obtain⟨x,l,rfl,h1,h2⟩:=h;cases r with
  | cons r1 r2=>rw[ZBr,ZBr,G8 I h2 r2,Lf I r1 h1]
theorem OE{d:Dv}:∀{ds:List Dv} {xs:List V} {us:List Value},Yc K H ds xs->Yi xs us->∀u∈us,∃e∈ds,∃x,Yh x u/\Yf K H e x
 | [],_,_,h,r=>by
  unfold Yc at h;subst h;cases r;intro u hu;cases hu
 | e::ds,xs,us,h,r=>by
  unfold Yc at h;obtain⟨x,l,rfl,h1,h2⟩:=h;cases r with
  | cons r1 r2 =>
   intro u hu
   rcases ZH.mp hu with rfl | hu
   ·exact⟨e,Zo,x,r1,h1⟩
   ·obtain⟨e',h3,h4⟩:=OE (d:=d) h2 r2 u hu;exact⟨e',Ze _ h3,h4⟩
theorem MW(hu:X.A.units+60 < cLine)(I:Yg X Ya Z H s){d:Dv}{x:V}{v:Value}{ds:List Dv}{xs:List V}{us:List Value}(rx:Yh x v)(hx:Yf X.K H d x)(hR:Yc X.K H ds xs)(r:Yi xs us)(hd:∀e∈ds,A4 e<=50):∀y,y∈us->SeqAt.EqAt X.A.in1 s y v (eqD (Cm X.K H y) d):=by
 intro y hy;obtain⟨e,he,z,r1,h1⟩:=OE (d:=d) hR r y hy;rw[Lf I r1 h1];exact(HU I 50 X.A.in1 e d z x y v (hd e he) (by show X.A.units+1+50 < cLine;lia) h1 hx r1 rx).1
theorem XQ(hu:X.A.units+60 < cLine):Yt X (compareOp .NotIn) (IG X.K true):=by
 intro Ya s Z H x y v u Q I rx ry h;cases y <;> first | exact False.elim h | skip
 obtain⟨xs,ds,d,hq,hR,hx,hd,q⟩:=h;cases ry
 rcases hq with hq | hq
 ·obtain⟨Ye,r,pl,hz⟩:=I.list hq;refine SeqAt.notIn_listAt (fun y=>eqD (Cm X.K H y) d) pl.isList (fun w hw=>MW hu I rx hx hR r hd w (by simpa using hw)) ⟨.bl _,H,I,rfl,?_⟩;rw[show Ye.toArray.any (fun y=>eqD (Cm X.K H y) d)=Ye.any (fun y=>eqD (Cm X.K H y) d) by simp,G8 I hR r];simpa using q
 ·obtain⟨Ye,r,pl,hz⟩:=I.tuple hq;refine SeqAt.notIn_tupleAt (fun y=>eqD (Cm X.K H y) d) pl (fun w hw=>MW hu I rx hx hR r hd w (by simpa using hw)) ⟨.bl _,H,I,rfl,?_⟩;rw[show Ye.toArray.any (fun y=>eqD (Cm X.K H y) d)=Ye.any (fun y=>eqD (Cm X.K H y) d) by simp,G8 I hR r];simpa using q
theorem VT(hu:X.A.units+60 < cLine)(hK:X.K=K:=by rfl):Yt X (compareOp .NotIn) (IG K true):=hK ▸ XQ hu
theorem Uh{neg:Bool}:BZ (IG K neg):=fun x y H Q Q' h q=>by
 cases y with
 | ref p=>obtain⟨xs,ds,d,h1,h2,h3,h4,q⟩:=q;exact⟨xs,ds,d,h1,h2,h3,h4,h _ _ q⟩
 | _=>exact False.elim q
end
structure GFd(H:Hp)(t l:Addr)(N:Nat):Prop where
 at_:∃(i g c:Int) (ns:List Int),0<=i/\0<=g/\0<=c/\c<=N/\H t=some (.lst [.ref l,.int i,.int g,.int c])/\l≠t/\H l=some (.lst (ns.map V.int))/\ns.length≠0
theorem GFeed.told{H:Hp}{t:Addr}{N:Nat}(F:GFeed H t N):∃l,GFd H t l N:=by
 obtain⟨l,i,g,c,ns,h⟩:=F.at_;exact⟨l,i,g,c,ns,h⟩
theorem GFd.feed{H:Hp}{t l:Addr}{N:Nat}(F:GFd H t l N):GFeed H t N:=by
 obtain⟨i,g,c,ns,h⟩:=F.at_;exact⟨l,i,g,c,ns,h⟩
theorem GFd.same{H H':Hp}{t l:Addr}{N:Nat}(F:GFd H t l N)(h:Yb H H'):GFd H' t l N:=by
 obtain⟨i,g,c,ns,h1,h2,h3,h4,h5,h6,h7,h8⟩:=F.at_;exact⟨i,g,c,ns,h1,h2,h3,h4,h _ _ h5,h6,h _ _ h7,h8⟩
theorem GFd.upd{H:Hp}{t l p:Addr}{o:HO}{N:Nat}(F:GFd H t l N)(h:H p=none):GFd (L2.upd H p o) t l N:=F.same (Yb.upd h)
theorem GFd.ne{H:Hp}{t l p:Addr}{N:Nat}(F:GFd H t l N)(h:H p=none):p≠t/\p≠l:=by
 obtain⟨i,g,c,ns,h1,h2,h3,h4,h5,h6,h7,h8⟩:=F.at_;exact⟨fun e=>(by rw[e,h5]at h;exact nomatch h),fun e=>(by rw[e,h7]at h;exact nomatch h)⟩
theorem GFd.put{H:Hp}{t l p:Addr}{o:HO}{N:Nat}(F:GFd H t l N)(h:p≠t/\p≠l):GFd (L2.upd H p o) t l N:=by
 obtain⟨i,g,c,ns,h1,h2,h3,h4,h5,h6,h7,h8⟩:=F.at_;exact⟨i,g,c,ns,h1,h2,h3,h4,by rw[AJ (Ne.symm h.1)];exact h5,h6,by rw[AJ (Ne.symm h.2)];exact h7,h8⟩
theorem GFeed.put{H:Hp}{t p:Addr}{o:HO}{N:Nat}{xs:List V}(F:GFeed H t N)(hp:p≠t)(hx:H p=some (.lst xs))(hn:∀ns:List Int,ns.length≠0->xs≠ns.map V.int):GFeed (L2.upd H p o) t N:=by
 obtain⟨l,i,g,c,ns,h1,h2,h3,h4,h5,h6,h7,h8⟩:=F.at_
 have:p≠l:=fun e=>by
  rw[e,h7]at hx;cases hx;exact hn ns h8 rfl
 exact⟨l,i,g,c,ns,h1,h2,h3,h4,by rw[AJ (Ne.symm hp)];exact h5,h6,by rw[AJ (Ne.symm this)];exact h7,h8⟩
noncomputable def Ef:Sp:=fun vs H Q _=>match vs with
 | [.ref t,.int m]=>∃l N,GFd H t l N/\N<=1000000000/\okDiv m/\∀d H',0<=d->d < m->GFd H' t l (N+1)->(∀b,b≠t->H' b=H b)->Q (.int d) H'
 | _=>False
theorem QZ:AR Ef:=fun vs H Q Q' E h q=>by
 unfold Ef at *;split at q
 ·obtain⟨l,N,h1,h2,h3,q⟩:=q;exact⟨l,N,h1,h2,h3,fun d H' a b c e=>h _ _ (q d H' a b c e)⟩
 ·exact q.elim
theorem Ph(vs:List V)(H:Hp)(Q:VK)(E:XK)(h:Ev vs H Q E):Ef vs H Q E:=by
 unfold Ev at h;unfold Ef;split at h
 ·obtain⟨N,F,h2,h3,q⟩:=h;obtain⟨l,F⟩:=F.told;exact⟨l,N,F,h2,h3,fun d H' a b c e=>q d H' a b c.feed e⟩
 ·exact h.elim
inductive Dw where
 | non | bl (b:Bool) | int (i:Int) | str (x:Str) | tup (ds:List Dw) | lst (ds:List Dw) | emp
noncomputable def Le(a:Addr)(xs:List V):Heap->Prop:=fun h=>a≠sysModules/\∃(Ye:List Value) (n:Nat),Yi xs Ye/\h.get? a=some { cls:=.type "list",data:=.seq Ye.toArray n }
mutual
noncomputable def Yo(K:W.Frag)(H:Hp):Dw->V->Prop
 | .non,v=>v=.non
 | .bl b,v=>v=.bl b
 | .int i,v=>v=.int i
 | .str x,v=>v=.str x
 | .tup ds,v=>∃a xs,v=.ref a/\Yp K H a xs/\Ym K H ds xs
 | .lst ds,v=>∃a xs,v=.ref a/\H a=some (.ext (Le a xs))/\Ym K H ds xs
 | .emp,v=>∃a,v=.ref a/\H a=some (.dK [])
noncomputable def Ym(K:W.Frag)(H:Hp):List Dw->List V->Prop
 | [],xs=>xs=[]
 | d::ds,xs=>∃x r,xs=x::r/\Yo K H d x/\Ym K H ds r
end
theorem Ym.length{K:W.Frag}{H:Hp}:∀{ds:List Dw} {xs:List V},Ym K H ds xs->ds.length=xs.length
 | [],xs,h=>by unfold Ym at h;subst h;rfl
 | d::ds,xs,h=>by
  unfold Ym at h;obtain⟨x,r,rfl,_,h⟩:=h;rw[Zi,Zi,Ym.length h]
theorem Ym.get{K:W.Frag}{H:Hp}:∀{ds:List Dw} {xs:List V} {i:Nat} {d:Dw},Ym K H ds xs->ds[i]? = some d->∃x,xs[i]? = some x/\Yo K H d x
 | [],_,_,_,_,e=>by simp at e
 | d::ds,xs,0,_,h,e=>by
  unfold Ym at h;obtain⟨x,r,rfl,h1,_⟩:=h;simp at e;subst e;exact⟨x,rfl,h1⟩
 | d::ds,xs,i+1,_,h,e=>by
  unfold Ym at h;obtain⟨x,r,rfl,_,h⟩:=h;obtain⟨y,h1,h2⟩:=Ym.get (i:=i) h (by simpa using e);exact⟨y,by simpa using h1,h2⟩
theorem DY{K:W.Frag}{H:Hp}{ds:List Dw}{v:V}(h:Yo K H (.tup ds) v):∃a xs,v=.ref a/\Yp K H a xs/\Ym K H ds xs:=by unfold Yo at h;exact h
mutual
theorem Yo.same{K:W.Frag}{H H':Hp}(s:Yb H H'):∀(d:Dw) (v:V),Yo K H d v->Yo K H' d v
 | .non,v,h=>by unfold Yo at *;exact h
 | .bl b,v,h=>by unfold Yo at *;exact h
 | .int i,v,h=>by unfold Yo at *;exact h
 | .str x,v,h=>by unfold Yo at *;exact h
 | .emp,v,h=>by unfold Yo at *;obtain⟨a,e,h⟩:=h;exact⟨a,e,s _ _ h⟩
 | .tup ds,v,h=>by
  unfold Yo at *;obtain⟨a,xs,e,h1,h2⟩:=h;exact⟨a,xs,e,OZ h1 s,Ym.same s ds xs h2⟩
 | .lst ds,v,h=>by
  unfold Yo at *;obtain⟨a,xs,e,h1,h2⟩:=h;exact⟨a,xs,e,s _ _ h1,Ym.same s ds xs h2⟩
theorem Ym.same{K:W.Frag}{H H':Hp}(s:Yb H H'):∀(ds:List Dw) (xs:List V),Ym K H ds xs->Ym K H' ds xs
 | [],xs,h=>by unfold Ym at *;exact h
 | d::ds,xs,h=>by
  unfold Ym at *;obtain⟨x,r,e,h1,h2⟩:=h;exact⟨x,r,e,Yo.same s d x h1,Ym.same s ds r h2⟩
end
mutual
noncomputable def upW:Dv->Dw
 | .non=>.non
 | .bl b=>.bl b
 | .int i=>.int i
 | .str x=>.str x
 | .tup ds=>.tup (CS ds)
 | .lst ds=>.lst (CS ds)
noncomputable def CS:List Dv->List Dw
 | []=>[]
 | d::ds=>upW d::CS ds
end
mutual
theorem La{K:W.Frag}{H:Hp}:∀(d:Dv) (v:V),BB d=true->Yf K H d v->Yo K H (upW d) v
 | .non,v,_,h=>by unfold upW Yo;unfold Yf at h;exact h
 | .bl b,v,_,h=>by unfold upW Yo;unfold Yf at h;exact h
 | .int i,v,_,h=>by unfold upW Yo;unfold Yf at h;exact h
 | .str x,v,_,h=>by unfold upW Yo;unfold Yf at h;exact h
 | .tup ds,v,hd,h=>by
  unfold BB at hd;unfold Yf at h;obtain⟨a,xs,e,h1,h2⟩:=h;unfold upW Yo;exact⟨a,xs,e,h1,Nv ds xs hd h2⟩
 | .lst ds,v,hd,h=>by unfold BB at hd;cases hd
theorem Nv{K:W.Frag}{H:Hp}:∀(ds:List Dv) (xs:List V),Ah ds=true->Yc K H ds xs->Ym K H (CS ds) xs
 | [],xs,_,h=>by unfold CS Ym;unfold Yc at h;exact h
 | d::ds,xs,hd,h=>by
  unfold Ah at hd;rw[ZQ]at hd;unfold Yc at h;obtain⟨x,r,e,h1,h2⟩:=h;unfold CS Ym;exact⟨x,r,e,La d x hd.1 h1,Nv ds r hd.2 h2⟩
end
noncomputable def tyW:Dw->String
 | .non=>"NoneType"
 | .bl _=>"bool"
 | .int _=>"int"
 | .str _=>"str"
 | .tup _=>"tuple"
 | .lst _=>"list"
 | .emp=>"dict"
noncomputable def Fp(K:W.Frag):List V->Hp->VK->Prop:=fun xs H Q=>match xs with
 | [x,.ty T]=>T∈kinds/\∃d,Yo K H d x/\Q (.bl (Bm (tyW d) T)) H
 | _=>False
theorem Wy{X:Cx}:CallR X (.builtin "isinstance") (Fp X.K):=by
 intro Ya s Z H xs us Q I r q
 match xs,q with
 | [x,.ty T],q =>
  obtain⟨hT,d,h,q⟩:=q;have hT':=hT;unfold kinds at hT';simp only[ZH,Z6,or_false]at hT';cases d with
  | non =>
   unfold Yo at h;subst h;exact Ew Ya s Z H _ us Q I r ⟨hT,.non,by unfold Yf;rfl,q⟩
  | str z =>
   unfold Yo at h;subst h;exact Ew Ya s Z H _ us Q I r ⟨hT,.str z,by unfold Yf;rfl,q⟩
  | bl b =>
   unfold Yo at h;subst h;exact Ew Ya s Z H _ us Q I r ⟨hT,.bl b,by unfold Yf;rfl,q⟩
  | int i =>
   unfold Yo at h;subst h;exact Ew Ya s Z H _ us Q I r ⟨hT,.int i,by unfold Yf;rfl,q⟩
  | tup ds =>
   unfold Yo at h;obtain⟨a,ys,rfl,hs,_⟩:=h;obtain⟨u,w',rfl,ru,rw'⟩:=ER r;cases rw';obtain⟨ht,hn,Hh,k,hh⟩:=Lm I ru (show TyS X.K H (.ref a) "tuple" from .inl ⟨rfl,ys,hs⟩);exact PySem.W.kia_one k I.kIn hh (KU ht hT) hn fun tk=>⟨.bl (Bm "tuple" T),H,I.tok _,rfl,q⟩
  | lst ds =>
   unfold Yo at h;obtain⟨a,ys,rfl,hs,_⟩:=h;obtain⟨u,w',rfl,ru,rw'⟩:=ER r;cases rw';cases ru;obtain⟨⟨_,Ye,n,_,h1⟩,_⟩:=(show ObjOk X.prog X.w H s.heap a (.ext (Le a ys)) from I.hok a _ hs);exact PySem.W.kia_one PySem.W.kitx_list I.kIn ⟨_,h1,rfl⟩ (KU (.inr (.inr (.inr rfl))) hT) (fun z=>nomatch z) fun tk=>⟨.bl (Bm "list" T),H,I.tok _,rfl,q⟩
  | emp =>
   unfold Yo at h;obtain⟨a,rfl,hs⟩:=h;refine Hm Ya s Z H _ us Q I r ⟨hT,_,.inr (.inr (.inl ⟨⟨_,hs⟩,rfl⟩)),?_⟩;have e:(T == "dict")=Bm (tyW .emp) T:=by rcases hT' with rfl | rfl | rfl | rfl | rfl | rfl <;> rfl
   rw[e];exact q
theorem Es{X:Cx}{K:W.Frag}(hK:X.K=K:=by rfl):CallR X (.builtin "isinstance") (Fp K):=hK ▸ Wy
theorem UZ{K:W.Frag}:Ek (Fp K):=fun xs H Q Q' h q=>by
 unfold Fp at *;split at q
 ·obtain⟨a,t,b,q⟩:=q;exact⟨a,t,b,h _ _ q⟩
 ·exact q.elim
theorem HD(val:Nat->Int):∀i,(firstMet val i).Nodup
 | 0=>by rw[firstMet_zero];exact List.nodup_nil
 | i+1=>by
  rw[firstMet_succ];unfold step_dedup;have ih:=HD val i;split
  ·exact ih
  ·rename_i h;rw[List.nodup_append];refine⟨ih,by simp,?_⟩;intro a ha b hb e;rw[ZO.mp hb]at e;exact h (ZBO.mpr ⟨a,ha,by rw[e];simp⟩)
theorem OD(ns:List Int)(k:Int):k∈firstMet (fun i=>ns.getD i 0) ns.length ↔ k∈ns:=by
 have h:=firstMet_any (fun i=>ns.getD i 0) ns.length k
 have e:(List.range ns.length).map (fun i=>ns.getD i 0)=ns:=by
  apply List.ext_getElem
  ·simp
  ·intro i h1 h2;simp;rw[ZD h2];rfl
 rw[e]at h;have a1:∀l:List Int,l.any (· == k)=true ↔ k∈l:=fun l=>by simp
 rw[<- a1,<- a1,h]
noncomputable def FT(ds:List Int):HO:=.set (fun k=>ds.any (· == k)) ds.length
noncomputable def Nz(K:W.Frag):List V->Hp->VK->Prop:=fun xs H Q=>match xs with
 | [.ref p]=>∃ns:List Int,Yw K H p (ns.map V.int)/\ns.length<=1000/\∀(ds:List Int) q,ds.Nodup->(∀k,k∈ds ↔ k∈ns)->H q=none->Q (.ref q) (upd H q (FT ds))
 | _=>False
section
variable {X:Cx}{K:W.Frag}
theorem O8(hh:X.calm=true):CallR X (.type "set") (Nz X.K):=by
 intro Ya s Z H xs us Q I r h
 match xs,h with
 | [.ref p],h =>
 obtain⟨ns,hq,hn,q⟩:=h;obtain⟨u,rfl,rx⟩:=BS r;cases rx;obtain⟨Ye,rv,pl,hz⟩:=I.list hq;have hi:IntsAre Ye ns:=by simpa using EI rv
 have Yk:Ye.length=ns.length:=by rw[<- rv.length,ZB]
 refine call_set_list (ns:=ns) (I.ok.hd hh) pl.isList (by simpa using hi) (by rw[ZK,Yk];show ns.length+1 < 4096;lia) fun h' tk hs hk=>?_
 have hsz:Ye.toArray.size=ns.length:=by rw[ZK,Yk]
 rw[hsz]at hs;refine⟨.ref s.heap.objs.size,_,I.laid (t':=tk) (o:=FT (firstMet (fun i=>ns.getD i 0) ns.length)) (fun b o e=>hk b o (ZG e) e) (ZE _) hs,rfl,q _ _ (HD _ _) (OD ns) (I.hok.fresh (ZE _))⟩
theorem WA(hh:X.calm=true)(hK:X.K=K:=by rfl):CallR X (.type "set") (Nz K):=hK ▸ O8 hh
noncomputable def Ut:List V->Hp->VK->Prop:=fun xs H Q=>match xs with
 | [.ref p]=>∃ds:List Int,H p=some (FT ds)/\Q (.int ds.length) H
 | _=>False
theorem On:CallR X (.builtin "len") Ut:=by
 intro Ya s Z H xs us Q I r h
 match xs,h with
 | [.ref p],h =>
 obtain⟨ds,hq,q⟩:=h;obtain⟨u,rfl,rx⟩:=BS r;cases rx;obtain⟨o,es,ep,t,h1,h2,h3,_,_,h6,h7,h8⟩:=(show ObjOk X.prog X.w H s.heap p (FT ds) from I.hok p _ hq);refine call_len_set h1 h2 h3 h7 (Int.lt_trans (Int.ofNat_lt.mpr h6) (by decide)) ⟨.int ds.length,H,I.tok _,⟨_,by rw[h8]⟩,q⟩
end
noncomputable def Ris(xs:Array Nat):Prop:=xs.toList.Pairwise (· < ·)
theorem Ris.lt{xs:Array Nat}(h:Ris xs){i k:Nat}(hik:i < k)(hk:k < xs.size)(j:Nat):xs.getD i j < xs.getD k j:=by
 have hi:i < xs.size:=ZBM hik hk
 have:=List.pairwise_iff_getElem.mp h i k (by simpa using hi) (by simpa using hk) hik
 simpa [Array.getD,hi,hk] using this
theorem JT{xs:Array Nat}{j:Nat}(h:Ris xs):∀(f lo hi:Nat),hi - lo<=f->lo<=hi->hi<=xs.size->(∀i,i < lo->xs.getD i j < j)->(∀i,hi<=i->i < xs.size->j<=xs.getD i j) ->
 SetTable.below.go xs j f lo hi<=xs.size/\(∀i,i < SetTable.below.go xs j f lo hi->xs.getD i j < j)/\∀i,SetTable.below.go xs j f lo hi<=i->i < xs.size->j<=xs.getD i j
 | 0,lo,hi,h1,h2,h3,h4,h5=>by
  have e:lo=hi:=by lia
  subst e;exact⟨h3,h4,h5⟩
 | f+1,lo,hi,h1,h2,h3,h4,h5=>by
  unfold SetTable.below.go
  by_cases hl:lo < hi
  ·rw[if_pos hl];dsimp only;have hm:(lo+hi) / 2 < xs.size:=by lia
   by_cases hx:xs.getD ((lo+hi) / 2) j < j
   ·rw[if_pos hx];refine JT h f _ _ (by lia) (by lia) h3 (fun i hi'=>?_) h5
    rcases Zu i ((lo+hi) / 2) with z | z
    ·exact ZBM (h.lt z hm j) hx
    ·have:i=(lo+hi) / 2:=by lia
     rw[this];exact hx
   ·rw[if_neg hx];refine JT h f _ _ (by lia) (by lia) (by lia) h4 (fun i hi' hs=>?_)
    rcases Zu ((lo+hi) / 2) i with z | z
    ·have:=h.lt z hs j;lia
    ·have:i=(lo+hi) / 2:=by lia
     rw[this];lia
  ·rw[if_neg hl];have e:lo=hi:=by lia
   subst e;exact⟨h3,h4,h5⟩
theorem IM{xs:Array Nat}(h:Ris xs)(j:Nat):SetTable.below xs j<=xs.size/\(∀i,i < SetTable.below xs j->xs.getD i j < j)/\∀i,SetTable.below xs j<=i->i < xs.size->j<=xs.getD i j :=
 JT h _ _ _ (by lia) (by lia) (ZE _) (fun i z=>by lia) (fun i z y=>by lia)
theorem Ql{xs:Array Nat}(h:Ris xs){k:Nat}(hk:k < xs.size):SetTable.below xs (xs.getD k 0+1)=k+1:=by
 obtain⟨a,b,c⟩:=IM h (xs.getD k 0+1);generalize SetTable.below xs (xs.getD k 0+1)=r at a b c;have e0:∀i z,i < xs.size->xs.getD i z=xs.getD i 0:=fun i z hi=>by simp[Array.getD,hi]
 rcases ZBH r (k+1) with z | z | z
 ·have:=c k (by lia) hk
  rw[e0 k (xs.getD k 0+1) hk]at this;lia
 ·exact z
 ·have h1:=b (k+1) z;have hs:k+1 < xs.size:=by lia
  have h2:=h.lt (ZBJ k) hs 0;rw[e0 (k+1) (xs.getD k 0+1) hs]at h1
  have:xs.getD k 0 < xs.getD (k+1) 0:=h2
  lia
theorem TD{xs:Array Nat}(h:Ris xs):SetTable.below xs 0=0:=by
 obtain⟨a,b,c⟩:=IM h 0
 rcases Nat.eq_zero_or_pos (SetTable.below xs 0) with z | z
 ·exact z
 ·have:=b 0 z;lia
theorem Vy{xs:Array Nat}(h:Ris xs){j:Nat}(hn:xs[SetTable.below xs j]? ≠ some j):Ris (SetTable.insertAt xs (SetTable.below xs j) j):=by
 obtain⟨a,b,c⟩:=IM h j;generalize SetTable.below xs j=r at a b c hn;unfold Ris;rw[SetTable.toList_insertAt,List.pairwise_append,List.pairwise_cons];have g:∀i,i < xs.size->xs.toList[i]? = some (xs.getD i j):=fun i hi=>by simp[Array.getD,hi]
 have lo:∀x∈xs.toList.take r,x < j:=fun x hx=>by
  obtain⟨i,hi,e⟩:=Zp hx;rw[ZW]at hi;rw[List.getElem_take]at e;have hi2:i < xs.size:=by have:=(Nat.lt_min.mp hi).2;simpa using this
  have:=g i hi2
  rw[ZD (by simpa using hi2),e]at this;cases this;exact b i (Nat.lt_min.mp hi).1
 have hi:∀x∈xs.toList.drop r,j < x:=fun x hx=>by
  obtain⟨i,hi,e⟩:=Zp hx;rw[ZBC]at hi;rw[List.getElem_drop]at e
  have hi2:r+i < xs.size:=by have:xs.toList.length=xs.size:=by simp
                             lia
  have e1:=g (r+i) hi2;rw[ZD (by simpa using hi2),e]at e1;have e2:=c (r+i) (Nat.le_add_right _ _) hi2;have e3:x=xs.getD (r+i) j:=ZU e1
  rcases Nat.eq_zero_or_pos i with z | z
  ·subst z
   have:x≠j:=fun q=>hn (by rw[<- ZBt,g r hi2];rw[<- q];exact congrArg some (by rw[e3]at q;rw[e3];exact(by rw[q]:xs.getD (r+0) j=xs.getD (r+0) j) ▸ (by simp[Array.getD,show r < xs.size from hi2])))
   lia
  ·have h1:=h.lt (show r < r+i by lia) hi2 j;have h2:=c r (ZE _) (by lia);lia
 refine⟨List.Pairwise.sublist (List.take_sublist _ _) h,⟨hi,List.Pairwise.sublist (List.drop_sublist _ _) h⟩,fun x hx y hy=>?_⟩
 rcases ZH.mp hy with rfl | hy2
 ·exact lo x hx
 ·exact ZBM (lo x hx) (hi y hy2)
theorem OS(t:SetTable)(p:SetTable.Probe):(t.advance p).dummy=p.dummy:=by
 unfold SetTable.advance;split <;> rfl
noncomputable def FH(t:SetTable)(j:Nat):Prop:=t.place[SetTable.below t.place j]? ≠ some j
theorem ON{t:SetTable}{j:Nat}(h:∀i,t.slot j≠.live i):FH t j:=fun e=>h _ (by unfold SetTable.slot;dsimp only;rw[if_pos (by rw[e];exact beq_self_eq_true _)])
theorem probe_go{t:SetTable}{g:Nat->Int}{h:Int}{j:Nat}{d:Option Nat}:∀(f:Nat) (p:SetTable.Probe),(∀x,p.dummy=some x->FH t x)->SetTable.probe.go t g h f p=some (.empty j d)->FH t j/\∀x,d=some x->FH t x
 | 0,p,hp,e=>by unfold SetTable.probe.go at e;cases e
 | f+1,p,hp,e=>by
  unfold SetTable.probe.go at e;split at e
  ·rename_i hs;cases e;exact⟨ON (fun i z=>by rw[hs]at z;cases z),hp⟩
  ·rename_i hs;refine probe_go f _ (fun x hx=>?_) e;rw[OS]at hx;cases hx;exact ON fun i z=>by rw[hs]at z;cases z
  ·split at e
   ·cases e
   ·exact probe_go f _ (fun x hx=>hp x (by rw[OS]at hx;exact hx)) e
theorem XE{t:SetTable}{h:Int}{j:Nat}{b:Bool}(e:t.freeSlot h=some (j,b)):FH t j:=by
 unfold SetTable.freeSlot at e;split at e
 ·rename_i j' d hm;cases e;obtain⟨a,c⟩:=probe_go _ _ (fun x hx=>by cases hx) (show SetTable.probe.go t _ h _ (t.probeStart h)=_ from hm);cases d with
  | none=>exact a
  | some x=>exact c x rfl
 ·cases e
structure TabG(w:World)(t:SetTable):Prop where
 led:t.led = !w.params.followText "set-order"
 ris:Ris t.place
theorem Vm(n:Nat):Ris (Array.range n):=by
 unfold Ris;rw[Array.toList_range];exact ZBu
theorem RE(w:World):TabG w (.fresh 0 0 (!w.params.followText "set-order")):=⟨rfl,List.Pairwise.nil⟩
theorem GU{w:World}{t:SetTable}(g:TabG w t)(n:Nat):TabG w (t.standIn n):=⟨g.led,Vm n⟩
theorem tg_orStandIn{w:World}{t:SetTable}(g:TabG w t)(n:Nat):TabG w (t.orStandIn n):=by
 unfold SetTable.orStandIn;split
 ·exact g
 ·exact GU g n
theorem Ww{w:World}{t:SetTable}(g:TabG w t)(es:Array (Int × Value))(h:Int)(x:Value):TabG w (layNew t es h x).2.1:=by
 unfold layNew;split
 ·rename_i j b e;exact tg_orStandIn (t:=(t.put j).1) ⟨g.led,Vy g.ris (XE e)⟩ _
 ·exact GU g _
theorem Qc{w:World}{t t':SetTable}(g:TabG w t){hs:Array Int}{n:Nat}{o:Array Nat}(e:t.relaid hs n=some (t',o)):TabG w t':=by
 unfold SetTable.relaid SetTable.laid at e;cases q:SetTable.layClean (SetTable.sizeAbove n - 1) hs with
 | none=>rw[q]at e;cases e
 | some ow =>
  rw[q]at e;cases e;refine⟨g.led,?_⟩;unfold Ris;dsimp only;rw[ZBf,List.pairwise_filterMap];refine List.Pairwise.imp (fun {a b} hab x hx y hy=>?_) ZBu;cases h1:ow.getD a none with
  | none=>rw[h1]at hx;cases hx
  | some u =>
   cases h2:ow.getD b none with
   | none=>rw[h2]at hy;cases hy
   | some v =>
    rw[h1]at hx;rw[h2]at hy;cases hx;cases hy;exact hab
theorem U3{w:World}{t:SetTable}(g:TabG w t)(es:Array (Int × Value))(n:Nat):TabG w (relayAll t es n).2.1:=by
 unfold relayAll;split
 ·rename_i t' o e;dsimp only;split
  ·exact Qc g e
  ·exact GU g _
 ·exact GU g _
theorem Xb{w:World}{t:SetTable}(g:TabG w t)(b:Bool):TabG w { t with plain:=b }:=⟨g.led,g.ris⟩
noncomputable def SetW(P:Program)(w:World)(h:Heap)(a:Addr)(S:Int->Bool)(n:Nat):Prop :=
 ∃o es ep t,h.get? a=some o/\o.ExactSet/\o.data=.set es ep t/\ElemsOf (intKind P w) es.toList/\(∀k,S k=true ↔ ∃e∈es.toList,(intKind P w).is k e.2=true)/\es.size < scanBound/\t.fits es.size=true/\es.size=n/\TabG w t
section
variable {P:Program}{w:World}{A:Around}{E:Value->Shared->Prop}{s:Shared}{a:Addr}
theorem SetW.at{h h':Heap}{S:Int->Bool}{n:Nat}(x:SetW P w h a S n)(k:∀o,h.get? a=some o->h'.get? a=some o):SetW P w h' a S n:=by
 obtain⟨o,es,ep,t,h1,r⟩:=x;exact⟨o,es,ep,t,k _ h1,r⟩
theorem SetW.of{h:Heap}{S:Int->Bool}{n:Nat}(x:SetW P w h a S n):h.SetOf (intKind P w) a S n:=by
 obtain⟨o,es,ep,t,h1,h2,h3,h4,h5,h6,h7,h8,_⟩:=x;exact⟨o,es,ep,t,h1,h2,h3,h4,h5,h6,h7,h8⟩
theorem Mx {h:Heap} {o:Obj} {es es':Array (Int × Value)} {ep:Nat} {t t':SetTable} {S:Int->Bool} (h1:h.get? a=some o) (h2:o.ExactSet) (h3:o.data=.set es ep t) (h4:ElemsOf (intKind P w) es'.toList)
 (h5:∀k,S k=true ↔ ∃e∈es'.toList,(intKind P w).is k e.2=true) (h6:es'.size < scanBound) (h7:t'.fits es'.size=true) (g:TabG w t') :
 (h.update a (Obj.putSet es' t')).get? a=some { o with data:=.set es' (ep+1) t' } /\ SetW P w (h.update a (Obj.putSet es' t')) a S es'.size :=
 have q:=SetOf_store (knd:=intKind P w) h1 h2 h3 h4 h5 h6 h7
 ⟨q.1,_,es',ep+1,t',q.1,h2,rfl,h4,h5,h6,h7,rfl,g⟩
theorem Uc{b:Bool}{Q:Unit->Shared->Prop}{s₁:Shared}(q:Q () s₁):wpAny (model P w) A (match b with | true=>rule "set.scan.the-table-gave-way" | false=>pure ()) Q E s₁:=by
 cases b with
 | true=>exact wpAny_rule q
 | false=>exact ZC q
theorem Kp {g:Bool->Sem Unit} (hg:∀(b:Bool) (s₁:Shared) (Q:Unit->Shared->Prop),Q () s₁->wpAny (model P w) A (g b) Q E s₁) {o:Obj} {es es1:Array (Int × Value)} {ep:Nat} {t t2:SetTable} {S:Int->Bool} {wd:Bool} {R:Option Bool->Shared->Prop}
 (h1:s.heap.get? a=some o) (h2:o.ExactSet) (h3:o.data=.set es ep t) (h4:ElemsOf (intKind P w) es1.toList) (h5:∀k,S k=true ↔ ∃e∈es1.toList,(intKind P w).is k e.2=true) (h6:es1.size < scanBound) (h7:t2.fits es1.size=true) (gd:TabG w t2)
 (fin:∀h',Heap.SameBut a s.heap h'->SetW P w h' a S es1.size->R (some true) { s with heap:=h' }) :
 wpAny (model P w) A (do
  storeSet a es1 t2
  if (!wd && t2.tooFull)=true then do
   g (relayAll t2 es1 (SetTable.grown es1.size)).2.2;storeSet a (relayAll t2 es1 (SetTable.grown es1.size)).1 (relayAll t2 es1 (SetTable.grown es1.size)).2.1
   pure (some true)
   else
    pure (some true)) R E s:=by
 obtain⟨k1,k2⟩:=Mx h1 h2 h3 h4 h5 h6 h7 gd;refine ZA (wpAny_storeSet_of h1 h3 ?_ (fits_of_scanBound h6));have sb:=Z7 s.heap a (Obj.putSet es1 t2);split
 ·have pm:=relayAll_perm t2 es1 (SetTable.grown es1.size);have ft:=relayAll_fits t2 es1 (SetTable.grown es1.size);have tg:=U3 gd es1 (SetTable.grown es1.size);generalize relayAll t2 es1 (SetTable.grown es1.size)=V at pm ft tg ⊢;obtain⟨e2,t3,gv⟩:=V;dsimp only at pm ft tg ⊢;have z:e2.size=es1.size:=by rw[<- Zj,pm.length_eq,Zj]
  obtain⟨_,k4⟩:=Mx (S:=S) k1 h2 rfl (h4.perm pm) (fun k=>(h5 k).trans ⟨fun⟨e,x,y⟩=>⟨e,pm.mem_iff.mpr x,y⟩,fun⟨e,x,y⟩=>⟨e,pm.mem_iff.mp x,y⟩⟩) (by rw[z];exact h6) ft tg;rw[z]at k4;exact ZA (hg _ _ _ (ZA (wpAny_storeSet_of k1 rfl (ZC (fin _ (sb.trans (Z7 _ a _)) k4)) (fits_of_scanBound (by rw[z];exact h6)))))
 ·exact ZC (fin _ sb k2)
theorem SL {S:Int->Bool} {n:Nat} {k:Int} {x:Value} {Q:Bool->Shared->Prop} (hk:(intKind P w).is k x=true) (hx:x.scannable=true) (hS:SetW P w s.heap a S n) (hn:n+1 < scanBound)
 (fin:∀h',Heap.SameBut a s.heap h'->SetW P w h' a (fun k'=>S k' || decide (k'=k)) (if S k then n else n+1)->Q (!S k) { s with heap:=h' }) :
 wpAny (model P w) A (setAddHashed a x ((intKind P w).hash k)) Q E s:=by
 obtain⟨o,es,ep,t,h1,h2,h3,h4,h5,h6,h7,h8,gd⟩:=hS;unfold setAddHashed setAddHashedIn;refine Zk (ZA (wpAny_setState_of h1 h3 h7 ?_));dsimp only;rw[byScan_of hx h6 h4];simp only[↓reduceIte];unfold setAddByScan;refine ZA (ZA (wpAny_rule (ZA (wpAny_setScan_of hk h1 h3 h7 h4 ?_))));cases hr:List.findIdx? (fun e=>(intKind P w).is k e.2) es.toList with
 | some j =>
  dsimp only;obtain⟨hj,hp,_⟩:=List.findIdx?_eq_some_iff_getElem.mp hr;have sk:S k=true:=(h5 k).mpr ⟨es.toList[j],Zc hj,hp⟩
  have q:=fin s.heap (Heap.SameBut.refl a s.heap) ⟨o,es,ep,t,h1,h2,h3,h4,(fun k'=>by
   rw[Bool.or_eq_true,decide_eq_true_eq,<- h5 k'];exact⟨fun z=>z.elim id (fun e=>e ▸ sk),.inl⟩),h6,h7,(by rw[sk];exact h8),gd⟩
  rw[sk]at q;exact ZC (ZC q)
 | none =>
  dsimp only
  have sk:S k=false:=by
   cases z:S k with
   | false=>rfl
   | true =>
    obtain⟨e,he,hp⟩:=(h5 k).mp z
    have:=List.findIdx?_eq_none_iff.mp hr e he;rw[hp]at this;cases this
  have pm:=layNew_perm t es ((intKind P w).hash k) x;have ft:=layNew_fits t es ((intKind P w).hash k) x;have tg:=Ww gd es ((intKind P w).hash k) x;generalize layNew t es ((intKind P w).hash k) x=V at pm ft tg ⊢;obtain⟨e1,t1,wd,gv⟩:=V;dsimp only at pm ft tg ⊢;rw[Array.toList_push]at pm;have z1:e1.size=n+1:=by rw[<- Zj,pm.length_eq,ZM,Zj,h8];rfl
  have c1:ElemsOf (intKind P w) e1.toList:=(h4.push hk hx).perm pm;have c2:∀k',(S k' || decide (k'=k))=true ↔ ∃e∈e1.toList,(intKind P w).is k' e.2=true:=mem_push_iff hk h5 pm
  have en:∀h',Heap.SameBut a s.heap h'->SetW P w h' a (fun k'=>S k' || decide (k'=k)) e1.size->Q true { s with heap:=h' }:=fun h' sb q=>by
   have r:=fin h' sb;rw[sk]at r;rw[z1]at q;exact r q
  have gw:∀(b:Bool) (s₁:Shared) (Q':Unit->Shared->Prop),Q' () s₁->wpAny (model P w) A (match b with | true=>rule "set.scan.the-table-gave-way" | false=>pure ()) Q' E s₁:=fun b s₁ Q' q=>Uc q
  refine ZA (gw _ _ _ ?_);split
  ·refine ZA ?_;rw[hashByValue_scannable 8 hx];refine ZC (Kp gw h1 h2 h3 c1 c2 (by rw[z1];exact hn) ?_ ?_ fun h' sb q=>ZC (en h' sb q))
   ·split
    ·exact ft
    ·exact SetTable.fits_plain_off ft
   ·split
    ·exact tg
    ·exact Xb tg _
  ·refine ZA (ZC ?_);simp only[↓reduceIte];exact Kp gw h1 h2 h3 c1 c2 (by rw[z1];exact hn) ft tg fun h' sb q=>ZC (en h' sb q)
end
section
variable {P:Program}{w:World}{A:Around}{E:Value->Shared->Prop}{s:Shared}{a:Addr}
theorem SetW.congr{h:Heap}{S S':Int->Bool}{n n':Nat}(x:SetW P w h a S n)(e:∀k,S k=S' k)(en:n=n'):SetW P w h a S' n':=by
 obtain rfl:S=S':=funext e;subst en;exact x
noncomputable def FE(P:Program)(w:World)(h:Heap)(a:Addr)(f:Nat->Int)(i:Nat):Prop:=SetW P w h a (fun k=>(firstMet f i).any (· == k)) (firstMet f i).length
theorem M4 {R:Result->Shared->Prop} {I:Addr} {fp wr:List Addr} {G:Array GenState->Array GenState->Prop} {n:Nat} {Pv:Nat->Value->Prop} {St:Nat->Shared->Prop} (W:WalksS P w A.in1 I fp wr G n Pv St) (ha:a∉fp)
 (f:Nat->Int) (hf:∀i v,Pv i v->∃t,v=.int (f i) t) (hb:n+1 < scanBound):∀(k i:Nat) (s:Shared),n - i=k->i<=n->St i s->FE P w s.heap a f i ->
  (∀s',Moved (a::wr) G s s'->FE P w s'.heap a f n->R (.ok (.ret .none)) s')->codeAny (model P w) A (.builtin "set.update.loop" ⟨[.ref a,.ref I],[]⟩) R s
 | 0,i,s,hk,hi,st,hS,hR=>by
  obtain rfl:i=n:=by lia
  refine ZBD PyProof.Rows.F.entry_set_update_loop ?_;rw[ZBI PyProof.Rows.F.plain_set_update_loop _];show wpAny _ A.in1 (pyNext (.ref I) >>= _) _ _ s;refine ZA (W.done s _ _ st fun s' hm=>ZC (hR s' (hm.mono fun b hb=>Ze _ hb) (hS.at fun o e=>hm.heap a o (fun z=>ha (W.sub _ z)) e)))
 | k+1,i,s,hk,hi,st,hS,hR=>by
  have Yr:i < n:=by lia
  refine ZBD PyProof.Rows.F.entry_set_update_loop ?_;rw[ZBI PyProof.Rows.F.plain_set_update_loop _];show wpAny _ A.in1 (pyNext (.ref I) >>= _) _ _ s;refine ZA (W.item i s _ _ Yr st fun v s' hP st' hm=>?_);obtain⟨t,rfl⟩:=hf i v hP;have hS':FE P w s'.heap a f i:=hS.at fun o e=>hm.heap a o (fun z=>ha (W.sub _ z)) e
  show wpAny _ A.in1 (holding [Value.int (f i) t] (setAdd a (.int (f i) t)) >>= _) _ _ s';refine ZA (Zk ?_);unfold setAdd;refine Zk (ZA ((intKind P w).pyHash (k:=f i) (intKind_is _ _ _ _) ?_));refine SL (s:={ s' with toks:=s'.toks+1 }) (intKind_is _ _ _ _) rfl hS' (by have:=firstMet_length_le f i;lia) fun h' sb q=>?_
  refine ZC ⟨ZBA PyProof.Rows.F.plain_set_update_loop _,M4 W ha f hf hb k (i+1) _ (by lia) Yr (W.frame _ s' _ _ st' (ZBb _) fun b hb' o e=>?_)
   (q.congr (fun k'=>by rw[firstMet_succ,step_any]) (by rw[firstMet_succ,step_length])) fun s'' hm2 hS2=>?_⟩
  ·rw[sb.2 b (fun z:b=a=>ha (by rw[<- z];exact hb'))];exact e
  ·refine hR s'' (Moved.trans W.gtrans ((hm.mono fun b hb=>Ze _ hb).then_heap (ZBb _) fun b o hb' e=>?_) hm2) hS2;rw[sb.2 b (fun z:b=a=>hb' (by rw[z];exact Zo))];exact e
theorem Se:isSubtype (.type "tuple") (.type "set")=pure false:=by rw[isSubtype_type];kernel_rfl
theorem Pd:isSubtype (.type "tuple") (.type "frozenset")=pure false:=by rw[isSubtype_type];kernel_rfl
theorem QN(v:Value){Q:Value->Shared->Prop}(h:Q (.ref s.heap.objs.size) { s with heap:=s.heap.push { cls:=.type "set",dict:=none,data:=.set #[] 0 (.fresh 0 0 (!w.params.followText "set-order")) } }) :
 codeAny (model P w) A (.call (.builtin "set.__new__") ⟨[.type "set",v],[]⟩) (wants Q E) s:=by
 refine codeAny_of_tree ?_;show wpAny _ A.in1 (do checkBuiltinCall "set.__new__" ⟨[.type "set",v],[]⟩;again (.builtin "set.__new__" ⟨[.type "set",v],[]⟩)) _ _ s;refine ZA (wpAny_of_eq (PySem.F.newCall_set_1 v) (ZC ⟨ZBA PySem.F.plain_set_new _,ZBD PySem.F.entry_set_new ?_⟩));rw[ZBI PySem.F.plain_set_new _];unfold Builtin.«set.__new__» Builtin.Frozenset.newClass;have hsub:=PySem.sub_set_self;obtain⟨hp,g,d,tk,os⟩:=s;dsimp only;wp_walk;refine wpAny_askSetting (ZC ?_);dsimp only;simp only[newObj];exact ZA (wpAny_alloc (ZC (ZC h)))
set_option maxHeartbeats 6400000 in
theorem Vk {l:Addr} {Ye:Array Value} {ns:List Int} {Q:Value->Shared->Prop} (hh:A.handled=none) (hl:s.heap.IsTuple l Ye) (hi:IntsAre Ye.toList ns) (hb:Ye.size+1 < scanBound)
 (fin:∀(h':Heap) (tk:Nat),FE P w h' s.heap.objs.size (fun i=>ns.getD i 0) Ye.size->(∀b o,b < s.heap.objs.size->s.heap.get? b=some o->h'.get? b=some o)->Q (.ref s.heap.objs.size) { s with heap:=h',toks:=tk }) :
 wpAny (model P w) A (call (.type "set") [.ref l]) Q E s:=by
 obtain⟨c,tl,hmro⟩:=PySem.F.called_set.mro;have hmade:=PySem.F.called_set.made;have hsub:=PySem.F.called_set.sub;refine wpAny_call (codeAny_of_tree ?_);show wpAny _ _ (callAny (.type "set") _) _ _ _;refine ZC ⟨Code.quiet_builtin _ (by decide +kernel),ZBD PySem.F.entry_type_call ?_⟩;rw[Around.under_plain (weight_type_call_type "set" [.ref l] []) rfl];have k1:=PySem.F.called_set.notType;have k2:=PySem.F.called_set.canCreate;have k3:=PySem.F.typeCall_set_1 (.ref l)
 (repeat (any_goals (first | assumption | wp_step)));refine ZBK (QN (.ref l) (E:=E) (Q:=fun v s₁=>v=.ref s.heap.objs.size/\s₁ = { s with heap:=s.heap.push { cls:=.type "set",dict:=none,data:=.set #[] 0 (.fresh 0 0 (!w.params.followText "set-order")) } }) ⟨rfl,rfl⟩) fun r s₁ hr=>?_
 cases r with
 | error e=>exact hr
 | ok fl =>
  cases fl with
  | ret ob =>
   obtain⟨rfl,rfl⟩:=hr;generalize hled:(!w.params.followText "set-order")=led;have hS:(s.heap.push { cls:=.type "set",dict:=none,data:=.set #[] 0 (.fresh 0 0 led) }).get? s.heap.objs.size=some { cls:=.type "set",dict:=none,data:=.set #[] 0 (.fresh 0 0 led) }:=ZS _ rfl;have hT:Shared.TypeIs { s with heap:=s.heap.push { cls:=.type "set",dict:=none,data:=.set #[] 0 (.fresh 0 0 led) } } (.ref s.heap.objs.size) "set":=⟨_,hS,rfl⟩;have k4:=PySem.F.called_set.init.lookup;have k5:=PySem.F.called_set.init.bind (.ref s.heap.objs.size)
   (repeat (any_goals (first | assumption | wp_step)));refine ZBK (codeAny_call_builtin (R:=wants (fun r s₂=>r=.none/\∃h' tk,s₂ = { s with heap:=h',toks:=tk } /\ FE P w h' s.heap.objs.size (fun i=>ns.getD i 0) Ye.size /\
    (∀b o,b < s.heap.objs.size->s.heap.get? b=some o->h'.get? b=some o)) E) PySem.F.called_set.init.plain PySem.F.entry_set_init (check_set_init_1 hT ?_)) fun r₂ s₂ hr₂=>?_
   ·obtain⟨ol,hol,hcl,nl,hdl⟩:=hl;obtain⟨ocls,odict,odata,oslots⟩:=ol;simp only at hcl hdl;subst hcl;subst hdl;have hol':(s.heap.push { cls:=.type "set",dict:=none,data:=.set #[] 0 (.fresh 0 0 led) }).get? l=some { cls:=.type "tuple",dict:=odict,data:=.seq Ye nl,slots:=oslots }:=ZI _ hol;have s1:=Se;have s2:=Pd;have s3:(Value.type "tuple" == Value.type "dict")=false:=by decide
    have hl1:(s.heap.push { cls:=.type "set",dict:=none,data:=.set #[] 0 (.fresh 0 0 led) }).IsTuple l Ye:=⟨_,hol',rfl,nl,rfl⟩;unfold Builtin.«set.__init__» noKeywords Builtin.Frozenset.updateFrom;generalize hPI:pyIter=PI
    wp_walk
    subst hPI;refine wpAny_pyIter_tuple hl1 (ZA (wpAny_runValue ?_))
    have hlS:l < s.heap.objs.size:=ZG hol;have z1:l≠(s.heap.push { cls:=.type "set",dict:=none,data:=.set #[] 0 (.fresh 0 0 led) }).objs.size:=by
     rw[Z4];exact(ZT (ZBv hlS))
    have z2:s.heap.objs.size∉[(s.heap.push { cls:=.type "set",dict:=none,data:=.set #[] 0 (.fresh 0 0 led) }).objs.size,l]:=by
     rw[Z4];simp only[ZH,ZO,ZBw,or_false,not_or];exact⟨ZT (ZBJ _),ZBQ hlS⟩
    refine M4 ((Walks.tuple (A:=A.in1.in1.in1) (by simp[hh]) _ l z1 Ye).toS) z2 (fun i=>ns.getD i 0) (fun i v hv=>PyProof.Rows.IntsAre.int_at hi i v (by rw[ZBt];exact hv)) hb (Ye.size - 0) 0 _ (by lia) (ZV _)
     ⟨⟨_,ZS _ rfl,rfl,rfl⟩,(hl1.push _)⟩ ?b0 ?bR
    case b0 =>
     refine⟨_,#[],0,_,ZI _ hS,⟨rfl,rfl,rfl⟩,rfl,fun e he=>by simp at he,fun k=>by simp[firstMet],by decide,by rfl,rfl,?_⟩;rw[<- hled];exact RE w
    case bR =>
     intro s' hm hS';obtain⟨h',g',d',tk',os'⟩:=s';obtain rfl:g'=s.gens:=hm.gens;obtain rfl:d'=s.drawn:=hm.drawn;obtain rfl:os'=s.os:=hm.os;refine ZC ?_;show wpAny _ _ (ret Value.none) _ _ _;refine ZC ⟨rfl,h',tk',rfl,hS',fun b o hb e=>hm.heap b o ?_ (ZI _ (ZI _ e))⟩;rw[Z4];simp only[ZH,ZO,ZBw,or_false,not_or];exact⟨ZT hb,ZT (ZBv hb)⟩
   ·cases r₂ with
    | error e=>exact hr₂
    | ok fl₂ =>
     cases fl₂ with
     | ret r =>
      obtain⟨rfl,h',tk,rfl,hS',hk'⟩:=hr₂;repeat (any_goals (first | assumption | wp_step))
      exact fin _ _ hS' hk'
     | _=>exact hr₂.elim
  | _=>exact hr.elim
end
namespace F
theorem slot_set_iterator_next:Slot "set_iterator" "__next__" "set_iterator.__next__" :=
 .of (owner:="set_iterator") (n:="__next__") (by rw[typeLookup_type,builtinLookup_eq_fast];kernel_rfl) (by decide +kernel) (by decide +kernel) (by decide +kernel) (by first | exact .inl (by decide +kernel) | exact .inr (by decide +kernel)) (by rw[isSubtype_type];kernel_rfl)
theorem slot_set_iterator_iter:Slot "set_iterator" "__iter__" "set_iterator.__iter__" :=
 .of (owner:="set_iterator") (n:="__iter__") (by rw[typeLookup_type,builtinLookup_eq_fast];kernel_rfl) (by decide +kernel) (by decide +kernel) (by decide +kernel) (by first | exact .inl (by decide +kernel) | exact .inr (by decide +kernel)) (by rw[isSubtype_type];kernel_rfl)
theorem entry_set_iterator_next:entryFor table "set_iterator.__next__" = some Builtin.«set_iterator.__next__»:=entryFor_of_tree (by kernel_rfl)
theorem entry_set_iterator_iter:entryFor table "set_iterator.__iter__" = some Builtin.«dict_keyiterator.__iter__»:=entryFor_alias (id':="dict_keyiterator.__iter__") (by kernel_rfl) (by first | rfl | decide +kernel | (unfold String.splitOn;simp +decide [String.splitOnAux])) (by decide +kernel) (by kernel_rfl)
theorem entry_set_iter:entryFor table "set.__iter__" = some Builtin.«frozenset.__iter__»:=entryFor_alias (id':="frozenset.__iter__") (by kernel_rfl) rfl (by decide +kernel) (by kernel_rfl)
theorem args_set_iterator_next(a:Value):argsOk "set_iterator.__next__" ⟨[a],[]⟩:=by unfold argsOk;kernel_rfl
theorem args_set_iterator_iter(a:Value):argsOk "set_iterator.__iter__" ⟨[a],[]⟩:=by unfold argsOk;kernel_rfl
end F
theorem VC{M:Model}{A:Around}{E:Value->Shared->Prop}{s:Shared}{src:Source}{n:Nat}{Q:Nat->Shared->Prop}(hn:n≠0)(h:∀i d,i < n->Q i { s with drawn:=d }):wpAny M A (choose src n) Q E s :=
 fun _ _ _=>⟨hn,h _ _ (Nat.mod_lt _ (Nat.pos_of_ne_zero hn))⟩
theorem Lo{α:Type}{l:List α}{i:Nat}(h:i < l.length):(l[i]::l.eraseIdx i).Perm l:=by
 rw[List.eraseIdx_eq_take_drop_succ];have e:l=l.take i++l[i]::l.drop (i+1):=by rw[<- List.drop_eq_getElem_cons h,List.take_append_drop]
 exact List.perm_middle.symm.trans (e ▸ .rfl)
theorem Nc{M:Model}{A:Around}{E:Value->Shared->Prop}{α:Type}:∀(n:Nat) (xs:List α) (s:Shared) (Q:List α->Shared->Prop),xs.length=n->(∀ys d,ys.Perm xs->Q ys { s with drawn:=d })->wpAny M A (drawOrder n xs) Q E s
 | 0,xs,s,Q,hl,h=>by
  obtain rfl:xs=[]:=ZB5.mp hl;unfold drawOrder;exact ZC (h [] s.drawn .nil)
 | n+1,[],s,Q,hl,h=>by cases hl
 | n+1,x0::r,s,Q,hl,h=>by
  unfold drawOrder;refine ZA (VC (by simp) fun i d hi=>?_);obtain⟨x,hx⟩:∃x,(x0::r)[i]? = some x:=⟨_,ZD hi⟩;rw[hx];dsimp only;refine ZA (Nc n _ _ _ (by rw[List.length_eraseIdx];simp only[hi,if_true];lia) fun ys d2 hp=>ZC ?_);refine h _ d2 ?_;have e:(x0::r)[i]=x:=by rw[ZD hi]at hx;exact ZU hx
  exact(List.Perm.cons x hp).trans (e ▸ Lo hi)
theorem OY{α:Type}(nx:Nat->Nat):∀(f k:Nat) (l:List α) (out:Array α),l.length=f->(pickOrder.go nx f k l out).toList.Perm (out.toList++l)
 | 0,k,l,out,hl=>by
  obtain rfl:l=[]:=ZB5.mp hl;unfold pickOrder.go;rw[Zw]
 | f+1,k,l,out,hl=>by
  unfold pickOrder.go;have hi:nx k % l.length < l.length:=Nat.mod_lt _ (by lia);rw[ZD hi];dsimp only;refine(OY nx f (k+1) _ _ (by rw[List.length_eraseIdx];simp only[hi,if_true];lia)).trans ?_;rw[Array.toList_push,ZBo];exact List.Perm.append_left _ (Lo hi)
theorem HG{α:Type}(nx:Nat->Nat)(xs:Array α):(pickOrder nx xs).toList.Perm xs.toList:=by
 have:=OY nx xs.size 0 xs.toList #[] (by simp)
 rw[ZBp]at this;exact this
noncomputable def IsSetIter(h:Heap)(I:Addr)(f:Value)(i:Nat)(a:Addr)(n ep:Nat):Prop:=∃o,h.get? I=some o/\o.cls=.type "set_iterator" /\ o.data=.fields #[f,.int i 0,.ref a,.int n 0,.int ep 0]
theorem IsSetIter.typeIs{s:Shared}{I a:Addr}{f:Value}{i n ep:Nat}(x:IsSetIter s.heap I f i a n ep):s.TypeIs (.ref I) "set_iterator":=let ⟨o,ho,hc,_⟩:=x;⟨o,ho,hc⟩
theorem IsSetIter.at{h h':Heap}{I a:Addr}{f:Value}{i n ep:Nat}(x:IsSetIter h I f i a n ep)(e:∀o,h.get? I=some o->h'.get? I=some o):IsSetIter h' I f i a n ep:=let ⟨o,ho,r⟩:=x;⟨o,e _ ho,r⟩
section
variable {P:Program}{w:World}{A:Around}{E:Value->Shared->Prop}{s:Shared}{a I:Addr}
theorem Gf{h:Heap}{o:Obj}{vs:Array Value}(ho:h.get? I=some o)(hd:o.data=.fields vs)(k:Nat)(x:Value):∃o',(h.update I (Obj.mapFields (·.setIfInBounds k x))).get? I=some o'/\o'.cls=o.cls/\o'.data=.fields (vs.setIfInBounds k x) :=
 ⟨_,ZBd _ ho (Obj.isFreed_of_fields (Obj.data_mapFields hd _)),Obj.cls_mapFields ..,Obj.data_mapFields hd _⟩
theorem Me {o:Obj} {es:Array (Int × Value)} {ep i slot nx:Nat} {t:SetTable} {x:Value} {Q:Option Value->Shared->Prop} (hit:IsSetIter s.heap I (.int slot 0) i a es.size ep) (h1:s.heap.get? a=some o) (h3:o.data=.set es ep t) (h7:t.fits es.size=true)
 (hn:∀(A:Around) (E:Value->Shared->Prop) (Q:Option (Value × Nat)->Shared->Prop),Q (some (x,nx)) s->wpAny (model P w) A (setNext a slot i ep) Q E s)
 (hQ:∀h',IsSetIter h' I (.int nx 0) (i+1) a es.size ep->Heap.SameBut I s.heap h'->Q (some x) { s with heap:=h' }):wpAny (model P w) A (pyNext (.ref I)) Q E s:=by
 obtain⟨oi,ho,hc,hd⟩:=id hit;unfold pyNext;refine ZA (wpAny_attempt (wpAny_callSpecial?_slot (name:=Str.ofString "__next__") hit.typeIs F.slot_set_iterator_next (Zz F.slot_set_iterator_next hit.typeIs F.entry_set_iterator_next ?_ (F.args_set_iterator_next _))));show wpAny _ _ (fieldsOf (.ref I) >>= _) _ _ s;refine ZA (wpAny_fieldsOf ho hd ?_);dsimp only;refine ZA (wpAny_setEntries_of h1 h3 h7 ?_);refine Z0 (fun hab=>absurd hab (by simp)) (fun _=>?_);refine ZA (hn _ _ _ ?_);dsimp only;obtain⟨o1,ho1,hc1,hd1⟩:=Gf ho hd 0 (rawInt nx);refine ZA (ZBU ho hd (by simp) (ZA (ZBU ho1 hd1 (by simp) (ZC ⟨x,rfl,ZC (hQ _ ?_ ((Z7 ..).trans (Z7 ..)))⟩))));obtain⟨o2,ho2,hc2,hd2⟩:=Gf ho1 hd1 1 (rawInt (i+1));exact⟨o2,ho2,hc2.trans (hc1.trans hc),by rw[hd2];simp[rawInt]⟩
theorem NX {o:Obj} {es:Array (Int × Value)} {ep i slot:Nat} {t:SetTable} {Q:Option Value->Shared->Prop} (hh:A.handled=none) (hit:IsSetIter s.heap I (.int slot 0) i a es.size ep) (h1:s.heap.get? a=some o) (h3:o.data=.set es ep t) (h7:t.fits es.size=true)
 (hn:∀(A:Around) (E:Value->Shared->Prop) (Q:Option (Value × Nat)->Shared->Prop),Q none s->wpAny (model P w) A (setNext a slot i ep) Q E s)
 (hQ:∀h',Heap.ExtBut I s.heap h'->Q none { s with heap:=h' }):wpAny (model P w) A (pyNext (.ref I)) Q E s:=by
 obtain⟨oi,ho,hc,hd⟩:=id hit;unfold pyNext;refine ZA (wpAny_attempt (wpAny_callSpecial?_slot (name:=Str.ofString "__next__") hit.typeIs F.slot_set_iterator_next (Zz F.slot_set_iterator_next hit.typeIs F.entry_set_iterator_next ?_ (F.args_set_iterator_next _))));show wpAny _ _ (fieldsOf (.ref I) >>= _) _ _ s;refine ZA (wpAny_fieldsOf ho hd ?_);dsimp only;refine ZA (wpAny_setEntries_of h1 h3 h7 ?_);refine Z0 (fun hab=>absurd hab (by simp)) (fun _=>?_);refine ZA (hn _ _ _ ?_);dsimp only;refine ZA (ZBU ho hd (by simp) ?_);show wpAny _ _ (newExc (.type "StopIteration") [] >>= _) _ _ _;refine ZA ?_;simp only[newExc,newTuple];refine ZA (Zx (ZA (m:=firstArgMember _ _) (wpAny_of_eq (a:=Value.none) (by first | rfl | (simp only[firstArgMember];rfl)) (Zx ?_ (by size_fits)))) (by size_fits));simp only[raiseNew];refine ZA (wpAny_handled ?_);first | rw[show A.in1.handled=none from hh] | rw[hh]
 refine ZA (ZC (wpAny_throw ?st));refine ZA (wpAny_isInstance (T:="StopIteration") (b:=true) ⟨_,ZS _ rfl,rfl⟩ isSubtype_stop ?_);exact ZC (hQ _ ((((Z7 ..)).extBut.push _).push _))
theorem U0 {o ot:Obj} {es:Array (Int × Value)} {ep i tp nt:Nat} {t:SetTable} {ps:Array Value} {p:Nat} {x:Int × Value} {Q:Option Value->Shared->Prop} (hit:IsSetIter s.heap I (.ref tp) i a es.size ep) (h1:s.heap.get? a=some o) (h3:o.data=.set es ep t) (h7:t.fits es.size=true)
 (ht:s.heap.get? tp=some ot) (hdt:ot.data=.seq ps nt) (hp:ps[i]? = some (.int p 0)) (hx:es[p]? = some x)
 (hQ:∀h',IsSetIter h' I (.ref tp) (i+1) a es.size ep->Heap.SameBut I s.heap h'->Q (some x.2) { s with heap:=h' }):wpAny (model P w) A (pyNext (.ref I)) Q E s:=by
 obtain⟨oi,ho,hc,hd⟩:=id hit;unfold pyNext;refine ZA (wpAny_attempt (wpAny_callSpecial?_slot (name:=Str.ofString "__next__") hit.typeIs F.slot_set_iterator_next (Zz F.slot_set_iterator_next hit.typeIs F.entry_set_iterator_next ?_ (F.args_set_iterator_next _))));show wpAny _ _ (fieldsOf (.ref I) >>= _) _ _ s;refine ZA (wpAny_fieldsOf ho hd ?_);dsimp only;refine ZA (wpAny_setEntries_of h1 h3 h7 ?_);refine Z0 (fun hab=>absurd hab (by simp)) (fun _=>?_);refine ZA (wpAny_seqItems ht hdt ?_);simp only[ZZ,hp];unfold setNextDrawn;refine ZA (ZA (wpAny_setState_of h1 h3 h7 ?_));dsimp only;refine Z0 (fun hab=>absurd hab (by simp)) (fun _=>?_);rw[hx];refine ZC (ZA (ZBU ho hd (by simp) (ZC ⟨x.2,rfl,ZC (hQ _ ?_ (Z7 ..))⟩)));obtain⟨o2,ho2,hc2,hd2⟩:=Gf ho hd 1 (rawInt (i+1));exact⟨o2,ho2,hc2.trans hc,by rw[hd2];simp[rawInt]⟩
theorem UM {o ot:Obj} {es:Array (Int × Value)} {ep i tp nt:Nat} {t:SetTable} {ps:Array Value} {Q:Option Value->Shared->Prop} (hh:A.handled=none) (hit:IsSetIter s.heap I (.ref tp) i a es.size ep) (h1:s.heap.get? a=some o) (h3:o.data=.set es ep t) (h7:t.fits es.size=true)
 (ht:s.heap.get? tp=some ot) (hdt:ot.data=.seq ps nt) (hp:ps[i]? = none)
 (hQ:∀h',Heap.ExtBut I s.heap h'->Q none { s with heap:=h' }):wpAny (model P w) A (pyNext (.ref I)) Q E s:=by
 obtain⟨oi,ho,hc,hd⟩:=id hit;unfold pyNext;refine ZA (wpAny_attempt (wpAny_callSpecial?_slot (name:=Str.ofString "__next__") hit.typeIs F.slot_set_iterator_next (Zz F.slot_set_iterator_next hit.typeIs F.entry_set_iterator_next ?_ (F.args_set_iterator_next _))));show wpAny _ _ (fieldsOf (.ref I) >>= _) _ _ s;refine ZA (wpAny_fieldsOf ho hd ?_);dsimp only;refine ZA (wpAny_setEntries_of h1 h3 h7 ?_);refine Z0 (fun hab=>absurd hab (by simp)) (fun _=>?_);refine ZA (wpAny_seqItems ht hdt ?_);simp only[ZZ,hp];obtain⟨o1,ho1,hc1,hd1⟩:=Gf ho hd 0 (rawInt 0);refine ZA (ZBU ho hd (by simp) (ZA (ZBU ho1 hd1 (by simp) ?_)));show wpAny _ _ (newExc (.type "StopIteration") [] >>= _) _ _ _;refine ZA ?_;simp only[newExc,newTuple];refine ZA (Zx (ZA (m:=firstArgMember _ _) (wpAny_of_eq (a:=Value.none) (by first | rfl | (simp only[firstArgMember];rfl)) (Zx ?_ (by size_fits)))) (by size_fits));simp only[raiseNew];refine ZA (wpAny_handled ?_);first | rw[show A.in1.handled=none from hh] | rw[hh]
 refine ZA (ZC (wpAny_throw ?st));refine ZA (wpAny_isInstance (T:="StopIteration") (b:=true) ⟨_,ZS _ rfl,rfl⟩ isSubtype_stop ?_);exact ZC (hQ _ ((((Z7 ..).trans (Z7 ..)).extBut.push _).push _))
theorem Gz{f:Value}{i n ep:Nat}{Q:Value->Shared->Prop}(hit:IsSetIter s.heap I f i a n ep)(h:Q (.ref I) s):wpAny (model P w) A (pyIter (.ref I)) Q E s:=by
 refine wpAny_pyIter_slot hit.typeIs F.slot_set_iterator_iter (Zz F.slot_set_iterator_iter hit.typeIs F.entry_set_iterator_iter ?_ (F.args_set_iterator_iter _));show wpAny _ _ (ret (.ref I)) _ _ s;exact ZC ⟨_,rfl,"set_iterator",_,hit.typeIs,F.slot_set_iterator_next.lookup,h⟩
end
section
variable {P:Program}{w:World}{A:Around}{E:Value->Shared->Prop}{s:Shared}{a I:Addr}
theorem NN{l:List (Int × Value)}(h:ElemsOf (intKind P w) l){e:Int × Value}(he:e∈l):∃t,e.2=.int (numOf e.2) t:=by
 obtain⟨⟨k,hk,_⟩,_⟩:=h e he;obtain⟨t,et⟩:=Value.isInt_shape (show Value.isInt k e.2=true from hk);exact⟨t,by rw[et];rfl⟩
theorem JO{l:List (Int × Value)}(h:ElemsOf (intKind P w) l)(k:Int):k∈l.map (fun(e:Int × Value)=>numOf e.2) ↔ ∃e∈l,(intKind P w).is k e.2=true:=by
 rw[ZJ];constructor
 ·rintro⟨e,he,rfl⟩;obtain⟨t,et⟩:=NN h he;exact⟨e,he,by rw[et];exact intKind_is _ _ _ _⟩
 ·rintro⟨e,he,hk⟩;obtain⟨t,et⟩:=Value.isInt_shape (show Value.isInt k e.2=true from hk);exact⟨e,he,by rw[et];rfl⟩
theorem Fx{Q:Bool->Shared->Prop}(h:Q (w.params.followText "set-order") s):wpAny (model P w) A setsByText Q E s:=by
 unfold setsByText;exact ZA (wpAny_askSetting (ZC h))
theorem MB {o:Obj} {es:Array (Int × Value)} {ep i:Nat} {t:SetTable} (hx:w.params.followText "set-order" = true) (h1:s.heap.get? a=some o) (h3:o.data=.set es ep t) (h7:t.fits es.size=true) {Q:Option (Value × Nat)->Shared->Prop}
 (h:Q (((pickOrder (w.params.setOrder a ep) es)[i]?).map fun e=>(e.2,0)) s):wpAny (model P w) A (setNext a 0 i ep) Q E s:=by
 unfold setNext;refine ZA (wpAny_setState_of h1 h3 h7 ?_);dsimp only;refine ZA (Fx ?_);rw[hx];simp only[↓reduceIte];refine Z0 (fun hab=>absurd hab (by simp)) (fun _=>?_);unfold setWalk;refine ZA (ZA (wpAny_setState_of h1 h3 h7 ?_));dsimp only;refine ZA (Fx ?_);rw[hx];simp only[↓reduceIte];exact ZA (wpAny_askSetting (ZC (ZC h)))
theorem Ms {o:Obj} {es:Array (Int × Value)} {ep i sl:Nat} {t:SetTable} (hx:w.params.followText "set-order" = false) (h1:s.heap.get? a=some o) (h3:o.data=.set es ep t) (h7:t.fits es.size=true) (hl:t.led=true) (hd:(!t.plain && decide (es.size > 1))=false)
 {k:Nat} (hk:SetTable.below t.place sl=k) {Q:Option (Value × Nat)->Shared->Prop}
 (h:Q (match es[k]?,t.place[k]? with | some (_,x),some j=>some (x,j+1) | _,_=>none) s):wpAny (model P w) A (setNext a sl i ep) Q E s:=by
 unfold setNext;refine ZA (wpAny_setState_of h1 h3 h7 ?_);dsimp only;refine ZA (Fx ?_);rw[hx];refine Z0 (fun hab=>absurd hab (by simp)) (fun _=>?_);refine Z0 (fun hab=>absurd (show(!t.plain && decide (es.size > 1))=true from hab) (by rw[hd];simp)) (fun _=>?_);refine ZA ?_;show wpAny _ _ (if (!t.led && !es.isEmpty)=true then unsupported "set:maker-not-led" else pure ()) _ _ _;refine Z0 (fun hab=>absurd hab (by rw[hl];simp)) (fun _=>ZC ?_);subst hk;exact ZC h
noncomputable def GD(L:List (Int × Value))(i:Nat)(v:Value):Prop:=∃t,v=.int ((L.map fun(e:Int × Value)=>numOf e.2).getD i 0) t
theorem Js{L:List (Int × Value)}(h:ElemsOf (intKind P w) L){i:Nat}{e:Int × Value}(he:L[i]? = some e):GD L i e.2:=by
 obtain⟨t,et⟩:=NN h (Zt he);refine⟨t,?_⟩;rw[ZN,ZP,he];exact et
theorem TB{o:Obj}{es:Array (Int × Value)}{ep:Nat}{t:SetTable}(hh:A.handled=none)(Yv:a≠I)(hx:w.params.followText "set-order" = true)(h3:o.data=.set es ep t)(h4:ElemsOf (intKind P w) es.toList)(h7:t.fits es.size=true) :
 Walks P w A I [I,a] [I] es.size (GD (pickOrder (w.params.setOrder a ep) es).toList) (fun i h=>IsSetIter h I (.int 0 0) i a es.size ep/\h.get? a=some o) where
 sub:=fun b hb=>by simp at hb;simp[hb]
 frame:=fun _ _ _ st hk=>⟨st.1.at fun o e=>hk I (by simp) o e,hk a (by simp) _ st.2⟩
 item:=fun i s Q E hi st hQ=>by
  have pm:=HG (w.params.setOrder a ep) es;have hl:i < (pickOrder (w.params.setOrder a ep) es).size:=by rw[<- Zj,pm.length_eq,Zj];exact hi
  refine Me (slot:=0) (nx:=0) (x:=(pickOrder (w.params.setOrder a ep) es)[i].2) st.1 st.2 h3 h7 (fun A E Q q=>MB hx st.2 h3 h7 (by rw[ZBV hl];exact q)) fun h' hit' sb=>?_
  exact hQ _ h' s.toks (Js (h4.perm pm) (by rw[ZBt,ZBV hl])) ⟨hit',(sb.2 a Yv).trans st.2⟩ fun b o hb e=>sb.extBut b o (fun h=>hb (by simp[h])) e
 done:=fun s Q E st hQ=>by
  have pm:=HG (w.params.setOrder a ep) es;refine NX (slot:=0) hh st.1 st.2 h3 h7 (fun A E Q q=>MB hx st.2 h3 h7 ?_) fun h' he'=>hQ h' s.toks fun b o hb e=>he' b o (fun h=>hb (by simp[h])) e
  rw[Array.getElem?_eq_none (by rw[<- Zj,pm.length_eq,Zj];exact ZE _)];exact q
 self:=fun _ _ _ _ st hQ=>Gz st.1 hQ
noncomputable def Ft(t:SetTable)(i:Nat):Nat:=match i with | 0=>0 | k+1=>t.place.getD k 0+1
theorem LS{t:SetTable}(g:Ris t.place){i:Nat}(h:i<=t.place.size):SetTable.below t.place (Ft t i)=i:=by
 cases i with
 | zero=>exact TD g
 | succ k=>exact Ql g h
theorem PY{o:Obj}{es:Array (Int × Value)}{ep:Nat}{t:SetTable}(hh:A.handled=none)(Yv:a≠I)(hx:w.params.followText "set-order" = false)(hd:(!t.plain && decide (es.size > 1))=false)(h3:o.data=.set es ep t)(h4:ElemsOf (intKind P w) es.toList)(h7:t.fits es.size=true)(g:TabG w t) :
 Walks P w A I [I,a] [I] es.size (GD es.toList) (fun i h=>IsSetIter h I (.int (Ft t i) 0) i a es.size ep/\h.get? a=some o) where
 sub:=fun b hb=>by simp at hb;simp[hb]
 frame:=fun _ _ _ st hk=>⟨st.1.at fun o e=>hk I (by simp) o e,hk a (by simp) _ st.2⟩
 item:=fun i s Q E hi st hQ=>by
  have hz:t.place.size=es.size:=by have:=h7;unfold SetTable.fits at this;simp at this;exact this.1
  have hl:t.led=true:=by rw[g.led,hx];rfl
  refine Me (nx:=Ft t (i+1)) (x:=es[i].2) st.1 st.2 h3 h7 (fun A E Q q=>Ms hx st.2 h3 h7 hl hd (LS g.ris (by lia)) ?_) fun h' hit' sb=>?_
  ·rw[ZBV hi,ZBV (show i < t.place.size by lia)];have e:Ft t (i+1)=t.place[i]+1:=by show t.place.getD i 0+1=_;simp[Array.getD,show i < t.place.size by lia]
   rw[e]at q;exact q
  ·exact hQ _ h' s.toks (Js h4 (by rw[ZBt,ZBV hi])) ⟨hit',(sb.2 a Yv).trans st.2⟩ fun b o hb e=>sb.extBut b o (fun h=>hb (by simp[h])) e
 done:=fun s Q E st hQ=>by
  have hz:t.place.size=es.size:=by have:=h7;unfold SetTable.fits at this;simp at this;exact this.1
  have hl:t.led=true:=by rw[g.led,hx];rfl
  refine NX hh st.1 st.2 h3 h7 (fun A E Q q=>Ms hx st.2 h3 h7 hl hd (LS g.ris (by lia)) ?_) fun h' he'=>hQ h' s.toks fun b o hb e=>he' b o (fun h=>hb (by simp[h])) e
  rw[Array.getElem?_eq_none (ZE _)];exact q
 self:=fun _ _ _ _ st hQ=>Gz st.1 hQ
theorem Nj{α:Type}(es:Array α):∀(l:List Nat),(∀x∈l,x < es.size)->∀i:Nat,(l.filterMap (es[·]?))[i]? = (l[i]?).bind (es[·]?)
 | [],_,i=>by simp
 | x::r,hx,i=>by
  have hx0:x < es.size:=hx x Zo;rw[ZBY,ZBV hx0];cases i with
  | zero=>simp[hx0]
  | succ j=>simpa using Nj es r (fun y hy=>hx y (Ze _ hy)) j
theorem Vi {o ot:Obj} {es:Array (Int × Value)} {ep tp nt:Nat} {t:SetTable} {ps:List Nat} (hh:A.handled=none) (Yv:a≠I) (hnt:tp≠I) (h3:o.data=.set es ep t) (h4:ElemsOf (intKind P w) es.toList) (h7:t.fits es.size=true)
 (hdt:ot.data=.seq (ps.map fun(i:Nat)=>rawInt i).toArray nt) (hp:ps.Perm (List.range es.size)) :
 Walks P w A I [I,a,tp] [I] es.size (GD (ps.filterMap (es[·]?))) (fun i h=>IsSetIter h I (.ref tp) i a es.size ep/\h.get? a=some o/\h.get? tp=some ot) where
 sub:=fun b hb=>by simp at hb;simp[hb]
 frame:=fun _ _ _ st hk=>⟨st.1.at fun o e=>hk I (by simp) o e,hk a (by simp) _ st.2.1,hk tp (by simp) _ st.2.2⟩
 item:=fun i s Q E hi st hQ=>by
  have hl:ps.length=es.size:=by rw[hp.length_eq,ZBB]
  have hi':i < ps.length:=by lia
  have hpi:ps[i] < es.size:=Zr.mp (hp.mem_iff.mp (Zc hi'));have pm:(ps.filterMap (es[·]?)).Perm es.toList:=(hp.filterMap _).trans (by rw[filterMap_getElem?_range]);refine U0 (p:=ps[i]) (x:=es[ps[i]]) st.1 st.2.1 h3 h7 st.2.2 hdt (by simp[hi',rawInt]) (ZBV hpi) fun h' hit' sb=>?_
  exact hQ _ h' s.toks (Js (h4.perm pm) (by rw[Nj es ps (fun x hx=>Zr.mp (hp.mem_iff.mp hx)) i,ZD hi'];exact ZBV hpi)) ⟨hit',(sb.2 a Yv).trans st.2.1,(sb.2 tp hnt).trans st.2.2⟩ fun b o hb e=>sb.extBut b o (fun h=>hb (by simp[h])) e
 done:=fun s Q E st hQ=>by
  have hl:ps.length=es.size:=by rw[hp.length_eq,ZBB]
  exact UM hh st.1 st.2.1 h3 h7 st.2.2 hdt (by simp[hl]) fun h' he'=>hQ h' s.toks fun b o hb e=>he' b o (fun h=>hb (by simp[h])) e
 self:=fun _ _ _ _ st hQ=>Gz st.1 hQ
theorem SA {S:Int->Bool} {n:Nat} {Q:Value->Shared->Prop} (hS:SetW P w s.heap a S n)
 (fin:∀(h':Heap) d (I:Addr) (fp:List Addr) (St:Nat->Heap->Prop) (ms:List Int),ms.length=n->(∀k,k∈ms ↔ S k=true)->(∀b o,s.heap.get? b=some o->h'.get? b=some o)->s.heap.objs.size<=I->(∀b∈fp,b=a\/s.heap.objs.size<=b) ->
   (∀A:Around,A.handled=none->Walks P w A I fp [I] n (fun i v=>∃t,v=.int (ms.getD i 0) t) St)->St 0 h'->Q (.ref I) { s with heap:=h',drawn:=d }):wpAny (model P w) A (pyIter (.ref a)) Q E s:=by
 obtain⟨o,es,ep,t,h1,h2,h3,h4,h5,h6,h7,h8,g⟩:=hS;have hT:s.TypeIs (.ref a) "set":=⟨o,h1,h2.1⟩;have Yr:=ZG h1;subst h8;refine wpAny_pyIter_slot hT PySem.F.slot_set_iter (Zz PySem.F.slot_set_iter hT F.entry_set_iter ?_ (PySem.F.args_set_iter_1 _));show wpAny _ _ (Builtin.Frozenset.sizeOf a >>= _) _ _ s;refine ZA (ZA (wpAny_setEntries_of h1 h3 h7 (ZC ?_)));show wpAny _ _ (setDrawn a >>= _) _ _ s;unfold setDrawn;refine ZA (ZA (wpAny_setState_of h1 h3 h7 ?_));dsimp only;refine ZA (Fx (ZC ?_));cases hx:w.params.followText "set-order" with
 | true =>
  refine Z0 (fun hab=>absurd hab (by simp)) (fun _=>?_);refine ZA (ZC (ZA (wpAny_setEpoch_of h1 h3 h7 ?_)));have pm:=HG (w.params.setOrder a ep) es;refine ZA (Zx (ZC ⟨_,rfl,"set_iterator",_,⟨_,ZS _ rfl,rfl⟩,F.slot_set_iterator_next.lookup,?_⟩))
  refine fin _ s.drawn s.heap.objs.size [s.heap.objs.size,a] _ ((pickOrder (w.params.setOrder a ep) es).toList.map fun(e:Int × Value)=>numOf e.2) (by rw[ZB,pm.length_eq,Zj]) (fun k=>by rw[JO (h4.perm pm),h5 k];exact⟨fun⟨e,x,y⟩=>⟨e,pm.mem_iff.mp x,y⟩,fun⟨e,x,y⟩=>⟨e,pm.mem_iff.mpr x,y⟩⟩) (fun b o e=>ZI _ e) (ZE _)
   (fun b hb=>by simp at hb;rcases hb with rfl | rfl <;> simp) (fun A hh=>TB hh (ZT Yr) hx h3 h4 h7) ⟨⟨_,ZS _ rfl,rfl,rfl⟩,ZI _ h1⟩
 | false =>
  by_cases hd:(!t.plain && decide (es.size > 1))=true
  ·refine Z0 (fun _=>?_) (fun hab=>absurd (show(!false && (!t.plain && decide (es.size > 1)))=true by rw[hd];rfl) hab);refine ZA (Nc es.size (List.range es.size) _ _ (by simp) fun ps d hp=>?_);refine ZA (wpAny_newTuple ?_ (by rw[ZB,hp.length_eq,ZBB];exact fits_of_scanBound h6));refine ZA (wpAny_setEpoch_of (ZI _ h1) h3 h7 ?_);have pm:(ps.filterMap (es[·]?)).Perm es.toList:=(hp.filterMap _).trans (by rw[filterMap_getElem?_range]);refine ZA (Zx (ZC ⟨_,rfl,"set_iterator",_,⟨_,ZS _ rfl,rfl⟩,F.slot_set_iterator_next.lookup,?_⟩))
   refine fin _ d (s.heap.push { cls:=.type "tuple",data:=.seq (ps.map fun(i:Nat)=>rawInt i).toArray }).objs.size [(s.heap.push { cls:=.type "tuple",data:=.seq (ps.map fun(i:Nat)=>rawInt i).toArray }).objs.size,a,s.heap.objs.size] _ ((ps.filterMap (es[·]?)).map fun(e:Int × Value)=>numOf e.2) (by rw[ZB,pm.length_eq,Zj])
    (fun k=>by rw[JO (h4.perm pm),h5 k];exact⟨fun⟨e,x,y⟩=>⟨e,pm.mem_iff.mp x,y⟩,fun⟨e,x,y⟩=>⟨e,pm.mem_iff.mpr x,y⟩⟩) (fun b o e=>ZI _ (ZI _ e)) (by rw[Z4];exact ZBb _)
    (fun b hb=>by rw[Z4]at hb;simp at hb;rcases hb with rfl | rfl | rfl <;> simp) (fun A hh=>Vi hh (by rw[Z4];exact ZT (ZBv Yr)) (by rw[Z4];exact ZT (ZBJ _)) h3 h4 h7 rfl hp)
    ⟨⟨_,ZS _ rfl,rfl,rfl⟩,ZI _ (ZI _ h1),ZI _ (ZS _ rfl)⟩
  ·have hd':(!t.plain && decide (es.size > 1))=false:=by simpa using hd
   refine Z0 (fun hab=>absurd (show(!t.plain && decide (es.size > 1))=true from hab) (by rw[hd'];simp)) (fun _=>?_);refine ZA (ZC (ZA (wpAny_setEpoch_of h1 h3 h7 ?_)));refine ZA (Zx (ZC ⟨_,rfl,"set_iterator",_,⟨_,ZS _ rfl,rfl⟩,F.slot_set_iterator_next.lookup,?_⟩))
   refine fin _ s.drawn s.heap.objs.size [s.heap.objs.size,a] _ (es.toList.map fun(e:Int × Value)=>numOf e.2) (by rw[ZB,Zj]) (fun k=>by rw[JO h4,h5 k]) (fun b o e=>ZI _ e) (ZE _)
    (fun b hb=>by simp at hb;rcases hb with rfl | rfl <;> simp) (fun A hh=>PY hh (ZT Yr) hx hd' h3 h4 h7 g) ⟨⟨_,ZS _ rfl,rfl,rfl⟩,ZI _ h1⟩
end
end L2
namespace L2
open PySem PySem.Spec PyProof.Rows PySem.W PySem.Calls
section
variable {P:Program}{w:World}{A:Around}{E:Value->Shared->Prop}{s:Shared}{a I:Addr}
theorem RH{Q:Bool->Shared->Prop}(hT:s.TypeIs (.ref a) "set")(h:Q false s):wpAny (model P w) A (Builtin.List.listLengthHint (.ref a)) Q E s:=by
 unfold Builtin.List.listLengthHint;refine ZA (wpAny_specialOf hT PySem.F.slot_set_len.lookup ?_);generalize hid:("set.__len__" : String)=id0
 wp_delta
 rw[show splitId id0=some ("set","__len__") from by subst hid;decide +kernel];subst hid;refine ZA (wpAny_isInstance (T:="set") (b:=true) hT (by rw[isSubtype_type];kernel_rfl) ?_);refine Z0 (fun hab=>absurd hab (by decide)) (fun _=>Z0 (fun _=>ZA (wpAny_typeOf hT (ZC h))) (fun hab=>absurd (by decide +kernel) hab))
theorem UR {R:Result->Shared->Prop} {S:Int->Bool} {n:Nat} {l:Addr} {c0:Nat} (hh:A.handled=none) (hS:SetW P w s.heap a S n) (hn:n<=sizeLine) (hl:s.heap.get? l=some { cls:=.type "list",data:=.seq #[] c0 }) (res:Value)
 (fin:∀(h':Heap) d tk (Ys:Array Value) (c:Nat) (ms:List Int),ms.length=n->(∀k,k∈ms ↔ S k=true)->(∀b o,b≠l->s.heap.get? b=some o->h'.get? b=some o)->h'.get? l=some { cls:=.type "list",dict:=none,data:=.seq Ys c,slots:=#[] } ->
   ItemsOf (fun i v=>∃t,v=.int (ms.getD i 0) t) Ys n->R (.ok (.ret res)) { s with heap:=h',drawn:=d,toks:=tk }) :
 wpAny (model P w) A.in1 (Builtin.List.listExtendWith (.ref l) (.ref a) res)
  (fun fin s'=>match fin with | .done f=>R (.ok f) s' | .again c'=>c'.quiet=true/\codeAny (model P w) A c' R s') (fun e s'=>R (.error e) s') s:=by
 have hT:s.TypeIs (.ref a) "set":=hS.of.typeIs
 have hla:l≠a:=fun e=>by
  obtain⟨o,es,ep,t,h1,h2,_⟩:=hS;rw[<- e,hl]at h1;cases h1;exact absurd h2.1 (show ¬(Value.type "list" = Value.type "set") by decide)
 unfold Builtin.List.listExtendWith;refine ZA (wpAny_typeOf (T:="set") hT ?_);have e1:Builtin.List.listSameRef (.ref l) (.ref a)=false:=by simp[Builtin.List.listSameRef,hla]
 have e2:(Value.type "set" == Value.type "list")=false:=by decide
 have e3:(Value.type "set" == Value.type "tuple")=false:=by decide
 simp only[e1,e2,e3,Bool.or_false,ZB3,if_false];refine ZA (SA hS fun h1 d I fp St ms hm1 hm2 hk hI hfp W st=>?_)
 have hlf:l∉fp:=fun z=>by
  rcases hfp l z with q | q
  ·exact hla q
  ·exact absurd (ZG hl) (Nat.not_lt.mpr q)
 have key:∀(h2:Heap) (c1 tk:Nat),St 0 h2->(∀b o,b≠l->s.heap.get? b=some o->h2.get? b=some o)->h2.get? l=some { cls:=.type "list",data:=.seq #[] c1 } ->
  codeAny (model P w) A (.builtin "list.extend.loop" ⟨[.ref l,.ref I,res],[]⟩) R { s with heap:=h2,drawn:=d,toks:=tk }:=fun h2 c1 tk st2 hk2 hl2=>by
  refine codeAny_extend_loopS (W A.in1 hh).toS hn l hlf res n 0 _ #[] c1 rfl (ZV _) st2 hl2 (ItemsOf.nil _) fun s' Ys c hm hs' hacc=>?_
  rw[Moved.eq_with hm];refine fin s'.heap d s'.toks Ys c ms hm1 hm2 (fun b o hb e=>hm.heap b o (fun z=>?_) (hk2 b o hb e)) hs' hacc
  rcases ZH.mp z with q | q
  ·exact hb q
  ·rw[ZO]at q;exact absurd (ZG e) (by rw[q];exact Nat.not_lt.mpr hI)
 have hl1:=hk _ _ hl;refine ZA (Zk (RH (SetW.of (hS.at fun o e=>hk _ _ e)).typeIs ?_));refine Z0 (fun _=>?_) (fun _=>ZC ⟨ZBA PySem.F.plain_extend_loop _,key _ c0 _ st (fun b o _ e=>hk b o e) hl1⟩);refine ZA (wpAny_rule (ZA ?_));show wpAny _ _ (updateSeq l (·.push .none) >>= fun _=>updateSeq l (·.pop)) _ _ _;have g1:=ZBd (Obj.mapSeq (·.push Value.none)) hl1 rfl;have g2:=ZBd (Obj.mapSeq (·.pop)) g1 rfl;refine ZA (wpAny_updateSeq hl1 rfl (wpAny_updateSeq (hz:=by seq_fits) g1 rfl (ZC ⟨ZBA PySem.F.plain_extend_loop _,key _ _ _ ?_ (fun b o hb e=>?_) g2⟩)))
 ·refine(W A hh).frame 0 _ _ st fun b hb o e=>?_
  have hbl:b≠l:=fun h=>hlf (h ▸ hb)
  exact(ZBF _ _ (Ne.symm hbl)).trans ((ZBF _ _ (Ne.symm hbl)).trans e)
 ·exact(ZBF _ _ (Ne.symm hb)).trans ((ZBF _ _ (Ne.symm hb)).trans (hk b o e))
theorem Vz {S:Int->Bool} {n:Nat} {R:List Value->Shared->Prop} (hh:A.handled=none) (hS:SetW P w s.heap a S n) (hn:n<=sizeLine)
 (fin:∀(h':Heap) d tk (Ys:Array Value) (ms:List Int),ms.length=n->(∀k,k∈ms ↔ S k=true)->(∀b o,s.heap.get? b=some o->h'.get? b=some o)->s.heap.objs.size < h'.objs.size->ItemsOf (fun i v=>∃t,v=.int (ms.getD i 0) t) Ys n->R Ys.toList { s with heap:=h',drawn:=d,toks:=tk }) :
 wpAny (model P w) A (collect (.ref a)) R E s:=by
 unfold collect;refine ZA (wpAny_runValue (ZBD entry_proto_collect' ?_));rw[ZBI PySem.F.plain_proto_collect _];show wpAny _ A.in1 (newList [] >>= fun l=>again (.builtin "list.__iadd__" ⟨[l,.ref a],[]⟩)) _ _ s;refine ZA (Zx (ZC ⟨ZBA PySem.F.plain_list_iadd _,ZBD entry_list_iadd' ?_⟩));rw[ZBI PySem.F.plain_list_iadd _];have g1:(s.heap.push { cls:=.type "list",data:=.seq ([]:List Value).toArray }).get? s.heap.objs.size=some { cls:=.type "list",data:=.seq #[] }:=ZS _ rfl;show wpAny _ A.in1 (Builtin.List.listExtendWith (.ref s.heap.objs.size) (.ref a) (.ref s.heap.objs.size)) _ _ _
 refine Zs (UR (A:=A) (s:={ s with heap:=s.heap.push { cls:=.type "list",data:=.seq ([]:List Value).toArray } })
  (R:=fun(q:Result) (s':Shared)=>∃(h':Heap) (d:_) (tk:Nat) (Ys:Array Value) (c:Nat) (ms:List Int),q=.ok (.ret (.ref s.heap.objs.size))/\s' = { s with heap:=h',drawn:=d,toks:=tk } /\ ms.length=n/\(∀k,k∈ms ↔ S k=true) /\
    (∀b o,s.heap.get? b=some o->h'.get? b=some o)/\h'.get? s.heap.objs.size=some { cls:=.type "list",dict:=none,data:=.seq Ys c,slots:=#[] } /\ ItemsOf (fun i v=>∃t,v=.int (ms.getD i 0) t) Ys n)
  hh (hS.at fun o e=>ZI _ e) hn g1 (.ref s.heap.objs.size) fun h' d tk Ys c ms m1 m2 hk g2 hacc=>⟨h',d,tk,Ys,c,ms,rfl,rfl,m1,m2,fun b o e=>hk b o (ZT (ZG e)) (ZI _ e),g2,hacc⟩) (fun fn s' x=>?_) fun e s' x=>?_
 ·cases fn with
  | done f =>
   obtain⟨h',d,tk,Ys,c,ms,e,rfl,m1,m2,hk,g2,hacc⟩:=x;cases e;show wpAny _ A (load s.heap.objs.size >>= _) _ _ _;exact ZA (wpAny_load g2 (ZC (fin h' d tk Ys ms m1 m2 hk (ZG g2) hacc)))
  | again c₁ =>
   refine⟨x.1,ZBK x.2 fun q s₂ y=>?_⟩;obtain⟨h',d,tk,Ys,c,ms,rfl,rfl,m1,m2,hk,g2,hacc⟩:=y;show wpAny _ A (load s.heap.objs.size >>= _) _ _ _;exact ZA (wpAny_load g2 (ZC (fin h' d tk Ys ms m1 m2 hk (ZG g2) hacc)))
 ·obtain⟨_,_,_,_,_,_,e',_⟩:=x;cases e'
theorem QA{Ys:Array Value}{ms:List Int}(h:ItemsOf (fun i v=>∃t,v=.int (ms.getD i 0) t) Ys ms.length):IntsAre Ys.toList ms:=by
 have e:Ys.toList.map numOf=ms:=by
  apply List.ext_getElem
  ·rw[ZB,Zj,h.1]
  ·intro i h1 h2;rw[List.getElem_map];have h3:i < Ys.size:=by rw[h.1];exact h2
   obtain⟨t,et⟩:=h.2 i Ys[i] (by simp[h3]);rw[Array.getElem_toList,et];show ms.getD i 0=_;rw[ZN,ZD h2];rfl
 have:=intsAre_map Ys.toList (fun v hv=>by
  obtain⟨i,hi,ei⟩:=Zp hv;obtain⟨t,et⟩:=h.2 i v (by rw[<- ZBt,ZD hi,ei]);exact⟨_,t,et⟩)
 rw[e]at this;exact this
theorem VS {S:Int->Bool} {n:Nat} {Q:Value->Shared->Prop} (hh:A.handled=none) (hS:SetW P w s.heap a S n) (h64:n < 64)
 (fin:∀(h':Heap) d tk (p:Addr) (ms:List Int) (out:Array Value) (e:Nat),ms.length=n->(∀k,k∈ms ↔ S k=true)->ms.Pairwise (· <= ·)->IntsAre out.toList ms->h'.get? p=some (seqObj "list" out e)->s.heap.objs.size<=p->(∀b o,s.heap.get? b=some o->h'.get? b=some o)->Q (.ref p) { s with heap:=h',drawn:=d,toks:=tk }) :
 wpAny (model P w) A (call (.builtin "sorted") [.ref a]) Q E s:=by
 have hz:n<=sizeLine:=Zn (Zy h64) (by decide);refine call_function_entry kind_sorted plain_sorted entry_sorted (args_sorted1 _) ?_;unfold Builtin.«sorted»;refine ZA (m:=checkCount "sorted" 1 1 _) (ZC (ZA (Vz (A:=A.in1) hh hS hz fun h' d tk Ys ms m1 m2 hk Yr hacc=>?_)));subst m1;have hI:=QA hacc;have hl:Ys.toList.length=ms.length:=by rw[Zj,hacc.1]
 refine ZA (wpAny_newList ?_ (by rw[hl];exact hz));have hoL:(h'.push (seqObj "list" Ys.toList.toArray 0)).get? h'.objs.size=some (seqObj "list" Ys.toList.toArray 0):=ZS _ rfl;refine ZA (Zk (Zz slot_list_sort ⟨_,hoL,rfl⟩ entry_list_sort (list_sort_tree hoL hI (by lia) fun out ns' a1 a2 a3=>⟨_,rfl,?_⟩) (args_list_sort _)));obtain⟨e,he⟩:=sortedHeap_at (out:=out) hoL;refine ZC ⟨_,rfl,fin _ d tk h'.objs.size ns' out e (a2.length_eq) (fun k=>by rw[a2.mem_iff];exact m2 k) a3 a1 he (Zy Yr) fun b o q=>?_⟩;have hb:=hk b o q;have hlt2:=ZG hb;rw[sortedHeap_old (ZT hlt2) (by rw[Z4];exact ZBv hlt2)];exact ZI _ hb
end
end L2
namespace L2
open PySem PySem.Spec PyProof.Rows
noncomputable def C0(P:Program)(w:World)(a:Addr)(ds:List Int):Heap->Prop:=fun h=>SetW P w h a (fun k=>ds.any (· == k)) ds.length
theorem QF{P:Program}{w:World}{H:Hp}{h:Heap}{a:Addr}{ds:List Int}(x:C0 P w a ds h):ObjOk P w H h a (.ext (C0 P w a ds)) :=
 ⟨x,(by obtain⟨o,_,_,_,e,_⟩:=x;exact⟨o,e⟩),fun h1 h2 y k=>SetW.at y k⟩
noncomputable def N0(K:W.Frag)(P:Program)(w:World):List V->Hp->VK->Prop:=fun xs H Q=>match xs with
 | [.ref p]=>∃ns:List Int,Yp K H p (ns.map V.int)/\ns.length<=1000/\∀(ds:List Int) q,ds.Nodup->(∀k,k∈ds ↔ k∈ns)->H q=none->Q (.ref q) (upd H q (.ext (C0 P w q ds)))
 | _=>False
noncomputable def Mh(P:Program)(w:World):List V->Hp->VK->Prop:=fun xs H Q=>match xs with
 | [.ref p]=>∃ds:List Int,H p=some (.ext (C0 P w p ds))/\ds.length < 64/\∀(ms:List Int) q,ms.length=ds.length->(∀k,k∈ms ↔ k∈ds)->ms.Pairwise (· <= ·)->H q=none->Q (.ref q) (upd H q (.lst (ms.map V.int)))
 | _=>False
section
variable {X:Cx}{K:W.Frag}{P:Program}{w:World}
theorem Yg.drew{Ya:List (Addr × Obj)}{Z:List (Option V)}{H:Hp}{s:Shared}(I:Yg X Ya Z H s)(d:Drawn):Yg X Ya Z H { s with drawn:=d }:=⟨I.ok,I.os,I.bare,I.base,I.loc,I.cell,I.free,I.freeC,I.pin,I.hok,I.len⟩
theorem TC(hh:X.calm=true):CallR X (.type "set") (N0 X.K X.prog X.w):=by
 intro Ya s Z H xs us Q I r h
 match xs,h with
 | [.ref p],h =>
 obtain⟨ns,hq,hn,q⟩:=h;obtain⟨u,rfl,rx⟩:=BS r;cases rx;obtain⟨Ye,rv,pl,hz⟩:=I.tuple hq;have hi:IntsAre Ye ns:=by simpa using EI rv
 have Yk:Ye.length=ns.length:=by rw[<- rv.length,ZB]
 refine Vk (ns:=ns) (I.ok.hd hh) pl (by simpa using hi) (by rw[ZK,Yk];show ns.length+1 < 4096;lia) fun h' tk hs hk=>?_
 have hsz:Ye.toArray.size=ns.length:=by rw[ZK,Yk]
 rw[hsz]at hs;exact⟨.ref s.heap.objs.size,_,I.laid (t':=tk) (o:=.ext (C0 X.prog X.w s.heap.objs.size (firstMet (fun i=>ns.getD i 0) ns.length))) (fun b o e=>hk b o (ZG e) e) (ZE _) (QF hs),rfl,q _ _ (HD _ _) (OD ns) (I.hok.fresh (ZE _))⟩
theorem UY(hh:X.calm=true)(hK:X.K=K:=by rfl)(hP:X.prog=P:=by rfl)(hw:X.w=w:=by rfl):CallR X (.type "set") (N0 K P w):=by subst hK hP hw;exact TC hh
theorem Sl(hh:X.calm=true):CallR X (.builtin "sorted") (Mh X.prog X.w):=by
 intro Ya s Z H xs us Q I r h
 match xs,h with
 | [.ref p],h =>
 obtain⟨ds,hq,hn,q⟩:=h;obtain⟨u,rfl,rx⟩:=BS r;cases rx;obtain⟨hs,_⟩:=(show ObjOk X.prog X.w H s.heap p (.ext (C0 X.prog X.w p ds)) from I.hok p _ hq);refine VS (I.ok.hd hh) hs hn fun h' d tk b ms out e m1 m2 m3 hi hb hp hk=>?_
 refine⟨.ref b,_,(I.laid (t':=tk) (o:=.lst (ms.map V.int)) (fun b o e=>hk b o e) hp ?_).drew d,rfl,q ms _ m1 (fun k=>(m2 k).trans (by simp)) m3 (I.hok.fresh hp)⟩;exact⟨by rw[ZB,m1];exact Zn (Zy hn) (by decide),out.toList,e,MA hi,hb⟩
theorem Sc(hh:X.calm=true)(hP:X.prog=P:=by rfl)(hw:X.w=w:=by rfl):CallR X (.builtin "sorted") (Mh P w):=by subst hP hw;exact Sl hh
noncomputable def Ks(C:Addr)(ta:TE)(f:Str):TE:=fun Z H Q=>ta Z H fun x H1=>match x with
 | .ref a=>∃dx fs v,H1 a=some (.ins C dx fs)/\fs.lookup f=some v/\Q v H1
 | _=>False
noncomputable def WC(C:Addr)(ta tv:TE)(f:Str):TS:=fun D Z H=>tv Z H fun y H1=>ta Z H1 fun x H2=>match x with
 | .ref a=>∃dx fs,H2 a=some (.ins C dx fs)/\fs.length < 1000/\D.nx Z (upd H2 a (.ins C dx (AZ f y fs)))
 | _=>False
variable {C:Addr}{f:Str}{e o value:Expr}{ta tv td ty:TE}{pos pos':Pos}
theorem BN(c:Cls K C)(n:NoAttr K C f)(he:PE X e ta)(hK:X.K=K:=by rfl)(hb:attributeBase e f X.env (eval e X.env)=eval e X.env:=by rfl):PE X (.Attribute e f pos) (Ks C ta f):=by
 subst hK;intro Ya s Z H Q I h;refine Xl hb (Yn (he Ya s Z H _ I h) fun u s1 ⟨x,H1,I1,rx,q⟩=>?_)
 match x,q with
 | .ref a,⟨dx,fs,v,ea,l,q⟩ =>
 obtain rfl:u=Value.ref a:=rx;exact O4 I1 ea c n l fun u' s2 I2 ru=>⟨v,H1,I2,ru,q⟩
theorem Dg(c:Cls K C)(n:NoAttr K C f)(ha:PE X o ta)(hv:PE X value tv)(hK:X.K=K:=by rfl)(hs:swapsWith value (some (.Attribute o f pos')) pos.line X.env=pure false:=by rfl):PS X (.Assign [.Attribute o f pos'] value pos) (WC C ta tv f):=by
 subst hK;intro Ya s Z H D I h;refine plainObj_wpAny_Assign_Attribute (Yn (hv Ya s Z H _ I h) fun u s1 ⟨y,H1,I1,ry,q⟩=>Yn (ha Ya s1 Z H1 _ I1 q) fun ov s2 ⟨x,H2,I2,rx,q2⟩=>?_) hs
 match x,q2 with
 | .ref a,⟨dx,fs,ea,l,q2⟩ =>
 obtain rfl:ov=Value.ref a:=rx;exact Ue I2 ea c n l ry fun s3 I3=>⟨Z,_,I3,q2⟩
theorem Tz(h:Af ta):Af (Ks C ta f):=fun Z H Q Q' k q=>h _ _ _ _ (fun v H1 q=>by
 cases v <;> first | exact q.elim | (obtain⟨dx,fs,v,a,b,q⟩:=q;exact⟨dx,fs,v,a,b,k _ _ q⟩)) q
theorem TW{m:Str}{sp:Sp}{dvs:List V}{E:XK}{t:TA}(hs:AR sp)(h1:Af ta)(h2:CG t):Af (IB C m sp dvs E ta t):=fun Z H Q Q' h q =>
 h1 _ _ _ _ (fun v H1 ⟨a,dx,fs,e1,e2,e3,q⟩=>⟨a,dx,fs,e1,e2,e3,h2 _ _ _ _ (fun _ _ q=>hs _ _ _ _ _ h q) q⟩) q
noncomputable def Ir(neg:Bool):R2:=fun y x H Q=>match x with
 | .ref a=>∃o,DGet H a y o/\Q (.bl (xor neg o.isSome)) H
 | _=>False
theorem JR(hu:X.A.units+60 < cLine):Yt X (compareOp .NotIn) (Ir true):=by
 intro Ya s Z H y x v u Q I ry rx q
 match x,q with
 | .ref a,⟨o,g,q⟩ =>
 obtain rfl:u=Value.ref a:=rx;exact Uq (C8 hu) I g ry fun s3 I3=>⟨.bl (!o.isSome),H,I3,rfl,(by cases o <;> exact q)⟩
theorem T0{b:Bool}:BZ (Ir b):=fun x y H Q Q' h q=>by
 unfold Ir at *;split at q
 ·obtain⟨o,a,q⟩:=q;exact⟨o,a,h _ _ q⟩
 ·exact q.elim
end
end L2
namespace L2
open PySem PySem.Spec PyProof.Rows PySem.W
noncomputable def GE(K:W.Frag)(base:Heap)(f:Addr):Prop:=PySem.W.keepIn K (.ref f)=true\/∃o fd,base.get? f=some o/\o.data=.func fd
noncomputable def K5(f:Addr)(sp:Sp)(tn:TE)(t:TA):TE:=fun Z H Q=>tn Z H fun v H1=>v=.ref f/\t Z H1 fun vs H2=>sp vs H2 Q E0
section
variable {X:Cx}{k:Nat}{f:Addr}{fd:FuncData}{ps:List Str}{sp:Sp}{x:Str}{p pos:Pos}{e:Expr}{es:List Expr}{t:TA}{tn:TE}
theorem Hi (hn:PE X (.Name x p) tn) (F:FnOk X.prog X.w X.K X.mg X.base CX0 k f fd ps sp) (hr:Room k X.A) (hf:GE X.K X.base f) (hb:Binds X.K fd ps []) (ha:PA X (e::es) t)
 (he:starEach (e::es) X.env=(false,eval e X.env)::starEach es X.env:=by rfl) (hpl:(backTo pos (starEach es X.env)).any (·.1)=false:=by rfl) :
 PE X (.Call (.Name x p) (e::es) [] pos) (K5 f sp tn t):=by
 intro Ya s Z H Q I h;refine wpAny_Call_Name_kw (Yn (hn Ya s Z H _ I h) fun v s1 ⟨y,H1,I1,r1,q1⟩=>?_);obtain⟨rfl,q1⟩:=q1;cases r1
 have fin:∀(us:List Value) (s2:Shared),(∃vs H2,Yg X Ya Z H2 s2/\Yi vs us/\sp vs H2 Q E0)->wpAny (model X.prog X.w) X.A (call (.ref f) us) (EP X Ya Z Q) X.xe s2:=fun us s2 ⟨vs,H2,I2,r,q⟩ =>
  GP F hr hb .nil AG I2 r (by rw[Zw];exact q)
 rcases hf with hk | ⟨o,fd',e1,e2⟩
 ·refine PySem.W.callWith_K (h₀:=X.base) I.ok.mod.kin hk (Yn (ha pos Ya s1 Z H1 _ I1 q1) fun us s2 ⟨vs,H2,I2,r,q⟩=>⟨I2.kIn,fin us s2 ⟨vs,H2,I2,r,q⟩⟩) he hpl
 ·have h0:=Yn (ha pos Ya s1 Z H1 _ I1 q1) fun us s2 ⟨vs,H2,I2,r,q⟩=>(show s2.heap.get? f=some o/\wpAny (model X.prog X.w) X.A (call (.ref f) ([]++us)) (EP X Ya Z Q) X.xe s2 from⟨I2.bk _ _ e1,fin us s2 ⟨vs,H2,I2,r,q⟩⟩)
  rw[he]at h0 ⊢;refine callWith_of (P:=fun h=>h.get? f=some o) (by show((false || (backTo pos (starEach es X.env)).any (·.1)) || false)=false;rw[hpl];rfl) (fun h hh=>⟨.frame,.inl rfl,(Looks.ld (part:=none) hh).andThen ?_⟩) (Calls.evalArgs_plain h0);rw[e2];exact .now
theorem U9(h1:Af tn)(h2:CG t)(hs:AR sp):Af (K5 f sp tn t):=fun Z H Q Q' k q=>h1 _ _ _ _ (fun v H1 q=>⟨q.1,h2 _ _ _ _ (fun vs H2 q=>hs vs H2 Q Q' E0 k q) q.2⟩) q
end
section
variable {X:Cx}{Ya:List (Addr × Obj)}{Z:St}{H:Hp}{s:Shared}
theorem Yg.pin1(I:Yg X Ya Z H s){a:Addr}{o:Obj}(ha:s.heap.get? a=some o)(n:H a=none)(h1:a≠X.env.locals)(h2:a∉X.fs)(h3:∀v,o.data≠.cell v):Yg X ((a,o)::Ya) Z H s:=by
 refine⟨I.ok,I.os,I.bare,I.base,I.loc,I.cell,I.free,I.freeC,fun p hp=>?_,I.hok,I.len⟩
 rcases Zb.mp hp with z | z
 ·exact I.pin p (Zv _ z)
 ·rcases ZH.mp z with rfl | z
  ·exact⟨ha,n,h1,h2,h3⟩
  ·exact I.pin p (ZY _ z)
theorem Yg.unpin1{q:Addr × Obj}(I:Yg X (q::Ya) Z H s):Yg X Ya Z H s:=by
 refine⟨I.ok,I.os,I.bare,I.base,I.loc,I.cell,I.free,I.freeC,fun p hp=>?_,I.hok,I.len⟩
 rcases Zb.mp hp with z | z
 ·exact I.pin p (Zv _ z)
 ·exact I.pin p (ZY _ (Ze _ z))
noncomputable def IV(X:Cx)(H:Hp):Hp:=fun b=>if b∈frs X.stack then some (.tup []) else H b
noncomputable def Cg(X:Cx)(H:Hp)(s:Shared):Heap:=Cf s.heap (IV X H)
theorem EF{b:Addr}{o:Obj}(e:s.heap.get? b=some o)(n:H b=none)(f:b∉frs X.stack):(Cg X H s).get? b=some o:=K2 e (by unfold IV;rw[if_neg f];exact n)
theorem Ka{b:Addr}{o:Obj}(e:(Cg X H s).get? b=some o):s.heap.get? b=some o/\H b=none/\b∉frs X.stack:=by
 obtain⟨h1,h2⟩:=LX e;unfold IV at h2
 by_cases f:b∈frs X.stack
 ·rw[if_pos f]at h2;cases h2
 ·rw[if_neg f]at h2;exact⟨h1,h2,f⟩
theorem OK{h base base':Heap}:∀{l:List Env},h.FunFrames base l->(∀b∈frs l,base'.get? b=none)->h.FunFrames base' l
 | [],_,_=>trivial
 | env::l,⟨a,⟨L,o,e1,_,e3,e4⟩,r⟩,hb=>by
  refine⟨a,⟨L,o,e1,hb L ?_,e3,e4⟩,OK r fun b hb'=>hb b ?_⟩
  ·rw[frs,ZBY,e1];exact Zo ..
  ·rw[frs,ZBY,e1];exact Ze _ hb'
theorem Ip(I:Yg X Ya Z H s):∀b o,X.base.get? b=some o->(Cg X H s).get? b=some o:=fun b o e =>
 EF (I.bs b o e).1 (I.bs b o e).2 fun z=>by
  have:=(I.stack.mem z).1
  rw[e]at this;cases this
theorem NK(I:Yg X Ya Z H s):Env0 X.prog X.w X.K X.mg (Cg X H s) X.A X.stack s H:=by
 have sub:=Ip I;refine⟨I.ok.frames,⟨I.ok.mod.kin.keeps sub,I.ok.mod.glob.keeps sub,let ⟨mb,h1,h2⟩:=I.ok.mod.blt;⟨mb,h1.keeps sub,h2⟩,I.ok.mod.nolimit.keeps sub⟩,fun b o e=>⟨(Ka e).1,(Ka e).2.1⟩,ZBa (Lk _ _),OK I.stack fun b hb=>?_,I.stkFree,I.hok,I.bare⟩;cases e:(Cg X H s).get? b with
 | none=>rfl
 | some o=>exact absurd hb (Ka e).2.2
theorem QU {k:Nat} {f:Addr} {fd:FuncData} {ps:List Str} {sp:Sp} {us:List Value} {vs:List V} {Q:VK} (I:Yg X Ya Z H s) (F:FnOk X.prog X.w X.K X.mg (Cg X H s) CX0 k f fd ps sp) (hr:Room k X.A) (hb:Binds X.K fd ps [])
 (r:Yi vs us) (h:sp vs H Q E0):wpAny (model X.prog X.w) X.A (call (.ref f) us) (EP X Ya Z Q) X.xe s:=by
 have hl:(us++[]).length=ps.length:=by rw[Zw,<- r.length];exact F.len _ _ _ _ h
 have hbb:=hb s us I.kIn hl;rw[Zw]at hbb;refine wpAny_call (ZBK (F.run X.A X.stack s H ⟨us,[]⟩ us vs Q E0 hr (NK I) hbb r h) fun r s' hq=>?_);cases r with
 | error e=>exact False.elim hq
 | ok fl =>
  cases fl with
  | ret u=>exact I.after hq
  | next=>exact False.elim hq
  | brk=>exact False.elim hq
  | cont=>exact False.elim hq
end
section
variable {X:Cx}{Pt c f:Addr}{fd:FuncData}{ps:List Str}{k i:Nat}{kn a:Str}{kp pos lpos:Pos}{params:Arguments}{body:Expr}{scope:Scope}{e:Expr}{es:List Expr}{t:TA}{qual:Str}{spK:Addr->Addr->V->Sp}
noncomputable def UG(Pt:Addr)(lpos:Pos)(qual:Str)(i:Nat)(spK:Addr->Addr->V->Sp)(t:TA):TE:=fun Z H Q=>∃vA,Z[i]? = some (some vA)/\Yx Pt lpos qual H /\
 ∀Yq c' H1,Yu Pt H H1->Yx Pt lpos qual H1->H1 c'=some (CdO c' qual)->H1 Yq=none->t Z H1 fun vs H2=>spK Yq c' vA (.ref Yq::vs) H2 Q E0
theorem PV (hg:Gl X kn) (hm:X.mg kn=some (.ref f)) (hk:PySem.W.keepIn X.K (.ref f)=true) (hr:Room k X.A) (hb:Binds X.K fd ps []) (hcode:X.env.code=.ref c) (hcK:codeHdIn X.K c Pt=true) (hbm:BMn X.mg X.base)
 (hq:X.env.qual ++ "<lambda>" = qual) (hdef:defaultsOf params X.env=([],[])) (hN:X.N[i]? = some a) (hcl:∀cell,X.env.cells.lookup a=some cell->closureFor scope X.env=pure [(a,cell)]) (hka:X.env.kindOf a=some .cell) (hfn:X.fn a=true)
 (hF:∀(base':Heap) (Yq cell c':Addr) (pm ctv uA:Value) (vA:V),(∀b o,X.base.get? b=some o->base'.get? b=some o)->base'.get? Yq=some (kla_obj "<lambda>" qual params body scope [(a,cell)] pm c' ctv)->base'.IsCell cell (some uA)->Yh vA uA->FnOk X.prog X.w X.K X.mg base' CX0 k f fd ps (spK Yq c' vA))
 (ha:PA X (e::es) t) (hd:(kn == ("__debug__" : Str))=false:=by decide)
 (he:starEach (.Lambda params body scope lpos::e::es) X.env=(false,eval (.Lambda params body scope lpos) X.env)::starEach (e::es) X.env:=by rfl) (hpl:(backTo pos (starEach (e::es) X.env)).any (·.1)=false:=by rfl) :
 PE X (.Call (.Name kn kp) (.Lambda params body scope lpos::e::es) [] pos) (UG Pt lpos qual i spK t):=by
 intro Ya s1 Z H1 Q I1 h;subst hq;obtain⟨vA,hv,hL,hQ⟩:=h;refine wpAny_Call_Name_kw (GC I1 hg hm ?_ hd);refine PySem.W.callWith_K (h₀:=X.base) I1.ok.mod.kin hk ?_ he hpl;rw[he];show wpAny _ _ (spliced ((false,eval (.Lambda params body scope lpos) X.env)::backTo pos (starEach (e::es) X.env))) _ _ s1;refine Calls.spliced_cons ?_;obtain⟨Pps,hP,htr,hcs⟩:=id hL
 have fin:∀(H2:Hp) (s2:Shared) (Yq c' cell:Addr) (pm ctv:Value),Yg X Ya Z H2 s2->X.env.cells.lookup a=some cell->s2.heap.get? Yq=some (kla_obj "<lambda>" (X.env.qual ++ "<lambda>") params body scope [(a,cell)] pm c' ctv) ->
  H2 Yq=none->Yq≠X.env.locals->Yq∉X.fs->Yu Pt H1 H2->Yx Pt lpos (X.env.qual ++ "<lambda>") H2->H2 c'=some (CdO c' (X.env.qual ++ "<lambda>")) ->
  wpAny (model X.prog X.w) X.A (spliced (backTo pos (starEach (e::es) X.env))) (fun us s3=>X.K.In s3.heap/\wpAny (model X.prog X.w) X.A (call (.ref f) ([]++Value.ref Yq::us)) (EP X Ya Z Q) X.xe s3) X.xe s2:=by
  intro H2 s2 Yq c' cell pm ctv I2 hcell hf hn hnl hnf hG hL2 hc';have J:=I2.pin1 hf hn hnl hnf (fun v z=>by cases z);refine Yn (ha pos _ s2 Z H2 _ J (hQ Yq c' H2 hG hL2 hc' hn)) fun us s3 ⟨vs,H3,I3,r3,q3⟩=>⟨I3.kIn,?_⟩
  have hl3:=(I3.pin (Yq,_) (ZY _ (Zo ..)));obtain⟨m,hns,hloc⟩:=I3.loc;obtain⟨uA,rA,look⟩:=hloc i a vA hN hv (.inr (.inl hka))
  rcases look with ⟨z,_⟩ | ⟨_,cell',e1,e2⟩
  ·rw[hka]at z;cases z
  rw[hcell]at e1;cases e1;have I4:=I3.unpin1
  have lamS:Yq∉frs X.stack:=fun z=>by
   rcases ZH.mp (I3.stkSub _ z) with z | z
   ·exact hl3.2.2.1 z
   ·exact hl3.2.2.2.1 z
  have cellS:cell∉frs X.stack:=fun z=>by
   rcases ZH.mp (I3.stkSub _ z) with z | z
   ·exact I3.cne _ _ hcell z
   ·obtain⟨_,o,ho,_⟩:=I3.ok.funs.mem z;exact absurd (ZX (ZG ho) (I3.ok.cab a cell hfn hcell)) (Zd _)
  refine QU I4 (hF _ Yq cell c' pm ctv uA vA (Ip I4) (EF hl3.1 hl3.2.1 lamS) ?_ rA) hr hb (.cons (show Yh (.ref Yq) (.ref Yq) from rfl) r3) q3;obtain⟨o,ho,hd'⟩:=e2;exact⟨o,EF ho (I3.freeC _ _ hcell) cellS,hd'⟩
 obtain⟨cell,hcell⟩:=I1.ok.has a (.inl hka);have gl:∀{s:Shared} {H:Hp},Yg X Ya Z H s->s.heap.Ns mainGlobals X.mg:=fun J=>J.mod.glob.keeps J.bk
 have C:CodeHd s1.heap c Pt:=codeHd_of_K I1.kIn hcK;have hPt:s1.heap.get? Pt=some (tabObj Pps):=I1.hok _ _ hP
 have gP:mainGlobals≠Pt:=fun z=>by
  obtain⟨o,es,ep,e,hd,_⟩:=gl I1;rw[z,hPt]at e;cases e;cases hd
 have hB:s1.heap.BuiltinsAt X.mg Pt:=by
  obtain⟨bm,ob,b1,b2,b3,b4,b5,b6⟩:=hbm;have e:=I1.bk _ _ b3;refine⟨bm,ob,b1,b2,fun z=>?_,fun z=>?_,e,b4,b5,b6⟩
  ·obtain⟨o,es,ep,e',hd,_⟩:=gl I1;rw[z,e']at e;cases e;rw[hd]at b6;cases b6
  ·rw[z,hPt]at e;cases e;cases b4
 refine kla_eval hdef ?_
 rcases hcs with hnf | ⟨c',hf,hc'⟩
 ·refine kla_makeFunction (hcl cell hcell) I1.ok.glob (gl I1) hcode C hPt htr hnf gP hB fun c' ctv h' tk hx' hge Yr hrec htb=>?_
  have J:=I1.grow (t':=tk) hP hx' htb hge hrec;have J':=J.kept (h':=h'.push _) (t':=tk) fun b u e=>ZI (kla_obj "<lambda>" (X.env.qual ++ "<lambda>") params body scope [(a,cell)] ((X.mg "__name__").getD .none) c' ctv) e
  have hcn:H1 c'=none:=I1.hok.fresh hge;have hcP:c'≠Pt:=fun z=>by rw[z,hP]at hcn;cases hcn
  refine fin _ _ h'.objs.size c' cell _ ctv J' hcell (ZS _ rfl) (J.hok.fresh (ZE _)) (ZBQ J.lt) (J.nofs (ZE _)) (fun b o n e=>?_) ⟨_,by rw[AJ (Ne.symm hcP),AD],?_,.inr ⟨c',?_,AD⟩⟩ AD
  ·have hbc:b≠c':=fun z=>by rw[z,hcn]at e;cases e
   rw[AJ hbc,AJ n];exact e
  ·rw[ZB6];exact TriplesOk_snoc _ _ _ _ htr
  ·rw[ZB6];exact codeAmong_snoc _ htr hnf
 ·refine kla_makeFunctionHit (hcl cell hcell) I1.ok.glob (gl I1) hcode C hPt htr hf hB fun ctv h' tk hk' hsz=>?_
  have J0:Yg X Ya Z H1 { s1 with heap:=h',toks:=tk }:=I1.kept hk';have J:=I1.kept (h':=h'.push _) (t':=tk) fun b u e=>ZI (kla_obj "<lambda>" (X.env.qual ++ "<lambda>") params body scope [(a,cell)] ((X.mg "__name__").getD .none) c' ctv) (hk' b u e)
  exact fin _ _ h'.objs.size c' cell _ ctv J hcell (ZS _ rfl) (J0.hok.fresh (ZE _)) (ZBQ J0.lt) (J0.nofs (ZE _)) (Yu.refl _ _) hL hc'
end
noncomputable abbrev GV(scope:Scope)(L:Addr)(a:Str)(cell:Addr)(qual:Str)(Yq c':Addr):Env:=newEnv scope L mainGlobals [(a,cell)] (qual ++ ".<locals>.") (some Yq) (.ref c') none builtinsNs
noncomputable def Hx(P:Program)(w:World)(K:W.Frag)(mg:Str->Option Value)(base:Heap)(scope:Scope)(a x:Str)(cell:Addr)(qual:Str)(Yq c':Addr)(A:Around)(outer:List Env)(s:Shared)(H:Hp):Cx where
 prog:=P
 w:=w
 K:=K
 mg:=mg
 base:=base
 A:=A.deeper (GV scope s.heap.objs.size a cell qual Yq c')
 N:=[x,a]
 s₀:=s
 H₀:=H
 env:=GV scope s.heap.objs.size a cell qual Yq c'
 outer:=outer
 stack:=GV scope s.heap.objs.size a cell qual Yq c'::outer
 ex:=[]
 calm:=true
 fn:=fun _=>false
 pn:=[]
 xe:=fun _ _=>False
noncomputable def CH(c':Addr)(qual:Str)(spB:V->Hp->VK->Prop):Sp:=fun vs H Q _=>match vs with
 | [v]=>H c'=some (CdO c' qual)/\spB v H Q
 | _=>False
theorem P9{c':Addr}{qual:Str}{spB:V->Hp->VK->Prop}(h:∀v H Q Q',(∀y H',Q y H'->Q' y H')->spB v H Q->spB v H Q'):AR (CH c' qual spB):=fun vs H Q Q' E k q=>by
 unfold CH at *;split at q
 ·exact⟨q.1,h _ _ _ _ k q.2⟩
 ·exact q.elim
theorem Ss {P:Program} {w:World} {K:W.Frag} {mg:Str->Option Value} {base:Heap} {k:Nat} {Yq cell c':Addr} {qual a x:Str} {params:Arguments} {body:Expr} {scope:Scope} {pm ctv:Value} {spB:V->Hp->VK->Prop} {vA:V} {uA:Value}
 (hl:base.get? Yq=some (kla_obj "<lambda>" qual params body scope [(a,cell)] pm c' ctv)) (hc:base.IsCell cell (some uA)) (rA:Yh vA uA)
 (hx:scope.names.lookup x=some .local) (ha:scope.names.lookup a=some .free) (hfr:∀y,scope.names.lookup y=some .free->y=a) (hco:scope.isCoroutine=false) (hgen:scope.isGenerator=false) (hkind:scope.kind=.function)
 (hcell:∀y∈scope.names,y.2≠.cell)
 (hbody:∀(A:Around) (outer:List Env) (s:Shared) (H:Hp) (v:V) (Q:VK),Room k (A.deeper (GV scope s.heap.objs.size a cell qual Yq c'))->spB v H Q ->
   ∃te,PE (Hx P w K mg base scope a x cell qual Yq c' A outer s H) body te/\te [some v,some vA] H Q) :
 FnOk P w K mg base CX0 (k+1) Yq (kla_fn "<lambda>" qual params body scope [(a,cell)] pm (.ref c') ctv) [x] (CH c' qual spB):=by
 refine⟨fun vs H Q E h=>by unfold CH at h;split at h;rfl;exact h.elim,fun A outer s H args us vs Q E hr e0 hbd r hsp=>?_⟩
 match vs,hsp,r with
 | [v],⟨hcd,hq⟩,r =>
 obtain⟨u,rfl,ru⟩:=BS r;have lim:s.heap.NoLimit:=e0.mod.nolimit.keeps fun b o e=>(e0.bs b o e).1
 obtain⟨hcr,_⟩:=e0.hok _ _ hcd;refine kla_callFunE hr.depth (e0.bs _ _ hl).1 rfl hco hgen rfl hcr (hbd _ _ _ _ ?_);refine wpAny_newFunctionEnv hcell (fun y hy=>by rw[ZO.mp hy];exact hx) (fun h₁ hns hsb=>⟨lim.fresh _ hsb,?_⟩) hkind;have hk₁:∀b o,s.heap.get? b=some o->h₁.get? b=some o:=fun b o e=>hsb.extBut b o (ZT (ZG e)) (ZI _ e)
 refine kla_codeExpr ?_;obtain⟨te,ht,hte⟩:=hbody A outer s H v Q (hr.deeper _) hq
 have hcell1:h₁.IsCell cell (some uA):=by
  obtain⟨o,e,d⟩:=hc;exact⟨o,hk₁ _ _ (e0.bs _ _ e).1,d⟩
 have hcH:H cell=none:=by
  obtain⟨o,e,d⟩:=hc;exact(e0.bs _ _ e).2
 have lk:∀y c,List.lookup y [(a,cell)]=some c->y=a/\c=cell:=fun y c e=>by
  rw[Z5]at e
  by_cases z:y=a
  ·subst z;simp at e;exact⟨rfl,e.symm⟩
  ·rw[beq_eq_false_iff_ne.mpr z]at e;cases e
 have noA:∀b:Addr,b∉(Hx P w K mg base scope a x cell qual Yq c' A outer s H).ex:=fun b z=>absurd (show b∈([]:List Addr) from z) (by simp)
 have kindc:∀y,scope.names.lookup y≠some .cell:=fun y z=>hcell _ (PySem.mem_of_lookup z) rfl
 have nax:a≠x:=fun z=>by rw[z,hx]at ha;cases ha
 have I:Yg (Hx P w K mg base scope a x cell qual Yq c' A outer s H) [] [some v,some vA] H { s with heap:=h₁,toks:=s.toks+[(x,u)].length }:=by
  refine⟨⟨e0.mod,hkind,rfl,rfl,ZE _,fun y z c h1 h2=>?_,fun y hy=>?_,fun y c hf _=>?_,fun _=>hr.hd,Around.frames_deeper e0.frames,.inr ⟨rfl,rfl⟩,fun b z=>absurd z (noA b),e0.bs,e0.bsz,fun b _ _=>noA b,fun b z=>absurd z (noA b),e0.funs,e0.frf⟩,
   rfl,e0.bare,Un.kept hk₁,⟨_,hns,fun i y z h1 h2 h3=>?_⟩,fun y c h=>?_,e0.hok.fresh (ZE _),fun y c h=>?_,fun p hp=>absurd (show p∈([]:List (Addr × Obj)) from hp) (by simp),e0.hok.kept hk₁,rfl⟩
  ·exact(lk _ _ h1).1.trans (lk _ _ h2).1.symm
  ·have hy:scope.names.lookup y=some .cell\/scope.names.lookup y=some .free:=hy
   rcases hy with hy | hy
   ·exact absurd hy (kindc y)
   ·rw[hfr y hy];exact⟨cell,by show List.lookup a [(a,cell)]=_;simp⟩
  ·cases hf
  ·match i,h1,h2 with
   | 0,h1,h2 =>
    cases h1;cases h2;exact⟨u,ru,.inl ⟨hx,by simp⟩⟩
   | 1,h1,h2 =>
    cases h1;cases h2;exact⟨uA,rA,.inr ⟨.inr ha,cell,by show List.lookup a [(a,cell)]=_;simp,hcell1⟩⟩
   | n+2,h1,h2=>cases h2
  ·obtain⟨_,rfl⟩:=lk y c h;exact⟨_,hcell1⟩
  ·obtain⟨_,rfl⟩:=lk y c h;exact hcH
 refine Zs (ht [] _ _ _ _ I hte) (fun u' s' hs=>?_) fun e s' hs=>False.elim hs
 obtain⟨v',H',J,rv,q⟩:=hs;exact⟨v',H',J.os,J.bare,J.base,J.hok,rv,q⟩
end L2
namespace L2
open PySem PyProof.Rows
noncomputable def GL(K:W.Frag):V->List V->Hp->VK->Prop:=fun x vs H Q=>match x,vs with
 | .ref l,[.ref b]=>∃xs ys,H l=some (.lst xs)/\Yp K H b ys/\xs.length+ys.length<=100000/\Q .non (upd H l (.lst (xs++ys)))
 | _,_=>False
section
variable {X:Cx}{K:W.Frag}{o e:Expr}{to:TE}{t:TA}{apos cpos:Pos}
theorem Sd:MtR X "list.extend" (GL X.K):=by
 intro Ya s Z H x vs v us Q I rx rv q
 match x,vs,q with
 | .ref l,[.ref b],⟨xs,ys,hH,hb,h3,q⟩ =>
 cases rx;obtain⟨u,rfl,ru⟩:=BS rv;cases ru;obtain⟨z,Ye,n,r,hl,e⟩:=I.lstM hH;obtain⟨its2,r2,⟨o2,e2,c2,n2,d2⟩,hz2⟩:=I.tuple hb;have l1:=r.length;have l2:=r2.length
 have hlb:l≠b:=fun q=>by
  rw[q,e2]at e;cases e;exact absurd c2 (by simp)
 refine Zz F.slot_list_extend ⟨_,e,rfl⟩ F.entry_list_extend ?_ (F.args_list_extend_2 _ _);show wpAny _ _ (Builtin.List.listExtendWith (.ref l) (.ref b) .none) _ _ s;unfold Builtin.List.listExtendWith;refine ZA (wpAny_typeOf (T:="tuple") ⟨o2,e2,c2⟩ ?_);have h1:Builtin.List.listSameRef (.ref l) (.ref b)=false:=by simp[Builtin.List.listSameRef,hlb]
 have h2:(Value.type "tuple" == Value.type "list")=false:=by decide
 have h3':(Value.type "tuple" == Value.type "tuple")=true:=by decide
 simp only[h1,h2,h3',Bool.or_true,if_true];refine ZA (listItems_at e2 d2 (ZA (listItems_at e rfl ?_)))
 rw[if_neg (by
  rw[ZQ];rintro⟨_,q⟩;unfold Builtin.List.listTooLong at q;simp[sizeLine_eq]at q;lia)]
 refine ZA (listUpdate_at e rfl ?_ (by rw[ZK,sizeLine_eq];lia) (by rw[Array.size_append,ZK,ZK,sizeLine_eq];lia));refine ZC ⟨_,rfl,?_⟩;exact⟨.non,_,I.lset (its':=Ye++its2) hH e (by simp) (r.append r2) (by rw[ZM,sizeLine_eq];lia),rfl,q⟩
theorem Xc (ho:PE X o to) (ha:PA X [e] t) (hbase:attributeBase o "extend" X.env (eval o X.env)=eval o X.env:=by rfl)
 (hfew:((backTo cpos (starEach [e] X.env)).all (fun x=>!x.1) && (backToKw cpos (keywordEach [] X.env)).all (fun x=>x.1.isSome)
   && decide ([e].length+([]:List Keyword).length+(if ([]:List Keyword).isEmpty then 0 else 1) < 30))=true:=by rfl)
 (hline:(apos.endLine == cpos.line)=true:=by rfl) (hs:starEach [e] X.env=(false,eval e X.env)::starEach [] X.env:=by rfl) (hplain:(backTo cpos (starEach [] X.env)).any (·.1)=false:=by rfl) (hK:X.K=K:=by rfl) :
 PE X (.Call (.Attribute o "extend" apos) [e] [] cpos) (tBM K "list" (GL K) to t):=hK ▸ FR PySem.F.plainAttrs_list PySem.F.slot_list_extend PySem.F.type_list_extend Sd ho ha hbase hfew hline hs hplain
theorem P8:DU (GL K):=fun x xs H Q Q' h q=>by
 unfold GL at *;split at q
 ·obtain⟨a,b,c,d,e,q⟩:=q;exact⟨a,b,c,d,e,h _ _ q⟩
 ·exact q.elim
end
end L2
namespace L2
open PySem PySem.Spec PyProof.Rows
theorem Rl {prog:Program} {w:World} {A:Around} {R:Result->Shared->Prop} {I S:Addr} {fp wr:List Addr} {n:Nat} {P:Nat->Value->Prop} {St:Nat->Heap->Prop} {x0:Str} {d0:Value}
 (W:Walks prog w A.in1 I fp wr n P St) (val:Nat->Int) (hval:∀i v,P i v->∃t,v=.int (val i) t) (hSf:S∉fp) :
 ∀(k j:Nat) (s:Shared) (cur:Array Value) (c:Nat),n - j=k->j<=n->St j s.heap->s.heap.get? S=some { cls:=.type "list",dict:=none,data:=.seq cur c,slots:=#[] } ->
  ((j=0/\cur = #[])\/∃i v,i < j/\cur = #[v,v]/\P i v/\∀i',i' < j->val i'<=val i) ->
  (∀v h' tk,((n=0/\v=d0)\/∃i,i < n/\P i v/\∀i',i' < n->val i'<=val i)->(∀b o,b∉wr->b≠S->s.heap.get? b=some o->h'.get? b=some o)->R (.ok (.ret v)) { s with heap:=h',toks:=tk }) ->
  codeAny (model prog w) A (.builtin "max.loop" ⟨[.ref I,.none,.ref S],[(x0,d0)]⟩) R s:=by
 have hSw:S∉wr:=fun h=>hSf (W.sub _ h);have nm:(toString "max" ++ toString ".loop" : String) = "max.loop":=by decide
 intro k
 induction k with
 | zero =>
  intro j s cur c hk hj hst hS hcur hR;obtain rfl:j=n:=by lia
  refine ZBD F.entry_max_loop (by
   rw[ZBI F.plain_max_loop _];show wpAny _ _ (seqItems? (Value.ref S) >>= _) _ _ _;refine ZA (wpAny_seqItems hS rfl (show wpAny _ _ (tryCatch (pyNext (Value.ref I)) _ >>= _) _ _ _ from ZA (ZBP (W.done s _ _ hst fun h' tk hk'=>?_))))
   rcases hcur with ⟨z,rfl⟩ | ⟨i,v,hi,rfl,hP,hm⟩
   ·show wpAny _ _ (rule _ >>= _) _ _ _;exact ZA (wpAny_rule (ZC (hR d0 h' tk (.inl ⟨z,rfl⟩) fun b o hb _ e=>hk' b o hb e)))
   ·show wpAny _ _ (updateSeq S (fun _=>#[]) >>= _) _ _ _;exact ZA (wpAny_updateSeq (hk' S _ hSw hS) rfl (ZA (ZBW (ZC (hR v _ tk (.inr ⟨i,hi,hP,hm⟩) fun b o hb hbS e=>(ZBF _ _ (Ne.symm hbS)).trans (hk' b o hb e)))))))
 | succ k ih =>
  intro j s cur c hk hj hst hS hcur hR;have Yr:j < n:=by lia
  have hk1:n - (j+1)=k:=by rw[Nat.sub_add_eq,hk];rfl
  refine ZBD F.entry_max_loop (by
   rw[ZBI F.plain_max_loop _];show wpAny _ _ (seqItems? (Value.ref S) >>= _) _ _ _;refine ZA (wpAny_seqItems hS rfl (show wpAny _ _ (tryCatch (pyNext (Value.ref I)) _ >>= _) _ _ _ from ZA (ZBP (W.item j s _ _ Yr hst fun v h' tk hP hst' hk'=>?_))));have hS':=hk' S _ hSw hS
   have go:∀(h2:Heap) (cur':Array Value) (c':Nat),(∀b,b≠S->h2.get? b=h'.get? b)->h2.get? S=some { cls:=.type "list",dict:=none,data:=.seq cur' c',slots:=#[] } -> (∃i v,i < j+1/\cur' = #[v,v]/\P i v/\∀i',i' < j+1->val i'<=val i) ->
    codeAny (model prog w) A (.builtin "max.loop" ⟨[.ref I,.none,.ref S],[(x0,d0)]⟩) R { s with heap:=h2,toks:=tk }:=fun h2 cur' c' hx hS2 hc2 =>
    ih (j+1) { s with heap:=h2,toks:=tk } cur' c' hk1 Yr (W.frame _ _ _ hst' fun b hb o e=>(hx b fun z=>hSf (z ▸ hb)).trans e) hS2 (.inr hc2) fun v' h3 tk3 hv hk3=>hR v' h3 tk3 hv fun b o hb hbS e=>hk3 b o hb hbS ((hx b hbS).trans (hk' b o hb e))
   rcases hcur with ⟨z,rfl⟩ | ⟨i,u,hi,rfl,hPu,hm⟩
   ·subst z;show wpAny _ _ (updateSeq S (fun _=>#[v,v]) >>= _) _ _ _;refine ZA (wpAny_updateSeq hS' rfl ?_);rw[nm];exact ZC ⟨ZBA F.plain_max_loop _,go _ _ _ (fun b hb=>ZBF _ _ (Ne.symm hb)) (ZBd _ hS' rfl) ⟨0,v,by lia,rfl,hP,fun i' h=>by rw[show i'=0 by lia];exact Int.le_refl _⟩⟩
   ·show wpAny _ _ (tryCatch (holding [v,v] (richCompare .Gt v u >>= _)) _ >>= _) _ _ _;refine ZA (ZBP (Zk (ZA (CmpOf.ints_gt val hval j i v u _ _ _ hP hPu (ZA (Zk (Z9 (ZA (ZBW (ZC ?_))))))))));show wpAny _ _ (if decide (val j > val i)=true then _ else _) _ _ _
    by_cases hb:val j > val i
    ·rw[if_pos (ZL hb)];show wpAny _ _ (updateSeq S (fun _=>#[v,v]) >>= _) _ _ _;refine ZA (wpAny_updateSeq hS' rfl (ZA (ZBW ?_)));rw[nm]
     exact ZC ⟨ZBA F.plain_max_loop _,go _ _ _ (fun b hb=>ZBF _ _ (Ne.symm hb)) (ZBd _ hS' rfl) ⟨j,v,by lia,rfl,hP,fun i' h=>by
      rcases Zu i' j with z | z
      ·have:=hm i' z;lia
      ·rw[show i'=j by lia];exact Int.le_refl _⟩⟩
    ·rw[if_neg (fun z=>hb (ZR z))];show wpAny _ _ (letGo [v,v] >>= _) _ _ _;refine ZA (ZBW ?_);rw[nm]
     exact ZC ⟨ZBA F.plain_max_loop _,go h' _ _ (fun b _=>rfl) hS' ⟨i,u,by lia,rfl,hPu,fun i' h=>by
      rcases Zu i' j with z | z
      ·exact hm i' z
      ·rw[show i'=j by lia];lia⟩⟩)
theorem WQ(a d:Value):argsOk "max" ⟨[a],[(Str.ofString "default",d)]⟩:=by unfold argsOk;kernel_rfl
theorem Qd {prog:Program} {w:World} {A:Around} {E:Value->Shared->Prop} {s:Shared} {l:Addr} {xs:Array (Int × Tok)} {d0:Value} {Q:Value->Shared->Prop} (hh:A.handled=none) (hl:s.heap.IsList l (intItems xs))
 (h:∀v h' tk,((xs.size=0/\v=d0)\/∃i,i < xs.size/\(intItems xs)[i]? = some v/\∀i',i' < xs.size->numAt xs i'<=numAt xs i)->(∀b o,s.heap.get? b=some o->h'.get? b=some o)->Q v { s with heap:=h',toks:=tk }) :
 wpAny (model prog w) A (call (.builtin "max") [.ref l] [(Str.ofString "default",d0)]) Q E s:=by
 refine kmk_tree F.kind_max F.plain_max F.entry_max (WQ _ _) (by
  show wpAny _ _ (Builtin.Builtins.bindParams "max" ["key","default"] 0 ⟨[],[(Str.ofString "default",d0)]⟩ >>= _) _ _ s;refine ZA (wpAny_of_eq (show Builtin.Builtins.bindParams "max" ["key","default"] 0 ⟨[],[(Str.ofString "default",d0)]⟩=pure [none,some d0] from rfl) (ZA (ZC (ZA (iter_intList hl fun s2 e st hfp hlI=>?_)))));subst e;have W:=Walks.list (prog:=prog) (w:=w) (A:=A.in1) hh s.heap.objs.size l hlI (intItems xs);refine ZA (Zx ?_);have sz:(intItems xs).size=xs.size:=by simp[intItems]
  refine ZC ⟨by rfl,Rl W (numAt xs) (fun _ _ z=>intItems_at z) (S:=(s.heap.push { cls:=.type "list_iterator",data:=.fields #[.ref l,.int 0 0] }).objs.size) (fun hm=>Zd _ (hfp _ hm)) _ 0 _ #[] _ rfl (ZV _) (W.frame _ _ _ st fun b _ o e=>ZI _ e) (ZS _ rfl) (.inl ⟨rfl,rfl⟩) fun v h' tk hv hk=>?_⟩;refine h v h' tk ?_ (old_kept (l:=l) fun b o hb e=>hk b o hb (ZT (ZG e)) (ZI _ e));rw[sz]at hv;exact hv)
section
variable {X:Cx}{K:W.Frag}{e:Expr}{te:TE}{p pos kpos cp:Pos}{kd:Nat}{i:Int}
noncomputable def OX(K:W.Frag)(i:Int)(te:TE):TE:=fun Z H Q=>te Z H fun x H1=>∃l ns,x=.ref l/\Yw K H1 l (ns.map V.int)/\∀M:Int,(ns=[]->M=i)->(ns≠[]->M∈ns/\∀a∈ns,a<=M)->Q (.int M) H1
theorem PZ(h:Af te):Af (OX K i te):=fun Z H Q Q' j q=>h _ _ _ _ (fun x H1 ⟨l,ns,h1,h2,q⟩=>⟨l,ns,h1,h2,fun M a b=>j _ _ (q M a b)⟩) q
theorem Lg (he:PE X e te) (hm:X.mg "max" = none) (hc:X.calm=true) (hg:Gl X "max":=by rfl) (hK:X.K=K:=by rfl)
 (hst:starEach [e] X.env=(false,eval e X.env)::starEach [] X.env:=by rfl) :
 PE X (.Call (.Name "max" p) [e] [⟨some "default",.Constant (.int i) kd cp,kpos⟩] pos) (OX K i te):=by
 intro Ya s Z H Q I h;subst hK;refine wpAny_Call_Name_kw (Cv I hg hm (show bootBuiltins "max" = some (.builtin "max") by kernel_rfl) ?_);refine callWith_kw (e:=e) (rest:=[]) (id:="max") ?_ (by rw[hst];rfl) (by rw[hst];rfl);refine Yn ((AA he AB hst) pos Ya s Z H (fun vs H1=>match vs with | [x]=>(∃l ns,x=.ref l/\Yw X.K H1 l (ns.map V.int)/\∀M:Int,(ns=[]->M=i)->(ns≠[]->M∈ns/\∀a∈ns,a<=M)->Q (.int M) H1) | _=>False) I h) fun us s1 ⟨vs,H1,I1,r1,q1⟩=>?_
 match vs,r1,q1 with
 | [_],.cons rx .nil,⟨l,ns,ex,hl,q⟩ =>
 subst ex;cases rx;show wpAny _ _ (evalAll ((do let v <- eval (.Constant (.int i) kd cp) X.env;standAt pos;pure v)::[])) _ _ s1;refine wpAny_evalAll_cons (ZA (wpAny_Constant_int (ZA (ZBZ (ZC (wpAny_evalAll_nil ?_))))));obtain⟨Ye,rv,pl,hz⟩:=I1.list hl;have hi:IntsAre Ye ns:=by simpa using EI rv
 obtain⟨zs,hzs⟩:=(hi.allInts).items;have pl':=pl.isList;rw[hzs]at pl'
 have hns:ns=zs.toList.map (·.1):=by
  rw[<- hi.numsOf,<- nums_intItems,<- hzs]
 have Yk:ns.length=zs.size:=by rw[hns,ZB,Zj]
 have hnum:∀j,j < zs.size->∃z,ns[j]? = some z/\numAt zs j=z:=fun j hj=>by
  rw[hns];exact⟨zs[j].1,by simp[hj],by simp[numAt,hj]⟩
 refine Qd (I1.ok.hd hc) pl' fun v h' tk hv hk=>?_
 rcases hv with ⟨z,rfl⟩ | ⟨j,hj,ev,hm⟩
 ·have:ns=[]:=ZB5.mp (by lia)
  exact⟨.int i,H1,I1.kept (t':=tk) hk,⟨_,rfl⟩,q i (fun _=>rfl) (fun y=>absurd this y)⟩
 ·obtain⟨t,rfl⟩:=intItems_at ev;obtain⟨z,ez,e2⟩:=hnum j hj;refine⟨.int (numAt zs j),H1,I1.kept (t':=tk) hk,⟨_,rfl⟩,q _ (fun y=>?_) fun _=>⟨?_,fun a ha=>?_⟩⟩
  ·rw[y]at Yk;simp at Yk;lia
  ·rw[e2];exact Zt ez
  ·obtain⟨j',hj'⟩:=List.getElem?_of_mem ha;have Yr:j' < zs.size:=by rw[<- Yk];exact(Zf.mp hj').1
   obtain⟨z',ez',e2'⟩:=hnum j' Yr;rw[hj']at ez';cases ez';rw[<- e2'];exact hm j' Yr
end
end L2
namespace L2
open PySem PyProof.Rows
noncomputable def Ep(K:W.Frag):V->List V->Hp->VK->Prop:=fun x vs H Q=>match x,vs with
 | .ref l,[.ref b]=>∃xs ys,H l=some (.lst xs)/\Yw K H b ys/\b≠l/\xs.length+ys.length<=16000000/\Q .non (upd H l (.lst (xs++ys)))
 | _,_=>False
section
variable {X:Cx}{K:W.Frag}{o e:Expr}{to:TE}{t:TA}{apos cpos:Pos}
theorem Wp:MtR X "list.extend" (Ep X.K):=by
 intro Ya s Z H x vs v us Q I rx rv q
 match x,vs,q with
 | .ref l,[.ref b],⟨xs,ys,hH,hb,Yv,h3,q⟩ =>
 cases rx;obtain⟨u,rfl,ru⟩:=BS rv;cases ru;obtain⟨z,Ye,n,r,hl,e⟩:=I.lstM hH;obtain⟨its2,r2,pl2,hz2⟩:=I.list hb;obtain⟨o2,e2,c2,n2,d2⟩:=pl2.isList;have l1:=r.length;have l2:=r2.length;have hlb:l≠b:=Ne.symm Yv;refine Zz F.slot_list_extend ⟨_,e,rfl⟩ F.entry_list_extend ?_ (F.args_list_extend_2 _ _);show wpAny _ _ (Builtin.List.listExtendWith (.ref l) (.ref b) .none) _ _ s;unfold Builtin.List.listExtendWith;refine ZA (wpAny_typeOf (T:="list") ⟨o2,e2,c2⟩ ?_);have h1:Builtin.List.listSameRef (.ref l) (.ref b)=false:=by simp[Builtin.List.listSameRef,hlb]
 have h2:(Value.type "list" == Value.type "list")=true:=by decide
 simp only[h1,h2,Bool.true_or,if_true];refine ZA (listItems_at e2 d2 (ZA (listItems_at e rfl ?_)))
 rw[if_neg (by
  rw[ZQ];rintro⟨_,q⟩;unfold Builtin.List.listTooLong at q;simp[sizeLine_eq]at q;lia)]
 refine ZA (listUpdate_at e rfl ?_ (by rw[ZK,sizeLine_eq];lia) (by rw[Array.size_append,ZK,ZK,sizeLine_eq];lia));refine ZC ⟨_,rfl,?_⟩;exact⟨.non,_,I.lset (its':=Ye++its2) hH e (by simp) (r.append r2) (by rw[ZM,sizeLine_eq];lia),rfl,q⟩
theorem RG (ho:PE X o to) (ha:PA X [e] t) (hbase:attributeBase o "extend" X.env (eval o X.env)=eval o X.env:=by rfl)
 (hfew:((backTo cpos (starEach [e] X.env)).all (fun x=>!x.1) && (backToKw cpos (keywordEach [] X.env)).all (fun x=>x.1.isSome)
   && decide ([e].length+([]:List Keyword).length+(if ([]:List Keyword).isEmpty then 0 else 1) < 30))=true:=by rfl)
 (hline:(apos.endLine == cpos.line)=true:=by rfl) (hs:starEach [e] X.env=(false,eval e X.env)::starEach [] X.env:=by rfl) (hplain:(backTo cpos (starEach [] X.env)).any (·.1)=false:=by rfl) (hK:X.K=K:=by rfl) :
 PE X (.Call (.Attribute o "extend" apos) [e] [] cpos) (tBM K "list" (Ep K) to t):=hK ▸ FR PySem.F.plainAttrs_list PySem.F.slot_list_extend PySem.F.type_list_extend Wp ho ha hbase hfew hline hs hplain
theorem XD:DU (Ep K):=fun x xs H Q Q' h q=>by
 unfold Ep at *;split at q
 ·obtain⟨a,b,c,d,n,e,q⟩:=q;exact⟨a,b,c,d,n,e,h _ _ q⟩
 ·exact q.elim
end
theorem MG {d:Addr} {o:Obj} {Yd:List (Key × V)} {g:TG} {tc:TT} {te:TE} {σc:St} {Q:VK} {H:Hp} (Pv:Nat->List V->Hp->Prop) (h0:Pv 0 [] H) (hl:∀i ys H,i<=Yd.length->Pv i ys H->H d=some (.frz o (.dK Yd))) (hz:∀i ys H,i < Yd.length->Pv i ys H->ys.length < sizeLine)
 (hs:∀i r p ys H,Yd[i]? = some r->Pv i ys H->H p=none->g (.ref p) σc (upd H p (.tup [kV r.1,r.2])) fun σ2 H2=>tc σ2 H2 fun b H3=>if b=true then te σ2 H3 fun y H4=>Pv (i+1) (ys++[y]) H4 else Pv (i+1) ys H3)
 (hd:∀ys H,Pv Yd.length ys H->∀p,H p=none->Q (.ref p) (upd H p (.lst ys))):C9 (Itm d o) g tc te σc Q H:=by
 refine⟨fun i m ys H=>m=Yd.length - i/\i<=Yd.length/\Pv i ys H,⟨Yd.length,by simp,ZV _,h0⟩,?_⟩;rintro i m ys H ⟨rfl,hi,p⟩;have q:=hl i ys H hi p
 by_cases Yr:i < Yd.length
 ·refine .inr ⟨⟨Yd,Yd[i],q,by simp[Yr]⟩,hz i ys H Yr p,Pv (i+1),fun ys' H' p'=>⟨Yd.length - (i+1),by lia,rfl,Yr,p'⟩,fun x H' y=>?_⟩;obtain⟨pp,kvs',r,e1,e2,e3,rfl,rfl⟩:=y;rw[q]at e1;cases e1;exact hs i r pp ys H e2 p e3
 ·have e:i=Yd.length:=by lia
  subst e;exact .inl ⟨⟨Yd,q,ZE _⟩,hd ys H p⟩
end L2
namespace L2
open PySem PySem.Spec PyProof.Rows
noncomputable abbrev TX:=St->Hp->VK->XK->Prop
section
variable {prog:Program} {w:World} {A:Around} {E:Value->Shared->Prop} {h:Heap} {g:Array GenState} {d:Drawn} {t:Nat} {os:OsState}
 {nm q:Str} {C N:Addr} {bs bm bmB:List Value} {hdct:Bool} {sn:List Str} {sub:List Value} {ab:Bool} {col:Option Bool} {dd:Option Addr} {k0 k1 k2 k3 k5:Option Value} {B Bn newId nid initId inN:String} {bmN:List Value}
end
noncomputable abbrev XW:=Addr->Addr->Option Addr->St->Hp->Prop
noncomputable abbrev TSX:=XW->St->Hp->Prop
end L2
namespace L2
open PySem PySem.Spec PyProof.Rows PySem.W
section
variable {X:Cx}{Ya:List (Addr × Obj)}{Z:St}
structure MinSt(X:Cx)(Ya:List (Addr × Obj))(Z:St)(l I S:Addr)(xs:List V)(J:Nat->Hp->Prop)(kf:Nat->Int)(j i:Nat)(vb:Value)(H:Hp)(s:Shared):Prop where
 inv:Yg X Ya Z H s
 fI:BJ X Ya H I
 fS:BJ X Ya H S
 gS:∃tb c,s.heap.get? S=some (seqObj "list" #[vb,.int (kf i) tb] c)
 it:s.heap.IsListIter I l (j+1)
 rb:∃x,xs[i]? = some x/\Yh x vb
 at_:J (j+1) H
noncomputable abbrev Ld(X:Cx)(Ya:List (Addr × Obj))(Z:St)(q:Addr)(xs:List V)(J:Nat->Hp->Prop)(kf:Nat->Int):Prop :=
 ∀(n:Nat) (x:V) (u:Value) (H:Hp) (s:Shared) (pl:List (Addr × Obj)),xs[n]? = some x->Yh x u->J n H->Yg X (Ya++pl) Z H s ->
  wpAny (model X.prog X.w) X.A.in1 (call (.ref q) [u]) (fun y s'=>∃H' t,y=.int (kf n) t/\Yg X (Ya++pl) Z H' s'/\J (n+1) H') (fun _ _=>False) s
theorem TM {q l I S:Addr} {xs:List V} {J:Nat->Hp->Prop} {kf:Nat->Int} {R:Result->Shared->Prop} (hc:X.calm=true) (hSI:S≠I) (hlI:l≠I)
 (hl:∀n H,J n H->Yw X.K H l xs) (turn:Ld X Ya Z q xs J kf)
 (hR:∀i x v H s,xs[i]? = some x->Yh x v->(∀j,j < xs.length->kf i<=kf j/\(j < i->kf i < kf j))->J xs.length H->Yg X Ya Z H s->R (.ok (.ret v)) s) :
 ∀(r j i:Nat) (vb:Value) (H:Hp) (s:Shared),xs.length - (j+1)=r->j+1<=xs.length->MinSt X Ya Z l I S xs J kf j i vb H s->i<=j->(∀j',j'<=j->kf i<=kf j'/\(j' < i->kf i < kf j')) ->
  codeAny (model X.prog X.w) X.A (.builtin "min.loop" ⟨[.ref I,.ref q,.ref S],[]⟩) R s:=by
 have hname:(toString "min" ++ toString ".loop" : String) = "min.loop":=by decide
 intro r
 induction r with
 | zero =>
  intro j i vb H s hr hj M hij hbest;obtain⟨tb,c,gS⟩:=M.gS;obtain⟨xb,hxb,rb⟩:=M.rb;have hh:=M.inv.ok.hd hc;obtain⟨Ye,rv,pl,hz⟩:=M.inv.list (hl _ _ M.at_);have Yk:=rv.length;have W:=Walks.list (prog:=X.prog) (w:=X.w) (A:=X.A.in1) hh I l hlI Ye.toArray;have hsz:Ye.toArray.size=Ye.length:=ZK ..;have hin:j+1=Ye.length:=by lia
  refine ZBD PySem.F.entry_min_loop ?_;rw[ZBI PySem.F.plain_min_loop _];show wpAny _ X.A.in1 (seqItems? (.ref S) >>= _) _ _ _;refine ZA (wpAny_seqItems gS rfl ?_);show wpAny _ X.A.in1 (tryCatch (pyNext (.ref I)) _ >>= _) _ _ _;refine ZA (ZBP (W.done _ _ _ ⟨by rw[hsz,<- hin];exact M.it,pl.isList⟩ fun h' tk' hk'=>?_));have I1:Yg X Ya Z H { s with heap:=h',toks:=tk' }:=M.inv.turned (fun b o n e=>hk' b o (by simpa using n) e) M.fI.1 M.fI.2.1 M.fI.2.2.2.1 M.fI.2.2.2.2.1 M.fI.2.2.2.2.2;have hS':=hk' S _ (by simpa using hSI) gS;have s1:=Z7 h' S (Obj.mapSeq fun _=>(#[]:Array Value));show wpAny _ X.A.in1 (updateSeq S (fun _=>#[]) >>= _) _ _ _;refine ZA ?_;refine wpAny_updateSeq hS' rfl (ZA (ZBW (ZC ?_)));have I2:=I1.turned (t':=tk') (h':=h'.update S (Obj.mapSeq fun _=>(#[]:Array Value))) (fun b o n e=>(s1.2 b n).trans e) M.fS.1 M.fS.2.1 M.fS.2.2.2.1 M.fS.2.2.2.2.1 M.fS.2.2.2.2.2;exact hR i xb vb H _ hxb rb (fun j' hj'=>hbest j' (by lia)) (by rw[show xs.length=j+1 by lia];exact M.at_) I2
 | succ r ih =>
  intro j i vb H s hr hj M hij hbest;obtain⟨tb,c,gS⟩:=M.gS;obtain⟨xb,hxb,rb⟩:=M.rb;have hh:=M.inv.ok.hd hc;obtain⟨Ye,rv,pl,hz⟩:=M.inv.list (hl _ _ M.at_);have Yk:=rv.length;have W:=Walks.list (prog:=X.prog) (w:=X.w) (A:=X.A.in1) hh I l hlI Ye.toArray;have hsz:Ye.toArray.size=Ye.length:=ZK ..;have Yr:j+1 < xs.length:=by lia
  refine ZBD PySem.F.entry_min_loop ?_;rw[ZBI PySem.F.plain_min_loop _];show wpAny _ X.A.in1 (seqItems? (.ref S) >>= _) _ _ _;refine ZA (wpAny_seqItems gS rfl ?_);show wpAny _ X.A.in1 (tryCatch (pyNext (.ref I)) _ >>= _) _ _ _;refine ZA (ZBP (W.item (j+1) _ _ _ (by rw[hsz];lia) ⟨M.it,pl.isList⟩ fun v h' tk' hP hst' hk'=>?_));have hv:Ye[j+1]? = some v:=by simpa using hP
  obtain⟨x,hx⟩:∃x,xs[j+1]? = some x:=⟨_,ZD Yr⟩;obtain⟨u,hu,ru⟩:=rv.get hx;rw[hv]at hu;cases hu;have I1:Yg X Ya Z H { s with heap:=h',toks:=tk' }:=M.inv.turned (fun b o n e=>hk' b o (by simpa using n) e) M.fI.1 M.fI.2.1 M.fI.2.2.2.1 M.fI.2.2.2.2.1 M.fI.2.2.2.2.2;have gS1:=hk' S _ (by simpa using hSI) gS;obtain⟨oI',hoI',hoc,hod⟩:=id hst'.1
  have I2:=I1.pinned (fp:=[I,S]) (fun b hb=>by
   rcases ZH.mp hb with rfl | hb
   ·exact M.fI
   ·rw[ZO.mp hb];exact M.fS) (fun b hb=>by
   rcases ZH.mp hb with rfl | hb
   ·exact⟨oI',hoI',fun v z=>by rw[hod]at z;cases z⟩
   ·rw[ZO.mp hb];exact⟨_,gS1,fun v z=>by cases z⟩)
  show wpAny _ X.A.in1 (tryCatch (holding [v] (call (.ref q) [v])) _ >>= _) _ _ _;refine ZA (ZBP (Zk (Zs (turn (j+1) x v H _ _ hx ru M.at_ I2) (fun y s2 he=>?_) fun _ _ hF=>hF.elim)));obtain⟨H2,t2,rfl,I3,hJ2⟩:=he;have pI:=I3.pin (I,oI') (ZY _ (ZY _ (Ck (by simp) hoI')));have pS:=I3.pin (S,_) (ZY _ (ZY _ (Ck (by simp) gS1)));have I4:=I3.unpinned;have fI2:BJ X Ya H2 I:=⟨pI.2.1,M.fI.2⟩;have fS2:BJ X Ya H2 S:=⟨pS.2.1,M.fS.2⟩;show wpAny _ X.A.in1 (tryCatch (holding [v,.int (kf (j+1)) t2] (richCompare .Lt (.int (kf (j+1)) t2) (.int (kf i) tb) >>= _)) _ >>= _) _ _ _;refine ZA (ZBP (Zk (ZA (CmpOf.ints_lt (prog:=X.prog) (w:=X.w) (A:=X.A.in1) (P:=fun i v=>∃t,v=.int (kf i) t) kf (fun i v h=>h) (j+1) i _ _ _ _ _ ⟨t2,rfl⟩ ⟨tb,rfl⟩ ?_))));refine ZA (Zk (Z9 ?_));refine ZA (ZBW (ZC ?_))
  by_cases hb':kf (j+1) < kf i
  ·have s1:=Z7 s2.heap S (Obj.mapSeq fun _=>#[v,.int (kf (j+1)) t2]);obtain⟨c2,hc2⟩:∃c2,(s2.heap.update S (Obj.mapSeq fun _=>#[v,.int (kf (j+1)) t2])).get? S=some (seqObj "list" #[v,.int (kf (j+1)) t2] c2):=⟨_,get?_update_seq pS.1 fun _=>#[v,.int (kf (j+1)) t2]⟩;simp only[hb',decide_true,if_true];refine ZA ?_;refine wpAny_updateSeq pS.1 rfl (ZA (ZBW ?_));rw[hname];have I5:=I4.turned (t':=s2.toks) (h':=s2.heap.update S (Obj.mapSeq fun _=>#[v,.int (kf (j+1)) t2])) (fun b o n e=>(s1.2 b n).trans e) fS2.1 fS2.2.1 fS2.2.2.2.1 fS2.2.2.2.2.1 fS2.2.2.2.2.2;refine ZC ⟨ZBA PySem.F.plain_min_loop _,ih (j+1) (j+1) v H2 _ (by lia) Yr ⟨I5,fI2,fS2,⟨t2,c2,hc2⟩,⟨oI',(s1.2 I hSI.symm).trans pI.1,hoc,hod⟩,⟨x,hx,ru⟩,hJ2⟩ (ZE _) fun j' hj'=>?_⟩
   by_cases e:j'=j+1
   ·subst e;exact⟨by lia,fun _=>by lia⟩
   ·have hb1:=hbest j' (by lia);have hb2:=hb1.1;exact⟨by lia,fun _=>by lia⟩
  ·simp only[hb',decide_false,ZB3,if_false];refine ZA (ZBW ?_);rw[hname];refine ZC ⟨ZBA PySem.F.plain_min_loop _,ih (j+1) i vb H2 _ (by lia) Yr ⟨I4,fI2,fS2,⟨tb,c,pS.1⟩,⟨oI',pI.1,hoc,hod⟩,⟨xb,hxb,rb⟩,hJ2⟩ (by lia) fun j' hj'=>?_⟩
   by_cases e:j'=j+1
   ·subst e;exact⟨by lia,fun _=>by lia⟩
   ·exact hbest j' (by lia)
theorem Tt {q l:Addr} {xs:List V} {J:Nat->Hp->Prop} {kf:Nat->Int} {H:Hp} {s:Shared} {Q:VK} {E:Value->Shared->Prop} (hc:X.calm=true) (I0:Yg X Ya Z H s) (hpos:0 < xs.length) (h0:J 0 H)
 (hl:∀n H,J n H->Yw X.K H l xs) (turn:Ld X Ya Z q xs J kf)
 (hQ:∀i x H,xs[i]? = some x->(∀j,j < xs.length->kf i<=kf j/\(j < i->kf i < kf j))->J xs.length H->Q x H) :
 wpAny (model X.prog X.w) X.A (call (.builtin "min") [.ref l] [(Str.ofString "key",.ref q)]) (EP X Ya Z Q) E s:=by
 have hname:(toString "min" ++ toString ".loop" : String) = "min.loop":=by decide
 have hh:=I0.ok.hd hc;obtain⟨Ye,rv,pl,hz⟩:=I0.list (hl _ _ h0);have Yk:=rv.length;obtain⟨ol,_,hol,_⟩:=id pl;have hll:l < s.heap.objs.size:=ZG hol;refine kmk_tree PySem.F.kind_min PySem.F.plain_min PySem.F.entry_min (kmk_min_key _ _) ?_;show wpAny _ X.A.in1 (Builtin.Builtins.bindParams "min" ["key","default"] 0 ⟨[],[(Str.ofString "key",.ref q)]⟩ >>= _) _ _ s;refine ZA (wpAny_of_eq (show Builtin.Builtins.bindParams "min" ["key","default"] 0 ⟨[],[(Str.ofString "key",.ref q)]⟩=pure [some (.ref q),none] from rfl) ?_);refine ZA (ZC ?_);refine ZA (wpAny_pyIter_list pl.isList ?_);refine ZA (wpAny_newList ?_ (ZV _));rw[hname];refine ZC ⟨ZBA PySem.F.plain_min_loop _,?_⟩;generalize hI:s.heap.objs.size=I at *;generalize hh1:s.heap.push { cls:=.type "list_iterator",data:=.fields #[.ref l,.int 0 0] } = h1 at *;generalize hS:h1.objs.size=S at *;have hSI':S=I+1:=by rw[<- hS,<- hh1,<- hI];exact size_push' ..
 have hSI:S≠I:=by lia
 have hlI:l≠I:=ZT hll;have k1:∀b o,s.heap.get? b=some o->(h1.push (seqObj "list" #[] 0)).get? b=some o:=fun b o e=>ZI _ (by rw[<- hh1];exact ZI _ e)
 have gI:(h1.push (seqObj "list" #[] 0)).get? I=some { cls:=.type "list_iterator",data:=.fields #[.ref l,.int 0 0] }:=ZI _ (by rw[<- hh1,<- hI];exact ZS _ rfl);have gS:(h1.push (seqObj "list" #[] 0)).get? S=some (seqObj "list" #[] 0):=by rw[<- hS];exact ZS _ rfl
 have fI:BJ X Ya H I:=I0.fpOk (ZBa hI) (I0.hok.fresh (ZBa hI));have fS:BJ X Ya H S:=I0.fpOk (by lia) (I0.hok.fresh (by lia));have W:=Walks.list (prog:=X.prog) (w:=X.w) (A:=X.A.in1) hh I l hlI Ye.toArray;have hsz:Ye.toArray.size=Ye.length:=ZK ..;refine ZBD PySem.F.entry_min_loop ?_;rw[ZBI PySem.F.plain_min_loop _];show wpAny _ X.A.in1 (seqItems? (.ref S) >>= _) _ _ _;refine ZA (wpAny_seqItems gS rfl ?_);show wpAny _ X.A.in1 (tryCatch (pyNext (.ref I)) _ >>= _) _ _ _
 have pl1:(h1.push (seqObj "list" #[] 0)).IsList l Ye.toArray:=by
  obtain⟨o,k,e,z⟩:=pl;have pl':PlainL (h1.push (seqObj "list" #[] 0)) l Ye.toArray:=⟨o,k,k1 _ _ e,z⟩;exact pl'.isList
 refine ZA (ZBP (W.item 0 _ _ _ (by rw[hsz];lia) ⟨⟨_,gI,rfl,rfl⟩,pl1⟩ fun v h' tk' hP hst' hk'=>?_));have hv:Ye[0]? = some v:=by simpa using hP
 obtain⟨x,hx⟩:∃x,xs[0]? = some x:=⟨_,ZD hpos⟩;obtain⟨u,hu,ru⟩:=rv.get hx;rw[hv]at hu;cases hu;have I1:Yg X Ya Z H { s with heap:=h',toks:=tk' }:=(I0.kept (t':=tk') k1).turned (t':=tk') (fun b o n e=>hk' b o (by simpa using n) e) fI.1 fI.2.1 fI.2.2.2.1 fI.2.2.2.2.1 fI.2.2.2.2.2;have gS1:=hk' S _ (by simpa using hSI) gS;obtain⟨oI',hoI',hoc,hod⟩:=id hst'.1
 have I2:=I1.pinned (fp:=[I,S]) (fun b hb=>by
  rcases ZH.mp hb with rfl | hb
  ·exact fI
  ·rw[ZO.mp hb];exact fS) (fun b hb=>by
  rcases ZH.mp hb with rfl | hb
  ·exact⟨oI',hoI',fun v z=>by rw[hod]at z;cases z⟩
  ·rw[ZO.mp hb];exact⟨_,gS1,fun v z=>by cases z⟩)
 show wpAny _ X.A.in1 (tryCatch (holding [v] (call (.ref q) [v])) _ >>= _) _ _ _;refine ZA (ZBP (Zk (Zs (turn 0 x v H _ _ hx ru h0 I2) (fun y s2 he=>?_) fun _ _ hF=>hF.elim)));obtain⟨H2,t2,rfl,I3,hJ2⟩:=he;have pI:=I3.pin (I,oI') (ZY _ (ZY _ (Ck (by simp) hoI')));have pS:=I3.pin (S,_) (ZY _ (ZY _ (Ck (by simp) gS1)));have I4:=I3.unpinned;have fI2:BJ X Ya H2 I:=⟨pI.2.1,fI.2⟩;have fS2:BJ X Ya H2 S:=⟨pS.2.1,fS.2⟩;have s1:=Z7 s2.heap S (Obj.mapSeq fun _=>#[v,.int (kf 0) t2]);obtain⟨c2,hc2⟩:∃c2,(s2.heap.update S (Obj.mapSeq fun _=>#[v,.int (kf 0) t2])).get? S=some (seqObj "list" #[v,.int (kf 0) t2] c2):=⟨_,get?_update_seq pS.1 fun _=>#[v,.int (kf 0) t2]⟩;show wpAny _ X.A.in1 (updateSeq S (fun _=>#[v,.int (kf 0) t2]) >>= _) _ _ _;refine ZA ?_;refine wpAny_updateSeq pS.1 rfl ?_;rw[hname];have I5:=I4.turned (t':=s2.toks) (h':=s2.heap.update S (Obj.mapSeq fun _=>#[v,.int (kf 0) t2])) (fun b o n e=>(s1.2 b n).trans e) fS2.1 fS2.2.1 fS2.2.2.2.1 fS2.2.2.2.2.1 fS2.2.2.2.2.2;refine ZC ⟨ZBA PySem.F.plain_min_loop _,TM hc hSI hlI hl turn (fun i x v H s hi hr hb hJ hI=>⟨x,H,hI,hr,hQ i x H hi hb hJ⟩) _ 0 0 v H2 _ rfl hpos ⟨I5,fI2,fS2,⟨t2,c2,hc2⟩,⟨oI',(s1.2 I hSI.symm).trans pI.1,hoc,hod⟩,⟨x,hx,ru⟩,hJ2⟩ (ZE _) fun j' hj'=>?_⟩;have e:j'=0:=by lia
 subst e;exact⟨by lia,fun h=>absurd h (Zd _)⟩
end
noncomputable abbrev GS(scope:Scope)(L:Addr)(a b:Str)(ca cb:Addr)(qual:Str)(Yq c':Addr):Env:=newEnv scope L mainGlobals [(a,ca),(b,cb)] (qual ++ ".<locals>.") (some Yq) (.ref c') none builtinsNs
noncomputable def JP(P:Program)(w:World)(K:W.Frag)(mg:Str->Option Value)(base:Heap)(scope:Scope)(a b x:Str)(ca cb:Addr)(qual:Str)(Yq c':Addr)(A:Around)(outer:List Env)(s:Shared)(H:Hp):Cx where
 prog:=P
 w:=w
 K:=K
 mg:=mg
 base:=base
 A:=A.deeper (GS scope s.heap.objs.size a b ca cb qual Yq c')
 N:=[x,a,b]
 s₀:=s
 H₀:=H
 env:=GS scope s.heap.objs.size a b ca cb qual Yq c'
 outer:=outer
 stack:=GS scope s.heap.objs.size a b ca cb qual Yq c'::outer
 ex:=[]
 calm:=true
 fn:=fun _=>false
 pn:=[]
 xe:=fun _ _=>False
theorem look2{a b y:Str}{ca cb c:Addr}(e:List.lookup y [(a,ca),(b,cb)]=some c):(y=a/\c=ca)\/(y=b/\c=cb):=by
 rw[Z5]at e
 by_cases z:y=a
 ·subst z;simp at e;exact .inl ⟨rfl,e.symm⟩
 ·rw[beq_eq_false_iff_ne.mpr z]at e;have e:List.lookup y [(b,cb)]=some c:=e;rw[Z5]at e
  by_cases z:y=b
  ·subst z;simp at e;exact .inr ⟨rfl,e.symm⟩
  ·rw[beq_eq_false_iff_ne.mpr z]at e;cases e
theorem V9 {P:Program} {w:World} {K:W.Frag} {mg:Str->Option Value} {base:Heap} {k:Nat} {Yq ca cb c':Addr} {qual a b x:Str} {params:Arguments} {body:Expr} {scope:Scope} {pm ctv:Value} {spB:V->Hp->VK->Prop} {vA vB:V} {uA uB:Value}
 (hl:base.get? Yq=some (kla_obj "<lambda>" qual params body scope [(a,ca),(b,cb)] pm c' ctv)) (hca:base.IsCell ca (some uA)) (rA:Yh vA uA) (hcb:base.IsCell cb (some uB)) (rB:Yh vB uB) (hab:a≠b) (hcab:ca≠cb)
 (hx:scope.names.lookup x=some .local) (ha:scope.names.lookup a=some .free) (hb:scope.names.lookup b=some .free) (hfr:∀y,scope.names.lookup y=some .free->y=a\/y=b) (hco:scope.isCoroutine=false) (hgen:scope.isGenerator=false) (hkind:scope.kind=.function)
 (hcell:∀y∈scope.names,y.2≠.cell)
 (hbody:∀(A:Around) (outer:List Env) (s:Shared) (H:Hp) (v:V) (Q:VK),Room k (A.deeper (GS scope s.heap.objs.size a b ca cb qual Yq c'))->spB v H Q ->
   ∃te,PE (JP P w K mg base scope a b x ca cb qual Yq c' A outer s H) body te/\te [some v,some vA,some vB] H Q) :
 FnOk P w K mg base CX0 (k+1) Yq (kla_fn "<lambda>" qual params body scope [(a,ca),(b,cb)] pm (.ref c') ctv) [x] (CH c' qual spB):=by
 refine⟨fun vs H Q E h=>by unfold CH at h;split at h;rfl;exact h.elim,fun A outer s H args us vs Q E hr e0 hbd r hsp=>?_⟩
 match vs,hsp,r with
 | [v],⟨hcd,hq⟩,r =>
 obtain⟨u,rfl,ru⟩:=BS r;have lim:s.heap.NoLimit:=e0.mod.nolimit.keeps fun b o e=>(e0.bs b o e).1
 obtain⟨hcr,_⟩:=e0.hok _ _ hcd;refine kla_callFunE hr.depth (e0.bs _ _ hl).1 rfl hco hgen rfl hcr (hbd _ _ _ _ ?_);refine wpAny_newFunctionEnv hcell (fun y hy=>by rw[ZO.mp hy];exact hx) (fun h₁ hns hsb=>⟨lim.fresh _ hsb,?_⟩) hkind;have hk₁:∀b o,s.heap.get? b=some o->h₁.get? b=some o:=fun b o e=>hsb.extBut b o (ZT (ZG e)) (ZI _ e)
 refine kla_codeExpr ?_;obtain⟨te,ht,hte⟩:=hbody A outer s H v Q (hr.deeper _) hq
 have hca1:h₁.IsCell ca (some uA):=by
  obtain⟨o,e,d⟩:=hca;exact⟨o,hk₁ _ _ (e0.bs _ _ e).1,d⟩
 have hcb1:h₁.IsCell cb (some uB):=by
  obtain⟨o,e,d⟩:=hcb;exact⟨o,hk₁ _ _ (e0.bs _ _ e).1,d⟩
 have hcaH:H ca=none:=by
  obtain⟨o,e,d⟩:=hca;exact(e0.bs _ _ e).2
 have hcbH:H cb=none:=by
  obtain⟨o,e,d⟩:=hcb;exact(e0.bs _ _ e).2
 have noA:∀b':Addr,b'∉(JP P w K mg base scope a b x ca cb qual Yq c' A outer s H).ex:=fun b z=>absurd (show b∈([]:List Addr) from z) (by simp)
 have kindc:∀y,scope.names.lookup y≠some .cell:=fun y z=>hcell _ (PySem.mem_of_lookup z) rfl
 have la:List.lookup a [(a,ca),(b,cb)]=some ca:=by simp
 have lb:List.lookup b [(a,ca),(b,cb)]=some cb:=by
  rw[Z5,beq_eq_false_iff_ne.mpr (Ne.symm hab)];simp
 have I:Yg (JP P w K mg base scope a b x ca cb qual Yq c' A outer s H) [] [some v,some vA,some vB] H { s with heap:=h₁,toks:=s.toks+[(x,u)].length }:=by
  refine⟨⟨e0.mod,hkind,rfl,rfl,ZE _,fun y z c h1 h2=>?_,fun y hy=>?_,fun y c hf _=>?_,fun _=>hr.hd,Around.frames_deeper e0.frames,.inr ⟨rfl,rfl⟩,fun b z=>absurd z (noA b),e0.bs,e0.bsz,fun b _ _=>noA b,fun b z=>absurd z (noA b),e0.funs,e0.frf⟩,
   rfl,e0.bare,Un.kept hk₁,⟨_,hns,fun i y z h1 h2 h3=>?_⟩,fun y c h=>?_,e0.hok.fresh (ZE _),fun y c h=>?_,fun p hp=>absurd (show p∈([]:List (Addr × Obj)) from hp) (by simp),e0.hok.kept hk₁,rfl⟩
  ·rcases look2 h1 with ⟨e1,e2⟩ | ⟨e1,e2⟩ <;> rcases look2 h2 with ⟨e3,e4⟩ | ⟨e3,e4⟩
   ·rw[e1,e3]
   ·exact absurd (e2.symm.trans e4) hcab
   ·exact absurd (e4.symm.trans e2) hcab
   ·rw[e1,e3]
  ·have hy:scope.names.lookup y=some .cell\/scope.names.lookup y=some .free:=hy
   rcases hy with hy | hy
   ·exact absurd hy (kindc y)
   ·rcases hfr y hy with rfl | rfl
    ·exact⟨ca,la⟩
    ·exact⟨cb,lb⟩
  ·cases hf
  ·match i,h1,h2 with
   | 0,h1,h2 =>
    cases h1;cases h2;exact⟨u,ru,.inl ⟨hx,by simp⟩⟩
   | 1,h1,h2 =>
    cases h1;cases h2;exact⟨uA,rA,.inr ⟨.inr ha,ca,la,hca1⟩⟩
   | 2,h1,h2 =>
    cases h1;cases h2;exact⟨uB,rB,.inr ⟨.inr hb,cb,lb,hcb1⟩⟩
   | n+3,h1,h2=>cases h2
  ·rcases look2 h with ⟨_,rfl⟩ | ⟨_,rfl⟩
   ·exact⟨_,hca1⟩
   ·exact⟨_,hcb1⟩
  ·rcases look2 h with ⟨_,rfl⟩ | ⟨_,rfl⟩
   ·exact hcaH
   ·exact hcbH
 refine Zs (ht [] _ _ _ _ I hte) (fun u' s' hs=>?_) fun e s' hs=>False.elim hs
 obtain⟨v',H',J,rv,q⟩:=hs;exact⟨v',H',J.os,J.bare,J.base,J.hok,rv,q⟩
section
variable {X:Cx}{Ya:List (Addr × Obj)}{Z:St}{H:Hp}{s:Shared}
theorem TF {k:Nat} {f:Addr} {fd:FuncData} {ps:List Str} {sp:Sp} {us:List Value} {vs:List V} {Q:VK} {E:Value->Shared->Prop} (I:Yg X Ya Z H s) (F:FnOk X.prog X.w X.K X.mg (Cg X H s) CX0 k f fd ps sp) (hr:Room k X.A.in1) (hb:BindsTo s fd ⟨us,[]⟩ (ps.zip us))
 (r:Yi vs us) (h:sp vs H Q E0):wpAny (model X.prog X.w) X.A.in1 (call (.ref f) us) (EP X Ya Z Q) E s:=by
 refine wpAny_call (ZBK (F.run X.A.in1 X.stack s H ⟨us,[]⟩ us vs Q E0 hr (NK I).in1 hb r h) fun r s' hq=>?_);cases r with
 | error e=>exact False.elim hq
 | ok fl =>
  cases fl with
  | ret u=>exact I.after hq
  | next=>exact False.elim hq
  | brk=>exact False.elim hq
  | cont=>exact False.elim hq
end
section
variable {X:Cx}{Pt c:Addr}{k i j:Nat}{a b x:Str}{p pos kpos lpos:Pos}{params:Arguments}{body:Expr}{scope:Scope}{e:Expr}{te:TE}{qual:Str}{spB:V->V->V->Hp->VK->Prop}
noncomputable def XI(K:W.Frag)(Pt:Addr)(lpos:Pos)(qual:Str)(i j:Nat)(spB:V->V->V->Hp->VK->Prop)(te:TE):TE:=fun Z H Q=>te Z H fun y H1=>∃l xs vA vB,y=.ref l/\0 < xs.length/\Z[i]? = some (some vA)/\Z[j]? = some (some vB)/\Yx Pt lpos qual H1 /\
 ∀c' H2,Yu Pt H1 H2->Yx Pt lpos qual H2->H2 c'=some (CdO c' qual)->∃(J:Nat->Hp->Prop) (kf:Nat->Int),J 0 H2/\(∀n H3,J n H3->Yw K H3 l xs/\H3 c'=some (CdO c' qual)) /\
  (∀n v H3,xs[n]? = some v->J n H3->spB vA vB v H3 fun y H4=>y=.int (kf n)/\J (n+1) H4) /\
  ∀n v H3,xs[n]? = some v->(∀m,m < xs.length->kf n<=kf m/\(m < n->kf n < kf m))->J xs.length H3->Q v H3
theorem SX {K:W.Frag} (he:PE X e te) (hm:X.mg "min" = none) (hr:Room (k+1) X.A) (hc:X.calm=true) (hcode:X.env.code=.ref c) (hcK:codeHdIn X.K c Pt=true) (hbm:BMn X.mg X.base)
 (hq:X.env.qual ++ "<lambda>" = qual) (hdef:defaultsOf params X.env=([],[])) (hNi:X.N[i]? = some a) (hNj:X.N[j]? = some b)
 (hcl:∀ca cb,X.env.cells.lookup a=some ca->X.env.cells.lookup b=some cb->closureFor scope X.env=pure [(a,ca),(b,cb)]) (hka:X.env.kindOf a=some .cell) (hkb:X.env.kindOf b=some .cell) (hfa:X.fn a=true) (hfb:X.fn b=true) (hab:a≠b)
 (hbind:∀(u pm ctv:Value) (ca cb c':Addr),bindArgs (kla_fn "<lambda>" qual params body scope [(a,ca),(b,cb)] pm (.ref c') ctv) ⟨[u],[]⟩=pure [(x,u)])
 (hF:∀(base':Heap) (Yq ca cb c':Addr) (pm ctv uA uB:Value) (vA vB:V),(∀b o,X.base.get? b=some o->base'.get? b=some o)->base'.get? Yq=some (kla_obj "<lambda>" qual params body scope [(a,ca),(b,cb)] pm c' ctv)->ca≠cb ->
   base'.IsCell ca (some uA)->Yh vA uA->base'.IsCell cb (some uB)->Yh vB uB->FnOk X.prog X.w X.K X.mg base' CX0 k Yq (kla_fn "<lambda>" qual params body scope [(a,ca),(b,cb)] pm (.ref c') ctv) [x] (CH c' qual (spB vA vB)))
 (hg:Gl X "min":=by rfl) (hK:X.K=K:=by rfl)
 (hst:starEach [e] X.env=(false,eval e X.env)::starEach [] X.env:=by rfl) :
 PE X (.Call (.Name "min" p) [e] [⟨some "key",.Lambda params body scope lpos,kpos⟩] pos) (XI K Pt lpos qual i j spB te):=by
 intro Ya s Z H Q I h;subst hq hK;refine wpAny_Call_Name_kw (Cv I hg hm (show bootBuiltins "min" = some (.builtin "min") by kernel_rfl) ?_);refine callWith_kw (e:=e) (rest:=[]) (id:="min") ?_ (by rw[hst];rfl) (by rw[hst];rfl)
 refine Yn ((AA he AB hst) pos Ya s Z H (fun vs H1=>match vs with | [y]=>(∃l xs vA vB,y=.ref l/\0 < xs.length/\Z[i]? = some (some vA)/\Z[j]? = some (some vB)/\Yx Pt lpos (X.env.qual ++ "<lambda>") H1 /\
  ∀c' H2,Yu Pt H1 H2->Yx Pt lpos (X.env.qual ++ "<lambda>") H2->H2 c'=some (CdO c' (X.env.qual ++ "<lambda>"))->∃(J:Nat->Hp->Prop) (kf:Nat->Int),J 0 H2/\(∀n H3,J n H3->Yw X.K H3 l xs/\H3 c'=some (CdO c' (X.env.qual ++ "<lambda>"))) /\
   (∀n v H3,xs[n]? = some v->J n H3->spB vA vB v H3 fun y H4=>y=.int (kf n)/\J (n+1) H4) /\
   ∀n v H3,xs[n]? = some v->(∀m,m < xs.length->kf n<=kf m/\(m < n->kf n < kf m))->J xs.length H3->Q v H3) | _=>False) I h) fun us s1 ⟨vs,H1,I1,r1,q1⟩=>?_
 match vs,r1,q1 with
 | [_],.cons rx .nil,⟨l,xs,vA,vB,ex,hpos,hvA,hvB,hL,hQ⟩ =>
 subst ex;cases rx;obtain⟨ps,hP,htr,hcs⟩:=id hL
 have fin:∀(H2:Hp) (s2:Shared) (Yq c' ca cb:Addr) (pm ctv:Value),Yg X Ya Z H2 s2->X.env.cells.lookup a=some ca->X.env.cells.lookup b=some cb->s2.heap.get? Yq=some (kla_obj "<lambda>" (X.env.qual ++ "<lambda>") params body scope [(a,ca),(b,cb)] pm c' ctv) ->
  H2 Yq=none->Yq≠X.env.locals->Yq∉X.fs->Yu Pt H1 H2->Yx Pt lpos (X.env.qual ++ "<lambda>") H2->H2 c'=some (CdO c' (X.env.qual ++ "<lambda>")) ->
  wpAny (model X.prog X.w) X.A (call (.builtin "min") [.ref l] [(Str.ofString "key",.ref Yq)]) (EP X Ya Z Q) X.xe s2:=by
  intro H2 s2 Yq c' ca cb pm ctv I2 hla hlb hf hn hnl hnf hG hL2 hc';obtain⟨J,kf,h0,hJ,hturn,hend⟩:=hQ c' H2 hG hL2 hc';have I3:=I2.pin1 hf hn hnl hnf (fun v z=>by cases z);have hcab:ca≠cb:=fun z=>hab (I2.ok.inj a b ca hla (by rw[hlb,z]))
  refine Yn (Tt (J:=J) (kf:=kf) (E:=X.xe) hc I3 hpos h0 (fun n H h=>(hJ n H h).1) (fun n y u H s pl hy ru hj I4=>?_) (fun n y H hy hb hj=>hend n y H hy hb hj)) fun u s3 ⟨y,H3,I5,r5,q5⟩=>⟨y,H3,I5.unpin1,r5,q5⟩
  have hl3:=(I4.pin (Yq,_) (ZY _ (Zv _ (Zo ..))));obtain⟨m,hns,hloc⟩:=I4.loc;obtain⟨uA,rA,lookA⟩:=hloc i a vA hNi hvA (.inr (.inl hka));obtain⟨uB,rB,lookB⟩:=hloc j b vB hNj hvB (.inr (.inl hkb))
  rcases lookA with ⟨z,_⟩ | ⟨_,ca',e1,e2⟩
  ·rw[hka]at z;cases z
  rcases lookB with ⟨z,_⟩ | ⟨_,cb',e3,e4⟩
  ·rw[hkb]at z;cases z
  rw[hla]at e1;cases e1;rw[hlb]at e3;cases e3
  have lamS:Yq∉frs X.stack:=fun z=>by
   rcases ZH.mp (I4.stkSub _ z) with z | z
   ·exact hl3.2.2.1 z
   ·exact hl3.2.2.2.1 z
  have cellS:∀y c,X.fn y=true->X.env.cells.lookup y=some c->c∉frs X.stack:=fun y c hy hc z=>by
   rcases ZH.mp (I4.stkSub _ z) with z | z
   ·exact I4.cne _ _ hc z
   ·obtain⟨_,o,ho,_⟩:=I4.ok.funs.mem z;exact absurd (ZX (ZG ho) (I4.ok.cab y c hy hc)) (Zd _)
  have cA:(Cg X H s).IsCell ca (some uA):=by
   obtain⟨o,ho,hd'⟩:=e2;exact⟨o,EF ho (I4.freeC _ _ hla) (cellS a ca hfa hla),hd'⟩
  have cB:(Cg X H s).IsCell cb (some uB):=by
   obtain⟨o,ho,hd'⟩:=e4;exact⟨o,EF ho (I4.freeC _ _ hlb) (cellS b cb hfb hlb),hd'⟩
  have F:=hF (Cg X H s) Yq ca cb c' pm ctv uA uB vA vB (Ip I4) (EF hl3.1 hl3.2.1 lamS) hcab cA rA cB rB;refine Yn (TF (vs:=[y]) (us:=[u]) (Q:=fun v H4=>v=.int (kf n)/\J (n+1) H4) I4 F hr.in1 (.of_eq (hbind u pm ctv ca cb c')) (.cons ru .nil) ⟨(hJ n H hj).2,hturn n y H hy hj⟩) fun y2 s2 h2=>?_
  obtain⟨y3,H4,I6,r6,q6,q7⟩:=h2;subst q6;obtain⟨t,rfl⟩:=r6;exact⟨H4,t,rfl,I6,q7⟩
 show wpAny _ _ (evalAll ((do let v <- eval (.Lambda params body scope lpos) X.env;standAt pos;pure v)::[])) _ _ s1;obtain⟨ca,hla⟩:=I1.ok.has a (.inl hka);obtain⟨cb,hlb⟩:=I1.ok.has b (.inl hkb);have hcl':=hcl ca cb hla hlb;have gl:∀{s:Shared} {H:Hp},Yg X Ya Z H s->s.heap.Ns mainGlobals X.mg:=fun J=>J.mod.glob.keeps J.bk
 have C:CodeHd s1.heap c Pt:=codeHd_of_K I1.kIn hcK;have hPt:s1.heap.get? Pt=some (tabObj ps):=I1.hok _ _ hP
 have gP:mainGlobals≠Pt:=fun z=>by
  obtain⟨o,es,ep,e,hd,_⟩:=gl I1;rw[z,hPt]at e;cases e;cases hd
 have hB:s1.heap.BuiltinsAt X.mg Pt:=by
  obtain⟨bm,ob,b1,b2,b3,b4,b5,b6⟩:=hbm;have e:=I1.bk _ _ b3;refine⟨bm,ob,b1,b2,fun z=>?_,fun z=>?_,e,b4,b5,b6⟩
  ·obtain⟨o,es,ep,e',hd,_⟩:=gl I1;rw[z,e']at e;cases e;rw[hd]at b6;cases b6
  ·rw[z,hPt]at e;cases e;cases b4
 refine wpAny_evalAll_cons (ZA (kla_eval hdef ?_))
 rcases hcs with hnf | ⟨c',hf,hc'⟩
 ·refine kla_makeFunction hcl' I1.ok.glob (gl I1) hcode C hPt htr hnf gP hB fun c' ctv h' tk hx' hge Yr hrec htb=>?_
  refine ZA (ZBZ (ZC (wpAny_evalAll_nil ?_)));have J:=I1.grow (t':=tk) hP hx' htb hge hrec;have J':=J.kept (h':=h'.push _) (t':=tk) fun b' u e=>ZI (kla_obj "<lambda>" (X.env.qual ++ "<lambda>") params body scope [(a,ca),(b,cb)] ((X.mg "__name__").getD .none) c' ctv) e
  have hcn:H1 c'=none:=I1.hok.fresh hge;have hcP:c'≠Pt:=fun z=>by rw[z,hP]at hcn;cases hcn
  refine fin _ _ h'.objs.size c' ca cb _ ctv J' hla hlb (ZS _ rfl) (J.hok.fresh (ZE _)) (ZBQ J.lt) (J.nofs (ZE _)) (fun b o n e=>?_) ⟨_,by rw[AJ (Ne.symm hcP),AD],?_,.inr ⟨c',?_,AD⟩⟩ AD
  ·have hbc:b≠c':=fun z=>by rw[z,hcn]at e;cases e
   rw[AJ hbc,AJ n];exact e
  ·rw[ZB6];exact TriplesOk_snoc _ _ _ _ htr
  ·rw[ZB6];exact codeAmong_snoc _ htr hnf
 ·refine kla_makeFunctionHit hcl' I1.ok.glob (gl I1) hcode C hPt htr hf hB fun ctv h' tk hk' hsz=>?_
  refine ZA (ZBZ (ZC (wpAny_evalAll_nil ?_)));have J0:Yg X Ya Z H1 { s1 with heap:=h',toks:=tk }:=I1.kept hk';have J:=I1.kept (h':=h'.push _) (t':=tk) fun b' u e=>ZI (kla_obj "<lambda>" (X.env.qual ++ "<lambda>") params body scope [(a,ca),(b,cb)] ((X.mg "__name__").getD .none) c' ctv) (hk' b' u e)
  exact fin _ _ h'.objs.size c' ca cb _ ctv J hla hlb (ZS _ rfl) (J0.hok.fresh (ZE _)) (ZBQ J0.lt) (J0.nofs (ZE _)) (Yu.refl _ _) hL hc'
end
end L2
namespace L2
open PySem PyProof.Rows
noncomputable def Fl:V->List V->Hp->VK->Prop:=fun x vs H Q=>match x,vs with
 | .ref l,[]=>∃xs,H l=some (.lst xs)/\xs.length < 1000/\Q .non (upd H l (.lst xs.reverse))
 | _,_=>False
theorem OI:∀{xs:List V} {us:List Value},Yi xs us->Yi xs.reverse us.reverse
 | _,_,.nil=>.nil
 | _,_,.cons r t=>by rw[List.reverse_cons,List.reverse_cons];exact Yi.append (OI t) (.cons r .nil)
section
variable {X:Cx}{K:W.Frag}
theorem Sv:MtR X "list.reverse" Fl:=by
 intro Ya s Z H x vs v us Q I rx rv q
 match x,vs,q with
 | .ref l,[],⟨xs,hH,h3,q⟩ =>
 cases rx;cases rv;obtain⟨z,Ye,n,r,hl,e⟩:=I.lstM hH;refine call_meets PySem.F.slot_list_reverse ⟨_,e,rfl⟩ PySem.F.entry_list_reverse (PySem.F.args_list_reverse_1 _) (AutoListH.list_reverse_list_0 l Ye.toArray n (by rw[ZK];lia)) ⟨e,?_⟩;refine⟨.non,_,I.lset (its':=Ye.reverse) hH e ?_ (OI r) ?_,rfl,q⟩
 ·simp
 ·rw[List.length_reverse];exact CZ (by lia)
theorem Ui{o:Expr}{to:TE}{apos cpos:Pos}(ho:PE X o to)(hbase:attributeBase o "reverse" X.env (eval o X.env)=eval o X.env:=by rfl)(hline:(apos.endLine == cpos.line)=true:=by rfl)(hK:X.K=K:=by rfl) :
 PE X (.Call (.Attribute o "reverse" apos) [] [] cpos) (F0 K "list" Fl to):=hK ▸ LW PySem.F.plainAttrs_list PySem.F.slot_list_reverse PySem.F.type_list_reverse Sv ho hbase hline
theorem VA:DU Fl:=fun x xs H Q Q' h q=>by
 unfold Fl at *;split at q
 ·obtain⟨ys,a,b,q⟩:=q;exact⟨ys,a,b,h _ _ q⟩
 ·exact q.elim
end
end L2
set_option maxHeartbeats 6400000
namespace Mine
open PySem L2
variable {N S U i j k m n:Nat}{ls:List Int}{ys:List Nat}{Yd:List (Key × V)}{v:V}{K:W.Frag}{C Pt a b d nd p t:Addr}{H H':Hp}{xs:List V}{o:HO}{rs:List (List Bool)}{es:Bk}{X:List Addr}{pos:Pos}{q:Str}
noncomputable def top(i:Nat):Stmt:=PySem.Challenge.pw_flips_k53_whole_called_otherwise.main.body.getD i (.Pass ⟨0,0,0,0⟩)
noncomputable abbrev Ic:Stmt:=top 4
noncomputable abbrev KJ:Stmt:=top 5
noncomputable abbrev KO:Stmt:=top 6
noncomputable abbrev IH:Stmt:=top 7
noncomputable abbrev IF:Stmt:=top 9
noncomputable abbrev Ke:Stmt:=top 10
noncomputable abbrev KA:Stmt:=top 11
noncomputable abbrev IQ:Stmt:=top 12
noncomputable abbrev Jc:Stmt:=Bc (top 14) 0
noncomputable abbrev HX:Stmt:=Bc (top 14) 1
noncomputable abbrev JK:Stmt:=Bc (top 14) 2
noncomputable abbrev HP:Stmt:=Bc (top 14) 3
noncomputable abbrev JW:Stmt:=Bc (top 14) 4
noncomputable abbrev Ib:Stmt:=Bc (top 14) 5
noncomputable abbrev JY:Stmt:=Bc (top 14) 6
noncomputable abbrev Je:Stmt:=Bc (top 14) 7
noncomputable abbrev Jz:Stmt:=Bc (top 14) 8
noncomputable abbrev Jq:Stmt:=Bc (top 14) 9
noncomputable abbrev Jo:Stmt:=Bc (top 14) 10
noncomputable abbrev Ch:Stmt:=Bc (top 14) 11
noncomputable abbrev Ix:Stmt:=top 15
noncomputable abbrev He:Stmt:=top 17
noncomputable abbrev IL:Stmt:=top 19
noncomputable abbrev KB:Stmt:=top 20
noncomputable abbrev Io:Stmt:=top 21
noncomputable abbrev KN:Stmt:=top 23
noncomputable abbrev Gx:Stmt:=top 24
noncomputable abbrev Jl:Stmt:=top 25
noncomputable abbrev Jn:Stmt:=top 27
noncomputable abbrev Hk:Stmt:=top 28
noncomputable abbrev HW:Stmt:=top 29
noncomputable abbrev JQ:Stmt:=Bc (top 30) 0
noncomputable abbrev Jw:Stmt:=Bc (top 30) 1
noncomputable abbrev Ho:Stmt:=Bc (top 30) 2
noncomputable abbrev Ia:Stmt:=Bc (top 30) 3
noncomputable abbrev Ja:Stmt:=Bc (top 30) 4
noncomputable abbrev Hg:Stmt:=top 32
noncomputable abbrev Ct:Stmt:=top 36
noncomputable abbrev Hy:Stmt:=top 37
noncomputable abbrev HK:Stmt:=top 38
noncomputable abbrev Hj:Stmt:=top 39
noncomputable abbrev KZ:Stmt:=top 40
noncomputable abbrev Ih:Stmt:=top 42
noncomputable abbrev Iq:Stmt:=top 43
noncomputable abbrev JU:Stmt:=top 45
noncomputable abbrev Ie:Stmt:=top 46
noncomputable abbrev IT:Stmt:=top 47
noncomputable abbrev KH:Stmt:=top 48
noncomputable abbrev Il:Stmt:=top 49
noncomputable abbrev KL:Stmt:=top 50
noncomputable abbrev Hl:Stmt:=top 51
noncomputable abbrev Jr:Stmt:=top 52
noncomputable abbrev G6:Stmt:=top 53
noncomputable abbrev JJ:Stmt:=top 54
noncomputable abbrev Iv:Stmt:=top 55
noncomputable abbrev J9:Stmt:=top 56
noncomputable abbrev IP:Stmt:=top 57
noncomputable abbrev J2:Stmt:=top 58
noncomputable abbrev Kc:Stmt:=top 59
noncomputable abbrev C7:Stmt:=top 60
local macro_rules | `(tactic| walk_at "f")=>`(tactic| exact⟨rfl,rfl,rfl,by decide +kernel,rfl,by decide +kernel,by decide +kernel⟩)
theorem Wj:FnScope ["thing"] ["thing"] (AK Ic):=by walk_at "f"
theorem PR:FnScope ["bound","thing"] ["bound","thing"] (AK KJ):=by walk_at "f"
theorem We:FnScope ["n"] ["n"] (AK KO):=by walk_at "f"
theorem sc_z59:FnScope ["base","times","power","step"] ["base","times"] (AK IH):=by walk_at "f"
theorem R9:FnScope ["place","switch"] ["place","switch"] (AK IF):=by walk_at "f"
theorem WM:FnScope ["subset","other"] ["subset","other"] (AK Ke):=by walk_at "f"
theorem V8:FnScope ["members"] ["members"] (AK KA):=by walk_at "f"
theorem Ux:FnScope ["subset"] ["subset"] (AK IQ):=by walk_at "f"
theorem Ro:FnScope ["self","game"] ["self","game"] (AK Jc):=by walk_at "f"
theorem UN:FnScope ["self"] ["self"] (AK HX):=by walk_at "f"
theorem Uj:FnScope ["self","things"] ["self","things"] (AK JK):=by walk_at "f"
theorem SD:FnScope ["self","things"] ["self","things"] (AK HP):=by walk_at "f"
theorem sc_z24:FnScope ["self","things","question","answer","yes"] ["self","things","question","answer"] (AK JW):=by walk_at "f"
theorem SM:FnScope ["self","things"] ["self","things"] (AK Ib):=by walk_at "f"
theorem PU:FnScope ["self","things"] ["self","things"] (AK JY):=by walk_at "f"
theorem UH:FnScope ["self","things"] ["self","things"] (AK Je):=by walk_at "f"
theorem Uv:FnScope ["self","things","question"] ["self","things","question"] (AK Jz):=by walk_at "f"
theorem sc_z17:FnScope ["self","things","question","no","yes"] ["self","things","question"] (AK Jq):=by walk_at "f"
theorem XU:FnScope ["self","things"] ["self","things"] (AK Jo):=by walk_at "f"
theorem Xf:FnScope ["self","things"] ["self","things"] (AK Ch):=by walk_at "f"
theorem U2:FnScope ["wanted","values"] ["wanted","values"] (AK Ix):=by walk_at "f"
theorem QK:FnScope ["thing"] ["thing"] (AK He):=by walk_at "f"
theorem SN:FnScope ["game"] ["game"] (AK IL):=by walk_at "f"
theorem sc_z23:FnScope ["game","found"] ["game"] (AK KB):=by walk_at "f"
theorem sc_z34:FnScope ["game","labels","answers","one","other"] ["game"] (AK Io):=by walk_at "f"
theorem sc_z63:FnScope ["game","reckoner","things"] ["game"] (AK KN):=by walk_at "f"
theorem sc_z49:FnScope ["reckoner","things","question","no","yes"] ["reckoner","things"] (AK Gx):=by walk_at "f"
theorem sc_z47:FnScope ["reckoner","things","entries","level","below","each","number"] ["reckoner","things"] (AK Jl):=by walk_at "f"
theorem Qf:FnScope ["game","d","thing"] ["game","d","thing"] (AK Jn):=by walk_at "f"
theorem Rp:FnScope ["game","thing"] ["game","thing"] (AK Hk):=by walk_at "f"
theorem sc_z42:FnScope ["many","thing","last","each"] ["many","thing"] (AK HW):=by walk_at "f"
theorem sc_z33:FnScope ["self","game","entries","entry","things"] ["self","game","entries"] (AK JQ):=by walk_at "f"
theorem sc_z20:FnScope ["self","things","number"] ["self"] (AK Jw):=by walk_at "f"
theorem sc_z32:FnScope ["self","things","number","yes","left_by_yes"] ["self","things","number","yes"] (AK Ho):=by walk_at "f"
theorem Wc:FnScope ["self","things","number"] ["self","things","number"] (AK Ia):=by walk_at "f"
theorem sc_z11:FnScope ["self","things","inside"] ["self","things"] (AK Ja):=by walk_at "f"
theorem sc_z60:FnScope ["has_form","parts_within","is_beyond","thing","level","depth","many","below","part"] ["has_form","parts_within","is_beyond","thing"] (AK Hg):=by walk_at "f"
theorem RW:FnScope ["game","thing"] ["game","thing"] (AK Ct):=by walk_at "f"
theorem O9:FnScope ["questions","thing"] ["questions","thing"] (AK Hy):=by walk_at "f"
theorem T1:FnScope ["tree"] ["tree"] (AK HK):=by walk_at "f"
theorem PN:FnScope ["many","depth"] ["many","depth"] (AK Hj):=by walk_at "f"
theorem sc_z67:FnScope ["game","tree","thing","spot","asks"] ["game","tree","thing"] (AK KZ):=by walk_at "f"
theorem Qn:FnScope ["game","d","thing"] ["game","d","thing"] (AK Ih):=by walk_at "f"
theorem sc_z41:FnScope ["game","d","tree","hidden","found"] ["game","d","tree","hidden"] (AK Iq):=by walk_at "f"
theorem VM:FnScope ["_law_script"] ["_law_script"] (AK JU):=by walk_at "f"
theorem sc_z54:FnScope ["_law_feed_here","_law_many","_law_turn","_law_cell","_law_mixed","_law_digit"] ["_law_feed_here","_law_many"] (AK Ie):=by walk_at "f"
theorem sc_z48:FnScope ["_law_feed_here","_law_n","_law_many","_law_way","_law_place","_law_one","_law_answer"] ["_law_feed_here","_law_n"] (AK IT):=by walk_at "f"
theorem sc_z29:FnScope ["_law_table_here","_law_rows","_law_many"] ["_law_table_here"] (AK KH):=by walk_at "f"
theorem sc_z43:FnScope ["_law_feed_here","_law_n","_law_many","_law_tables","_law_at","_law_k","_law_table_here"] ["_law_feed_here","_law_n","_law_many"] (AK Il):=by walk_at "f"
theorem sc_z31:FnScope ["_law_tables","_law_rows"] ["_law_tables"] (AK KL):=by walk_at "f"
theorem sc_z44:FnScope ["_law_feed_here","_law_many","_law_first","_law_labels","_law_rows"] ["_law_feed_here"] (AK Hl):=by walk_at "f"
theorem sc_z37:FnScope ["_law_feed_here","_law_many","_law_width","_law_names","_law_labels","_law_rows","_law_k"] ["_law_feed_here"] (AK Jr):=by walk_at "f"
theorem sc_z55:FnScope ["_law_feed_here","_law_way"] ["_law_feed_here"] (AK G6):=by walk_at "f"
theorem sc_z53:FnScope ["_law_game_here","_law_answers","_law_one","_law_other"] ["_law_game_here"] (AK JJ):=by walk_at "f"
theorem sc_z40:FnScope ["_law_game_here","_law_labels","_law_pair_here"] ["_law_game_here"] (AK Iv):=by walk_at "f"
theorem sc_z46:FnScope ["_law_feed_here","_law_many","_law_row","_law_k"] ["_law_feed_here","_law_many"] (AK J9):=by walk_at "f"
theorem sc_z27:FnScope ["_law_feed_here","_law_game_here","_law_things","_law_questions","_law_flipped","_law_step","_law_rows","_law_old","_law_labels"] ["_law_feed_here","_law_game_here"] (AK IP):=by walk_at "f"
theorem sc_z28:FnScope ["_law_tree","_law_how","_law_things","_law_questions","_law_flipped","_law_step","_law_parts"] ["_law_tree","_law_how"] (AK J2):=by walk_at "f"
theorem sc_z26:FnScope ["_law_paper","_law_how","_law_entries","_law_things","_law_number"] ["_law_paper","_law_how"] (AK Kc):=by walk_at "f"
theorem sc_law:FnScope ["_law_script","_law_feed_here","_law_k","_law_game_here","_law_other","_law_how","_law_d","_law_tree","_law_paper","_law_row"] ["_law_script"] (AK C7):=by walk_at "f"
noncomputable def CA:Str:=PySem.Str.ofString "Reckoner.first_question" ++ PySem.Str.ofString ".<locals>." ++ PySem.Str.ofString "<lambda>"
noncomputable def FX:Pos:=⟨77,45,77,97⟩
noncomputable def CN:Str:=PySem.Str.ofString "is_tree" ++ PySem.Str.ofString ".<locals>." ++ PySem.Str.ofString "<lambda>"
noncomputable def FI:Pos:=⟨190,20,190,66⟩
set_option genInjectivity false
set_option genSizeOf false
structure Fun1(K:W.Frag)(mg:Str->Option Value)(n:Str)(st:Stmt)(ps:List Str) where
 f:Addr
 d:FuncData
 F:Fun K n n st f d
 b:Binds K d ps []
 m:mg n=some (.ref f)
structure Meth1(K:W.Frag)(C:Addr)(n q:Str)(st:Stmt)(ps:List Str) where
 f:Addr
 d:FuncData
 F:Fun K n q st f d
 b:Binds K d ps []
 m:Meth K C n f
structure Txt(K:W.Frag)(mg:Str->Option Value) where
 C_Bearing:Addr
 mC_Bearing:mg "Bearing" = some (.ref C_Bearing)
 cl_Bearing:Cls K C_Bearing
 na_Bearing_yeses:NoAttr K C_Bearing "yeses"
 na_Bearing_numbers:NoAttr K C_Bearing "numbers"
 na_Bearing_found:NoAttr K C_Bearing "found"
 C_Reckoner:Addr
 mC_Reckoner:mg "Reckoner" = some (.ref C_Reckoner)
 cl_Reckoner:Cls K C_Reckoner
 na_Reckoner_labels:NoAttr K C_Reckoner "labels"
 na_Reckoner_yeses:NoAttr K C_Reckoner "yeses"
 na_Reckoner_alike:NoAttr K C_Reckoner "alike"
 na_Reckoner_known:NoAttr K C_Reckoner "known"
 z56:Fun1 K mg "is_whole" Ic ["thing"]
 z57:Fun1 K mg "is_below" KJ ["bound","thing"]
 z65:Fun1 K mg "two_to" KO ["n"]
 z59:Fun1 K mg "power_of" IH ["base","times"]
 z66:Fun1 K mg "is_on" IF ["place","switch"]
 z64:Fun1 K mg "within" Ke ["subset","other"]
 z39:Fun1 K mg "set_holding" KA ["members"]
 z45:Fun1 K mg "members_of" IQ ["subset"]
 z30:Meth1 K C_Reckoner "__init__" "Reckoner.__init__" Jc ["self","game"]
 mk_Reckoner:Mk K C_Reckoner z30.f
 z18:Meth1 K C_Reckoner "everything" "Reckoner.everything" HX ["self"]
 z13:Meth1 K C_Reckoner "has_one_label" "Reckoner.has_one_label" JK ["self","things"]
 z21:Meth1 K C_Reckoner "label_of" "Reckoner.label_of" HP ["self","things"]
 z24:Meth1 K C_Reckoner "left_of" "Reckoner.left_of" JW ["self","things","question","answer"]
 z15:Meth1 K C_Reckoner "fewest_among" "Reckoner.fewest_among" Ib ["self","things"]
 z10:Meth1 K C_Reckoner "fewest_reckoned" "Reckoner.fewest_reckoned" JY ["self","things"]
 z22:Meth1 K C_Reckoner "parting" "Reckoner.parting" Je ["self","things"]
 z14:Meth1 K C_Reckoner "worst_behind" "Reckoner.worst_behind" Jz ["self","things","question"]
 z17:Meth1 K C_Reckoner "harder_left" "Reckoner.harder_left" Jq ["self","things","question"]
 z16:Meth1 K C_Reckoner "harder_lefts" "Reckoner.harder_lefts" Jo ["self","things"]
 z12:Meth1 K C_Reckoner "first_question" "Reckoner.first_question" Ch ["self","things"]
 z35:Fun1 K mg "members_where" Ix ["wanted","values"]
 z62:Fun1 K mg "is_pair" He ["thing"]
 z68:Fun1 K mg "ends" IL ["game"]
 z23:Fun1 K mg "refuse_without_end" KB ["game"]
 z34:Fun1 K mg "first_unparted" Io ["game"]
 z63:Fun1 K mg "fewest" KN ["game"]
 z49:Fun1 K mg "best_tree" Gx ["reckoner","things"]
 z47:Fun1 K mg "hard_paper" Jl ["reckoner","things"]
 z52:Fun1 K mg "lets_hard" Jn ["game","d","thing"]
 z58:Fun1 K mg "is_entry" Hk ["game","thing"]
 z42:Fun1 K mg "are_things" HW ["many","thing"]
 z33:Meth1 K C_Bearing "__init__" "Bearing.__init__" JQ ["self","game","entries"]
 mk_Bearing:Mk K C_Bearing z33.f
 z20:Meth1 K C_Bearing "bears_all" "Bearing.bears_all" Jw ["self"]
 z32:Meth1 K C_Bearing "bears" "Bearing.bears" Ho ["self","things","number","yes"]
 z19:Meth1 K C_Bearing "has_within" "Bearing.has_within" Ia ["self","things","number"]
 z11:Meth1 K C_Bearing "greatest_within" "Bearing.greatest_within" Ja ["self","things"]
 z60:Fun1 K mg "keeps_to" Hg ["has_form","parts_within","is_beyond","thing"]
 z61:Fun1 K mg "is_tree" Ct ["game","thing"]
 z36:Fun1 K mg "has_tree_form" Hy ["questions","thing"]
 z38:Fun1 K mg "trees_within" HK ["tree"]
 z25:Fun1 K mg "is_too_large_tree" Hj ["many","depth"]
 z67:Fun1 K mg "asked" KZ ["game","tree","thing"]
 z51:Fun1 K mg "lets_tree" Ih ["game","d","thing"]
 z41:Fun1 K mg "comes_home" Iq ["game","d","tree","hidden"]
 z50:Fun1 K mg "_law_feed" JU ["_law_script"]
 z54:Fun1 K mg "_law_draw" Ie ["_law_feed_here","_law_many"]
 z48:Fun1 K mg "_law_table" IT ["_law_feed_here","_law_n"]
 z29:Fun1 K mg "_law_table_game" KH ["_law_table_here"]
 z43:Fun1 K mg "_law_class" Il ["_law_feed_here","_law_n","_law_many"]
 z31:Fun1 K mg "_law_class_game" KL ["_law_tables"]
 z44:Fun1 K mg "_law_picks" Hl ["_law_feed_here"]
 z37:Fun1 K mg "_law_any_game" Jr ["_law_feed_here"]
 z55:Fun1 K mg "_law_game" G6 ["_law_feed_here"]
 z53:Fun1 K mg "_law_pair" JJ ["_law_game_here"]
 z40:Fun1 K mg "_law_ending" Iv ["_law_game_here"]
 z46:Fun1 K mg "_law_order" J9 ["_law_feed_here","_law_many"]
 z27:Fun1 K mg "_law_turned_game" IP ["_law_feed_here","_law_game_here"]
 z28:Fun1 K mg "_law_turned_tree" J2 ["_law_tree","_law_how"]
 z26:Fun1 K mg "_law_turned_paper" Kc ["_law_paper","_law_how"]
 f_law:Addr
 d_law:FuncData
 F_law:Fun K "law" "law" C7 f_law d_law
 b_law:Binds K d_law ["_law_script"] []
 m_law:mg "law" = some (.ref f_law)
 g_z12:Addr
 p_z12:Addr
 gc_z12:z12.d.code=.ref g_z12
 gh_z12:W.codeHdIn K g_z12 p_z12=true
 g_z61:Addr
 p_z61:Addr
 gc_z61:z61.d.code=.ref g_z61
 gh_z61:W.codeHdIn K g_z61 p_z61=true
 np_0:p_z12≠p_z61
 z_all:mg "all" = none
 z_any:mg "any" = none
 z_bool:mg "bool" = none
 z_enumerate:mg "enumerate" = none
 z_int:mg "int" = none
 z_isinstance:mg "isinstance" = none
 z_len:mg "len" = none
 z_list:mg "list" = none
 z_max:mg "max" = none
 z_min:mg "min" = none
 z_range:mg "range" = none
 z_set:mg "set" = none
 z_sorted:mg "sorted" = none
 z_sum:mg "sum" = none
 z_tuple:mg "tuple" = none
 t_MOST_TREES:Tok
 c_MOST_TREES:mg "MOST_TREES" = some (.int 2000 t_MOST_TREES)
 t_MOST_WITHIN:Tok
 c_MOST_WITHIN:mg "MOST_WITHIN" = some (.int 16 t_MOST_WITHIN)
set_option genInjectivity true
set_option genSizeOf true
abbrev Xp(P:Program)(w:World)(base:Heap){K:W.Frag}{mg:Str->Option Value}{n:Str}{st:Stmt}{ps:List Str}(z:Fun1 K mg n st ps)(k:Nat)(sp:Sp):Prop:=FnOk P w K mg base CX0 k z.f z.d ps sp
abbrev Xq(P:Program)(w:World)(mg:Str->Option Value)(base:Heap){K:W.Frag}{C:Addr}{n q:Str}{st:Stmt}{ps:List Str}(z:Meth1 K C n q st ps)(k:Nat)(sp:Sp):Prop:=FnOk P w K mg base CX0 k z.f z.d ps sp
section
variable {P:Program}{w:World}{K:W.Frag}{mg:Str->Option Value}{base:Heap}(T:Txt K mg)
local macro_rules | `(tactic| walk_at "sm")=>`(tactic| repeat' with_reducible first | exact Vs | apply V0 | apply Xg | apply WW | apply Ta | apply Qr | apply TN | apply SQ | exact XR | exact Om | apply WG | apply Pj | apply Qw | apply SI | apply Od | apply Rt | apply U1 | apply RO | apply Vx | exact TK | exact Qe | exact Pm | exact UK | exact Vb | exact PX | exact XH | exact Og | exact Xi | exact VL | exact VQ | exact XF | exact RB | apply Oi | apply RJ | apply Qo | apply Oj | exact T6 | apply WZ | exact SB | exact SR | apply Os | apply SE | apply Uo | apply QC | exact BR | apply DX | exact By | exact Rg | exact U5 | exact QZ | exact Rc | apply Wk | apply PZ | apply UE | exact Xo | apply V2 | exact Uh | exact UZ | apply O7 | apply Uz | exact WP | exact P8 | exact XD | exact VA | apply U9 | exact Ra | exact Ru | exact XJ | apply Tz | apply TW | exact T0 | apply TV | exact VJ | apply PD | assumption)
set_option hygiene false in
local macro_rules | `(tactic| walk_at "q")=>`(tactic| (split at q;(revert q;repeat' first | exact h _ _ | exact newL_mono h | exact out_mono h | exact outT_mono h | walk_at "m");(exact q.elim)))
set_option hygiene false in
local macro_rules | `(tactic| walk_at "e")=>`(tactic| (split at h <;> first | rfl | exact h.elim))
set_option hygiene false in
local macro_rules | `(tactic| walk_at "f")=>`(tactic| (intro Yy A outer s H vs Q E hr h;have hu:=AS hr))
set_option hygiene false in
local macro_rules | `(tactic| walk_at "g")=>`(tactic| (split at h;rotate_left;(exact h.elim)))
theorem pa1{X:Cx}{e:PySem.Expr}{te:TE}(ha:PE X e te)(hs:starEach [e] X.env=[(false,eval e X.env)]):PA X [e] (J8 te Fm):=AA ha AB hs
local macro_rules | `(tactic| left)=>`(tactic| exact⟨by rfl,by first | exact Or.inl rfl | exact Or.inr (Or.inl rfl) | exact Or.inr (Or.inr rfl),by decide,by decide⟩)
local macro_rules | `(tactic| walk_at "m")=>`(tactic| with_reducible first | refine Exists.imp fun _=>?_ | refine And.imp_right ?_ | refine forall_imp fun _=>?_)
local macro_rules | `(tactic| walk_at "o")=>`(tactic| first | exact Or.inl rfl | exact Or.inr (Or.inl rfl) | exact Or.inr (Or.inr rfl))
local macro_rules | `(tactic| walk_at "i")=>`(tactic| first | exact .inl rfl | exact .inr rfl | assumption)
local macro_rules | `(tactic| right)=>`(tactic| first | exact Or.inl rfl | exact Or.inr rfl)
local macro_rules | `(tactic| exfalso)=>`(tactic| first | exact Ig _ (by decide) (by decide) | rfl)
theorem Rf:Xp P w base T.z50 1 (JH K):=by
 refine T.z50.F.ok VM (fun vs H Q E h=>by unfold JH at h;walk_at "e") ?_;walk_at "f";unfold JH at h;walk_at "g"
 rename_i a;obtain⟨ns,hs,q⟩:=h;refine⟨_,(@AH _ _ _ (@AL _ _ _ _ (@BK _ _ _ _ (AA (AQ (BA (K:=K)) (At (Lq (K:=K)) rfl T.z_list (by rfl) (AA (Ua (K:=K) (vv 0) Fz (Gh AC)) AB)) (AQ CO (@BK _ _ _ _ (AA AC AB)) (At NB rfl T.z_int (by rfl) (AA (A7 (kEq (K:=K) hu) (vv 0) (@BK _ _ _ _ AB)) AB)))) (AA AC (AA AC (AA AC AB))))))),?_⟩;refine⟨63,rfl,_,.inl ⟨hs,fun p hp=>?_⟩⟩
 have ecut:Bb (ns.map V.int) none (some 63)=(ns.take (HT.sIx ns.length ns.length (some 63))).map V.int:=by
  unfold Bb;rw[ZB];simp[HT.sIx,List.map_take]
 rw[ecut];generalize hns:ns.take (HT.sIx ns.length ns.length (some 63))=ms
 have hms:ns≠[]->ms≠[]:=by
  intro Yv;rw[<- hns];cases ns with
  | nil=>exact absurd rfl Yv
  | cons x xs =>
   have e:HT.sIx (x::xs).length (x::xs).length (some 63)=min 63 (xs.length+1):=HT.sIx_nat _ _ 63;rw[e,show min 63 (xs.length+1)=(min 62 xs.length)+1 by lia,List.take_succ_cons];exact fun z=>nomatch z
 have hml:ms.length<=63:=by
  rw[<- hns,ZW];have e:HT.sIx ns.length ns.length (some 63)=min 63 ns.length:=HT.sIx_nat _ _ 63;lia
 refine⟨_,.inl (.of AD),fun p2 hp2=>?_⟩;have s2:Yb H (upd (upd H p (.lst (ms.map V.int))) p2 (.lst (ms.map V.int))):=(Yb.upd hp).trans (Yb.upd hp2);have g2:upd (upd H p (.lst (ms.map V.int))) p2 (.lst (ms.map V.int)) p2=some (.lst (ms.map V.int)):=AD;generalize upd (upd H p (.lst (ms.map V.int))) p2 (.lst (ms.map V.int))=H2 at *;refine⟨smq rfl,fun p3 hp3=>?_⟩;have s3:Yb H2 (upd H2 p3 (.lst [.int 0])):=Yb.upd hp3;have g3:upd H2 p3 (.lst [.int 0]) p3=some (.lst [.int 0]):=AD;generalize upd H2 p3 (.lst [.int 0])=H3 at *;refine⟨smq rfl,fun p4 hp4=>?_⟩;have s4:Yb H3 (upd H3 p4 (.lst [])):=Yb.upd hp4;have g4:upd H3 p4 (.lst []) p4=some (.lst []):=AD;generalize upd H3 p4 (.lst [])=H4 at *;have S4:=s2.trans (s3.trans s4);refine⟨.lst (ns.map Dv.int),.lst [],?_,?_,?_,?_⟩
 ·unfold Yf;exact⟨a,_,rfl,S4.sqL hs,HL ns⟩
 ·unfold Yf;exact⟨p4,_,rfl,.of g4,Ad⟩
 ·unfold A4;rw[Nn];lia
 have eb:eqD (.lst (ns.map Dv.int)) (.lst [])=decide (ns=[]):=by
  rw[Fh];cases ns with
  | nil=>rfl
  | cons x xs=>rfl
 rw[eb]
 have fin:∀(k:Nat),k<=1->(ns=[]->k=1)->∀H5 p5,Yb H4 H5->H5 p5=some (.lst (List.replicate k (V.int 0)))->∃l b xs zs,V.ref p2=.ref l/\V.ref p5=.ref b/\H5 l=some (.lst xs)/\H5 b=some (.lst zs)/\xs.length+zs.length<=sizeLine/\∀p6,H5 p6=none ->
  4<=sizeLine/\∀p7,upd H5 p6 (.lst (xs++zs)) p7=none->Q (.ref p7) (upd (upd H5 p6 (.lst (xs++zs))) p7 (.lst [.ref p6,.int 0,.int 0,.int 0])):=by
  intro k hk hk1 H5 p5 s5 g5;refine⟨p2,p5,_,_,rfl,rfl,s5 _ _ (s4 _ _ (s3 _ _ g2)),g5,CZ (by rw[ZB,ZBh];lia),fun p6 hp6=>⟨CZ (by decide),fun p7 hp7=>?_⟩⟩;have S5:=S4.trans s5;have S6:=S5.trans (Yb.upd (o:=.lst (ms.map V.int++List.replicate k (V.int 0))) hp6);refine q p7 _ (S6.free hp7) (S6.trans (Yb.upd hp7)) ⟨p6,0,0,0,ms++List.replicate k 0,by decide,by decide,by decide,by decide,AD,?_,?_,?_⟩
  ·exact fun e=>by rw[<- e,AD]at hp7;cases hp7
  ·rw[AJ (fun e=>by rw[<- e,AD]at hp7;cases hp7),AD];rw[ZF,List.map_replicate]
  ·rw[ZM,ZBh]
   by_cases Yv:ns=[]
   ·rw[hk1 Yv];lia
   ·have:=hms Yv
    have:ms.length≠0:=fun z=>this (ZB5.mp z)
    lia
 by_cases Yv:ns=[]
 ·rw[ZL Yv];refine⟨p3,1,_,rfl,rfl,s4 _ _ g3,by decide,by decide,CZ (by decide),fun p5 hp5=>.inl ?_⟩;exact fin 1 (by decide) (fun _=>rfl) _ p5 (Yb.upd hp5) AD
 ·rw[Zg Yv];refine⟨p3,0,_,rfl,rfl,s4 _ _ g3,by decide,by decide,CZ (by decide),fun p5 hp5=>.inl ?_⟩;exact fin 0 (by decide) (fun z=>absurd z Yv) _ p5 (Yb.upd hp5) AD
theorem HB:Xp P w base T.z54 1 Ef:=by
 refine T.z54.F.ok sc_z54 (fun vs H Q E h=>by unfold Ef at h;walk_at "e") ?_;walk_at "f"
 match vs,h with
 | [.ref t,.int m],h =>
 obtain⟨l,N,F,hN,hm,k⟩:=h;obtain⟨i,g,c,ns,i0,g0,c0,cN,ht,lt,hl,nl⟩:=F.at_;have hm0:0 < m:=hm.1;refine⟨_,(@AF _ _ _ _ _ (@Cp _ _ _ _ _ _ (AQ (BA (K:=K)) (Yl (K:=K) (vv 0) AC) AC) (Em (vv 0) AC Eo) (by rfl) (by rfl) (by rfl)) (@AF _ _ _ _ _ (@AN _ _ 2 _ _ _ _ sc_z54.nd rfl (by right) (Yl (K:=K) (vv 0) AC) (by rfl) (by walk_at "i")) (@AF _ _ _ _ _ (@Ao _ _ _ _ _ _ _ _ (Ae (kEq (K:=K) hu) (Yl (K:=K) (vv 0) AC) AC) (@AF _ _ _ _ _ (@AN _ _ 3 _ _ _ _ sc_z54.nd rfl (by right) (Yl (K:=K) (Yl (K:=K) (vv 0) AC) (AQ DJ (Yl (K:=K) (vv 0) AC) (Aa (As (K:=K)) rfl T.z_len (by rfl) (AA (Yl (K:=K) (vv 0) AC) AB)))) (by rfl) (by walk_at "i")) (@AF _ _ _ _ _ (@Cp _ _ _ _ _ _ (AQ (BA (K:=K)) (Yl (K:=K) (vv 0) AC) AC) (Em (vv 0) AC Eo) (by rfl) (by rfl) (by rfl)) (@AF _ _ _ _ _ (@Ao _ _ _ _ _ _ _ _ (Ae Cu (vv 3) (AQ OL AC AC)) (@AF _ _ _ _ _ (@AN _ _ 4 _ _ _ _ sc_z54.nd rfl (by right) (AQ (BA (K:=K)) (AQ (BA (K:=K)) (AQ (BA (K:=K)) (AQ DJ (vv 3) AC) (AQ CO (AQ CO AC (vv 2)) (vv 2))) (AQ CO AC (vv 2))) AC) (by rfl) (by walk_at "i")) (@AF _ _ _ _ _ (@AN _ _ 4 _ _ _ _ sc_z54.nd rfl (by right) (AQ CO (AQ FO (AQ DJ (AQ CO (vv 4) AC) AC) AC) AC) (by rfl) (by walk_at "i")) (@AH _ _ _ (@AL _ _ _ _ (AQ DJ (AQ FO (AQ DJ (vv 4) AC) AC) (vv 1)))))) An) (@AH _ _ _ (@Cp _ _ _ _ _ _ (vv 3) (Em (vv 0) AC Eo) (by rfl) (by rfl) (by rfl)))))) An) (@AF _ _ _ _ _ (@AN _ _ 5 _ _ _ _ sc_z54.nd rfl (by right) (AQ DJ (Yl (K:=K) (vv 0) AC) (vv 1)) (by rfl) (by walk_at "i")) (@AF _ _ _ _ _ (@Cp _ _ _ _ _ _ (AQ FO (Yl (K:=K) (vv 0) AC) (vv 1)) (Em (vv 0) AC Eo) (by rfl) (by rfl) (by rfl)) (@AH _ _ _ (@AL _ _ _ _ (vv 5)))))))),?_⟩;refine AX (fun σ' H1=>σ'=[some (.ref t),some (.int m),none,none,none,none]/\(∀b,b≠t->H1 b=H b)/\H1 t=some (.lst [.ref l,.int i,.int g,.int (c+1)])) ?_ ?_ (by walk_at "sm")
 ·exact⟨_,_,.inl (.of ht),rfl,_,_,ht,rfl,rfl,fun b n=>AJ n,AD⟩
 rintro σ' H1 ⟨rfl,f1,ht1⟩;refine⟨_,_,.inl (.of ht1),rfl,?_⟩;have hl1:H1 l=some (.lst (ns.map V.int)):=by rw[f1 l lt];exact hl
 have pos:(0:Int) < (ns.length:Int):=by lia
 dsimp only[AT];refine AX (fun σ' H2=>∃(z3 z4:Option V) (i2 g2:Int),σ'=[some (.ref t),some (.int m),some (.int (c+1)),z3,z4,none]/\(∀b,b≠t->H2 b=H b)/\0<=i2/\0<=g2/\H2 t=some (.lst [.ref l,.int i2,.int g2,.int (c+1)])) ?_ ?_ (by walk_at "sm")
 ·refine⟨_,_,.inl (.of ht1),rfl,?_⟩;refine Ak (fun e=>?_) (fun e=>⟨none,none,i,g,rfl,f1,i0,g0,ht1⟩);obtain⟨z,hz⟩:=Rx (ns:=ns) (Int.emod_nonneg i (show(ns.length:Int)≠0 by lia)) (Int.emod_lt_of_pos i pos);refine AX (fun σ' H2=>σ'=[some (.ref t),some (.int m),some (.int (c+1)),some (.int z),none,none]/\H1=H2) ?_ ?_ (by walk_at "sm")
  ·exact⟨_,_,.inl (.of ht1),rfl,_,_,.inl (.of ht1),rfl,_,_,.inl (.of ht1),rfl,ns.length,.inl ⟨_,.of hl1,by rw[ZB]⟩,pos,_,_,.inl (.of hl1),hz,rfl,rfl⟩
  rintro σ' _ ⟨rfl,rfl⟩;refine AX (fun σ' H2=>σ'=[some (.ref t),some (.int m),some (.int (c+1)),some (.int z),none,none]/\(∀b,b≠t->H2 b=H b)/\H2 t=some (.lst [.ref l,.int (i+1),.int g,.int (c+1)])) ?_ ?_ (by walk_at "sm")
  ·exact⟨_,_,.inl (.of ht1),rfl,_,_,ht1,rfl,rfl,fun b n=>by rw[AJ n];exact f1 b n,AD⟩
  rintro σ' H2 ⟨rfl,f2,ht2⟩;refine AX (fun σ' H3=>σ'=[some (.ref t),some (.int m),some (.int (c+1)),some (.int z),none,none]/\H2=H3/\¬z < 1000000000000000000) ?_ ?_ (by walk_at "sm")
  ·refine⟨⟨by decide,by decide,by decide⟩,?_⟩;refine Ak (fun e=>?_) (fun e=>⟨rfl,rfl,?_⟩)
   ·refine⟨by decide,.inr (.inl ⟨by decide,by decide⟩),.inr (.inl ⟨by lia,by lia⟩),.inr (.inl ⟨by decide,by decide⟩),?_⟩;refine⟨.inr (.inr ⟨by decide,by decide⟩),by decide,Av (by decide) (by decide),.inr (.inr ⟨by decide,by decide⟩),?_⟩;refine⟨by decide,Av (by decide) (by decide),hm0,?_⟩;exact k _ _ (Int.emod_nonneg _ (by lia)) (Int.emod_lt_of_pos _ hm0) ⟨i+1,g,c+1,ns,by lia,g0,by lia,by lia,ht2,lt,by rw[f2 l lt];exact hl,nl⟩ f2
   ·intro z';exact e (ZL z')
  rintro σ' _ ⟨rfl,rfl,hz2⟩;exact⟨_,_,ht2,rfl,_,_,_,_,rfl,fun b n=>by rw[AJ n];exact f2 b n,show 0<=i+1 by lia,show 0<=z by lia,AD⟩
 rintro σ' H2 ⟨z3,z4,i2,g2,rfl,f2,i0',g0',ht2⟩;refine⟨_,_,.inl (.of ht2),rfl,hm0,?_⟩;dsimp only[AT];refine⟨_,_,.inl (.of ht2),rfl,hm,_,_,ht2,rfl,?_⟩;refine k _ _ (Int.emod_nonneg _ (by lia)) (Int.emod_lt_of_pos _ hm0) ⟨i2,g2 / m,c+1,ns,i0',Int.ediv_nonneg g0' (by lia),by lia,by lia,AD,lt,?_,nl⟩ (fun b n=>by rw[AJ n];exact f2 b n);rw[AJ lt,f2 l lt];exact hl
theorem DF:Xp P w base T.z54 1 Ev:=(HB T).imp Ph
noncomputable def One(L:Nat->Int)(S:Nat->Bool):Prop:=∀i j,S i=true->S j=true->L i=L j
noncomputable def Can(L:Nat->Int)(Y:List (Nat->Bool)):Nat->(Nat->Bool)->Prop
 | 0,S=>One L S
 | n+1,S=>One L S\/∃y∈Y,Can L Y n (fun k=>S k && y k)/\Can L Y n (fun k=>S k && !y k)
section
variable {L L':Nat->Int}{Y Y':List (Nat->Bool)}{S S':Nat->Bool}{n m a b c:Nat}
theorem OT(h:∀k,S' k=true->S k=true)(o:One L S):One L S':=fun i j x y=>o i j (h i x) (h j y)
theorem Bz:∀{n:Nat} {S S':Nat->Bool},(∀k,S' k=true->S k=true)->Can L Y n S->Can L Y n S'
 | 0,_,_,h,o=>OT h o
 | n+1,S,S',h,.inl o=>.inl (OT h o)
 | n+1,S,S',h,.inr ⟨y,hy,p,q⟩=>.inr ⟨y,hy,Bz (fun k z=>by simp only[ZQ]at z ⊢;exact⟨h k z.1,z.2⟩) p,Bz (fun k z=>by simp only[ZQ]at z ⊢;exact⟨h k z.1,z.2⟩) q⟩
theorem E2:∀{n:Nat} {S:Nat->Bool},Can L Y n S->Can L Y (n+1) S
 | 0,_,o=>.inl o
 | n+1,S,.inl o=>.inl o
 | n+1,S,.inr ⟨y,hy,p,q⟩=>.inr ⟨y,hy,E2 p,E2 q⟩
theorem FF(h:n<=m)(p:Can L Y n S):Can L Y m S:=by
 induction h with
 | refl=>exact p
 | step _ ih=>exact E2 ih
theorem IR(h:∀y∈Y,y∈Y'):∀{n:Nat} {S:Nat->Bool},Can L Y n S->Can L Y' n S
 | 0,_,o=>o
 | n+1,S,.inl o=>.inl o
 | n+1,S,.inr ⟨y,hy,p,q⟩=>.inr ⟨y,h y hy,IR h p,IR h q⟩
noncomputable def Ar(L:Nat->Int)(Y:List (Nat->Bool))(S:Nat->Bool)(m:Nat):Prop:=Can L Y m S/\∀n,Can L Y n S->m<=n
theorem Jv(x:Ar L Y S a)(y:Ar L Y S b):a=b:=Nat.le_antisymm (x.2 _ y.1) (y.2 _ x.1)
theorem N6(x:Ar L Y S a):a=0 ↔ One L S :=
 ⟨fun e=>by subst e;exact x.1,fun o=>Nat.le_zero.mp (x.2 0 o)⟩
theorem Py{y:Nat->Bool}(hy:y∈Y)(x:Ar L Y S a)(p:Ar L Y (fun k=>S k && y k) b)(q:Ar L Y (fun k=>S k && !y k) c):a<=1+max b c:=by
 rw[Nat.add_comm];exact x.2 (max b c+1) (.inr ⟨y,hy,FF (Nat.le_max_left ..) p.1,FF (Nat.le_max_right ..) q.1⟩)
noncomputable def Bi(S y:Nat->Bool):Prop:=(∃k,S k=true/\y k=true)/\∃k,S k=true/\y k=false
theorem not_parts{y:Nat->Bool}(h:¬Bi S y):(∀k,S k=true->(S k && y k)=true)\/∀k,S k=true->(S k && !y k)=true:=by
 by_cases z:∃k,S k=true/\y k=true
 ·refine .inl fun k hk=>?_
  rw[hk,Bool.true_and];cases e:y k with
  | true=>rfl
  | false=>exact absurd ⟨z,k,hk,e⟩ h
 ·refine .inr fun k hk=>?_
  rw[hk,Bool.true_and];cases e:y k with
  | false=>rfl
  | true=>exact absurd ⟨k,hk,e⟩ z
theorem HJ(ho:¬One L S):∀{n:Nat},Can L Y n S->∃y∈Y,Bi S y
 | 0,o=>absurd o ho
 | n+1,.inl o=>absurd o ho
 | n+1,.inr ⟨y,hy,p,q⟩=>by
  by_cases h:Bi S y
  ·exact⟨y,hy,h⟩
  ·rcases not_parts h with z | z
   ·exact HJ ho (Bz z p)
   ·exact HJ ho (Bz z q)
theorem LA (ho:¬One L S) (h1:∃y∈Y,Bi S y/\∃b c,Ar L Y (fun k=>S k && y k) b/\Ar L Y (fun k=>S k && !y k) c/\m=max b c)
 (h2:∀y∈Y,Bi S y->∃b c,Ar L Y (fun k=>S k && y k) b/\Ar L Y (fun k=>S k && !y k) c/\m<=max b c):Ar L Y S (1+m):=by
 constructor
 ·obtain⟨y,hy,hp,b,c,p,q,e⟩:=h1;rw[Nat.add_comm];exact .inr ⟨y,hy,FF (by rw[e];exact Nat.le_max_left ..) p.1,FF (by rw[e];exact Nat.le_max_right ..) q.1⟩
 ·intro n
  induction n with
  | zero=>exact fun o=>absurd o ho
  | succ n ih =>
   rintro(o | ⟨y,hy,p,q⟩)
   ·exact absurd o ho
   ·by_cases h:Bi S y
    ·obtain⟨b,c,p',q',hm⟩:=h2 y hy h;have x1:=p'.2 _ p;have x2:=q'.2 _ q;lia
    ·rcases not_parts h with z | z
     ·exact Nat.le_succ_of_le (ih (Bz z p))
     ·exact Nat.le_succ_of_le (ih (Bz z q))
theorem VV:∀{n:Nat} {S:Nat->Bool} (ds:List Int),Can L Y n S->ds.Nodup->(∀d∈ds,∃k,S k=true/\L k=d)->ds.length<=2 ^ n:=by
 have one:∀{S:Nat->Bool} (ds:List Int),One L S->ds.Nodup->(∀d∈ds,∃k,S k=true/\L k=d)->ds.length<=1:=by
  intro S ds o nd h
  match ds,nd,h with
  | [],_,_=>exact ZV _
  | [_],_,_=>exact ZE _
  | x::y::r,nd,h =>
   obtain⟨i,hi,ei⟩:=h x (by simp);obtain⟨j,hj,ej⟩:=h y (by simp)
   have:=o i j hi hj
   rw[ei,ej]at this;simp[this]at nd
 intro n
 induction n with
 | zero=>exact fun ds o nd h=>one ds o nd h
 | succ n ih =>
  intro S ds c nd h
  rcases c with o | ⟨y,hy,p,q⟩
  ·exact Zn (one ds o nd h) Nat.one_le_two_pow
  ·classical
   have e:ds.length=(ds.filter fun d=>decide (∃k,(S k && y k)=true/\L k=d)).length+(ds.filter fun d=>!decide (∃k,(S k && y k)=true/\L k=d)).length:=by
    clear nd h
    induction ds with
    | nil=>rfl
    | cons x r ih2 =>
     rw[List.filter_cons,List.filter_cons];cases decide (∃k,(S k && y k)=true/\L k=x) <;> simp[ih2] <;> lia
   have a1:=ih (ds.filter fun d=>decide (∃k,(S k && y k)=true/\L k=d)) p (nd.filter _) fun d hd=>by
    have:=(Z8.mp hd).2
    exact ZR this
   have a2:=ih (ds.filter fun d=>!decide (∃k,(S k && y k)=true/\L k=d)) q (nd.filter _) fun d hd=>by
    obtain⟨h1,h2⟩:=Z8.mp hd;obtain⟨k,hk,ek⟩:=h d h1;refine⟨k,?_,ek⟩;cases z:y k with
    | false=>rw[hk];rfl
    | true =>
     have:decide (∃k,(S k && y k)=true/\L k=d)=true:=ZL ⟨k,by rw[hk,z];rfl,ek⟩
     rw[this]at h2;cases h2
   rw[Nat.pow_succ];lia
noncomputable def Aq(N:Nat)(S:Nat->Bool):Nat:=((List.range N).filter S).length
theorem FJ(N:Nat)(S:Nat->Bool):Aq (N+1) S=Aq N S+if S N=true then 1 else 0:=by
 unfold Aq;rw[ZBN,ZBx,ZM];cases h:S N <;> simp[h]
theorem Ga(N:Nat)(S y:Nat->Bool):Aq N S=Aq N (fun k=>S k && y k)+Aq N (fun k=>S k && !y k):=by
 induction N with
 | zero=>rfl
 | succ N ih =>
  rw[FJ,FJ,FJ,ih];cases S N <;> cases y N <;> simp <;> lia
theorem Ed{S:Nat->Bool}(hk:k < N)(hs:S k=true):1<=Aq N S:=List.length_pos_of_mem (Z8.mpr ⟨Zr.mpr hk,hs⟩)
theorem Tj{S:Nat->Bool}(hi:i < N)(hj:j < N)(si:S i=true)(sj:S j=true)(ne:i≠j):2<=Aq N S:=by
 rw[Ga N S (fun k=>k == i)]
 have:=Ed (S:=fun k=>S k && k == i) hi (by simp[si])
 have:=Ed (S:=fun k=>S k && !(k == i)) hj (by simp[sj,Ne.symm ne])
 lia
theorem L7(hS:∀k,S k=true->k < N){y:Nat->Bool}(h:Bi S y):Aq N (fun k=>S k && y k) < Aq N S/\Aq N (fun k=>S k && !y k) < Aq N S:=by
 obtain⟨⟨i,hi,yi⟩,j,hj,yj⟩:=h
 have:=Ga N S y
 have:=Ed (S:=fun k=>S k && y k) (hS i hi) (by simp[hi,yi])
 have:=Ed (S:=fun k=>S k && !y k) (hS j hj) (by simp[hj,yj])
 lia
theorem G9(he:∀i j,i < N->j < N->(∀y∈Y,y i=y j)->L i=L j):∀(n:Nat) (S:Nat->Bool),(∀k,S k=true->k < N)->Aq N S<=n+1->Can L Y n S:=by
 intro n
 induction n with
 | zero =>
  intro S hS hc i j hi hj
  by_cases e:i=j
  ·rw[e]
  ·have:=Tj (hS i hi) (hS j hj) hi hj e
   lia
 | succ n ih =>
  intro S hS hc
  by_cases o:One L S
  ·exact .inl o
  ·have:∃i j,S i=true/\S j=true/\L i≠L j:=by
    refine Classical.byContradiction fun z=>o fun i j hi hj=>Classical.byContradiction fun q=>z ⟨i,j,hi,hj,q⟩
   obtain⟨i,j,hi,hj,ne⟩:=this
   have:∃y∈Y,y i≠y j:=by
    refine Classical.byContradiction fun z=>ne (he i j (hS i hi) (hS j hj) fun y hy=>Classical.byContradiction fun q=>z ⟨y,hy,q⟩)
   obtain⟨y,hy,Yv⟩:=this
   have hp:Bi S y:=by
    cases yi:y i with
    | true =>
     refine⟨⟨i,hi,yi⟩,j,hj,?_⟩;cases yj:y j with
     | false=>rfl
     | true=>rw[yi,yj]at Yv;exact absurd rfl Yv
    | false =>
     refine⟨⟨j,hj,?_⟩,i,hi,yi⟩;cases yj:y j with
     | true=>rfl
     | false=>rw[yi,yj]at Yv;exact absurd rfl Yv
   obtain⟨c1,c2⟩:=L7 hS hp;exact .inr ⟨y,hy,ih _ (fun k z=>hS k (by simp only[ZQ]at z;exact z.1)) (by lia),ih _ (fun k z=>hS k (by simp only[ZQ]at z;exact z.1)) (by lia)⟩
theorem Rr:∀{n:Nat} {S:Nat->Bool},Can L Y n S->∃m,Ar L Y S m:=by
 intro n S h
 induction n with
 | zero=>exact⟨0,h,fun _ _=>ZV _⟩
 | succ n ih =>
  by_cases z:Can L Y n S
  ·exact ih z
  ·exact⟨n+1,h,fun k hk=>by
    rcases Zu k (n+1) with q | q
    ·exact absurd (FF (by lia) hk) z
    ·exact q⟩
end
noncomputable def msk(ts:List Nat):Nat:=(ts.map (2 ^ ·)).sum
theorem Gp(t:Nat)(ts:List Nat):msk (t::ts)=2 ^ t+msk ts:=by unfold msk;rw[Za,List.sum_cons]
theorem P4(ts us:List Nat):msk (ts++us)=msk ts+msk us:=by unfold msk;rw[ZF,List.sum_append]
theorem Lc:∀(ts:List Nat) (N:Nat),ts.Pairwise (fun a b=>b < a)->(∀t∈ts,t < N)->msk ts < 2 ^ N/\∀k,(msk ts).testBit k=decide (k∈ts)
 | [],N,_,_=>⟨ZBg N,fun k=>by simp[msk]⟩
 | t::ts,N,hp,hl=>by
  obtain⟨h1,h2⟩:=List.pairwise_cons.mp hp;obtain⟨i1,i2⟩:=Lc ts t h2 h1;rw[Gp];have ht:t < N:=hl t (by simp);have e2:2 ^ t+2 ^ t<=2 ^ N:=by rw[<- Nat.two_mul,Nat.mul_comm,<- Nat.pow_succ];exact Zl (by decide) ht
  refine⟨by lia,fun k=>?_⟩
  rcases ZBH k t with z | z | z
  ·rw[Nat.testBit_two_pow_add_gt z,i2 k];simp only[ZH,show k≠t by lia,false_or]
  ·subst z;rw[Nat.testBit_two_pow_add_eq,i2 k]
   have:k∉ts:=fun q=>Zd _ (h1 k q)
   simp[this]
  ·have:2 ^ t+msk ts < 2 ^ k:=by
    have:2 ^ (t+1)<=2 ^ k:=Zl (by decide) z
    rw[Nat.pow_succ]at this;lia
   rw[Nat.testBit_lt_two_pow this];have h3:k∉ts:=fun q=>Zd _ (ZBM z (h1 k q))
   simp[h3,show k≠t by lia]
theorem UB(ts:List Nat):msk ts.reverse=msk ts:=by
 induction ts with
 | nil=>rfl
 | cons t ts ih=>rw[List.reverse_cons,P4,ih,Gp,Gp];simp[msk];lia
theorem FQ{ts:List Nat}(hp:ts.Pairwise (· < ·))(hl:∀t∈ts,t < N):msk ts < 2 ^ N/\∀k,(msk ts).testBit k=decide (k∈ts):=by
 have:=Lc ts.reverse N (List.pairwise_reverse.mpr hp) (fun t ht=>hl t (List.mem_reverse.mp ht))
 rw[UB]at this;exact⟨this.1,fun k=>by rw[this.2 k];simp⟩
theorem FA(x y k:Nat):(x - (x &&& y)).testBit k=(x.testBit k && !y.testBit k):=by
 have e:x - (x &&& y)=x ^^^ (x &&& y):=by
  have h:∀(n x y:Nat),x < 2 ^ n->(x ^^^ (x &&& y))+(x &&& y)=x:=by
   intro n
   induction n with
   | zero=>intro x y h;have:x=0:=by simpa using h
           subst this;simp
   | succ n ih =>
    intro x y h;have i:=ih (x / 2) (y / 2) (by rw[Nat.pow_succ]at h;lia);have d1:(x ^^^ (x &&& y)) / 2=x / 2 ^^^ (x / 2 &&& y / 2):=by rw[Nat.xor_div_two,Nat.and_div_two]
    have d2:(x &&& y) / 2=x / 2 &&& y / 2:=Nat.and_div_two
    have m1:(x ^^^ (x &&& y)) % 2+(x &&& y) % 2=x % 2:=by
     have g:∀z:Nat,z % 2=(z.testBit 0).toNat:=fun z=>by rw[Nat.toNat_testBit,Nat.pow_zero,Nat.div_one]
     rw[g,g (x &&& y),g x,Nat.testBit_xor,Z1];cases x.testBit 0 <;> cases y.testBit 0 <;> rfl
    lia
  have:=h x x y Nat.lt_two_pow_self
  lia
 rw[e,Nat.testBit_xor,Z1];cases x.testBit k <;> cases y.testBit k <;> rfl
theorem DD(S y:Nat):(S &&& y).testBit=fun k=>S.testBit k && y.testBit k:=funext fun k=>Z1 ..
theorem Cn(S y:Nat):(S - (S &&& y)).testBit=fun k=>S.testBit k && !y.testBit k:=funext fun k=>FA ..
theorem CV(h:S < 2 ^ n)(hk:S.testBit k=true):k < n:=by
 rcases Zu k n with z | z
 ·exact z
 ·rw[Nat.testBit_lt_two_pow (ZX h (Zl (by decide) z))]at hk;cases hk
noncomputable def J4:Sp:=fun vs H Q _=>match vs with
 | [.int b,.int t]=>∃m:Nat,t=m/\m<=64/\((-(2 ^ 64) < b/\b < 2 ^ 64)\/(Nb b 100/\m<=12))/\Q (.int (b ^ m)) H
 | _=>False
theorem Ou:Xp P w base T.z59 1 J4:=by
 refine T.z59.F.ok sc_z59 (fun vs H Q E h=>by unfold J4 at h;walk_at "e") ?_;walk_at "f";unfold J4 at h;walk_at "g"
 rename_i b t;obtain⟨m,e1,h1,b1,q⟩:=h;subst e1;refine⟨_,(@AF _ _ _ _ _ (@AN _ _ 2 _ _ _ _ sc_z59.nd rfl (by right) AC (by rfl) (by walk_at "i")) (@AF _ _ _ _ _ (@Be _ _ _ _ _ _ _ _ PassesOwn.never rfl (BC rfl T.z_range (AA (vv 1) AB)) (AO (i:=3) sc_z59.nd rfl (by right)) (@AH _ _ _ (@AN _ _ 2 _ _ _ _ sc_z59.nd rfl (by right) (AQ CO (vv 2) (vv 0)) (by rfl) (by walk_at "i"))) (by intro _;rfl)) (@AH _ _ _ (@AL _ _ _ _ (vv 2))))),?_⟩;refine⟨m,rfl,by lia,by lia,?_⟩;refine C3 (fun i Z H'=>H'=H/\∃z:Option V,Z=[some (.int b),some (.int m),some (.int (b ^ i)),z]) ⟨rfl,none,by rw[Int.pow_zero];rfl⟩ ?_ ?_
 ·rintro i Z H' hi ⟨rfl,z,rfl⟩;have hi':i < m:=by lia
  have okm:okMul (b ^ i) b:=by
   rcases b1 with b1 | ⟨b1,b2⟩
   ·exact .inr (.inr b1)
   ·exact Nb.okMul ((b1.pow i).up (by lia)) (b1.up (by lia))
  refine⟨okm,rfl,some (.int (0+(i:Int))),?_⟩;rw[Int.pow_succ];rfl
 ·rintro Z H' ⟨rfl,z,rfl⟩
  have:(m:Int).toNat=m:=by lia
  rw[this];exact q
noncomputable def Im:Sp:=fun vs H Q _=>match vs with
 | [.int n]=>∃m:Nat,n=m/\m<=64/\Q (.int (2 ^ m:Nat)) H
 | _=>False
theorem HA:Xp P w base T.z65 2 Im:=by
 refine T.z65.F.ok We (fun vs H Q E h=>by unfold Im at h;walk_at "e") ?_;walk_at "f";unfold Im at h;walk_at "g"
 rename_i n;obtain⟨m,e1,h1,q⟩:=h;subst e1;refine⟨_,(@AH _ _ _ (@AL _ _ _ _ (AI (@Ou P w K mg base T) (hr.mono (show 1<=_ by decide)) rfl T.z59.m T.z59.F.kp T.z59.b .nil AG (AA AC (AA (vv 0) AB))))),?_⟩;refine⟨m,rfl,h1,.inl ⟨by decide,by decide⟩,?_⟩;have e:(2:Int) ^ m=((2 ^ m:Nat):Int):=by rw[Int.natCast_pow];rfl
 rw[e];exact q
noncomputable def EJ:Sp:=fun vs H Q _=>match vs with
 | [.int x,.int y]=>∃a b:Nat,x=a/\y=b/\Q (.bl (decide (a &&& b=a))) H
 | _=>False
theorem Ud:AR EJ:=fun vs H Q Q' E h q=>by
 unfold EJ at *;walk_at "q"
theorem OH:Xp P w base T.z64 1 EJ:=by
 refine T.z64.F.ok WM (fun vs H Q E h=>by unfold EJ at h;walk_at "e") ?_;walk_at "f";unfold EJ at h;walk_at "g"
 rename_i x y;obtain⟨a,b,e1,e2,q⟩:=h;subst e1 e2;refine⟨_,(@AH _ _ _ (@AL _ _ _ _ (A7 (kEq (K:=K) hu) (AQ E6 (vv 0) (vv 1)) (vv 0)))),?_⟩
 have e:(false ^^ (Builtin.bitAnd (a:Int) (b:Int) == (a:Int)))=decide (a &&& b=a):=by
  rw[GW,Z2,ZBG];simp only[beq_iff_eq,decide_eq_true_eq];lia
 show Q (.bl (false ^^ (Builtin.bitAnd (a:Int) (b:Int) == (a:Int)))) H;rw[e];exact q
noncomputable def whr(bs:List Bool)(n:Nat):List Nat:=(List.range n).filter (gB bs)
theorem Hr(bs:List Bool)(n:Nat):whr bs (n+1)=whr bs n++(if gB bs n=true then [n] else []):=by
 unfold whr;rw[ZBN,ZBx];cases h:gB bs n <;> simp[h]
theorem EL(bs:List Bool)(n:Nat):(whr bs n).length<=n:=by
 have:=ZB7 (gB bs) (List.range n)
 rw[ZBB]at this;exact this
theorem IX(bs:List Bool)(n:Nat):(whr bs n).Pairwise (· < ·):=List.Pairwise.filter _ ZBu
theorem ED{bs:List Bool}{t:Nat}(h:t∈whr bs n):t < n:=Zr.mp (Z8.mp h).1
theorem Mr{bs:List Bool}{t:Nat}:t∈whr bs n ↔ t < n/\gB bs t=true:=by unfold whr;rw[Z8,Zr]
noncomputable def JE(K:W.Frag):Sp:=fun vs H Q _=>match vs with
 | [.bl b,.ref p]=>∃rb:List Bool,Yp K H p (rb.map V.bl)/\rb.length<=100/\HH H Q (iL (whr (rb.map (· == b)) rb.length))
 | [.int z,.ref p]=>∃ls:List Int,Yp K H p (ls.map V.int)/\ls.length<=100/\HH H Q (iL (whr (ls.map (· == z)) ls.length))
 | _=>False
theorem FV{α:Type}{f:α->Bool}{l:List α}{x:α}(h:l[i]? = some x):gB (l.map f) i=f x:=by
 unfold gB;rw[ZN,ZP,h];rfl
theorem Tv:Xp P w base T.z35 1 (JE K):=by
 refine T.z35.F.ok U2 (fun vs H Q E h=>by unfold JE at h;walk_at "e") ?_;walk_at "f";unfold JE at h;split at h
 ·rename_i b p;obtain⟨rb,hp,hl,q⟩:=h;refine⟨_,(@AH _ _ _ (@AL _ _ _ _ (@Ap _ _ _ _ _ _ _ (["member","each","wanted"]) 2 [0] _ _ _ _ rfl (KC (K:=K) rfl T.z_enumerate (AA (vv 1) AB)) (by kernel_rfl) rfl rfl (by kernel_rfl) (fun c=>D0 (K:=K) (n:=2) rfl (Az (AO (i:=0) (show(["member","each","wanted"]:List Str).Nodup by decide +kernel) rfl (by right)) (Az (AO (i:=1) (show(["member","each","wanted"]:List Str).Nodup by decide +kernel) rfl (by right)) B9))) (Ei (B6 BR (DX BR By) (Ac (by decide)) (B6 BR By (Ac (by decide)) EM))) (fun c=>D7 (Ae (kEq (K:=K) hu) (vv 1) (vv 2))) (fun c=>(vv 0)) (by intro _;rfl)))),?_⟩;refine⟨⟨_,hp⟩,?_⟩
  refine HZ (xs:=rb.map V.bl) (fun i zs H'=>Yb H H'/\zs=iL (whr (rb.map (· == b)) i)) ⟨Yb.refl _,rfl⟩ (fun i zs H' _ ⟨s,_⟩=>s.sqT hp) (fun i zs H' hi ⟨_,e⟩=>by
   rw[ZB]at hi
   have:=EL (rb.map (· == b)) i
   rw[e,Aj];exact Ag (by lia)) ?_ ?_
  ·rintro i x zs H2 pp hx ⟨s2,rfl⟩ hpp;rw[ZP]at hx;cases e0:rb[i]? with
   | none=>rw[e0]at hx;cases hx
   | some r =>
    rw[e0]at hx;cases hx;have eg:gB (rb.map (· == b)) i=(r == b):=FV e0;refine⟨pp,_,rfl,.of AD,rfl,_,_,rfl,_,_,rfl,rfl,?_⟩;rw[Hr,Ce,eg];refine Ak (fun e=>?_) (fun e=>?_)
    ·have e':(r == b)=true:=by rw[<- Z2 (r == b)];exact e
     rw[if_pos e'];exact⟨s2.trans (Yb.upd hpp),rfl⟩
    ·have e':¬(r == b)=true:=by rw[<- Z2 (r == b)];exact e
     rw[if_neg e'];exact⟨s2.trans (Yb.upd hpp),by show _=_++[];rw[Zw]⟩
  ·rintro zs H2 ⟨s2,rfl⟩ l hl;rw[ZB];exact q l _ (s2.free hl) (s2.trans (Yb.upd hl)) AD
 ·rename_i b p;obtain⟨rb,hp,hl,q⟩:=h;refine⟨_,(@AH _ _ _ (@AL _ _ _ _ (@Ap _ _ _ _ _ _ _ (["member","each","wanted"]) 2 [0] _ _ _ _ rfl (KC (K:=K) rfl T.z_enumerate (AA (vv 1) AB)) (by kernel_rfl) rfl rfl (by kernel_rfl) (fun c=>D0 (K:=K) (n:=2) rfl (Az (AO (i:=0) (show(["member","each","wanted"]:List Str).Nodup by decide +kernel) rfl (by right)) (Az (AO (i:=1) (show(["member","each","wanted"]:List Str).Nodup by decide +kernel) rfl (by right)) B9))) (Ei (B6 BR (DX BR By) (Ac (by decide)) (B6 BR By (Ac (by decide)) EM))) (fun c=>D7 (Ae (kEq (K:=K) hu) (vv 1) (vv 2))) (fun c=>(vv 0)) (by intro _;rfl)))),?_⟩;refine⟨⟨_,hp⟩,?_⟩
  refine HZ (xs:=rb.map V.int) (fun i zs H'=>Yb H H'/\zs=iL (whr (rb.map (· == b)) i)) ⟨Yb.refl _,rfl⟩ (fun i zs H' _ ⟨s,_⟩=>s.sqT hp) (fun i zs H' hi ⟨_,e⟩=>by
   rw[ZB]at hi
   have:=EL (rb.map (· == b)) i
   rw[e,Aj];exact Ag (by lia)) ?_ ?_
  ·rintro i x zs H2 pp hx ⟨s2,rfl⟩ hpp;rw[ZP]at hx;cases e0:rb[i]? with
   | none=>rw[e0]at hx;cases hx
   | some r =>
    rw[e0]at hx;cases hx;have eg:gB (rb.map (· == b)) i=(r == b):=FV e0;refine⟨pp,_,rfl,.of AD,rfl,_,_,rfl,_,_,rfl,rfl,?_⟩;rw[Hr,Ce,eg];refine Ak (fun e=>?_) (fun e=>?_)
    ·have e':(r == b)=true:=by rw[<- Z2 (r == b)];exact e
     rw[if_pos e'];exact⟨s2.trans (Yb.upd hpp),rfl⟩
    ·have e':¬(r == b)=true:=by rw[<- Z2 (r == b)];exact e
     rw[if_neg e'];exact⟨s2.trans (Yb.upd hpp),by show _=_++[];rw[Zw]⟩
  ·rintro zs H2 ⟨s2,rfl⟩ l hl;rw[ZB];exact q l _ (s2.free hl) (s2.trans (Yb.upd hl)) AD
 ·exact h.elim
noncomputable def SqI(K:W.Frag)(H:Hp)(p:Addr)(ts:List Nat):Prop:=Yw K H p (iL ts)\/Yp K H p (iL ts)
noncomputable def EG(K:W.Frag):Sp:=fun vs H Q _=>match vs with
 | [.ref p]=>∃ts:List Nat,SqI K H p ts/\ts.length<=64/\(∀t∈ts,t<=60)/\∀H',Yb H H'->Q (.int (msk ts:Nat)) H'
 | _=>False
theorem Wz:AR (EG K):=fun vs H Q Q' E h q=>by
 unfold EG at *;walk_at "q"
theorem PQ(ts:List Nat):(ts.map fun t=>((2 ^ t:Nat):Int)).sum=(msk ts:Nat):=by
 induction ts with
 | nil=>rfl
 | cons t ts ih=>rw[Za,List.sum_cons,ih,Gp];lia
theorem LL:Xp P w base T.z39 3 (EG K):=by
 refine T.z39.F.ok V8 (fun vs H Q E h=>by unfold EG at h;walk_at "e") ?_;walk_at "f";unfold EG at h;walk_at "g"
 rename_i p;obtain⟨ts,hp,hl,hb,q⟩:=h;refine⟨_,(@AH _ _ _ (@AL _ _ _ _ (Aa (Sb (K:=K) rfl) rfl T.z_sum (by rfl) (AA (@Ap _ _ _ _ _ _ _ ["member"] 1 [] _ _ _ _ rfl (BF (K:=K) (vv 0)) (by kernel_rfl) rfl rfl (by kernel_rfl) (fun c=>AO (i:=0) (show(["member"]:List Str).Nodup by decide +kernel) rfl (by right)) (Ac (by decide)) (fun c=>Am) (fun c=>(AI (@HA P w K mg base T) (hr.mono (show 2<=_ by decide)) rfl T.z65.m T.z65.F.kp T.z65.b .nil AG (AA (vv 0) AB))) (by intro _;rfl)) AB)))),?_⟩
 have turn:∀(k:Nat) (x:V) (ys:List V) (H':Hp),(iL ts)[k]? = some x->(Yb H H'/\ys=(ts.take k).map fun t=>V.int ((2 ^ t:Nat):Int))->∃t:Nat,x=.int (t:Nat)/\t<=60/\(ts.take (k+1)).map (fun t=>V.int ((2 ^ t:Nat):Int))=ys++[V.int ((2 ^ t:Nat):Int)]:=by
  rintro k x ys H' hx ⟨_,rfl⟩;obtain⟨t,ht,hmem,rfl⟩:=Bp hx;refine⟨t,rfl,hb t hmem,?_⟩;rw[Zm,ht,ZF];rfl
 have fin:∀(ys:List V) (H':Hp),(Yb H H'/\ys=(ts.take (iL ts).length).map fun t=>V.int ((2 ^ t:Nat):Int))->∀l,H' l=none->∃ns:List Int,Yw K (upd H' l (.lst ys)) l (ns.map V.int)/\Q (.int ns.sum) (upd H' l (.lst ys)):=by
  rintro ys H' ⟨s1,rfl⟩ l hl;refine⟨ts.map fun t=>((2 ^ t:Nat):Int),?_,?_⟩
  ·rw[ZBX,Aj,Zq];exact .of AD
  ·rw[PQ];exact q _ (s1.trans (Yb.upd hl))
 rcases hp with hp | hp
 ·refine .inl ⟨⟨_,hp⟩,?_⟩
  refine DO (xs:=iL ts) (fun k ys H'=>Yb H H'/\ys=(ts.take k).map fun t=>V.int ((2 ^ t:Nat):Int)) ⟨Yb.refl _,rfl⟩ (fun k ys H' _ ⟨s,_⟩=>s.sqL hp) (fun k ys H' hk ⟨_,e⟩=>by
   rw[Aj]at hk;rw[e,ZB,ZW];exact Ag (by lia)) ?_ ?_
  ·intro k x ys H' hx hP;obtain⟨t,rfl,t60,e⟩:=turn k x ys H' hx hP;refine⟨t,rfl,by lia,?_⟩;exact⟨hP.1,e.symm⟩
  ·exact fin
 ·refine .inr ⟨⟨_,hp⟩,?_⟩
  refine Cq (xs:=iL ts) (fun k ys H'=>Yb H H'/\ys=(ts.take k).map fun t=>V.int ((2 ^ t:Nat):Int)) ⟨Yb.refl _,rfl⟩ (fun k ys H' _ ⟨s,_⟩=>s.sqT hp) (fun k ys H' hk ⟨_,e⟩=>by
   rw[Aj]at hk;rw[e,ZB,ZW];exact Ag (by lia)) ?_ ?_
  ·intro k x ys H' hx hP;obtain⟨t,rfl,t60,e⟩:=turn k x ys H' hx hP;refine⟨t,rfl,by lia,?_⟩;exact⟨hP.1,e.symm⟩
  ·exact fin
noncomputable def AE(ls:List Int)(k:Nat):Int:=ls.getD k 0
noncomputable def AY(ys:List Nat):List (Nat->Bool):=ys.map Nat.testBit
noncomputable def BX(a b c d:V):List (Str × V):=[("labels",a),("yeses",b),("alike",c),("known",d)]
theorem lk1(a b c d:V):(BX a b c d).lookup ("labels" : Str)=some a:=by rfl
theorem lk2(a b c d:V):(BX a b c d).lookup ("yeses" : Str)=some b:=by rfl
theorem lk3(a b c d:V):(BX a b c d).lookup ("alike" : Str)=some c:=by rfl
theorem lk4(a b c d:V):(BX a b c d).lookup ("known" : Str)=some d:=by rfl
theorem ln1(a b c d:V):(BX a b c d).lookup ("fewest_among" : Str)=none:=by rfl
theorem ln2(a b c d:V):(BX a b c d).lookup ("fewest_reckoned" : Str)=none:=by rfl
theorem ln3(a b c d:V):(BX a b c d).lookup ("has_one_label" : Str)=none:=by rfl
theorem ln4(a b c d:V):(BX a b c d).lookup ("worst_behind" : Str)=none:=by rfl
theorem ln5(a b c d:V):(BX a b c d).lookup ("parting" : Str)=none:=by rfl
theorem ln6(a b c d:V):(BX a b c d).lookup ("harder_left" : Str)=none:=by rfl
theorem ln7(a b c d:V):(BX a b c d).lookup ("left_of" : Str)=none:=by rfl
theorem pf1(a:V):AZ "labels" a []=([("labels",a)]:List (Str × V)):=by rfl
theorem pf2(a b:V):AZ "yeses" b [("labels",a)]=([("labels",a),("yeses",b)]:List (Str × V)):=by rfl
theorem pf3(a b c:V):AZ "alike" c [("labels",a),("yeses",b)]=([("labels",a),("yeses",b),("alike",c)]:List (Str × V)):=by rfl
theorem pf4(a b c d:V):AZ "known" d [("labels",a),("yeses",b),("alike",c)]=BX a b c d:=by rfl
structure Memo(ls:List Int)(ys:List Nat)(Yd:List (Key × V)):Prop where
 nd:(Yd.map (·.1)).Nodup
 ok:∀e∈Yd,∃S m:Nat,e=((Sum.inl (S:Int):Key),V.int (m:Int))/\S < 2 ^ ls.length/\Ar (AE ls) (AY ys) S.testBit m
theorem D5:∀(N:Nat) (l:List Nat),l.Nodup->(∀x∈l,x < N)->l.length<=N
 | 0,l,_,h=>by
  cases l with
  | nil=>exact ZE _
  | cons x r=>exact absurd (h x (by simp)) (by lia)
 | N+1,l,nd,h=>by
  have:=D5 N (l.erase N) (nd.erase N) (fun x hx=>by
   have h2:=(nd.mem_erase_iff).mp hx
   have:=h x h2.2
   have:=h2.1
   lia)
  by_cases z:N∈l
  ·have e:=List.length_erase_of_mem z;lia
  ·have e:=List.erase_of_not_mem z;rw[e]at this;lia
theorem Memo.len(h:Memo ls ys Yd)(h16:ls.length<=16):Yd.length < 2 ^ 24:=by
 have hl:Yd.length<=2 ^ ls.length:=by
  have e:(Yd.map fun e=>match e.1 with | Sum.inl z=>z.toNat | Sum.inr _=>0).length=Yd.length:=ZB ..;rw[<- e];apply D5
  ·refine ZBf.mpr ?_;have nd:=ZBf.mp h.nd;refine List.Pairwise.imp_of_mem ?_ nd;intro a b ha hb ne;obtain⟨S,m,ea,_⟩:=h.ok a ha;obtain⟨S',m',eb,_⟩:=h.ok b hb;subst ea eb;intro q;apply ne
   have:(S:Int).toNat=(S':Int).toNat:=q
   have:S=S':=by lia
   rw[this]
  ·intro x hx;obtain⟨a,ha,rfl⟩:=ZJ.mp hx;obtain⟨S,m,ea,hs,_⟩:=h.ok a ha;subst ea
   show(S:Int).toNat < _
   rw[ZZ];exact hs
 have:2 ^ ls.length<=2 ^ 16:=Zl (by decide) h16
 lia
theorem EN{k:Key}(h:valV Yd k=some v):(k,v)∈Yd:=by
 unfold valV at h;cases e:Yd.find? fun kv=>decide (kv.1=k) with
 | none=>rw[e]at h;cases h
 | some x =>
  rw[e]at h;have h1:=List.find?_some e;have h2:=List.mem_of_find?_eq_some e;cases h
  have:x.1=k:=ZR h1
  rw[<- this];exact h2
theorem Memo.get(h:Memo ls ys Yd)(e:valV Yd (Sum.inl (S:Int):Key)=some v):∃m:Nat,v=.int m/\Ar (AE ls) (AY ys) S.testBit m:=by
 obtain⟨S',m,ee,_,hf⟩:=h.ok _ (EN e);have e1:(Sum.inl (S:Int):Key)=Sum.inl (S':Int):=congrArg Prod.fst ee;have e2:v=V.int m:=congrArg Prod.snd ee
 have:(S:Int)=S':=Sum.inl.inj e1
 have:S=S':=by lia
 subst this;exact⟨m,e2,hf⟩
theorem Memo.put(h:Memo ls ys Yd)(hs:S < 2 ^ ls.length)(hf:Ar (AE ls) (AY ys) S.testBit m):Memo ls ys (Al Yd (Sum.inl (S:Int):Key) (V.int m)):=by
 unfold Al;split
 ·refine⟨?_,?_⟩
  ·have e:(Yd.map (fun kv=>if kv.1=(Sum.inl (S:Int):Key) then (kv.1,V.int m) else kv)).map (·.1)=Yd.map (·.1):=by
    rw[ZBX];apply ZBy;intro a _;simp only[Function.comp];split <;> rfl
   rw[e];exact h.nd
  ·intro e he;obtain⟨a,ha,rfl⟩:=ZJ.mp he;split
   ·rename_i q;exact⟨S,m,by rw[q],hs,hf⟩
   ·exact h.ok a ha
 ·rename_i z;refine⟨?_,?_⟩
  ·rw[ZF,List.nodup_append];refine⟨h.nd,by simp,?_⟩;intro a ha b hb q;have hb':b=(Sum.inl (S:Int):Key):=by simpa using hb
   obtain⟨x,hx,rfl⟩:=ZJ.mp ha;exact z (ZBO.mpr ⟨x,hx,ZL (q.trans hb')⟩)
  ·intro e he
   rcases Zb.mp he with q | q
   ·exact h.ok e q
   ·rw[ZO]at q;exact⟨S,m,q,hs,hf⟩
noncomputable def Oa(ls:List Int)(as:List Nat):Prop:=∀S,S < 2 ^ ls.length->(as.any (fun a=>decide (S &&& a=S))=true ↔ One (AE ls) S.testBit)
structure RkAt(K:W.Frag)(C:Addr)(ls:List Int)(ys:List Nat)(H:Hp)(p d:Addr):Prop where
 at_:∃dx tl yl al as Yd,H p=some (.ins C dx (BX (.ref tl) (.ref yl) (.ref al) (.ref d)))/\Yp K H tl (ls.map V.int)/\H yl=some (.lst (iL ys))/\H al=some (.lst (iL as))/\H d=some (.dK Yd)/\as.length<=100/\Oa ls as/\Memo ls ys Yd
 l16:ls.length<=16
 y16:ys.length<=16
theorem RkAt.same(r:RkAt K C ls ys H p d)(s:Yb H H'):RkAt K C ls ys H' p d:=by
 obtain⟨dx,tl,yl,al,as,Yd,h1,h2,h3,h4,h5,h6,h7,h8⟩:=r.at_;exact⟨⟨dx,tl,yl,al,as,Yd,s _ _ h1,s.sqT h2,s _ _ h3,s _ _ h4,s _ _ h5,h6,h7,h8⟩,r.l16,r.y16⟩
noncomputable def Cr(o:HO):Prop:=(∀xs,o≠.tup xs)/\∀ob u,o≠.frz ob u
theorem Cz(f:Yj d H H')(hd:H d=some o)(no:Cr o)(h:Yp K H a xs):Yp K H' a xs:=by
 by_cases e:a=d
 ·subst e
  rcases h with (h | ⟨ob,h⟩) | h
  ·rw[hd]at h;exact absurd (ZU h) (no.1 _)
  ·rw[hd]at h;exact absurd (ZU h) (no.2 _ _)
  ·exact .inr h
 ·exact Fy h fun o k=>f _ _ e k
theorem GB:Cr (.dK Yd):=⟨(fun _ z=>nomatch z),(fun _ _ z=>nomatch z)⟩
theorem Di{dx:Addr}{fs:List (Str × V)}:Cr (.ins C dx fs):=⟨(fun _ z=>nomatch z),(fun _ _ z=>nomatch z)⟩
theorem RkAt.put{kvs':List (Key × V)}(r:RkAt K C ls ys H p d)(f:Yj d H H')(hd:H' d=some (.dK kvs'))(m:Memo ls ys kvs'):RkAt K C ls ys H' p d:=by
 obtain⟨dx,tl,yl,al,as,Yd,h1,h2,h3,h4,h5,h6,h7,h8⟩:=r.at_;exact⟨⟨dx,tl,yl,al,as,kvs',f _ _ (Bg h1 h5 (by intro z;cases z)) h1,Cz f h5 GB h2,f _ _ (Bg h3 h5 (by intro z;cases z)) h3,f _ _ (Bg h4 h5 (by intro z;cases z)) h4,hd,h6,h7,m⟩,r.l16,r.y16⟩
theorem Bd(s:Yb H H'):Yj t H H':=fun b o _ e=>s b o e
noncomputable def Jy(K:W.Frag)(C:Addr):Sp:=fun vs H Q _=>match vs with
 | [.ref p,.int z]=>∃ls ys d S,RkAt K C ls ys H p d/\z=(S:Nat)/\S < 2 ^ ls.length/\∀b H',(b=true ↔ One (AE ls) S.testBit)->Yb H H'->Q (.bl b) H'
 | _=>False
theorem L9:Xq P w mg base T.z13 2 (Jy K T.C_Reckoner):=by
 refine T.z13.F.ok Uj (fun vs H Q E h=>by unfold Jy at h;walk_at "e") ?_;walk_at "f";unfold Jy at h;walk_at "g"
 rename_i p z;obtain⟨ls,ys,d,S,R,e1,hS,q⟩:=h;subst e1;obtain⟨dx,tl,yl,al,as,Yd,h1,h2,h3,h4,h5,h6,h7,h8⟩:=R.at_;refine⟨_,(@AH _ _ _ (@AL _ _ _ _ (Aa (Wa (K:=K) rfl) rfl T.z_any (by rfl) (AA (Ap (N':=["alike","things"]) (own:=1) (ix:=[1]) rfl (BF (K:=K) (BN T.cl_Reckoner T.na_Reckoner_alike (vv 0))) (by kernel_rfl) rfl rfl (by kernel_rfl) (fun c=>AO (i:=0) (show(["alike","things"]:List Str).Nodup by decide +kernel) rfl (by right)) (Ac (by decide)) (fun c=>Am) (fun c=>(AI (@OH P w K mg base T) (hr.mono (show 1<=_ by decide)) rfl T.z64.m T.z64.F.kp T.z64.b .nil AG (AA (vv 1) (AA (vv 0) AB))))) AB)))),?_⟩;refine⟨dx,_,_,h1,lk3 _ _ _ _,.inl ⟨⟨_,.of h4⟩,?_⟩⟩
 refine DO (xs:=iL as) (fun k zs H'=>Yb H H'/\zs=((as.take k).map fun a=>decide (S &&& a=S)).map V.bl) ⟨Yb.refl _,rfl⟩ (fun k zs H' _ ⟨s,_⟩=>s.sqL (.of h4)) (fun k zs H' hk ⟨_,e⟩=>by
  rw[Aj]at hk;rw[e,ZB,ZB,ZW];exact Ag (by lia)) ?_ ?_
 ·rintro k x zs H' hx ⟨s1,rfl⟩;obtain⟨a,ha,_,rfl⟩:=Bp hx;refine⟨S,a,rfl,rfl,s1,?_⟩;rw[Zm,ha,ZF,ZF];rfl
 ·rintro zs H' ⟨s1,rfl⟩ l hl;rw[Aj,Zq];refine⟨_,.of AD,q _ _ ?_ (s1.trans (Yb.upd hl))⟩;rw[List.any_map];exact h7 S hS
noncomputable def LD(K:W.Frag)(C:Addr):Sp:=fun vs H Q _=>match vs with
 | [.ref p,.int z,.int i,.bl ans]=>∃ls ys d S j y,RkAt K C ls ys H p d/\z=(S:Nat)/\i=(j:Nat)/\ys[j]? = some y/\Q (.int ((if ans=true then S &&& y else S - (S &&& y):Nat):Int)) H
 | _=>False
theorem W7{y:Nat}(h:ys[j]? = some y):atI (iL ys) ((j:Nat):Int)=some (.int (y:Nat)):=AW rfl (by unfold iL;rw[ZP,h];rfl)
theorem Hn:Xq P w mg base T.z24 1 (LD K T.C_Reckoner):=by
 refine T.z24.F.ok sc_z24 (fun vs H Q E h=>by unfold LD at h;walk_at "e") ?_;walk_at "f"
 match vs,h with
 | [.ref p,.int z,.int i,.bl ans],⟨ls,ys,d,S,j,y,R,e1,e2,hj,q⟩ =>
 subst e1 e2;obtain⟨dx,tl,yl,al,as,Yd,h1,h2,h3,h4,h5,h6,h7,h8⟩:=R.at_;refine⟨_,(@AF _ _ _ _ _ (@AN _ _ 4 _ _ _ _ sc_z24.nd rfl (by right) (AQ E6 (vv 1) (Yl (K:=K) (BN T.cl_Reckoner T.na_Reckoner_yeses (vv 0)) (vv 2))) (by rfl) (by walk_at "i")) (@AH _ _ _ (@AL _ _ _ _ (DW (BM (vv 3)) (vv 4) (AQ DC (vv 1) (vv 4)))))),?_⟩;refine⟨dx,_,_,h1,lk2 _ _ _ _,_,.int (y:Nat),.inl (.of h3),W7 hj,?_⟩;dsimp only[AT,Gd];rw[GW];cases ans with
 | true=>exact q
 | false =>
  have e:((S:Int) - ((S &&& y:Nat):Int))=((S - (S &&& y):Nat):Int):=by
   have:=ZBl (n:=S) (m:=y)
   lia
  show Q (.int ((S:Int) - ((S &&& y:Nat):Int))) H;rw[e];exact q
noncomputable def CD(S y:Nat):Bool:=decide (0 < S &&& y) && decide (S &&& y < S)
noncomputable def BI(S:Nat)(ys:List Nat)(n:Nat):List Nat:=(List.range n).filter fun i=>CD S (ys.getD i 0)
theorem Op(S:Nat)(ys:List Nat)(n:Nat):BI S ys (n+1)=BI S ys n++(if CD S (ys.getD n 0)=true then [n] else []):=by
 unfold BI;rw[ZBN,ZBx];cases h:CD S (ys.getD n 0) <;> simp only[List.filter_cons,List.filter_nil,h] <;> rfl
theorem MJ(S:Nat)(ys:List Nat)(n:Nat):(BI S ys n).length<=n:=by
 have:=ZB7 (fun i=>CD S (ys.getD i 0)) (List.range n)
 rw[ZBB]at this;exact this
theorem Fo(S y:Nat):CD S y=true ↔ Bi S.testBit y.testBit:=by
 unfold CD Bi;rw[ZQ,decide_eq_true_eq,decide_eq_true_eq]
 have h1:0 < S &&& y ↔ ∃k,S.testBit k=true/\y.testBit k=true:=by
  constructor
  ·intro h;obtain⟨k,hk⟩:=Nat.exists_testBit_of_ne_zero (Nat.pos_iff_ne_zero.mp h);rw[Z1,ZQ]at hk;exact⟨k,hk⟩
  ·rintro⟨k,a,b⟩
   rcases Nat.eq_zero_or_pos (S &&& y) with z | z
   ·have:(S &&& y).testBit k=true:=by rw[Z1,a,b];rfl
    rw[z]at this;simp at this
   ·exact z
 have h2:S &&& y < S ↔ ∃k,S.testBit k=true/\y.testBit k=false:=by
  have hle:=ZBl (n:=S) (m:=y);constructor
  ·intro h;obtain⟨k,hk⟩:=Nat.exists_testBit_of_ne_zero (show S - (S &&& y)≠0 by lia);rw[FA,ZQ]at hk;exact⟨k,hk.1,by simpa using hk.2⟩
  ·rintro⟨k,a,b⟩
   rcases Zu (S &&& y) S with z | z
   ·exact z
   ·have e:S &&& y=S:=by lia
    have:(S &&& y).testBit k=true:=by rw[e];exact a
    rw[Z1,b]at this;simp at this
 rw[h1,h2]
noncomputable def JX(K:W.Frag)(C:Addr):Sp:=fun vs H Q _=>match vs with
 | [.ref p,.int z]=>∃ls ys d S,RkAt K C ls ys H p d/\z=(S:Nat)/\HH H Q (iL (BI S ys ys.length))
 | _=>False
theorem Mu:Xq P w mg base T.z22 1 (JX K T.C_Reckoner):=by
 refine T.z22.F.ok UH (fun vs H Q E h=>by unfold JX at h;walk_at "e") ?_;walk_at "f";unfold JX at h;walk_at "g"
 rename_i p z;obtain⟨ls,ys,d,S,R,e1,q⟩:=h;subst e1;obtain⟨dx,tl,yl,al,as,Yd,h1,h2,h3,h4,h5,h6,h7,h8⟩:=R.at_;have y16:=R.y16;refine⟨_,(@AH _ _ _ (@AL _ _ _ _ (@Ap _ _ _ _ _ _ _ (["question","yes","things"]) 2 [1] _ _ _ _ rfl (UU (K:=K) rfl T.z_enumerate (AA (BN T.cl_Reckoner T.na_Reckoner_yeses (vv 0)) AB)) (by kernel_rfl) rfl rfl (by kernel_rfl) (fun c=>D0 (K:=K) (n:=2) rfl (Az (AO (i:=0) (show(["question","yes","things"]:List Str).Nodup by decide +kernel) rfl (by right)) (Az (AO (i:=1) (show(["question","yes","things"]:List Str).Nodup by decide +kernel) rfl (by right)) B9))) (Ei (B6 BR (DX BR By) (Ac (by decide)) (B6 BR By (Ac (by decide)) EM))) (fun c=>D7 (PK Cu Cu AC (AQ E6 (vv 2) (vv 1)) (vv 2))) (fun c=>(vv 0)) (by intro _;rfl)))),?_⟩;refine⟨dx,_,_,h1,lk2 _ _ _ _,⟨_,.of h3⟩,?_⟩
 refine Tx (xs:=iL ys) (fun i zs H'=>Yb H H'/\zs=iL (BI S ys i)) ⟨Yb.refl _,rfl⟩ (fun i zs H' _ ⟨s,_⟩=>s.sqL (.of h3)) (fun i zs H' hi ⟨_,e⟩=>by
  rw[Aj]at hi
  have:=MJ S ys i
  rw[e,Aj];exact Ag (by lia)) ?_ ?_
 ·rintro i x zs H2 pp hx ⟨s2,rfl⟩ hpp;obtain⟨y,hy,_,rfl⟩:=Bp hx;refine⟨pp,_,rfl,.of AD,rfl,_,_,rfl,_,_,rfl,rfl,?_⟩;have eg:ys.getD i 0=y:=by rw[ZN,hy];rfl
  rw[Op,Ce,eg];have s3:=s2.trans (Yb.upd (o:=.tup [.int (i:Nat),.int (y:Nat)]) hpp);have eb:Builtin.bitAnd (S:Int) (y:Int)=((S &&& y:Nat):Int):=GW ..;refine Ak (fun e=>?_) (fun e=>?_)
  ·rw[eb]at e;have e':0 < S &&& y:=by have:=ZR e;lia
   refine Ak (fun f=>?_) (fun f=>?_)
   ·rw[eb]at f;have f':S &&& y < S:=by have:=ZR f;lia
    rw[if_pos (show CD S y=true by unfold CD;rw[ZL e',ZL f'];rfl)];exact⟨s3,rfl⟩
   ·rw[eb]at f;have f':¬S &&& y < S:=fun q=>f (ZL (by lia))
    rw[if_neg (show ¬CD S y=true by unfold CD;rw[Zg f',Bool.and_false];simp)];exact⟨s3,by show _=_++[];rw[Zw]⟩
  ·rw[eb]at e;have e':¬0 < S &&& y:=fun q=>e (ZL (by lia))
   rw[if_neg (show ¬CD S y=true by unfold CD;rw[Zg e',Bool.false_and];simp)];exact⟨s3,by show _=_++[];rw[Zw]⟩
 ·rintro zs H2 ⟨s2,rfl⟩ l hl;rw[Aj];exact q l _ (s2.free hl) (s2.trans (Yb.upd hl)) AD
noncomputable def BV(K:W.Frag)(C:Addr)(c:Nat):Sp:=fun vs H Q _=>match vs with
 | [.ref p,.int z]=>∃ls ys d S,RkAt K C ls ys H p d/\z=(S:Nat)/\S < 2 ^ ls.length/\(∃n,Can (AE ls) (AY ys) n S.testBit)/\Aq ls.length S.testBit < c/\∀(m:Nat) H',Ar (AE ls) (AY ys) S.testBit m->RkAt K C ls ys H' p d->Yj d H H'->Q (.int (m:Nat)) H'
 | _=>False
theorem Li{c:Nat}:AR (BV K C c):=fun vs H Q Q' E h q=>by
 unfold BV at *;walk_at "q"
noncomputable def Hw(K:W.Frag)(C:Addr)(c:Nat):Sp:=fun vs H Q _=>match vs with
 | [.ref p,.int z,.int i]=>∃ls ys d S j y,RkAt K C ls ys H p d/\z=(S:Nat)/\S < 2 ^ ls.length/\(∃n,Can (AE ls) (AY ys) n S.testBit)/\i=(j:Nat)/\ys[j]? = some y/\Bi S.testBit y.testBit/\Aq ls.length S.testBit < c+1 /\
  ∀(b e X:Nat) H',Ar (AE ls) (AY ys) (S &&& y).testBit b->Ar (AE ls) (AY ys) (S - (S &&& y)).testBit e->(X=S &&& y/\e < b\/X=S - (S &&& y)/\b<=e)->RkAt K C ls ys H' p d->Yj d H H'->Q (.int (X:Nat)) H'
 | _=>False
noncomputable def EK(K:W.Frag)(C:Addr)(c:Nat):Sp:=fun vs H Q _=>match vs with
 | [.ref p,.int z,.int i]=>∃ls ys d S j y,RkAt K C ls ys H p d/\z=(S:Nat)/\S < 2 ^ ls.length/\(∃n,Can (AE ls) (AY ys) n S.testBit)/\i=(j:Nat)/\ys[j]? = some y/\Bi S.testBit y.testBit/\Aq ls.length S.testBit < c+1 /\
  ∀(b e:Nat) H',Ar (AE ls) (AY ys) (S &&& y).testBit b->Ar (AE ls) (AY ys) (S - (S &&& y)).testBit e->RkAt K C ls ys H' p d->Yj d H H'->Q (.int (max b e:Nat)) H'
 | _=>False
theorem GM{y c:Nat}(hS:S < 2 ^ ls.length)(hc:Can (AE ls) (AY ys) n S.testBit)(hp:Bi S.testBit y.testBit)(hk:Aq ls.length S.testBit < c+1) :
 (S &&& y < 2 ^ ls.length/\Can (AE ls) (AY ys) n (S &&& y).testBit/\Aq ls.length (S &&& y).testBit < c)/\S - (S &&& y) < 2 ^ ls.length/\Can (AE ls) (AY ys) n (S - (S &&& y)).testBit/\Aq ls.length (S - (S &&& y)).testBit < c:=by
 obtain⟨c1,c2⟩:=L7 (fun k hk=>CV hS hk) hp;have hle:=ZBl (n:=S) (m:=y);rw[DD,Cn];exact⟨⟨by lia,Bz (fun k z=>by simp only[ZQ]at z;exact z.1) hc,by lia⟩,by lia,Bz (fun k z=>by simp only[ZQ]at z;exact z.1) hc,by lia⟩
theorem TR(c:Nat)(G_z15:Xq P w mg base T.z15 (4 * c+4) (BV K T.C_Reckoner c)) :
 Xq P w mg base T.z17 (4 * c+5) (Hw K T.C_Reckoner c):=by
 have G_z24:=@Hn P w K mg base T;refine T.z17.F.ok sc_z17 (fun vs H Q E h=>by unfold Hw at h;walk_at "e") ?_;walk_at "f";have hr_z24:=hr.mono (show 1<=4 * c+4 by lia);have hr_z15:=hr;unfold Hw at h;walk_at "g"
 rename_i p z i;obtain⟨ls,ys,d,S,j,y,R,e1,hS,⟨n,hc⟩,e2,hj,hp,hk,q⟩:=h;subst e1 e2;obtain⟨⟨a1,a2,a3⟩,b1,b2,b3⟩:=GM hS hc hp hk;obtain⟨dx,tl,yl,al,as,Yd,h1,_⟩:=id R.at_;refine⟨_,(@AF _ _ _ _ _ (@AN _ _ 3 _ _ _ _ sc_z17.nd rfl (by right) (Ay (vv 0) T.cl_Reckoner T.z24.m G_z24 hr_z24 T.z24.b .nil AG (AA (vv 1) (AA (vv 2) (AA Aw AB)))) (by rfl) (by walk_at "i")) (@AF _ _ _ _ _ (@AN _ _ 4 _ _ _ _ sc_z17.nd rfl (by right) (Ay (vv 0) T.cl_Reckoner T.z24.m G_z24 hr_z24 T.z24.b .nil AG (AA (vv 1) (AA (vv 2) (AA Aw AB)))) (by rfl) (by walk_at "i")) (@AH _ _ _ (@AL _ _ _ _ (DW (Ae Cb (Ay (vv 0) T.cl_Reckoner T.z15.m G_z15 hr_z15 T.z15.b .nil AG (AA (vv 4) AB)) (Ay (vv 0) T.cl_Reckoner T.z15.m G_z15 hr_z15 T.z15.b .nil AG (AA (vv 3) AB))) (vv 4) (vv 3)))))),?_⟩;refine⟨p,dx,_,rfl,h1,ln7 _ _ _ _,ls,ys,d,S,j,y,R,rfl,rfl,hj,?_⟩;dsimp only[AT];refine⟨p,dx,_,rfl,h1,ln7 _ _ _ _,ls,ys,d,S,j,y,R,rfl,rfl,hj,?_⟩;dsimp only[AT];refine⟨p,dx,_,rfl,h1,ln1 _ _ _ _,ls,ys,d,S &&& y,R,rfl,a1,⟨n,a2⟩,a3,fun b H1 f1 R1 fr1=>?_⟩;obtain⟨dx1,tl1,yl1,al1,as1,kvs1,k1,_⟩:=id R1.at_;refine⟨p,dx1,_,rfl,k1,ln1 _ _ _ _,ls,ys,d,S - (S &&& y),R1,rfl,b1,⟨n,b2⟩,b3,fun e H2 f2 R2 fr2=>?_⟩;refine Ak (fun x=>?_) (fun x=>?_)
 ·have x':e < b:=by have:=ZR x;lia
  exact q b e _ H2 f1 f2 (.inl ⟨rfl,x'⟩) R2 (fr1.trans fr2)
 ·have x':¬e < b:=fun w=>x (ZL (by lia))
  exact q b e _ H2 f1 f2 (.inr ⟨rfl,by lia⟩) R2 (fr1.trans fr2)
theorem LK(c:Nat)(G_z15:Xq P w mg base T.z15 (4 * c+4) (BV K T.C_Reckoner c)) :
 Xq P w mg base T.z14 (4 * c+6) (EK K T.C_Reckoner c):=by
 have G_z17:=TR T c G_z15;refine T.z14.F.ok Uv (fun vs H Q E h=>by unfold EK at h;walk_at "e") ?_;walk_at "f";have hr_z15:=hr.mono (show 4 * c+4<=4 * c+5 by lia);have hr_z17:=hr;unfold EK at h;walk_at "g"
 rename_i p z i;obtain⟨ls,ys,d,S,j,y,R,e1,hS,⟨n,hc⟩,e2,hj,hp,hk,q⟩:=h;subst e1 e2;obtain⟨⟨a1,a2,a3⟩,b1,b2,b3⟩:=GM hS hc hp hk;obtain⟨dx,tl,yl,al,as,Yd,h1,_⟩:=id R.at_;refine⟨_,(@AH _ _ _ (@AL _ _ _ _ (Ay (vv 0) T.cl_Reckoner T.z15.m G_z15 hr_z15 T.z15.b .nil AG (AA (Ay (vv 0) T.cl_Reckoner T.z17.m G_z17 hr_z17 T.z17.b .nil AG (AA (vv 1) (AA (vv 2) AB))) AB)))),?_⟩;refine⟨p,dx,_,rfl,h1,ln1 _ _ _ _,p,dx,_,rfl,h1,ln6 _ _ _ _,ls,ys,d,S,j,y,R,rfl,hS,⟨n,hc⟩,rfl,hj,hp,hk,fun b e X H1 f1 f2 hX R1 fr1=>?_⟩
 have X1:X < 2 ^ ls.length/\(∃n,Can (AE ls) (AY ys) n X.testBit)/\Aq ls.length X.testBit < c/\∀m,Ar (AE ls) (AY ys) X.testBit m->m=max b e:=by
  rcases hX with ⟨rfl,x⟩ | ⟨rfl,x⟩
  ·exact⟨a1,⟨n,a2⟩,a3,fun m hm=>by rw[Jv hm f1];lia⟩
  ·exact⟨b1,⟨n,b2⟩,b3,fun m hm=>by rw[Jv hm f2];lia⟩
 obtain⟨x1,x2,x3,x4⟩:=X1;refine⟨ls,ys,d,X,R1,rfl,x1,x2,x3,fun m H2 hm R2 fr2=>?_⟩;rw[x4 m hm];exact q b e H2 f1 f2 R2 (fr1.trans fr2)
noncomputable def Fq(ls:List Int)(ys:List Nat)(S:Nat)(qs ms:List Nat):Prop:=ms.length=qs.length/\∀(t i:Nat),qs[t]? = some i->∃b e,Ar (AE ls) (AY ys) (S &&& ys.getD i 0).testBit b/\Ar (AE ls) (AY ys) (S - (S &&& ys.getD i 0)).testBit e/\ms[t]? = some (max b e)
theorem Pe{qs ms:List Nat}{b e:Nat}(h:Fq ls ys S qs ms)(f1:Ar (AE ls) (AY ys) (S &&& ys.getD i 0).testBit b)(f2:Ar (AE ls) (AY ys) (S - (S &&& ys.getD i 0)).testBit e):Fq ls ys S (qs++[i]) (ms++[max b e]):=by
 refine⟨by rw[ZM,ZM,h.1];rfl,fun t i' ht=>?_⟩
 rcases ZBH t qs.length with z | z | z
 ·rw[ZBL z]at ht;obtain⟨b',e',g1,g2,g3⟩:=h.2 t i' ht;exact⟨b',e',g1,g2,by rw[ZBL (by rw[h.1];exact z)];exact g3⟩
 ·subst z;rw[ZBE (ZE _),ZBm]at ht;cases ht;exact⟨b,e,f1,f2,by rw[<- h.1,ZBE (ZE _),ZBm];rfl⟩
 ·rw[ZBE (Zy z)]at ht;rw[ZB8 (by simp;lia)]at ht;cases ht
theorem Ea(h:i∈BI S ys ys.length):ys[i]? = some (ys.getD i 0)/\Bi S.testBit (ys.getD i 0).testBit:=by
 obtain⟨h1,h2⟩:=Z8.mp h;have h1:=Zr.mp h1;refine⟨?_,(Fo _ _).mp h2⟩;rw[ZN,ZD h1];rfl
theorem Qx{ms:List Nat}{M:Nat}(ho:¬One (AE ls) S.testBit)(h:Fq ls ys S (BI S ys ys.length) ms)(h1:M∈ms)(h2:∀a∈ms,M<=a):Ar (AE ls) (AY ys) S.testBit (1+M):=by
 refine LA ho ?_ ?_
 ·obtain⟨t,ht,et⟩:=Zp h1;have ht':t < (BI S ys ys.length).length:=by rw[<- h.1];exact ht
  obtain⟨b,e,g1,g2,g3⟩:=h.2 t _ (ZD ht');obtain⟨y1,y2⟩:=Ea (Zc ht');rw[DD]at g1;rw[Cn]at g2;refine⟨_,ZJ.mpr ⟨_,Zt y1,rfl⟩,y2,b,e,g1,g2,?_⟩;rw[ZD ht,et]at g3;exact ZU g3
 ·intro f hf hp;obtain⟨y,hy,rfl⟩:=ZJ.mp hf;obtain⟨i,hi,ei⟩:=Zp hy;have eg:ys.getD i 0=y:=by rw[ZN,ZD hi,ei];rfl
  have him:i∈BI S ys ys.length:=Z8.mpr ⟨Zr.mpr hi,(Fo _ _).mpr (by rw[eg];exact hp)⟩;obtain⟨t,ht,et⟩:=Zp him;obtain⟨b,e,g1,g2,g3⟩:=h.2 t i (by rw[ZD ht,et]);rw[DD,eg]at g1;rw[Cn,eg]at g2;exact⟨b,e,g1,g2,h2 _ (Zt g3)⟩
theorem OC(ho:¬One (AE ls) S.testBit)(hc:Can (AE ls) (AY ys) n S.testBit):0 < (BI S ys ys.length).length:=by
 obtain⟨f,hf,hp⟩:=HJ ho hc;obtain⟨y,hy,rfl⟩:=ZJ.mp hf;obtain⟨i,hi,ei⟩:=Zp hy;have eg:ys.getD i 0=y:=by rw[ZN,ZD hi,ei];rfl
 exact List.length_pos_of_mem (Z8.mpr ⟨Zr.mpr hi,(Fo _ _).mpr (by rw[eg];exact hp)⟩)
theorem Oc(c:Nat)(G_z15:Xq P w mg base T.z15 (4 * c+4) (BV K T.C_Reckoner c)) :
 Xq P w mg base T.z10 (4 * c+7) (BV K T.C_Reckoner (c+1)):=by
 have G_z14:=LK T c G_z15;refine T.z10.F.ok PU (fun vs H Q E h=>by unfold BV at h;walk_at "e") ?_;walk_at "f";have hr_z14:=hr;have hr_z13:=hr.mono (show 2<=4 * c+6 by lia);have hr_z22:=hr.mono (show 1<=4 * c+6 by lia);unfold BV at h;walk_at "g"
 rename_i p z;obtain⟨ls,ys,d,S,R,e1,hS,⟨n,hc⟩,hk,q⟩:=h;subst e1;obtain⟨dx,tl,yl,al,as,Yd,h1,_,_,_,hd,_⟩:=id R.at_;have l16:=R.l16;have y16:=R.y16;refine⟨_,(@AF _ _ _ _ _ (@Ao _ _ _ _ _ _ _ _ (BM (Ay (vv 0) T.cl_Reckoner T.z13.m (@L9 P w K mg base T) hr_z13 T.z13.b .nil AG (AA (vv 1) AB))) (@AH _ _ _ (@AL _ _ _ _ AC)) An) (@AH _ _ _ (@AL _ _ _ _ (AQ (BA (K:=K)) AC (Aa (Ov (K:=K) rfl) rfl T.z_min (by rfl) (AA (Ap (N':=["question","self","things"]) (own:=1) (ix:=[0,1]) rfl (BF (K:=K) (Ay (vv 0) T.cl_Reckoner T.z22.m (@Mu P w K mg base T) hr_z22 T.z22.b .nil AG (AA (vv 1) AB))) (by kernel_rfl) rfl rfl (by kernel_rfl) (fun c=>AO (i:=0) (show(["question","self","things"]:List Str).Nodup by decide +kernel) rfl (by right)) (Ac (by decide)) (fun c=>Am) (fun c=>(Ay (vv 1) T.cl_Reckoner T.z14.m G_z14 hr_z14 T.z14.b .nil AG (AA (vv 2) (AA (vv 0) AB))))) AB)))))),?_⟩;refine⟨p,dx,_,rfl,h1,ln3 _ _ _ _,ls,ys,d,S,R,rfl,hS,fun b H1 hb s1=>?_⟩;have R1:=R.same s1;have hd1:=s1 _ _ hd;cases b with
 | true=>exact q 0 H1 ⟨hb.mp rfl,fun _ _=>ZV _⟩ R1 (Bd s1)
 | false =>
  have ho:¬One (AE ls) S.testBit:=fun o=>nomatch hb.mpr o
  refine⟨p,dx,_,rfl,s1 _ _ h1,ln5 _ _ _ _,ls,ys,d,S,R1,rfl,fun l H2 hl s2 g2=>.inl ⟨⟨_,.of g2⟩,?_⟩⟩;have R2:=R1.same s2;have hd2:=s2 _ _ hd1;have hld:l≠d:=Bg g2 hd2 (by intro z;cases z);have Yk:=MJ S ys ys.length
  refine DO (xs:=iL (BI S ys ys.length)) (fun k zs H'=>RkAt K T.C_Reckoner ls ys H' p d/\Yj d H2 H'/\∃ms,zs=iL ms/\Fq ls ys S ((BI S ys ys.length).take k) ms) ⟨R2,Yj.refl,[],rfl,rfl,fun t i ht=>by simp at ht⟩ (fun k zs H' _ ⟨_,f,_⟩=>.of (f _ _ hld g2)) (fun k zs H' hk' ⟨_,_,ms,e,hw⟩=>by
   rw[Aj]at hk';rw[e,Aj,hw.1,ZW];exact Ag (by lia)) ?_ ?_
  ·rintro k x zs H' hx ⟨R',f',ms,rfl,hw⟩;obtain⟨i,hi,him,rfl⟩:=Bp hx;obtain⟨y1,y2⟩:=Ea him;obtain⟨dx',tl',yl',al',as',kvs',k1,_⟩:=id R'.at_;refine⟨p,dx',_,rfl,k1,ln4 _ _ _ _,ls,ys,d,S,i,_,R',rfl,hS,⟨n,hc⟩,rfl,y1,y2,hk,fun b e H3 g1 g2' R3 f3=>?_⟩;refine⟨R3,f'.trans f3,ms++[max b e],by rw[Ce];rfl,?_⟩;rw[Zm,hi];exact Pe hw g1 g2'
  ·rintro zs H' ⟨R',f',ms,rfl,hw⟩ l2 hl2;rw[Aj,Zq]at hw;refine⟨ms.map fun m=>((m:Nat):Int),by rw[ZBX];exact .of AD,by rw[ZB,hw.1];exact OC ho hc,fun M hM hle=>?_⟩;obtain⟨M',hM',rfl⟩:=ZJ.mp hM;have fm:=Qx ho hw hM' (fun a ha=>by have:=hle _ (ZJ.mpr ⟨a,ha,rfl⟩);lia);have sl:Yb H' (upd H' l2 (.lst (iL ms))):=Yb.upd hl2;have e:(1:Int)+((M':Nat):Int)=((1+M':Nat):Int):=by lia
   show Q (.int (1+((M':Nat):Int))) _;rw[e];exact q (1+M') _ fm (R'.same sl) ((Bd s1).trans ((Bd s2).trans (f'.trans (Bd sl))))
theorem Wm(c:Nat)(G_z15:Xq P w mg base T.z15 (4 * c+4) (BV K T.C_Reckoner c)) :
 FnOk P w K mg base CX0 (4 * (c+1)+4) T.z15.f T.z15.d ["self","things"] (BV K T.C_Reckoner (c+1)):=by
 have G_z10:=Oc T c G_z15;refine T.z15.F.ok SM (fun vs H Q E h=>by unfold BV at h;walk_at "e") ?_;walk_at "f";have hr_z10:=hr.mono (show 4 * c+7<=4 * (c+1)+3 by lia);unfold BV at h;walk_at "g"
 rename_i p z;obtain⟨ls,ys,d,S,R,e1,hS,hc,hk,q⟩:=h;subst e1;obtain⟨dx,tl,yl,al,as,Yd,h1,h2,h3,h4,hd,h6,h7,h8⟩:=id R.at_;have mono1:AR (BV K T.C_Reckoner (c+1)):=Li;refine⟨_,(@AF _ _ _ _ _ (@Ao _ _ _ _ _ _ _ _ (Ae (JR hu) (vv 1) (BN T.cl_Reckoner T.na_Reckoner_known (vv 0))) (@AH _ _ _ (@Fv _ _ _ _ _ _ _ _ _ (C8 hu) (BN T.cl_Reckoner T.na_Reckoner_known (vv 0)) (vv 1) (Ay (vv 0) T.cl_Reckoner T.z10.m G_z10 hr_z10 T.z10.b .nil AG (AA (vv 1) AB)) (by rfl))) An) (@AH _ _ _ (@AL _ _ _ _ (N5 (C8 hu) (BN T.cl_Reckoner T.na_Reckoner_known (vv 0)) (vv 1) (by intro _ _;rfl))))),?_⟩;refine AX (fun Z H1=>Z=[some (.ref p),some (.int (S:Nat))]/\RkAt K T.C_Reckoner ls ys H1 p d/\Yj d H H1/\∃(kvs':List (Key × V)) (m:Nat),H1 d=some (.dK kvs')/\valV kvs' (Sum.inl (S:Int):Key)=some (.int m)/\Ar (AE ls) (AY ys) S.testBit m) ?_ ?_ (by walk_at "sm")
 ·refine⟨dx,_,_,h1,lk4 _ _ _ _,valV Yd (Sum.inl (S:Int):Key),DGet.k (k:=Sum.inl (S:Int)) hd,?_⟩;cases e:valV Yd (Sum.inl (S:Int):Key) with
  | some v =>
   obtain⟨m,rfl,hm⟩:=h8.get e;exact⟨rfl,R,Yj.refl,Yd,m,hd,e,hm⟩
  | none =>
   refine⟨p,dx,_,rfl,h1,ln2 _ _ _ _,ls,ys,d,S,R,rfl,hS,hc,hk,fun m H1 hm R1 f1=>?_⟩;obtain⟨dx1,tl1,yl1,al1,as1,kvs1,k1,_,_,_,k5,_,_,k8⟩:=id R1.at_;refine⟨dx1,_,_,k1,lk4 _ _ _ _,d,_,rfl,DPut.k (k:=Sum.inl (S:Int)) k5 (k8.len R.l16),?_⟩;have fu:Yj d H1 (upd H1 d (.dK (Al kvs1 (Sum.inl (S:Int):Key) (V.int m)))):=Yj.updT;exact⟨rfl,R1.put fu AD (k8.put hS hm),f1.trans fu,_,m,AD,by rw[MT,if_pos rfl],hm⟩
 ·rintro Z H1 ⟨rfl,R1,f1,kvs',m,hd1,hv,hm⟩;obtain⟨dx1,tl1,yl1,al1,as1,kvs1,k1,_⟩:=id R1.at_;refine⟨dx1,_,_,k1,lk4 _ _ _ _,d,.int m,rfl,?_,q m H1 hm R1 f1⟩;rw[<- hv];exact DGet.k (k:=Sum.inl (S:Int)) hd1
theorem KD:∀c:Nat,Xq P w mg base T.z15 (4 * c+4) (BV K T.C_Reckoner c)
 | 0=>by
  have no:∀vs H Q E,¬BV K T.C_Reckoner 0 vs H Q E:=fun vs H Q E h=>by
   unfold BV at h;split at h
   ·obtain⟨ls,ys,d,S,_,_,_,_,z,_⟩:=h;exact absurd z (ZBT _)
   ·exact h
  exact⟨fun vs H Q E h=>(no _ _ _ _ h).elim,fun A outer s H args us vs Q E _ _ _ _ h=>(no _ _ _ _ h).elim⟩
 | c+1=>Wm T c (KD c)
theorem JL:Xq P w mg base T.z15 72 (BV K T.C_Reckoner 17):=KD T 17
noncomputable def CC(a b c:V):List (Str × V):=[("yeses",a),("numbers",b),("found",c)]
theorem lb1(a b c:V):(CC a b c).lookup ("yeses" : Str)=some a:=by rfl
theorem lb2(a b c:V):(CC a b c).lookup ("numbers" : Str)=some b:=by rfl
theorem lb3(a b c:V):(CC a b c).lookup ("found" : Str)=some c:=by rfl
theorem nb1(a b c:V):(CC a b c).lookup ("bears" : Str)=none:=by rfl
theorem nb2(a b c:V):(CC a b c).lookup ("has_within" : Str)=none:=by rfl
theorem nb3(a b c:V):(CC a b c).lookup ("greatest_within" : Str)=none:=by rfl
theorem nb4(a b c:V):(CC a b c).lookup ("bears_all" : Str)=none:=by rfl
theorem pb1(a:V):AZ "yeses" a []=([("yeses",a)]:List (Str × V)):=by rfl
theorem pb2(a b:V):AZ "numbers" b [("yeses",a)]=([("yeses",a),("numbers",b)]:List (Str × V)):=by rfl
theorem pb3(a b c:V):AZ "found" c [("yeses",a),("numbers",b)]=CC a b c:=by rfl
noncomputable abbrev kN(S:Nat):Key:=Sum.inl (S:Int)
structure NumsOk(n:Nat)(Yd:List (Key × V)):Prop where
 nd:(Yd.map (·.1)).Nodup
 ok:∀e∈Yd,∃(S:Nat) (k:Int),e=(kN S,V.int k)/\S < 2 ^ n/\1<=k
noncomputable def BG(Yd:List (Key × V))(U:Nat)(m:Int):Prop:=∃(S:Nat) (k:Int),(kN S,V.int k)∈Yd/\S &&& U=S/\m<=k
noncomputable def EE(Yd:List (Key × V))(U:Nat)(g:Int):Prop:=∀m:Int,1<=m->(m<=g ↔ BG Yd U m)
structure FMemo(n:Nat)(Yd fvs:List (Key × V)):Prop where
 nd:(fvs.map (·.1)).Nodup
 ok:∀e∈fvs,∃(U:Nat) (g:Int),e=(kN U,V.int g)/\U < 2 ^ n/\EE Yd U g
theorem FMemo.get{fvs:List (Key × V)}(h:FMemo n Yd fvs)(e:valV fvs (kN U)=some v):∃g:Int,v=.int g/\EE Yd U g:=by
 obtain⟨T',g,ee,_,hf⟩:=h.ok _ (EN e);have e1:kN U=kN T':=congrArg Prod.fst ee;have e2:v=V.int g:=congrArg Prod.snd ee
 have:U=T':=by injection e1 with z;lia
 subst this;exact⟨g,e2,hf⟩
theorem My{k:Key}(nd:(Yd.map (·.1)).Nodup):((Al Yd k v).map (·.1)).Nodup:=by
 unfold Al;split
 ·have e:(Yd.map (fun kv=>if kv.1=k then (kv.1,v) else kv)).map (·.1)=Yd.map (·.1):=by
   rw[ZBX];apply ZBy;intro a _;simp only[Function.comp];split <;> rfl
  rw[e];exact nd
 ·rename_i z;rw[ZF,List.nodup_append];refine⟨nd,by simp,?_⟩;intro a ha b hb q;have hb':b=k:=by simpa using hb
  obtain⟨x,hx,rfl⟩:=ZJ.mp ha;exact z (ZBO.mpr ⟨x,hx,ZL (q.trans hb')⟩)
theorem put_mem{k:Key}{e:Key × V}(h:e∈Al Yd k v):e=(k,v)\/(e∈Yd/\e.1≠k):=by
 unfold Al at h;split at h
 ·obtain⟨a,ha,rfl⟩:=ZJ.mp h;split
  ·rename_i q;exact .inl (by rw[q])
  ·rename_i q;exact .inr ⟨ha,q⟩
 ·rename_i z
  rcases Zb.mp h with q | q
  ·exact .inr ⟨q,fun y=>z (ZBO.mpr ⟨e,q,ZL y⟩)⟩
  ·rw[ZO]at q;exact .inl q
theorem Kj{k:Key}:(k,v)∈Al Yd k v:=by
 unfold Al;split
 ·rename_i z;obtain⟨x,hx,e⟩:=ZBO.mp z;have e:=ZR e;exact ZJ.mpr ⟨x,hx,by rw[if_pos e,e]⟩
 ·exact ZY _ (by simp)
theorem Uy{k:Key}{e:Key × V}(h:e∈Yd)(n:e.1≠k):e∈Al Yd k v:=by
 unfold Al;split
 ·exact ZJ.mpr ⟨e,h,by rw[if_neg n]⟩
 ·exact Zv _ h
theorem Ow{k:Key}(nd:(Yd.map (·.1)).Nodup)(h:(k,v)∈Yd):valV Yd k=some v:=by
 induction Yd with
 | nil=>cases h
 | cons x r ih =>
  rw[Za,ZBc]at nd
  rcases ZH.mp h with e | e
  ·subst e;exact Bt rfl
  ·rw[Bv fun z=>nd.1 (by rw[z];exact ZJ.mpr ⟨_,e,rfl⟩)];exact ih nd.2 e
theorem FMemo.put{fvs:List (Key × V)}(h:FMemo n Yd fvs){g:Int}(hT:U < 2 ^ n)(hg:EE Yd U g):FMemo n Yd (Al fvs (kN U) (V.int g)) :=
 ⟨My h.nd,fun e he=>by
  rcases put_mem he with rfl | ⟨q,_⟩
  ·exact⟨U,g,rfl,hT,hg⟩
  ·exact h.ok e q⟩
theorem Hf{fvs:List (Key × V)}(nd:(fvs.map (·.1)).Nodup)(h:∀e∈fvs,∃(U:Nat) (v:V),e=(kN U,v)/\U < 2 ^ n)(n16:n<=16):fvs.length < 2 ^ 24:=by
 have hl:fvs.length<=2 ^ n:=by
  have e:(fvs.map fun e=>match e.1 with | Sum.inl z=>z.toNat | Sum.inr _=>0).length=fvs.length:=ZB ..;rw[<- e];apply D5
  ·refine ZBf.mpr (List.Pairwise.imp_of_mem ?_ (ZBf.mp nd));intro a b ha hb ne q;obtain⟨U,v,rfl,_⟩:=h a ha;obtain⟨U',v',rfl,_⟩:=h b hb;apply ne;have q':(U:Int).toNat=(U':Int).toNat:=q;rw[ZZ,ZZ]at q';rw[q']
  ·intro x hx;obtain⟨a,ha,rfl⟩:=ZJ.mp hx;obtain⟨U,v,rfl,hU⟩:=h a ha
   show(U:Int).toNat < 2 ^ n
   rw[ZZ];exact hU
 have:2 ^ n<=2 ^ 16:=Zl (by decide) n16
 lia
structure BrAt(K:W.Frag)(C:Addr)(n:Nat)(ys:List Nat)(Yd:List (Key × V))(H:Hp)(p nd fd:Addr):Prop where
 at_:∃dx yl fvs,H p=some (.ins C dx (CC (.ref yl) (.ref nd) (.ref fd)))/\H yl=some (.lst (iL ys))/\Rd H nd (.dK Yd)/\H fd=some (.dK fvs)/\FMemo n Yd fvs
 nums:NumsOk n Yd
 n16:n<=16
 y16:ys.length<=16
 ne:nd≠fd
 ylt:∀y∈ys,y < 2 ^ n
noncomputable def KpB(nd fd:Addr)(H H':Hp):Prop:=(∀b o,b≠nd->b≠fd->H b=some o->H' b=some o)/\∀o u,H nd=some (.frz o u)->H' nd=some (.frz o u)
theorem KpB.refl{fd:Addr}:KpB nd fd H H:=⟨fun _ _ _ _ e=>e,fun _ _ e=>e⟩
theorem KpB.trans{fd:Addr}{H1 H2:Hp}(a:KpB nd fd H H1)(b:KpB nd fd H1 H2):KpB nd fd H H2:=⟨fun c o x y e=>b.1 c o x y (a.1 c o x y e),fun o u e=>b.2 o u (a.2 o u e)⟩
theorem KpB.same{fd:Addr}(s:Yb H H'):KpB nd fd H H':=⟨fun b o _ _ e=>s b o e,fun o u e=>s _ _ e⟩
theorem BrAt.same{fd:Addr}(r:BrAt K C n ys Yd H p nd fd)(s:Yb H H'):BrAt K C n ys Yd H' p nd fd:=by
 obtain⟨dx,yl,fvs,h1,h2,h3,h4,h5⟩:=r.at_;refine⟨⟨dx,yl,fvs,s _ _ h1,s _ _ h2,?_,s _ _ h4,h5⟩,r.nums,r.n16,r.y16,r.ne,r.ylt⟩
 rcases h3 with h | ⟨o,h⟩
 ·exact .inl (s _ _ h)
 ·exact .inr ⟨o,s _ _ h⟩
theorem Lw{R:Addr->Obj->Hp->Prop}(hn:Rd H nd (.dK Yd))(h:∀o H1,H1 nd=some (.frz o (.dK Yd))->(∀b,b≠nd->H1 b=H b)->(∀o' u,H nd=some (.frz o' u)->H1 nd=some (.frz o' u))->R nd o H1):Ey (.ref nd) H R:=by
 rcases hn with e | ⟨o,e⟩
 ·exact .inl ⟨Yd,e,fun o=>h o _ AD (fun b hb=>AJ hb) fun o' u z=>by rw[e]at z;cases z⟩
 ·exact .inr ⟨Yd,o,e,h o H e (fun _ _=>rfl) fun _ _ z=>z⟩
theorem BrAt.held{H1:Hp}{fd:Addr}{o:Obj}(r:BrAt K C n ys Yd H p nd fd)(h1:H1 nd=some (.frz o (.dK Yd)))(h2:∀b,b≠nd->H1 b=H b):BrAt K C n ys Yd H1 p nd fd:=by
 obtain⟨dx,yl,fvs,k1,k2,k3,k4,k5⟩:=r.at_
 have no:∀{b:Addr} {u:HO},H b=some u->(u≠.dK Yd/\∀o,u≠.frz o (.dK Yd))->b≠nd:=fun hb hu z=>by
  subst z
  rcases k3 with z | ⟨o,z⟩
  ·rw[hb]at z;exact hu.1 (ZU z)
  ·rw[hb]at z;exact hu.2 o (ZU z)
 exact⟨⟨dx,yl,fvs,by rw[h2 p (no k1 ⟨(fun z=>nomatch z),(fun _ z=>nomatch z)⟩)];exact k1,by rw[h2 yl (no k2 ⟨(fun z=>nomatch z),(fun _ z=>nomatch z)⟩)];exact k2,.inr ⟨o,h1⟩,by rw[h2 fd (Ne.symm r.ne)];exact k4,k5⟩,r.nums,r.n16,r.y16,r.ne,r.ylt⟩
theorem BrAt.put{fvs':List (Key × V)}{fd:Addr}(r:BrAt K C n ys Yd H p nd fd)(m:FMemo n Yd fvs'):BrAt K C n ys Yd (upd H fd (.dK fvs')) p nd fd:=by
 obtain⟨dx,yl,fvs,k1,k2,k3,k4,k5⟩:=r.at_;refine⟨⟨dx,yl,fvs',?_,?_,?_,AD,m⟩,r.nums,r.n16,r.y16,r.ne,r.ylt⟩
 ·rw[AJ (Bg k1 k4 (by intro z;cases z))];exact k1
 ·rw[AJ (Bg k2 k4 (by intro z;cases z))];exact k2
 ·rcases k3 with z | ⟨o,z⟩
  ·exact .inl (by rw[AJ r.ne];exact z)
  ·exact .inr ⟨o,by rw[AJ r.ne];exact z⟩
noncomputable def inF(U:Nat)(e:Key × V):Option Int:=match e with
 | (Sum.inl z,.int k)=>if z.toNat &&& U=z.toNat then some k else none
 | _=>none
theorem KM{k:Int}:inF U (kN S,.int k)=if S &&& U=S then some k else none:=by
 show(if (S:Int).toNat &&& U=(S:Int).toNat then some k else none)=_
 rw[ZZ]
theorem WI(h:NumsOk n Yd){m:Int}:BG Yd U m ↔ ∃k∈Yd.filterMap (inF U),m<=k:=by
 constructor
 ·rintro⟨S,k,h1,h2,h3⟩;exact⟨k,ZB0.mpr ⟨_,h1,by rw[KM,if_pos h2]⟩,h3⟩
 ·rintro⟨k,hk,h3⟩;obtain⟨e,he,hf⟩:=ZB0.mp hk;obtain⟨S,k',rfl,_,_⟩:=h.ok e he;rw[KM]at hf
  by_cases z:S &&& U=S
  ·rw[if_pos z]at hf;cases hf;exact⟨S,_,he,z,h3⟩
  ·rw[if_neg z]at hf;cases hf
theorem XS(h:NumsOk n Yd){M:Int}(h0:Yd.filterMap (inF U)=[]->M=0)(h1:Yd.filterMap (inF U)≠[]->M∈Yd.filterMap (inF U)/\∀a∈Yd.filterMap (inF U),a<=M):EE Yd U M:=fun m hm=>by
 rw[WI h]
 by_cases e:Yd.filterMap (inF U)=[]
 ·rw[e,h0 e];constructor
  ·intro;lia
  ·rintro⟨k,hk,_⟩;cases hk
 ·obtain⟨a1,a2⟩:=h1 e;exact⟨fun z=>⟨M,a1,z⟩,fun⟨k,hk,z⟩=>Int.le_trans z (a2 k hk)⟩
noncomputable def D6(K:W.Frag)(C:Addr):Sp:=fun vs H Q _=>match vs with
 | [.ref p,.int z]=>∃n ys Yd nd fd U,BrAt K C n ys Yd H p nd fd/\z=(U:Nat)/\U < 2 ^ n/\∀(g:Int) H',EE Yd U g->KpB nd fd H H'->BrAt K C n ys Yd H' p nd fd->Q (.int g) H'
 | _=>False
theorem Tg:AR (D6 K C):=fun vs H Q Q' E h q=>by
 unfold D6 at *;walk_at "q"
theorem VI:Xq P w mg base T.z11 2 (D6 K T.C_Bearing):=by
 refine T.z11.F.ok sc_z11 (fun vs H Q E h=>by unfold D6 at h;walk_at "e") ?_;walk_at "f";have mo1:AR EJ:=Ud;unfold D6 at h;walk_at "g"
 rename_i p z;obtain⟨n,ys,Yd,nd,fd,U,R,e1,hT,q⟩:=h;subst e1;obtain⟨dx,yl,fvs,h1,h2,h3,h4,h5⟩:=id R.at_;refine⟨_,(@AF _ _ _ _ _ (@Ao _ _ _ _ _ _ _ _ (Ae (JR hu) (vv 1) (BN T.cl_Bearing T.na_Bearing_found (vv 0))) (@AF _ _ _ _ _ (@Da _ _ _ _ _ _ _ (["each","number","things"]) 2 [1] _ _ _ _ 2 _ _ _ rfl sc_z11.nd rfl rfl (Ik (BN T.cl_Bearing T.na_Bearing_numbers (vv 0))) (by kernel_rfl) rfl rfl (by kernel_rfl) (fun c=>D0 (K:=K) (n:=2) rfl (Az (AO (i:=0) (show(["each","number","things"]:List Str).Nodup by decide +kernel) rfl (by right)) (Az (AO (i:=1) (show(["each","number","things"]:List Str).Nodup by decide +kernel) rfl (by right)) B9))) (Ei (B6 BR (DX BR By) (Ac (by decide)) (B6 BR By (Ac (by decide)) EM))) (fun c=>D7 (BM (AI (@OH P w K mg base T) (hr.mono (show 1<=_ by decide)) rfl T.z64.m T.z64.F.kp T.z64.b .nil AG (AA (vv 0) (AA (vv 2) AB))))) (fun c=>(vv 1)) (by rfl) (by intro _;rfl)) (@AH _ _ _ (@Fv _ _ _ _ _ _ _ _ _ (C8 hu) (BN T.cl_Bearing T.na_Bearing_found (vv 0)) (vv 1) (Lg (K:=K) (vv 2) T.z_max rfl) (by rfl)))) An) (@AH _ _ _ (@AL _ _ _ _ (N5 (C8 hu) (BN T.cl_Bearing T.na_Bearing_found (vv 0)) (vv 1) (by intro _ _;rfl))))),?_⟩;refine AX (fun Z H'=>∃(z2:Option V) (fvs':List (Key × V)) (g:Int),Z=[some (.ref p),some (.int (U:Nat)),z2]/\BrAt K T.C_Bearing n ys Yd H' p nd fd/\KpB nd fd H H'/\H' fd=some (.dK fvs')/\valV fvs' (kN U)=some (.int g)/\EE Yd U g) ?_ ?_ (by walk_at "sm")
 ·refine⟨dx,_,_,h1,lb3 _ _ _,valV fvs (kN U),DGet.k (k:=kN U) h4,?_⟩;cases e:valV fvs (kN U) with
  | some v =>
   obtain⟨g,rfl,hg⟩:=h5.get e;exact⟨none,fvs,g,rfl,R,KpB.refl,h4,e,hg⟩
  | none =>
   refine⟨dx,_,_,h1,lb2 _ _ _,Lw h3 fun o H1 a1 a2 a3=>?_⟩;have R1:=R.held a1 a2;have kp1:KpB nd fd H H1:=⟨fun b u hb _ e=>by rw[a2 b hb];exact e,a3⟩;refine MG (Yd:=Yd) (fun j zs H'=>Yb H1 H'/\zs=((Yd.take j).filterMap (inF U)).map V.int) ⟨Yb.refl _,rfl⟩ (fun j zs H' _ ⟨s1,_⟩=>s1 _ _ a1) (fun j zs H' hj ⟨_,e⟩=>?_) ?_ ?_
   ·have l1:=Hf R.nums.nd (fun e he=>by obtain⟨S,k,h1,h2,_⟩:=R.nums.ok e he;exact⟨S,_,h1,h2⟩) R.n16;rw[e,ZB];refine Nat.lt_of_le_of_lt (List.length_filterMap_le _ _) ?_;rw[ZW];have e:sizeLine=16777216:=by decide
    lia
   ·rintro j r pp zs H2 hr2 ⟨s2,rfl⟩ npp;obtain⟨S,k,rfl,hS,hk⟩:=R.nums.ok r (Zt hr2);refine⟨pp,_,rfl,.of AD,rfl,_,_,rfl,_,_,rfl,rfl,?_⟩;refine⟨S,U,rfl,rfl,?_⟩;have s3:=s2.trans (Yb.upd (o:=.tup [kV (kN S),V.int k]) npp)
    have et:(Yd.take (j+1)).filterMap (inF U)=(Yd.take j).filterMap (inF U)++(if S &&& U=S then [k] else []):=by
     rw[Zm,hr2,List.filterMap_append]
     congr 1
     show List.filterMap (inF U) [(kN S,.int k)]=_;rw[ZBY,KM]
     by_cases z:S &&& U=S
     ·rw[if_pos z,if_pos z];rfl
     ·rw[if_neg z,if_neg z];rfl
    rw[et]
    by_cases z:S &&& U=S
    ·rw[if_pos z];show if decide (S &&& U=S)=true then _ else _
     rw[if_pos (ZL z)];exact⟨s3,by rw[ZF];rfl⟩
    ·rw[if_neg z];show if decide (S &&& U=S)=true then _ else _
     rw[if_neg (fun y=>z (ZR y))];exact⟨s3,by rw[Zw]⟩
   ·rintro zs H2 ⟨s2,rfl⟩ l nl;rw[Zq];have s3:=s2.trans (Yb.upd (o:=.lst ((Yd.filterMap (inF U)).map V.int)) nl);have g3:=AD (H:=H2) (a:=l) (o:=.lst ((Yd.filterMap (inF U)).map V.int));generalize upd H2 l (.lst ((Yd.filterMap (inF U)).map V.int))=H3 at *;have R3:=R1.same s3;obtain⟨dx3,yl3,fvs3,b1,b2,b3,b4,b5⟩:=id R3.at_;refine⟨l,_,rfl,.of g3,fun M m0 m1=>?_⟩;have hg:=XS R.nums m0 m1;have Yk:=Hf b5.nd (fun e he=>by obtain⟨S,k,h1,h2,_⟩:=b5.ok e he;exact⟨S,_,h1,h2⟩) R.n16;refine⟨dx3,_,_,b1,lb3 _ _ _,fd,_,rfl,DPut.k (k:=kN U) b4 Yk,?_⟩;refine⟨_,_,M,rfl,R3.put (b5.put hT hg),kp1.trans ((KpB.same s3).trans ⟨fun b o x y e=>by rw[AJ y];exact e,fun o u e=>by rw[AJ R.ne];exact e⟩),AD,(MT fvs3 (kN U) (kN U) _).trans (if_pos rfl),hg⟩
 ·rintro Z H1 ⟨z2,fvs',g,rfl,R1,k1,f1,v1,g1⟩;obtain⟨dx1,yl1,fvs1,b1,_⟩:=id R1.at_;refine⟨dx1,_,_,b1,lb3 _ _ _,fd,.int g,rfl,?_,q g H1 g1 k1 R1⟩;rw[<- v1];exact DGet.k (k:=kN U) f1
noncomputable def FW(K:W.Frag)(C:Addr):Sp:=fun vs H Q _=>match vs with
 | [.ref p,.int z,.int m]=>∃n ys Yd nd fd U,BrAt K C n ys Yd H p nd fd/\z=(U:Nat)/\U < 2 ^ n/\1<=m/\∀(b:Bool) H',(b=true ↔ BG Yd U m)->KpB nd fd H H'->BrAt K C n ys Yd H' p nd fd->Q (.bl b) H'
 | _=>False
theorem Ve:AR (FW K C):=fun vs H Q Q' E h q=>by
 unfold FW at *;walk_at "q"
theorem OW(h:Rd H a (.dK Yd)):IsD H a:=.inl ⟨Yd,h⟩
theorem NS{k:Key}(h:Rd H a (.dK Yd)):DGet H a (kV k) (valV Yd k):=.inl ⟨Yd,k,h,rfl,rfl⟩
theorem QR:Xq P w mg base T.z19 3 (FW K T.C_Bearing):=by
 refine T.z19.F.ok Wc (fun vs H Q E h=>by unfold FW at h;walk_at "e") ?_;walk_at "f";have mo1:AR (D6 K T.C_Bearing):=Tg
 match vs,h with
 | [.ref p,.int z,.int m],⟨n,ys,Yd,nd,fd,U,R,e1,hT,hm,q⟩ =>
 subst e1;obtain⟨dx,yl,fvs,h1,h2,h3,h4,h5⟩:=id R.at_;refine⟨_,(@AH _ _ _ (@AL _ _ _ _ (JN (A7 Gk (ME (C8 hu) (BN T.cl_Bearing T.na_Bearing_numbers (vv 0)) (vv 1) AC ⟨by rfl,by rfl,by rfl,by rfl⟩) (vv 2)) (CT (A7 Gk (Ay (vv 0) T.cl_Bearing T.z11.m (@VI P w K mg base T) (hr.mono (show 2<=_ by decide)) T.z11.b .nil AG (AA (vv 1) AB)) (vv 2)))))),?_⟩;refine⟨dx,_,_,h1,lb2 _ _ _,nd,rfl,OW h3,valV Yd (kN U),NS (k:=kN U) h3,?_⟩;cases e:valV Yd (kN U) with
 | none =>
  have e0:¬decide (m<=(0:Int))=true:=fun z=>by have:=ZR z;lia
  show if decide (m<=(0:Int))=true then _ else _
  rw[if_neg e0];refine⟨p,dx,_,rfl,h1,nb3 _ _ _,n,ys,Yd,nd,fd,U,R,rfl,hT,fun g H1 hg kp R1=>q _ H1 ?_ kp R1⟩;rw[decide_eq_true_iff];exact hg m hm
 | some v =>
  obtain⟨S,k,ee,_,hk⟩:=R.nums.ok _ (EN e);have e2:v=V.int k:=congrArg Prod.snd ee;subst e2;refine Ak (fun z=>?_) (fun z=>?_)
  ·exact q true H ⟨fun _=>⟨U,k,EN e,Nat.and_self U,ZR z⟩,fun _=>rfl⟩ KpB.refl R
  ·refine⟨p,dx,_,rfl,h1,nb3 _ _ _,n,ys,Yd,nd,fd,U,R,rfl,hT,fun g H1 hg kp R1=>q _ H1 ?_ kp R1⟩;rw[decide_eq_true_iff];exact hg m hm
noncomputable def Du(K:W.Frag)(C:Addr):Sp:=fun vs H Q _=>match vs with
 | [.ref p,.int z,.int m,.int v]=>∃n ys Yd nd fd U y,BrAt K C n ys Yd H p nd fd/\z=(U:Nat)/\U < 2 ^ n/\2<=m/\v=(y:Nat)/\∀(b:Bool) H',(b=true ↔ BG Yd (U &&& y) (m - 1)\/BG Yd (U - (U &&& y)) (m - 1))->KpB nd fd H H'->BrAt K C n ys Yd H' p nd fd->Q (.bl b) H'
 | _=>False
theorem Qg:AR (Du K C):=fun vs H Q Q' E h q=>by
 unfold Du at *;walk_at "q"
theorem Su:Xq P w mg base T.z32 4 (Du K T.C_Bearing):=by
 have G_z19:=@QR P w K mg base T;refine T.z32.F.ok sc_z32 (fun vs H Q E h=>by unfold Du at h;walk_at "e") ?_;walk_at "f";have hr_z19:=hr.mono (show 3<=_ by decide);have mo1:AR (FW K T.C_Bearing):=Ve;unfold Du at h;walk_at "g"
 rename_i p z m v;obtain⟨n,ys,Yd,nd,fd,U,y,R,e1,hT,hm,e2,q⟩:=h;subst e1 e2;refine⟨_,(@AF _ _ _ _ _ (@AN _ _ 4 _ _ _ _ sc_z32.nd rfl (by right) (AQ E6 (vv 1) (vv 3)) (by rfl) (by walk_at "i")) (@AH _ _ _ (@AL _ _ _ _ (JN (Ay (vv 0) T.cl_Bearing T.z19.m G_z19 hr_z19 T.z19.b .nil AG (AA (vv 4) (AA (AQ DC (vv 2) AC) AB))) (CT (Ay (vv 0) T.cl_Bearing T.z19.m G_z19 hr_z19 T.z19.b .nil AG (AA (AQ DC (vv 1) (vv 4)) (AA (AQ DC (vv 2) AC) AB)))))))),?_⟩;obtain⟨dx,yl,fvs,h1,h2,h3,h4,h5⟩:=id R.at_;have hle:=ZBl (n:=U) (m:=y);refine AX (fun Z H'=>Z=[some (.ref p),some (.int (U:Nat)),some (.int m),some (.int (y:Nat)),some (.int ((U &&& y:Nat):Int))]/\H=H') ?_ ?_ (by walk_at "sm")
 ·refine⟨?_,rfl⟩;show [some (V.ref p),some (V.int (U:Nat)),some (V.int m),some (V.int (y:Nat)),some (V.int (Builtin.bitAnd (U:Int) (y:Int)))]=_;rw[GW]
 rintro Z _ ⟨rfl,rfl⟩;refine⟨p,dx,_,rfl,h1,nb2 _ _ _,n,ys,Yd,nd,fd,U &&& y,R,rfl,by lia,by lia,fun b1 H1 hb1 kp1 R1=>?_⟩;refine Ak (fun z=>?_) (fun z=>?_)
 ·exact q true H1 ⟨fun _=>.inl (hb1.mp z),fun _=>rfl⟩ kp1 R1
 ·obtain⟨dx1,yl1,fvs1,k1,_⟩:=id R1.at_;refine⟨p,dx1,_,rfl,k1,nb2 _ _ _,n,ys,Yd,nd,fd,U - (U &&& y),R1,by show(U:Int) - ((U &&& y:Nat):Int)=_;lia,by lia,by lia,fun b2 H2 hb2 kp2 R2=>q b2 H2 ?_ (kp1.trans kp2) R2⟩;rw[hb2];exact⟨.inr,fun h=>h.resolve_left fun x=>z (hb1.mpr x)⟩
noncomputable def Ec(K:W.Frag)(C:Addr):Sp:=fun vs H Q _=>match vs with
 | [.ref p]=>∃n ys Yd nd fd,BrAt K C n ys Yd H p nd fd/\∀(b:Bool) H',(b=true ↔ ∀(U:Nat) (m:Int),(kN U,V.int m)∈Yd->1 < m->∀y∈ys,BG Yd (U &&& y) (m - 1)\/BG Yd (U - (U &&& y)) (m - 1))->KpB nd fd H H'->Q (.bl b) H'
 | _=>False
theorem Sf:AR (Ec K C):=fun vs H Q Q' E h q=>by
 unfold Ec at *;walk_at "q"
theorem W2:Xq P w mg base T.z20 5 (Ec K T.C_Bearing):=by
 refine T.z20.F.ok sc_z20 (fun vs H Q E h=>by unfold Ec at h;walk_at "e") ?_;walk_at "f";have mo1:AR (Du K T.C_Bearing):=Qg;unfold Ec at h;walk_at "g"
 rename_i p;obtain⟨n,ys,Yd,nd,fd,R,q⟩:=h;obtain⟨dx,yl,fvs,h1,h2,h3,h4,h5⟩:=id R.at_;refine⟨_,(@AF _ _ _ _ _ (@Be _ _ _ _ _ _ _ _ PassesOwn.never rfl (Ik (BN T.cl_Bearing T.na_Bearing_numbers (vv 0))) (Dz (K:=K) (n:=2) rfl (Az (AO (i:=1) sc_z20.nd rfl (by right)) (Az (AO (i:=2) sc_z20.nd rfl (by right)) B9))) (@AH _ _ _ (@Ao _ _ _ _ _ _ _ _ (PW.pt (DS (Ae Cb (vv 2) AC) (Dk (Cd (BM (Aa (J7 (K:=K) rfl) rfl T.z_all (by rfl) (AA (Ap (N':=["yes","self","things","number"]) (own:=1) (ix:=[0,1,2]) rfl (BF (K:=K) (BN T.cl_Bearing T.na_Bearing_yeses (vv 0))) (by kernel_rfl) rfl rfl (by kernel_rfl) (fun c=>AO (i:=0) (show(["yes","self","things","number"]:List Str).Nodup by decide +kernel) rfl (by right)) (Ac (by decide)) (fun c=>Am) (fun c=>(Ay (vv 1) T.cl_Bearing T.z32.m (@Su P w K mg base T) (hr.mono (show 4<=_ by decide)) T.z32.b .nil AG (AA (vv 2) (AA (vv 3) (AA (vv 0) AB)))))) AB))))))) (@AH _ _ _ (@AL _ _ _ _ Aw)) An)) (by intro _;rfl)) (@AH _ _ _ (@AL _ _ _ _ Aw))),?_⟩;refine AX (fun Z H'=>KpB nd fd H H'/\∀(U:Nat) (m:Int),(kN U,V.int m)∈Yd->1 < m->∀y∈ys,BG Yd (U &&& y) (m - 1)\/BG Yd (U - (U &&& y)) (m - 1)) ?_ (fun Z H' ⟨kp,hall⟩=>q true H' ⟨fun _=>hall,fun _=>rfl⟩ kp) (by walk_at "sm");refine⟨dx,_,_,h1,lb2 _ _ _,Lw h3 fun o H1 a1 a2 a3=>?_⟩;have R1:=R.held a1 a2;have kp1:KpB nd fd H H1:=⟨fun b u hb _ e=>by rw[a2 b hb];exact e,a3⟩;refine Wu (Yd:=Yd) (fun j Z H'=>(∃z1 z2:Option V,Z=[some (.ref p),z1,z2])/\KpB nd fd H H'/\H' nd=some (.frz o (.dK Yd))/\BrAt K T.C_Bearing n ys Yd H' p nd fd/\∀(U:Nat) (m:Int),(kN U,V.int m)∈Yd.take j->1 < m->∀y∈ys,BG Yd (U &&& y) (m - 1)\/BG Yd (U - (U &&& y)) (m - 1)) ⟨⟨_,_,rfl⟩,kp1,a1,R1,fun U m hm=>by rw[List.take_zero]at hm;cases hm⟩ (fun j Z H' _ ⟨_,_,e,_⟩=>e) ?_ (fun Z H' ⟨_,kp,_,_,hall⟩=>⟨kp,by rw[Zq]at hall;exact hall⟩);rintro j r pp Z H2 hr2 ⟨⟨z1,z2,rfl⟩,kp2,f2,R2,hall⟩ npp;obtain⟨U,m,rfl,hU,hm1⟩:=R.nums.ok r (Zt hr2);have s3:=Yb.upd (o:=.tup [kV (kN U),V.int m]) npp;have hmem:(kN U,V.int m)∈Yd:=Zt hr2;have R3:=R2.same s3;have kp3:=kp2.trans (KpB.same s3);have f3:=s3 _ _ f2;refine⟨_,.inr (.of AD),rfl,_,_,rfl,_,_,rfl,rfl,?_⟩
 have hstep:∀H4,(1 < m->∀y∈ys,BG Yd (U &&& y) (m - 1)\/BG Yd (U - (U &&& y)) (m - 1))->KpB nd fd H H4->H4 nd=some (.frz o (.dK Yd))->BrAt K T.C_Bearing n ys Yd H4 p nd fd->(∃z1 z2:Option V,[some (V.ref p),some (V.int (U:Nat)),some (V.int m)]=[some (V.ref p),z1,z2])/\KpB nd fd H H4/\H4 nd=some (.frz o (.dK Yd))/\BrAt K T.C_Bearing n ys Yd H4 p nd fd/\∀(U:Nat) (m:Int),(kN U,V.int m)∈Yd.take (j+1)->1 < m->∀y∈ys,BG Yd (U &&& y) (m - 1)\/BG Yd (U - (U &&& y)) (m - 1):=by
  intro H4 hh kp4 f4 R4;refine⟨⟨_,_,rfl⟩,kp4,f4,R4,fun U' m' hm'=>?_⟩;rw[Zm,hr2]at hm'
  rcases Zb.mp hm' with x | x
  ·exact hall U' m' x
  ·have x':(kN U',V.int m')=(kN U,V.int m):=by simpa using x
   have e1:kN U'=kN U:=congrArg Prod.fst x';have e2:V.int m'=V.int m:=congrArg Prod.snd x';cases e2;have e3:U'=U:=by injection e1 with z;lia
   subst e3;exact hh
 generalize upd H2 pp (.tup [kV (kN U),V.int m])=H3 at *;refine Ak (fun z=>?_) (fun z=>?_)
 ·have hm2:1 < m:=ZR z;obtain⟨dx3,yl3,fvs3,b1,b2,b3,b4,b5⟩:=id R3.at_;refine⟨dx3,_,_,b1,lb1 _ _ _,.inl ⟨⟨_,.of b2⟩,?_⟩⟩;have y16:=R.y16
  refine DO (xs:=iL ys) (fun i zs H'=>∃bs:List Bool,zs=bs.map V.bl/\bs.length=i/\KpB nd fd H3 H'/\H' yl3=some (.lst (iL ys))/\H' nd=some (.frz o (.dK Yd))/\BrAt K T.C_Bearing n ys Yd H' p nd fd/\∀(t:Nat) (y:Nat),t < i->ys[t]? = some y->(bs[t]? = some true ↔ BG Yd (U &&& y) (m - 1)\/BG Yd (U - (U &&& y)) (m - 1))) ⟨[],rfl,rfl,KpB.refl,b2,f3,R3,fun t y h=>absurd h (ZBT _)⟩ (fun i zs H' _ ⟨_,_,_,_,e,_⟩=>.of e) (fun i zs H' hi ⟨bs,e,e2,_⟩=>by
   rw[Aj]at hi;rw[e,ZB,e2];exact Ag (by lia)) ?_ ?_
  ·rintro i x zs H4 hx ⟨bs,rfl,hbl,kp4,y4,f4,R4,hh⟩;obtain⟨y,hy,_,rfl⟩:=Bp hx;obtain⟨dx4,yl4,fvs4,c1,_⟩:=id R4.at_;refine⟨p,dx4,_,rfl,c1,nb1 _ _ _,n,ys,Yd,nd,fd,U,y,R4,rfl,hU,by lia,rfl,fun b H5 hb kp5 R5=>?_⟩;refine⟨bs++[b],by rw[ZF];rfl,by rw[ZM,hbl];rfl,kp4.trans kp5,kp5.1 _ _ (fun z=>by rw[z,f4]at y4;cases y4) (fun z=>?_) y4,kp5.2 _ _ f4,R5,fun t y' ht hy'=>?_⟩
   ·obtain⟨_,_,fvs5,_,_,_,d4,_⟩:=R4.at_;rw[z,d4]at y4;cases y4
   ·rcases Zu t i with a | a
    ·rw[ZBL (by lia)];exact hh t y' a hy'
    ·have:t=i:=by lia
     subst this;rw[hy]at hy';cases hy';rw[ZBE (by lia),hbl,ZBm];rw[<- hb];simp
  ·rintro zs H4 ⟨bs,rfl,hbl,kp4,y4,f4,R4,hh⟩ l nl;rw[Aj]at hbl hh;refine⟨bs,.of AD,?_⟩;have s5:=Yb.upd (o:=.lst (bs.map V.bl)) nl
   have key:bs.all id=true ↔ ∀y∈ys,BG Yd (U &&& y) (m - 1)\/BG Yd (U - (U &&& y)) (m - 1):=by
    rw[Z3];constructor
    ·intro h y hy;obtain⟨t,ht,rfl⟩:=Zp hy;refine(hh t _ ht (ZD ht)).mp ?_
     have:=h _ (Zc (show t < bs.length by lia))
     rw[ZD (show t < bs.length by lia)];exact congrArg some this
    ·intro h b hb;obtain⟨t,ht,rfl⟩:=Zp hb
     have:=(hh t ys[t] (by lia) (ZD (by lia))).mpr (h _ (Zc (by lia)))
     rw[ZD ht]at this;exact ZU this
   cases hb:bs.all id with
   | true=>exact hstep _ (fun _=>key.mp hb) (kp3.trans (kp4.trans (KpB.same s5))) (s5 _ _ f4) (R4.same s5)
   | false =>
    refine q false _ ⟨(fun z=>nomatch z),fun h=>?_⟩ (kp3.trans (kp4.trans (KpB.same s5)));exact absurd (hb.symm.trans (key.mpr (h U m hmem hm2))) (by decide)
 ·exact hstep _ (fun h=>absurd (ZL h) z) kp3 f3 R3
noncomputable def Eu:Sp:=fun vs H Q _=>match vs with
 | [.ref t,.int n]=>∃m N:Nat,GFeed H t N/\N<=900000000/\n=m/\1<=m/\m<=4/\∀(bs:List Bool) p H',bs.length=2 ^ m->H p=none->H' p=some (.tup (bs.map V.bl))->GFeed H' t (N+18)->Yj t H H'->Q (.ref p) H'
 | _=>False
theorem Rj:AR Eu:=fun vs H Q Q' E h q=>by
 unfold Eu at *;walk_at "q"
theorem Ai(h:∀b,b≠t->H' b=H b):Yj t H H':=fun b o n e=>by rw[h b n];exact e
theorem Mb:Xp P w base T.z48 2 Eu:=by
 have G_z54:=@DF P w K mg base T;refine T.z48.F.ok sc_z48 (fun vs H Q E h=>by unfold Eu at h;walk_at "e") ?_;walk_at "f";have hr_z54:=hr.mono (show 1<=_ by decide);unfold Eu at h;walk_at "g"
 rename_i t n;obtain⟨m,N,F,hN,e1,m1,m4,q⟩:=h;subst e1;refine⟨_,(@AF _ _ _ _ _ (@AN _ _ 2 _ _ _ _ sc_z48.nd rfl (by right) (AQ Mt AC (vv 1)) (by rfl) (by walk_at "i")) (@AF _ _ _ _ _ (@AN _ _ 3 _ _ _ _ sc_z48.nd rfl (by right) (AI G_z54 hr_z54 rfl T.z54.m T.z54.F.kp T.z54.b .nil AG (AA (vv 0) (AA AC AB))) (by rfl) (by walk_at "i")) (@AF _ _ _ _ _ (@Ao _ _ _ _ _ _ _ _ (Ae Cu (vv 3) AC) (@AH _ _ _ (@AL _ _ _ _ (At (A8 (K:=K)) rfl T.z_tuple (by rfl) (AA (Ap (N':=["_law_k","_law_feed_here"]) (own:=1) (ix:=[0]) rfl (BC rfl T.z_range (AA (vv 2) AB)) (by kernel_rfl) rfl rfl (by kernel_rfl) (fun c=>AO (i:=0) (show(["_law_k","_law_feed_here"]:List Str).Nodup by decide +kernel) rfl (by right)) (Ac (by decide)) (fun c=>Am) (fun c=>(A7 (kEq (K:=K) hu) (AI G_z54 hr_z54 rfl T.z54.m T.z54.F.kp T.z54.b .nil AG (AA (vv 1) (AA AC AB))) AC))) AB)))) An) (@AF _ _ _ _ _ (@Ao _ _ _ _ _ _ _ _ (Ae (kEq (K:=K) hu) (vv 3) AC) (@AF _ _ _ _ _ (@AN _ _ 4 _ _ _ _ sc_z48.nd rfl (by right) (AI G_z54 hr_z54 rfl T.z54.m T.z54.F.kp T.z54.b .nil AG (AA (vv 0) (AA (vv 2) AB))) (by rfl) (by walk_at "i")) (@AH _ _ _ (@AL _ _ _ _ (At (A8 (K:=K)) rfl T.z_tuple (by rfl) (AA (Ap (N':=["_law_k","_law_place"]) (own:=1) (ix:=[4]) rfl (BC rfl T.z_range (AA (vv 2) AB)) (by kernel_rfl) rfl rfl (by kernel_rfl) (fun c=>AO (i:=0) (show(["_law_k","_law_place"]:List Str).Nodup by decide +kernel) rfl (by right)) (Ac (by decide)) (fun c=>Am) (fun c=>(A7 (kEq (K:=K) hu) (vv 0) (vv 1)))) AB))))) An) (@AF _ _ _ _ _ (@Ao _ _ _ _ _ _ _ _ (Ae (kEq (K:=K) hu) (vv 3) AC) (@AF _ _ _ _ _ (@AN _ _ 5 _ _ _ _ sc_z48.nd rfl (by right) (AI G_z54 hr_z54 rfl T.z54.m T.z54.F.kp T.z54.b .nil AG (AA (vv 0) (AA (vv 1) AB))) (by rfl) (by walk_at "i")) (@AH _ _ _ (@AL _ _ _ _ (At (A8 (K:=K)) rfl T.z_tuple (by rfl) (AA (Ap (N':=["_law_k","_law_one"]) (own:=1) (ix:=[5]) rfl (BC rfl T.z_range (AA (vv 2) AB)) (by kernel_rfl) rfl rfl (by kernel_rfl) (fun c=>AO (i:=0) (show(["_law_k","_law_one"]:List Str).Nodup by decide +kernel) rfl (by right)) (Ac (by decide)) (fun c=>Am) (fun c=>(A7 (kEq (K:=K) hu) (AQ E6 (AQ SH (vv 0) (vv 1)) AC) AC))) AB))))) An) (@AF _ _ _ _ _ (@AN _ _ 6 _ _ _ _ sc_z48.nd rfl (by right) (A7 (kEq (K:=K) hu) (AI G_z54 hr_z54 rfl T.z54.m T.z54.F.kp T.z54.b .nil AG (AA (vv 0) (AA AC AB))) AC) (by rfl) (by walk_at "i")) (@AH _ _ _ (@AL _ _ _ _ (At (A8 (K:=K)) rfl T.z_tuple (by rfl) (AA (Ap (N':=["_law_k","_law_answer"]) (own:=1) (ix:=[6]) rfl (BC rfl T.z_range (AA (vv 2) AB)) (by kernel_rfl) rfl rfl (by kernel_rfl) (fun c=>AO (i:=0) (show(["_law_k","_law_answer"]:List Str).Nodup by decide +kernel) rfl (by right)) (Ac (by decide)) (fun c=>Am) (fun c=>(vv 1))) AB)))))))))),?_⟩;have e2:(1:Int) * 2 ^ ((m:Int).toNat)=((2 ^ m:Nat):Int):=by rw[ZZ,Int.natCast_pow,Int.one_mul];rfl
 have h16:2 ^ m<=16:=Zl (n:=2) (by decide) m4;have h2:2<=2 ^ m:=Zl (n:=2) (i:=1) (by decide) m1;refine⟨⟨by lia,by lia,by decide⟩,?_⟩;rw[e2];generalize hM:2 ^ m=M at *;have hMd:okDiv (M:Int):=Av (by lia) (Int.le_trans (Int.ofNat_le.mpr h16) (by decide))
 have fin:∀(N':Nat) (H1:Hp) (bs:List Bool) (l:Addr),GFeed H1 t N'->N'<=N+18->Yj t H H1->bs.length=M->H1 l=none->∃ys,(Yw K (upd H1 l (.lst (bs.map V.bl))) l ys/\∀p,upd H1 l (.lst (bs.map V.bl)) p=none->Q (.ref p) (upd (upd H1 l (.lst (bs.map V.bl))) p (.tup ys)))\/(Yp K (upd H1 l (.lst (bs.map V.bl))) l ys/\Q (.ref l) (upd H1 l (.lst (bs.map V.bl)))):=by
  intro N' H1 bs l F1 hN' fr hb hl;refine⟨_,.inl ⟨.of AD,fun p hp=>?_⟩⟩;have f2:Yj t H (upd H1 l (.lst (bs.map V.bl))):=fr.trans (Yj.upd hl);have F2:=F1.upd (o:=.lst (bs.map V.bl)) hl;exact q bs p _ hb (F2.free f2 hp) AD ((F2.upd hp).mono (by lia)) (f2.trans (Yj.upd hp))
 refine⟨N,F,by lia,Av (by decide) (by decide),fun way H2 w0 w1 F2 f2=>?_⟩;dsimp only[AT];refine Ak (fun e=>?_) (fun e=>?_)
 ·refine⟨(M:Int),rfl,by lia,by lia,?_⟩
  refine BW (fun i ys H'=>GFeed H' t (N+1+i)/\Yj t H H'/\∃bs:List Bool,ys=bs.map V.bl/\bs.length=i) ⟨F2,Ai f2,[],rfl,rfl⟩ (fun i ys H' hi ⟨_,_,bs,e,el⟩=>by
   rw[e];exact Ag (by rw[ZB];lia)) ?_ ?_
  ·rintro i ys H' hi ⟨Fi,fi,bs,rfl,rfl⟩;refine⟨_,Fi,by lia,Av (by decide) (by decide),fun d H3 _ _ F3 f3=>?_⟩;exact⟨F3.mono (by lia),fi.trans (Ai f3),bs++[(false ^^ (d == 1))],by rw[ZF];rfl,by rw[ZM];rfl⟩
  ·rintro ys H' ⟨Fi,fi,bs,rfl,hb⟩ l' hl;exact fin _ _ bs l' Fi (by lia) fi (by lia) hl
 dsimp only[Co];refine Ak (fun e=>?_) (fun e=>?_)
 ·refine⟨_,F2,by lia,hMd,fun pl H3 p0 p1 F3 f3=>?_⟩;dsimp only[AT];refine⟨(M:Int),rfl,by lia,by lia,?_⟩
  refine BW (fun i ys H'=>H'=H3/\∃bs:List Bool,ys=bs.map V.bl/\bs.length=i) ⟨rfl,[],rfl,rfl⟩ (fun i ys H' hi ⟨_,bs,e,el⟩=>by
   rw[e];exact Ag (by rw[ZB];lia)) ?_ ?_
  ·rintro i ys H' hi ⟨rfl,bs,rfl,rfl⟩;exact⟨rfl,bs++[(false ^^ ((0+(bs.length:Int)) == pl))],by rw[ZF];rfl,by rw[ZM];rfl⟩
  ·rintro ys H' ⟨rfl,bs,rfl,hb⟩ l' hl;exact fin _ _ bs l' F3 (by lia) ((Ai f2).trans (Ai f3)) (by lia) hl
 dsimp only[Co];refine Ak (fun e=>?_) (fun e=>?_)
 ·refine⟨_,F2,by lia,Av (by lia) (by lia),fun on H3 p0 p1 F3 f3=>?_⟩;dsimp only[AT];refine⟨(M:Int),rfl,by lia,by lia,?_⟩
  refine BW (fun i ys H'=>H'=H3/\∃bs:List Bool,ys=bs.map V.bl/\bs.length=i) ⟨rfl,[],rfl,rfl⟩ (fun i ys H' hi ⟨_,bs,e,el⟩=>by
   rw[e];exact Ag (by rw[ZB];lia)) ?_ ?_
  ·rintro i ys H' hi ⟨rfl,bs,rfl,rfl⟩;refine⟨p0,?_⟩;exact⟨rfl,bs++[_],by rw[ZF];rfl,by rw[ZM];rfl⟩
  ·rintro ys H' ⟨rfl,bs,rfl,hb⟩ l' hl;exact fin _ _ bs l' F3 (by lia) ((Ai f2).trans (Ai f3)) (by lia) hl
 dsimp only[Co];refine⟨_,F2,by lia,Av (by decide) (by decide),fun an H3 p0 p1 F3 f3=>?_⟩;dsimp only[AT,mEq];refine⟨(M:Int),rfl,by lia,by lia,?_⟩
 refine BW (fun i ys H'=>H'=H3/\∃bs:List Bool,ys=bs.map V.bl/\bs.length=i) ⟨rfl,[],rfl,rfl⟩ (fun i ys H' hi ⟨_,bs,e,el⟩=>by
  rw[e];exact Ag (by rw[ZB];lia)) ?_ ?_
 ·rintro i ys H' hi ⟨rfl,bs,rfl,rfl⟩;exact⟨rfl,bs++[_],by rw[ZF];rfl,by rw[ZM];rfl⟩
 ·rintro ys H' ⟨rfl,bs,rfl,hb⟩ l' hl;exact fin _ _ bs l' F3 (by lia) ((Ai f2).trans (Ai f3)) (by lia) hl
noncomputable def Bw(m i:Nat):List Bool:=(List.range (2 ^ m)).map fun p=>p / 2 ^ i % 2 == 1
noncomputable def KI(bs:List Bool):List Dv:=bs.map fun b=>Dv.int (if b then 1 else 0)
noncomputable def Br(bs:List Bool):List V:=bs.map fun b=>V.int (if b then 1 else 0)
noncomputable def B4(m n:Nat):List Dv:=(List.range n).map fun i=>.tup ((Bw m i).map Dv.bl)
noncomputable def Jt(bs:List Bool)(m:Nat):Dv:=.tup [.tup (KI bs),.tup (B4 m m)]
theorem U7(m i:Nat):(Bw m i).length=2 ^ m:=by unfold Bw;simp
theorem M0(m n:Nat):B4 m (n+1)=B4 m n++[.tup ((Bw m n).map Dv.bl)]:=by unfold B4;rw[ZBN,ZF];rfl
theorem Ko(m n:Nat):(B4 m n).length=n:=by unfold B4;simp
theorem LQ:∀bs:List Bool,Yc K H (KI bs) (Br bs)
 | []=>Ad
 | b::bs=>AU IY (LQ bs)
theorem Uk(bs:List Bool):(Br bs).length=bs.length:=by unfold Br;simp
theorem Tb(bs cs:List Bool):Br (bs++cs)=Br bs++Br cs:=by unfold Br;simp
theorem NY(m:Nat):∀n,Ah (B4 m n)=true
 | 0=>rfl
 | n+1=>by
  rw[M0,OF,NY m n];unfold Ah BB;rw[Hq];rfl
noncomputable def Qt(K:W.Frag)(H:Hp)(Q:VK)(d:Dv):Prop:=∀u H',Yb H H'->Yf K H' d u->Q u H'
noncomputable def Ij(K:W.Frag):Sp:=fun vs H Q _=>match vs with
 | [.ref p]=>∃(bs:List Bool) (m:Nat),Yp K H p (bs.map V.bl)/\bs.length=2 ^ m/\1<=m/\m<=4/\Qt K H Q (Jt bs m)
 | _=>False
theorem RV:Xp P w base T.z29 1 (Ij K):=by
 refine T.z29.F.ok sc_z29 (fun vs H Q E h=>by unfold Ij at h;walk_at "e") ?_;walk_at "f";unfold Ij at h;walk_at "g"
 rename_i p;obtain⟨bs,m,hp,hb,m1,m4,q⟩:=h;have h16:2 ^ m<=16:=Zl (n:=2) (by decide) m4;have hbl:(bs.map V.bl).length=2 ^ m:=by rw[ZB];exact hb
 refine⟨_,(@AF _ _ _ _ _ (@AN _ _ 1 _ _ _ _ sc_z29.nd rfl (by right) (@BK _ _ _ _ AB) (by rfl) (by walk_at "i")) (@AF _ _ _ _ _ (@AN _ _ 2 _ _ _ _ sc_z29.nd rfl (by right) AC (by rfl) (by walk_at "i")) (@AF _ _ _ _ _ (@Er _ _ _ _ _ _ PassesOwn.never (Ae Cu (vv 2) (Aa (As (K:=K)) rfl T.z_len (by rfl) (AA (vv 0) AB))) (@AF _ _ _ _ _ (@CP _ _ _ _ (Fb (K:=K) (vv 1) (AA (At (A8 (K:=K)) rfl T.z_tuple (by rfl) (AA (Ap (N':=["_law_k","_law_many"]) (own:=1) (ix:=[2]) rfl (BC rfl T.z_range (AA (Aa (As (K:=K)) rfl T.z_len (by rfl) (AA (vv 0) AB)) AB)) (by kernel_rfl) rfl rfl (by kernel_rfl) (fun c=>AO (i:=0) (show(["_law_k","_law_many"]:List Str).Nodup by decide +kernel) rfl (by right)) (Ac (by decide)) (fun c=>Am) (fun c=>(A7 (kEq (K:=K) hu) (AQ DJ (AQ FO (vv 0) (vv 1)) AC) AC))) AB)) AB)) (by rfl)) (@AH _ _ _ (@AN _ _ 2 _ _ _ _ sc_z29.nd rfl (by right) (AQ CO AC (vv 2)) (by rfl) (by walk_at "i"))))) (@AH _ _ _ (@AL _ _ _ _ (BD (AA (At (A8 (K:=K)) rfl T.z_tuple (by rfl) (AA (@Ap _ _ _ _ _ _ _ ["_law_answer"] 1 [] _ _ _ _ rfl (BF (K:=K) (vv 0)) (by kernel_rfl) rfl rfl (by kernel_rfl) (fun c=>AO (i:=0) (show(["_law_answer"]:List Str).Nodup by decide +kernel) rfl (by right)) (Ac (by decide)) (fun c=>Am) (fun c=>(At NB rfl T.z_int (by rfl) (AA (vv 0) AB))) (by intro _;rfl)) AB)) (AA (At (A8 (K:=K)) rfl T.z_tuple (by rfl) (AA (vv 1) AB)) AB)))))))),?_⟩;refine⟨smq rfl,fun l hl=>?_⟩;dsimp only[AT];refine AX (fun Z H'=>Z=[some (.ref p),some (.ref l),some (.int 1)]/\upd H l (.lst [])=H') ⟨rfl,rfl⟩ ?_ (by walk_at "sm");rintro Z _ ⟨rfl,rfl⟩;refine AX (fun Z H'=>∃(z:Option V) (rs:List V),Z=[some (.ref p),some (.ref l),z]/\Yb H H'/\H' l=some (.lst rs)/\Yc K H' (B4 m m) rs) ?_ ?_ (by walk_at "sm")
 ·refine⟨fun μ Z H'=>∃(i:Nat) (rs:List V),μ=m - i/\i<=m/\Z=[some (.ref p),some (.ref l),some (.int (2 ^ i:Nat))]/\Yb H H'/\H' l=some (.lst rs)/\Yc K H' (B4 m i) rs,⟨m,0,[],by lia,by lia,rfl,Yb.upd hl,AD,Ad⟩,?_⟩;rintro μ Z H1 ⟨i,rs,rfl,hi,rfl,S1,g1,R1⟩;have hrl:rs.length=i:=by have:=R1.length;rw[Ko]at this;lia
  have hpi:(0:Nat) < 2 ^ i:=ZBg i;have hle:(2:Nat) ^ i<=2 ^ m:=Zl (by decide) hi;refine⟨2 ^ m,.inr ⟨_,S1.sqT hp,hbl.symm⟩,?_⟩;refine Ak (fun e=>?_) (fun e=>?_)
  ·have him:i < m:=by
    have e':((2 ^ i:Nat):Int) < ((2 ^ m:Nat):Int):=ZR e
    rcases Zu i m with z | z
    ·exact z
    ·have:i=m:=by lia
     subst this;lia
   refine⟨.inl ⟨rfl,_,.of g1⟩,?_⟩;refine⟨2 ^ m,.inr ⟨_,S1.sqT hp,hbl.symm⟩,((2 ^ m:Nat):Int),rfl,by lia,by lia,?_⟩
   refine BW (fun k ys H'=>H'=H1/\ys=((List.range k).map (fun q=>q / 2 ^ i % 2 == 1)).map V.bl) ⟨rfl,rfl⟩ (fun k ys H' hk ⟨_,e⟩=>by
    rw[e,ZB,ZB,ZBB];exact Ag (by lia)) ?_ ?_
   ·rintro k ys H' hk ⟨rfl,rfl⟩;refine⟨Av (by lia) (Int.le_trans (Int.ofNat_le.mpr (Zn hle h16)) (by decide)),by decide,rfl,?_⟩
    have ee:(false ^^ (((0:Int)+(k:Int)) / ((2 ^ i:Nat):Int) % 2 == 1))=(k / 2 ^ i % 2 == 1):=by
     rw[Z2,Int.zero_add,<- Int.natCast_ediv,ZBG];simp only[beq_iff_eq];lia
    rw[Oh,<- ee]
   ·rintro ys H' ⟨rfl,rfl⟩ k hk;rw[ZZ];refine⟨_,.inl ⟨.of AD,fun p3 hp3=>?_⟩⟩;have erow:((List.range (2 ^ m)).map (fun q=>q / 2 ^ i % 2 == 1)).map V.bl=(Bw m i).map V.bl:=rfl;rw[erow];have s3:=(Yb.upd (o:=.lst ((Bw m i).map V.bl)) hk).trans (Yb.upd (o:=.tup ((Bw m i).map V.bl)) hp3);have g3p:=AD (H:=upd H' k (.lst ((Bw m i).map V.bl))) (a:=p3) (o:=.tup ((Bw m i).map V.bl));have nl:p3≠l:=Ne.symm (BU (Yb.upd (o:=.lst ((Bw m i).map V.bl)) hk _ _ g1) hp3);generalize upd (upd H' k (.lst ((Bw m i).map V.bl))) p3 (.tup ((Bw m i).map V.bl))=H3 at *;refine⟨_,s3 _ _ g1,Ag (by lia),?_⟩;dsimp only[Co,KG,AT];refine⟨.inr (.inl ⟨by decide,by decide⟩),?_⟩;have R3:Yc K H3 (B4 m i) rs:=Yc.same s3 _ _ R1;have fr:Yj l H3 (upd H3 l (.lst (rs++[.ref p3]))):=Yj.updT
    have R4:Yc K (upd H3 l (.lst (rs++[.ref p3]))) (B4 m (i+1)) (rs++[.ref p3]):=by
     rw[M0];refine Yc.append (Yc.frm fr ⟨_,s3 _ _ g1⟩ _ _ (NY m i) R3) (AU ?_ Ad);exact BL (by rw[AJ nl];exact g3p) (Bx _)
    refine⟨m - (i+1),by lia,i+1,_,rfl,him,?_,J6 (S1.trans s3) hl,AD,R4⟩
    have:(2:Int) * ((2 ^ i:Nat):Int)=((2 ^ (i+1):Nat):Int):=by rw[Nat.pow_succ];lia
    rw[<- this];rfl
  ·have him:i=m:=by
    rcases Zu i m with z | z
    ·exact absurd (ZL (show((2 ^ i:Nat):Int) < ((2 ^ m:Nat):Int) from Int.ofNat_lt.mpr (Nat.pow_lt_pow_right (by decide) z))) e
    ·lia
   subst him;exact⟨_,rs,rfl,S1,g1,R1⟩
 rintro Z H1 ⟨z,rs,rfl,S1,g1,R1⟩;have hrl:rs.length=m:=by have:=R1.length;rw[Ko]at this;lia
 refine .inr ⟨⟨_,S1.sqT hp⟩,?_⟩
 refine Cq (xs:=bs.map V.bl) (fun i ys H'=>H'=H1/\ys=Br (bs.take i)) ⟨rfl,rfl⟩ (fun i ys H' _ ⟨e,_⟩=>by rw[e];exact S1.sqT hp) (fun i ys H' hi ⟨_,e⟩=>by
  rw[e,Uk,ZW];exact Ag (by lia)) ?_ ?_
 ·rintro i x ys H' hx ⟨rfl,rfl⟩
  have hi:i < bs.length:=by
   have:=(Zf.mp hx).1
   rwa [ZB]at this
  rw[ZP,ZD hi]at hx;cases hx;refine⟨rfl,?_⟩;rw[Zm,ZD hi,Tb];rfl
 ·rintro ys H' ⟨rfl,rfl⟩ k hk;rw[ZBj (by rw[ZB];exact ZE _)];refine⟨_,.inl ⟨.of AD,fun p3 hp3=>?_⟩⟩;have s3:=(Yb.upd (o:=.lst (Br bs)) hk).trans (Yb.upd (o:=.tup (Br bs)) hp3);have g3p:=AD (H:=upd H' k (.lst (Br bs))) (a:=p3) (o:=.tup (Br bs));generalize upd (upd H' k (.lst (Br bs))) p3 (.tup (Br bs))=H3 at *;refine⟨_,.inl ⟨.of (s3 _ _ g1),fun p4 hp4=>?_⟩⟩;refine⟨smq rfl,fun p5 hp5=>?_⟩;have s5:=(Yb.upd (o:=.tup rs) hp4).trans (Yb.upd (o:=.tup [.ref p3,.ref p4]) hp5);refine q _ _ (S1.trans (s3.trans s5)) ?_;refine BL AD (AU (BL (s5 _ _ g3p) (LQ bs)) (AU (BL (Yb.upd hp5 _ _ AD) ?_) Ad));exact Yc.same (s3.trans s5) _ _ R1
noncomputable def Ab(ts:List (List Bool)):List Dv:=ts.map fun b=>.tup (b.map Dv.bl)
noncomputable def gmD(ls:List Int)(rs:List (List Bool)):Dv:=.tup [.tup (ls.map Dv.int),.tup (Ab rs)]
structure Gm(ls:List Int)(rs:List (List Bool)):Prop where
 l1:1<=ls.length
 l16:ls.length<=16
 r1:1<=rs.length
 r16:rs.length<=16
 row:∀r∈rs,r.length=ls.length
theorem CW:∀ts:List (List Bool),Ah (Ab ts)=true
 | []=>rfl
 | b::ts=>by
  show Ah (Dv.tup (b.map Dv.bl)::Ab ts)=true;unfold Ah BB;rw[Hq,CW ts];rfl
theorem Dj(ts:List (List Bool)):(Ab ts).length=ts.length:=ZB ..
theorem ND:∀(k:Nat) {ds:List Dv} {xs:List V},Yc K H ds xs->Yc K H (ds.take k) (xs.take k)
 | 0,_,_,_=>by simpa using Ad
 | k+1,[],xs,h=>by unfold Yc at h;subst h;simpa using Ad
 | k+1,d::ds,xs,h=>by
  unfold Yc at h;obtain⟨x,r,rfl,h1,h2⟩:=h;simpa using AU h1 (ND k h2)
theorem NO:∀(k:Nat) {ds:List Dv} {xs:List V},Yc K H ds xs->Yc K H (ds.drop k) (xs.drop k)
 | 0,_,_,h=>by simpa using h
 | k+1,[],xs,h=>by unfold Yc at h;subst h;simpa using Ad
 | k+1,d::ds,xs,h=>by
  unfold Yc at h;obtain⟨x,r,rfl,h1,h2⟩:=h;simpa using NO k h2
theorem O2(ts:List (List Bool))(b:List Bool)(k:Nat):Ab (ts.take k++b::ts.drop k)=(Ab ts).take k++.tup (b.map Dv.bl)::(Ab ts).drop k:=by
 unfold Ab;rw[ZF,Za,List.map_take,List.map_drop]
theorem GY:∀bs:List Bool,CM (bs.map Dv.bl)=0
 | []=>by simp[CM]
 | b::bs=>by
  show CM (Dv.bl b::bs.map Dv.bl)=_;unfold CM;rw[GY bs];rfl
theorem XB(ts:List (List Bool)):∀e∈Ab ts,A4 e<=50:=by
 intro e he;obtain⟨b,_,rfl⟩:=ZJ.mp he;unfold A4;rw[GY];lia
theorem Sg(xs:List V)(a:Nat)(h:a<=xs.length):Bb xs none (some (a:Int))=xs.take a:=by
 unfold Bb;rw[HT.sIx_nat,HT.sIx_none,List.drop_zero,Nat.sub_zero,Nat.min_eq_left h]
theorem Ti(xs:List V)(a:Nat)(h:a<=xs.length):Bb xs (some (a:Int)) none=xs.drop a:=by
 unfold Bb;rw[HT.sIx_nat,HT.sIx_none,Nat.min_eq_left h,ZBj (by rw[ZBC];lia)]
theorem HR{ts:List (List Bool)}(h:Yc K H (Ab ts) xs):∀ns:List Int,ns.length≠0->xs≠ns.map V.int:=by
 intro ns hn e;cases ts with
 | nil =>
  have:xs=[]:=by simpa [Ab,Yc] using h
  subst this;cases ns with
  | nil=>exact hn rfl
  | cons _ _=>cases e
 | cons b ts =>
  have h':Yc K H (Dv.tup (b.map Dv.bl)::Ab ts) xs:=h;unfold Yc at h';obtain⟨x,r,rfl,h1,_⟩:=h';unfold Yf at h1;obtain⟨a,zs,rfl,_⟩:=h1;cases ns with
  | nil=>exact hn rfl
  | cons _ _=>cases e
theorem Ds{H0:Hp}(f:Yj t H0 H)(hp:H0 p=none):Yj t H0 (upd H p o):=fun b u n e=>by
 rw[AJ (BU e hp)];exact f b u n e
noncomputable def G7(K:W.Frag):Sp:=fun vs H Q _=>match vs with
 | [.ref t,.int n,.int y]=>∃m M N:Nat,GFeed H t N/\N<=850000000/\n=m/\1<=m/\m<=3/\y=M/\2<=M/\M<=6/\∀(ts:List (List Bool)) xs p H',2<=ts.length->ts.length<=M->(∀b∈ts,b.length=2 ^ m)->H p=none->H' p=some (.lst xs)->Yc K H' (Ab ts) xs->GFeed H' t (N+400)->Yj t H H'->Q (.ref p) H'
 | _=>False
theorem SU:Xp P w base T.z43 3 (G7 K):=by
 have G_z54:=@DF P w K mg base T;have G_z48:=@Mb P w K mg base T;refine T.z43.F.ok sc_z43 (fun vs H Q E h=>by unfold G7 at h;walk_at "e") ?_;walk_at "f";have hr_z54:=hr.mono (show 1<=_ by decide);have hr_z48:=hr.mono (show 2<=_ by decide);unfold G7 at h;walk_at "g"
 rename_i t n y;obtain⟨m,M,N,F,hN,e1,m1,m3,e2,M2,M6,q⟩:=h;subst e1 e2;refine⟨_,(@AF _ _ _ _ _ (@AN _ _ 3 _ _ _ _ sc_z43.nd rfl (by right) (@BK _ _ _ _ (AA (AI G_z48 hr_z48 rfl T.z48.m T.z48.F.kp T.z48.b .nil AG (AA (vv 0) (AA (vv 1) AB))) AB)) (by rfl) (by walk_at "i")) (@AF _ _ _ _ _ (@AN _ _ 4 _ _ _ _ sc_z43.nd rfl (by right) (AI G_z54 hr_z54 rfl T.z54.m T.z54.F.kp T.z54.b .nil AG (AA (vv 0) (AA (AQ Mt AC (vv 1)) AB))) (by rfl) (by walk_at "i")) (@AF _ _ _ _ _ (@CP _ _ _ _ (Fb (K:=K) (vv 3) (AA (AQ (D9 (K:=K)) (AQ (D9 (K:=K)) (Ii (K:=K) (Yl (K:=K) (vv 3) AC) Fz (Gh (vv 4))) (BD (AA (N7 (Yl (K:=K) (Yl (K:=K) (vv 3) AC) (vv 4))) AB))) (Ii (K:=K) (Yl (K:=K) (vv 3) AC) (Gh (AQ (D9 (K:=K)) (vv 4) AC)) Fz)) AB)) (by rfl)) (@AF _ _ _ _ _ (@Be _ _ _ _ _ _ _ _ PassesOwn.never rfl (BC rfl T.z_range (AA (AQ CO AC (vv 2)) AB)) (AO (i:=5) sc_z43.nd rfl (by right)) (@AF _ _ _ _ _ (@AN _ _ 6 _ _ _ _ sc_z43.nd rfl (by right) (AI G_z48 hr_z48 rfl T.z48.m T.z48.F.kp T.z48.b .nil AG (AA (vv 0) (AA (vv 1) AB))) (by rfl) (by walk_at "i")) (@AH _ _ _ (@Ao _ _ _ _ _ _ _ _ (PW.pt (DS (Ae Cu (Aa (As (K:=K)) rfl T.z_len (by rfl) (AA (vv 3) AB)) (vv 2)) (Dk (Ae (VT (K:=K) hu) (vv 6) (vv 3))))) (@AH _ _ _ (@CP _ _ _ _ (Ng (K:=K) (vv 3) (AA (AI G_z54 hr_z54 rfl T.z54.m T.z54.F.kp T.z54.b .nil AG (AA (vv 0) (AA (AQ (D9 (K:=K)) (Aa (As (K:=K)) rfl T.z_len (by rfl) (AA (vv 3) AB)) AC) AB))) (AA (vv 6) AB))) (by rfl))) An))) (by intro _;rfl)) (@AH _ _ _ (@AL _ _ _ _ (vv 3))))))),?_⟩;have hmo:=Rj;have h2:2<=2 ^ m:=Zl (n:=2) (i:=1) (by decide) m1;have h8:2 ^ m<=8:=Zl (n:=2) (i:=m) (j:=3) (by decide) m3;have em:(1:Int) * 2 ^ ((m:Int).toNat)=((2 ^ m:Nat):Int):=by rw[ZZ,Int.natCast_pow,Int.one_mul];rfl
 refine⟨m,N,F,by lia,rfl,m1,by lia,fun bs p1 H1 hb hp1 g1 F1 f1=>?_⟩;refine⟨smq rfl,fun l hl=>?_⟩;have hlH:H l=none:=F1.free f1 hl;have lt:l≠t:=F.neT hlH;dsimp only[AT];refine AX (fun Z H'=>∃a:Nat,a < 2 ^ m/\Z=[some (.ref t),some (.int m),some (.int M),some (.ref l),some (.int a),none,none]/\GFeed H' t (N+19)/\Yj t H H'/\H' l=some (.lst [.ref p1])/\H' p1=some (.tup (bs.map V.bl))) ?_ ?_ (by walk_at "sm")
 ·refine⟨⟨by lia,by lia,by decide⟩,?_⟩;rw[em];have F2:=F1.upd (o:=.lst [.ref p1]) hl;refine⟨_,F2,by lia,Av (by lia) (by lia),fun a H3 a0 a1 F3 f3=>?_⟩;have f2:Yj t H1 (upd H1 l (.lst [.ref p1])):=Yj.upd hl;have n1:p1≠t:=F.neT hp1;have nl:p1≠l:=fun e=>by rw[e,hl]at g1;cases g1
  refine⟨a.toNat,by lia,?_,F3,f1.trans (f2.trans (Ai f3)),by rw[f3 l lt,AD],by rw[f3 p1 n1,AJ nl];exact g1⟩;rw[ZBs a0];rfl
 rintro Z H2 ⟨a,ha,rfl,F2,f2,gl2,gp2⟩;have hbl:(bs.map V.bl).length=2 ^ m:=by rw[ZB];exact hb
 have hix:atI (bs.map V.bl) (a:Int)=some (.bl (bs.getD a false)):=AW rfl (by rw[ZP,ZN,ZD (show a < bs.length by lia)];rfl);refine AX (fun Z H'=>∃(ts:List (List Bool)) (xs:List V) (z5 z6:Option V),Z=[some (.ref t),some (.int m),some (.int M),some (.ref l),some (.int a),z5,z6]/\2<=ts.length/\ts.length<=M/\(∀b∈ts,b.length=2 ^ m)/\H' l=some (.lst xs)/\Yc K H' (Ab ts) xs/\GFeed H' t (N+19)/\Yj t H H') ?_ ?_ (by walk_at "sm")
 ·refine⟨.inl ⟨rfl,_,.of gl2⟩,?_⟩;refine⟨_,_,.inl (.of gl2),rfl,?_⟩;refine⟨(a:Int),rfl,_,.of gp2,fun q1 H3 S3 t3=>?_⟩;rw[Sg _ a (by lia)]at t3;refine⟨_,_,.inl (.of (S3 _ _ gl2)),rfl,_,_,.inr (.of (S3 _ _ gp2)),hix,?_⟩;refine⟨smq rfl,fun q2 hq2=>?_⟩;have S4:Yb H3 (upd H3 q2 (.tup [.bl (!bs.getD a false)])):=Yb.upd hq2;have t4:Yp K (upd H3 q2 (.tup [.bl (!bs.getD a false)])) q2 [.bl (!bs.getD a false)]:=.of AD;generalize upd H3 q2 (.tup [.bl (!bs.getD a false)])=H4 at *;refine .inr ⟨_,_,S4.sqT t3,t4,CZ (by rw[ZW];show _+1<=1000;lia),fun q3 H5 S5 t5=>?_⟩;have S25:=S3.trans (S4.trans S5);refine⟨_,_,.inl (.of (S25 _ _ gl2)),rfl,?_⟩;refine⟨(a+1:Nat),rfl,_,.of (S25 _ _ gp2),fun q4 H6 S6 t6=>?_⟩;rw[Ti _ (a+1) (by lia)]at t6;refine .inr ⟨_,_,S6.sqT t5,t6,CZ (by rw[ZM,ZW,ZBC];show _+1+_<=1000;lia),fun q5 H7 S7 t7=>?_⟩;have S27:=S25.trans (S6.trans S7);generalize hcs:bs.take a++(!bs.getD a false)::bs.drop (a+1)=cs
  have ecs:(bs.map V.bl).take a++[V.bl (!bs.getD a false)]++(bs.map V.bl).drop (a+1)=cs.map V.bl:=by
   rw[<- hcs,ZF,Za,List.map_take,List.map_drop,ZBo];rfl
  have hcl:cs.length=2 ^ m:=by
   rw[<- hcs,ZM,Zi,ZW,ZBC];lia
  rw[ecs]at t7;refine⟨_,S27 _ _ gl2,Ag (show 1<=1000 by decide),?_⟩;have fr:Yj l H7 (upd H7 l (.lst ([.ref p1]++[.ref q5]))):=Yj.updT;have R7:Yc K H7 (Ab [bs,cs]) [.ref p1,.ref q5]:=AU (BL (S27 _ _ gp2) (Bx bs)) (AU (by unfold Yf;exact⟨q5,_,rfl,t7,Bx cs⟩) Ad);refine⟨[bs,cs],_,_,_,rfl,ZE 2,M2,?_,AD,Yc.frm fr ⟨_,S27 _ _ gl2⟩ _ _ (CW _) R7,?_,?_⟩
  ·intro b hb'
   rcases ZH.mp hb' with rfl | hb'
   ·exact hb
   ·rcases ZH.mp hb' with rfl | hb'
    ·exact hcl
    ·cases hb'
  ·exact(F2.same S27).put lt (S27 _ _ gl2) fun ns hn e=>by
    cases ns with
    | nil=>exact hn rfl
    | cons _ _=>cases e
  ·exact Ds (f2.trans fun b o _ e=>S27 b o e) hlH
 rintro Z H3 ⟨ts,xs,z5,z6,rfl,t2,tM,tb,gl3,R3,F3,f3⟩;refine AX (fun Z H'=>∃(ts:List (List Bool)) (xs:List V) (z5 z6:Option V),Z=[some (.ref t),some (.int m),some (.int M),some (.ref l),some (.int a),z5,z6]/\2<=ts.length/\ts.length<=M/\(∀b∈ts,b.length=2 ^ m)/\H' l=some (.lst xs)/\Yc K H' (Ab ts) xs/\GFeed H' t (N+400)/\Yj t H H') ?_ ?_ (by walk_at "sm")
 ·refine⟨.inr (.inl ⟨by decide,by decide⟩),2 * (M:Int),rfl,by lia,by lia,?_⟩;refine C3 (fun i Z H'=>∃(ts:List (List Bool)) (xs:List V) (z5 z6:Option V),Z=[some (.ref t),some (.int m),some (.int M),some (.ref l),some (.int a),z5,z6]/\2<=ts.length/\ts.length<=M/\(∀b∈ts,b.length=2 ^ m)/\H' l=some (.lst xs)/\Yc K H' (Ab ts) xs/\GFeed H' t (N+19+19 * i)/\Yj t H H') ⟨ts,xs,z5,z6,rfl,t2,tM,tb,gl3,R3,F3,f3⟩ ?_ ?_
  ·rintro i Z H4 hi ⟨ts,xs,z5,z6,rfl,t2,tM,tb,gl4,R4,F4,f4⟩;have hxl:xs.length=ts.length:=by rw[<- R4.length,Dj]
   refine⟨m,_,F4,by lia,rfl,m1,by lia,fun bs2 p2 H5 hb2 hp2 g2 F5 f5=>?_⟩;have R5:Yc K H5 (Ab ts) xs:=Yc.frm f5 F4.lst _ _ (CW _) R4;have gl5:H5 l=some (.lst xs):=f5 _ _ lt gl4;dsimp only[AT]
   have stay:∃(ts:List (List Bool)) (xs:List V) (z5' z6':Option V),[some (V.ref t),some (.int m),some (.int M),some (.ref l),some (.int a),some (.int (0+i)),some (.ref p2)]=[some (.ref t),some (.int m),some (.int M),some (.ref l),some (.int a),z5',z6']/\2<=ts.length/\ts.length<=M/\(∀b∈ts,b.length=2 ^ m)/\H5 l=some (.lst xs)/\Yc K H5 (Ab ts) xs/\GFeed H5 t (N+19+19 * (i+1))/\Yj t H H5 :=
    ⟨ts,xs,_,_,rfl,t2,tM,tb,gl5,R5,F5.mono (by lia),f4.trans f5⟩
   have ep2:Yf K H5 (.tup (bs2.map Dv.bl)) (.ref p2):=BL g2 (Bx bs2);refine⟨_,.inl ⟨_,.of gl5,rfl⟩,?_⟩;refine Ak (fun e=>?_) (fun e=>stay);have e':(xs.length:Int) < (M:Int):=ZR e;refine⟨_,_,_,.inl (.of gl5),R5,ep2,XB ts,?_⟩;refine Ak (fun e=>?_) (fun e=>stay);refine⟨.inl ⟨rfl,_,.of gl5⟩,?_⟩;refine⟨_,.inl ⟨_,.of gl5,rfl⟩,?_⟩;refine⟨_,F5,by lia,Av (by lia) (Int.le_trans (show(xs.length:Int)+1<=7 by lia) (by decide)),fun d H6 d0 d1 F6 f6=>?_⟩;have gl6:H6 l=some (.lst xs):=by rw[f6 l lt];exact gl5
   refine⟨xs,gl6,d0,by lia,by lia,?_⟩;have R6:Yc K H6 (Ab ts) xs:=Yc.frm (Ai f6) F5.lst _ _ (CW _) R5;have ep6:Yc K H6 [.tup (bs2.map Dv.bl)] [.ref p2]:=AU (BL (by rw[f6 p2 (F4.neT hp2)];exact g2) (Bx bs2)) Ad
   have R7:Yc K H6 (Ab (ts.take d.toNat++bs2::ts.drop d.toNat)) (xs.take d.toNat++.ref p2::xs.drop d.toNat):=by
    rw[O2];exact Yc.append (ND _ R6) (Yc.append ep6 (NO _ R6))
   refine⟨_,_,_,_,rfl,?_,?_,?_,AD,Yc.frm Yj.updT ⟨_,gl6⟩ _ _ (CW _) R7,(F6.put lt gl6 (HR R6)).mono (by lia),Ds (f4.trans (f5.trans (Ai f6))) hlH⟩
   ·rw[ZM,Zi,ZW,ZBC];lia
   ·rw[ZM,Zi,ZW,ZBC];lia
   ·intro b hb'
    rcases Zb.mp hb' with h | h
    ·exact tb b (List.mem_of_mem_take h)
    ·rcases ZH.mp h with rfl | h
     ·exact hb2
     ·exact tb b (List.mem_of_mem_drop h)
  ·rintro Z H4 ⟨ts,xs,z5,z6,rfl,t2,tM,tb,gl4,R4,F4,f4⟩;exact⟨ts,xs,z5,z6,rfl,t2,tM,tb,gl4,R4,F4.mono (by lia),f4⟩
 rintro Z H4 ⟨ts,xs,z5,z6,rfl,t2,tM,tb,gl4,R4,F4,f4⟩;exact q ts xs l H4 t2 tM tb hlH gl4 R4 F4 f4
theorem MK:∀(cs:List Bool) (zs:List V),Yc K H (cs.map Dv.bl) zs->zs=cs.map V.bl
 | [],zs,h=>by
  have h':Yc K H [] zs:=h;unfold Yc at h';exact h'
 | c::cs,zs,h=>by
  have h':Yc K H (Dv.bl c::cs.map Dv.bl) zs:=h;unfold Yc at h';obtain⟨x,r,rfl,h1,h2⟩:=h';unfold Yf at h1;rw[h1,MK cs r h2];rfl
theorem GA:∀ns:List Int,Yc K H (ns.map Dv.int) (ns.map V.int)
 | []=>Ad
 | _::ns=>AU IY (GA ns)
noncomputable def JF(K:W.Frag):Sp:=fun vs H Q _=>match vs with
 | [.ref l]=>∃(ts:List (List Bool)) (xs:List V) (M:Nat),H l=some (.lst xs)/\Yc K H (Ab ts) xs/\2<=ts.length/\ts.length<=6/\(∀b∈ts,b.length=M)/\1<=M/\M<=8/\∀ls rs u H',Gm ls rs->Yb H H'->Yf K H' (gmD ls rs) u->Q u H'
 | _=>False
theorem Vw:Xp P w base T.z31 1 (JF K):=by
 refine T.z31.F.ok sc_z31 (fun vs H Q E h=>by unfold JF at h;walk_at "e") ?_;walk_at "f";unfold JF at h;walk_at "g"
 rename_i l;obtain⟨ts,xs,M,gl,R,t2,t6,tb,M1,M8,q⟩:=h;refine⟨_,(@AF _ _ _ _ _ (@Da _ _ _ _ _ _ _ (["_law_k","_law_tables"]) 1 [0] _ _ _ _ 1 _ _ _ rfl sc_z31.nd rfl rfl (BC rfl T.z_range (AA (Aa (As (K:=K)) rfl T.z_len (by rfl) (AA (Yl (K:=K) (vv 0) AC) AB)) AB)) (by kernel_rfl) rfl rfl (by kernel_rfl) (fun c=>AO (i:=0) (show(["_law_k","_law_tables"]:List Str).Nodup by decide +kernel) rfl (by right)) (Ac (by decide)) (fun c=>Am) (fun c=>(At (A8 (K:=K)) rfl T.z_tuple (by rfl) (AA (Ap (N':=["_law_table_here","_law_k"]) (own:=1) (ix:=[0]) rfl (BF (K:=K) (vv 1)) (by kernel_rfl) rfl rfl (by kernel_rfl) (fun c=>AO (i:=0) (show(["_law_table_here","_law_k"]:List Str).Nodup by decide +kernel) rfl (by right)) (Ac (by decide)) (fun c=>Am) (fun c=>(Yl (K:=K) (vv 0) (vv 1)))) AB))) (by rfl) (by intro _;rfl)) (@AH _ _ _ (@AL _ _ _ _ (BD (AA (At (A8 (K:=K)) rfl T.z_tuple (by rfl) (AA (@Ap _ _ _ _ _ _ _ ["_law_k"] 1 [] _ _ _ _ rfl (BC rfl T.z_range (AA (Aa (As (K:=K)) rfl T.z_len (by rfl) (AA (vv 0) AB)) AB)) (by kernel_rfl) rfl rfl (by kernel_rfl) (fun c=>AO (i:=0) (show(["_law_k"]:List Str).Nodup by decide +kernel) rfl (by right)) (Ac (by decide)) (fun c=>Am) (fun c=>(vv 0)) (by intro _;rfl)) AB)) (AA (At (A8 (K:=K)) rfl T.z_tuple (by rfl) (AA (vv 1) AB)) AB)))))),?_⟩;have hxl:xs.length=ts.length:=by rw[<- R.length,Dj]
 have at_:∀(j:Nat) (x:V),xs[j]? = some x->∃(a:Addr) (bs:List Bool),x=.ref a/\Yp K H a (bs.map V.bl)/\bs.length=M:=by
  intro j x hx;have hj:j < ts.length:=by have:=(Zf.mp hx).1;lia
  obtain⟨y,h1,h2⟩:=R.get (i:=j) (d:=.tup (ts[j].map Dv.bl)) (by unfold Ab;rw[ZP,ZD hj];rfl);rw[hx]at h1;cases h1;unfold Yf at h2;obtain⟨a,zs,rfl,h3,h4⟩:=h2;rw[MK _ _ h4]at h3;exact⟨a,ts[j],rfl,h3,tb _ (Zc hj)⟩
 obtain⟨x0,hx0⟩:∃x,xs[0]? = some x:=⟨_,ZD (show 0 < xs.length by lia)⟩;obtain⟨a0,bs0,rfl,q0,l0⟩:=at_ 0 _ hx0;refine⟨_,_,.inl (.of gl),AW (n:=0) rfl hx0,_,.inr ⟨_,q0,rfl⟩,?_⟩;rw[ZB,l0];refine⟨(M:Int),rfl,by lia,by lia,?_⟩
 refine BW (fun i ys H'=>Yb H H'/\∃rs:List (List Bool),rs.length=i/\(∀r∈rs,r.length=ts.length)/\Yc K H' (Ab rs) ys) ⟨fun _ _ e=>e,[],rfl,nofun,Ad⟩ (fun i ys H' hi ⟨_,rs,e,_,R'⟩=>by
  rw[<- R'.length,Dj];exact Ag (by lia)) ?_ ?_
 ·rintro i ys H1 hi ⟨S1,rs,rfl,hr1,R1⟩;refine .inl ⟨⟨_,.of (S1 _ _ gl)⟩,?_⟩
  refine DO (xs:=xs) (fun j zs H'=>H'=H1/\∃bs:List Bool,zs=bs.map V.bl/\bs.length=j) ⟨rfl,[],rfl,rfl⟩ (fun j zs H' _ ⟨e,_⟩=>by rw[e];exact .of (S1 _ _ gl)) (fun j zs H' hj ⟨_,bs,e,el⟩=>by
   rw[e,ZB,el];exact Ag (by lia)) ?_ ?_
  ·rintro j x zs H' hx ⟨rfl,bs,rfl,rfl⟩;obtain⟨a,cs,rfl,h1,h2⟩:=at_ _ _ hx;refine⟨_,_,.inr (S1.sqT h1),AW (n:=rs.length) (by lia) (by rw[ZP,ZD (show rs.length < cs.length by lia)];rfl),?_⟩;exact⟨rfl,bs++[_],by rw[ZF];rfl,by rw[ZM];rfl⟩
  ·rintro zs H' ⟨rfl,bs,rfl,hb⟩ k hk;refine⟨_,.inl ⟨.of AD,fun p hp=>?_⟩⟩;have s3:=(Yb.upd (o:=.lst (bs.map V.bl)) hk).trans (Yb.upd (o:=.tup (bs.map V.bl)) hp);refine⟨S1.trans s3,rs++[bs],by rw[ZM];rfl,?_,?_⟩
   ·intro r hr'
    rcases Zb.mp hr' with h | h
    ·exact hr1 r h
    ·rw[ZO.mp h];lia
   ·have e:Ab (rs++[bs])=Ab rs++[.tup (bs.map Dv.bl)]:=by unfold Ab;rw[ZF];rfl
    rw[e];exact Yc.append (Yc.same s3 _ _ R1) (AU (BL AD (Bx bs)) Ad)
 ·rintro ys H1 ⟨S1,rs,hrl,hr1,R1⟩ k hk;have s2:Yb H1 (upd H1 k (.lst ys)):=Yb.upd hk;have g2:upd H1 k (.lst ys) k=some (.lst ys):=AD;generalize upd H1 k (.lst ys)=H2 at *;dsimp only[AT];refine⟨_,.inl ⟨_,.of (s2 _ _ (S1 _ _ gl)),rfl⟩,(xs.length:Int),rfl,by lia,by lia,?_⟩
  refine BW (fun i ys H'=>H'=H2/\∃ls:List Int,ys=ls.map V.int/\ls.length=i/\∀x∈ls,x.natAbs<=6) ⟨rfl,[],rfl,rfl,nofun⟩ (fun i ys H' hi ⟨_,ls,e,el,_⟩=>by
   rw[e,ZB,el];exact Ag (by lia)) ?_ ?_
  ·rintro i ys H' hi ⟨rfl,ls,rfl,el,hs⟩;refine⟨rfl,ls++[0+(i:Int)],by rw[ZF];rfl,by rw[ZM,el];rfl,?_⟩;intro x hx
   rcases Zb.mp hx with h | h
   ·exact hs x h
   ·rw[ZO.mp h];lia
  ·rintro ys' H' ⟨rfl,ls,rfl,el,hs⟩ k3 hk3;refine⟨_,.inl ⟨.of AD,fun p hp=>?_⟩⟩;have s3:=(Yb.upd (o:=.lst (ls.map V.int)) hk3).trans (Yb.upd (o:=.tup (ls.map V.int)) hp);have g3:upd (upd H' k3 (.lst (ls.map V.int))) p (.tup (ls.map V.int)) p=some (.tup (ls.map V.int)):=AD;generalize upd (upd H' k3 (.lst (ls.map V.int))) p (.tup (ls.map V.int))=H3 at *;refine⟨_,.inl ⟨.of (s3 _ _ g2),fun p4 hp4=>?_⟩⟩;refine⟨smq rfl,fun p5 hp5=>?_⟩;have s5:=(Yb.upd (o:=.tup ys) hp4).trans (Yb.upd (o:=.tup [.ref p,.ref p4]) hp5);refine q ls rs _ _ ⟨by lia,by lia,by lia,by lia,fun r h=>by rw[hr1 r h];lia⟩ (S1.trans (s2.trans (s3.trans s5))) ?_;exact BL AD (AU (BL (s5 _ _ g3) (GA ls)) (AU (BL (Yb.upd hp5 _ _ AD) (Yc.same (s2.trans (s3.trans s5)) _ _ R1)) Ad))
noncomputable def CK(K:W.Frag)(n b:Nat):Sp:=fun vs H Q _=>match vs with
 | [.ref t]=>∃N:Nat,GFeed H t N/\N<=b/\∀ls rs u H',Gm ls rs->Yf K H' (gmD ls rs) u->GFeed H' t (N+n)->Yj t H H'->Q u H'
 | _=>False
theorem Ps{b:Nat}:AR (CK K n b):=fun vs H Q Q' E h q=>by
 unfold CK at *;walk_at "q"
theorem Sm:Xp P w base T.z44 2 (CK K 10 850000000):=by
 have G_z54:=@DF P w K mg base T;have G_z54:=@HB P w K mg base T;refine T.z44.F.ok sc_z44 (fun vs H Q E h=>by unfold CK at h;walk_at "e") ?_;walk_at "f";have hr_z54:=hr.mono (show 1<=_ by decide);unfold CK at h;walk_at "g"
 rename_i t;obtain⟨N,F,hN,q⟩:=h;refine⟨_,(@AF _ _ _ _ _ (@AN _ _ 1 _ _ _ _ sc_z44.nd rfl (by right) (AQ (BA (K:=K)) AC (AI G_z54 hr_z54 rfl T.z54.m T.z54.F.kp T.z54.b .nil AG (AA (vv 0) (AA AC AB)))) (by rfl) (by walk_at "i")) (@AF _ _ _ _ _ (@AN _ _ 2 _ _ _ _ sc_z44.nd rfl (by right) (AI G_z54 hr_z54 rfl T.z54.m T.z54.F.kp T.z54.b .nil AG (AA (vv 0) (AA AC AB))) (by rfl) (by walk_at "i")) (@AF _ _ _ _ _ (@Da _ _ _ _ _ _ _ ["_law_k"] 1 [] _ _ _ _ 3 _ _ _ rfl sc_z44.nd rfl rfl (BC rfl T.z_range (AA (vv 1) AB)) (by kernel_rfl) rfl rfl (by kernel_rfl) (fun c=>AO (i:=0) (show(["_law_k"]:List Str).Nodup by decide +kernel) rfl (by right)) (Ac (by decide)) (fun c=>Am) (fun c=>(vv 0)) (by rfl) (by intro _;rfl)) (@AF _ _ _ _ _ (@Ao _ _ _ _ _ _ _ _ (Ae (kEq (K:=K) hu) (AI G_z54 hr_z54 rfl T.z54.m T.z54.F.kp T.z54.b .nil AG (AA (vv 0) (AA AC AB))) AC) (@AH _ _ _ (@Cp _ _ _ _ _ _ (AI G_z54 hr_z54 rfl T.z54.m T.z54.F.kp T.z54.b .nil AG (AA (vv 0) (AA (vv 1) AB))) (Em (vv 3) (AI G_z54 hr_z54 rfl T.z54.m T.z54.F.kp T.z54.b .nil AG (AA (vv 0) (AA (vv 1) AB))) Eo) (by rfl) (by rfl) (by rfl))) An) (@AF _ _ _ _ _ (@Da _ _ _ _ _ _ _ (["_law_one","_law_many"]) 1 [1] _ _ _ _ 4 _ _ _ rfl sc_z44.nd rfl rfl (HY rfl T.z_range (AA (vv 2) (AA (vv 1) AB))) (by kernel_rfl) rfl rfl (by kernel_rfl) (fun c=>AO (i:=0) (show(["_law_one","_law_many"]:List Str).Nodup by decide +kernel) rfl (by right)) (Ac (by decide)) (fun c=>Am) (fun c=>(At (A8 (K:=K)) rfl T.z_tuple (by rfl) (AA (Ap (N':=["_law_k","_law_one"]) (own:=1) (ix:=[0]) rfl (BC rfl T.z_range (AA (vv 1) AB)) (by kernel_rfl) rfl rfl (by kernel_rfl) (fun c=>AO (i:=0) (show(["_law_k","_law_one"]:List Str).Nodup by decide +kernel) rfl (by right)) (Ac (by decide)) (fun c=>Am) (fun c=>(A7 (kEq (K:=K) hu) (vv 0) (vv 1)))) AB))) (by rfl) (by intro _;rfl)) (@AH _ _ _ (@AL _ _ _ _ (BD (AA (At (A8 (K:=K)) rfl T.z_tuple (by rfl) (AA (vv 3) AB)) (AA (At (A8 (K:=K)) rfl T.z_tuple (by rfl) (AA (vv 4) AB)) AB)))))))))),?_⟩;obtain⟨c,F⟩:=F.told;refine⟨c,N,F,by lia,Av (by decide) (by decide),fun d1 H1 a0 a1 F1 f1=>?_⟩;dsimp only[AT,ET];obtain⟨M,rfl⟩:∃M:Nat,d1=M:=⟨d1.toNat,by lia⟩;refine⟨c,_,F1,by lia,Av (by decide) (by decide),fun d2 H2 b0 b1 F2 f2=>?_⟩;dsimp only[AT];have f2':Yj t H H2:=(Ai f1).trans (Ai f2);refine AX (fun Z H'=>∃(l:Addr) (ls:List Int),Z=[some (.ref t),some (.int (2+M)),some (.int d2),some (.ref l),none]/\H l=none/\l≠t/\l≠c/\H' l=some (.lst (ls.map V.int))/\ls.length=M+2/\(∀x∈ls,x.natAbs<=10)/\GFd H' t c (N+2)/\Yj t H H') ?_ ?_ (by walk_at "sm")
 ·refine⟨(2+M:Int),rfl,by lia,by lia,?_⟩
  refine BW (fun i ys H'=>H'=H2/\∃ls:List Int,ys=ls.map V.int/\ls.length=i/\∀x∈ls,x.natAbs<=10) ⟨rfl,[],rfl,rfl,nofun⟩ (fun i ys H' hi ⟨_,ls,e,el,_⟩=>by
   rw[e,ZB,el];exact Ag (by lia)) ?_ ?_
  ·rintro i ys H' hi ⟨rfl,ls,rfl,el,hs⟩;refine⟨rfl,ls++[0+(i:Int)],by rw[ZF];rfl,by rw[ZM,el];rfl,?_⟩;intro x hx
   rcases Zb.mp hx with h | h
   ·exact hs x h
   ·rw[ZO.mp h];lia
  ·rintro ys H' ⟨rfl,ls,rfl,el,hs⟩ l hl;have Yv:=F2.ne hl;exact⟨l,ls,rfl,F2.feed.free f2' hl,Yv.1,Yv.2,AD,by lia,hs,F2.upd hl,f2'.trans (Yj.upd hl)⟩
 rintro Z H3 ⟨l,ls,rfl,hl,lt,lc,gl3,ll,hs,F3,f3⟩;refine AX (fun Z H'=>∃(ls:List Int),Z=[some (.ref t),some (.int (2+M)),some (.int d2),some (.ref l),none]/\H' l=some (.lst (ls.map V.int))/\ls.length=M+2/\(∀x∈ls,x.natAbs<=10)/\GFeed H' t (N+10)/\Yj t H H') ?_ ?_ (by walk_at "sm")
 ·refine⟨c,_,F3,by lia,Av (by decide) (by decide),fun d3 H4 _ _ F4 f4=>?_⟩;have gl4:H4 l=some (.lst (ls.map V.int)):=by rw[f4 l lt];exact gl3
  refine Ak (fun e=>?_) (fun e=>⟨ls,rfl,gl4,ll,hs,F4.feed.mono (by lia),f3.trans (Ai f4)⟩);refine⟨c,_,F4,by lia,Av (by lia) (by lia),fun d4 H5 p0 p1 F5 f5=>?_⟩;refine⟨c,_,F5,by lia,Av (by lia) (by lia),fun d5 H6 q0 q1 F6 f6=>?_⟩;have gl6:H6 l=some (.lst (ls.map V.int)):=by rw[f6 l lt,f5 l lt];exact gl4
  have hd5:ixN (ls.map V.int).length d5=some d5.toNat:=by
   rw[ZB];unfold ixN;rw[if_pos (by lia),if_pos (by lia)]
  refine⟨_,_,gl6,hd5,ls.set d5.toNat d4,rfl,by rw[AD,List.map_set],by rw[ZBS];exact ll,?_,(F6.put ⟨lt,lc⟩).feed.mono (by lia),Ds (f3.trans ((Ai f4).trans ((Ai f5).trans (Ai f6)))) hl⟩;intro x hx
  rcases List.mem_or_eq_of_mem_set hx with h | h
  ·exact hs x h
  ·rw[h];lia
 rintro Z H4 ⟨ls,rfl,gl4,ll,hs,F4,f4⟩;have n0:(0:Int)<=2+M - d2:=by lia
 refine⟨d2,2+M,rfl,⟨by lia,by lia,by lia,by lia⟩,?_⟩;obtain⟨W,hW,w1,w7⟩:∃W:Nat,(2+(M:Int) - d2).toNat=W/\1<=W/\W<=7:=⟨_,rfl,by lia,by lia⟩;rw[hW]
 refine BW (fun i ys H'=>Yb H4 H'/\∃rs:List (List Bool),rs.length=i/\(∀r∈rs,r.length=M+2)/\Yc K H' (Ab rs) ys) ⟨fun _ _ e=>e,[],rfl,nofun,Ad⟩ (fun i ys H' hi ⟨_,rs,e,_,R'⟩=>by
  rw[<- R'.length,Dj];exact Ag (by lia)) ?_ ?_
 ·rintro i ys H1 hi ⟨S1,rs,rfl,hr1,R1⟩;refine⟨(2+M:Int),rfl,by lia,by lia,?_⟩
  refine BW (fun j zs H'=>H'=H1/\∃bs:List Bool,zs=bs.map V.bl/\bs.length=j) ⟨rfl,[],rfl,rfl⟩ (fun j zs H' hj ⟨_,bs,e,el⟩=>by
   rw[e,ZB,el];exact Ag (by lia)) ?_ ?_
  ·rintro j zs H' hj ⟨rfl,bs,rfl,rfl⟩;exact⟨rfl,bs++[_],by rw[ZF];rfl,by rw[ZM];rfl⟩
  ·rintro zs H' ⟨rfl,bs,rfl,hb⟩ k hk;refine⟨_,.inl ⟨.of AD,fun p hp=>?_⟩⟩;have s3:=(Yb.upd (o:=.lst (bs.map V.bl)) hk).trans (Yb.upd (o:=.tup (bs.map V.bl)) hp);refine⟨S1.trans s3,rs++[bs],by rw[ZM];rfl,?_,?_⟩
   ·intro r hr'
    rcases Zb.mp hr' with h | h
    ·exact hr1 r h
    ·rw[ZO.mp h];lia
   ·have e:Ab (rs++[bs])=Ab rs++[.tup (bs.map Dv.bl)]:=by unfold Ab;rw[ZF];rfl
    rw[e];exact Yc.append (Yc.same s3 _ _ R1) (AU (BL AD (Bx bs)) Ad)
 ·rintro ys H1 ⟨S1,rs,hrl,hr1,R1⟩ k hk;have s2:Yb H1 (upd H1 k (.lst ys)):=Yb.upd hk;have g2:upd H1 k (.lst ys) k=some (.lst ys):=AD;generalize upd H1 k (.lst ys)=H2' at *;dsimp only[AT];refine⟨_,.inl ⟨.of (s2 _ _ (S1 _ _ gl4)),fun p hp=>?_⟩⟩;have s3:Yb H2' (upd H2' p (.tup (ls.map V.int))):=Yb.upd hp;have g3:upd H2' p (.tup (ls.map V.int)) p=some (.tup (ls.map V.int)):=AD;generalize upd H2' p (.tup (ls.map V.int))=H3' at *;refine⟨_,.inl ⟨.of (s3 _ _ g2),fun p4 hp4=>?_⟩⟩;refine⟨smq rfl,fun p5 hp5=>?_⟩;have s5:=(Yb.upd (o:=.tup ys) hp4).trans (Yb.upd (o:=.tup [.ref p,.ref p4]) hp5);have S5:=S1.trans (s2.trans (s3.trans s5));refine q ls rs _ _ ⟨by lia,by lia,by lia,by lia,fun r h=>by rw[hr1 r h];lia⟩ ?_ (F4.same S5) (f4.trans fun b o _ e=>S5 b o e);exact BL AD (AU (BL (s5 _ _ g3) (GA ls)) (AU (BL (Yb.upd hp5 _ _ AD) (Yc.same (s2.trans (s3.trans s5)) _ _ R1)) Ad))
theorem Kl{ns:List Int}{i lo hi:Int}(h0:0<=i)(h1:i < ns.length)(h:∀x∈ns,lo<=x/\x<=hi):∃z,atI (ns.map V.int) i=some (.int z)/\lo<=z/\z<=hi:=by
 have hi':i.toNat < ns.length:=by lia
 exact⟨ns[i.toNat],AW (n:=i.toNat) (by lia) (by rw[ZP,ZD hi'];rfl),h _ (Zc hi')⟩
theorem Qy{a b c:V}{i:Int}(h0:0<=i)(h1:i < 3):∃z,atI [a,b,c] i=some z/\(z=a\/z=b\/z=c):=by
 obtain⟨n,rfl⟩:∃n:Nat,i=n:=⟨i.toNat,by lia⟩
 match n,h1 with
 | 0,_=>exact⟨a,rfl,.inl rfl⟩
 | 1,_=>exact⟨b,rfl,.inr (.inl rfl)⟩
 | 2,_=>exact⟨c,rfl,.inr (.inr rfl)⟩
 | n+3,h=>lia
theorem TY:Xp P w base T.z37 2 (CK K 300 850000000):=by
 have G_z54:=@DF P w K mg base T;refine T.z37.F.ok sc_z37 (fun vs H Q E h=>by unfold CK at h;walk_at "e") ?_;walk_at "f";have hr_z54:=hr.mono (show 1<=_ by decide);unfold CK at h;walk_at "g"
 rename_i t;obtain⟨N,F,hN,q⟩:=h;refine⟨_,(@AF _ _ _ _ _ (@AN _ _ 1 _ _ _ _ sc_z37.nd rfl (by right) (@BK _ _ _ _ (AA (AQ (BA (K:=K)) AC (AI G_z54 hr_z54 rfl T.z54.m T.z54.F.kp T.z54.b .nil AG (AA (vv 0) (AA AC AB)))) (AA (AQ (BA (K:=K)) AC (AI G_z54 hr_z54 rfl T.z54.m T.z54.F.kp T.z54.b .nil AG (AA (vv 0) (AA AC AB)))) (AA (AQ (BA (K:=K)) AC (AI G_z54 hr_z54 rfl T.z54.m T.z54.F.kp T.z54.b .nil AG (AA (vv 0) (AA AC AB)))) (AA (AQ (BA (K:=K)) AC (AI G_z54 hr_z54 rfl T.z54.m T.z54.F.kp T.z54.b .nil AG (AA (vv 0) (AA AC AB)))) AB))))) (by rfl) (by walk_at "i")) (@AF _ _ _ _ _ (@AN _ _ 1 _ _ _ _ sc_z37.nd rfl (by right) (Yl (K:=K) (vv 1) (AI G_z54 hr_z54 rfl T.z54.m T.z54.F.kp T.z54.b .nil AG (AA (vv 0) (AA AC AB)))) (by rfl) (by walk_at "i")) (@AF _ _ _ _ _ (@AN _ _ 2 _ _ _ _ sc_z37.nd rfl (by right) (Yl (K:=K) (@BK _ _ _ _ (AA (AQ (BA (K:=K)) AC (AI G_z54 hr_z54 rfl T.z54.m T.z54.F.kp T.z54.b .nil AG (AA (vv 0) (AA AC AB)))) (AA (AQ (BA (K:=K)) AC (AI G_z54 hr_z54 rfl T.z54.m T.z54.F.kp T.z54.b .nil AG (AA (vv 0) (AA AC AB)))) (AA (AQ (BA (K:=K)) AC (AI G_z54 hr_z54 rfl T.z54.m T.z54.F.kp T.z54.b .nil AG (AA (vv 0) (AA AC AB)))) AB)))) (AI G_z54 hr_z54 rfl T.z54.m T.z54.F.kp T.z54.b .nil AG (AA (vv 0) (AA AC AB)))) (by rfl) (by walk_at "i")) (@AF _ _ _ _ _ (@WJ _ _ 3 _ _ _ _ sc_z37.nd rfl (by right) (@Yl _ K _ _ _ _ _ (@BK _ _ _ _ (@AA _ _ _ _ _ (@BK _ _ _ _ (@AA _ _ _ _ _ AC (@pa1 _ _ _ AC (by rfl)) (by rfl))) (@AA _ _ _ _ _ (@BK _ _ _ _ (@AA _ _ _ _ _ (OP N2 AC) (@AA _ _ _ _ _ (AQ OL AC AC) (@pa1 _ _ _ AC (by rfl)) (by rfl)) (by rfl))) (@AA _ _ _ _ _ (@BK _ _ _ _ (@AA _ _ _ _ _ AC (@AA _ _ _ _ _ AC (@AA _ _ _ _ _ AC (@AA _ _ _ _ _ AC (@AA _ _ _ _ _ AC (@AA _ _ _ _ _ AC (@AA _ _ _ _ _ AC (@AA _ _ _ _ _ AC (@AA _ _ _ _ _ AC (@pa1 _ _ _ AC (by rfl)) (by rfl)) (by rfl)) (by rfl)) (by rfl)) (by rfl)) (by rfl)) (by rfl)) (by rfl)) (by rfl))) (@AB _) L2.star_lst) L2.star_lst) L2.star_lst)) (AI G_z54 hr_z54 rfl T.z54.m T.z54.F.kp T.z54.b .nil AG (AA (vv 0) (AA AC AB))) (by intro _ _;rfl) (by rfl)) rfl (by first | exact .inl rfl | exact .inr rfl)) (@AF _ _ _ _ _ (@Da _ _ _ _ _ _ _ (["_law_k","_law_names","_law_feed_here"]) 1 ([3,0]) _ _ _ _ 4 _ _ _ rfl sc_z37.nd rfl rfl (BC rfl T.z_range (AA (vv 1) AB)) (by kernel_rfl) rfl rfl (by kernel_rfl) (fun c=>AO (i:=0) (show(["_law_k","_law_names","_law_feed_here"]:List Str).Nodup by decide +kernel) rfl (by right)) (Ac (by decide)) (fun c=>Am) (fun c=>(Yl (K:=K) (vv 1) (AI G_z54 hr_z54 rfl T.z54.m T.z54.F.kp T.z54.b .nil AG (AA (vv 2) (AA (Aa (As (K:=K)) rfl T.z_len (by rfl) (AA (vv 1) AB)) AB))))) (by rfl) (by intro _;rfl)) (@AF _ _ _ _ _ (@AN _ _ 5 _ _ _ _ sc_z37.nd rfl (by right) (@BK _ _ _ _ AB) (by rfl) (by walk_at "i")) (@AF _ _ _ _ _ (@Be _ _ _ _ _ _ _ _ PassesOwn.never rfl (BC rfl T.z_range (AA (vv 2) AB)) (AO (i:=6) sc_z37.nd rfl (by right)) (@AH _ _ _ (@CP _ _ _ _ (Fb (K:=K) (vv 5) (AA (At (A8 (K:=K)) rfl T.z_tuple (by rfl) (AA (Ap (N':=["_law_thing","_law_feed_here"]) (own:=1) (ix:=[0]) rfl (BC rfl T.z_range (AA (vv 1) AB)) (by kernel_rfl) rfl rfl (by kernel_rfl) (fun c=>AO (i:=0) (show(["_law_thing","_law_feed_here"]:List Str).Nodup by decide +kernel) rfl (by right)) (Ac (by decide)) (fun c=>Am) (fun c=>(A7 (kEq (K:=K) hu) (AI G_z54 hr_z54 rfl T.z54.m T.z54.F.kp T.z54.b .nil AG (AA (vv 1) (AA AC AB))) AC))) AB)) AB)) (by rfl))) (by intro _;rfl)) (@AH _ _ _ (@AL _ _ _ _ (BD (AA (At (A8 (K:=K)) rfl T.z_tuple (by rfl) (AA (vv 4) AB)) (AA (At (A8 (K:=K)) rfl T.z_tuple (by rfl) (AA (vv 5) AB)) AB)))))))))))),?_⟩;have d4:okDiv 4:=Av (by decide) (by decide);have d5:okDiv 5:=Av (by decide) (by decide);have d6:okDiv 6:=Av (by decide) (by decide);have d3:okDiv 3:=Av (by decide) (by decide);have d16:okDiv 16:=Av (by decide) (by decide);refine AX (fun Z H'=>∃(l:Addr) (a b c d:Int),Z=[some (.ref t),some (.ref l),none,none,none,none,none]/\H' l=some (.lst ([a,b,c,d].map V.int))/\l≠t/\(∀x∈[a,b,c,d],1<=x/\x<=10)/\GFeed H' t (N+4)/\Yj t H H') ?_ ?_ (by walk_at "sm")
 ·refine⟨_,F,by lia,d6,fun a H1 a0 a1 F1 f1=>?_⟩;refine⟨_,F1,by lia,d6,fun b H2 b0 b1 F2 f2=>?_⟩;refine⟨_,F2,by lia,d6,fun c H3 c0 c1 F3 f3=>?_⟩;refine⟨_,F3,by lia,d4,fun d H4 d0 d1 F4 f4=>?_⟩;refine⟨smq rfl,fun l hl=>?_⟩;refine⟨l,1+a,2+b,2+c,7+d,rfl,AD,F4.neT hl,?_,F4.upd hl,(((Ai f1).trans (Ai f2)).trans ((Ai f3).trans (Ai f4))).trans (Yj.upd hl)⟩;simp only[ZH,ZBw,or_false];lia
 rintro Z H1 ⟨l,a,b,c,d,rfl,gl,lt,hb,F1,f1⟩;refine AX (fun Z H'=>∃M:Nat,Z=[some (.ref t),some (.int M),none,none,none,none,none]/\1<=M/\M<=10/\GFeed H' t (N+5)/\Yj t H H') ?_ ?_ (by walk_at "sm")
 ·refine⟨_,F1,by lia,d4,fun i H2 i0 i1 F2 f2=>?_⟩;obtain⟨z,hz,z1,z2⟩:=Kl (ns:=[a,b,c,d]) i0 i1 hb;refine⟨_,_,.inl (.of (by rw[f2 l lt];exact gl)),hz,z.toNat,?_,by lia,by lia,F2,f1.trans (Ai f2)⟩;rw[ZBs (by lia)];rfl
 clear gl lt hb F1 f1;rintro Z H1 ⟨M,rfl,M1,M10,F1,f1⟩;refine AX (fun Z H'=>∃W:Nat,Z=[some (.ref t),some (.int M),some (.int W),none,none,none,none]/\1<=W/\W<=16/\GFeed H' t (N+9)/\Yj t H H') ?_ ?_ (by walk_at "sm")
 ·refine⟨_,F1,by lia,d5,fun a H2 a0 a1 F2 f2=>?_⟩;refine⟨_,F2,by lia,d4,fun b H3 b0 b1 F3 f3=>?_⟩;refine⟨_,F3,by lia,d16,fun c H4 c0 c1 F4 f4=>?_⟩;refine⟨smq rfl,fun l hl=>?_⟩;have F5:=F4.upd (o:=.lst [.int (1+a),.int (2+b),.int (1+c)]) hl;refine⟨_,F5,by lia,d3,fun i H6 i0 i1 F6 f6=>?_⟩
  obtain⟨z,hz,z1,z2⟩:=Kl (ns:=[1+a,2+b,1+c]) (lo:=1) (hi:=16) i0 i1 (by
   simp only[ZH,ZBw,or_false];lia)
  refine⟨_,_,.inl (.of (by rw[f6 l (F4.neT hl)];exact AD)),hz,z.toNat,?_,by lia,by lia,F6.mono (by lia),f1.trans (((Ai f2).trans ((Ai f3).trans (Ai f4))).trans ((Yj.upd hl).trans (Ai f6)))⟩;rw[ZBs (by lia)];rfl
 clear F1 f1;rintro Z H1 ⟨W,rfl,W1,W16,F1,f1⟩;refine AX (fun Z H'=>∃(l:Addr) (ns:List Int),Z=[some (.ref t),some (.int M),some (.int W),some (.ref l),none,none,none]/\H' l=some (.lst (ns.map V.int))/\l≠t/\1<=ns.length/\ns.length<=10/\(∀x∈ns,x.natAbs<=100000000000000000000)/\GFeed H' t (N+10)/\Yj t H H') ?_ ?_ (by walk_at "sm")
 ·have bound:∀(x:V) (l:Addr) (ns:List Int) (H':Hp),x=.ref l->H' l=some (.lst (ns.map V.int))->l≠t->1<=ns.length->ns.length<=10->(∀x∈ns,x.natAbs<=100000000000000000000)->GFeed H' t (N+10)->Yj t H H'->∃(l:Addr) (ns:List Int),[some (V.ref t),some (.int M),some (.int W),some x,none,none,none]=[some (.ref t),some (.int M),some (.int W),some (.ref l),none,none,none]/\H' l=some (.lst (ns.map V.int))/\l≠t/\1<=ns.length/\ns.length<=10/\(∀x∈ns,x.natAbs<=100000000000000000000)/\GFeed H' t (N+10)/\Yj t H H' :=
   fun x l ns H' e h1 h2 h3 h4 h5 h6 h7=>⟨l,ns,by rw[e],h1,h2,h3,h4,h5,h6,h7⟩
  refine⟨smq rfl,fun p hp=>?_⟩;have sa:Yb H1 (upd H1 p (.lst [.int 0,.int 1])):=Yb.upd hp;have ga:upd H1 p (.lst [.int 0,.int 1]) p=some (.lst [.int 0,.int 1]):=AD;generalize upd H1 p (.lst [.int 0,.int 1])=Ha at *;refine⟨⟨by decide,by decide,by decide⟩,?_⟩;refine⟨smq rfl,fun p2 hp2=>?_⟩;generalize hten:(10:Int) ^ Int.toNat 20=ten;have sb:Yb Ha (upd Ha p2 (.lst [.int (-7),.int ten,.int 3])):=Yb.upd hp2;have gb:upd Ha p2 (.lst [.int (-7),.int ten,.int 3]) p2=some (.lst [.int (-7),.int ten,.int 3]):=AD;generalize upd Ha p2 (.lst [.int (-7),.int ten,.int 3])=Hb at *;refine⟨smq rfl,fun p3 hp3=>?_⟩;have sc:Yb Hb (upd Hb p3 (.lst ([5,1,4,2,3,0,7,6,8,9].map V.int))):=Yb.upd hp3;have gc:upd Hb p3 (.lst ([5,1,4,2,3,0,7,6,8,9].map V.int)) p3=some (.lst ([5,1,4,2,3,0,7,6,8,9].map V.int)):=AD;refine(show ∀Hc,Yb Hb Hc->Hc p3=some (.lst ([5,1,4,2,3,0,7,6,8,9].map V.int))->_ from ?_) (upd Hb p3 (.lst ([5,1,4,2,3,0,7,6,8,9].map V.int))) sc gc;clear sc gc;intro Hc sc gc;refine⟨smq rfl,fun p4 hp4=>?_⟩;have sd:Yb Hc (upd Hc p4 (.lst [.ref p,.ref p2,.ref p3])):=Yb.upd hp4;have gd:upd Hc p4 (.lst [.ref p,.ref p2,.ref p3]) p4=some (.lst [.ref p,.ref p2,.ref p3]):=AD;have Fc:=F1.same (sa.trans (sb.trans sc));have pt:p≠t:=F1.neT hp;have pt2:p2≠t:=(F1.same sa).neT hp2;have pt3:p3≠t:=(F1.same (sa.trans sb)).neT hp3;have pt4:p4≠t:=Fc.neT hp4;generalize upd Hc p4 (.lst [.ref p,.ref p2,.ref p3])=Hd at *;have S:=sa.trans (sb.trans (sc.trans sd));refine⟨_,F1.same S,by lia,d3,fun i H5 i0 i1 F5 f5=>?_⟩;obtain⟨z,hz,hz3⟩:=Qy (a:=V.ref p) (b:=V.ref p2) (c:=V.ref p3) i0 i1;refine⟨_,_,.inl (.of (by rw[f5 p4 pt4];exact gd)),hz,?_⟩;have f:Yj t H H5:=f1.trans (Yj.trans (fun b o _ e=>S b o e) (Ai f5))
  rcases hz3 with e | e | e
  ·exact bound z p [0,1] H5 e (by rw[f5 p pt];exact(sb.trans (sc.trans sd)) _ _ ga) pt (by decide) (by decide) (by decide) F5 f
  ·refine bound z p2 [-7,ten,3] H5 e (by rw[f5 p2 pt2];exact(sc.trans sd) _ _ gb) pt2 (show 1<=3 by decide) (show 3<=10 by decide) ?_ F5 f;rw[<- hten];decide
  ·exact bound z p3 [5,1,4,2,3,0,7,6,8,9] H5 e (by rw[f5 p3 pt3];exact sd _ _ gc) pt3 (by decide) (by decide) (by decide) F5 f
 rintro Z H2 ⟨l,ns,rfl,gl,lt,n1,n10,hn,F2,f2⟩;refine AX (fun Z H'=>∃(z:V) (k:Addr) (ls:List Int),Z=[some (.ref t),some (.int M),some (.int W),z,some (.ref k),none,none]/\H' k=some (.lst (ls.map V.int))/\k≠t/\ls.length=M/\(∀x∈ls,x.natAbs<=100000000000000000000)/\GFeed H' t (N+10+M)/\Yj t H H') ?_ ?_ (by walk_at "sm")
 ·refine⟨(M:Int),rfl,by lia,by lia,?_⟩
  refine BW (fun i ys H'=>GFeed H' t (N+10+i)/\Yj t H H'/\H' l=some (.lst (ns.map V.int))/\∃ls:List Int,ys=ls.map V.int/\ls.length=i/\∀x∈ls,x.natAbs<=100000000000000000000) ⟨F2,f2,gl,[],rfl,rfl,nofun⟩ (fun i ys H' hi ⟨_,_,_,ls,e,el,_⟩=>by
   rw[e,ZB,el];exact Ag (by lia)) ?_ ?_
  ·rintro i ys H3 hi ⟨F3,f3,gl3,ls,rfl,el,hs⟩;refine⟨_,.inl ⟨_,.of gl3,rfl⟩,?_⟩;refine⟨_,F3,by lia,Av (by rw[ZB];lia) (by rw[ZB];lia),fun d H4 x0 x1 F4 f4=>?_⟩;rw[ZB]at x1;have hd:d.toNat < ns.length:=by lia
   refine⟨_,_,.inl (.of (by rw[f4 l lt];exact gl3)),AW (n:=d.toNat) (by lia) (by rw[ZP,ZD hd];rfl),F4.mono (by lia),f3.trans (Ai f4),by rw[f4 l lt];exact gl3,ls++[ns[d.toNat]],by rw[ZF];rfl,by rw[ZM,el];rfl,?_⟩;intro x hx
   rcases Zb.mp hx with h | h
   ·exact hs x h
   ·rw[ZO.mp h];exact hn _ (Zc hd)
  ·rintro ys H3 ⟨F3,f3,gl3,ls,rfl,el,hs⟩ k hk;rw[ZZ]at el F3;exact⟨_,k,ls,rfl,AD,F3.neT hk,el,hs,F3.upd hk,f3.trans (Yj.upd hk)⟩
 clear F2 f2 gl;rintro Z H2 ⟨z,k,ls,rfl,gk,kt,ll,hs,F2,f2⟩;refine⟨smq rfl,fun r hr'=>?_⟩;have hrH:H r=none:=F2.free f2 hr';have rt:r≠t:=F2.neT hr';have rk:k≠r:=fun e=>by rw[e,hr']at gk;cases gk
 dsimp only[AT];refine AX (fun Z H'=>∃(z6:Option V) (rs:List (List Bool)) (ys:List V),Z=[some (.ref t),some (.int M),some (.int W),z,some (.ref k),some (.ref r),z6]/\H' k=some (.lst (ls.map V.int))/\H' r=some (.lst ys)/\rs.length=W/\(∀b∈rs,b.length=M)/\Yc K H' (Ab rs) ys/\GFeed H' t (N+300)/\Yj t H H') ?_ ?_ (by walk_at "sm")
 ·refine⟨(W:Int),rfl,by lia,by lia,?_⟩;refine C3 (fun i Z H'=>∃(z6:Option V) (rs:List (List Bool)) (ys:List V),Z=[some (.ref t),some (.int M),some (.int W),z,some (.ref k),some (.ref r),z6]/\H' k=some (.lst (ls.map V.int))/\H' r=some (.lst ys)/\rs.length=i/\(∀b∈rs,b.length=M)/\Yc K H' (Ab rs) ys/\GFeed H' t (N+10+M+M * i)/\Yj t H H') ⟨none,[],[],rfl,by rw[AJ rk];exact gk,AD,rfl,nofun,Ad,F2.upd hr',f2.trans (Yj.upd hr')⟩ ?_ ?_
  ·rintro i Z H3 hi ⟨z6,rs,ys,rfl,gk3,gr3,rl,hb,R3,F3,f3⟩;have hMi:M * i<=160:=Zn (Nat.mul_le_mul M10 (show i<=16 by lia)) (by decide);have hyl:ys.length=i:=by rw[<- R3.length,Dj,rl]
   refine⟨.inl ⟨rfl,_,.of gr3⟩,?_⟩;refine⟨(M:Int),rfl,by lia,by lia,?_⟩
   refine BW (fun j zs H'=>GFeed H' t (N+10+M+M * i+j)/\Yj t H3 H'/\∃bs:List Bool,zs=bs.map V.bl/\bs.length=j) ⟨F3,Yj.refl,[],rfl,rfl⟩ (fun j zs H' hj ⟨_,_,bs,e,el⟩=>by
    rw[e,ZB,el];exact Ag (by lia)) ?_ ?_
   ·rintro j zs H4 hj ⟨F4,f4,bs,rfl,rfl⟩;refine⟨_,F4,by lia,Av (by decide) (by decide),fun d H5 _ _ F5 f5=>?_⟩;exact⟨F5.mono (by lia),f4.trans (Ai f5),bs++[_],by rw[ZF];rfl,by rw[ZM];rfl⟩
   ·rintro zs H4 ⟨F4,f4,bs,rfl,el⟩ k4 hk4;rw[ZZ]at el F4;refine⟨_,.inl ⟨.of AD,fun p hp=>?_⟩⟩;have s5:=(Yb.upd (o:=.lst (bs.map V.bl)) hk4).trans (Yb.upd (o:=.tup (bs.map V.bl)) hp);have g5:=AD (H:=upd H4 k4 (.lst (bs.map V.bl))) (a:=p) (o:=.tup (bs.map V.bl));generalize upd (upd H4 k4 (.lst (bs.map V.bl))) p (.tup (bs.map V.bl))=H5 at *;have f35:Yj t H3 H5:=f4.trans fun b o _ e=>s5 b o e
    have gr5:H5 r=some (.lst ys):=f35 _ _ rt gr3
    have R5:Yc K H5 (Ab (rs++[bs])) (ys++[.ref p]):=by
     have e:Ab (rs++[bs])=Ab rs++[.tup (bs.map Dv.bl)]:=by unfold Ab;rw[ZF];rfl
     rw[e];exact Yc.append (Yc.frm f35 F3.lst _ _ (CW _) R3) (AU (BL g5 (Bx bs)) Ad)
    refine⟨_,gr5,Ag (by lia),?_⟩;refine⟨_,rs++[bs],_,rfl,by rw[AJ rk];exact f35 _ _ kt gk3,AD,by rw[ZM,rl];rfl,?_,Yc.frm Yj.updT ⟨_,gr5⟩ _ _ (CW _) R5,((F4.same s5).put rt gr5 (HR (Yc.frm f35 F3.lst _ _ (CW _) R3))).mono (by rw[Nat.mul_succ];lia),Ds (f3.trans f35) hrH⟩;intro b hb'
    rcases Zb.mp hb' with h | h
    ·exact hb b h
    ·rw[ZO.mp h];exact el
  ·rintro Z H3 ⟨z6,rs,ys,rfl,gk3,gr3,rl,hb,R3,F3,f3⟩;rw[ZZ]at rl F3;have hMi:M * W<=160:=Zn (Nat.mul_le_mul M10 W16) (by decide);exact⟨z6,rs,ys,rfl,gk3,gr3,rl,hb,R3,F3.mono (by lia),f3⟩
 rintro Z H3 ⟨z6,rs,ys,rfl,gk3,gr3,rl,hb,R3,F3,f3⟩;refine⟨_,.inl ⟨.of gk3,fun p hp=>?_⟩⟩;have s4:Yb H3 (upd H3 p (.tup (ls.map V.int))):=Yb.upd hp;have g4:upd H3 p (.tup (ls.map V.int)) p=some (.tup (ls.map V.int)):=AD;generalize upd H3 p (.tup (ls.map V.int))=H4 at *;refine⟨_,.inl ⟨.of (s4 _ _ gr3),fun p4 hp4=>?_⟩⟩;refine⟨smq rfl,fun p5 hp5=>?_⟩;have s5:=(Yb.upd (o:=.tup ys) hp4).trans (Yb.upd (o:=.tup [.ref p,.ref p4]) hp5);have S5:=s4.trans s5;refine q ls rs _ _ ⟨by lia,by lia,by lia,by lia,fun r h=>by rw[hb r h];lia⟩ ?_ (F3.same S5) (f3.trans fun b o _ e=>S5 b o e);exact BL AD (AU (BL (s5 _ _ g4) (GA ls)) (AU (BL (Yb.upd hp5 _ _ AD) (Yc.same S5 _ _ R3)) Ad))
theorem Xn(bs:List Bool)(m:Nat)(h:bs.length=2 ^ m)(m1:1<=m)(m4:m<=4):∃ls rs,Jt bs m=gmD ls rs/\Gm ls rs:=by
 have h16:2 ^ m<=16:=Zl (n:=2) (j:=4) (by decide) m4;have h2:2<=2 ^ m:=Zl (n:=2) (i:=1) (by decide) m1;refine⟨bs.map fun b=>if b then 1 else 0,(List.range m).map (Bw m),?_,?_⟩
 ·unfold Jt gmD KI B4 Ab;rw[ZBX,ZBX];rfl
 ·refine⟨by rw[ZB];lia,by rw[ZB];lia,by rw[ZB,ZBB];lia,by rw[ZB,ZBB];lia,?_⟩
  ·intro r hr;obtain⟨i,_,rfl⟩:=ZJ.mp hr;rw[U7,ZB,h]
theorem Xa:Xp P w base T.z55 4 (CK K 500 800000000):=by
 have G_z54:=@DF P w K mg base T;refine T.z55.F.ok sc_z55 (fun vs H Q E h=>by unfold CK at h;walk_at "e") ?_;walk_at "f";have hr_z54:=hr.mono (show 1<=_ by decide);unfold CK at h;walk_at "g"
 rename_i t;obtain⟨N,F,hN,q⟩:=h;refine⟨_,(@AF _ _ _ _ _ (@AN _ _ 1 _ _ _ _ sc_z55.nd rfl (by right) (AI G_z54 hr_z54 rfl T.z54.m T.z54.F.kp T.z54.b .nil AG (AA (vv 0) (AA AC AB))) (by rfl) (by walk_at "i")) (@AF _ _ _ _ _ (@Ao _ _ _ _ _ _ _ _ (Ae (kEq (K:=K) hu) (vv 1) AC) (@AH _ _ _ (@AL _ _ _ _ (AI (@RV P w K mg base T) (hr.mono (show 1<=_ by decide)) rfl T.z29.m T.z29.F.kp T.z29.b .nil AG (AA (AI (@Mb P w K mg base T) (hr.mono (show 2<=_ by decide)) rfl T.z48.m T.z48.F.kp T.z48.b .nil AG (AA (vv 0) (AA (AQ (BA (K:=K)) AC (AI G_z54 hr_z54 rfl T.z54.m T.z54.F.kp T.z54.b .nil AG (AA (vv 0) (AA AC AB)))) AB))) AB)))) An) (@AF _ _ _ _ _ (@Ao _ _ _ _ _ _ _ _ (Ae (kEq (K:=K) hu) (vv 1) AC) (@AH _ _ _ (@AL _ _ _ _ (AI (@Vw P w K mg base T) (hr.mono (show 1<=_ by decide)) rfl T.z31.m T.z31.F.kp T.z31.b .nil AG (AA (AI (@SU P w K mg base T) (hr.mono (show 3<=_ by decide)) rfl T.z43.m T.z43.F.kp T.z43.b .nil AG (AA (vv 0) (AA (AQ (BA (K:=K)) AC (AI G_z54 hr_z54 rfl T.z54.m T.z54.F.kp T.z54.b .nil AG (AA (vv 0) (AA AC AB)))) (AA (AQ (BA (K:=K)) AC (AI G_z54 hr_z54 rfl T.z54.m T.z54.F.kp T.z54.b .nil AG (AA (vv 0) (AA AC AB)))) AB)))) AB)))) An) (@AH _ _ _ (@AL _ _ _ _ (DW (Ae (kEq (K:=K) hu) (vv 1) AC) (AI (@Sm P w K mg base T) (hr.mono (show 2<=_ by decide)) rfl T.z44.m T.z44.F.kp T.z44.b .nil AG (AA (vv 0) AB)) (AI (@TY P w K mg base T) (hr.mono (show 2<=_ by decide)) rfl T.z37.m T.z37.F.kp T.z37.b .nil AG (AA (vv 0) AB)))))))),?_⟩;have d4:okDiv 4:=Av (by decide) (by decide);have d5:okDiv 5:=Av (by decide) (by decide);have d6:okDiv 6:=Av (by decide) (by decide);have d3:okDiv 3:=Av (by decide) (by decide);refine⟨_,F,by lia,d6,fun way H1 w0 w1 F1 f1=>?_⟩;dsimp only[AT];refine Ak (fun e=>?_) (fun e=>?_)
 ·refine⟨_,F1,by lia,d4,fun a H2 a0 a1 F2 f2=>?_⟩;obtain⟨m,hm⟩:∃m:Nat,1+a=m:=⟨(1+a).toNat,by lia⟩;rw[show ET K (V.int 1) (V.int a) H2=fun Q=>Q (.int (1+a)) H2 from rfl];rw[hm];refine⟨m,_,F2,by lia,rfl,by lia,by lia,fun bs p H3 hb hp g3 F3 f3=>?_⟩;refine⟨bs,m,.of g3,hb,by lia,by lia,fun u H4 s4 r4=>?_⟩;obtain⟨ls,rs,e,g⟩:=Xn bs m hb (by lia) (by lia);rw[e]at r4;exact q ls rs u H4 g r4 ((F3.same s4).mono (by lia)) ((Ai f1).trans ((Ai f2).trans (f3.trans fun b o _ e=>s4 b o e)))
 dsimp only[Co];refine Ak (fun e=>?_) (fun e=>?_)
 ·refine⟨_,F1,by lia,d3,fun a H2 a0 a1 F2 f2=>?_⟩;refine⟨_,F2,by lia,d5,fun b H3 b0 b1 F3 f3=>?_⟩;obtain⟨m,hm⟩:∃m:Nat,1+a=m:=⟨(1+a).toNat,by lia⟩;obtain⟨M,hM⟩:∃M:Nat,2+b=M:=⟨(2+b).toNat,by lia⟩;refine⟨m,M,_,F3,by lia,hm,by lia,by lia,hM,by lia,by lia,fun ts xs p H4 t2 tM tb hp g4 R4 F4 f4=>?_⟩;have h8:2 ^ m<=8:=Zl (n:=2) (j:=3) (by decide) (by lia);refine⟨ts,xs,2 ^ m,g4,R4,t2,by lia,tb,ZBg m,h8,fun ls rs u H5 g s5 r5=>?_⟩;exact q ls rs u H5 g r5 ((F4.same s5).mono (by lia)) ((Ai f1).trans ((Ai f2).trans ((Ai f3).trans (f4.trans fun b o _ e=>s5 b o e))))
 dsimp only[Co];refine Ak (fun e=>?_) (fun e=>?_)
 ·exact⟨_,F1,by lia,fun ls rs u H2 g r2 F2 f2=>q ls rs u H2 g r2 (F2.mono (by lia)) ((Ai f1).trans f2)⟩
 ·exact⟨_,F1,by lia,fun ls rs u H2 g r2 F2 f2=>q ls rs u H2 g r2 (F2.mono (by lia)) ((Ai f1).trans f2)⟩
theorem GT{d1 d2:Dv}(h:Yf K H (.tup [d1,d2]) v):∃a x1 x2,v=.ref a/\Yp K H a [x1,x2]/\Yf K H d1 x1/\Yf K H d2 x2:=by
 obtain⟨a,xs,rfl,hs,hx⟩:=Bj h;obtain⟨x1,r1,rfl,hx1,hx'⟩:=(show ∃x r,xs=x::r/\Yf K H d1 x/\Yc K H [d2] r by unfold Yc at hx;exact hx);obtain⟨x2,r2,rfl,hx2,hx''⟩:=(show ∃x r,r1=x::r/\Yf K H d2 x/\Yc K H [] r by unfold Yc at hx';exact hx');obtain rfl:r2=[]:=by unfold Yc at hx'';exact hx''
 exact⟨a,x1,x2,rfl,hs,hx1,hx2⟩
theorem IN:∀{bs:List Bool} {xs:List V},Yc K H (bs.map Dv.bl) xs->xs=bs.map V.bl
 | [],xs,h=>by unfold Yc at h;exact h
 | b::bs,xs,h=>by
  rw[Za]at h;unfold Yc at h;obtain⟨x,r,rfl,h1,h2⟩:=h;unfold Yf at h1;rw[h1,IN h2];rfl
theorem GQ:∀{bs:List Int} {xs:List V},Yc K H (bs.map Dv.int) xs->xs=bs.map V.int
 | [],xs,h=>by unfold Yc at h;exact h
 | b::bs,xs,h=>by
  rw[Za]at h;unfold Yc at h;obtain⟨x,r,rfl,h1,h2⟩:=h;unfold Yf at h1;rw[h1,GQ h2];rfl
structure GmAt(K:W.Frag)(H:Hp)(ls:List Int)(rs:List (List Bool))(a tl rl:Addr)(ps:List Addr):Prop where
 two:Yp K H a [.ref tl,.ref rl]
 lab:Yp K H tl (ls.map V.int)
 rows:Yp K H rl (ps.map V.ref)
 len:ps.length=rs.length
 row:∀(i:Nat) (q:Addr) (r:List Bool),ps[i]? = some q->rs[i]? = some r->Yp K H q (r.map V.bl)
theorem Kz:∀{rs:List (List Bool)} {xs:List V},Yc K H (Ab rs) xs->∃ps:List Addr,xs=ps.map V.ref/\ps.length=rs.length/\∀(i:Nat) (q:Addr) (r:List Bool),ps[i]? = some q->rs[i]? = some r->Yp K H q (r.map V.bl)
 | [],xs,h=>by
  have:xs=[]:=by simpa [Ab,Yc] using h
  exact⟨[],this,rfl,fun i q r z=>by simp at z⟩
 | r::rs,xs,h=>by
  have h':Yc K H (Dv.tup (r.map Dv.bl)::Ab rs) xs:=h;unfold Yc at h';obtain⟨x,ys,rfl,h1,h2⟩:=h';obtain⟨a,zs,rfl,hs,hz⟩:=Bj h1;obtain rfl:=IN hz;obtain⟨ps,rfl,hl,hr⟩:=Kz h2;refine⟨a::ps,rfl,by rw[Zi,Zi,hl],fun i q r' hi hr'=>?_⟩;cases i with
  | zero=>cases hi;cases hr';exact hs
  | succ i=>exact hr i q r' hi hr'
theorem Bl(h:Yf K H (gmD ls rs) v):∃a tl rl ps,v=.ref a/\GmAt K H ls rs a tl rl ps:=by
 obtain⟨a,x1,x2,rfl,hs,h1,h2⟩:=GT h;obtain⟨tl,zs,rfl,hl,hz⟩:=Bj h1;obtain rfl:=GQ hz;obtain⟨rl,ws,rfl,hr,hw⟩:=Bj h2;obtain⟨ps,rfl,e,hp⟩:=Kz hw;exact⟨a,tl,rl,ps,rfl,hs,hl,hr,e,hp⟩
theorem GmAt.same{tl rl:Addr}{ps:List Addr}(g:GmAt K H ls rs a tl rl ps)(s:Yb H H'):GmAt K H' ls rs a tl rl ps :=
 ⟨s.sqT g.two,s.sqT g.lab,s.sqT g.rows,g.len,fun i q r x y=>s.sqT (g.row i q r x y)⟩
theorem GmAt.frm{tl rl:Addr}{ps:List Addr}(g:GmAt K H ls rs a tl rl ps)(f:Yj t H H')(ht:H t=some o)(no:Cr o):GmAt K H' ls rs a tl rl ps :=
 ⟨Cz f ht no g.two,Cz f ht no g.lab,Cz f ht no g.rows,g.len,fun i q r x y=>Cz f ht no (g.row i q r x y)⟩
noncomputable def AM(r:List Bool):Nat:=msk (whr (r.map (· == true)) r.length)
noncomputable def DG(ls:List Int)(z:Int):Nat:=msk (whr (ls.map (· == z)) ls.length)
theorem mskR_bit(r:List Bool)(k:Nat):(AM r).testBit k=gB r k:=by
 unfold AM;rw[(FQ (IX _ _) (fun t ht=>ED ht)).2 k,ZBG,decide_eq_true_eq,Mr]
 by_cases h:k < r.length
 ·have e:gB (r.map (· == true)) k=gB r k:=by
   rw[FV (x:=r[k]) (ZD h)];unfold gB;rw[ZN,ZD h];simp
  rw[e];simp[h]
 ·have e:gB r k=false:=by unfold gB;rw[ZN,ZB8 (by lia)];rfl
  rw[e];simp[h]
theorem MR(ls:List Int)(z:Int)(k:Nat):(DG ls z).testBit k=(decide (k < ls.length) && decide (AE ls k=z)):=by
 unfold DG;rw[(FQ (IX _ _) (fun t ht=>ED ht)).2 k,ZBG,decide_eq_true_eq,Mr]
 by_cases h:k < ls.length
 ·have e:gB (ls.map (· == z)) k=decide (AE ls k=z):=by
   rw[FV (x:=ls[k]) (ZD h)];unfold AE;rw[ZN,ZD h];rfl
  rw[e];simp[h]
 ·simp[h]
theorem FZ(rs:List (List Bool)):AY (rs.map AM)=rs.map gB:=by
 unfold AY;rw[ZBX];apply ZBy;intro r _
 funext k
 exact mskR_bit r k
theorem sub_bits:S &&& m=S ↔ ∀k,S.testBit k=true->m.testBit k=true:=by
 constructor
 ·intro e k hk
  have:(S &&& m).testBit k=true:=by rw[e];exact hk
  rw[Z1,hk]at this;simpa using this
 ·intro h;apply Nat.eq_of_testBit_eq;intro k;rw[Z1];cases e:S.testBit k with
  | false=>rfl
  | true=>rw[h k e];rfl
theorem Xk{ms:List Int}(h1:1<=ls.length)(hm:∀z,z∈ms ↔ z∈ls):Oa ls (ms.map (DG ls)):=by
 intro S hS;rw[List.any_map,ZBO];constructor
 ·rintro⟨z,hz,h⟩ i j hi hj;have h:=sub_bits.mp (ZR h);have a:=h i hi;have b:=h j hj;rw[MR,ZQ,decide_eq_true_eq,decide_eq_true_eq]at a b;rw[a.2,b.2]
 ·intro o
  by_cases e:∃k,S.testBit k=true
  ·obtain⟨k,hk⟩:=e;have hkl:=CV hS hk;refine⟨AE ls k,(hm _).mpr ?_,ZL (sub_bits.mpr fun i hi=>?_)⟩
   ·unfold AE;rw[ZN,ZD hkl];exact Zc hkl
   ·rw[MR,ZL (CV hS hi),ZL (o i k hi hk)];rfl
  ·cases ls with
   | nil=>simp at h1
   | cons x r=>exact⟨x,(hm _).mpr (by simp),ZL (sub_bits.mpr fun i hi=>absurd ⟨i,hi⟩ e)⟩
noncomputable def Jk(K:W.Frag)(C:Addr):Sp:=fun vs H Q _=>match vs with
 | [.ref p,v]=>∃ls rs dx,H p=some (.ins C dx [])/\Yf K H (gmD ls rs) v/\Gm ls rs/\∀d H',H d=none->RkAt K C ls (rs.map AM) H' p d->Yj p H H'->Q .non H'
 | _=>False
theorem Mn{α:Type}[DecidableEq α]:∀{ds ls:List α},ds.Nodup->(∀z∈ds,z∈ls)->ds.length<=ls.length
 | [],ls,_,_=>ZV _
 | z::ds,ls,nd,h=>by
  obtain⟨h1,h2⟩:=ZBc.mp nd;have hz:z∈ls:=h z (by simp)
  have:=Mn (ds:=ds) (ls:=ls.erase z) h2 (fun x hx=>(List.mem_erase_of_ne (fun e:x=z=>h1 (e ▸ hx))).mpr (h x (Ze _ hx)))
  have e:=List.length_erase_of_mem hz
  have:0 < ls.length:=List.length_pos_of_mem hz
  rw[Zi];lia
theorem XC:Xq P w mg base T.z30 4 (Jk K T.C_Reckoner):=by
 have G_z39:=@LL P w K mg base T;have G_z35:=@Tv P w K mg base T;refine T.z30.F.ok Ro (fun vs H Q E h=>by unfold Jk at h;walk_at "e") ?_;walk_at "f";have hr_z39:=hr.mono (show 3<=_ by decide);have hr_z35:=hr.mono (show 1<=_ by decide);unfold Jk at h;walk_at "g"
 rename_i p v;obtain⟨ls,rs,dx,hp,hv,G,q⟩:=h;obtain⟨a,tl,rl,ps,rfl,g⟩:=Bl hv;have l1:=G.l1;have l16:=G.l16;have r16:=G.r16;have hpl:=g.len;refine⟨_,(@AF _ _ _ _ _ (Dg T.cl_Reckoner T.na_Reckoner_labels (vv 0) (At (A8 (K:=K)) rfl T.z_tuple (by rfl) (AA (Yl (K:=K) (vv 1) AC) AB))) (@AF _ _ _ _ _ (Dg T.cl_Reckoner T.na_Reckoner_yeses (vv 0) (@Ap _ _ _ _ _ _ _ ["row"] 1 [] _ _ _ _ rfl (BF (K:=K) (Yl (K:=K) (vv 1) AC)) (by kernel_rfl) rfl rfl (by kernel_rfl) (fun c=>AO (i:=0) (show(["row"]:List Str).Nodup by decide +kernel) rfl (by right)) (Ac (by decide)) (fun c=>Am) (fun c=>(AI G_z39 hr_z39 rfl T.z39.m T.z39.F.kp T.z39.b .nil AG (AA (AI G_z35 hr_z35 rfl T.z35.m T.z35.F.kp T.z35.b .nil AG (AA Aw (AA (vv 0) AB))) AB))) (by intro _;rfl))) (@AF _ _ _ _ _ (Dg T.cl_Reckoner T.na_Reckoner_alike (vv 0) (Ap (N':=["label","self"]) (own:=1) (ix:=[0]) rfl (BF (K:=K) (Aa (Sc (P:=P) (w:=w) rfl) rfl T.z_sorted (by rfl) (AA (At (UY (K:=K) (P:=P) (w:=w) rfl) rfl T.z_set (by rfl) (AA (BN T.cl_Reckoner T.na_Reckoner_labels (vv 0)) AB)) AB))) (by kernel_rfl) rfl rfl (by kernel_rfl) (fun c=>AO (i:=0) (show(["label","self"]:List Str).Nodup by decide +kernel) rfl (by right)) (Ac (by decide)) (fun c=>Am) (fun c=>(AI G_z39 hr_z39 rfl T.z39.m T.z39.F.kp T.z39.b .nil AG (AA (AI G_z35 hr_z35 rfl T.z35.m T.z35.F.kp T.z35.b .nil AG (AA (vv 0) (AA (BN T.cl_Reckoner T.na_Reckoner_labels (vv 1)) AB))) AB))))) (@AH _ _ _ (Dg T.cl_Reckoner T.na_Reckoner_known (vv 0) Gj))))),?_⟩;refine⟨_,.ref tl,.inr g.two,rfl,_,.inr ⟨g.lab,dx,_,hp,(show 0 < 1000 by decide),?_⟩⟩;have f1:Yj p H (upd H p (.ins T.C_Reckoner dx (AZ "labels" (.ref tl) []))):=Yj.updT;have hp1:upd H p (.ins T.C_Reckoner dx (AZ "labels" (.ref tl) [])) p=some (.ins T.C_Reckoner dx [("labels",.ref tl)]):=by rw[pf1];exact AD
 have g1:=g.frm f1 hp Di;generalize upd H p (.ins T.C_Reckoner dx (AZ "labels" (.ref tl) []))=H1 at *
 -- the rows
 refine⟨_,.ref rl,.inr g1.two,rfl,.inr ⟨⟨_,g1.rows⟩,?_⟩⟩
 refine Cq (xs:=ps.map V.ref) (fun k zs H'=>Yb H1 H'/\zs=iL ((rs.take k).map AM)) ⟨Yb.refl _,rfl⟩ (fun k zs H' _ ⟨s,_⟩=>s.sqT g1.rows) (fun k zs H' hk ⟨_,e⟩=>by
  rw[ZB]at hk;rw[e,Aj,ZB,ZW];exact Ag (by lia)) ?_ ?_
 ·rintro k x zs H' hx ⟨s1,rfl⟩;rw[ZP]at hx;cases e0:ps[k]? with
  | none=>rw[e0]at hx;cases hx
  | some b =>
   rw[e0]at hx;cases hx;have hk:k < rs.length:=by rw[<- hpl];exact(Zf.mp e0).1
   have er:rs[k]? = some rs[k]:=ZD hk;have hrow:=G.row _ (Zc hk);refine⟨rs[k],s1.sqT (g1.row k b _ e0 er),by lia,fun l H2 hl s2 g2=>?_⟩;refine⟨_,.inl (.of g2),by have:=EL (rs[k].map (· == true)) rs[k].length;lia,fun t ht=>by have:=ED ht;lia,fun H3 s3=>?_⟩;refine⟨s1.trans (s2.trans s3),?_⟩;rw[Zm,er,ZF,Ce];rfl
 rintro zs H2' ⟨s1,rfl⟩ yl hyl;rw[ZB,hpl,Zq];have s2:Yb H1 (upd H2' yl (.lst (iL (rs.map AM)))):=s1.trans (Yb.upd hyl);have gy2:upd H2' yl (.lst (iL (rs.map AM))) yl=some (.lst (iL (rs.map AM))):=AD;generalize upd H2' yl (.lst (iL (rs.map AM)))=H2 at *;have hp2:=s2 _ _ hp1;have ny:yl≠p:=Bg gy2 hp2 (by intro z;cases z);refine⟨dx,_,hp2,(show 1 < 1000 by decide),?_⟩;have f3:Yj p H2 (upd H2 p (.ins T.C_Reckoner dx (AZ "yeses" (.ref yl) [("labels",.ref tl)]))):=Yj.updT;have hp3:upd H2 p (.ins T.C_Reckoner dx (AZ "yeses" (.ref yl) [("labels",.ref tl)])) p=some (.ins T.C_Reckoner dx [("labels",.ref tl),("yeses",.ref yl)]):=by rw[pf2];exact AD
 have g3:=(g1.same s2).frm f3 hp2 Di;have gy3:=f3 _ _ ny gy2;have F3:Yj p H (upd H2 p (.ins T.C_Reckoner dx (AZ "yeses" (.ref yl) [("labels",.ref tl)]))):=f1.trans ((Bd s2).trans f3);generalize upd H2 p (.ins T.C_Reckoner dx (AZ "yeses" (.ref yl) [("labels",.ref tl)]))=H3 at *
 -- the labels
 refine⟨dx,_,.ref tl,hp3,by rfl,ls,g3.lab,by lia,fun ds qs nd hmem hqs=>?_⟩;have hdl:ds.length<=ls.length:=Mn nd fun z hz=>(hmem z).mp hz
 refine⟨ds,AD,by lia,fun ms l2 hml hmm _ hl2=>.inl ⟨⟨_,.of AD⟩,?_⟩⟩;have s4:Yb H3 (upd (upd H3 qs (.ext (C0 P w qs ds))) l2 (.lst (ms.map V.int))):=(Yb.upd hqs).trans (Yb.upd hl2);have gl4:upd (upd H3 qs (.ext (C0 P w qs ds))) l2 (.lst (ms.map V.int)) l2=some (.lst (ms.map V.int)):=AD;generalize upd (upd H3 qs (.ext (C0 P w qs ds))) l2 (.lst (ms.map V.int))=H4 at *;have g4:=g3.same s4;have hp4:=s4 _ _ hp3
 refine DO (xs:=ms.map V.int) (fun k zs H'=>Yb H4 H'/\zs=iL ((ms.take k).map (DG ls))) ⟨Yb.refl _,rfl⟩ (fun k zs H' _ ⟨s,_⟩=>s.sqL (.of gl4)) (fun k zs H' hk ⟨_,e⟩=>by
  rw[ZB]at hk;rw[e,Aj,ZB,ZW];exact Ag (by lia)) ?_ ?_
 ·rintro k x zs H' hx ⟨s5,rfl⟩;rw[ZP]at hx;cases e0:ms[k]? with
  | none=>rw[e0]at hx;cases hx
  | some z =>
   rw[e0]at hx;cases hx;refine⟨dx,_,.ref tl,s5 _ _ hp4,by rfl,ls,s5.sqT g4.lab,by lia,fun l H2 hl s6 g2=>?_⟩;refine⟨_,.inl (.of g2),by have:=EL (ls.map (· == z)) ls.length;lia,fun t ht=>by have:=ED ht;lia,fun H3 s7=>?_⟩;refine⟨s5.trans (s6.trans s7),?_⟩;rw[Zm,e0,ZF,Ce];rfl
 rintro zs H5' ⟨s5,rfl⟩ al hal;rw[ZB,Zq];have s6:Yb H4 (upd H5' al (.lst (iL (ms.map (DG ls))))):=s5.trans (Yb.upd hal);have ga6:upd H5' al (.lst (iL (ms.map (DG ls)))) al=some (.lst (iL (ms.map (DG ls)))):=AD;generalize upd H5' al (.lst (iL (ms.map (DG ls))))=H6 at *;have hp6:=s6 _ _ hp4;have na:al≠p:=Bg ga6 hp6 (by intro z;cases z);refine⟨dx,_,hp6,(show 2 < 1000 by decide),?_⟩;have f7:Yj p H6 (upd H6 p (.ins T.C_Reckoner dx (AZ "alike" (.ref al) [("labels",.ref tl),("yeses",.ref yl)]))):=Yj.updT;have hp7:upd H6 p (.ins T.C_Reckoner dx (AZ "alike" (.ref al) [("labels",.ref tl),("yeses",.ref yl)])) p=some (.ins T.C_Reckoner dx [("labels",.ref tl),("yeses",.ref yl),("alike",.ref al)]):=by rw[pf3];exact AD
 have g7:=(g4.same s6).frm f7 hp6 Di;have gy7:=f7 _ _ ny (s6 _ _ (s4 _ _ gy3));have ga7:=f7 _ _ na ga6;have F7:Yj p H (upd H6 p (.ins T.C_Reckoner dx (AZ "alike" (.ref al) [("labels",.ref tl),("yeses",.ref yl)]))):=F3.trans ((Bd s4).trans ((Bd s6).trans f7));generalize upd H6 p (.ins T.C_Reckoner dx (AZ "alike" (.ref al) [("labels",.ref tl),("yeses",.ref yl)]))=H7 at *
 -- nothing known yet
 intro d hd;have s8:Yb H7 (upd H7 d (.dK [])):=Yb.upd hd;have nd8:d≠p:=fun e=>by rw[e,hp7]at hd;cases hd
 have gd8:upd H7 d (.dK []) d=some (.dK []):=AD
 have hd0:H d=none:=by
  cases e:H d with
  | none=>rfl
  | some o=>rw[F7 d o nd8 e]at hd;cases hd
 generalize upd H7 d (.dK [])=H8 at *;have hp8:=s8 _ _ hp7;refine⟨dx,_,hp8,(show 3 < 1000 by decide),?_⟩;have f9:Yj p H8 (upd H8 p (.ins T.C_Reckoner dx (AZ "known" (.ref d) [("labels",.ref tl),("yeses",.ref yl),("alike",.ref al)]))):=Yj.updT;have hp9:upd H8 p (.ins T.C_Reckoner dx (AZ "known" (.ref d) [("labels",.ref tl),("yeses",.ref yl),("alike",.ref al)])) p=some (.ins T.C_Reckoner dx (BX (.ref tl) (.ref yl) (.ref al) (.ref d))):=by rw[pf4];exact AD
 refine q d _ hd0 ⟨⟨dx,tl,yl,al,_,[],hp9,((g7.same s8).frm f9 hp8 Di).lab,f9 _ _ ny (s8 _ _ gy7),f9 _ _ na (s8 _ _ ga7),f9 _ _ nd8 gd8,by rw[ZB];lia,Xk l1 (fun z=>by rw[hmm z,hmem z]),⟨by simp,fun e he=>by simp at he⟩⟩,l16,by rw[ZB];exact r16⟩ (F7.trans ((Bd s8).trans f9))
theorem DZ(N:Nat)(S:Nat->Bool):Aq N S<=N:=by
 unfold Aq
 have:=ZB7 S (List.range N)
 rw[ZBB]at this;exact this
noncomputable abbrev Bk:=List (List Nat × Int)
noncomputable def Ax(e:List Nat × Int):Dw:=.tup [.tup (e.1.map fun(t:Nat)=>Dw.int (t:Int)),.int e.2]
structure EntOk(n:Nat)(e:List Nat × Int):Prop where
 up:e.1.Pairwise (· < ·)
 lt:∀t∈e.1,t < n
 one:1<=e.2
structure NumsOf(n:Nat)(es:Bk)(Yd:List (Key × V)):Prop extends NumsOk n Yd where
 fro:∀(S:Nat) (k:Int),(kN S,V.int k)∈Yd->∃e∈es,S=msk e.1/\k=e.2
 to_:∀e∈es,∃k:Int,(kN (msk e.1),V.int k)∈Yd/\e.2<=k
theorem NumsOf.put(h:NumsOf n es Yd){e:List Nat × Int}(he:EntOk n e){k0:Int}(hk:(valV Yd (kN (msk e.1))=none/\k0=0)\/valV Yd (kN (msk e.1))=some (.int k0)) :
 NumsOf n (es++[e]) (Al Yd (kN (msk e.1)) (.int (max k0 e.2))):=by
 obtain⟨hS,_⟩:=FQ he.up he.lt;have one:=he.one;refine⟨⟨My h.nd,fun x hx=>?_⟩,fun S k hx=>?_,fun x hx=>?_⟩
 ·rcases put_mem hx with rfl | ⟨q,_⟩
  ·exact⟨_,_,rfl,hS,by lia⟩
  ·exact h.ok x q
 ·rcases put_mem hx with q | ⟨q,_⟩
  ·have e1:kN S=kN (msk e.1):=congrArg Prod.fst q;have e2:V.int k=V.int (max k0 e.2):=congrArg Prod.snd q;have e3:S=msk e.1:=by injection e1 with z;lia
   cases e2
   by_cases z:k0<=e.2
   ·exact⟨e,by simp,e3,by lia⟩
   ·rcases hk with ⟨_,y⟩ | y
    ·lia
    ·obtain⟨x,hx1,hx2,hx3⟩:=h.fro _ _ (EN y);exact⟨x,Zv _ hx1,by lia,by lia⟩
  ·obtain⟨x,hx1,hx2⟩:=h.fro S k q;exact⟨x,Zv _ hx1,hx2⟩
 ·rcases Zb.mp hx with q | q
  ·obtain⟨k,a,b⟩:=h.to_ x q
   by_cases z:kN (msk x.1)=kN (msk e.1)
   ·rw[z]at a ⊢;refine⟨_,Kj,?_⟩
    have:=Ow h.nd a
    rcases hk with ⟨y,_⟩ | y
    ·rw[y]at this;cases this
    ·rw[y]at this;cases this;lia
   ·exact⟨k,Uy a z,b⟩
  ·have:x=e:=by simpa using q
   subst this;exact⟨_,Kj,by lia⟩
noncomputable def K0(K:W.Frag)(H:Hp)(e:List Nat × Int)(x:V):Prop:=∃b c,x=.ref b/\Yp K H b [.ref c,.int e.2]/\Yp K H c (iL e.1)
structure EntsAt(K:W.Frag)(H:Hp)(es:Bk)(ua:Addr)(xs:List V):Prop where
 sq:Yp K H ua xs
 len:xs.length=es.length
 at_:∀(i:Nat) (e:List Nat × Int),es[i]? = some e->∃x,xs[i]? = some x/\K0 K H e x
theorem LY:∀{ts:List Nat} {xs:List V},Ym K H (ts.map fun(t:Nat)=>Dw.int (t:Int)) xs->xs=iL ts
 | [],xs,h=>by unfold Ym at h;exact h
 | t::ts,xs,h=>by
  rw[Za]at h;unfold Ym at h;obtain⟨x,r,rfl,h1,h2⟩:=h;unfold Yo at h1;rw[h1,LY h2];rfl
theorem Ni{e:List Nat × Int}{x:V}(h:Yo K H (Ax e) x):K0 K H e x:=by
 obtain⟨b,xs,rfl,hb,hx⟩:=DY h;unfold Ym at hx;obtain⟨x0,l0,rfl,r0,hx⟩:=hx;unfold Ym at hx;obtain⟨x1,l1,rfl,r1,hx⟩:=hx;unfold Ym at hx;subst hx;obtain⟨c,zs,rfl,hc,hz⟩:=DY r0;unfold Yo at r1;subst r1;rw[LY hz]at hc;exact⟨b,c,rfl,hb,hc⟩
theorem N3{u:V}(h:Yo K H (.tup (es.map Ax)) u):∃ua xs,u=.ref ua/\EntsAt K H es ua xs:=by
 obtain⟨ua,xs,rfl,hs,hx⟩:=DY h;refine⟨ua,xs,rfl,hs,by rw[<- hx.length,ZB],fun i e he=>?_⟩;obtain⟨x,h1,h2⟩:=hx.get (i:=i) (d:=Ax e) (by rw[ZP,he];rfl);exact⟨x,h1,Ni h2⟩
theorem EntsAt.same{ua:Addr}(h:EntsAt K H es ua xs)(s:Yb H H'):EntsAt K H' es ua xs:=⟨s.sqT h.sq,h.len,fun i e he=>by
 obtain⟨x,h1,b,c,h2,h3,h4⟩:=h.at_ i e he;exact⟨x,h1,b,c,h2,s.sqT h3,s.sqT h4⟩⟩
theorem EntsAt.frm{ua:Addr}(h:EntsAt K H es ua xs)(f:Yj d H H')(hd:H d=some o)(no:Cr o):EntsAt K H' es ua xs:=⟨Cz f hd no h.sq,h.len,fun i e he=>by
 obtain⟨x,h1,b,c,h2,h3,h4⟩:=h.at_ i e he;exact⟨x,h1,b,c,h2,Cz f hd no h3,Cz f hd no h4⟩⟩
noncomputable def Ee(K:W.Frag)(C:Addr):Sp:=fun vs H Q _=>match vs with
 | [.ref p,v,u]=>∃ls rs dx es,H p=some (.ins C dx [])/\Yf K H (gmD ls rs) v/\Gm ls rs/\Yo K H (.tup (es.map Ax)) u/\(∀e∈es,EntOk ls.length e)/\es.length<=100000/\∀Yd nd fd H',H nd=none->H fd=none->nd≠p->fd≠p->NumsOf ls.length es Yd->BrAt K C ls.length (rs.map AM) Yd H' p nd fd->Yj p H H'->Q .non H'
 | _=>False
theorem Pg:AR (Ee K C):=fun vs H Q Q' E h q=>by
 unfold Ee at *;walk_at "q"
theorem Vq:Xq P w mg base T.z33 4 (Ee K T.C_Bearing):=by
 have G_z39:=@LL P w K mg base T;refine T.z33.F.ok sc_z33 (fun vs H Q E h=>by unfold Ee at h;walk_at "e") ?_;walk_at "f";have hr_z39:=hr.mono (show 3<=_ by decide);have mo1:AR (EG K):=Wz;unfold Ee at h;walk_at "g"
 rename_i p v u;obtain⟨ls,rs,dx,es,hp,hv,G,hes,hok,hel,q⟩:=h;obtain⟨a,tl,rl,ps,rfl,g⟩:=Bl hv;have l16:=G.l16;have r16:=G.r16;have hpl:=g.len;refine⟨_,(@AF _ _ _ _ _ (Dg T.cl_Bearing T.na_Bearing_yeses (vv 0) (Ap (N':=["row"]) (own:=1) (ix:=[]) rfl (BF (K:=K) (Yl (K:=K) (vv 1) AC)) (by kernel_rfl) rfl rfl (by kernel_rfl) (fun c=>AO (i:=0) (show(["row"]:List Str).Nodup by decide +kernel) rfl (by right)) (Ac (by decide)) (fun c=>Am) (fun c=>(AI G_z39 hr_z39 rfl T.z39.m T.z39.F.kp T.z39.b .nil AG (AA (Ap (N':=["each","answer"]) (own:=2) (ix:=[]) rfl (KC (K:=K) rfl T.z_enumerate (AA (vv 0) AB)) (by kernel_rfl) rfl rfl (by kernel_rfl) (fun c=>D0 (K:=K) (n:=2) rfl (Az (AO (i:=0) (show(["each","answer"]:List Str).Nodup by decide +kernel) rfl (by right)) (Az (AO (i:=1) (show(["each","answer"]:List Str).Nodup by decide +kernel) rfl (by right)) B9))) (Ei (B6 BR (DX BR By) (Ac (by decide)) (B6 BR By (Ac (by decide)) EM))) (fun c=>D7 (BM (vv 1))) (fun c=>(vv 0))) AB))))) (@AF _ _ _ _ _ (Dg T.cl_Bearing T.na_Bearing_numbers (vv 0) Gj) (@AF _ _ _ _ _ (Dg T.cl_Bearing T.na_Bearing_found (vv 0) Gj) (@AH _ _ _ (@Be _ _ _ _ _ _ _ _ PassesOwn.never rfl (BF (K:=K) (vv 2)) (AO (i:=3) sc_z33.nd rfl (by right)) (@AF _ _ _ _ _ (@AN _ _ 4 _ _ _ _ sc_z33.nd rfl (by right) (AI G_z39 hr_z39 rfl T.z39.m T.z39.F.kp T.z39.b .nil AG (AA (Yl (K:=K) (vv 3) AC) AB)) (by rfl) (by walk_at "i")) (@AH _ _ _ (@Fv _ _ _ _ _ _ _ _ _ (C8 hu) (BN T.cl_Bearing T.na_Bearing_numbers (vv 0)) (vv 4) (Aa (Xm rfl) rfl T.z_max (by rfl) (AA (ME (C8 hu) (BN T.cl_Bearing T.na_Bearing_numbers (vv 0)) (vv 4) AC ⟨by rfl,by rfl,by rfl,by rfl⟩) (AA (Yl (K:=K) (vv 3) AC) AB))) (by rfl)))) (by intro _;rfl)))))),?_⟩;obtain⟨ua,xs,rfl,E0'⟩:=N3 hes
 -- the rows
 refine⟨_,.ref rl,.inr g.two,rfl,.inr ⟨⟨_,g.rows⟩,?_⟩⟩
 refine Cq (xs:=ps.map V.ref) (fun k zs H'=>Yb H H'/\zs=iL ((rs.take k).map AM)) ⟨Yb.refl _,rfl⟩ (fun k zs H' _ ⟨s,_⟩=>s.sqT g.rows) (fun k zs H' hk ⟨_,e⟩=>by
  rw[ZB]at hk;rw[e,Aj,ZB,ZW];exact Ag (by lia)) ?_ ?_
 ·rintro k x zs H' hx ⟨s1,rfl⟩;rw[ZP]at hx;cases e0:ps[k]? with
  | none=>rw[e0]at hx;cases hx
  | some b =>
   rw[e0]at hx;cases hx;have hk:k < rs.length:=by rw[<- hpl];exact(Zf.mp e0).1
   have er:rs[k]? = some rs[k]:=ZD hk;have hrow:=G.row _ (Zc hk);have hp0:=s1.sqT (g.row k b _ e0 er);generalize hrb:rs[k]=rb at *;refine⟨⟨_,hp0⟩,?_⟩
   refine HZ (xs:=rb.map V.bl) (fun i zs H''=>Yb H' H''/\zs=iL (whr (rb.map (· == true)) i)) ⟨Yb.refl _,rfl⟩ (fun i zs H'' _ ⟨s,_⟩=>s.sqT hp0) (fun i zs H'' hi ⟨_,e⟩=>by
    rw[ZB]at hi
    have:=EL (rb.map (· == true)) i
    rw[e,Aj];exact Ag (by lia)) ?_ ?_
   ·rintro i x zs H2 pp hx ⟨s2,rfl⟩ hpp;rw[ZP]at hx;cases e0:rb[i]? with
    | none=>rw[e0]at hx;cases hx
    | some r =>
     rw[e0]at hx;cases hx;have eg:gB (rb.map (· == true)) i=(r == true):=FV e0;refine⟨pp,_,rfl,.of AD,rfl,_,_,rfl,_,_,rfl,rfl,?_⟩;rw[Hr,Ce,eg];cases r with
     | true=>exact⟨s2.trans (Yb.upd hpp),rfl⟩
     | false=>exact⟨s2.trans (Yb.upd hpp),by show _=_++[];rw[Zw]⟩
   ·rintro zs H2 ⟨s2,rfl⟩ l hl;rw[ZB];refine⟨_,.inl (.of AD),by have:=EL (rb.map (· == true)) rb.length;lia,fun t ht=>by have:=ED ht;lia,fun H3 s3=>?_⟩;refine⟨s1.trans (s2.trans ((Yb.upd hl).trans s3)),?_⟩;rw[Zm,er,ZF,Ce];rfl
 rintro zs H2' ⟨s1,rfl⟩ yl hyl;rw[ZB,hpl,Zq];have s2:Yb H (upd H2' yl (.lst (iL (rs.map AM)))):=s1.trans (Yb.upd hyl);have gy2:upd H2' yl (.lst (iL (rs.map AM))) yl=some (.lst (iL (rs.map AM))):=AD;generalize upd H2' yl (.lst (iL (rs.map AM)))=H2 at *;have hp2:=s2 _ _ hp;have ny:yl≠p:=Bg gy2 hp2 (by intro z;cases z);refine⟨dx,_,hp2,(show 0 < 1000 by decide),?_⟩;have f3:Yj p H2 (upd H2 p (.ins T.C_Bearing dx (AZ "yeses" (.ref yl) []))):=Yj.updT;have hp3:upd H2 p (.ins T.C_Bearing dx (AZ "yeses" (.ref yl) [])) p=some (.ins T.C_Bearing dx [("yeses",.ref yl)]):=by rw[pb1];exact AD
 have E3:=(E0'.same s2).frm f3 hp2 Di;have gy3:=f3 _ _ ny gy2;have F3:Yj p H (upd H2 p (.ins T.C_Bearing dx (AZ "yeses" (.ref yl) []))):=(Bd s2).trans f3;generalize upd H2 p (.ins T.C_Bearing dx (AZ "yeses" (.ref yl) []))=H3 at *
 -- the dicts
 intro nd hnd;have s4:Yb H3 (upd H3 nd (.dK [])):=Yb.upd hnd;have nnp:nd≠p:=fun e=>by rw[e,hp3]at hnd;cases hnd
 have gn4:upd H3 nd (.dK []) nd=some (.dK []):=AD
 have hn0:H nd=none:=by
  cases e:H nd with
  | none=>rfl
  | some o=>rw[F3 nd o nnp e]at hnd;cases hnd
 generalize upd H3 nd (.dK [])=H4 at *;have hp4:=s4 _ _ hp3;refine⟨dx,_,hp4,(show 1 < 1000 by decide),?_⟩;have f5:Yj p H4 (upd H4 p (.ins T.C_Bearing dx (AZ "numbers" (.ref nd) [("yeses",.ref yl)]))):=Yj.updT;have hp5:upd H4 p (.ins T.C_Bearing dx (AZ "numbers" (.ref nd) [("yeses",.ref yl)])) p=some (.ins T.C_Bearing dx [("yeses",.ref yl),("numbers",.ref nd)]):=by rw[pb2];exact AD
 have E5:=(E3.same s4).frm f5 hp4 Di;have gy5:=f5 _ _ ny (s4 _ _ gy3);have gn5:=f5 _ _ nnp gn4;have F5:Yj p H (upd H4 p (.ins T.C_Bearing dx (AZ "numbers" (.ref nd) [("yeses",.ref yl)]))):=F3.trans ((Bd s4).trans f5);generalize upd H4 p (.ins T.C_Bearing dx (AZ "numbers" (.ref nd) [("yeses",.ref yl)]))=H5 at *;intro fd hfd;have s6:Yb H5 (upd H5 fd (.dK [])):=Yb.upd hfd;have nfp:fd≠p:=fun e=>by rw[e,hp5]at hfd;cases hfd
 have nnf:nd≠fd:=fun e=>by rw[<- e,gn5]at hfd;cases hfd
 have gf6:upd H5 fd (.dK []) fd=some (.dK []):=AD
 have hf0:H fd=none:=by
  cases e:H fd with
  | none=>rfl
  | some o=>rw[F5 fd o nfp e]at hfd;cases hfd
 generalize upd H5 fd (.dK [])=H6 at *;have hp6:=s6 _ _ hp5;refine⟨dx,_,hp6,(show 2 < 1000 by decide),?_⟩;have f7:Yj p H6 (upd H6 p (.ins T.C_Bearing dx (AZ "found" (.ref fd) [("yeses",.ref yl),("numbers",.ref nd)]))):=Yj.updT;have hp7:upd H6 p (.ins T.C_Bearing dx (AZ "found" (.ref fd) [("yeses",.ref yl),("numbers",.ref nd)])) p=some (.ins T.C_Bearing dx (CC (.ref yl) (.ref nd) (.ref fd))):=by rw[pb3];exact AD
 have E7:=(E5.same s6).frm f7 hp6 Di;have gy7:=f7 _ _ ny (s6 _ _ gy5);have gn7:=f7 _ _ nnp (s6 _ _ gn5);have gf7:=f7 _ _ nfp gf6;have F7:Yj p H (upd H6 p (.ins T.C_Bearing dx (AZ "found" (.ref fd) [("yeses",.ref yl),("numbers",.ref nd)]))):=F5.trans ((Bd s6).trans f7);generalize upd H6 p (.ins T.C_Bearing dx (AZ "found" (.ref fd) [("yeses",.ref yl),("numbers",.ref nd)]))=H7 at *;clear f3 f5 f7 s4 s6 hp2 hp3 hp4 hp5 hp6 gy2 gy3 gy5 gn4 gn5 gf6 F3 F5 E3 E5
 -- the entries
 refine .inr ⟨⟨_,E7.sq⟩,?_⟩;refine Ht (xs:=xs) (fun j Z H'=>∃(z3 z4:Option V) (Yd:List (Key × V)),Z=[some (.ref p),some (.ref a),some (.ref ua),z3,z4]/\EntsAt K H' es ua xs/\H' p=some (.ins T.C_Bearing dx (CC (.ref yl) (.ref nd) (.ref fd)))/\H' yl=some (.lst (iL (rs.map AM)))/\H' nd=some (.dK Yd)/\H' fd=some (.dK [])/\NumsOf ls.length (es.take j) Yd/\Yj p H H') ⟨none,none,[],rfl,E7,hp7,gy7,gn7,gf7,⟨⟨by simp,(fun e he=>by cases he)⟩,(fun S k he=>by cases he),(fun e he=>by rw[List.take_zero]at he;cases he)⟩,F7⟩ (fun j Z H' _ ⟨_,_,_,_,e,_⟩=>e.sq) ?_ ?_
 ·rintro j x Z H8 hx ⟨z3,z4,Yd,rfl,E8,hp8,gy8,gn8,gf8,N8,F8⟩;have hj:j < es.length:=by rw[<- E7.len];exact(Zf.mp hx).1
  have ee:es[j]? = some es[j]:=ZD hj;obtain⟨x',ex,b,c,rfl,hb,hc⟩:=E8.at_ j _ ee;rw[hx]at ex;cases ex;have he:=hok _ (Zc hj);generalize es[j]=e at *;have Yk:e.1.length<=ls.length:=D5 ls.length e.1 (he.up.imp fun h=>ZT h) he.lt;refine⟨_,.ref c,.inr hb,rfl,e.1,.inr hc,by lia,fun t ht=>by have:=he.lt t ht;lia,fun H9 s9=>?_⟩;have hp9:=s9 _ _ hp8;have gn9:=s9 _ _ gn8;dsimp only[AT];refine⟨dx,_,_,hp9,lb2 _ _ _,nd,rfl,OW (.inl gn9),valV Yd (kN (msk e.1)),NS (k:=kN (msk e.1)) (.inl gn9),?_⟩;have hb9:=s9.sqT hb;have hkl:=Hf N8.nd (fun e he=>by obtain⟨S,k,h1,h2,_⟩:=N8.ok e he;exact⟨S,_,h1,h2⟩) l16
  have fin:∀(k0:Int),((valV Yd (kN (msk e.1))=none/\k0=0)\/valV Yd (kN (msk e.1))=some (.int k0))->∃(z3 z4:Option V) (kvs':List (Key × V)),[some (V.ref p),some (V.ref a),some (V.ref ua),some (V.ref b),some (V.int (msk e.1:Nat))]=[some (V.ref p),some (V.ref a),some (V.ref ua),z3,z4]/\EntsAt K (upd H9 nd (.dK (Al Yd (kN (msk e.1)) (.int (max k0 e.2))))) es ua xs/\upd H9 nd (.dK (Al Yd (kN (msk e.1)) (.int (max k0 e.2)))) p=some (.ins T.C_Bearing dx (CC (.ref yl) (.ref nd) (.ref fd)))/\upd H9 nd (.dK (Al Yd (kN (msk e.1)) (.int (max k0 e.2)))) yl=some (.lst (iL (rs.map AM)))/\upd H9 nd (.dK (Al Yd (kN (msk e.1)) (.int (max k0 e.2)))) nd=some (.dK kvs')/\upd H9 nd (.dK (Al Yd (kN (msk e.1)) (.int (max k0 e.2)))) fd=some (.dK [])/\NumsOf ls.length (es.take (j+1)) kvs'/\Yj p H (upd H9 nd (.dK (Al Yd (kN (msk e.1)) (.int (max k0 e.2))))):=by
   intro k0 hk0;have fu:Yj nd H9 (upd H9 nd (.dK (Al Yd (kN (msk e.1)) (.int (max k0 e.2))))):=Yj.updT;refine⟨_,_,_,rfl,(E8.same s9).frm fu gn9 GB,fu _ _ (Ne.symm nnp) hp9,fu _ _ (Bg (s9 _ _ gy8) gn9 (by intro z;cases z)) (s9 _ _ gy8),AD,fu _ _ (Ne.symm nnf) (s9 _ _ gf8),?_,fun b' o hb' e'=>?_⟩
   ·rw[Zm,ee];exact N8.put he hk0
   ·have h8:=F8 b' o hb' e';rw[AJ (fun z=>by rw[z,hn0]at e';cases e')];exact s9 _ _ h8
  cases ev:valV Yd (kN (msk e.1)) with
  | none =>
   refine⟨_,_,.inr hb9,AW (n:=1) rfl rfl,?_⟩;refine⟨dx,_,_,hp9,lb2 _ _ _,nd,_,rfl,DPut.k (k:=kN (msk e.1)) gn9 hkl,?_⟩;exact fin 0 (.inl ⟨ev,rfl⟩)
  | some v =>
   obtain⟨S,k,e1,_,hk⟩:=N8.ok _ (EN ev);have e2:v=V.int k:=congrArg Prod.snd e1;subst e2;refine⟨_,_,.inr hb9,AW (n:=1) rfl rfl,?_⟩;refine⟨dx,_,_,hp9,lb2 _ _ _,nd,_,rfl,DPut.k (k:=kN (msk e.1)) gn9 hkl,?_⟩;exact fin k (.inr ev)
 ·rintro Z H8 ⟨z3,z4,Yd,rfl,E8,hp8,gy8,gn8,gf8,N8,F8⟩;rw[E7.len,Zq]at N8;refine q Yd nd fd H8 hn0 hf0 nnp nfp N8 ⟨⟨dx,yl,[],hp8,gy8,.inl gn8,gf8,⟨by simp,fun e he=>by cases he⟩⟩,N8.toNumsOk,l16,by rw[ZB];exact r16,nnf,fun y hy=>?_⟩ F8;obtain⟨r,hr',rfl⟩:=ZJ.mp hy;have hrow:=G.row r hr';unfold AM
  have:=(FQ (N:=ls.length) (IX (r.map (· == true)) r.length) (fun t ht=>by rw[<- hrow];exact ED ht)).1
  exact this
noncomputable def Dq(rs:List (List Bool))(k:Nat):List Bool:=rs.map fun r=>gB r k
noncomputable def CU(rs:List (List Bool))(n:Nat):List Dv:=(List.range n).map fun k=>.lst ((Dq rs k).map Dv.bl)
noncomputable def Bh(ls:List Int)(rs:List (List Bool))(i j:Nat):Prop:=i < j/\j < ls.length/\AE ls i≠AE ls j/\Dq rs i=Dq rs j
noncomputable def Fg(ls:List Int)(rs:List (List Bool))(i j:Nat):Prop:=Bh ls rs i j/\∀i' j',Bh ls rs i' j'->i < i'\/i=i'/\j<=j'
noncomputable def BE(ls:List Int)(rs:List (List Bool)):Prop:=∀i j,¬Bh ls rs i j
theorem Kv:∀as bs:List Bool,BO (as.map Dv.bl) (bs.map Dv.bl)=true->as=bs
 | [],[],_=>rfl
 | [],u::us,h=>by simp[BO]at h
 | t::ts,[],h=>by simp[BO]at h
 | t::ts,u::us,h=>by
  rw[Za,Za,BO,eqD,ZQ,beq_iff_eq]at h;rw[h.1,Kv ts us h.2]
theorem MI(a b:List Bool):eqD (.lst (a.map Dv.bl)) (.lst (b.map Dv.bl))=decide (a=b):=by
 rw[Fh,ZBG,decide_eq_true_eq];exact⟨Kv a b,fun e=>by rw[e];exact GO _⟩
theorem K9(rs:List (List Bool))(n:Nat):CU rs (n+1)=CU rs n++[.lst ((Dq rs n).map Dv.bl)]:=by unfold CU;rw[ZBN,ZF];rfl
theorem GZ(rs:List (List Bool))(n:Nat):(CU rs n).length=n:=by unfold CU;rw[ZB,ZBB]
theorem Gb(rs:List (List Bool))(h:k < n):(CU rs n)[k]? = some (.lst ((Dq rs k).map Dv.bl)):=by unfold CU;rw[ZP,List.getElem?_range h];rfl
theorem C6(h:i < ls.length):atI (ls.map V.int) ((i:Nat):Int)=some (.int (AE ls i)):=by
 refine AW rfl ?_;rw[ZP,ZD h];unfold AE;rw[ZN,ZD h];rfl
noncomputable def C2(K:W.Frag):Sp:=fun vs H Q _=>match vs with
 | [v]=>∃ls rs,Yf K H (gmD ls rs) v/\Gm ls rs/\(∀H',Yb H H'->BE ls rs->Q .non H')/\∀(i j:Nat) t H',Fg ls rs i j->H t=none->Yb H H'->H' t=some (.tup [.int (i:Nat),.int (j:Nat)])->Q (.ref t) H'
 | _=>False
theorem PP:AR (C2 K):=fun vs H Q Q' E h q=>by
 unfold C2 at *;split at q
 ·obtain⟨ls,rs,h1,h2,q1,q2⟩:=q;exact⟨ls,rs,h1,h2,fun H' x y=>h _ _ (q1 H' x y),fun i j t H' x1 x2 x3 x4=>h _ _ (q2 i j t H' x1 x2 x3 x4)⟩
 ·exact q.elim
theorem Na{tl rl:Addr}{ps:List Addr}(g:GmAt K H ls rs a tl rl ps)(G:Gm ls rs)(hk:k < ls.length){q:Addr}(hj:ps[j]? = some q) :
 ∃r,rs[j]? = some r/\Yp K H q (r.map V.bl)/\atI (r.map V.bl) ((k:Nat):Int)=some (.bl (gB r k)):=by
 have hj':j < rs.length:=by rw[<- g.len];exact(Zf.mp hj).1
 have er:rs[j]? = some rs[j]:=ZD hj';exact⟨rs[j],er,g.row j q _ hj er,FU (by rw[G.row _ (Zc hj')];exact hk)⟩
theorem Nw{ps:List Addr}{x:V}(h:(ps.map V.ref)[k]? = some x):∃q,ps[k]? = some q/\x=.ref q:=by
 rw[ZP]at h;cases e:ps[k]? with
 | none=>rw[e]at h;cases h
 | some q=>rw[e]at h;cases h;exact⟨q,rfl,rfl⟩
theorem OQ:Xp P w base T.z34 1 (C2 K):=by
 refine T.z34.F.ok sc_z34 (fun vs H Q E h=>by unfold C2 at h;walk_at "e") ?_;walk_at "f";unfold C2 at h;walk_at "g"
 rename_i v;obtain⟨ls,rs,hv,G,q1,q2⟩:=h;obtain⟨a,tl,rl,ps,rfl,g⟩:=Bl hv;have l16:=G.l16;have r16:=G.r16;refine⟨_,(@AF _ _ _ _ _ (@AN _ _ 1 _ _ _ _ sc_z34.nd rfl (by right) (Yl (K:=K) (vv 0) AC) (by rfl) (by walk_at "i")) (@AF _ _ _ _ _ (@Da _ _ _ _ _ _ _ (["thing","game"]) 1 [0] _ _ _ _ 2 _ _ _ rfl sc_z34.nd rfl rfl (BC rfl T.z_range (AA (Aa (As (K:=K)) rfl T.z_len (by rfl) (AA (vv 1) AB)) AB)) (by kernel_rfl) rfl rfl (by kernel_rfl) (fun c=>AO (i:=0) (show(["thing","game"]:List Str).Nodup by decide +kernel) rfl (by right)) (Ac (by decide)) (fun c=>Am) (fun c=>(@Ap _ _ _ _ _ _ _ (["row","thing"]) 1 [0] _ _ _ _ rfl (BF (K:=K) (Yl (K:=K) (vv 1) AC)) (by kernel_rfl) rfl rfl (by kernel_rfl) (fun c=>AO (i:=0) (show(["row","thing"]:List Str).Nodup by decide +kernel) rfl (by right)) (Ac (by decide)) (fun c=>Am) (fun c=>(Yl (K:=K) (vv 0) (vv 1))) (by intro _;rfl))) (by rfl) (by intro _;rfl)) (@AF _ _ _ _ _ (@Be _ _ _ _ _ _ _ _ PassesOwn.never rfl (BC rfl T.z_range (AA (Aa (As (K:=K)) rfl T.z_len (by rfl) (AA (vv 1) AB)) AB)) (AO (i:=3) sc_z34.nd rfl (by right)) (@AH _ _ _ (@Be _ _ _ _ _ _ _ _ PassesOwn.never rfl (HY rfl T.z_range (AA (AQ (BA (K:=K)) (vv 3) AC) (AA (Aa (As (K:=K)) rfl T.z_len (by rfl) (AA (vv 1) AB)) AB))) (AO (i:=4) sc_z34.nd rfl (by right)) (@AH _ _ _ (@Ao _ _ _ _ _ _ _ _ (PW.pt (DS (Ae (kNe (K:=K) hu) (Yl (K:=K) (vv 1) (vv 3)) (Yl (K:=K) (vv 1) (vv 4))) (Dk (Ae (kEq (K:=K) hu) (Yl (K:=K) (vv 2) (vv 3)) (Yl (K:=K) (vv 2) (vv 4)))))) (@AH _ _ _ (@AL _ _ _ _ (BD (AA (vv 3) (AA (vv 4) AB))))) An)) (by intro _;rfl))) (by intro _;rfl)) (@AH _ _ _ (@AL _ _ _ _ FG))))),?_⟩;refine⟨_,.ref tl,.inr g.two,rfl,?_⟩;dsimp only[AT];refine AX (fun Z H'=>∃(l:Addr) (xs:List V),Z=[some (.ref a),some (.ref tl),some (.ref l),none,none]/\Yb H H'/\H' l=some (.lst xs)/\Yc K H' (CU rs ls.length) xs) ?_ ?_ (by walk_at "sm")
 ·refine⟨ls.length,.inr ⟨_,g.lab,by rw[ZB]⟩,(ls.length:Int),rfl,by lia,by lia,?_⟩;rw[ZZ];refine BW (fun k ys H'=>Yb H H'/\Yc K H' (CU rs k) ys) ⟨Yb.refl _,Ad⟩ (fun k ys H' hk ⟨_,R⟩=>by rw[<- R.length,GZ];exact Ag (by lia)) ?_ ?_
  ·rintro k ys H1 hk ⟨s1,R1⟩;have g1:=g.same s1;have e0:(0:Int)+(k:Int)=((k:Nat):Int):=by lia
   rw[e0];refine⟨_,.ref rl,.inr g1.two,rfl,.inr ⟨⟨_,g1.rows⟩,?_⟩⟩
   refine Cq (xs:=ps.map V.ref) (fun j zs H'=>H'=H1/\zs=((rs.take j).map fun r=>gB r k).map V.bl) ⟨rfl,rfl⟩ (fun j zs H' _ ⟨e,_⟩=>by rw[e];exact g1.rows) (fun j zs H' hj ⟨_,e⟩=>by
    rw[ZB,g1.len]at hj;rw[e,ZB,ZB,ZW];exact Ag (by lia)) ?_ ?_
   ·rintro j x zs H' hx ⟨rfl,rfl⟩;obtain⟨b,hb,rfl⟩:=Nw hx;obtain⟨r,er,hs,ha⟩:=Na g1 G hk hb;refine⟨_,.bl (gB r k),.inr hs,ha,rfl,?_⟩;rw[Zm,er,ZF,ZF];rfl
   ·rintro zs H' ⟨rfl,rfl⟩ l hl;rw[ZB,g1.len,Zq];have s2:Yb H' (upd H' l (.lst ((rs.map fun r=>gB r k).map V.bl))):=Yb.upd hl;refine⟨s1.trans s2,?_⟩;rw[K9];exact Yc.append (Yc.same s2 _ _ R1) (AU (by unfold Yf;exact⟨l,_,rfl,.of AD,Bx _⟩) Ad)
  ·rintro ys H1 ⟨s1,R1⟩ l hl;have s2:Yb H1 (upd H1 l (.lst ys)):=Yb.upd hl;exact⟨l,ys,rfl,s1.trans s2,AD,Yc.same s2 _ _ R1⟩
 rintro Z H1 ⟨l,xs,rfl,s1,gl,R⟩;have g1:=g.same s1;refine AX (fun Z H'=>H'=H1/\(∃x y,Z=[some (.ref a),some (.ref tl),some (.ref l),x,y])/\BE ls rs) ?_ ?_ (by walk_at "sm");rotate_left
 ·rintro Z H' ⟨rfl,⟨x,y,rfl⟩,he⟩;exact q1 _ s1 he
 refine⟨ls.length,.inr ⟨_,g1.lab,by rw[ZB]⟩,(ls.length:Int),rfl,by lia,by lia,?_⟩;rw[ZZ];refine C3 (fun k Z H'=>H'=H1/\(∃x y,Z=[some (.ref a),some (.ref tl),some (.ref l),x,y])/\∀i' j',i' < k->¬Bh ls rs i' j') ⟨rfl,⟨none,none,rfl⟩,fun i' j' h=>absurd h (ZBT _)⟩ ?_ ?_;rotate_left
 ·rintro Z H' ⟨rfl,hσ,h⟩;exact⟨rfl,hσ,fun i j hb=>h i j (by have:=hb.1;have:=hb.2.1;lia) hb⟩
 rintro i Z H' hi ⟨rfl,⟨x,y,rfl⟩,hno⟩;have e0:(0:Int)+(i:Int)=((i:Nat):Int):=by lia
 rw[e0];refine⟨ls.length,.inr ⟨_,g1.lab,by rw[ZB]⟩,((i:Int)+1),(ls.length:Int),rfl,⟨by lia,by lia,by lia,by lia⟩,?_⟩;obtain⟨W,hW⟩:∃W:Nat,((ls.length:Int) - ((i:Int)+1)).toNat=W:=⟨_,rfl⟩;rw[hW];refine C3 (fun k Z H2=>H2=H'/\(∃y,Z=[some (.ref a),some (.ref tl),some (.ref l),some (.int (i:Nat)),y])/\∀j',j' < i+1+k->¬Bh ls rs i j') ⟨rfl,⟨y,rfl⟩,fun j' h hb=>by have:=hb.1;lia⟩ ?_ ?_;rotate_left
 ·rintro Z H2 ⟨rfl,⟨y,rfl⟩,h⟩;refine⟨rfl,⟨_,y,rfl⟩,fun i' j' hi' hb=>?_⟩
  rcases Zu i' i with z | z
  ·exact hno i' j' z hb
  ·have:i'=i:=by lia
   subst this;exact h j' (by have:=hb.2.1;lia) hb
 rintro k Z H2 hk ⟨rfl,⟨y,rfl⟩,hno2⟩;have e1:(i:Int)+1+(k:Int)=((i+1+k:Nat):Int):=by lia
 rw[e1];have hj:i+1+k < ls.length:=by lia
 have next:¬Bh ls rs i (i+1+k)->∀j',j' < i+1+(k+1)->¬Bh ls rs i j':=fun h j' hj'=>by
  rcases Zu j' (i+1+k) with z | z
  ·exact hno2 j' z
  ·have:j'=i+1+k:=by lia
   rw[this];exact h
 refine⟨_,.int (AE ls i),.inr g1.lab,C6 hi,_,.int (AE ls (i+1+k)),.inr g1.lab,C6 hj,?_⟩;refine Ak (fun e=>?_) (fun e=>?_)
 ·have ne:AE ls i≠AE ls (i+1+k):=by simpa using e
  obtain⟨x1,hx1,r1⟩:=R.get (Gb rs hi);obtain⟨x2,hx2,r2⟩:=R.get (Gb rs hj);refine⟨_,x1,.inl (.of gl),AW rfl hx1,_,x2,.inl (.of gl),AW rfl hx2,?_⟩;have r1':=r1;have r2':=r2;unfold Yf at r1' r2';obtain⟨b1,_,rfl,_⟩:=r1';obtain⟨b2,_,rfl,_⟩:=r2';refine⟨_,_,r1,r2,by unfold A4;rw[GY];lia,?_⟩;rw[MI,Z2];refine Ak (fun e2=>?_) (fun e2=>?_)
  ·have hb:Bh ls rs i (i+1+k):=⟨by lia,hj,ne,ZR e2⟩;refine⟨smq rfl,fun t ht=>?_⟩;refine q2 i (i+1+k) t _ ⟨hb,fun i' j' hb'=>?_⟩ (s1.free ht) (s1.trans (Yb.upd ht)) AD
   rcases ZBH i' i with z | z | z
   ·exact absurd hb' (hno i' j' z)
   ·subst z;exact .inr ⟨rfl,Nat.le_of_not_lt fun w=>hno2 j' w hb'⟩
   ·exact .inl z
  ·exact⟨rfl,⟨_,rfl⟩,next fun hb=>e2 (ZL hb.2.2.2)⟩
 ·have eq:AE ls i=AE ls (i+1+k):=by simpa using e
  exact⟨rfl,⟨_,rfl⟩,next fun hb=>hb.2.2.1 eq⟩
theorem VE:Xp P w base T.z53 1 (C2 K):=by
 refine T.z53.F.ok sc_z53 (fun vs H Q E h=>by unfold C2 at h;walk_at "e") ?_;walk_at "f";unfold C2 at h;walk_at "g"
 rename_i v;obtain⟨ls,rs,hv,G,q1,q2⟩:=h;obtain⟨a,tl,rl,ps,rfl,g⟩:=Bl hv;have l16:=G.l16;have r16:=G.r16;refine⟨_,(@AF _ _ _ _ _ (@Da _ _ _ _ _ _ _ (["_law_k","_law_game_here"]) 1 [0] _ _ _ _ 1 _ _ _ rfl sc_z53.nd rfl rfl (BC rfl T.z_range (AA (Aa (As (K:=K)) rfl T.z_len (by rfl) (AA (Yl (K:=K) (vv 0) AC) AB)) AB)) (by kernel_rfl) rfl rfl (by kernel_rfl) (fun c=>AO (i:=0) (show(["_law_k","_law_game_here"]:List Str).Nodup by decide +kernel) rfl (by right)) (Ac (by decide)) (fun c=>Am) (fun c=>(@Ap _ _ _ _ _ _ _ (["_law_row","_law_k"]) 1 [0] _ _ _ _ rfl (BF (K:=K) (Yl (K:=K) (vv 1) AC)) (by kernel_rfl) rfl rfl (by kernel_rfl) (fun c=>AO (i:=0) (show(["_law_row","_law_k"]:List Str).Nodup by decide +kernel) rfl (by right)) (Ac (by decide)) (fun c=>Am) (fun c=>(Yl (K:=K) (vv 0) (vv 1))) (by intro _;rfl))) (by rfl) (by intro _;rfl)) (@AF _ _ _ _ _ (@Be _ _ _ _ _ _ _ _ PassesOwn.never rfl (BC rfl T.z_range (AA (Aa (As (K:=K)) rfl T.z_len (by rfl) (AA (vv 1) AB)) AB)) (AO (i:=2) sc_z53.nd rfl (by right)) (@AH _ _ _ (@Be _ _ _ _ _ _ _ _ PassesOwn.never rfl (HY rfl T.z_range (AA (AQ (BA (K:=K)) (vv 2) AC) (AA (Aa (As (K:=K)) rfl T.z_len (by rfl) (AA (vv 1) AB)) AB))) (AO (i:=3) sc_z53.nd rfl (by right)) (@AH _ _ _ (@Ao _ _ _ _ _ _ _ _ (PW.pt (DS (Ae (kEq (K:=K) hu) (Yl (K:=K) (vv 1) (vv 2)) (Yl (K:=K) (vv 1) (vv 3))) (Dk (Ae (kNe (K:=K) hu) (Yl (K:=K) (Yl (K:=K) (vv 0) AC) (vv 2)) (Yl (K:=K) (Yl (K:=K) (vv 0) AC) (vv 3)))))) (@AH _ _ _ (@AL _ _ _ _ (BD (AA (vv 2) (AA (vv 3) AB))))) An)) (by intro _;rfl))) (by intro _;rfl)) (@AH _ _ _ (@AL _ _ _ _ FG)))),?_⟩;refine AX (fun Z H'=>∃(l:Addr) (xs:List V),Z=[some (.ref a),some (.ref l),none,none]/\Yb H H'/\H' l=some (.lst xs)/\Yc K H' (CU rs ls.length) xs) ?_ ?_ (by walk_at "sm")
 ·refine⟨_,.ref tl,.inr g.two,rfl,ls.length,.inr ⟨_,g.lab,by rw[ZB]⟩,(ls.length:Int),rfl,by lia,by lia,?_⟩;rw[ZZ];refine BW (fun k ys H'=>Yb H H'/\Yc K H' (CU rs k) ys) ⟨Yb.refl _,Ad⟩ (fun k ys H' hk ⟨_,R⟩=>by rw[<- R.length,GZ];exact Ag (by lia)) ?_ ?_
  ·rintro k ys H1 hk ⟨s1,R1⟩;have g1:=g.same s1;have e0:(0:Int)+(k:Int)=((k:Nat):Int):=by lia
   rw[e0];refine⟨_,.ref rl,.inr g1.two,rfl,.inr ⟨⟨_,g1.rows⟩,?_⟩⟩
   refine Cq (xs:=ps.map V.ref) (fun j zs H'=>H'=H1/\zs=((rs.take j).map fun r=>gB r k).map V.bl) ⟨rfl,rfl⟩ (fun j zs H' _ ⟨e,_⟩=>by rw[e];exact g1.rows) (fun j zs H' hj ⟨_,e⟩=>by
    rw[ZB,g1.len]at hj;rw[e,ZB,ZB,ZW];exact Ag (by lia)) ?_ ?_
   ·rintro j x zs H' hx ⟨rfl,rfl⟩;obtain⟨b,hb,rfl⟩:=Nw hx;obtain⟨r,er,hs,ha⟩:=Na g1 G hk hb;refine⟨_,.bl (gB r k),.inr hs,ha,rfl,?_⟩;rw[Zm,er,ZF,ZF];rfl
   ·rintro zs H' ⟨rfl,rfl⟩ l hl;rw[ZB,g1.len,Zq];have s2:Yb H' (upd H' l (.lst ((rs.map fun r=>gB r k).map V.bl))):=Yb.upd hl;refine⟨s1.trans s2,?_⟩;rw[K9];exact Yc.append (Yc.same s2 _ _ R1) (AU (by unfold Yf;exact⟨l,_,rfl,.of AD,Bx _⟩) Ad)
  ·rintro ys H1 ⟨s1,R1⟩ l hl;have s2:Yb H1 (upd H1 l (.lst ys)):=Yb.upd hl;exact⟨l,ys,rfl,s1.trans s2,AD,Yc.same s2 _ _ R1⟩
 rintro Z H1 ⟨l,xs,rfl,s1,gl,R⟩;have g1:=g.same s1;refine AX (fun Z H'=>H'=H1/\(∃x y,Z=[some (.ref a),some (.ref l),x,y])/\BE ls rs) ?_ ?_ (by walk_at "sm");rotate_left
 ·rintro Z H' ⟨rfl,⟨x,y,rfl⟩,he⟩;exact q1 _ s1 he
 refine⟨ls.length,.inl ⟨_,.of gl,by rw[<- R.length,GZ]⟩,(ls.length:Int),rfl,by lia,by lia,?_⟩;rw[ZZ];refine C3 (fun k Z H'=>H'=H1/\(∃x y,Z=[some (.ref a),some (.ref l),x,y])/\∀i' j',i' < k->¬Bh ls rs i' j') ⟨rfl,⟨none,none,rfl⟩,fun i' j' h=>absurd h (ZBT _)⟩ ?_ ?_;rotate_left
 ·rintro Z H' ⟨rfl,hσ,h⟩;exact⟨rfl,hσ,fun i j hb=>h i j (by have:=hb.1;have:=hb.2.1;lia) hb⟩
 rintro i Z H' hi ⟨rfl,⟨x,y,rfl⟩,hno⟩;have e0:(0:Int)+(i:Int)=((i:Nat):Int):=by lia
 rw[e0];refine⟨ls.length,.inl ⟨_,.of gl,by rw[<- R.length,GZ]⟩,((i:Int)+1),(ls.length:Int),rfl,⟨by lia,by lia,by lia,by lia⟩,?_⟩;obtain⟨W,hW⟩:∃W:Nat,((ls.length:Int) - ((i:Int)+1)).toNat=W:=⟨_,rfl⟩;rw[hW];refine C3 (fun k Z H2=>H2=H'/\(∃y,Z=[some (.ref a),some (.ref l),some (.int (i:Nat)),y])/\∀j',j' < i+1+k->¬Bh ls rs i j') ⟨rfl,⟨y,rfl⟩,fun j' h hb=>by have:=hb.1;lia⟩ ?_ ?_;rotate_left
 ·rintro Z H2 ⟨rfl,⟨y,rfl⟩,h⟩;refine⟨rfl,⟨_,y,rfl⟩,fun i' j' hi' hb=>?_⟩
  rcases Zu i' i with z | z
  ·exact hno i' j' z hb
  ·have:i'=i:=by lia
   subst this;exact h j' (by have:=hb.2.1;lia) hb
 rintro k Z H2 hk ⟨rfl,⟨y,rfl⟩,hno2⟩;have e1:(i:Int)+1+(k:Int)=((i+1+k:Nat):Int):=by lia
 rw[e1];have hj:i+1+k < ls.length:=by lia
 have next:¬Bh ls rs i (i+1+k)->∀j',j' < i+1+(k+1)->¬Bh ls rs i j':=fun h j' hj'=>by
  rcases Zu j' (i+1+k) with z | z
  ·exact hno2 j' z
  ·have:j'=i+1+k:=by lia
   rw[this];exact h
 obtain⟨x1,hx1,r1⟩:=R.get (Gb rs hi);obtain⟨x2,hx2,r2⟩:=R.get (Gb rs hj);refine⟨_,x1,.inl (.of gl),AW rfl hx1,_,x2,.inl (.of gl),AW rfl hx2,?_⟩;have r1':=r1;have r2':=r2;unfold Yf at r1' r2';obtain⟨b1,_,rfl,_⟩:=r1';obtain⟨b2,_,rfl,_⟩:=r2';refine⟨_,_,r1,r2,by unfold A4;rw[GY];lia,?_⟩;rw[MI,Z2];refine Ak (fun e2=>?_) (fun e2=>?_)
 ·refine⟨_,.ref tl,.inr g1.two,rfl,_,.int (AE ls i),.inr g1.lab,C6 hi,_,.ref tl,.inr g1.two,rfl,_,.int (AE ls (i+1+k)),.inr g1.lab,C6 hj,?_⟩;refine Ak (fun e=>?_) (fun e=>?_)
  ·have ne:AE ls i≠AE ls (i+1+k):=by simpa using e
   have hb:Bh ls rs i (i+1+k):=⟨by lia,hj,ne,ZR e2⟩;refine⟨smq rfl,fun t ht=>?_⟩;refine q2 i (i+1+k) t _ ⟨hb,fun i' j' hb'=>?_⟩ (s1.free ht) (s1.trans (Yb.upd ht)) AD
   rcases ZBH i' i with z | z | z
   ·exact absurd hb' (hno i' j' z)
   ·subst z;exact .inr ⟨rfl,Nat.le_of_not_lt fun w=>hno2 j' w hb'⟩
   ·exact .inl z
  ·have eq:AE ls i=AE ls (i+1+k):=by simpa using e
   exact⟨rfl,⟨_,rfl⟩,next fun hb=>hb.2.2.1 eq⟩
 ·exact⟨rfl,⟨_,rfl⟩,next fun hb=>e2 (ZL hb.2.2.2)⟩
noncomputable def Dt(K:W.Frag):Sp:=fun vs H Q _=>match vs with
 | [v]=>∃ls rs,Yf K H (gmD ls rs) v/\Gm ls rs/\∀(b:Bool) H',Yb H H'->(b=true ↔ BE ls rs)->Q (.bl b) H'
 | _=>False
theorem Rq:AR (Dt K):=fun vs H Q Q' E h q=>by
 unfold Dt at *;walk_at "q"
theorem RI:Xp P w base T.z68 2 (Dt K):=by
 refine T.z68.F.ok SN (fun vs H Q E h=>by unfold Dt at h;walk_at "e") ?_;walk_at "f";unfold Dt at h;walk_at "g"
 rename_i v;obtain⟨ls,rs,hv,G,q⟩:=h;refine⟨_,(@AH _ _ _ (@AL _ _ _ _ (A7 WO (AI (@OQ P w K mg base T) (hr.mono (show 1<=_ by decide)) rfl T.z34.m T.z34.F.kp T.z34.b .nil AG (AA (vv 0) AB)) FG))),?_⟩;refine⟨ls,rs,hv,G,fun H' s1 he=>q _ H' s1 ⟨fun _=>he,fun _=>rfl⟩,fun i j t H' hf ht s1 gt=>q _ H' s1 ⟨fun z=>?_,fun he=>absurd hf.1 (he i j)⟩⟩;cases z
noncomputable def Ci(ls:List Int)(rs:List (List Bool)):Nat->Bool:=fun j=>by classical exact decide (∃i,Bh ls rs i j)
theorem badS_iff:Ci ls rs j=true ↔ ∃i,Bh ls rs i j:=by unfold Ci;simp
theorem Sr{S S':Nat->Bool}(h:∀k,S' k=true->S k=true):Aq N S'<=Aq N S:=by
 induction N with
 | zero=>exact ZE _
 | succ N ih =>
  rw[FJ,FJ];cases e:S' N with
  | false=>simp;lia
  | true=>rw[h N e];simp;lia
theorem TZ(hj:j < ls.length)(x:Int)(k:Nat):AE (ls.set j x) k=if k=j then x else AE ls k:=by
 unfold AE;rw[ZN,ZN,List.getElem?_set]
 by_cases e:j=k
 ·subst e;simp[hj]
 ·simp[e,Ne.symm e]
theorem Tu(h:Fg ls rs i j):Aq ls.length (Ci (ls.set j (AE ls i)) rs) < Aq ls.length (Ci ls rs):=by
 obtain⟨⟨h1,h2,h3,h4⟩,h5⟩:=h;have hl:=TZ h2 (AE ls i);have len:(ls.set j (AE ls i)).length=ls.length:=ZBS
 have key:∀j',Ci (ls.set j (AE ls i)) rs j'=true->(Ci ls rs j' && !(j' == j))=true:=by
  intro j' hb;obtain⟨i',b1,b2,b3,b4⟩:=badS_iff.mp hb;rw[len]at b2;rw[hl,hl]at b3
  have Yv:j'≠j:=by
   intro e;subst e;rw[if_neg (show i'≠j' by lia),if_pos rfl]at b3
   rcases ZBH i' i with z | z | z
   ·rcases h5 i' i ⟨z,by lia,b3,b4.trans h4.symm⟩ with y | y
    ·lia
    ·lia
   ·subst z;exact b3 rfl
   ·rcases h5 i i' ⟨z,by lia,Ne.symm b3,h4.trans b4.symm⟩ with y | y
    ·lia
    ·lia
  rw[if_neg Yv]at b3
  have:Ci ls rs j'=true:=by
   by_cases e:i'=j
   ·subst e;rw[if_pos rfl]at b3;exact badS_iff.mpr ⟨i,by lia,b2,b3,h4.trans b4⟩
   ·rw[if_neg e]at b3;exact badS_iff.mpr ⟨i',b1,b2,b3,b4⟩
  rw[this];simpa using Yv
 have c1:=Sr (N:=ls.length) key;have c2:=Ga ls.length (Ci ls rs) (fun k=>k == j);have c3:=Ed (S:=fun k=>Ci ls rs k && k == j) h2 (by rw[badS_iff.mpr ⟨i,h1,h2,h3,h4⟩];simp);lia
theorem Gm.set(G:Gm ls rs)(j:Nat)(hi:i < ls.length):Gm (ls.set j (AE ls i)) rs:=by
 refine⟨by rw[ZBS];exact G.l1,by rw[ZBS];exact G.l16,G.r1,G.r16,fun r hr=>by rw[ZBS];exact G.row r hr⟩
noncomputable def Eg(K:W.Frag):Sp:=fun vs H Q _=>match vs with
 | [v]=>∃ls rs,Yf K H (gmD ls rs) v/\Gm ls rs/\∀ls' u H',Yb H H'->Gm ls' rs->BE ls' rs->Yf K H' (gmD ls' rs) u->Q u H'
 | _=>False
theorem Rk:AR (Eg K):=fun vs H Q Q' E h q=>by
 unfold Eg at *;walk_at "q"
theorem GK{tl:Addr}{x2:V}(h:H t=some (.tup [.ref tl,x2]))(h1:Yp K H tl (ls.map V.int))(h2:Yf K H (.tup (Ab rs)) x2):Yf K H (gmD ls rs) (.ref t) :=
 Ba (.of h) (AU (Ba h1 (HL ls)) (AU h2 Ad))
theorem UT:Xp P w base T.z40 2 (Eg K):=by
 have G_z53:=@VE P w K mg base T;refine T.z40.F.ok sc_z40 (fun vs H Q E h=>by unfold Eg at h;walk_at "e") ?_;walk_at "f";have hr_z53:=hr.mono (show 1<=_ by decide);unfold Eg at h;walk_at "g"
 rename_i v;obtain⟨ls,rs,hv,G,q⟩:=h;obtain⟨a,x1,x2,rfl,hs2,hx1,hx2⟩:=GT hv;obtain⟨tl,zs,rfl,hlab,hz⟩:=Bj hx1;obtain rfl:=GQ hz;have mono1:AR (C2 K):=PP;refine⟨_,(@AF _ _ _ _ _ (@AN _ _ 1 _ _ _ _ sc_z40.nd rfl (by right) (At (Lq (K:=K)) rfl T.z_list (by rfl) (AA (Yl (K:=K) (vv 0) AC) AB)) (by rfl) (by walk_at "i")) (@AF _ _ _ _ _ (@AN _ _ 2 _ _ _ _ sc_z40.nd rfl (by right) (AI G_z53 hr_z53 rfl T.z53.m T.z53.F.kp T.z53.b .nil AG (AA (vv 0) AB)) (by rfl) (by walk_at "i")) (@AF _ _ _ _ _ (@Er _ _ _ _ _ _ PassesOwn.never (Ae D2 (vv 2) FG) (@AF _ _ _ _ _ (@Cp _ _ _ _ _ _ (Yl (K:=K) (vv 1) (Yl (K:=K) (vv 2) AC)) (Em (vv 1) (Yl (K:=K) (vv 2) AC) Eo) (by rfl) (by rfl) (by rfl)) (@AH _ _ _ (@AN _ _ 2 _ _ _ _ sc_z40.nd rfl (by right) (AI G_z53 hr_z53 rfl T.z53.m T.z53.F.kp T.z53.b .nil AG (AA (BD (AA (At (A8 (K:=K)) rfl T.z_tuple (by rfl) (AA (vv 1) AB)) (AA (Yl (K:=K) (vv 0) AC) AB))) AB)) (by rfl) (by walk_at "i"))))) (@AH _ _ _ (@AL _ _ _ _ (BD (AA (At (A8 (K:=K)) rfl T.z_tuple (by rfl) (AA (vv 1) AB)) (AA (Yl (K:=K) (vv 0) AC) AB)))))))),?_⟩;refine⟨_,.ref tl,.inr hs2,rfl,_,.inr hlab,fun l hl=>?_⟩;dsimp only[AT];have s1:Yb H (upd H l (.lst (ls.map V.int))):=Yb.upd hl;have gl1:upd H l (.lst (ls.map V.int)) l=some (.lst (ls.map V.int)):=AD;generalize upd H l (.lst (ls.map V.int))=H1 at *;refine AX (fun Z H2=>∃u0,Z=[some (.ref a),some (.ref l),some u0]/\Yb H H2/\H2 l=some (.lst (ls.map V.int))/\((u0=.non/\BE ls rs)\/∃(i j:Nat) (t:Addr),u0=.ref t/\Fg ls rs i j/\H2 t=some (.tup [.int (i:Nat),.int (j:Nat)]))) ?_ ?_ (by walk_at "sm")
 ·exact⟨ls,rs,Yf.same s1 _ _ hv,G,fun H3 s3 he=>⟨_,rfl,s1.trans s3,s3 _ _ gl1,.inl ⟨rfl,he⟩⟩,fun i j t H3 hf ht s3 gt=>⟨_,rfl,s1.trans s3,s3 _ _ gl1,.inr ⟨i,j,t,rfl,hf,gt⟩⟩⟩
 rintro Z H2 ⟨u0,rfl,s2,gl2,hu2⟩;refine AX (fun Z H3=>∃(ls1:List Int) (u:V),Z=[some (.ref a),some (.ref l),some u]/\Yb H H3/\H3 l=some (.lst (ls1.map V.int))/\Gm ls1 rs/\BE ls1 rs) ?_ ?_ (by walk_at "sm")
 ·refine⟨fun m Z H3=>∃(ls1:List Int) (u:V),Z=[some (.ref a),some (.ref l),some u]/\m=Aq ls.length (Ci ls1 rs)/\Yb H H3/\H3 l=some (.lst (ls1.map V.int))/\ls1.length=ls.length/\Gm ls1 rs /\
   ((u=.non/\BE ls1 rs)\/∃(i j:Nat) (t:Addr),u=.ref t/\Fg ls1 rs i j/\H3 t=some (.tup [.int (i:Nat),.int (j:Nat)])),⟨_,ls,u0,rfl,rfl,s2,gl2,rfl,G,hu2⟩,?_⟩
  rintro m Z H3 ⟨ls1,u,rfl,rfl,s3,gl3,ll,G1,hu3⟩
  rcases hu3 with ⟨rfl,he⟩ | ⟨i,j,t,rfl,hf,gt⟩
  ·exact⟨ls1,_,rfl,s3,gl3,G1,he⟩
  ·obtain⟨⟨b1,b2,_⟩,_⟩:=id hf;refine⟨_,.int (i:Nat),.inr (.of gt),rfl,_,.int (AE ls1 i),.inl (.of gl3),C6 (by lia),?_⟩;refine⟨_,.int (j:Nat),.inr (.of gt),rfl,_,j,gl3,by rw[ZB];unfold ixN;rw[if_pos (by lia),if_pos (by lia),ZZ],?_⟩;rw[<- List.map_set]
   have s4:Yb H (upd H3 l (.lst ((ls1.set j (AE ls1 i)).map V.int))):=fun b o e=>by
    rw[AJ (BU e hl)];exact s3 _ _ e
   have gl4:upd H3 l (.lst ((ls1.set j (AE ls1 i)).map V.int)) l=some (.lst ((ls1.set j (AE ls1 i)).map V.int)):=AD;generalize upd H3 l (.lst ((ls1.set j (AE ls1 i)).map V.int))=H4 at *;refine⟨_,.inl ⟨.of gl4,fun t1 ht1=>?_⟩⟩;have s5:Yb H4 (upd H4 t1 (.tup ((ls1.set j (AE ls1 i)).map V.int))):=Yb.upd ht1;have g5:upd H4 t1 (.tup ((ls1.set j (AE ls1 i)).map V.int)) t1=some (.tup ((ls1.set j (AE ls1 i)).map V.int)):=AD;generalize upd H4 t1 (.tup ((ls1.set j (AE ls1 i)).map V.int))=H5 at *;refine⟨_,x2,.inr ((s4.trans s5).sqT hs2),rfl,smq rfl,fun t2 ht2=>?_⟩;have s6:Yb H5 (upd H5 t2 (.tup [.ref t1,x2])):=Yb.upd ht2;have g6:upd H5 t2 (.tup [.ref t1,x2]) t2=some (.tup [.ref t1,x2]):=AD;generalize upd H5 t2 (.tup [.ref t1,x2])=H6 at *;have S6:=s4.trans (s5.trans s6);have G2:=G1.set j (show i < ls1.length by lia);have less:=Tu hf;rw[ll]at less
   exact⟨_,rs,GK g6 (.of (s6 _ _ g5)) (Yf.same S6 _ _ hx2),G2,fun H7 s7 he=>⟨_,less,_,_,rfl,rfl,S6.trans s7,s7 _ _ (s6 _ _ (s5 _ _ gl4)),by rw[ZBS];exact ll,G2,.inl ⟨rfl,he⟩⟩,
    fun i' j' t' H7 hf' ht' s7 gt'=>⟨_,less,_,_,rfl,rfl,S6.trans s7,s7 _ _ (s6 _ _ (s5 _ _ gl4)),by rw[ZBS];exact ll,G2,.inr ⟨i',j',t',rfl,hf',gt'⟩⟩⟩
 ·rintro Z H3 ⟨ls1,u,rfl,s3,gl3,G1,he⟩;refine⟨_,.inl ⟨.of gl3,fun t1 ht1=>?_⟩⟩;have s5:Yb H3 (upd H3 t1 (.tup (ls1.map V.int))):=Yb.upd ht1;have g5:upd H3 t1 (.tup (ls1.map V.int)) t1=some (.tup (ls1.map V.int)):=AD;generalize upd H3 t1 (.tup (ls1.map V.int))=H5 at *;refine⟨_,x2,.inr ((s3.trans s5).sqT hs2),rfl,smq rfl,fun t2 ht2=>?_⟩;have s6:Yb H5 (upd H5 t2 (.tup [.ref t1,x2])):=Yb.upd ht2;have g6:upd H5 t2 (.tup [.ref t1,x2]) t2=some (.tup [.ref t1,x2]):=AD;generalize upd H5 t2 (.tup [.ref t1,x2])=H6 at *;have S6:=s3.trans (s5.trans s6);exact q ls1 _ H6 S6 G1 he (GK g6 (.of (s6 _ _ g5)) (Yf.same S6 _ _ hx2))
noncomputable def FrX(X:List Addr)(H H':Hp):Prop:=∀b o,b∉X->H b=some o->H' b=some o
theorem FrX.trans{H1 H2:Hp}(a:FrX X H H1)(b:FrX X H1 H2):FrX X H H2:=fun c o n e=>b c o n (a c o n e)
theorem FrX.same(s:Yb H H'):FrX X H H':=fun b o _ e=>s b o e
theorem FrX.frm(f:Yj d H H')(h:d∈X):FrX X H H':=fun b o n e=>f b o (fun z=>n (z ▸ h)) e
theorem FrX.grow(f:Yu d H H')(h:d∈X):FrX X H H':=fun b o n e=>f b o (fun z=>n (z ▸ h)) e
noncomputable def Oth(X:List Addr)(H:Hp):Prop:=∀x∈X,∃o,H x=some o/\Cr o/\∀xs,o≠.lst xs
theorem FrX.sqT(f:FrX X H H')(O:Oth X H)(e:Yp K H b xs):Yp K H' b xs:=by
 rcases e with (e | ⟨ob,e⟩) | e
 ·exact .inl (.inl (f _ _ (fun z=>by obtain⟨o,h1,h2,_⟩:=O b z;rw[e]at h1;exact h2.1 xs (ZU h1).symm) e))
 ·exact .inl (.inr ⟨ob,f _ _ (fun z=>by obtain⟨o,h1,h2,_⟩:=O b z;rw[e]at h1;exact h2.2 _ _ (ZU h1).symm) e⟩)
 ·exact .inr e
mutual
theorem Yf.mv(s:∀a xs,Yp K H a xs->Yp K H' a xs):∀(d:Dv) (v:V),BB d=true->Yf K H d v->Yf K H' d v
 | .non,v,_,h=>by unfold Yf at *;exact h
 | .bl b,v,_,h=>by unfold Yf at *;exact h
 | .int i,v,_,h=>by unfold Yf at *;exact h
 | .str x,v,_,h=>by unfold Yf at *;exact h
 | .tup ds,v,hd,h=>by
  unfold BB at hd;unfold Yf at *;obtain⟨a,xs,e,h1,h2⟩:=h;exact⟨a,xs,e,s _ _ h1,Yc.mv s ds xs hd h2⟩
 | .lst ds,v,hd,h=>by unfold BB at hd;cases hd
theorem Yc.mv(s:∀a xs,Yp K H a xs->Yp K H' a xs):∀(ds:List Dv) (xs:List V),Ah ds=true->Yc K H ds xs->Yc K H' ds xs
 | [],xs,_,h=>by unfold Yc at *;exact h
 | d::ds,xs,hd,h=>by
  unfold Ah at hd;rw[ZQ]at hd;unfold Yc at *;obtain⟨x,r,e,h1,h2⟩:=h;exact⟨x,r,e,Yf.mv s d x hd.1 h1,Yc.mv s ds r hd.2 h2⟩
end
theorem FrX.rep(f:FrX X H H')(O:Oth X H){d:Dv}(hd:BB d=true)(h:Yf K H d v):Yf K H' d v:=Yf.mv (fun _ _ e=>f.sqT O e) d v hd h
theorem UX(r:RkAt K C ls ys H p d):∃o,H d=some o/\Cr o/\∀xs,o≠.lst xs:=by
 obtain⟨dx,tl,yl,al,as,Yd,h1,h2,h3,h4,h5,h6,h7,h8⟩:=r.at_;exact⟨_,h5,GB,fun _ z=>nomatch z⟩
theorem Pb(l:Yx Pt pos q H):∃o,H Pt=some o/\Cr o/\∀xs,o≠.lst xs:=by
 obtain⟨ps,a,_⟩:=l;exact⟨_,a,⟨(fun _ z=>nomatch z),(fun _ _ z=>nomatch z)⟩,fun _ z=>nomatch z⟩
theorem SS(h1:∃o,H a=some o/\Cr o/\∀xs,o≠.lst xs)(h2:∃o,H b=some o/\Cr o/\∀xs,o≠.lst xs):Oth [a,b] H:=fun x hx=>by
 rcases ZH.mp hx with rfl | hx
 ·exact h1
 ·rw[ZO.mp hx];exact h2
theorem Qv(l:Yx Pt pos q H)(f:∀b o,(∀ps,o≠.tbl ps)\/b=Pt->(∀xs,o≠.lst xs)->(∀xs,o≠.dK xs)->(∀c x fs,o≠.ins c x fs)->H b=some o->H' b=some o):Yx Pt pos q H':=by
 obtain⟨ps,a,b,c⟩:=l;refine⟨ps,f _ _ (.inr rfl) (fun _ z=>nomatch z) (fun _ z=>nomatch z) (fun _ _ _ z=>nomatch z) a,b,?_⟩
 rcases c with c | ⟨c',c,d⟩
 ·exact .inl c
 ·exact .inr ⟨c',c,f _ _ (.inl fun _ z=>nomatch z) (fun _ z=>nomatch z) (fun _ z=>nomatch z) (fun _ _ _ z=>nomatch z) d⟩
theorem Jm(l:Yx Pt pos q H)(f:Yj t H H')(ht:H t=some o)(h1:(∃xs,o=.lst xs)\/(∃xs,o=.dK xs)\/∃c x fs,o=.ins c x fs):Yx Pt pos q H':=by
 refine Qv l fun b o' _ n1 n2 n3 e=>f b o' (fun z=>?_) e
 rw[z,ht]at e;cases e
 rcases h1 with ⟨xs,rfl⟩ | ⟨xs,rfl⟩ | ⟨c,x,fs,rfl⟩
 ·exact n1 _ rfl
 ·exact n2 _ rfl
 ·exact n3 _ _ _ rfl
theorem UW{ps:Array Value}(r:RkAt K C ls ys H p d)(g:Yu Pt H H')(hz:H Pt=some (.tbl ps)):RkAt K C ls ys H' p d:=by
 obtain⟨dx,tl,yl,al,as,Yd,h1,h2,h3,h4,h5,h6,h7,h8⟩:=r.at_;have st:∀{b o},H b=some o->(∀ps,o≠.tbl ps)->H' b=some o:=fun {b o} e n=>g b o (fun z=>by rw[z,hz]at e;cases e;exact n _ rfl) e
 exact⟨⟨dx,tl,yl,al,as,Yd,st h1 (fun _ z=>nomatch z),Nh g hz h2,st h3 (fun _ z=>nomatch z),st h4 (fun _ z=>nomatch z),st h5 (fun _ z=>nomatch z),h6,h7,h8⟩,r.l16,r.y16⟩
noncomputable def JG:Sp:=fun vs H Q _=>match vs with
 | [.int x,.int y]=>∃p i:Nat,x=p/\y=i/\i<=64/\Q (.bl (p / 2 ^ i % 2 == 1)) H
 | _=>False
theorem Ol:Xp P w base T.z66 3 JG:=by
 refine T.z66.F.ok R9 (fun vs H Q E h=>by unfold JG at h;walk_at "e") ?_;walk_at "f";unfold JG at h;walk_at "g"
 rename_i x y;obtain⟨p,i,e1,e2,hi,q⟩:=h;subst e1 e2;refine⟨_,(@AH _ _ _ (@AL _ _ _ _ (A7 (kEq (K:=K) hu) (AQ DJ (AQ FO (vv 0) (AI (@HA P w K mg base T) (hr.mono (show 2<=_ by decide)) rfl T.z65.m T.z65.F.kp T.z65.b .nil AG (AA (vv 1) AB))) AC) AC))),?_⟩;refine⟨i,rfl,hi,?_⟩;have hp:0 < 2 ^ i:=ZBg i;have hle:(2:Nat) ^ i<=2 ^ 64:=Zl (by decide) (by lia);refine⟨Av (by lia) (Int.le_trans (Int.ofNat_le.mpr hle) (by decide)),by decide,?_⟩;show Q (.bl (false ^^ (((p:Int) / ((2 ^ i:Nat):Int) % 2) == 1))) H
 have e:(false ^^ (((p:Int) / ((2 ^ i:Nat):Int) % 2) == 1))=(p / 2 ^ i % 2 == 1):=by
  rw[Z2,<- Int.natCast_ediv,ZBG];simp only[beq_iff_eq];lia
 rw[e];exact q
noncomputable def Au(S:Nat):List Nat:=(List.range S).filter S.testBit
theorem mem_memS:k∈Au S ↔ S.testBit k=true:=by
 unfold Au;rw[Z8,Zr];refine⟨fun h=>h.2,fun h=>⟨?_,h⟩⟩;have h1:=Nat.ge_two_pow_of_testBit h;exact ZX Nat.lt_two_pow_self h1
theorem KR(S:Nat):∀(j n:Nat),S < 2 ^ n->(List.range (n+j)).filter S.testBit=(List.range n).filter S.testBit
 | 0,n,_=>rfl
 | j+1,n,h=>by
  rw[<- Nat.add_assoc,ZBN,ZBx,KR S j n h]
  have:S.testBit (n+j)=false:=Nat.testBit_lt_two_pow (ZX h (Zl (by decide) (by lia)))
  simp[this]
theorem Kh(h:S < 2 ^ n):(List.range n).filter S.testBit=Au S:=by
 unfold Au
 rcases Nat.le_total n S with z | z
 ·have:=KR S (S - n) n h
  rw[show n+(S - n)=S by lia]at this;exact this.symm
 ·have:=KR S (n - S) S Nat.lt_two_pow_self
  rw[show S+(n - S)=n by lia]at this;exact this
theorem Ox(h:S < 2 ^ n):(Au S).length=Aq n S.testBit:=by rw[<- Kh h];rfl
theorem NJ(S:Nat):(Au S).Pairwise (· < ·):=List.Pairwise.filter _ ZBu
theorem Uw(S:Nat):S < 2 ^ Builtin.Int.intBits (S:Int):=by
 unfold Builtin.Int.intBits
 by_cases e:S=0
 ·subst e;decide
 ·rw[if_neg (by simpa using e),Int.natAbs_natCast];exact Nat.lt_log2_self
theorem Ts(h:S < 2 ^ n):Builtin.Int.intBits (S:Int)<=n:=by
 unfold Builtin.Int.intBits
 by_cases e:S=0
 ·subst e;simp
 ·rw[if_neg (by simpa using e),Int.natAbs_natCast];exact(Nat.log2_lt e).mpr h
noncomputable def D4(K:W.Frag):Sp:=fun vs H Q _=>match vs with
 | [.int z]=>∃S:Nat,z=S/\S < 2 ^ 60/\∀p H',H p=none->Yb H H'->H' p=some (.tup (iL (Au S)))->Q (.ref p) H'
 | _=>False
theorem QT:AR (D4 K):=fun vs H Q Q' E h q=>by
 unfold D4 at *;walk_at "q"
theorem LU:Xp P w base T.z45 4 (D4 K):=by
 refine T.z45.F.ok Ux (fun vs H Q E h=>by unfold D4 at h;walk_at "e") ?_;walk_at "f";unfold D4 at h;walk_at "g"
 rename_i z;obtain⟨S,e1,hS,q⟩:=h;subst e1;have hb:=Ts hS;have hb2:=Uw S;refine⟨_,(@AH _ _ _ (@AL _ _ _ _ (At (A8 (K:=K)) rfl T.z_tuple (by rfl) (AA (Ap (N':=["member","subset"]) (own:=1) (ix:=[0]) rfl (BC rfl T.z_range (AA (Pn (K:=K) (vv 0)) AB)) (by kernel_rfl) rfl rfl (by kernel_rfl) (fun c=>AO (i:=0) (show(["member","subset"]:List Str).Nodup by decide +kernel) rfl (by right)) (Ac (by decide)) (fun c=>D7 (BM (AI (@Ol P w K mg base T) (hr.mono (show 3<=_ by decide)) rfl T.z66.m T.z66.F.kp T.z66.b .nil AG (AA (vv 1) (AA (vv 0) AB))))) (fun c=>(vv 0))) AB)))),?_⟩;refine⟨rfl,((Builtin.Int.intBits (S:Int):Nat):Int),rfl,by lia,by lia,?_⟩;rw[ZZ];generalize Builtin.Int.intBits (S:Int)=n at *
 refine BW (fun k zs H'=>H'=H/\zs=iL ((List.range k).filter S.testBit)) ⟨rfl,rfl⟩ (fun k zs H' hk ⟨_,e⟩=>by
  have:=ZB7 S.testBit (List.range k)
  rw[ZBB]at this;rw[e,Aj];exact Ag (by lia)) ?_ ?_
 ·rintro k zs H' hk ⟨rfl,rfl⟩;have e0:(0:Int)+(k:Int)=((k:Nat):Int):=by lia
  rw[e0];refine⟨S,k,rfl,rfl,by lia,?_⟩;have eb:(S / 2 ^ k % 2 == 1)=S.testBit k:=by rw[Nat.testBit_eq_decide_div_mod_eq];rfl
  rw[eb,ZBN,ZBx];cases e:S.testBit k with
  | true=>exact⟨rfl,by simp[e,Ce];rfl⟩
  | false=>exact⟨rfl,by simp[e]⟩
 ·rintro zs H' ⟨rfl,rfl⟩ l hl;rw[Kh hb2];have s1:Yb H' (upd H' l (.lst (iL (Au S)))):=Yb.upd hl;refine⟨_,.inl ⟨.of AD,fun t ht=>?_⟩⟩;exact q t _ (s1.free ht) (s1.trans (Yb.upd ht)) AD
noncomputable def Iu(K:W.Frag)(C:Addr):Sp:=fun vs H Q _=>match vs with
 | [.ref p]=>∃ls ys d,RkAt K C ls ys H p d/\Q (.int ((2 ^ ls.length - 1:Nat):Int)) H
 | _=>False
theorem Qk:Xq P w mg base T.z18 3 (Iu K T.C_Reckoner):=by
 refine T.z18.F.ok UN (fun vs H Q E h=>by unfold Iu at h;walk_at "e") ?_;walk_at "f";unfold Iu at h;walk_at "g"
 rename_i p;obtain⟨ls,ys,d,R,q⟩:=h;have l16:=R.l16;obtain⟨dx,tl,yl,al,as,Yd,h1,h2,h3,h4,h5,h6,h7,h8⟩:=id R.at_;refine⟨_,(@AH _ _ _ (@AL _ _ _ _ (AQ DC (AI (@HA P w K mg base T) (hr.mono (show 2<=_ by decide)) rfl T.z65.m T.z65.F.kp T.z65.b .nil AG (AA (Aa (As (K:=K)) rfl T.z_len (by rfl) (AA (BN T.cl_Reckoner T.na_Reckoner_labels (vv 0)) AB)) AB)) AC))),?_⟩;refine⟨dx,_,_,h1,lk1 _ _ _ _,ls.length,.inr ⟨_,h2,by rw[ZB]⟩,ls.length,rfl,by lia,?_⟩
 have e:(((2 ^ ls.length:Nat):Int) - 1)=((2 ^ ls.length - 1:Nat):Int):=by
  have:=ZBg ls.length
  lia
 show Q (.int (((2 ^ ls.length:Nat):Int) - 1)) H;rw[e];exact q
noncomputable def Ji(K:W.Frag)(C:Addr):Sp:=fun vs H Q _=>match vs with
 | [.ref p,.int z]=>∃ls ys d S,RkAt K C ls ys H p d/\z=(S:Nat)/\S < 2 ^ ls.length/\S≠0/\∀k H',S.testBit k=true->Yb H H'->Q (.int (AE ls k)) H'
 | _=>False
theorem Oe(h:S≠0):∃k,S.testBit k=true/\atI (iL (Au S)) 0=some (.int (k:Nat)):=by
 obtain⟨i,hi⟩:=Nat.exists_testBit_of_ne_zero h;have hm:=mem_memS.mpr hi;cases e:Au S with
 | nil=>rw[e]at hm;cases hm
 | cons k r=>exact⟨k,mem_memS.mp (by rw[e];exact Zo ..),AW (n:=0) rfl rfl⟩
theorem QM:Xq P w mg base T.z21 5 (Ji K T.C_Reckoner):=by
 refine T.z21.F.ok SD (fun vs H Q E h=>by unfold Ji at h;walk_at "e") ?_;walk_at "f";unfold Ji at h;walk_at "g"
 rename_i p z;obtain⟨ls,ys,d,S,R,e1,hS,h0,q⟩:=h;subst e1;have l16:=R.l16;obtain⟨dx,tl,yl,al,as,Yd,h1,h2,h3,h4,h5,h6,h7,h8⟩:=id R.at_;have hle:2 ^ ls.length<=2 ^ 60:=Zl (by decide) (by lia);obtain⟨k,hk,ha⟩:=Oe h0;refine⟨_,(@AH _ _ _ (@AL _ _ _ _ (Yl (K:=K) (BN T.cl_Reckoner T.na_Reckoner_labels (vv 0)) (Yl (K:=K) (AI (@LU P w K mg base T) (hr.mono (show 4<=_ by decide)) rfl T.z45.m T.z45.F.kp T.z45.b .nil AG (AA (vv 1) AB)) AC)))),?_⟩;exact⟨dx,_,_,h1,lk1 _ _ _ _,S,rfl,by lia,fun t H1 ht s1 g1=>⟨_,_,.inr (.of g1),ha,_,_,.inr (s1.sqT h2),C6 (CV hS hk),q k H1 hk s1⟩⟩
noncomputable def AV(ls:List Int)(ys:List Nat)(S:Nat):Nat:=by classical exact if h:∃m,Ar (AE ls) (AY ys) S.testBit m then h.choose else 0
theorem DN(h:Ar (AE ls) (AY ys) S.testBit m):AV ls ys S=m:=by
 have z:∃m,Ar (AE ls) (AY ys) S.testBit m:=⟨m,h⟩;unfold AV;rw[dif_pos z];exact Jv z.choose_spec h
theorem Bu(h:Can (AE ls) (AY ys) n S.testBit):Ar (AE ls) (AY ys) S.testBit (AV ls ys S):=by
 obtain⟨m,hm⟩:=Rr h;rw[DN hm];exact hm
noncomputable def wst(ls:List Int)(ys:List Nat)(S j:Nat):Nat:=max (AV ls ys (S &&& ys.getD j 0)) (AV ls ys (S - (S &&& ys.getD j 0)))
structure FirstQ(ls:List Int)(ys:List Nat)(S j:Nat):Prop where
 mem:j∈BI S ys ys.length
 le:∀i∈BI S ys ys.length,wst ls ys S j<=wst ls ys S i
 lt:∀i∈BI S ys ys.length,i < j->wst ls ys S j < wst ls ys S i
theorem FY(y:Nat)(h:Can (AE ls) (AY ys) n S.testBit):Can (AE ls) (AY ys) n (S &&& y).testBit/\Can (AE ls) (AY ys) n (S - (S &&& y)).testBit:=by
 rw[DD,Cn];exact⟨Bz (fun k z=>by simp only[ZQ]at z;exact z.1) h,Bz (fun k z=>by simp only[ZQ]at z;exact z.1) h⟩
theorem W5(ho:¬One (AE ls) S.testBit)(hc:Can (AE ls) (AY ys) n S.testBit)(h:FirstQ ls ys S j):Ar (AE ls) (AY ys) S.testBit (1+wst ls ys S j):=by
 refine LA ho ?_ ?_
 ·obtain⟨y1,y2⟩:=Ea h.mem;obtain⟨c1,c2⟩:=FY (ys.getD j 0) hc;have c1:=Bu c1;have c2:=Bu c2;unfold wst;generalize AV ls ys (S &&& ys.getD j 0)=b at *;generalize AV ls ys (S - (S &&& ys.getD j 0))=e at *;rw[DD]at c1;rw[Cn]at c2;exact⟨_,ZJ.mpr ⟨_,Zt y1,rfl⟩,y2,_,_,c1,c2,rfl⟩
 ·intro f hf hp;obtain⟨y,hy,rfl⟩:=ZJ.mp hf;obtain⟨i,hi,ei⟩:=Zp hy;have eg:ys.getD i 0=y:=by rw[ZN,ZD hi,ei];rfl
  have him:i∈BI S ys ys.length:=Z8.mpr ⟨Zr.mpr hi,(Fo _ _).mpr (by rw[eg];exact hp)⟩;have hle:=h.le i him;obtain⟨c1,c2⟩:=FY (ys.getD i 0) hc;have c1:=Bu c1;have c2:=Bu c2;have hw:wst ls ys S i=max (AV ls ys (S &&& ys.getD i 0)) (AV ls ys (S - (S &&& ys.getD i 0))):=rfl;generalize AV ls ys (S &&& ys.getD i 0)=b at *;generalize AV ls ys (S - (S &&& ys.getD i 0))=e at *;rw[DD,eg]at c1;rw[Cn,eg]at c2;exact⟨b,e,c1,c2,by lia⟩
theorem Tl(ho:¬One (AE ls) S.testBit)(hc:Can (AE ls) (AY ys) n S.testBit)(h:FirstQ ls ys S j):AV ls ys S=1+wst ls ys S j:=DN (W5 ho hc h)
theorem Pf:Xq P w mg base T.z14 74 (EK K T.C_Reckoner 17):=LK T 17 (KD T 17)
noncomputable def SV(b:List Stmt):Expr:=match b with
 | [.Return (some (.Call _ _ (k::_) _)) _]=>k.value
 | _=>.Name "" ⟨0,0,0,0⟩
noncomputable def Fw(e:Expr):Arguments:=match e with
 | .Lambda p _ _ _=>p
 | _=>{ posonlyargs:=[],args:=[],vararg:=none,kwonlyargs:=[],kw_defaults:=[],kwarg:=none,defaults:=[] }
noncomputable def GG(e:Expr):Expr:=match e with
 | .Lambda _ b _ _=>b
 | e=>e
noncomputable def EB(e:Expr):Scope:=match e with
 | .Lambda _ _ s _=>s
 | _=>{ kind:=.function,names:=[],isGenerator:=false,isCoroutine:=false }
noncomputable def Bo:Expr:=SV (BY Ch)
noncomputable def JZ(K:W.Frag)(C:Addr)(vA vB v:V)(H:Hp)(Q:VK):Prop:=EK K C 17 [vB,vA,v] H Q E0
theorem Po (T:Txt K mg) {Yq ca cb c':Addr} {pm ctv uA uB:Value} {vA vB:V} (hl:base.get? Yq=some (W.kla_obj "<lambda>" CA (Fw Bo) (GG Bo) (EB Bo) [("things",ca),("self",cb)] pm c' ctv)) (hcab:ca≠cb)
 (hca:base.IsCell ca (some uA)) (rA:Yh vA uA) (hcb:base.IsCell cb (some uB)) (rB:Yh vB uB) :
 FnOk P w K mg base CX0 75 Yq (W.kla_fn "<lambda>" CA (Fw Bo) (GG Bo) (EB Bo) [("things",ca),("self",cb)] pm (.ref c') ctv) ["question"] (CH c' CA (JZ K T.C_Reckoner vA vB)):=by
 refine V9 (k:=74) hl hca rA hcb rB (by decide) hcab rfl rfl rfl ?_ rfl rfl rfl ?_ fun A outer s H v Q hr h=>?_
 ·intro y hy;have h:=Z3.mp (show(EB Bo).names.all (fun p=>p.2 != .free || p.1 == "things" || p.1 == "self")=true by decide +kernel) _ (PySem.mem_of_lookup hy);simpa [or_assoc] using h
 ·decide +kernel
 have hr_z14:=hr;unfold JZ EK at h;walk_at "g"
 rename_i p z i ee;cases ee;obtain⟨ls,ys,d,S,j,y,R,e1,hS,hc,e2,hj,hp,hk,q⟩:=h;subst e1 e2;obtain⟨dx,tl,yl,al,as,Yd,h1,_⟩:=id R.at_;refine⟨_,(Ay (vv 2) T.cl_Reckoner T.z14.m (@Pf P w K mg base T) hr_z14 T.z14.b .nil AG (AA (vv 1) (AA (vv 0) AB))),?_⟩;exact⟨p,dx,_,rfl,h1,ln4 _ _ _ _,ls,ys,d,S,j,y,R,rfl,hS,hc,rfl,hj,hp,hk,q⟩
noncomputable def KF(K:W.Frag)(C Pt:Addr):Sp:=fun vs H Q _=>match vs with
 | [.ref p,.int z]=>∃ls ys d S,RkAt K C ls ys H p d/\z=(S:Nat)/\S < 2 ^ ls.length/\(∃n,Can (AE ls) (AY ys) n S.testBit)/\¬One (AE ls) S.testBit/\Yx Pt FX CA H /\
  ∀(j:Nat) H',FirstQ ls ys S j->RkAt K C ls ys H' p d->FrX [d,Pt] H H'->Yx Pt FX CA H'->Q (.int (j:Nat)) H'
 | _=>False
theorem P0(B:BMn mg base):Xq P w mg base T.z12 77 (KF K T.C_Reckoner T.p_z12):=by
 refine T.z12.F.okC T.gc_z12 Xf (fun vs H Q E h=>by unfold KF at h;walk_at "e") (fun A outer s H vs Q E hr h=>?_);have hu:=AS hr;have hrL:=hr;unfold KF at h;walk_at "g"
 rename_i p z;obtain⟨ls,ys,d,S,R,e1,hS,⟨n,hc⟩,ho,hL,q⟩:=h;subst e1;obtain⟨dx,tl,yl,al,as,Yd,h1,_⟩:=id R.at_;have l16:=R.l16;let spB:V->V->V->Hp->VK->Prop:=JZ K T.C_Reckoner
 have hFL:∀(base':Heap) (Yq ca cb c':Addr) (pm ctv uA uB:Value) (vA vB:V),(∀b o,base.get? b=some o->base'.get? b=some o)->base'.get? Yq=some (W.kla_obj "<lambda>" CA (Fw Bo) (GG Bo) (EB Bo) [("things",ca),("self",cb)] pm c' ctv)->ca≠cb->base'.IsCell ca (some uA)->Yh vA uA->base'.IsCell cb (some uB)->Yh vB uB ->
  FnOk P w K mg base' CX0 75 Yq (W.kla_fn "<lambda>" CA (Fw Bo) (GG Bo) (EB Bo) [("things",ca),("self",cb)] pm (.ref c') ctv) ["question"] (CH c' CA (spB vA vB)) :=
  fun base' Yq ca cb c' pm ctv uA uB vA vB _ hl hab hca rA hcb rB=>Po (base:=base') T hl hab hca rA hcb rB
 have hclL:∀ca cb,(PyProof.Rows.envOfC "Reckoner.first_question" (AK Ch) s.heap.objs.size T.z12.f (.ref T.g_z12)).cells.lookup (PySem.Str.ofString "things")=some ca->(PyProof.Rows.envOfC "Reckoner.first_question" (AK Ch) s.heap.objs.size T.z12.f (.ref T.g_z12)).cells.lookup (PySem.Str.ofString "self")=some cb ->
  closureFor (EB Bo) (PyProof.Rows.envOfC "Reckoner.first_question" (AK Ch) s.heap.objs.size T.z12.f (.ref T.g_z12))=pure [((PySem.Str.ofString "things" : Str),ca),((PySem.Str.ofString "self" : Str),cb)]:=fun ca cb h1 h2=>by
  have e1:some (s.heap.objs.size+2)=some ca:=h1;have e2:some (s.heap.objs.size+1)=some cb:=h2;cases e1;cases e2;rfl
 refine⟨_,(@AH _ _ _ (@AL _ _ _ _ (SX (c:=T.g_z12) (Pt:=T.p_z12) (qual:=CA) (i:=1) (j:=0) (a:="things") (b:="self") (spB:=spB) (Ay (vv 0) T.cl_Reckoner T.z22.m (@Mu P w K mg base T) (hr.mono (show 1<=_ by decide)) T.z22.b .nil AG (AA (vv 1) AB)) T.z_min hrL rfl rfl T.gh_z12 B rfl rfl rfl rfl hclL rfl rfl rfl rfl (by decide) (fun _ _ _ _ _ _=>rfl) hFL))),?_⟩;refine⟨p,dx,_,rfl,h1,ln5 _ _ _ _,ls,ys,d,S,R,rfl,fun l H1 nl s1 g1=>?_⟩;have L1:=hL.same s1;have R1:=R.same s1;refine⟨l,_,_,_,rfl,by rw[Aj];exact OC ho hc,rfl,rfl,L1,fun c' H2 gr2 L2' hc2=>?_⟩;obtain⟨pz,hP,_⟩:=id L1;have R2:=UW R1 gr2 hP;have g2:H2 l=_:=gr2 _ _ (fun z=>by rw[z,hP]at g1;cases g1) g1;obtain⟨dx2,tl2,yl2,al2,as2,kvs2,k1,_,_,_,k5,_⟩:=id R2.at_;have hld:l≠d:=Bg g2 k5 (by intro z;cases z);have hcd:c'≠d:=Bg hc2 k5 (by intro z;cases z);refine⟨fun _ H3=>RkAt K T.C_Reckoner ls ys H3 p d/\Yj d H2 H3,fun n=>(wst ls ys S ((BI S ys ys.length).getD n 0):Nat),⟨R2,Yj.refl⟩,fun n H3 ⟨_,f3⟩=>⟨.of (f3 _ _ hld g2),f3 _ _ hcd hc2⟩,?_,?_⟩
 ·rintro m v H3 hv ⟨R3,f3⟩;obtain⟨i,hi,him,rfl⟩:=Bp hv;obtain⟨y1,y2⟩:=Ea him;have eg:(BI S ys ys.length).getD m 0=i:=by rw[ZN,hi];rfl
  refine⟨ls,ys,d,S,i,_,R3,rfl,hS,⟨n,hc⟩,rfl,y1,y2,by have:=DZ ls.length S.testBit;lia,fun b e H4 f1 f2 R4 f4=>?_⟩;refine⟨?_,R4,f3.trans f4⟩;dsimp only;rw[eg];unfold wst;rw[DN f1,DN f2]
 ·rintro m v H3 hv hmin ⟨R3,f3⟩;obtain⟨i,hi,him,rfl⟩:=Bp hv;have eg:(BI S ys ys.length).getD m 0=i:=by rw[ZN,hi];rfl
  have fr:FrX [d,T.p_z12] H H3:=(FrX.same s1).trans ((FrX.grow gr2 (by simp)).trans (FrX.frm f3 (by simp)));refine q i H3 ⟨him,fun i' hi'=>?_,fun i' hi' Yr=>?_⟩ R3 fr (Jm L2' f3 k5 (.inr (.inl ⟨_,rfl⟩)))
  ·obtain⟨m',hm',em'⟩:=Zp hi';have h3:=(hmin m' (by rw[Aj];exact hm')).1;have eg':(BI S ys ys.length).getD m' 0=i':=by rw[ZN,ZD hm',em'];rfl
   dsimp only at h3;rw[eg,eg']at h3;lia
  ·obtain⟨m',hm',em'⟩:=Zp hi';have hmm:=(Zf.mp hi);obtain⟨hm,em⟩:=hmm;have hrise:(BI S ys ys.length).Pairwise (· < ·):=List.Pairwise.filter _ ZBu
   have hlt':m' < m:=by
    rcases ZBH m' m with z | z | z
    ·exact z
    ·subst z;lia
    ·have:=List.pairwise_iff_getElem.mp hrise m m' hm hm' z
     lia
   have h3:=(hmin m' (by rw[Aj];exact hm')).2 hlt';have eg':(BI S ys ys.length).getD m' 0=i':=by rw[ZN,ZD hm',em'];rfl
   dsimp only at h3;rw[eg,eg']at h3;lia
theorem Fk(he:BE ls rs):∀i j,i < ls.length->j < ls.length->(∀y∈rs.map gB,y i=y j)->AE ls i=AE ls j:=by
 have key:∀i j,i < j->j < ls.length->(∀y∈rs.map gB,y i=y j)->AE ls i=AE ls j:=fun i j hij hj h =>
  Classical.byContradiction fun ne=>he i j ⟨hij,hj,ne,by
   unfold Dq;apply ZBy;intro r hr;exact h _ (ZJ.mpr ⟨r,hr,rfl⟩)⟩
 intro i j hi hj h
 rcases ZBH i j with z | z | z
 ·exact key i j z hj h
 ·rw[z]
 ·exact(key j i z hi fun y hy=>(h y hy).symm).symm
theorem WH{ts:List Nat}{ds:List Int}(nd:ds.Nodup)(hm:∀k,k∈ds ↔ k∈ts.map (AE ls)):ds.length < 2 ↔ One (AE ls) (fun k=>decide (k∈ts)):=by
 constructor
 ·intro h i j hi hj;have a1:=(hm _).mpr (ZJ.mpr ⟨i,ZR hi,rfl⟩);have a2:=(hm _).mpr (ZJ.mpr ⟨j,ZR hj,rfl⟩)
  match ds,h with
  | [],_=>simp at a1
  | [x],_=>rw[ZO.mp a1,ZO.mp a2]
  | x::y::r,h=>simp at h;lia
 ·intro o
  have:=VV (Y:=[]) (n:=0) ds o nd fun d hd=>by
   obtain⟨k,hk,e⟩:=ZJ.mp ((hm d).mp hd);exact⟨k,ZL hk,e⟩
  simp at this;lia
noncomputable def En:Dw->Bool
 | .int _=>true
 | _=>false
noncomputable def C5(K:W.Frag)(f:Dw->Bool):Sp:=fun vs H Q _=>match vs with
 | [v]=>∃d,Yo K H d v/\Q (.bl (f d)) H
 | _=>False
theorem N4{f:Dw->Bool}:AR (C5 K f):=fun vs H Q Q' E h q=>by
 unfold C5 at *;walk_at "q"
theorem II:Xp P w base T.z56 1 (C5 K En):=by
 refine T.z56.F.ok Wj (fun vs H Q E h=>by unfold C5 at h;walk_at "e") ?_;walk_at "f";unfold C5 at h;walk_at "g"
 rename_i v;obtain⟨d,hd,q⟩:=h;refine⟨_,(@AH _ _ _ (@AL _ _ _ _ (Cs (Aa (Es (K:=K)) rfl T.z_isinstance (by rfl) (AA (vv 0) (AA (EA (v:=.ty "int") rfl T.z_int (by rfl) rfl) AB))) (CT (N7 (Aa (Es (K:=K)) rfl T.z_isinstance (by rfl) (AA (vv 0) (AA (EA (v:=.ty "bool") rfl T.z_bool (by rfl) rfl) AB)))))))),?_⟩;refine⟨by decide,d,hd,?_⟩;refine Ak (fun e=>⟨by decide,d,hd,?_⟩) (fun e=>?_)
 ·have:En d = !Bm (tyW d) "bool":=by
   revert e;cases d <;> intro e <;> first | rfl | (simp[Bm,tyW]at e;done)
  rw[this]at q;exact q
 ·have:En d=false:=by
   revert e;cases d <;> intro e <;> first | rfl | exact absurd (show Bm _ _=true by simp[Bm,tyW]) e
  rw[this]at q;exact q
noncomputable def Gs(m:Nat):Dw->Bool
 | .int i=>decide (0<=i) && decide (i < (m:Int))
 | _=>false
noncomputable def FC(K:W.Frag):Sp:=fun vs H Q _=>match vs with
 | [.int z,v]=>∃(m:Nat) (d:Dw),z=m/\Yo K H d v/\Q (.bl (Gs m d)) H
 | _=>False
theorem VB:AR (FC K):=fun vs H Q Q' E h q=>by
 unfold FC at *;walk_at "q"
theorem LM:Xp P w base T.z57 2 (FC K):=by
 refine T.z57.F.ok PR (fun vs H Q E h=>by unfold FC at h;walk_at "e") ?_;walk_at "f";have hr_z56:=hr.mono (show 1<=_ by decide)
 match vs,h with
 | [.int n,v],⟨m,d,e1,hd,q⟩ =>
 subst e1;refine⟨_,(@AH _ _ _ (@AL _ _ _ _ (Cs (AI (@II P w K mg base T) hr_z56 rfl T.z56.m T.z56.F.kp T.z56.b .nil AG (AA (vv 1) AB)) (CT (WU G4 Cu AC (vv 1) (vv 0)))))),?_⟩;refine⟨d,hd,?_⟩;cases d with
 | int i =>
  unfold Yo at hd;subst hd;have q:Q (.bl (decide (0<=i) && decide (i < (m:Int)))) H:=q;refine Ak (fun e=>?_) (fun e=>?_)
  ·have e':0<=i:=ZR e;rw[ZL e',Bool.true_and]at q;exact q
  ·rw[Zg (fun z=>e (ZL z)),Bool.false_and]at q;exact q
 | _=>exact q
theorem VH{d:Dw}(h:Gs m d=true):∃q:Nat,d=.int (q:Int)/\q < m:=by
 cases d with
 | int i =>
  have h':(decide (0<=i) && decide (i < (m:Int)))=true:=h;rw[ZQ,decide_eq_true_iff,decide_eq_true_iff]at h';exact⟨i.toNat,by rw[ZBs h'.1],by lia⟩
 | _=>cases h
noncomputable def Ez:Dw->Bool
 | .tup [_,_]=>true
 | _=>false
theorem QW{d:Dw}(h:Ez d=true):∃d0 d1,d=.tup [d0,d1]:=by
 match d,h with
 | .tup [d0,d1],_=>exact⟨d0,d1,rfl⟩
 | .tup [],h=>cases h
 | .tup [_],h=>cases h
 | .tup (_::_::_::_),h=>cases h
 | .non,h=>cases h
 | .bl _,h=>cases h
 | .int _,h=>cases h
 | .str _,h=>cases h
 | .lst _,h=>cases h
 | .emp,h=>cases h
theorem Qb{d:Dw}(h:En d=true):∃i,d=.int i:=by
 cases d with
 | int i=>exact⟨i,rfl⟩
 | _=>cases h
theorem Sh:Xp P w base T.z62 1 (C5 K Ez):=by
 refine T.z62.F.ok QK (fun vs H Q E h=>by unfold C5 at h;walk_at "e") ?_;walk_at "f"
 match vs,h with
 | [v],⟨d,hd,q⟩ =>
 refine⟨_,(@AH _ _ _ (@AL _ _ _ _ (Cs (Aa (Es (K:=K)) rfl T.z_isinstance (by rfl) (AA (vv 0) (AA (EA (v:=.ty "tuple") rfl T.z_tuple (by rfl) rfl) AB))) (CT (A7 (kEq (K:=K) hu) (Aa (As (K:=K)) rfl T.z_len (by rfl) (AA (vv 0) AB)) AC))))),?_⟩;refine⟨by decide,d,hd,?_⟩;cases d with
 | tup ds =>
  obtain⟨p,xs,rfl,hp,hx⟩:=DY hd;refine⟨_,.inr ⟨_,hp,rfl⟩,?_⟩
  have e:Ez (.tup ds)=(false ^^ ((xs.length:Int) == 2)):=by
   rw[<- hx.length]
   match ds with
   | []=>rfl
   | [_]=>rfl
   | [_,_]=>rfl
   | _::_::_::r =>
    show false=_;rw[Z2];symm;rw[beq_eq_false_iff_ne]
    show((r.length+1+1+1:Nat):Int)≠2
    lia
  rw[e]at q;exact q
 | _=>exact q
noncomputable def ThW(n:Nat)(d:Dw):Prop:=∃ts:List Nat,d=.tup (ts.map fun(t:Nat)=>Dw.int (t:Int))/\ts.Pairwise (· < ·)/\∀t∈ts,t < n
noncomputable def Ej(K:W.Frag):Sp:=fun vs H Q _=>match vs with
 | [.int z,v]=>∃(n:Nat) (d:Dw),z=n/\Yo K H d v/\∀b:Bool,(b=true ↔ ThW n d)->Q (.bl b) H
 | _=>False
theorem Oo:AR (Ej K):=fun vs H Q Q' E h q=>by
 unfold Ej at *;walk_at "q"
theorem Rm{ts:List Nat}(h:ts.Pairwise (· < ·))(hl:∀t∈ts,t < k):(ts++[k]).Pairwise (· < ·):=by
 rw[List.pairwise_append];exact⟨h,by simp,fun a ha b hb=>by rw[ZO]at hb;rw[hb];exact hl a ha⟩
theorem Uu:Xp P w base T.z42 3 (Ej K):=by
 refine T.z42.F.ok sc_z42 (fun vs H Q E h=>by unfold Ej at h;walk_at "e") ?_;walk_at "f";have mo1:AR (FC K):=VB;unfold Ej at h;walk_at "g"
 rename_i z v;obtain⟨n,d,e1,hd,q⟩:=h;subst e1;refine⟨_,(@AF _ _ _ _ _ (@Ao _ _ _ _ _ _ _ _ (Cd (BM (Aa (Es (K:=K)) rfl T.z_isinstance (by rfl) (AA (vv 1) (AA (EA (v:=.ty "tuple") rfl T.z_tuple (by rfl) rfl) AB))))) (@AH _ _ _ (@AL _ _ _ _ Aw)) An) (@AF _ _ _ _ _ (@AN _ _ 2 _ _ _ _ sc_z42.nd rfl (by right) (OP N2 AC) (by rfl) (by walk_at "i")) (@AF _ _ _ _ _ (@Be _ _ _ _ _ _ _ _ PassesOwn.never rfl (BF (K:=K) (vv 1)) (AO (i:=3) sc_z42.nd rfl (by right)) (@AF _ _ _ _ _ (@Ao _ _ _ _ _ _ _ _ (PW.pt (Dd (Cd (BM (AI (@LM P w K mg base T) (hr.mono (show 2<=_ by decide)) rfl T.z57.m T.z57.F.kp T.z57.b .nil AG (AA (vv 0) (AA (vv 3) AB))))) (Dy (Ae G4 (vv 3) (vv 2))))) (@AH _ _ _ (@AL _ _ _ _ Aw)) An) (@AH _ _ _ (@AN _ _ 2 _ _ _ _ sc_z42.nd rfl (by right) (vv 3) (by rfl) (by walk_at "i")))) (by intro _;rfl)) (@AH _ _ _ (@AL _ _ _ _ Aw))))),?_⟩;refine AX (fun Z H'=>(∃z2 z3:Option V,Z=[some (.int (n:Nat)),some v,z2,z3])/\H=H'/\∃ds,d=.tup ds) ?_ ?_ (by walk_at "sm")
 ·refine⟨by decide,d,hd,?_⟩;cases d with
  | tup ds=>exact⟨⟨_,_,rfl⟩,rfl,ds,rfl⟩
  | _=>exact q false ⟨(fun z=>nomatch z),fun⟨ts,e,_⟩=>nomatch e⟩
 rintro Z _ ⟨⟨z2,z3,rfl⟩,rfl,ds,rfl⟩;obtain⟨p,xs,rfl,hp,hx⟩:=DY hd;have Yk:=hx.length;refine AX (fun Z H'=>Z=[some (.int (n:Nat)),some (.ref p),some (.int (-1)),z3]/\H=H') ⟨rfl,rfl⟩ ?_ (by walk_at "sm");rintro Z _ ⟨rfl,rfl⟩;refine AX (fun Z H'=>H=H'/\ThW n (.tup ds)) ?_ (fun Z H' ⟨e,h⟩=>by subst e;exact q true ⟨fun _=>h,fun _=>rfl⟩) (by walk_at "sm");refine .inr ⟨⟨_,hp⟩,?_⟩;refine Ht (xs:=xs) (fun j Z H'=>∃(ts:List Nat) (lst:Int) (z3:Option V),Z=[some (.int (n:Nat)),some (.ref p),some (.int lst),z3]/\H=H'/\ds.take j=(ts.map fun(t:Nat)=>Dw.int (t:Int))/\ts.length=j/\ts.Pairwise (· < ·)/\(∀t∈ts,t < n)/\(∀t∈ts,(t:Int)<=lst)/\(lst = -1\/∃t∈ts,lst=(t:Int))) ⟨[],-1,_,rfl,rfl,rfl,rfl,by simp,(fun t ht=>by cases ht),(fun t ht=>by cases ht),.inl rfl⟩ (fun j Z H' _ ⟨_,_,_,_,e,_⟩=>by subst e;exact hp) ?_ ?_
 ·rintro j x Z H1 hxj ⟨ts,lst,z3,rfl,rfl,htk,htl,hup,Yr,hle,hla⟩;have hj:j < ds.length:=by rw[Yk];exact(Zf.mp hxj).1
  have ed:ds[j]? = some ds[j]:=ZD hj;obtain⟨x',ex,rx⟩:=hx.get ed;rw[hxj]at ex;cases ex;have htk1:ds.take (j+1)=(ts.map fun(t:Nat)=>Dw.int (t:Int))++[ds[j]]:=by rw[Zm,ed,htk];rfl
  generalize ds[j]=dj at *;refine⟨n,dj,rfl,rx,?_⟩;cases hb:Gs n dj with
  | false =>
   refine q false ⟨(fun z=>nomatch z),fun⟨ts',e,h1,h2⟩=>?_⟩;cases e;rw[ZP]at ed;cases ek:ts'[j]? with
   | none=>rw[ek]at ed;cases ed
   | some k =>
    rw[ek]at ed;cases ed
    have:=h2 k (Zt ek)
    have hb':(decide (0<=(k:Int)) && decide ((k:Int) < (n:Int)))=false:=hb;rw[ZL (by lia),ZL (by lia)]at hb';cases hb'
  | true =>
   obtain⟨k,rfl,hk⟩:=VH hb;unfold Yo at rx;subst rx;refine Ak (fun z=>?_) (fun z=>?_)
   ·have z:(k:Int)<=lst:=ZR z;refine q false ⟨(fun z=>nomatch z),fun⟨ts',e,h1,h2⟩=>?_⟩;cases e;rw[ZP]at ed;cases ek:ts'[j]? with
    | none=>rw[ek]at ed;cases ed
    | some k' =>
     rw[ek]at ed
     have:k'=k:=by
      have e:Dw.int (k':Int)=Dw.int (k:Int):=ZU ed;injection e with e
      lia
     subst this
     rcases hla with y | ⟨t,ht,y⟩
     ·lia
     ·obtain⟨i,hi,ei⟩:=Zp ht
      have e1:((ts'.map fun(t:Nat)=>Dw.int (t:Int)).take j)[i]? = some (Dw.int (t:Int)):=by
       rw[htk,ZP,ZD hi,ei];rfl
      rw[List.getElem?_take_of_lt (by lia),ZP]at e1;cases et:ts'[i]? with
      | none=>rw[et]at e1;cases e1
      | some t' =>
       rw[et]at e1
       have e2:t'=t:=by
        have e:Dw.int (t':Int)=Dw.int (t:Int):=ZU e1;injection e with e
        lia
       subst e2;obtain⟨i1,i2⟩:=Zf.mp et;obtain⟨j1,j2⟩:=Zf.mp ek
       have:=List.pairwise_iff_getElem.mp h1 i j i1 j1 (by lia)
       rw[i2,j2]at this;lia
   ·have z:¬(k:Int)<=lst:=fun y=>z (ZL y)
    refine⟨ts++[k],k,_,rfl,rfl,?_,by rw[ZM,htl];rfl,Rm hup fun t ht=>by have:=hle t ht;lia,fun t ht=>?_,fun t ht=>?_,.inr ⟨k,by simp,rfl⟩⟩
    ·rw[htk1,ZF];rfl
    ·rcases Zb.mp ht with y | y
     ·exact Yr t y
     ·rw[ZO]at y;lia
    ·rcases Zb.mp ht with y | y
     ·have:=hle t y;lia
     ·rw[ZO]at y;lia
 ·rintro Z H1 ⟨ts,lst,z3,rfl,rfl,htk,htl,hup,Yr,hle,hla⟩;rw[<- Yk,Zq]at htk;exact⟨rfl,ts,by rw[htk],hup,Yr⟩
noncomputable def DE(ls:List Int)(e:List Nat × Int):Prop:=EntOk ls.length e/\¬One (AE ls) (fun k=>decide (k∈e.1))
noncomputable def Dp(K:W.Frag):Sp:=fun vs H Q _=>match vs with
 | [u,v]=>∃ls rs d,Yf K H (gmD ls rs) u/\Gm ls rs/\Yo K H d v/\∀(b:Bool) H',(b=true ↔ ∃e,d=Ax e/\DE ls e)->Yb H H'->Q (.bl b) H'
 | _=>False
theorem V1:AR (Dp K):=fun vs H Q Q' E h q=>by
 unfold Dp at *;walk_at "q"
theorem O1:Xp P w base T.z58 4 (Dp K):=by
 refine T.z58.F.ok Rp (fun vs H Q E h=>by unfold Dp at h;walk_at "e") ?_;walk_at "f";have mo1:AR (C5 K Ez):=N4;have mo2:AR (Ej K):=Oo;have mo3:AR (C5 K En):=N4;unfold Dp at h;walk_at "g"
 rename_i u v;obtain⟨ls,rs,d,hg,G,hd,q⟩:=h;obtain⟨a,tl,rl,ps,rfl,g⟩:=Bl hg;have l16:=G.l16;refine⟨_,(@AF _ _ _ _ _ (@Ao _ _ _ _ _ _ _ _ (PW.pt (Dd (Cd (BM (AI (@Sh P w K mg base T) (hr.mono (show 1<=_ by decide)) rfl T.z62.m T.z62.F.kp T.z62.b .nil AG (AA (vv 1) AB)))) (Dd (Cd (BM (AI (@Uu P w K mg base T) (hr.mono (show 3<=_ by decide)) rfl T.z42.m T.z42.F.kp T.z42.b .nil AG (AA (Aa (As (K:=K)) rfl T.z_len (by rfl) (AA (Yl (K:=K) (vv 0) AC) AB)) (AA (Yl (K:=K) (vv 1) AC) AB))))) (Dy (Cd (BM (AI (@II P w K mg base T) (hr.mono (show 1<=_ by decide)) rfl T.z56.m T.z56.F.kp T.z56.b .nil AG (AA (Yl (K:=K) (vv 1) AC) AB)))))))) (@AH _ _ _ (@AL _ _ _ _ Aw)) An) (@AH _ _ _ (@AL _ _ _ _ (Cs (A7 Gk (Yl (K:=K) (vv 1) AC) AC) (CT (A7 Cb (Aa On rfl T.z_len (by rfl) (AA (At (WA (K:=K) rfl) rfl T.z_set (by rfl) (AA (Ap (N':=["each","game"]) (own:=1) (ix:=[0]) rfl (BF (K:=K) (Yl (K:=K) (vv 1) AC)) (by kernel_rfl) rfl rfl (by kernel_rfl) (fun c=>AO (i:=0) (show(["each","game"]:List Str).Nodup by decide +kernel) rfl (by right)) (Ac (by decide)) (fun c=>Am) (fun c=>(Yl (K:=K) (Yl (K:=K) (vv 1) AC) (vv 0)))) AB)) AB)) AC)))))),?_⟩;refine AX (fun Z H'=>Z=[some (.ref a),some v]/\H=H'/\∃(ts:List Nat) (k:Int),d=.tup [.tup (ts.map fun(t:Nat)=>Dw.int (t:Int)),.int k]/\ts.Pairwise (· < ·)/\∀t∈ts,t < ls.length) ?_ ?_ (by walk_at "sm")
 ·refine⟨d,hd,?_⟩;cases hb:Ez d with
  | false=>exact q false H ⟨(fun z=>nomatch z),fun⟨e,he,_⟩=>by rw[he]at hb;cases hb⟩ (Yb.refl _)
  | true =>
   obtain⟨d0,d1,rfl⟩:=QW hb;obtain⟨p,xs,rfl,hp,hx⟩:=DY hd;unfold Ym at hx;obtain⟨x0,l0,rfl,r0,hx⟩:=hx;unfold Ym at hx;obtain⟨x1,l1,rfl,r1,hx⟩:=hx;unfold Ym at hx;subst hx;refine⟨_,.ref tl,.inr g.two,rfl,ls.length,.inr ⟨_,g.lab,by rw[ZB]⟩,_,x0,.inr hp,AW (n:=0) rfl rfl,ls.length,d0,rfl,r0,fun b hb1=>?_⟩;cases b with
   | false=>exact q false H ⟨(fun z=>nomatch z),fun⟨e,he,h⟩=>by
    unfold Ax at he;injection he with he
    injection he with h0 _
    exact nomatch hb1.mpr ⟨e.1,h0,h.1.up,h.1.lt⟩⟩ (Yb.refl _)
   | true =>
    refine⟨_,x1,.inr hp,AW (n:=1) rfl rfl,d1,r1,?_⟩;cases hw:En d1 with
    | false=>exact q false H ⟨(fun z=>nomatch z),fun⟨e,he,h⟩=>by
     unfold Ax at he;injection he with he
     injection he with _ h1
     injection h1 with h1 _
     rw[h1]at hw;cases hw⟩ (Yb.refl _)
    | true =>
     obtain⟨k,rfl⟩:=Qb hw;obtain⟨ts,rfl,h1,h2⟩:=hb1.mp rfl;exact⟨rfl,rfl,ts,k,rfl,h1,h2⟩
 rintro Z _ ⟨rfl,rfl,ts,k,rfl,hup,Yr⟩;obtain⟨b,c,rfl,hb,hc⟩:=Ni (e:=(ts,k)) hd;have hb:Yp K H b [.ref c,.int k]:=hb;have hc:Yp K H c (iL ts):=hc;have Yk:ts.length<=ls.length:=D5 ls.length ts (hup.imp fun h=>ZT h) Yr
 have inj:∀e:List Nat × Int,Dw.tup [.tup (ts.map fun(t:Nat)=>Dw.int (t:Int)),.int k]=Ax e->e=(ts,k):=fun e he=>by
  unfold Ax at he;injection he with he
  injection he with h0 h1
  injection h1 with h1 _
  injection h0 with h0
  injection h1 with h1
  have:e.1=ts:=by
   have inj':∀a b:Nat,Dw.int (a:Int)=Dw.int (b:Int)->a=b:=fun a b h=>by injection h with h;lia
   exact((List.map_inj_right fun a b h=>inj' a b h).mp h0).symm
  exact Prod.ext this h1.symm
 refine⟨_,_,.inr hb,AW (n:=1) rfl rfl,?_⟩;refine Ak (fun z=>?_) (fun z=>?_)
 ·have z:1<=k:=ZR z;refine⟨_,_,.inr hb,AW (n:=0) rfl rfl,.inr ⟨⟨_,hc⟩,?_⟩⟩
  refine Cq (xs:=iL ts) (fun k zs H'=>H'=H/\zs=((ts.take k).map (AE ls)).map V.int) ⟨rfl,rfl⟩ (fun k zs H' _ ⟨e,_⟩=>by rw[e];exact hc) (fun k zs H' hk ⟨_,e⟩=>by
   rw[Aj]at hk;rw[e,ZB,ZB,ZW];exact Ag (by lia)) ?_ ?_
  ·rintro k x zs H' hx ⟨rfl,rfl⟩;obtain⟨t,ht,hmem,rfl⟩:=Bp hx;refine⟨_,.ref tl,.inr g.two,rfl,_,.int (AE ls t),.inr g.lab,C6 (Yr t hmem),rfl,?_⟩;rw[Zm,ht,ZF,ZF];rfl
  ·rintro zs H' ⟨rfl,rfl⟩ l hl';rw[Aj,Zq];refine⟨_,.of AD,by rw[ZB];lia,fun ds qs nd hmem hqs=>?_⟩;have S:=(Yb.upd (o:=.lst ((ts.map (AE ls)).map V.int)) hl').trans (Yb.upd (o:=FT ds) hqs);have o1:=WH (ls:=ls) nd hmem;refine⟨ds,AD,?_⟩;refine q _ _ ?_ S;rw[decide_eq_true_iff];constructor
   ·intro h;exact⟨(ts,k),rfl,⟨hup,Yr,z⟩,fun o=>by have:=o1.mpr o;lia⟩
   ·rintro⟨e,he,h1,h2⟩
    have:=inj e he
    subst this
    have:¬ds.length < 2:=fun y=>h2 (o1.mp y)
    lia
 ·refine q false H ⟨(fun z=>nomatch z),fun⟨e,he,h1,h2⟩=>?_⟩ (Yb.refl _)
  have:=inj e he
  subst this;exact absurd (ZL h1.one) z
noncomputable def Fa(rs:List (List Bool))(es:Bk):Prop:=∀e∈es,1 < e.2->∀r∈rs,∃(ans:Bool),∃e'∈es,e.2 - 1<=e'.2/\∀t∈e'.1,t∈e.1/\gB r t=ans
noncomputable def GX(ls:List Int)(rs:List (List Bool))(z:Int)(d:Dw):Prop:=∃es:Bk,d=.tup (es.map Ax)/\(∀e∈es,DE ls e)/\(z<=0\/∃e∈es,z<=e.2)/\Fa rs es
theorem sub_tb:S &&& U=S ↔ ∀k,S.testBit k=true->U.testBit k=true:=by
 constructor
 ·intro h k hk;rw[<- h,Z1,ZQ]at hk;exact hk.2
 ·intro h;apply Nat.eq_of_testBit_eq;intro k;rw[Z1];cases e:S.testBit k with
  | false=>rfl
  | true=>rw[h k e];rfl
theorem PL(hok:∀e∈es,EntOk ls.length e)(N:NumsOf ls.length es Yd)(G:Gm ls rs) :
 (∀(U:Nat) (m:Int),(kN U,V.int m)∈Yd->1 < m->∀y∈rs.map AM,BG Yd (U &&& y) (m - 1)\/BG Yd (U - (U &&& y)) (m - 1)) ↔ Fa rs es:=by
 have bit:∀e∈es,∀k,(msk e.1).testBit k=decide (k∈e.1):=fun e he=>(FQ (hok e he).up (hok e he).lt).2
 have key:∀(e:List Nat × Int) (he:e∈es) (r:List Bool) (m:Int),(BG Yd (msk e.1 &&& AM r) m\/BG Yd (msk e.1 - (msk e.1 &&& AM r)) m) ↔ ∃(ans:Bool) (S:Nat) (k:Int),(kN S,V.int k)∈Yd/\m<=k/\∀t,S.testBit t=true->t∈e.1/\gB r t=ans:=by
  intro e he r m;constructor
  ·rintro(⟨S,k,h1,h2,h3⟩ | ⟨S,k,h1,h2,h3⟩)
   ·refine⟨true,S,k,h1,h3,fun t ht=>?_⟩
    have:=sub_tb.mp h2 t ht
    rw[Z1,ZQ,bit e he,decide_eq_true_iff,mskR_bit]at this;exact this
   ·refine⟨false,S,k,h1,h3,fun t ht=>?_⟩
    have:=sub_tb.mp h2 t ht
    rw[Cn]at this;rw[ZQ,bit e he,decide_eq_true_iff,mskR_bit,ZBz]at this;exact this
  ·rintro⟨ans,S,k,h1,h3,h⟩;cases ans with
   | true =>
    refine .inl ⟨S,k,h1,sub_tb.mpr fun t ht=>?_,h3⟩;rw[Z1,ZQ,bit e he,decide_eq_true_iff,mskR_bit];exact h t ht
   | false =>
    refine .inr ⟨S,k,h1,sub_tb.mpr fun t ht=>?_,h3⟩;rw[Cn];rw[ZQ,bit e he,decide_eq_true_iff,mskR_bit,ZBz];exact h t ht
 constructor
 ·intro h e he h1 r hr;obtain⟨k,hk,hle⟩:=N.to_ e he;obtain⟨ans,S,k',h2,h3,h4⟩:=(key e he r (k - 1)).mp (h _ k hk (by lia) _ (ZJ.mpr ⟨r,hr,rfl⟩));obtain⟨e',he',rfl,rfl⟩:=N.fro S k' h2;exact⟨ans,e',he',by lia,fun t ht=>h4 t (by rw[bit e' he'];exact ZL ht)⟩
 ·intro h U m hm h1 y hy;obtain⟨r,hr,rfl⟩:=ZJ.mp hy;obtain⟨e,he,rfl,rfl⟩:=N.fro U m hm;obtain⟨ans,e',he',h2,h3⟩:=h e he h1 r hr;obtain⟨k',hk',hle⟩:=N.to_ e' he';refine(key e he r _).mpr ⟨ans,_,k',hk',by lia,fun t ht=>h3 t ?_⟩;rw[bit e' he']at ht;exact ZR ht
theorem Lj{P':List Nat × Int->Prop}:∀{ds:List Dw},(∀d∈ds,∃e,d=Ax e/\P' e)->∃es:Bk,ds=es.map Ax/\∀e∈es,P' e
 | [],_=>⟨[],rfl,fun e he=>by cases he⟩
 | d::ds,h=>by
  obtain⟨e,rfl,h1⟩:=h d (Zo ..);obtain⟨es,rfl,h2⟩:=Lj (ds:=ds) fun x hx=>h x (Ze _ hx)
  exact⟨e::es,rfl,fun x hx=>by
   rcases ZH.mp hx with rfl | hx
   ·exact h1
   ·exact h2 x hx⟩
theorem Ky{e e':List Nat × Int}(he:Ax e=Ax e'):e=e':=by
 unfold Ax at he;injection he with he
 injection he with h0 h1
 injection h1 with h1 _
 injection h0 with h0
 injection h1 with h1
 have inj':∀a b:Nat,Dw.int (a:Int)=Dw.int (b:Int)->a=b:=fun a b h=>by injection h with h;lia
 exact Prod.ext ((List.map_inj_right fun a b h=>inj' a b h).mp h0) h1
noncomputable def D8(K:W.Frag):Sp:=fun vs H Q _=>match vs with
 | [u,.int z,v]=>∃ls rs d,Yf K H (gmD ls rs) u/\Gm ls rs/\Yo K H d v/\(∀ds,d=.tup ds->ds.length<=100000)/\∀(b:Bool) H',(b=true ↔ GX ls rs z d)->Yb H H'->Q (.bl b) H'
 | _=>False
theorem O0:AR (D8 K):=fun vs H Q Q' E h q=>by
 unfold D8 at *;walk_at "q"
theorem RP:Xp P w base T.z52 6 (D8 K):=by
 refine T.z52.F.ok Qf (fun vs H Q E h=>by unfold D8 at h;walk_at "e") ?_;walk_at "f";have hr_z33:=hr.mono (show 4<=_ by decide);have hr1_z33:=hr.mono (show 4+1<=_ by decide);have mo1:AR (Dp K):=V1;have mo2:AR (Ee K T.C_Bearing):=Pg;have mo3:AR (Ec K T.C_Bearing):=Sf;unfold D8 at h;walk_at "g"
 rename_i u z v;obtain⟨ls,rs,d,hg,G,hd,hbk,q⟩:=h;refine⟨_,(@AF _ _ _ _ _ (@Ao _ _ _ _ _ _ _ _ (PW.pt (Dd (Cd (BM (Aa (Es (K:=K)) rfl T.z_isinstance (by rfl) (AA (vv 2) (AA (EA (v:=.ty "tuple") rfl T.z_tuple (by rfl) rfl) AB))))) (Dy (Cd (BM (Aa (J7 (K:=K) rfl) rfl T.z_all (by rfl) (AA (Ap (N':=["entry","game"]) (own:=1) (ix:=[0]) rfl (BF (K:=K) (vv 2)) (by kernel_rfl) rfl rfl (by kernel_rfl) (fun c=>AO (i:=0) (show(["entry","game"]:List Str).Nodup by decide +kernel) rfl (by right)) (Ac (by decide)) (fun c=>Am) (fun c=>(AI (@O1 P w K mg base T) (hr.mono (show 4<=_ by decide)) rfl T.z58.m T.z58.F.kp T.z58.b .nil AG (AA (vv 1) (AA (vv 0) AB))))) AB))))))) (@AH _ _ _ (@AL _ _ _ _ Aw)) An) (@AH _ _ _ (@AL _ _ _ _ (Cs (A7 Gk (Lg (K:=K) (@Ap _ _ _ _ _ _ _ ["entry"] 1 [] _ _ _ _ rfl (BF (K:=K) (vv 2)) (by kernel_rfl) rfl rfl (by kernel_rfl) (fun c=>AO (i:=0) (show(["entry"]:List Str).Nodup by decide +kernel) rfl (by right)) (Ac (by decide)) (fun c=>Am) (fun c=>(Yl (K:=K) (vv 0) AC)) (by intro _;rfl)) T.z_max rfl) (vv 1)) (CT (NU (LC T.mk_Bearing (@Vq P w K mg base T) hr1_z33 rfl T.mC_Bearing T.z33.b .nil AG (AA (vv 0) (AA (vv 2) AB))) T.cl_Bearing T.z20.m (@W2 P w K mg base T) (hr.mono (show 5<=_ by decide)) T.z20.b .nil AG)))))),?_⟩;refine AX (fun Z H'=>Z=[some u,some (.int z),some v]/\Yb H H'/\∃es:Bk,d=.tup (es.map Ax)/\∀e∈es,DE ls e) ?_ ?_ (by walk_at "sm")
 ·refine⟨by decide,d,hd,?_⟩;cases d with
  | tup ds =>
   obtain⟨p,xs,rfl,hp,hx⟩:=DY hd;have Yk:=hx.length;have hdl:=hbk ds rfl;have hsl:sizeLine=16777216:=by decide
   refine .inr ⟨⟨_,hp⟩,?_⟩;refine Cq (xs:=xs) (fun j zs H'=>∃bs:List Bool,zs=bs.map V.bl/\bs.length=j/\Yb H H'/\∀(t:Nat) (dj:Dw),t < j->ds[t]? = some dj->(bs[t]? = some true ↔ ∃e,dj=Ax e/\DE ls e)) ⟨[],rfl,rfl,Yb.refl _,fun t dj h=>absurd h (ZBT _)⟩ (fun j zs H' _ ⟨_,_,_,s1,_⟩=>s1.sqT hp) (fun j zs H' hj ⟨bs,e,e2,_⟩=>by rw[e,ZB,e2];lia) ?_ ?_
   ·rintro j x zs H1 hxj ⟨bs,rfl,hbl,s1,hh⟩;have hj:j < ds.length:=by rw[Yk];exact(Zf.mp hxj).1
    have ed:ds[j]? = some ds[j]:=ZD hj;obtain⟨x',ex,rx⟩:=hx.get ed;rw[hxj]at ex;cases ex;refine⟨ls,rs,ds[j],hg.same s1,G,Yo.same s1 _ _ rx,fun b H2 hb s2=>?_⟩;refine⟨bs++[b],by rw[ZF];rfl,by rw[ZM,hbl];rfl,s1.trans s2,fun t dj ht hdj=>?_⟩
    rcases Zu t j with a | a
    ·rw[ZBL (by lia)];exact hh t dj a hdj
    ·have:t=j:=by lia
     subst this;rw[ed]at hdj;cases hdj;rw[ZBE (by lia),hbl,ZBm];rw[<- hb];simp
   ·rintro zs H1 ⟨bs,rfl,hbl,s1,hh⟩ l nl;have s2:=s1.trans (Yb.upd (o:=.lst (bs.map V.bl)) nl);refine⟨bs,.of AD,?_⟩;cases hb:bs.all id with
    | true =>
     have hall:=Z3.mp hb
     obtain⟨es,h1,h2⟩:=Lj (P':=DE ls) (ds:=ds) fun dj hdj=>by
      obtain⟨t,ht,rfl⟩:=Zp hdj;refine(hh t _ (by lia) (ZD ht)).mp ?_;rw[ZD (show t < bs.length by lia)];exact congrArg some (hall _ (Zc _))
     exact⟨rfl,s2,es,by rw[h1],h2⟩
    | false =>
     refine q false _ ⟨(fun z=>nomatch z),fun⟨es,e,h1,_⟩=>?_⟩ s2
     have:bs.all id=true:=by
      rw[Z3];intro b hb';obtain⟨t,ht,rfl⟩:=Zp hb';have htd:t < ds.length:=by lia
      have hds:ds=es.map Ax:=by injection e
      have hte:t < es.length:=by rw[hds,ZB]at htd;exact htd
      have:=(hh t ds[t] (by lia) (ZD htd)).mpr ⟨es[t],by simp only[hds,List.getElem_map],h1 _ (Zc _)⟩
      rw[ZD ht]at this;exact ZU this
     rw[hb]at this;cases this
  | _=>exact q false H ⟨(fun z=>nomatch z),fun⟨es,e,_⟩=>nomatch e⟩ (Yb.refl _)
 rintro Z H1 ⟨rfl,s1,es,rfl,hes⟩;obtain⟨ua,xs,rfl,E1⟩:=N3 (Yo.same s1 _ _ hd)
 have hel:es.length<=100000:=by
  have h1:=hbk _ rfl;rw[ZB]at h1;lia
 have hsl:sizeLine=16777216:=by decide
 have hxl:=E1.len
 have hz:∀M:Int,(es.map (·.2)=[]->M=0)->(es.map (·.2)≠[]->M∈es.map (·.2)/\∀a∈es.map (·.2),a<=M)->(z<=M ↔ z<=0\/∃e∈es,z<=e.2):=by
  intro M m0 m1
  by_cases e:es.map (·.2)=[]
  ·rw[m0 e]
   have:es=[]:=List.map_eq_nil_iff.mp e
   subst this;simp
  ·obtain⟨a1,a2⟩:=m1 e;obtain⟨x,hx,rfl⟩:=ZJ.mp a1;constructor
   ·intro h;exact .inr ⟨x,hx,h⟩
   ·rintro(h | ⟨y,hy,h⟩)
    ·have:=(hes x hx).1.one;lia
    ·have:=a2 _ (ZJ.mpr ⟨y,hy,rfl⟩);lia
 refine .inr ⟨⟨_,E1.sq⟩,?_⟩;refine Cq (xs:=xs) (fun j zs H'=>H'=H1/\zs=((es.take j).map (·.2)).map V.int) ⟨rfl,rfl⟩ (fun j zs H' _ ⟨e,_⟩=>by rw[e];exact E1.sq) (fun j zs H' hj ⟨_,e⟩=>by rw[e,ZB,ZB,ZW];lia) ?_ ?_
 ·rintro j x zs H2 hxj ⟨rfl,rfl⟩;have hj:j < es.length:=by rw[<- hxl];exact(Zf.mp hxj).1
  have ee:es[j]? = some es[j]:=ZD hj;obtain⟨x',ex,b,c,rfl,hb,hc⟩:=E1.at_ j _ ee;rw[hxj]at ex;cases ex;refine⟨_,_,.inr hb,AW (n:=1) rfl rfl,rfl,?_⟩;rw[Zm,ee,ZF,ZF];rfl
 rintro zs H2 ⟨rfl,rfl⟩ l nl;rw[hxl,Zq];have s2:=Yb.upd (o:=.lst ((es.map (·.2)).map V.int)) nl;have g2:=AD (H:=H2) (a:=l) (o:=.lst ((es.map (·.2)).map V.int));generalize upd H2 l (.lst ((es.map (·.2)).map V.int))=H3 at *;refine⟨l,_,rfl,.of g2,fun M m0 m1=>?_⟩;have hzM:=hz M m0 m1;have S3:=s1.trans s2;refine Ak (fun y=>?_) (fun y=>?_)
 ·have y:z<=M:=ZR y;intro x dx hx hdx Yv
  have s4:Yb H3 (upd (upd H3 dx (.own x)) x (.ins T.C_Bearing dx [])):=(Yb.upd (o:=.own x) hdx).trans (fun b o e=>by
   have:b≠x:=fun z=>by
    rw[z,AJ (Ne.symm Yv),hx]at e;cases e
   rw[AJ this];exact e)
  have hx4:upd (upd H3 dx (.own x)) x (.ins T.C_Bearing dx []) x=some (.ins T.C_Bearing dx []):=AD;generalize upd (upd H3 dx (.own x)) x (.ins T.C_Bearing dx [])=H4 at *;have S4:=S3.trans s4;refine⟨ls,rs,dx,es,hx4,hg.same S4,G,Yo.same S4 _ _ hd,fun e he=>(hes e he).1,hel,fun Yd nd fd H5 hn hf nnp nfp N R f5=>⟨rfl,?_⟩⟩;obtain⟨dx5,yl5,fvs5,k1,_⟩:=id R.at_;have hb:=PL (fun e he=>(hes e he).1) N G;refine⟨x,dx5,_,rfl,k1,nb4 _ _ _,ls.length,rs.map AM,Yd,nd,fd,R,fun b H6 hb6 kp6=>q b H6 ?_ ?_⟩
  ·rw[hb6,hb];constructor
   ·intro h;exact⟨es,rfl,hes,hzM.mp y,h⟩
   ·rintro⟨es',e,_,_,h⟩;have e:es.map Ax=es'.map Ax:=by injection e
    have:es=es':=(List.map_inj_right fun a b h=>Ky h).mp e
    rw[this];exact h
  ·intro b o e;have e4:=S4 b o e;have e5:=f5 b o (fun z=>by rw[z]at e;have:=S3 _ _ e;rw[hx]at this;cases this) e4;refine kp6.1 b o (fun z=>?_) (fun z=>?_) e5
   ·rw[z,hn]at e4;cases e4
   ·rw[z,hf]at e4;cases e4
 ·refine q false _ ⟨(fun z=>nomatch z),fun⟨es',e,_,h,_⟩=>?_⟩ S3;have e:es.map Ax=es'.map Ax:=by injection e
  have:es=es':=(List.map_inj_right fun a b h=>Ky h).mp e
  subst this;exact absurd (ZL (hzM.mpr h)) y
theorem De{d:Dv}{ds:List Dv}(h:Yc K H (d::ds) xs):∃x l,xs=x::l/\Yf K H d x/\Yc K H ds l:=by unfold Yc at h;exact h
theorem IJ:∀{ds:List Dv} {xs:List V} {i:Nat} {x:V},Yc K H ds xs->xs[i]? = some x->∃d,ds[i]? = some d/\Yf K H d x
 | [],xs,i,x,h,e=>by unfold Yc at h;subst h;cases e
 | d::ds,xs,i,x,h,e=>by
  obtain⟨y,l,rfl,r,h⟩:=De h;cases i with
  | zero=>cases e;exact⟨d,rfl,r⟩
  | succ i=>exact IJ (ds:=ds) (i:=i) h (by simpa using e)
inductive Tr where
 | say (i:Int)
 | ask (q:Nat) (n y:Tr)
noncomputable def Tr.dv:Tr->Dv
 | .say i=>.tup [.str (Str.ofString "say"),.int i]
 | .ask q n y=>.tup [.str (Str.ofString "ask"),.int (q:Int),n.dv,y.dv]
noncomputable def Tr.ok(m:Nat):Tr->Prop
 | .say _=>True
 | .ask q n y=>q < m/\n.ok m/\y.ok m
noncomputable def Tr.size:Tr->Nat
 | .say _=>1
 | .ask _ n y=>1+n.size+y.size
noncomputable def Tr.deep:Tr->Nat
 | .say _=>1
 | .ask _ n y=>1+max n.deep y.deep
noncomputable def Tr.kids:Tr->List Tr
 | .say _=>[]
 | .ask _ n y=>[n,y]
theorem Tr.deep_pos(t:Tr):1<=t.deep:=by cases t <;> (unfold Tr.deep;lia)
theorem Tr.size_pos(t:Tr):1<=t.size:=by cases t <;> (unfold Tr.size;lia)
theorem Tr.tups:∀t:Tr,BB t.dv=true
 | .say i=>rfl
 | .ask q n y=>by
  unfold Tr.dv BB Ah Ah Ah Ah Ah;rw[Tr.tups n,Tr.tups y];rfl
theorem Gr{i:Int}(h:Yf K H (Tr.say i).dv v):∃p,v=.ref p/\Yp K H p [.str (Str.ofString "say"),.int i]:=by
 obtain⟨a,xs,rfl,hs,hx⟩:=Bj h;obtain⟨x0,l0,rfl,r0,hx⟩:=De hx;obtain⟨x1,l1,rfl,r1,hx⟩:=De hx;unfold Yc at hx;subst hx;unfold Yf at r0 r1;subst r0 r1;exact⟨a,rfl,hs⟩
theorem Gw{q:Nat}{n y:Tr}(h:Yf K H (Tr.ask q n y).dv v):∃p x2 x3,v=.ref p/\Yp K H p [.str (Str.ofString "ask"),.int (q:Int),x2,x3]/\Yf K H n.dv x2/\Yf K H y.dv x3:=by
 obtain⟨a,xs,rfl,hs,hx⟩:=Bj h;obtain⟨x0,l0,rfl,r0,hx⟩:=De hx;obtain⟨x1,l1,rfl,r1,hx⟩:=De hx;obtain⟨x2,l2,rfl,r2,hx⟩:=De hx;obtain⟨x3,l3,rfl,r3,hx⟩:=De hx;unfold Yc at hx;subst hx;unfold Yf at r0 r1;subst r0 r1;exact⟨a,x2,x3,rfl,hs,r2,r3⟩
noncomputable def LI(K:W.Frag):Sp:=fun vs H Q _=>match vs with
 | [.int z,v]=>∃(m:Nat) (t:Tr),z=m/\Yf K H t.dv v/\t.ok m/\Q (.bl true) H
 | _=>False
theorem Oz:Xp P w base T.z36 3 (LI K):=by
 refine T.z36.F.ok O9 (fun vs H Q E h=>by unfold LI at h;walk_at "e") ?_;walk_at "f";have hr_z56:=hr.mono (show 1<=_ by decide)
 match vs,h with
 | [.int z,v],⟨m,t,e1,hv,hok,q⟩ =>
 subst e1;refine⟨_,(@AF _ _ _ _ _ (@Ao _ _ _ _ _ _ _ _ (PW.pt (Dd (Cd (BM (Aa (Qs (K:=K)) rfl T.z_isinstance (by rfl) (AA (vv 1) (AA (EA (v:=.ty "tuple") rfl T.z_tuple (by rfl) rfl) AB))))) (Dy (Ae Cu (Aa (As (K:=K)) rfl T.z_len (by rfl) (AA (vv 1) AB)) AC)))) (@AH _ _ _ (@AL _ _ _ _ Aw)) An) (@AF _ _ _ _ _ (@Ao _ _ _ _ _ _ _ _ (Ae (kEq (K:=K) hu) (Yl (K:=K) (vv 1) AC) Cw) (@AH _ _ _ (@AL _ _ _ _ (Cs (A7 (kEq (K:=K) hu) (Aa (As (K:=K)) rfl T.z_len (by rfl) (AA (vv 1) AB)) AC) (CT (AI (@II P w K mg base T) hr_z56 rfl T.z56.m T.z56.F.kp T.z56.b .nil AG (AA (Yl (K:=K) (vv 1) AC) AB)))))) An) (@AH _ _ _ (@AL _ _ _ _ (Cs (A7 (kEq (K:=K) hu) (Yl (K:=K) (vv 1) AC) Cw) (Cs (A7 (kEq (K:=K) hu) (Aa (As (K:=K)) rfl T.z_len (by rfl) (AA (vv 1) AB)) AC) (CT (AI (@LM P w K mg base T) (hr.mono (show 2<=_ by decide)) rfl T.z57.m T.z57.F.kp T.z57.b .nil AG (AA (vv 0) (AA (Yl (K:=K) (vv 1) AC) AB)))))))))),?_⟩;cases t with
 | say i =>
  obtain⟨p,rfl,hp⟩:=Gr hv;refine⟨by decide,_,hv,?_⟩;refine⟨2,.inr ⟨_,hp,rfl⟩,?_⟩;refine⟨_,_,.inr hp,AW (n:=0) rfl rfl,?_⟩;refine⟨2,.inr ⟨_,hp,rfl⟩,_,_,.inr hp,AW (n:=1) rfl rfl,.int i,by unfold Yo;rfl,q⟩
 | ask k n y =>
  obtain⟨p,x2,x3,rfl,hp,r2,r3⟩:=Gw hv;refine⟨by decide,_,hv,?_⟩;refine⟨4,.inr ⟨_,hp,rfl⟩,?_⟩;refine⟨_,_,.inr hp,AW (n:=0) rfl rfl,?_⟩;refine⟨_,_,.inr hp,AW (n:=0) rfl rfl,?_⟩;refine⟨4,.inr ⟨_,hp,rfl⟩,_,_,.inr hp,AW (n:=1) rfl rfl,m,.int (k:Int),rfl,by unfold Yo;rfl,?_⟩
  have e:Gs m (.int (k:Int))=true:=by
   have hk:k < m:=hok.1
   show(decide (0<=(k:Int)) && decide ((k:Int) < (m:Int)))=true
   rw[ZL (by lia),ZL (by lia)];rfl
  rw[e];exact q
noncomputable def Ex(K:W.Frag):Sp:=fun vs H Q _=>match vs with
 | [v]=>∃(t:Tr),Yf K H t.dv v/\∀p xs H',Yb H H'->Yp K H' p xs->Yc K H (t.kids.map Tr.dv) xs->Q (.ref p) H'
 | _=>False
theorem UF:AR (Ex K):=fun vs H Q Q' E h q=>by
 unfold Ex at *;walk_at "q"
theorem W8:Xp P w base T.z38 1 (Ex K):=by
 refine T.z38.F.ok T1 (fun vs H Q E h=>by unfold Ex at h;walk_at "e") ?_;walk_at "f"
 match vs,h with
 | [v],⟨t,hv,q⟩ =>
 refine⟨_,(@AH _ _ _ (@AL _ _ _ _ (DW (Ae (kEq (K:=K) hu) (Yl (K:=K) (vv 0) AC) Cw) (BD AB) (Ii (K:=K) (vv 0) (Gh AC) Fz)))),?_⟩;cases t with
 | say i =>
  obtain⟨p,rfl,hp⟩:=Gr hv;refine⟨_,_,.inr hp,AW (n:=0) rfl rfl,?_⟩;exact⟨ZV _,fun p1 n1=>q p1 [] _ (Yb.upd n1) (.of AD) Ad⟩
 | ask k n y =>
  obtain⟨p,x2,x3,rfl,hp,r2,r3⟩:=Gw hv;refine⟨_,_,.inr hp,AW (n:=0) rfl rfl,?_⟩;exact⟨2,rfl,_,hp,fun p1 H' s' h'=>q p1 [x2,x3] H' s' h' (AU r2 (AU r3 Ad))⟩
noncomputable def EZ:Sp:=fun vs H Q _=>match vs with
 | [.int m,.int d]=>Q (.bl (decide (2000 < m) || decide (16 < d))) H
 | _=>False
theorem QX:AR EZ:=fun vs H Q Q' E h q=>by
 unfold EZ at *;split at q
 ·exact h _ _ q
 ·exact q.elim
theorem VU:Xp P w base T.z25 1 EZ:=by
 refine T.z25.F.ok PN (fun vs H Q E h=>by unfold EZ at h;walk_at "e") ?_;walk_at "f";unfold EZ at h;walk_at "g"
 rename_i m d;have q:=h;have q:Q (.bl (decide (2000 < m) || decide (16 < d))) H:=q;refine⟨_,(@AH _ _ _ (@AL _ _ _ _ (JN (A7 Cb (vv 0) (Ge (v:=.int 2000) rfl T.c_MOST_TREES ⟨_,rfl⟩)) (CT (A7 Cb (vv 1) (Ge (v:=.int 16) rfl T.c_MOST_WITHIN ⟨_,rfl⟩)))))),?_⟩;refine Ak (fun e=>?_) (fun e=>?_)
 ·have e':(2000:Int) < m:=ZR e;rw[ZL e',Bool.true_or]at q
  first | exact q | (rw[<- ZL e']at q;exact q)
 ·have e':¬(2000:Int) < m:=fun z=>e (ZL z)
  rw[Zg e',Bool.false_or]at q;exact q
noncomputable def FL(K:W.Frag)(vA:V):V->Hp->VK->Prop:=fun v H Q=>∃ls rs t,Yf K H (gmD ls rs) vA/\Gm ls rs/\Yf K H (Tr.dv t) v/\t.ok rs.length/\Q (.bl true) H
theorem PF{vA:V}:∀v H Q Q',(∀y H',Q y H'->Q' y H')->FL K vA v H Q->FL K vA v H Q':=fun v H Q Q' k q=>by
 obtain⟨ls,rs,t,h1,h2,h3,h4,q⟩:=q;exact⟨ls,rs,t,h1,h2,h3,h4,k _ _ q⟩
noncomputable def KQ(K:W.Frag)(ftw fil Yq c':Addr)(qual:Str)(vA:V):Sp:=fun vs H Q _=>match vs with
 | [.ref a,.ref b,.ref c,v]=>a=Yq/\b=ftw/\c=fil/\H c'=some (CdO c' qual)/\∃ls rs t,Yf K H (gmD ls rs) vA/\Gm ls rs/\Yf K H (Tr.dv t) v/\t.ok rs.length/\t.deep<=16/\t.size<=2000/\∀H',Yb H H'->Q (.bl true) H'
 | _=>False
noncomputable def D1(L:List Tr):Nat:=(L.map Tr.size).sum
theorem Jd:∀L:List Tr,L.length<=D1 L
 | []=>ZE _
 | t::L=>by
  have:=Jd L
  have h:=t.size_pos;unfold D1 at *;rw[Za,List.sum_cons,Zi];lia
theorem Ki:∀L:List Tr,D1 (L.flatMap Tr.kids)+L.length=D1 L
 | []=>rfl
 | t::L=>by
  have ih:=Ki L;unfold D1 at *;rw[List.flatMap_cons,ZF,List.sum_append,Za,List.sum_cons,Zi]
  have:(t.kids.map Tr.size).sum+1=t.size:=by
   cases t with
   | say i=>rfl
   | ask q n y=>show(n.size+(y.size+0))+1=1+n.size+y.size;lia
  lia
theorem Vd(L:List Tr):(L.flatMap Tr.kids).length<=2 * L.length:=by
 induction L with
 | nil=>exact ZV _
 | cons t L ih =>
  rw[List.flatMap_cons,ZM,Zi]
  have:t.kids.length<=2:=by cases t <;> simp[Tr.kids]
  lia
theorem Wn{t k:Tr}(h:t.ok m)(hk:k∈t.kids):k.ok m/\k.deep+1<=t.deep:=by
 cases t with
 | say i=>cases hk
 | ask q n y =>
  have hk:k∈[n,y]:=hk;simp only[ZH,ZBw,or_false]at hk
  rcases hk with rfl | rfl
  ·exact⟨h.2.1,by show k.deep+1<=1+max k.deep y.deep;lia⟩
  ·exact⟨h.2.2,by show k.deep+1<=1+max n.deep k.deep;lia⟩
theorem Mp:∀M:List Tr,Ah (M.map Tr.dv)=true
 | []=>by unfold Ah;rfl
 | t::M=>by
  rw[Za];unfold Ah;rw[t.tups,Mp M];rfl
theorem Qp{Yq c':Addr}{vA:V}{qual x:Str}{fdl:FuncData}(FV_has_form:FnOk P w K mg base CX0 6 Yq fdl [x] (CH c' qual (FL K vA)))(KV_has_form:GE K base Yq)(BV_has_form:Binds K fdl [x] []) :
 Xp P w base T.z60 8 (KQ K T.z38.f T.z25.f Yq c' qual vA):=by
 have FV_parts_within:=@W8 P w K mg base T;have FV_is_beyond:=@VU P w K mg base T;have KV_parts_within:GE K base T.z38.f:=.inl T.z38.F.kp;have KV_is_beyond:GE K base T.z25.f:=.inl T.z25.F.kp;have BV_parts_within:=T.z38.b;have BV_is_beyond:=T.z25.b;refine T.z60.F.ok sc_z60 (fun vs H Q E h=>by unfold KQ at h;walk_at "e") ?_;walk_at "f";have mo1:AR (CH c' qual (FL K vA)):=P9 PF;have mo2:AR (Ex K):=UF;have mo3:AR EZ:=QX;have RV_has_form:=hr.mono (show 6<=_ by decide);have RV_parts_within:=hr.mono (show 1<=_ by decide);have RV_is_beyond:=hr.mono (show 1<=_ by decide)
 match vs,h with
 | [.ref a,.ref b,.ref c,v],h =>
 obtain⟨e1,e2,e3,hcd,ls,rs,t,hg,G,hv,hok,hdp,hsz,q⟩:=h;subst e1 e2 e3;refine⟨_,(@AF _ _ _ _ _ (@AN _ _ 4 _ _ _ _ sc_z60.nd rfl (by right) (@BK _ _ _ _ (AA (vv 3) AB)) (by rfl) (by walk_at "i")) (@AF _ _ _ _ _ (@AN _ _ 5 _ _ _ _ sc_z60.nd rfl (by right) AC (by rfl) (by walk_at "i")) (@AF _ _ _ _ _ (@AN _ _ 6 _ _ _ _ sc_z60.nd rfl (by right) AC (by rfl) (by walk_at "i")) (@AF _ _ _ _ _ (@Er _ _ _ _ _ _ PassesOwn.never (Ae Cb (Aa (As (K:=K)) rfl T.z_len (by rfl) (AA (vv 4) AB)) AC) (@AF _ _ _ _ _ (@Ao _ _ _ _ _ _ _ _ (BM (Hi (vv 2) FV_is_beyond RV_is_beyond KV_is_beyond BV_is_beyond (AA (vv 6) (AA (vv 5) AB)))) (@AH _ _ _ (@AL _ _ _ _ Aw)) An) (@AF _ _ _ _ _ (@AN _ _ 7 _ _ _ _ sc_z60.nd rfl (by right) (@BK _ _ _ _ AB) (by rfl) (by walk_at "i")) (@AF _ _ _ _ _ (@Be _ _ _ _ _ _ _ _ PassesOwn.never rfl (BF (K:=K) (vv 4)) (AO (i:=8) sc_z60.nd rfl (by right)) (@AF _ _ _ _ _ (@Ao _ _ _ _ _ _ _ _ (Cd (BM (Hi (vv 0) FV_has_form RV_has_form KV_has_form BV_has_form (AA (vv 8) AB)))) (@AH _ _ _ (@AL _ _ _ _ Aw)) An) (@AH _ _ _ (@CP _ _ _ _ (Xc (K:=K) (vv 7) (AA (Hi (vv 1) FV_parts_within RV_parts_within KV_parts_within BV_parts_within (AA (vv 8) AB)) AB)) (by rfl)))) (by intro _;rfl)) (@AF _ _ _ _ _ (@AN _ _ 4 _ _ _ _ sc_z60.nd rfl (by right) (vv 7) (by rfl) (by walk_at "i")) (@AF _ _ _ _ _ (@AN _ _ 5 _ _ _ _ sc_z60.nd rfl (by right) (AQ (BA (K:=K)) (vv 5) AC) (by rfl) (by walk_at "i")) (@AH _ _ _ (@AN _ _ 6 _ _ _ _ sc_z60.nd rfl (by right) (AQ (BA (K:=K)) (vv 6) (Aa (As (K:=K)) rfl T.z_len (by rfl) (AA (vv 4) AB))) (by rfl) (by walk_at "i"))))))))) (@AH _ _ _ (@AL _ _ _ _ Aw)))))),?_⟩;refine⟨smq rfl,fun l nl=>?_⟩;dsimp only[AT]
 refine⟨fun mm Z H'=>∃(l:Addr) (L:List Tr) (xs:List V) (d mn:Nat) (z7 z8:Option V),mm=17 - d/\Z=[some (.ref a),some (.ref T.z38.f),some (.ref T.z25.f),some v,some (.ref l),some (.int d),some (.int mn),z7,z8]/\Yb H H'/\H l=none/\H' l=some (.lst xs)/\Yc K H' (L.map Tr.dv) xs /\
  (∀u∈L,u.ok rs.length/\d+u.deep<=17)/\mn+D1 L<=2000+L.length/\L.length<=mn/\1<=d,⟨17 - 1,l,[t],[v],1,1,none,none,rfl,rfl,Yb.upd nl,nl,AD,AU (Yf.same (Yb.upd nl) _ _ hv) Ad,?_,?_,ZE _,ZE _⟩,?_⟩
 ·intro u hu';rw[ZO]at hu';subst hu';exact⟨hok,by lia⟩
 ·show 1+(t.size+0)<=2000+1;lia
 rintro mm Z H1 ⟨l1,L,xs,d,mn,z7,z8,rfl,rfl,s1,nl1,g1,hx,hL,hmn,hLm,hd1⟩;have hxl:=hx.length;rw[ZB]at hxl;have hsg:=Jd L;refine⟨xs.length,.inl ⟨xs,.of g1,rfl⟩,?_⟩;refine Ak (fun e=>?_) (fun e=>?_)
 ·have hpos:0 < L.length:=by
   have:(0:Int) < (xs.length:Int):=ZR e
   lia
  obtain⟨u0,hu0⟩:∃u,u∈L:=⟨L[0],Zc hpos⟩
  have hd16:d<=16:=by
   have:=(hL u0 hu0).2
   have:=u0.deep_pos
   lia
  refine⟨rfl,?_⟩
  have e0:(decide ((2000:Int) < (mn:Int)) || decide ((16:Int) < (d:Int)))=false:=by
   rw[Zg (by lia),Zg (by lia)];rfl
  show(if (decide ((2000:Int) < (mn:Int)) || decide ((16:Int) < (d:Int)))=true then _ else _)
  rw[e0];refine Pw ?_;dsimp only[Co];have hL2:L.length<=2000:=by lia
  refine⟨ZV _,fun b nb=>?_⟩;dsimp only[AT];have nb0:H b=none:=s1.free nb;have hbl:b≠l1:=fun z=>by rw[z,g1]at nb;cases nb
  refine AX (fun Z H'=>∃(ys:List V) (z8:Option V),Z=[some (.ref a),some (.ref T.z38.f),some (.ref T.z25.f),some v,some (.ref l1),some (.int d),some (.int mn),some (.ref b),z8]/\Yb H H'/\H' b=some (.lst ys)/\Yc K H' ((L.flatMap Tr.kids).map Tr.dv) ys) ?_ ?_ (by walk_at "sm")
  ·refine .inl ⟨⟨_,.inl (.of (by rw[AJ (Ne.symm hbl)];exact g1))⟩,?_⟩;refine Jj (xs:=xs) (fun j Z H'=>∃(ys:List V) (z8:Option V),Z=[some (.ref a),some (.ref T.z38.f),some (.ref T.z25.f),some v,some (.ref l1),some (.int d),some (.int mn),some (.ref b),z8]/\Yb H H'/\H' l1=some (.lst xs)/\H' b=some (.lst ys)/\Yc K H' (((L.take j).flatMap Tr.kids).map Tr.dv) ys/\Yc K H' (L.map Tr.dv) xs) ⟨[],z8,rfl,J6 s1 nb0,by rw[AJ (Ne.symm hbl)];exact g1,AD,Ad,Yc.same (Yb.upd nb) _ _ hx⟩ (fun j Z H' _ ⟨_,_,_,_,g,_⟩=>.inl (.of g)) ?_ ?_
   ·rintro j xv Z H2 hxj ⟨ys,z8',rfl,s2,g2,gb2,hy,hx2⟩;obtain⟨dd,hdd,rdd⟩:=IJ hx2 hxj;rw[ZP]at hdd;obtain⟨u,hu',rfl⟩:=ZB4.mp hdd;have hum:=Zt hu';refine⟨rfl,s2 _ _ hcd,ls,rs,u,Yf.same s2 _ _ hg,G,rdd,(hL u hum).1,?_⟩;refine⟨.inl ⟨rfl,_,.of gb2⟩,rfl,u,rdd,fun p zs H3 s3 hp3 hz3=>?_⟩;have hyl:=hy.length;rw[ZB]at hyl;have hkl:=Vd (L.take j);rw[ZW]at hkl;have hzl:=hz3.length;rw[ZB]at hzl;have hul:u.kids.length<=2:=by cases u <;> simp[Tr.kids]
    have f3:Yj b H3 (upd H3 b (.lst (ys++zs))):=fun b' o n e=>by rw[AJ n];exact e
    have lb:∃ws,H3 b=some (.lst ws):=⟨_,s3 _ _ gb2⟩;have fz:=fun(M:List Tr) (ws:List V) (r:Yc K H2 (M.map Tr.dv) ws)=>Yc.frm f3 lb _ _ (Mp M) (Yc.same s3 _ _ r)
    refine⟨ys,zs,s3 _ _ gb2,hp3,by lia,ys++zs,_,rfl,J6 (s2.trans s3) nb0,by rw[AJ (Ne.symm hbl)];exact s3 _ _ g2,AD,?_,fz L xs hx2⟩;rw[Zm,hu',List.flatMap_append,ZF];refine(fz _ _ hy).append ?_;have e0:((some u).toList.flatMap Tr.kids)=u.kids:=by simp
    rw[e0];exact fz _ _ hz3
   ·rintro Z H2 ⟨ys,z8',rfl,s2,g2,gb2,hy,_⟩;rw[<- hxl,Zq]at hy;exact⟨ys,_,rfl,s2,gb2,hy⟩
  rintro Z H2 ⟨ys,z8',rfl,s2,gb2,hy⟩;have hyl:=hy.length;rw[ZB]at hyl;refine⟨ys.length,.inl ⟨ys,.of gb2,rfl⟩,?_⟩;have hsk:=Ki L;have hkg:=Jd (L.flatMap Tr.kids);refine⟨17 - (d+1),by lia,b,L.flatMap Tr.kids,ys,d+1,mn+ys.length,_,_,rfl,rfl,s2,nb0,gb2,hy,fun k hk=>?_,by lia,by lia,by lia⟩;obtain⟨u,hu',hku⟩:=List.mem_flatMap.mp hk;have h1:=Wn (hL u hu').1 hku;have h2:=(hL u hu').2;exact⟨h1.1,by lia⟩
 ·have hz:L.length=0:=by
   have:¬(0:Int) < (xs.length:Int):=fun z=>e (ZL z)
   lia
  exact q H1 s1
noncomputable def Qq(b:List Stmt):Expr:=match b with
 | [.Return (some (.Call _ (l::_) _ _)) _]=>l
 | _=>.Name "" ⟨0,0,0,0⟩
noncomputable def Iw(e:Expr):Arguments:=match e with
 | .Lambda p _ _ _=>p
 | _=>{ posonlyargs:=[],args:=[],vararg:=none,kwonlyargs:=[],kw_defaults:=[],kwarg:=none,defaults:=[] }
noncomputable def Kd(e:Expr):Expr:=match e with
 | .Lambda _ b _ _=>b
 | e=>e
noncomputable def Fe(e:Expr):Scope:=match e with
 | .Lambda _ _ s _=>s
 | _=>{ kind:=.function,names:=[],isGenerator:=false,isCoroutine:=false }
noncomputable def CY:Expr:=Qq (BY Ct)
theorem VR(T:Txt K mg){Yq cell c':Addr}{pm ctv uA:Value}{vA:V}(hl:base.get? Yq=some (W.kla_obj "<lambda>" CN (Iw CY) (Kd CY) (Fe CY) [("game",cell)] pm c' ctv))(hc:base.IsCell cell (some uA))(rA:Yh vA uA) :
 FnOk P w K mg base CX0 6 Yq (W.kla_fn "<lambda>" CN (Iw CY) (Kd CY) (Fe CY) [("game",cell)] pm (.ref c') ctv) ["part"] (CH c' CN (FL K vA)):=by
 refine Ss (k:=5) hl hc rA rfl rfl ?_ rfl rfl rfl ?_ fun A outer s H v Q hr h=>?_
 ·intro y hy;have h:=Z3.mp (show(Fe CY).names.all (fun p=>p.2 != .free || p.1 == "game")=true by decide +kernel) _ (PySem.mem_of_lookup hy);simpa using h
 ·decide +kernel
 obtain⟨ls,rs,t,hg,G,hv,hok,q⟩:=h;obtain⟨a,tl,rl,ps,rfl,g⟩:=Bl hg;refine⟨_,(AI (@Oz P w K mg base T) (hr.mono (show 3<=_ by decide)) rfl T.z36.m T.z36.F.kp T.z36.b .nil AG (AA (Aa (As (K:=K)) rfl T.z_len (by rfl) (AA (Yl (K:=K) (vv 1) AC) AB)) (AA (vv 0) AB))),?_⟩;exact⟨_,_,.inr g.two,AW (n:=1) rfl rfl,rs.length,.inr ⟨_,g.rows,by rw[ZB,g.len]⟩,rs.length,t,rfl,hv,hok,q⟩
noncomputable def EH(K:W.Frag)(Pt:Addr):Sp:=fun vs H Q _=>match vs with
 | [u,v]=>∃ls rs t,Yf K H (gmD ls rs) u/\Gm ls rs/\Yf K H (Tr.dv t) v/\t.ok rs.length/\t.deep<=16/\t.size<=2000/\Yx Pt FI CN H/\∀H',Yu Pt H H'->Yx Pt FI CN H'->Q (.bl true) H'
 | _=>False
theorem Wd:AR (EH K Pt):=fun vs H Q Q' E h q=>by
 unfold EH at *;walk_at "q"
theorem O6(B:BMn mg base):Xp P w base T.z61 9 (EH K T.p_z61):=by
 refine T.z61.F.okC T.gc_z61 RW (fun vs H Q E h=>by unfold EH at h;walk_at "e") (fun A outer s H vs Q E hr h=>?_);have hu:=AS hr;unfold EH at h;walk_at "g"
 rename_i u v;obtain⟨ls,rs,t,hg,G,hv,hok,hdp,hsz,hL,q⟩:=h;let spK:Addr->Addr->V->Sp:=fun Yq c' vA=>KQ K T.z38.f T.z25.f Yq c' CN vA
 have hFL:∀(base':Heap) (Yq cell c':Addr) (pm ctv uA:Value) (vA:V),(∀b o,base.get? b=some o->base'.get? b=some o)->base'.get? Yq=some (W.kla_obj "<lambda>" CN (Iw CY) (Kd CY) (Fe CY) [("game",cell)] pm c' ctv)->base'.IsCell cell (some uA)->Yh vA uA->FnOk P w K mg base' CX0 8 T.z60.f T.z60.d ["has_form","parts_within","is_beyond","thing"] (spK Yq c' vA) :=
  fun base' Yq cell c' pm ctv uA vA _ hl hc rA=>Qp (base:=base') T (VR (base:=base') T hl hc rA) (.inr ⟨_,_,hl,rfl⟩) (.all fun us hl=>match us,hl with | [_],_=>rfl)
 have hclL:∀cell,(PyProof.Rows.envOfC "is_tree" (AK Ct) s.heap.objs.size T.z61.f (.ref T.g_z61)).cells.lookup (PySem.Str.ofString "game")=some cell->closureFor (Fe CY) (PyProof.Rows.envOfC "is_tree" (AK Ct) s.heap.objs.size T.z61.f (.ref T.g_z61))=pure [((PySem.Str.ofString "game" : Str),cell)]:=fun cell h=>by
  have e:some (s.heap.objs.size+1)=some cell:=h;cases e;rfl
 refine⟨_,(@AH _ _ _ (@AL _ _ _ _ (PV (c:=T.g_z61) (Pt:=T.p_z61) (qual:=CN) (i:=0) (a:="game") (spK:=spK) rfl T.z60.m T.z60.F.kp (hr.mono (show 8<=_ by decide)) T.z60.b rfl T.gh_z61 B rfl rfl rfl hclL rfl rfl hFL (AA (Ge (v:=.ref T.z38.f) rfl T.z38.m rfl) (AA (Ge (v:=.ref T.z25.f) rfl T.z25.m rfl) (AA (vv 1) AB)))))),?_⟩;refine⟨u,rfl,hL,fun Yq c' H1 g1 l1 hc1 hn1=>?_⟩;obtain⟨pz,hP,_⟩:=id hL;exact⟨rfl,rfl,rfl,hc1,ls,rs,t,Yf.tab g1 hP _ _ hg,G,Yf.tab g1 hP _ _ hv,hok,hdp,hsz,fun H' s'=>q H' (g1.trans (Yu.same s')) (l1.same s')⟩
theorem DA(l:Yx Pt pos q H)(f:Yj t H H')(ht:∃zs,H t=some (.lst zs)):Yx Pt pos q H':=by
 obtain⟨ps,a,b,c⟩:=l;obtain⟨zs,hz⟩:=ht;refine⟨ps,f _ _ (fun z=>by rw[z,hz]at a;cases a) a,b,?_⟩
 rcases c with c | ⟨c',c,d⟩
 ·exact .inl c
 ·exact .inr ⟨c',c,f _ _ (fun z=>by rw[z,hz]at d;cases d) d⟩
theorem Ma{ps:Array Value}(F:GFeed H t N)(g:Yu Pt H H')(hz:H Pt=some (.tbl ps)):GFeed H' t N:=by
 obtain⟨l,i,gg,c,ns,h1,h2,h3,h4,h5,h6,h7,h8⟩:=F.at_;exact⟨l,i,gg,c,ns,h1,h2,h3,h4,g _ _ (fun z=>by rw[z,hz]at h5;cases h5) h5,h6,g _ _ (fun z=>by rw[z,hz]at h7;cases h7) h7,h8⟩
noncomputable def ansB(rs:List (List Bool))(q k:Nat):Bool:=gB (rs.getD q []) k
noncomputable def Tr.end_(rs:List (List Bool))(k:Nat):Tr->Int
 | .say i=>i
 | .ask q n y=>if ansB rs q k=true then y.end_ rs k else n.end_ rs k
noncomputable def Tr.many(rs:List (List Bool))(k:Nat):Tr->Nat
 | .say _=>0
 | .ask q n y=>1+(if ansB rs q k=true then y.many rs k else n.many rs k)
noncomputable def E4(K:W.Frag):Sp:=fun vs H Q _=>match vs with
 | [u,v,.int z]=>∃ls rs t k,Yf K H (gmD ls rs) u/\Gm ls rs/\Yf K H (Tr.dv t) v/\t.ok rs.length/\z=(k:Nat)/\k < ls.length/\∀p H',Yb H H'->H' p=some (.tup [.int (t.end_ rs k),.int (t.many rs k:Nat)])->Q (.ref p) H'
 | _=>False
theorem Sx:AR (E4 K):=fun vs H Q Q' E h q=>by
 unfold E4 at *;walk_at "q"
theorem QP:Xp P w base T.z67 1 (E4 K):=by
 refine T.z67.F.ok sc_z67 (fun vs H Q E h=>by unfold E4 at h;walk_at "e") ?_;walk_at "f"
 match vs,h with
 | [u,v,.int z],⟨ls,rs,t,k,hg,G,hv,hok,e1,hk,q⟩ =>
 subst e1;obtain⟨a,tl,rl,ps,rfl,g⟩:=Bl hg;refine⟨_,(@AF _ _ _ _ _ (@AN _ _ 3 _ _ _ _ sc_z67.nd rfl (by right) (vv 1) (by rfl) (by walk_at "i")) (@AF _ _ _ _ _ (@AN _ _ 4 _ _ _ _ sc_z67.nd rfl (by right) AC (by rfl) (by walk_at "i")) (@AF _ _ _ _ _ (@Er _ _ _ _ _ _ PassesOwn.never (Ae (kEq (K:=K) hu) (Yl (K:=K) (vv 3) AC) Cw) (@AF _ _ _ _ _ (@AN _ _ 3 _ _ _ _ sc_z67.nd rfl (by right) (DW (BM (Yl (K:=K) (Yl (K:=K) (Yl (K:=K) (vv 0) AC) (Yl (K:=K) (vv 3) AC)) (vv 2))) (Yl (K:=K) (vv 3) AC) (Yl (K:=K) (vv 3) AC)) (by rfl) (by walk_at "i")) (@AH _ _ _ (@AN _ _ 4 _ _ _ _ sc_z67.nd rfl (by right) (AQ (BA (K:=K)) (vv 4) AC) (by rfl) (by walk_at "i"))))) (@AH _ _ _ (@AL _ _ _ _ (BD (AA (Yl (K:=K) (vv 3) AC) (AA (vv 4) AB)))))))),?_⟩;refine⟨fun mm Z H'=>∃(t':Tr) (x:V) (c:Nat),mm=t'.size/\Z=[some (.ref a),some v,some (.int k),some x,some (.int c)]/\H'=H/\Yf K H t'.dv x/\t'.ok rs.length/\c+t'.many rs k=t.many rs k/\t'.end_ rs k=t.end_ rs k,⟨_,t,v,0,rfl,rfl,rfl,hv,hok,Nat.zero_add _,rfl⟩,?_⟩;rintro mm Z H1 ⟨t',x,c,rfl,rfl,rfl,hx,hok',hc,he⟩;cases t' with
 | say i =>
  obtain⟨p,rfl,hp⟩:=Gr hx;refine⟨_,_,.inr hp,AW (n:=0) rfl rfl,?_⟩;refine⟨_,_,.inr hp,AW (n:=1) rfl rfl,smq rfl,fun p1 n1=>q p1 _ (Yb.upd n1) ?_⟩;have e1:i=t.end_ rs k:=he;have e2:c+0=t.many rs k:=hc;rw[<- e1,<- e2];exact AD
 | ask q0 n y =>
  obtain⟨p,x2,x3,rfl,hp,r2,r3⟩:=Gw hx;have hq:q0 < rs.length:=hok'.1;have hb:ps[q0]? = some (ps.getD q0 0):=by simp[ZN,show q0 < ps.length by rw[g.len];exact hq]
  have hr0:rs[q0]? = some (rs.getD q0 []):=by simp[ZN,hq]
  have hrow:=g.row q0 _ _ hb hr0;have hrl:(rs.getD q0 []).length=ls.length:=G.row _ (Zt hr0);refine⟨_,_,.inr hp,AW (n:=0) rfl rfl,?_⟩;refine⟨_,.ref rl,.inr g.two,rfl,_,_,.inr hp,AW (n:=1) rfl rfl,_,.ref (ps.getD q0 0),.inr g.rows,AW rfl (by rw[ZP,hb];rfl),_,.bl (gB (rs.getD q0 []) k),.inr hrow,FU (by rw[hrl];exact hk),?_⟩;have hm:(Tr.ask q0 n y).many rs k=1+(if ansB rs q0 k=true then y.many rs k else n.many rs k):=rfl;have hE:(Tr.ask q0 n y).end_ rs k=(if ansB rs q0 k=true then y.end_ rs k else n.end_ rs k):=rfl;rw[hm]at hc;rw[hE]at he;refine Ak (fun e=>?_) (fun e=>?_)
  ·have e':ansB rs q0 k=true:=e;rw[if_pos e']at hc he;exact⟨_,_,.inr hp,AW (n:=3) rfl rfl,y.size,by show y.size < 1+n.size+y.size;lia,y,x3,c+1,rfl,rfl,rfl,r3,hok'.2.2,by lia,he⟩
  ·have e':¬ansB rs q0 k=true:=e;rw[if_neg e']at hc he;exact⟨_,_,.inr hp,AW (n:=2) rfl rfl,n.size,by show n.size < 1+n.size+y.size;lia,n,x2,c+1,rfl,rfl,rfl,r2,hok'.2.1,by lia,he⟩
noncomputable def CB(ls:List Int)(rs:List (List Bool))(z:Int)(t:Tr)(k:Nat):Bool:=decide (t.end_ rs k=AE ls k) && decide ((t.many rs k:Int)<=z)
noncomputable def Eh(K:W.Frag):Sp:=fun vs H Q _=>match vs with
 | [u,.int z,v,.int h]=>∃ls rs t k,Yf K H (gmD ls rs) u/\Gm ls rs/\Yf K H (Tr.dv t) v/\t.ok rs.length/\h=(k:Nat)/\k < ls.length/\∀H',Yb H H'->Q (.bl (CB ls rs z t k)) H'
 | _=>False
theorem RM:AR (Eh K):=fun vs H Q Q' E h q=>by
 unfold Eh at *;walk_at "q"
theorem UJ:Xp P w base T.z41 2 (Eh K):=by
 refine T.z41.F.ok sc_z41 (fun vs H Q E h=>by unfold Eh at h;walk_at "e") ?_;walk_at "f";unfold Eh at h;walk_at "g"
 rename_i u z v h0;obtain⟨ls,rs,t,k,hg,G,hv,hok,e1,hk,q⟩:=h;subst e1;have mo:AR (E4 K):=Sx;refine⟨_,(@AF _ _ _ _ _ (@AN _ _ 4 _ _ _ _ sc_z41.nd rfl (by right) (AI (@QP P w K mg base T) (hr.mono (show 1<=_ by decide)) rfl T.z67.m T.z67.F.kp T.z67.b .nil AG (AA (vv 0) (AA (vv 2) (AA (vv 3) AB)))) (by rfl) (by walk_at "i")) (@AH _ _ _ (@AL _ _ _ _ (Cs (A7 (kEq (K:=K) hu) (Yl (K:=K) (vv 4) AC) (Yl (K:=K) (Yl (K:=K) (vv 0) AC) (vv 3))) (CT (A7 G4 (Yl (K:=K) (vv 4) AC) (vv 1))))))),?_⟩;refine⟨ls,rs,t,k,hg,G,hv,hok,rfl,hk,fun p H1 s1 g1=>?_⟩;dsimp only[AT];obtain⟨a,tl,rl,ps,rfl,g⟩:=Bl (Yf.same s1 _ _ hg);refine⟨_,_,.inr (.of g1),AW (n:=0) rfl rfl,_,.ref tl,.inr g.two,rfl,_,_,.inr g.lab,C6 hk,?_⟩;have e:CB ls rs z t k=(decide (t.end_ rs k=AE ls k) && decide ((t.many rs k:Int)<=z)):=rfl;have q':=q H1 s1;rw[e]at q';generalize t.end_ rs k=x at *;generalize AE ls k=y at *;generalize ((t.many rs k:Nat):Int)=m at *;have e2:(false ^^ (x == y))=decide (x=y):=by rw[Z2];rfl
 show if (false ^^ (x == y))=true then _ else _
 rw[e2];refine Ak (fun h=>?_) (fun h=>?_)
 ·refine⟨_,_,.inr (.of g1),AW (n:=1) rfl rfl,?_⟩;rw[h,Bool.true_and]at q';exact q'
 ·have:decide (x=y)=false:=by simpa using h
  rw[this,Bool.false_and]at q';exact q'
noncomputable def EO(K:W.Frag)(Pt:Addr):Sp:=fun vs H Q _=>match vs with
 | [u,.int z,v]=>∃ls rs t,Yf K H (gmD ls rs) u/\Gm ls rs/\Yf K H (Tr.dv t) v/\t.ok rs.length/\(t.deep<=16/\t.size<=2000)/\Yx Pt FI CN H/\∀H',Yu Pt H H'->Yx Pt FI CN H'->Q (.bl ((List.range ls.length).all (CB ls rs z t))) H'
 | _=>False
theorem Rs:AR (EO K Pt):=fun vs H Q Q' E h q=>by
 unfold EO at *;walk_at "q"
theorem Sz(B:BMn mg base):Xp P w base T.z51 10 (EO K T.p_z61):=by
 refine T.z51.F.ok Qn (fun vs H Q E h=>by unfold EO at h;walk_at "e") ?_;walk_at "f";have mo1:AR (EH K T.p_z61):=Wd;have mo2:AR (Eh K):=RM;unfold EO at h;walk_at "g"
 rename_i u z v;obtain⟨ls,rs,t,hg,G,hv,hok,hs,hL,q⟩:=h;refine⟨_,(@AF _ _ _ _ _ (@Ao _ _ _ _ _ _ _ _ (Cd (BM (AI (@O6 P w K mg base T B) (hr.mono (show 9<=_ by decide)) rfl T.z61.m T.z61.F.kp T.z61.b .nil AG (AA (vv 0) (AA (vv 2) AB))))) (@AH _ _ _ (@AL _ _ _ _ Aw)) An) (@AH _ _ _ (@AL _ _ _ _ (Aa (J7 (K:=K) rfl) rfl T.z_all (by rfl) (AA (Ap (N':=["hidden","game","d","thing"]) (own:=1) (ix:=[0,1,2]) rfl (BC rfl T.z_range (AA (Aa (As (K:=K)) rfl T.z_len (by rfl) (AA (Yl (K:=K) (vv 0) AC) AB)) AB)) (by kernel_rfl) rfl rfl (by kernel_rfl) (fun c=>AO (i:=0) (show(["hidden","game","d","thing"]:List Str).Nodup by decide +kernel) rfl (by right)) (Ac (by decide)) (fun c=>Am) (fun c=>(AI (@UJ P w K mg base T) (hr.mono (show 2<=_ by decide)) rfl T.z41.m T.z41.F.kp T.z41.b .nil AG (AA (vv 1) (AA (vv 2) (AA (vv 3) (AA (vv 0) AB))))))) AB))))),?_⟩;obtain⟨pz,hP,_⟩:=id hL;refine⟨ls,rs,t,hg,G,hv,hok,hs.1,hs.2,hL,fun H1 g1 L1=>?_⟩;have l16:=G.l16;have hg1:=Yf.tab g1 hP _ _ hg;have hv:=Yf.tab g1 hP _ _ hv;obtain⟨a,tl,rl,ps,rfl,g⟩:=Bl hg1;refine⟨_,.ref tl,.inr g.two,rfl,ls.length,.inr ⟨_,g.lab,by rw[ZB]⟩,ls.length,rfl,by lia,by lia,?_⟩;refine BW (fun j ys H'=>Yb H1 H'/\ys=((List.range j).map (CB ls rs z t)).map V.bl) ⟨Yb.refl _,rfl⟩ (fun j ys H' hj ⟨_,e⟩=>by rw[e,ZB,ZB,ZBB];exact Ag (by lia)) ?_ ?_
 ·rintro j ys H2 hj ⟨s2,rfl⟩;rw[ZZ]at hj;refine⟨ls,rs,t,j,Yf.same s2 _ _ hg1,G,Yf.same s2 _ _ hv,hok,by rw[Int.zero_add],hj,fun H3 s3=>⟨s2.trans s3,?_⟩⟩;rw[ZBN,ZF,ZF];rfl
 ·rintro ys H2 ⟨s2,rfl⟩ l nl;rw[ZZ];refine⟨(List.range ls.length).map (CB ls rs z t),.of AD,?_⟩;have s3:=s2.trans (Yb.upd (o:=.lst (((List.range ls.length).map (CB ls rs z t)).map V.bl)) nl);rw[show((List.range ls.length).map (CB ls rs z t)).all id=(List.range ls.length).all (CB ls rs z t) by rw[List.all_map];rfl];exact q _ (g1.trans (Yu.same s3)) (L1.same s3)
theorem ln8(a b c d:V):(BX a b c d).lookup ("label_of" : Str)=none:=by rfl
theorem ln9(a b c d:V):(BX a b c d).lookup ("first_question" : Str)=none:=by rfl
theorem lnA(a b c d:V):(BX a b c d).lookup ("harder_lefts" : Str)=none:=by rfl
theorem lnB(a b c d:V):(BX a b c d).lookup ("everything" : Str)=none:=by rfl
noncomputable def Dl(ls:List Int)(ys:List Nat):Tr->Nat->Prop
 | .say i,S=>One (AE ls) S.testBit/\∃k,S.testBit k=true/\i=AE ls k
 | .ask q n y,S=>¬One (AE ls) S.testBit/\FirstQ ls ys S q/\Dl ls ys n (S - (S &&& ys.getD q 0))/\Dl ls ys y (S &&& ys.getD q 0)
noncomputable def DH(K:W.Frag)(C Pt:Addr)(c:Nat):Sp:=fun vs H Q _=>match vs with
 | [.ref p,.int z]=>∃ls ys d S,RkAt K C ls ys H p d/\z=(S:Nat)/\S < 2 ^ ls.length/\S≠0/\(∃n,Can (AE ls) (AY ys) n S.testBit)/\Aq ls.length S.testBit < c/\Yx Pt FX CA H /\
  ∀(t:Tr) v H',Dl ls ys t S->Yf K H' t.dv v->RkAt K C ls ys H' p d->FrX [d,Pt] H H'->Yx Pt FX CA H'->Q v H'
 | _=>False
theorem XY{y:Nat}(h:Bi S.testBit y.testBit):S &&& y≠0/\S - (S &&& y)≠0:=by
 obtain⟨⟨i,h1,h2⟩,j,h3,h4⟩:=h;constructor
 ·intro z
  have:(S &&& y).testBit i=true:=by rw[Z1,h1,h2];rfl
  rw[z]at this;simp at this
 ·intro z
  have:(S - (S &&& y)).testBit j=true:=by rw[FA,h3,h4];rfl
  rw[z]at this;simp at this
theorem T4(B:BMn mg base)(c:Nat)(G_z49:Xp P w base T.z49 (78+c) (DH K T.C_Reckoner T.p_z12 c)) :
 FnOk P w K mg base CX0 (78+(c+1)) T.z49.f T.z49.d ["reckoner","things"] (DH K T.C_Reckoner T.p_z12 (c+1)):=by
 have G_z24:=@Hn P w K mg base T;refine T.z49.F.ok sc_z49 (fun vs H Q E h=>by unfold DH at h;walk_at "e") ?_;walk_at "f";have hr_z13:=hr.mono (show 2<=78+c by lia);have hr_z21:=hr.mono (show 5<=78+c by lia);have hr_z24:=hr.mono (show 1<=78+c by lia);have hr_z12:=hr.mono (show 77<=78+c by lia);have hr_z49:=hr;unfold DH at h;walk_at "g"
 rename_i p z;obtain⟨ls,ys,d,S,R,e1,hS,h0,⟨n,hc⟩,hk,hL,q⟩:=h;subst e1;obtain⟨dx,tl,yl,al,as,Yd,h1,_⟩:=id R.at_;refine⟨_,(@AF _ _ _ _ _ (@Ao _ _ _ _ _ _ _ _ (BM (Ay (vv 0) T.cl_Reckoner T.z13.m (@L9 P w K mg base T) hr_z13 T.z13.b .nil AG (AA (vv 1) AB))) (@AH _ _ _ (@AL _ _ _ _ (BD (AA Cw (AA (Ay (vv 0) T.cl_Reckoner T.z21.m (@QM P w K mg base T) hr_z21 T.z21.b .nil AG (AA (vv 1) AB)) AB))))) An) (@AF _ _ _ _ _ (@AN _ _ 2 _ _ _ _ sc_z49.nd rfl (by right) (Ay (vv 0) T.cl_Reckoner T.z12.m (@P0 P w K mg base T B) hr_z12 T.z12.b .nil AG (AA (vv 1) AB)) (by rfl) (by walk_at "i")) (@AF _ _ _ _ _ (@AN _ _ 3 _ _ _ _ sc_z49.nd rfl (by right) (AI G_z49 hr_z49 rfl T.z49.m T.z49.F.kp T.z49.b .nil AG (AA (vv 0) (AA (Ay (vv 0) T.cl_Reckoner T.z24.m G_z24 hr_z24 T.z24.b .nil AG (AA (vv 1) (AA (vv 2) (AA Aw AB)))) AB))) (by rfl) (by walk_at "i")) (@AF _ _ _ _ _ (@AN _ _ 4 _ _ _ _ sc_z49.nd rfl (by right) (AI G_z49 hr_z49 rfl T.z49.m T.z49.F.kp T.z49.b .nil AG (AA (vv 0) (AA (Ay (vv 0) T.cl_Reckoner T.z24.m G_z24 hr_z24 T.z24.b .nil AG (AA (vv 1) (AA (vv 2) (AA Aw AB)))) AB))) (by rfl) (by walk_at "i")) (@AH _ _ _ (@AL _ _ _ _ (BD (AA Cw (AA (vv 2) (AA (vv 3) (AA (vv 4) AB))))))))))),?_⟩;refine⟨p,dx,_,rfl,h1,ln3 _ _ _ _,ls,ys,d,S,R,rfl,hS,fun b H1 hb s1=>?_⟩;have R1:=R.same s1;have h11:=s1 _ _ h1;have L1:=hL.same s1;cases b with
 | true =>
  refine⟨p,dx,_,rfl,h11,ln8 _ _ _ _,ls,ys,d,S,R1,rfl,hS,h0,fun k H2 hk2 s2=>⟨smq rfl,fun t ht=>?_⟩⟩;have s3:Yb H2 (upd H2 t (.tup [.str (Str.ofString "say"),.int (AE ls k)])):=Yb.upd ht;exact q (.say (AE ls k)) _ _ ⟨hb.mp rfl,k,hk2,rfl⟩ (Ba (.of AD) (AU (by unfold Yf;rfl) (AU (by unfold Yf;rfl) Ad))) ((R1.same s2).same s3) (.same (s1.trans (s2.trans s3))) ((L1.same s2).same s3)
 | false =>
  have ho:¬One (AE ls) S.testBit:=fun o=>nomatch hb.mpr o
  dsimp only[Co];refine⟨p,dx,_,rfl,h11,ln9 _ _ _ _,ls,ys,d,S,R1,rfl,hS,⟨n,hc⟩,ho,L1,fun j H2 hj R2 f2 L2'=>?_⟩;dsimp only[AT];obtain⟨y1,y2⟩:=Ea hj.mem;obtain⟨⟨a1,a2,a3⟩,b1,b2,b3⟩:=GM hS hc y2 hk;obtain⟨n1,n2⟩:=XY y2;obtain⟨dx2,tl2,yl2,al2,as2,kvs2,k2,_⟩:=id R2.at_;refine⟨p,dx2,_,rfl,k2,ln7 _ _ _ _,ls,ys,d,S,j,_,R2,rfl,rfl,y1,?_⟩;refine⟨ls,ys,d,_,R2,rfl,b1,n2,⟨n,b2⟩,b3,L2',fun tn vn H3 bt3 rp3 R3 f3 L3=>?_⟩;dsimp only[AT];obtain⟨dx3,tl3,yl3,al3,as3,kvs3,k3,_⟩:=id R3.at_;refine⟨p,dx3,_,rfl,k3,ln7 _ _ _ _,ls,ys,d,S,j,_,R3,rfl,rfl,y1,?_⟩;refine⟨ls,ys,d,_,R3,rfl,a1,n1,⟨n,a2⟩,a3,L3,fun ty vy H4 bt4 rp4 R4 f4 L4=>⟨smq rfl,fun t ht=>?_⟩⟩;have O3:=SS (UX R3) (Pb L3);have s5:Yb H4 (upd H4 t (.tup [.str (Str.ofString "ask"),.int (j:Nat),vn,vy])):=Yb.upd ht;refine q (.ask j tn ty) _ _ ⟨ho,hj,bt3,bt4⟩ ?_ (R4.same s5) ((FrX.same s1).trans (f2.trans (f3.trans (f4.trans (.same s5))))) (L4.same s5);exact Ba (.of AD) (AU (by unfold Yf;rfl) (AU (by unfold Yf;rfl) (AU (Yf.same s5 _ _ (f4.rep O3 tn.tups rp3)) (AU (Yf.same s5 _ _ rp4) Ad))))
theorem K8(B:BMn mg base):∀c:Nat,Xp P w base T.z49 (78+c) (DH K T.C_Reckoner T.p_z12 c)
 | 0=>by
  have no:∀vs H Q E,¬DH K T.C_Reckoner T.p_z12 0 vs H Q E:=fun vs H Q E h=>by
   unfold DH at h;split at h
   ·obtain⟨ls,ys,d,S,_,_,_,_,_,z,_⟩:=h;exact absurd z (ZBT _)
   ·exact h
  exact⟨fun vs H Q E h=>(no _ _ _ _ h).elim,fun A outer s H args us vs Q E _ _ _ _ h=>(no _ _ _ _ h).elim⟩
 | c+1=>T4 T B c (K8 B c)
theorem V6(B:BMn mg base):Xp P w base T.z49 95 (DH K T.C_Reckoner T.p_z12 17):=K8 T B 17
noncomputable def CF(ls:List Int)(ys:List Nat)(S j X:Nat):Prop :=
 (X=S &&& ys.getD j 0/\AV ls ys (S - (S &&& ys.getD j 0)) < AV ls ys (S &&& ys.getD j 0))\/(X=S - (S &&& ys.getD j 0)/\AV ls ys (S &&& ys.getD j 0)<=AV ls ys (S - (S &&& ys.getD j 0)))
section
variable {ls:List Int}{ys:List Nat}{S X Y j n:Nat}
theorem WX(a:CF ls ys S j X)(b:CF ls ys S j Y):X=Y:=by
 rcases a with ⟨e,a⟩ | ⟨e,a⟩ <;> rcases b with ⟨f,b⟩ | ⟨f,b⟩ <;> lia
theorem LP(h:CF ls ys S j X):AV ls ys X=wst ls ys S j:=by
 unfold wst
 rcases h with ⟨rfl,h⟩ | ⟨rfl,h⟩ <;> lia
theorem Wq(h:CF ls ys S j X)(hS:S < 2 ^ n):X < 2 ^ n:=by
 have:=ZBl (n:=S) (m:=ys.getD j 0)
 rcases h with ⟨e,_⟩ | ⟨e,_⟩ <;> lia
theorem QG(h:CF ls ys S j X)(hc:Can (AE ls) (AY ys) n S.testBit):Can (AE ls) (AY ys) n X.testBit:=by
 obtain⟨c1,c2⟩:=FY (ys.getD j 0) hc
 rcases h with ⟨rfl,_⟩ | ⟨rfl,_⟩
 ·exact c1
 ·exact c2
theorem Nx(hj:j < ys.length)(hc:Can (AE ls) (AY ys) n S.testBit):AV ls ys S<=1+wst ls ys S j:=by
 obtain⟨c1,c2⟩:=FY (ys.getD j 0) hc;have c0:=Bu hc;have c1:=Bu c1;have c2:=Bu c2;unfold wst;generalize AV ls ys (S &&& ys.getD j 0)=b at *;generalize AV ls ys (S - (S &&& ys.getD j 0))=e at *;rw[DD]at c1;rw[Cn]at c2;refine Py (y:=(ys.getD j 0).testBit) (ZJ.mpr ⟨_,?_,rfl⟩) c0 c1 c2;rw[ZN,ZD hj];exact Zc hj
end
noncomputable def HF(K:W.Frag)(C:Addr):Sp:=fun vs H Q _=>match vs with
 | [.ref p,.int z,.int i]=>∃ls ys d S j,RkAt K C ls ys H p d/\z=(S:Nat)/\S < 2 ^ ls.length/\(∃n,Can (AE ls) (AY ys) n S.testBit)/\i=(j:Nat)/\j < ys.length /\
  ∀(X:Nat) H',CF ls ys S j X->RkAt K C ls ys H' p d->Yj d H H'->Q (.int (X:Nat)) H'
 | _=>False
theorem Qh:Xq P w mg base T.z17 73 (HF K T.C_Reckoner):=by
 have G_z24:=@Hn P w K mg base T;have G_z15:=@JL P w K mg base T;refine T.z17.F.ok sc_z17 (fun vs H Q E h=>by unfold HF at h;walk_at "e") ?_;walk_at "f";have hr_z24:=hr.mono (show 1<=_ by decide);have hr_z15:=hr.mono (show 72<=_ by decide);unfold HF at h;walk_at "g"
 rename_i p z i;obtain⟨ls,ys,d,S,j,R,e1,hS,⟨n,hc⟩,e2,hj,q⟩:=h;subst e1 e2;have l16:=R.l16;have hy:ys[j]? = some (ys.getD j 0):=by rw[ZN,ZD hj];rfl
 obtain⟨c1,c2⟩:=FY (ys.getD j 0) hc;have hle:=ZBl (n:=S) (m:=ys.getD j 0);have cd:∀U:Nat,Aq ls.length U.testBit < 17:=fun U=>by have:=DZ ls.length U.testBit;lia
 obtain⟨dx,tl,yl,al,as,Yd,h1,_⟩:=id R.at_;refine⟨_,(@AF _ _ _ _ _ (@AN _ _ 3 _ _ _ _ sc_z17.nd rfl (by right) (Ay (vv 0) T.cl_Reckoner T.z24.m G_z24 hr_z24 T.z24.b .nil AG (AA (vv 1) (AA (vv 2) (AA Aw AB)))) (by rfl) (by walk_at "i")) (@AF _ _ _ _ _ (@AN _ _ 4 _ _ _ _ sc_z17.nd rfl (by right) (Ay (vv 0) T.cl_Reckoner T.z24.m G_z24 hr_z24 T.z24.b .nil AG (AA (vv 1) (AA (vv 2) (AA Aw AB)))) (by rfl) (by walk_at "i")) (@AH _ _ _ (@AL _ _ _ _ (DW (Ae Cb (Ay (vv 0) T.cl_Reckoner T.z15.m G_z15 hr_z15 T.z15.b .nil AG (AA (vv 4) AB)) (Ay (vv 0) T.cl_Reckoner T.z15.m G_z15 hr_z15 T.z15.b .nil AG (AA (vv 3) AB))) (vv 4) (vv 3)))))),?_⟩;refine⟨p,dx,_,rfl,h1,ln7 _ _ _ _,ls,ys,d,S,j,_,R,rfl,rfl,hy,?_⟩;dsimp only[AT];refine⟨p,dx,_,rfl,h1,ln7 _ _ _ _,ls,ys,d,S,j,_,R,rfl,rfl,hy,?_⟩;dsimp only[AT];refine⟨p,dx,_,rfl,h1,ln1 _ _ _ _,ls,ys,d,S &&& ys.getD j 0,R,rfl,by lia,⟨n,c1⟩,cd _,fun b H1 f1 R1 fr1=>?_⟩;obtain⟨dx1,tl1,yl1,al1,as1,kvs1,k1,_⟩:=id R1.at_;refine⟨p,dx1,_,rfl,k1,ln1 _ _ _ _,ls,ys,d,S - (S &&& ys.getD j 0),R1,rfl,by lia,⟨n,c2⟩,cd _,fun e H2 f2 R2 fr2=>?_⟩;have e1:=DN f1;have e2:=DN f2;refine Ak (fun x=>?_) (fun x=>?_)
 ·have x':e < b:=by have:=ZR x;lia
  exact q _ H2 (.inl ⟨rfl,by lia⟩) R2 (fr1.trans fr2)
 ·have x':¬e < b:=fun w=>x (ZL (by lia))
  exact q _ H2 (.inr ⟨rfl,by lia⟩) R2 (fr1.trans fr2)
noncomputable def Eb(K:W.Frag)(C:Addr):Sp:=fun vs H Q _=>match vs with
 | [.ref p,.int z]=>∃ls ys d S,RkAt K C ls ys H p d/\z=(S:Nat)/\S < 2 ^ ls.length/\(∃n,Can (AE ls) (AY ys) n S.testBit) /\
  ∀(Xs:List Nat) l H',Xs.length=ys.length->(∀j X,Xs[j]? = some X->CF ls ys S j X)->RkAt K C ls ys H' p d->Yj d H H'->H l=none->H' l=some (.lst (iL Xs))->Q (.ref l) H'
 | _=>False
theorem VZ:AR (Eb K C):=fun vs H Q Q' E h q=>by
 unfold Eb at *;walk_at "q"
theorem Mc{l:Addr}(f:Yj d H H')(hd:H' d=some o)(h:H' l=none):H l=none:=by
 cases e:H l with
 | none=>rfl
 | some u =>
  have hl:l≠d:=fun z=>by rw[z,hd]at h;cases h
  rw[f l u hl e]at h;cases h
theorem SF:Xq P w mg base T.z16 74 (Eb K T.C_Reckoner):=by
 refine T.z16.F.ok XU (fun vs H Q E h=>by unfold Eb at h;walk_at "e") ?_;walk_at "f";unfold Eb at h;walk_at "g"
 rename_i p z;obtain⟨ls,ys,d,S,R,e1,hS,hc,q⟩:=h;subst e1;have y16:=R.y16;obtain⟨dx,tl,yl,al,as,Yd,h1,h2,h3,_⟩:=id R.at_;refine⟨_,(@AH _ _ _ (@AL _ _ _ _ (@Ap _ _ _ _ _ _ _ (["question","self","things"]) 1 ([0,1]) _ _ _ _ rfl (BC rfl T.z_range (AA (Aa (As (K:=K)) rfl T.z_len (by rfl) (AA (BN T.cl_Reckoner T.na_Reckoner_yeses (vv 0)) AB)) AB)) (by kernel_rfl) rfl rfl (by kernel_rfl) (fun c=>AO (i:=0) (show(["question","self","things"]:List Str).Nodup by decide +kernel) rfl (by right)) (Ac (by decide)) (fun c=>Am) (fun c=>(Ay (vv 1) T.cl_Reckoner T.z17.m (@Qh P w K mg base T) (hr.mono (show 73<=_ by decide)) T.z17.b .nil AG (AA (vv 2) (AA (vv 0) AB)))) (by intro _;rfl)))),?_⟩;refine⟨dx,_,_,h1,lk2 _ _ _ _,ys.length,.inl ⟨_,.of h3,by rw[Aj]⟩,ys.length,rfl,by lia,by lia,?_⟩;rw[ZZ];refine BW (fun k zs H'=>RkAt K T.C_Reckoner ls ys H' p d/\Yj d H H'/\∃Xs:List Nat,zs=iL Xs/\Xs.length=k/\∀j X,Xs[j]? = some X->CF ls ys S j X) ⟨R,Yj.refl,[],rfl,rfl,fun j X z=>by simp at z⟩ (fun k zs H' hk ⟨_,_,Xs,e,hl,_⟩=>by rw[e,Aj,hl];exact Ag (by lia)) ?_ ?_
 ·rintro k zs H1 hk ⟨R1,f1,Xs,rfl,hl,hX⟩;have e0:(0:Int)+(k:Int)=((k:Nat):Int):=by lia
  rw[e0];obtain⟨dx1,tl1,yl1,al1,as1,kvs1,k1,_⟩:=id R1.at_;refine⟨p,dx1,_,rfl,k1,ln6 _ _ _ _,ls,ys,d,S,k,R1,rfl,hS,hc,rfl,hk,fun X H2 hx R2 f2=>?_⟩;refine⟨R2,f1.trans f2,Xs++[X],by rw[Ce];rfl,by rw[ZM,hl];rfl,fun j Y hj=>?_⟩
  rcases ZBH j Xs.length with z | z | z
  ·rw[ZBL z]at hj;exact hX j Y hj
  ·subst z;rw[ZBE (ZE _),ZBm]at hj;cases hj;rw[hl];exact hx
  ·rw[ZB8 (by rw[ZM];show Xs.length+1<=j;lia)]at hj;cases hj
 ·rintro zs H1 ⟨R1,f1,Xs,rfl,hl,hX⟩ l nl;obtain⟨dx1,tl1,yl1,al1,as1,kvs1,_,_,_,_,k5,_⟩:=id R1.at_;have s2:Yb H1 (upd H1 l (.lst (iL Xs))):=Yb.upd nl;exact q Xs l _ hl hX (R1.same s2) (f1.trans (Bd s2)) (Mc f1 k5 nl) AD
noncomputable def kvE(es:List (Nat × Nat)):List (Key × V):=es.map fun e=>((Sum.inl (e.1:Int):Key),V.int (e.2:Int))
theorem MX:∀(es:List (Nat × Nat)) (S:Nat),(valV (kvE es) (Sum.inl (S:Int):Key)).isSome=decide (S∈es.map (·.1))
 | [],S=>rfl
 | e::es,S=>by
  by_cases z:e.1=S
  ·have:valV (kvE (e::es)) (Sum.inl (S:Int):Key)=some (V.int (e.2:Int)):=Bt (by rw[<- z])
   rw[this];simp[z]
  ·have:valV (kvE (e::es)) (Sum.inl (S:Int):Key)=valV (kvE es) (Sum.inl (S:Int):Key):=Bv (fun q=>z (by injection q with q;lia))
   rw[this,MX es S];simp[Ne.symm z]
theorem Wo{es:List (Nat × Nat)}(h:S∉es.map (·.1)):Al (kvE es) (Sum.inl (S:Int):Key) (V.int (m:Int))=kvE (es++[(S,m)]):=by
 unfold Al;rw[if_neg]
 ·unfold kvE;rw[ZF];rfl
 ·intro z;obtain⟨x,hx,e⟩:=ZBO.mp z;obtain⟨a,ha,rfl⟩:=ZJ.mp hx;have e:(Sum.inl (a.1:Int):Key)=Sum.inl (S:Int):=ZR e;injection e with e
  exact h (ZJ.mpr ⟨a,ha,by lia⟩)
structure PInv(ls:List Int)(ys:List Nat)(n S0:Nat)(es:List (Nat × Nat))(pd:List Nat):Prop where
 nd:(es.map (·.1)).Nodup
 ok:∀e∈es,e.1 < 2 ^ ls.length/\Can (AE ls) (AY ys) n e.1.testBit/\0 < e.2/\e.2=AV ls ys e.1
 cl:∀e∈es,1 < e.2->∀j X,j < ys.length->CF ls ys e.1 j X->X∈es.map (·.1)\/X∈pd
 pe:∀X∈pd,X < 2 ^ ls.length/\Can (AE ls) (AY ys) n X.testBit
 top:S0∈es.map (·.1)\/S0∈pd\/AV ls ys S0=0
section
variable {ls:List Int}{ys:List Nat}{n S0 X:Nat}{es:List (Nat × Nat)}{pd more:List Nat}
theorem PInv.skip(h:PInv ls ys n S0 es (X::pd))(hx:X∈es.map (·.1)\/AV ls ys X=0):PInv ls ys n S0 es pd:=by
 refine⟨h.nd,h.ok,fun e he h1 j Y hj hY=>?_,fun Y hY=>h.pe Y (Ze _ hY),?_⟩
 ·rcases h.cl e he h1 j Y hj hY with z | z
  ·exact .inl z
  ·rcases ZH.mp z with z | z
   ·subst z
    rcases hx with hx | hx
    ·exact .inl hx
    ·obtain⟨_,c2,_,c4⟩:=h.ok e he;have a1:=Nx hj c2;have a2:=LP hY;lia
   ·exact .inr z
 ·rcases h.top with z | z | z
  ·exact .inl z
  ·rcases ZH.mp z with z | z
   ·subst z
    rcases hx with hx | hx
    ·exact .inl hx
    ·exact .inr (.inr hx)
   ·exact .inr (.inl z)
  ·exact .inr (.inr z)
theorem PInv.enter(h:PInv ls ys n S0 es (X::pd))(hx:X∉es.map (·.1))(h0:0 < AV ls ys X)(h1:1 < AV ls ys X->∀j Y,j < ys.length->CF ls ys X j Y->Y∈more)(h2:∀Y∈more,Y < 2 ^ ls.length/\Can (AE ls) (AY ys) n Y.testBit):PInv ls ys n S0 (es++[(X,AV ls ys X)]) (pd++more):=by
 have hX:=h.pe X (Zo ..);have em:(es++[(X,AV ls ys X)]).map (·.1)=es.map (·.1)++[X]:=by rw[ZF];rfl
 have old:∀{Y},Y∈es.map (·.1)\/Y∈X::pd->Y∈es.map (·.1)++[X]\/Y∈pd++more:=fun {Y} z=>by
  rcases z with z | z
  ·exact .inl (Zv _ z)
  ·rcases ZH.mp z with z | z
   ·exact .inl (ZY _ (by rw[z];exact ZO.mpr rfl))
   ·exact .inr (Zv _ z)
 refine⟨?_,fun e he=>?_,fun e he e1 j Y hj hY=>?_,fun Y hY=>?_,?_⟩
 ·rw[em,List.nodup_append];refine⟨h.nd,by simp,fun a ha b hb q=>?_⟩;rw[ZO.mp hb]at q;exact hx (q ▸ ha)
 ·rcases Zb.mp he with z | z
  ·exact h.ok e z
  ·rw[ZO.mp z];exact⟨hX.1,hX.2,h0,rfl⟩
 ·rw[em]
  rcases Zb.mp he with z | z
  ·exact old (h.cl e z e1 j Y hj hY)
  ·rw[ZO.mp z]at e1 hY;exact .inr (ZY _ (h1 e1 j Y hj hY))
 ·rcases Zb.mp hY with z | z
  ·exact h.pe Y (Ze _ z)
  ·exact h2 Y z
 ·rw[em]
  rcases h.top with z | z | z
  ·exact .inl (Zv _ z)
  ·rcases old (.inr z) with z | z
   ·exact .inl z
   ·exact .inr (.inl z)
  ·exact .inr (.inr z)
theorem PInv.len(h:PInv ls ys n S0 es pd)(h16:ls.length<=16):es.length<=65536:=by
 have:=D5 (2 ^ ls.length) (es.map (·.1)) h.nd (fun x hx=>by
  obtain⟨e,he,rfl⟩:=ZJ.mp hx;exact(h.ok e he).1)
 rw[ZB]at this;have h2:2 ^ ls.length<=2 ^ 16:=Zl (by decide) h16;have h3:(2:Nat) ^ 16=65536:=by decide
 lia
end
theorem MS{H2:Hp}(R:RkAt K C ls ys H p d)(R':RkAt K C ls ys H' p d)(f:Yj d H H')(nb:H b=none)(a:∀c,c≠b->H2 c=H' c):RkAt K C ls ys H2 p d:=by
 obtain⟨dx,tl,yl,al,as,Yd,h1,h2,h3,h4,h5,_⟩:=R.at_;obtain⟨dx',tl',yl',al',as',kvs',k1,k2,k3,k4,k5,k6,k7,k8⟩:=R'.at_;have e:=f _ _ (Bg h1 h5 (by intro z;cases z)) h1;rw[k1]at e;have e:=ZU e;injection e with _ e1 e2
 have g1:some (V.ref tl')=some (V.ref tl):=by rw[<- lk1 (.ref tl') (.ref yl') (.ref al') (.ref d),e2,lk1]
 have g2:some (V.ref yl')=some (V.ref yl):=by rw[<- lk2 (.ref tl') (.ref yl') (.ref al') (.ref d),e2,lk2]
 have g3:some (V.ref al')=some (V.ref al):=by rw[<- lk3 (.ref tl') (.ref yl') (.ref al') (.ref d),e2,lk3]
 cases g1;cases g2;cases g3
 have st:∀{c:Addr} {u v:HO},H c=some u->H' c=some v->H2 c=some v:=fun {c u v} e1 e2=>by
  rw[a c (BU e1 nb)];exact e2
 refine⟨⟨dx',tl,yl,al,as',kvs',st h1 k1,?_,st h3 k3,st h4 k4,st h5 k5,k6,k7,k8⟩,R.l16,R.y16⟩
 have go:H tl≠none->Yp K H2 tl (ls.map V.int):=fun hn=>by
  have Yv:tl≠b:=fun z=>hn (by rw[z];exact nb)
  exact Fy k2 fun u e=>by rw[a _ Yv];exact e
 rcases h2 with (h2 | ⟨_,h2⟩) | h2
 ·exact go (by rw[h2];simp)
 ·exact go (by rw[h2];simp)
 ·exact .inr h2
theorem OA(R:RkAt K C ls ys H p d)(R':RkAt K C ls ys H' p d)(f:Yj d H H')(nb:H b=none):RkAt K C ls ys (upd H' b o) p d:=MS R R' f nb fun c h=>AJ h
theorem Nd(f:Yj d H H')(nb:H b=none):Yj d H (upd H' b o):=fun c u n e=>by
 rw[AJ (BU e nb)];exact f c u n e
noncomputable def Mm(e:Nat × Nat):Dv:=.tup [.tup (iD (Au e.1)),.int (e.2:Nat)]
noncomputable def E9(es:List (Nat × Nat)):Dv:=.tup (es.map Mm)
noncomputable def J1(K:W.Frag)(C:Addr):Sp:=fun vs H Q _=>match vs with
 | [.ref p,.int z]=>∃ls ys d S n,RkAt K C ls ys H p d/\z=(S:Nat)/\S < 2 ^ ls.length/\Can (AE ls) (AY ys) n S.testBit /\
  ∀es v H',PInv ls ys n S es []->Yf K H' (E9 es) v->RkAt K C ls ys H' p d->Yj d H H'->Q v H'
 | _=>False
theorem Vr:Xp P w base T.z47 75 (J1 K T.C_Reckoner):=by
 refine T.z47.F.ok sc_z47 (fun vs H Q E h=>by unfold J1 at h;walk_at "e") ?_;walk_at "f";have mo1:AR (BV K T.C_Reckoner 17):=Li;have mo2:AR (Eb K T.C_Reckoner):=VZ;have mo3:AR (D4 K):=QT;unfold J1 at h;walk_at "g"
 rename_i p z;obtain⟨ls,ys,d,S,n,R,e1,hS,hc,q⟩:=h;subst e1;have l16:=R.l16;have y16:=R.y16;obtain⟨dx,tl,yl,al,as,Yd,h1,_,_,_,hd0,_⟩:=id R.at_;have h60:2 ^ ls.length<=2 ^ 60:=Zl (by decide) (by lia);have cd:∀U:Nat,Aq ls.length U.testBit < 17:=fun U=>by have:=DZ ls.length U.testBit;lia
 refine⟨_,(@AF _ _ _ _ _ (@AN _ _ 2 _ _ _ _ sc_z47.nd rfl (by right) Gj (by rfl) (by walk_at "i")) (@AF _ _ _ _ _ (@AN _ _ 3 _ _ _ _ sc_z47.nd rfl (by right) (@BK _ _ _ _ (AA (vv 1) AB)) (by rfl) (by walk_at "i")) (@AF _ _ _ _ _ (@Er _ _ _ _ _ _ PassesOwn.never (Ae Cb (Aa (As (K:=K)) rfl T.z_len (by rfl) (AA (vv 3) AB)) AC) (@AF _ _ _ _ _ (@AN _ _ 4 _ _ _ _ sc_z47.nd rfl (by right) (@BK _ _ _ _ AB) (by rfl) (by walk_at "i")) (@AF _ _ _ _ _ (@Be _ _ _ _ _ _ _ _ PassesOwn.never rfl (BF (K:=K) (vv 3)) (AO (i:=5) sc_z47.nd rfl (by right)) (@AF _ _ _ _ _ (@AN _ _ 6 _ _ _ _ sc_z47.nd rfl (by right) (Ay (vv 0) T.cl_Reckoner T.z15.m (@JL P w K mg base T) (hr.mono (show 72<=_ by decide)) T.z15.b .nil AG (AA (vv 5) AB)) (by rfl) (by walk_at "i")) (@AH _ _ _ (@Ao _ _ _ _ _ _ _ _ (PW.pt (DS (Ae Cb (vv 6) AC) (Dk (Ae (JR hu) (vv 5) (vv 2))))) (@AF _ _ _ _ _ (@Fv _ _ _ _ _ _ _ _ _ (C8 hu) (vv 2) (vv 5) (vv 6) (by rfl)) (@AH _ _ _ (@CP _ _ _ _ (RG (K:=K) (vv 4) (AA (DW (Ae Cb (vv 6) AC) (Ay (vv 0) T.cl_Reckoner T.z16.m (@SF P w K mg base T) (hr.mono (show 74<=_ by decide)) T.z16.b .nil AG (AA (vv 5) AB)) (@BK _ _ _ _ AB)) AB)) (by rfl)))) An))) (by intro _;rfl)) (@AH _ _ _ (@AN _ _ 3 _ _ _ _ sc_z47.nd rfl (by right) (vv 4) (by rfl) (by walk_at "i")))))) (@AH _ _ _ (@AL _ _ _ _ (At (A8 (K:=K)) rfl T.z_tuple (by rfl) (AA (Ap (N':=["each","number"]) (own:=2) (ix:=[]) rfl (Ik (vv 2)) (by kernel_rfl) rfl rfl (by kernel_rfl) (fun c=>D0 (K:=K) (n:=2) rfl (Az (AO (i:=0) (show(["each","number"]:List Str).Nodup by decide +kernel) rfl (by right)) (Az (AO (i:=1) (show(["each","number"]:List Str).Nodup by decide +kernel) rfl (by right)) B9))) (Ei (B6 BR (DX BR By) (Ac (by decide)) (B6 BR By (Ac (by decide)) EM))) (fun c=>Am) (fun c=>(BD (AA (AI (@LU P w K mg base T) (hr.mono (show 4<=_ by decide)) rfl T.z45.m T.z45.F.kp T.z45.b .nil AG (AA (vv 0) AB)) (AA (vv 1) AB))))) AB))))))),?_⟩;intro E' nE;dsimp only[AT];have s1:Yb H (upd H E' (.dK [])):=Yb.upd nE;have gE1:upd H E' (.dK []) E'=some (.dK (kvE [])):=AD;generalize upd H E' (.dK [])=H1 at *;refine⟨smq rfl,fun l nl=>?_⟩;dsimp only[AT];have nl0:H l=none:=s1.free nl;have s2:Yb H1 (upd H1 l (.lst [.int (S:Int)])):=Yb.upd nl;have gl2:upd H1 l (.lst [.int (S:Int)]) l=some (.lst (iL [S])):=AD;have gE2:=s2 _ _ gE1;have S2:=s1.trans s2;generalize upd H1 l (.lst [.int (S:Int)])=H2 at *;have P2:PInv ls ys n S [] [S]:=⟨List.nodup_nil,(fun e he=>by cases he),(fun e he=>by cases he),fun X hX=>by rw[ZO.mp hX];exact⟨hS,hc⟩,.inr (.inl (ZO.mpr rfl))⟩;have R2:=R.same S2;have neD:∀{b:Addr},H b=none->b≠d:=fun {b} nb z=>by rw[z,hd0]at nb;cases nb
 refine AX (fun Z H'=>∃(es:List (Nat × Nat)) (z3 z4 z5 z6:Option V),Z=[some (.ref p),some (.int (S:Nat)),some (.ref E'),z3,z4,z5,z6]/\RkAt K T.C_Reckoner ls ys H' p d/\Yj d H H'/\H' E'=some (.dK (kvE es))/\PInv ls ys n S es []) ?_ ?_ (by walk_at "sm")
 ·refine⟨fun mm Z H'=>∃(es:List (Nat × Nat)) (Ls:List Nat) (l:Addr) (z4 z5 z6:Option V),mm=(65536 - es.length) * 2+(if Ls=[] then 0 else 1)/\Z=[some (.ref p),some (.int (S:Nat)),some (.ref E'),some (.ref l),z4,z5,z6]/\RkAt K T.C_Reckoner ls ys H' p d/\Yj d H H'/\H' E'=some (.dK (kvE es))/\H l=none/\H' l=some (.lst (iL Ls))/\PInv ls ys n S es Ls,
   ⟨_,[],[S],l,none,none,none,rfl,rfl,R2,Bd S2,gE2,nl0,gl2,P2⟩,?_⟩
  rintro mm Z H3 ⟨es,Ls,l,z4,z5,z6,rfl,rfl,R3,f3,gE3,nl,gl3,P3⟩;have hE3:=P3.len l16;refine⟨Ls.length,.inl ⟨_,.of gl3,by rw[Aj]⟩,?_⟩;refine Ak (fun e=>?_) (fun e=>?_);rotate_left
  ·have hz:Ls=[]:=by
    have:¬(0:Int) < (Ls.length:Int):=fun z=>e (ZL z)
    exact List.eq_nil_of_length_eq_zero (by lia)
   subst hz;exact⟨es,_,_,_,_,rfl,R3,f3,gE3,P3⟩
  have hpos:Ls≠[]:=fun z=>by
   have:(0:Int) < (Ls.length:Int):=ZR e
   rw[z]at this;simp at this
  refine⟨ZV _,fun b nb=>?_⟩;dsimp only[AT];obtain⟨_,_,_,_,_,_,_,_,_,_,hd3,_⟩:=id R3.at_;have nb0:H b=none:=Mc f3 hd3 nb;have s4:Yb H3 (upd H3 b (.lst [])):=Yb.upd nb;have gb4:upd H3 b (.lst []) b=some (.lst (iL [])):=AD;have hbl:b≠l:=fun z=>by rw[z,gl3]at nb;cases nb
  have hbE:b≠E':=fun z=>by rw[z,gE3]at nb;cases nb
  have hlE:l≠E':=Bg gl3 gE3 (by intro z;cases z);have R4:=R3.same s4;have f4:Yj d H (upd H3 b (.lst [])):=f3.trans (Bd s4);have gE4:=s4 _ _ gE3;have gl4:=s4 _ _ gl3;generalize upd H3 b (.lst [])=H4 at *;refine AX (fun Z H'=>∃(es':List (Nat × Nat)) (Bs:List Nat) (z5 z6:Option V),Z=[some (.ref p),some (.int (S:Nat)),some (.ref E'),some (.ref l),some (.ref b),z5,z6]/\RkAt K T.C_Reckoner ls ys H' p d/\Yj d H H'/\H' E'=some (.dK (kvE es'))/\H' b=some (.lst (iL Bs))/\PInv ls ys n S es' Bs/\es.length<=es'.length/\(Bs≠[]->es.length < es'.length)) ?_ ?_ (by walk_at "sm");rotate_left
  ·rintro Z H5 ⟨es',Bs,z5',z6',rfl,R5,f5,gE5,gb5,P5,h5,h6⟩;have hE5:=P5.len l16;refine⟨_,?_,es',Bs,b,_,_,_,rfl,rfl,R5,f5,gE5,nb0,gb5,P5⟩;rw[if_neg hpos]
   by_cases zb:Bs=[]
   ·rw[if_pos zb];lia
   ·rw[if_neg zb];have:=h6 zb;lia
  refine .inl ⟨⟨_,.inl (.of gl4)⟩,?_⟩
  refine Jj (xs:=iL Ls) (fun k Z H'=>∃(es':List (Nat × Nat)) (Bs:List Nat) (z5 z6:Option V),Z=[some (.ref p),some (.int (S:Nat)),some (.ref E'),some (.ref l),some (.ref b),z5,z6]/\RkAt K T.C_Reckoner ls ys H' p d/\Yj d H H'/\H' E'=some (.dK (kvE es'))/\H' l=some (.lst (iL Ls))/\H' b=some (.lst (iL Bs))/\PInv ls ys n S es' (Ls.drop k++Bs)/\es.length<=es'.length/\(Bs≠[]->es.length < es'.length)/\Bs.length<=16 * es'.length)
   ⟨es,[],_,_,rfl,R4,f4,gE4,gl4,gb4,by rw[List.drop_zero,Zw];exact P3,ZE _,fun z=>absurd rfl z,ZV _⟩ (fun k Z H' _ ⟨_,_,_,_,_,_,_,_,g,_⟩=>.inl (.of g)) ?_ ?_
  rotate_left
  ·rintro Z H5 ⟨es',Bs,z5',z6',rfl,R5,f5,gE5,_,gb5,P5,h5,h6,_⟩;rw[Aj,List.drop_length,ZBp]at P5;exact⟨es',Bs,_,_,rfl,R5,f5,gE5,gb5,P5,h5,h6⟩
  rintro k xv Z H5 hxk ⟨es',Bs,z5',z6',rfl,R5,f5,gE5,gl5,gb5,P5,h5,h6,h7⟩;obtain⟨X,hX,_,rfl⟩:=Bp hxk;have hk:=(Zf.mp hX).1
  have ed:Ls.drop k++Bs=X::(Ls.drop (k+1)++Bs):=by
   rw[List.drop_eq_getElem_cons hk,(Zf.mp hX).2];rfl
  rw[ed]at P5;obtain⟨hX1,hX2⟩:=P5.pe X (Zo ..);obtain⟨dx5,tl5,yl5,al5,as5,kvs5,k1,_,_,_,k5,_⟩:=id R5.at_;dsimp only[AT];refine⟨p,dx5,_,rfl,k1,ln1 _ _ _ _,ls,ys,d,X,R5,rfl,hX1,⟨n,hX2⟩,cd X,fun m H6 hm R6 fr6=>?_⟩;dsimp only[AT];have em:=DN hm;have f6:Yj d H H6:=f5.trans fr6;have gE6:=fr6 _ _ (neD nE) gE5;have gl6:=fr6 _ _ (neD nl) gl5;have gb6:=fr6 _ _ (neD nb0) gb5;clear k1 k5 fr6;refine Ak (fun e1=>?_) (fun e1=>?_);rotate_left
  ·have m0:m=0:=by
    have:¬(0:Int) < (m:Int):=fun z=>e1 (ZL z)
    lia
   exact⟨es',Bs,_,_,rfl,R6,f6,gE6,gl6,gb6,P5.skip (.inr (by lia)),h5,h6,h7⟩
  have m0:0 < m:=by
   have:(0:Int) < (m:Int):=ZR e1
   lia
  have hsome:=MX es' X;refine⟨valV (kvE es') (Sum.inl (X:Int):Key),DGet.k (k:=Sum.inl (X:Int)) gE6,?_⟩;cases e2:valV (kvE es') (Sum.inl (X:Int):Key) with
  | some v =>
   rw[e2]at hsome;have hin:X∈es'.map (·.1):=ZR hsome.symm;exact⟨es',Bs,_,_,rfl,R6,f6,gE6,gl6,gb6,P5.skip (.inl hin),h5,h6,h7⟩
  | none =>
   rw[e2]at hsome;have hnin:X∉es'.map (·.1):=of_decide_eq_false hsome.symm;have hE6:=P5.len l16;refine⟨E',_,rfl,DPut.k (k:=Sum.inl (X:Int)) gE6 (by unfold kvE;rw[ZB,sizeLine_eq];lia),?_⟩;rw[Wo hnin];have R7:=OA R R6 f6 nE (o:=.dK (kvE (es'++[(X,m)])));have f7:=Nd f6 nE (o:=.dK (kvE (es'++[(X,m)])));have gE7:upd H6 E' (.dK (kvE (es'++[(X,m)]))) E'=some (.dK (kvE (es'++[(X,m)]))):=AD;have gl7:upd H6 E' (.dK (kvE (es'++[(X,m)]))) l=_:=(AJ hlE).trans gl6;have gb7:upd H6 E' (.dK (kvE (es'++[(X,m)]))) b=_:=(AJ hbE).trans gb6;generalize upd H6 E' (.dK (kvE (es'++[(X,m)])))=H7 at *;have len1:(es'++[(X,m)]).length=es'.length+1:=by rw[ZM];rfl
   refine⟨.inl ⟨rfl,_,.of gb7⟩,?_⟩
   have fin:∀(Xs:List Nat) (l2:Addr) (H8:Hp),Xs.length<=16->(1 < m->∀j Y,j < ys.length->CF ls ys X j Y->Y∈Xs)->(∀Y∈Xs,Y < 2 ^ ls.length/\Can (AE ls) (AY ys) n Y.testBit)->RkAt K T.C_Reckoner ls ys H8 p d->Yj d H7 H8->H7 l2=none->H8 l2=some (.lst (iL Xs)) ->
    Ep K (.ref b) [.ref l2] H8 fun _ H9=>∃(es':List (Nat × Nat)) (Bs:List Nat) (z5 z6:Option V),[some (V.ref p),some (.int (S:Nat)),some (.ref E'),some (.ref l),some (.ref b),some (.int (X:Nat)),some (.int (m:Nat))]=[some (.ref p),some (.int (S:Nat)),some (.ref E'),some (.ref l),some (.ref b),z5,z6]/\RkAt K T.C_Reckoner ls ys H9 p d/\Yj d H H9/\H9 E'=some (.dK (kvE es'))/\H9 l=some (.lst (iL Ls))/\H9 b=some (.lst (iL Bs))/\PInv ls ys n S es' (Ls.drop (k+1)++Bs)/\es.length<=es'.length/\(Bs≠[]->es.length < es'.length)/\Bs.length<=16 * es'.length:=by
    intro Xs l2 H8 hl2 hx1 hx2 R8 fr8 n2 g2;have f8:Yj d H H8:=f7.trans fr8;have gE8:=fr8 _ _ (neD nE) gE7;have gl8:=fr8 _ _ (neD nl) gl7;have gb8:=fr8 _ _ (neD nb0) gb7;refine⟨iL Bs,iL Xs,gb8,.of g2,(fun z=>by rw[z,gb7]at n2;cases n2),by rw[Aj,Aj];lia,es'++[(X,m)],Bs++Xs,_,_,rfl,OA R R8 f8 nb0,Nd f8 nb0,?_,?_,?_,?_,by lia,fun _=>by lia,by rw[ZM];lia⟩
    ·rw[AJ (Ne.symm hbE)];exact gE8
    ·rw[AJ (Ne.symm hbl)];exact gl8
    ·rw[AD,Ce]
    ·rw[<- ZBo,<- em];exact P5.enter hnin (by lia) (by rw[em];exact hx1) hx2
   refine Ak (fun e3=>?_) (fun e3=>?_)
   ·have m1:1 < m:=by
     have:(1:Int) < (m:Int):=ZR e3
     lia
    obtain⟨dx7,tl7,yl7,al7,as7,kvs7,k1,_⟩:=id R7.at_;refine⟨p,dx7,_,rfl,k1,lnA _ _ _ _,ls,ys,d,X,R7,rfl,hX1,⟨n,hX2⟩,fun Xs l2 H8 hl2 hXs R8 fr8 n2 g2=>?_⟩;refine fin Xs l2 H8 (by lia) (fun _ j Y hj hY=>?_) (fun Y hY=>?_) R8 fr8 n2 g2
    ·have hj':j < Xs.length:=by lia
     rw[WX hY (hXs j _ (ZD hj'))];exact Zc hj'
    ·obtain⟨j,hj,ej⟩:=Zp hY;have hh:=hXs j Y (by rw[ZD hj,ej]);exact⟨Wq hh hX1,QG hh hX2⟩
   ·have m1:¬1 < m:=fun z=>e3 (ZL (by lia))
    refine⟨ZV _,fun l2 n2=>?_⟩;have s8:Yb H7 (upd H7 l2 (.lst [])):=Yb.upd n2;exact fin [] l2 _ (ZV _) (fun z=>absurd z m1) (fun Y hY=>by cases hY) (R7.same s8) (Bd s8) n2 AD
 rintro Z H3 ⟨es,z3,z4,z5,z6,rfl,R3,f3,gE3,P3⟩;have hE3:=P3.len l16;refine .inl ⟨kvE es,gE3,fun o=>?_⟩;have a1:upd H3 E' (.frz o (.dK (kvE es))) E'=some (.frz o (.dK (kvE es))):=AD;have a2:∀b,b≠E'->upd H3 E' (.frz o (.dK (kvE es))) b=H3 b:=fun b hb=>AJ hb
 generalize upd H3 E' (.frz o (.dK (kvE es)))=H4 at *;have f4:Yj d H H4:=fun c u n e=>by rw[a2 c (BU e nE)];exact f3 c u n e
 have R4:=MS R R3 f3 nE a2
 refine MG (Yd:=kvE es) (fun j zs H'=>Yb H4 H'/\Yc K H' ((es.take j).map Mm) zs) ⟨Yb.refl _,Ad⟩ (fun j zs H' _ ⟨s5,_⟩=>s5 _ _ a1) (fun j zs H' hj ⟨_,r⟩=>by
  unfold kvE at hj;rw[ZB]at hj;rw[<- r.length,ZB,ZW,sizeLine_eq];lia) ?_ ?_
 ·rintro j r pp zs H5 hr5 ⟨s5,r5⟩ npp;unfold kvE at hr5;rw[ZP]at hr5;obtain⟨e,he,rfl⟩:=ZB4.mp hr5;have hb:=(P3.ok e (Zt he)).1;refine⟨pp,_,rfl,.of AD,rfl,_,_,rfl,_,_,rfl,rfl,?_⟩;refine⟨e.1,rfl,by lia,fun t H6 nt s6 g6=>⟨smq rfl,fun t2 n2=>?_⟩⟩;have s7:Yb H6 (upd H6 t2 (.tup [.ref t,.int (e.2:Nat)])):=Yb.upd n2;have s0:=Yb.upd (o:=.tup [kV (Sum.inl (e.1:Int):Key),V.int (e.2:Int)]) npp;have S7:=s0.trans (s6.trans s7);refine⟨s5.trans S7,?_⟩;rw[Zm,he,ZF];exact Yc.append (Yc.same S7 _ _ r5) (AU (Ba (.of AD) (AU (Ba (.of (s7 _ _ g6)) (JM _)) (AU (by unfold Yf;rfl) Ad))) Ad)
 ·rintro zs H5 ⟨s5,r5⟩ l2 nl2;have s6:Yb H5 (upd H5 l2 (.lst zs)):=Yb.upd nl2;refine⟨_,.inl ⟨.of AD,fun t nt=>?_⟩⟩;have S7:=s6.trans (Yb.upd (o:=.tup zs) nt);rw[show(kvE es).length=es.length by unfold kvE;rw[ZB],Zq]at r5;exact q es _ _ P3 (Ba (.of AD) (Yc.same S7 _ _ r5)) (R4.same (s5.trans S7)) (f4.trans (Bd (s5.trans S7)))
noncomputable def IE(K:W.Frag):Sp:=fun vs H Q _=>match vs with
 | [v]=>∃ls rs,Yf K H (gmD ls rs) v/\Gm ls rs/\BE ls rs/\∀H',Yb H H'->Q .non H'
 | _=>False
theorem P7:Xp P w base T.z23 2 (IE K):=by
 refine T.z23.F.ok sc_z23 (fun vs H Q E h=>by unfold IE at h;walk_at "e") ?_;walk_at "f";unfold IE at h;walk_at "g"
 rename_i v;obtain⟨ls,rs,hv,G,he,q⟩:=h;refine⟨_,(@AF _ _ _ _ _ (@AN _ _ 1 _ _ _ _ sc_z23.nd rfl (by right) (AI (@OQ P w K mg base T) (hr.mono (show 1<=_ by decide)) rfl T.z34.m T.z34.F.kp T.z34.b .nil AG (AA (vv 0) AB)) (by rfl) (by walk_at "i")) (@AH _ _ _ (@Ao _ _ _ _ _ _ _ _ (Ae D2 (vv 1) FG) (@AH _ _ _ Va) An))),?_⟩;exact⟨ls,rs,hv,G,fun H1 s1 _=>q H1 s1,fun i j t H1 hf _ _ _=>absurd hf.1 (he i j)⟩
theorem FS(he:BE ls rs):∀X,X < 2 ^ ls.length->Can (AE ls) (AY (rs.map AM)) ls.length X.testBit:=fun X hX=>by
 rw[FZ];exact G9 (Fk he) _ _ (fun k hk=>CV hX hk) (by have:=DZ ls.length X.testBit;lia)
noncomputable abbrev DQ(Pt:Addr)(H:Hp):Prop:=Yx Pt FX CA H
noncomputable def Do(K:W.Frag)(Pt:Addr):Sp:=fun vs H Q _=>match vs with
 | [v]=>∃ls rs,Yf K H (gmD ls rs) v/\Gm ls rs/\BE ls rs/\DQ Pt H /\
  ∀t es u H',Dl ls (rs.map AM) t (2 ^ ls.length - 1)->PInv ls (rs.map AM) ls.length (2 ^ ls.length - 1) es []->Yf K H' (.tup [.int (AV ls (rs.map AM) (2 ^ ls.length - 1):Nat),t.dv,E9 es]) u->Yu Pt H H'->DQ Pt H'->Q u H'
 | _=>False
theorem WE:AR (Do K Pt):=fun vs H Q Q' E h q=>by
 unfold Do at *;walk_at "q"
theorem MO:∀xs:List Nat,Ah (iD xs)=true
 | []=>by unfold iD;simp[Ah]
 | x::xs=>by
  show Ah (Dv.int (x:Nat)::iD xs)=true;unfold Ah;rw[MO xs];rfl
theorem RS(B:BMn mg base):Xp P w base T.z63 96 (Do K T.p_z12):=by
 refine T.z63.F.ok sc_z63 (fun vs H Q E h=>by unfold Do at h;walk_at "e") ?_;walk_at "f";have hr_z30:=hr.mono (show 4<=_ by decide);have hr1_z30:=hr.mono (show 4+1<=_ by decide);unfold Do at h;walk_at "g"
 rename_i v;obtain⟨ls,rs,hv,G,he,hL,q⟩:=h;have l1:=G.l1;have l16:=G.l16;have cd:∀U:Nat,Aq ls.length U.testBit < 17:=fun U=>by have:=DZ ls.length U.testBit;lia
 have hp2:=ZBg ls.length;have hp3:2 ^ 1<=2 ^ ls.length:=Zl (by decide) l1;have hS:2 ^ ls.length - 1 < 2 ^ ls.length:=by lia
 have hc:=FS he _ hS;refine⟨_,(@AF _ _ _ _ _ (@CP _ _ _ _ (AI (@P7 P w K mg base T) (hr.mono (show 2<=_ by decide)) rfl T.z23.m T.z23.F.kp T.z23.b .nil AG (AA (vv 0) AB)) (by rfl)) (@AF _ _ _ _ _ (@AN _ _ 1 _ _ _ _ sc_z63.nd rfl (by right) (LC T.mk_Reckoner (@XC P w K mg base T) hr1_z30 rfl T.mC_Reckoner T.z30.b .nil AG (AA (vv 0) AB)) (by rfl) (by walk_at "i")) (@AF _ _ _ _ _ (@AN _ _ 2 _ _ _ _ sc_z63.nd rfl (by right) (NU (vv 1) T.cl_Reckoner T.z18.m (@Qk P w K mg base T) (hr.mono (show 3<=_ by decide)) T.z18.b .nil AG) (by rfl) (by walk_at "i")) (@AH _ _ _ (@AL _ _ _ _ (BD (AA (Ay (vv 1) T.cl_Reckoner T.z15.m (@JL P w K mg base T) (hr.mono (show 72<=_ by decide)) T.z15.b .nil AG (AA (vv 2) AB)) (AA (AI (@V6 P w K mg base T B) (hr.mono (show 95<=_ by decide)) rfl T.z49.m T.z49.F.kp T.z49.b .nil AG (AA (vv 1) (AA (vv 2) AB))) (AA (AI (@Vr P w K mg base T) (hr.mono (show 75<=_ by decide)) rfl T.z47.m T.z47.F.kp T.z47.b .nil AG (AA (vv 1) (AA (vv 2) AB))) AB))))))))),?_⟩;refine⟨ls,rs,hv,G,he,fun H0 s0=>?_⟩;intro x dx hx hdx Yv
 have s1:Yb H0 (upd (upd H0 dx (.own x)) x (.ins T.C_Reckoner dx [])):=(Yb.upd (o:=.own x) hdx).trans (fun b o e=>by
  have:b≠x:=fun z=>by
   rw[z,AJ (Ne.symm Yv),hx]at e;cases e
  rw[AJ this];exact e)
 have hx1:upd (upd H0 dx (.own x)) x (.ins T.C_Reckoner dx []) x=some (.ins T.C_Reckoner dx []):=AD;generalize upd (upd H0 dx (.own x)) x (.ins T.C_Reckoner dx [])=H1 at *;have S1:=s0.trans s1;refine⟨ls,rs,dx,hx1,hv.same S1,G,fun d H2 hd R f2=>⟨rfl,?_⟩⟩;dsimp only[AT];have hd0:H d=none:=S1.free hd;have nx0:H x=none:=s0.free hx;have s2:Yb H H2:=fun b o e=>f2 b o (BU e nx0) (S1 _ _ e)
 have L2':=hL.same s2;generalize hys:rs.map AM=ys at *;obtain⟨dx2,tl2,yl2,al2,as2,kvs2,k1,_,_,_,k5,_⟩:=id R.at_;refine⟨x,dx2,_,rfl,k1,lnB _ _ _ _,ls,ys,d,R,?_⟩;dsimp only[AT];generalize hSS:2 ^ ls.length - 1=S at *;have h0:S≠0:=by lia
 refine⟨x,dx2,_,rfl,k1,ln1 _ _ _ _,ls,ys,d,S,R,rfl,hS,⟨_,hc⟩,cd S,fun m H3 hm R3 f3=>?_⟩;have L3:=Jm L2' f3 k5 (.inr (.inl ⟨_,rfl⟩));refine⟨ls,ys,d,S,R3,rfl,hS,h0,⟨_,hc⟩,cd S,L3,fun t vt H4 bt rp R4 f4 L4=>?_⟩;obtain⟨_,_,_,_,_,_,_,_,_,_,d4,_⟩:=id R4.at_;refine⟨ls,ys,d,S,_,R4,rfl,hS,hc,fun es ve H5 P5 r5 R5 f5=>⟨smq rfl,fun u nu=>?_⟩⟩;have L5:=Jm L4 f5 d4 (.inr (.inl ⟨_,rfl⟩));have s6:Yb H5 (upd H5 u (.tup [.int (m:Nat),vt,ve])):=Yb.upd nu;have rp5:Yf K H5 t.dv vt:=Yf.mv (fun a xs h=>Cz f5 d4 GB h) _ _ t.tups rp;rw[DN hm]at q;refine q t es _ _ bt P5 (Ba (.of AD) (AU (by unfold Yf;rfl) (AU (Yf.same s6 _ _ rp5) (AU (Yf.same s6 _ _ r5) Ad)))) (fun b o hb e=>?_) (L5.same s6);have hbd:b≠d:=BU e hd0;exact s6 _ _ (f5 _ _ hbd (f4 _ _ (by simp[hbd,hb]) (f3 _ _ hbd (s2 _ _ e))))
noncomputable def DK(es:List (Nat × Nat)):Bk:=es.map fun e=>(Au e.1,((e.2:Nat):Int))
theorem Nr(hok:∀e∈es,DE ls e)(hB:Fa rs es):∀(n:Nat),∀e∈es,Can (AE ls) (rs.map gB) n (fun k=>decide (k∈e.1))->e.2<=(n:Int)
 | 0,e,he,hc=>absurd hc (hok e he).2
 | n+1,e,he,hc=>by
  rcases hc with o | ⟨y,hy,h1,h2⟩
  ·exact absurd o (hok e he).2
  ·by_cases z:e.2<=1
   ·lia
   ·obtain⟨r,hr,rfl⟩:=ZJ.mp hy;obtain⟨ans,e',he',h3,h4⟩:=hB e he (by lia) r hr;have ih:=Nr hok hB n e' he'
    have:e'.2<=(n:Int):=by
     cases ans with
     | true=>exact ih (Bz (fun k hk=>by rw[ZQ,decide_eq_true_iff];exact h4 k (ZR hk)) h1)
     | false=>exact ih (Bz (fun k hk=>by rw[ZQ,decide_eq_true_iff,ZBz];exact h4 k (ZR hk)) h2)
    lia
theorem XT{z:Int}{d:Dw}(hm:Can (AE ls) (rs.map gB) m (fun k=>decide (k∈List.range ls.length)))(h:GX ls rs z d)(hz:(m:Int) < z):False:=by
 obtain⟨es,_,hok,h1,hB⟩:=h
 rcases h1 with h1 | ⟨e,he,h1⟩
 ·lia
 ·have hc:Can (AE ls) (rs.map gB) m (fun k=>decide (k∈e.1)):=Bz (fun k hk=>by
   have:=(hok e he).1
   rw[decide_eq_true_iff,Zr];have hk:=ZR hk;exact(hok e he).1.lt k hk) hm
  have:=Nr hok hB m e he hc
  lia
theorem Vj{es:List (Nat × Nat)}{S0:Nat}(I:PInv ls (rs.map AM) n S0 es []){e:Nat × Nat}(he:e∈es)(h1:1 < e.2){r:List Bool}(hj:rs[j]? = some r) :
 ∃ans:Bool,∃e'∈DK es,((e.2:Nat):Int) - 1<=e'.2/\∀t∈e'.1,t∈Au e.1/\gB r t=ans:=by
 have hjl:j < (rs.map AM).length:=by rw[ZB];exact(Zf.mp hj).1
 have eyj:(rs.map AM).getD j 0=AM r:=by rw[ZN,ZP,hj];rfl
 obtain⟨c1,c2,c3,c4⟩:=I.ok e he;have hle:=Nx hjl c2
 have fin:∀(X:Nat) (ans:Bool),CF ls (rs.map AM) e.1 j X->(∀t,X.testBit t=true->e.1.testBit t=true/\gB r t=ans)->∃ans:Bool,∃e'∈DK es,((e.2:Nat):Int) - 1<=e'.2/\∀t∈e'.1,t∈Au e.1/\gB r t=ans:=by
  intro X ans hX hb;have hn:=LP hX
  rcases I.cl e he h1 j X hjl hX with z | z
  ·obtain⟨e',he',ee⟩:=ZJ.mp z;have d4:=(I.ok e' he').2.2.2;rw[ee,hn]at d4;refine⟨ans,(Au e'.1,((e'.2:Nat):Int)),ZJ.mpr ⟨e',he',rfl⟩,by show((e.2:Nat):Int) - 1<=((e'.2:Nat):Int);lia,fun t ht=>?_⟩;have ht:t∈Au e'.1:=ht;rw[ee]at ht;obtain⟨b1,b2⟩:=hb t (mem_memS.mp ht);exact⟨mem_memS.mpr b1,b2⟩
  ·cases z
 rcases Zu (AV ls (rs.map AM) (e.1 - (e.1 &&& AM r))) (AV ls (rs.map AM) (e.1 &&& AM r)) with z | z
 ·refine fin _ true (.inl ⟨rfl,by rw[eyj];exact z⟩) fun t ht=>?_
  rw[eyj,Z1,mskR_bit,ZQ]at ht;exact ht
 ·refine fin _ false (.inr ⟨rfl,by rw[eyj];exact z⟩) fun t ht=>?_
  rw[eyj,FA,mskR_bit,ZQ,ZBz]at ht;exact ht
section
variable {ls:List Int}{rs:List (List Bool)}{es:List (Nat × Nat)}{n S:Nat}
theorem W4{q:Nat}(h:q < rs.length):(rs.map AM).getD q 0=AM rs[q]/\rs.getD q []=rs[q]:=by
 constructor
 ·rw[ZN,ZP,ZD h];rfl
 ·rw[ZN,ZD h];rfl
theorem Hv:∀(t:Tr) (S:Nat),Dl ls (rs.map AM) t S->S < 2 ^ ls.length->Can (AE ls) (AY (rs.map AM)) n S.testBit ->
 t.ok rs.length/\(∀k,S.testBit k=true->t.end_ rs k=AE ls k/\t.many rs k<=AV ls (rs.map AM) S)/\t.deep<=AV ls (rs.map AM) S+1/\(∃k,S.testBit k=true/\t.many rs k=AV ls (rs.map AM) S)/\t.size+1<=2 * Aq ls.length S.testBit
 | .say i,S,⟨o,k,hk,e⟩,hS,hc=>by
  have z:AV ls (rs.map AM) S=0:=(N6 (Bu hc)).mpr o;refine⟨trivial,fun a ha=>⟨?_,ZV _⟩,by rw[z];exact ZE _,⟨k,hk,by rw[z];rfl⟩,?_⟩
  ·show i=_;rw[e];exact o k a hk ha
  ·have:=Ed (N:=ls.length) (S:=S.testBit) (CV hS hk) hk
   show 1+1<=_;lia
 | .ask q tn ty,S,⟨o,hq,b1,b2⟩,hS,hc=>by
  obtain⟨y1,y2⟩:=Ea hq.mem
  have hq':q < rs.length:=by
   have:=(Zf.mp y1).1
   rwa [ZB]at this
  obtain⟨e1,e2⟩:=W4 hq';have hN:=Tl o hc hq;have hw:wst ls (rs.map AM) S q=max (AV ls (rs.map AM) (S &&& (rs.map AM).getD q 0)) (AV ls (rs.map AM) (S - (S &&& (rs.map AM).getD q 0))):=rfl;have hsp:=Ga ls.length S.testBit ((rs.map AM).getD q 0).testBit;rw[<- DD,<- Cn]at hsp;obtain⟨⟨a1,a2,_⟩,c1,c2,_⟩:=GM hS hc y2 (ZBJ _);obtain⟨p1,p2,p3,⟨k1,p4,p5⟩,p6⟩:=Hv tn _ b1 c1 c2;obtain⟨r1,r2,r3,⟨k2,r4,r5⟩,r6⟩:=Hv ty _ b2 a1 a2;have ans:∀k,ansB rs q k=gB rs[q] k:=fun k=>by unfold ansB;rw[e2]
  have yes:∀k,(S &&& (rs.map AM).getD q 0).testBit k=true ↔ S.testBit k=true/\ansB rs q k=true:=fun k=>by
   rw[Z1,ZQ,e1,mskR_bit,ans]
  have no:∀k,(S - (S &&& (rs.map AM).getD q 0)).testBit k=true ↔ S.testBit k=true/\¬ansB rs q k=true:=fun k=>by
   rw[FA,ZQ,e1,mskR_bit,ans,ZBz,Bool.not_eq_true]
  have em:∀k,(Tr.ask q tn ty).many rs k=1+(if ansB rs q k=true then ty.many rs k else tn.many rs k):=fun _=>rfl
  have ee:∀k,(Tr.ask q tn ty).end_ rs k=(if ansB rs q k=true then ty.end_ rs k else tn.end_ rs k):=fun _=>rfl
  have ed:(Tr.ask q tn ty).deep=1+max tn.deep ty.deep:=rfl;have es:(Tr.ask q tn ty).size=1+tn.size+ty.size:=rfl;generalize AV ls (rs.map AM) (S &&& (rs.map AM).getD q 0)=X at *;generalize AV ls (rs.map AM) (S - (S &&& (rs.map AM).getD q 0))=Y at *;generalize AV ls (rs.map AM) S=N at *;generalize wst ls (rs.map AM) S q=W at *;refine⟨⟨hq',p1,r1⟩,fun k hk=>?_,by lia,?_,by lia⟩
  ·rw[em,ee]
   by_cases z:ansB rs q k=true
   ·rw[if_pos z,if_pos z]
    have:=r2 k ((yes k).mpr ⟨hk,z⟩)
    exact⟨this.1,by lia⟩
   ·rw[if_neg z,if_neg z]
    have:=p2 k ((no k).mpr ⟨hk,z⟩)
    exact⟨this.1,by lia⟩
  ·rcases Zu Y X with z | z
   ·obtain⟨u1,u2⟩:=(yes k2).mp r4;exact⟨k2,u1,by rw[em,if_pos u2];lia⟩
   ·obtain⟨u1,u2⟩:=(no k1).mp p4;exact⟨k1,u1,by rw[em,if_neg u2];lia⟩
theorem LF:∀xs:List Nat,CS (iD xs)=xs.map fun(t:Nat)=>Dw.int (t:Int)
 | []=>rfl
 | x::xs=>congrArg (Dw.int (x:Int) :: ·) (LF xs)
theorem Vl{S0:Nat}(I:PInv ls (rs.map AM) n S0 es []):(∀e∈DK es,DE ls e)/\(((AV ls (rs.map AM) S0:Nat):Int)<=0\/∃e∈DK es,((AV ls (rs.map AM) S0:Nat):Int)<=e.2)/\Fa rs (DK es):=by
 refine⟨fun e he=>?_,?_,fun e he h1 r hr=>?_⟩
 ·obtain⟨e',he',rfl⟩:=ZJ.mp he;obtain⟨c1,c2,c3,c4⟩:=I.ok e' he';refine⟨⟨NJ _,fun t ht=>CV c1 (mem_memS.mp ht),by show(1:Int)<=((e'.2:Nat):Int);lia⟩,fun o=>?_⟩;have e3:(fun k=>decide (k∈Au e'.1))=e'.1.testBit:=by funext k;rw[ZBG,decide_eq_true_eq];exact mem_memS
  have o:One (AE ls) (fun k=>decide (k∈Au e'.1)):=o;rw[e3]at o
  have:=(N6 (Bu c2)).mpr o
  lia
 ·rcases I.top with z | z | z
  ·obtain⟨e',he',ee⟩:=ZJ.mp z;refine .inr ⟨(Au e'.1,((e'.2:Nat):Int)),ZJ.mpr ⟨e',he',rfl⟩,?_⟩
   have:=(I.ok e' he').2.2.2
   rw[ee]at this;show _<=((e'.2:Nat):Int);lia
  ·cases z
  ·exact .inl (by lia)
 ·obtain⟨e',he',rfl⟩:=ZJ.mp he;obtain⟨j,hj,rfl⟩:=Zp hr;exact Vj I he' (by have h1:(1:Int) < ((e'.2:Nat):Int):=h1;lia) (ZD hj)
theorem DB(N k:Nat):(2 ^ N - 1).testBit k=decide (k < N):=Nat.testBit_two_pow_sub_one ..
theorem DV(N:Nat):2 ^ N - 1 < 2 ^ N:=by have:=ZBg N;lia
structure Told(ls:List Int)(rs:List (List Bool))(t:Tr)(D:Nat):Prop where
 ok:t.ok rs.length
 home:∀k,k < ls.length->t.end_ rs k=AE ls k/\t.many rs k<=D
 one:∃k,k < ls.length/\t.many rs k=D
 small:t.deep<=16/\t.size<=2000
theorem Told.all{t:Tr}{D:Nat}(h:Told ls rs t D):(List.range ls.length).all (CB ls rs (D:Nat) t)=true:=by
 rw[Z3];intro k hk;obtain⟨h1,h2⟩:=h.home k (Zr.mp hk);unfold CB;rw[ZQ,decide_eq_true_iff,decide_eq_true_iff];exact⟨h1,by lia⟩
theorem Told.less{t:Tr}{D:Nat}{z:Int}(h:Told ls rs t D)(hz:z < (D:Nat)):(List.range ls.length).all (CB ls rs z t)=false:=by
 obtain⟨k,hk,e⟩:=h.one;rw[<- Bool.not_eq_true];intro x;rw[Z3]at x
 have:=x k (Zr.mpr hk)
 unfold CB at this;rw[ZQ,decide_eq_true_iff,decide_eq_true_iff]at this;lia
end
theorem Tc{t:Tr}(G:Gm ls rs)(he:BE ls rs)(h:Dl ls (rs.map AM) t (2 ^ ls.length - 1)):Told ls rs t (AV ls (rs.map AM) (2 ^ ls.length - 1)):=by
 have hc:=FS he _ (DV _);obtain⟨a1,a2,a3,⟨k,a4,a5⟩,a6⟩:=Hv t _ h (DV _) hc
 have:=DZ ls.length (2 ^ ls.length - 1).testBit
 have:=G.l16
 have n2:=(Bu (G9 (Fk he) (ls.length - 1) (2 ^ ls.length - 1).testBit (fun k hk=>CV (DV _) hk) (by lia) |> fun c=>by rw[<- FZ]at c;exact c)).2 _ (by rw[FZ];exact G9 (Fk he) (ls.length - 1) _ (fun k hk=>CV (DV _) hk) (by lia));rw[DB]at a4;have a4:=ZR a4;have a2:∀k,k < ls.length->_:=fun k hk=>a2 k (by rw[DB];exact ZL hk)
 generalize AV ls (rs.map AM) (2 ^ ls.length - 1)=D at *;exact⟨a1,a2,⟨k,a4,a5⟩,by lia,by lia⟩
theorem Cy{L L':Nat->Int}{Y Y':List (Nat->Bool)}{f:Nat->Nat}(hL:∀i j,i < N->j < N->L (f i)=L (f j)->L' i=L' j)(hY:∀y∈Y,(∃y'∈Y',∃b:Bool,∀i,i < N->y' i=(y (f i) ^^ b))\/∃b:Bool,∀i,i < N->y (f i)=b):∀(n:Nat) (S S':Nat->Bool),(∀i,S' i=true->i < N/\S (f i)=true)->Can L Y n S->Can L' Y' n S'
 | 0,S,S',h,o=>fun i j a b=>hL i j (h i a).1 (h j b).1 (o _ _ (h i a).2 (h j b).2)
 | n+1,S,S',h,.inl o=>.inl fun i j a b=>hL i j (h i a).1 (h j b).1 (o _ _ (h i a).2 (h j b).2)
 | n+1,S,S',h,.inr ⟨y,hy,c1,c2⟩=>by
  rcases hY y hy with ⟨y',hy',b,e⟩ | ⟨b,e⟩
  ·cases b with
   | false =>
    refine .inr ⟨y',hy',Cy hL hY n _ _ (fun i hi=>?_) c1,Cy hL hY n _ _ (fun i hi=>?_) c2⟩
    ·rw[ZQ]at hi;obtain⟨h1,h2⟩:=h i hi.1;rw[e i h1,Bool.xor_false]at hi;exact⟨h1,by rw[h2,hi.2];rfl⟩
    ·rw[ZQ]at hi;obtain⟨h1,h2⟩:=h i hi.1;rw[e i h1,Bool.xor_false]at hi;exact⟨h1,by rw[h2,hi.2];rfl⟩
   | true =>
    refine .inr ⟨y',hy',Cy hL hY n _ _ (fun i hi=>?_) c2,Cy hL hY n _ _ (fun i hi=>?_) c1⟩
    ·rw[ZQ]at hi;obtain⟨h1,h2⟩:=h i hi.1;rw[e i h1,Bool.xor_true]at hi;exact⟨h1,by rw[h2,hi.2];rfl⟩
    ·rw[ZQ]at hi;obtain⟨h1,h2⟩:=h i hi.1;rw[e i h1,Bool.xor_true,Bool.not_not]at hi;exact⟨h1,by rw[h2,hi.2];rfl⟩
  ·cases b with
   | true=>exact E2 (Cy hL hY n _ _ (fun i hi=>⟨(h i hi).1,by rw[(h i hi).2,e i (h i hi).1];rfl⟩) c1)
   | false=>exact E2 (Cy hL hY n _ _ (fun i hi=>⟨(h i hi).1,by rw[(h i hi).2,e i (h i hi).1];rfl⟩) c2)
structure Per(p:List Nat)(n:Nat):Prop where
 len:p.length=n
 all:∀i,i < n->i∈p
 lt:∀t∈p,t < n
noncomputable def nth(p:List Nat)(i:Nat):Nat:=p.getD i 0
noncomputable def BH(p:List Nat)(s:Int)(ls:List Int):List Int:=p.map fun t=>s * AE ls t - 7
noncomputable def Dh(p:List Nat)(fl:List Bool)(rs:List (List Bool))(o:Nat):List Bool:=p.map fun t=>(gB (rs.getD o []) t ^^ gB fl o)
noncomputable def A9(p qs:List Nat)(fl:List Bool)(rs:List (List Bool)):List (List Bool):=qs.map (Dh p fl rs)
section
variable {ls:List Int}{rs:List (List Bool)}{p qs:List Nat}{fl:List Bool}{s:Int}{n m i t q:Nat}
theorem Per.nth_mem(h:Per p n)(hi:i < n):nth p i∈p:=by
 have hi:i < p.length:=by rw[h.len];exact hi
 unfold nth;rw[ZN,ZD hi];exact Zc hi
theorem Per.nth_lt(h:Per p n)(hi:i < n):nth p i < n:=h.lt _ (h.nth_mem hi)
theorem Per.ix(h:Per p n)(ht:t < n):p.idxOf t < n/\nth p (p.idxOf t)=t:=by
 have h1:=List.idxOf_lt_length_iff.mpr (h.all t ht);refine⟨by rw[<- h.len];exact h1,?_⟩;unfold nth;rw[ZN,ZD h1,List.getElem_idxOf h1];rfl
theorem Cc(h:Per p n):(BH p s ls).length=n:=by unfold BH;rw[ZB,h.len]
theorem Jp(h:Per qs n):(A9 p qs fl rs).length=n:=by unfold A9;rw[ZB,h.len]
theorem Ca(h:Per p n)(hi:i < n):AE (BH p s ls) i=s * AE ls (nth p i) - 7:=by
 have hi:i < p.length:=by rw[h.len];exact hi
 unfold BH nth
 show(List.map _ p).getD i 0=_
 rw[ZN,ZN,ZP,ZD hi];rfl
theorem Jx(h:Per p n)(hi:i < n)(o:Nat):gB (Dh p fl rs o) i=(gB (rs.getD o []) (nth p i) ^^ gB fl o):=by
 have hi:i < p.length:=by rw[h.len];exact hi
 unfold Dh nth;generalize rs.getD o []=r
 show(List.map _ p).getD i false=_
 rw[ZN,ZN,ZP,ZD hi];rfl
theorem U8(h:q < rs.length):rs.getD q []∈rs:=by
 rw[ZN,ZD h];exact Zc h
theorem Wh{r:List Bool}(h:r∈rs):∃q,q < rs.length/\rs.getD q []=r:=by
 obtain⟨q,hq,e⟩:=Zp h;exact⟨q,hq,by rw[ZN,ZD hq];exact e⟩
theorem Gm.turn(G:Gm ls rs)(a:Per p ls.length)(b:Per qs rs.length):Gm (BH p s ls) (A9 p qs fl rs):=by
 refine⟨by rw[Cc a];exact G.l1,by rw[Cc a];exact G.l16,by rw[Jp b];exact G.r1,by rw[Jp b];exact G.r16,fun r hr=>?_⟩;obtain⟨o,_,rfl⟩:=ZJ.mp hr;rw[Cc a];unfold Dh;rw[ZB,a.len]
theorem ends_of(h:∀i j,i < ls.length->j < ls.length->(∀r∈rs,gB r i=gB r j)->AE ls i=AE ls j):BE ls rs:=fun i j ⟨h1,h2,h3,h4⟩=>h3 (h i j (by lia) h2 (List.map_inj_left.mp h4))
theorem IW(he:BE ls rs)(hi:i < ls.length)(hj:j < ls.length)(h:∀r∈rs,gB r i=gB r j):AE ls i=AE ls j:=Fk he i j hi hj fun y hy=>by
 obtain⟨r,hr,rfl⟩:=ZJ.mp hy;exact h r hr
theorem Lv(a:Per p ls.length)(b:Per qs rs.length){r:List Bool}(hr:r∈rs):∃r'∈A9 p qs fl rs,∃c:Bool,∀i,i < ls.length->gB r' i=(gB r (nth p i) ^^ c):=by
 obtain⟨q,hq,rfl⟩:=Wh hr;exact⟨_,ZJ.mpr ⟨q,b.all q hq,rfl⟩,gB fl q,fun i hi=>Jx a hi q⟩
theorem G5(a:Per p ls.length)(b:Per qs rs.length){r':List Bool}(hr:r'∈A9 p qs fl rs):∃r∈rs,∃c:Bool,∀i,i < ls.length->gB r' i=(gB r (nth p i) ^^ c):=by
 obtain⟨q,hq,rfl⟩:=ZJ.mp hr;exact⟨_,U8 (b.lt q hq),gB fl q,fun i hi=>Jx a hi q⟩
theorem WK{x y c:Bool}(h:(x ^^ c)=(y ^^ c)):x=y:=by
 cases x <;> cases y <;> cases c <;> first | rfl | exact h | exact h.symm
theorem JA{x y:Int}(hs:3<=s)(h:s * x - 7=s * y - 7):x=y:=by
 have:s * x=s * y:=by lia
 exact Int.eq_of_mul_eq_mul_left (by lia) this
theorem Kb(a:Per p ls.length)(b:Per qs rs.length)(hs:3<=s):BE (BH p s ls) (A9 p qs fl rs) ↔ BE ls rs:=by
 constructor
 ·intro he;refine ends_of fun i j hi hj h=>?_
  obtain⟨i1,i2⟩:=a.ix hi;obtain⟨j1,j2⟩:=a.ix hj
  have:=IW he (i:=p.idxOf i) (j:=p.idxOf j) (by rw[Cc a];exact i1) (by rw[Cc a];exact j1) fun r' hr=>by
   obtain⟨r,hr,c,e⟩:=G5 a b hr;rw[e _ i1,e _ j1,i2,j2,h r hr]
  rw[Ca a i1,Ca a j1,i2,j2]at this;exact JA hs this
 ·intro he;refine ends_of fun i j hi hj h=>?_
  rw[Cc a]at hi hj
  rw[Ca a hi,Ca a hj,IW he (a.nth_lt hi) (a.nth_lt hj) fun r hr=>by
   obtain⟨r',hr',c,e⟩:=Lv (fl:=fl) a b hr
   have:=h r' hr'
   rw[e _ hi,e _ hj]at this;exact WK this]
theorem NE{ls':List Int}{rs':List (List Bool)}(he:BE ls rs)(he':BE ls' rs')(h1:∀n,Can (AE ls) (rs.map gB) n (2 ^ ls.length - 1).testBit->Can (AE ls') (rs'.map gB) n (2 ^ ls'.length - 1).testBit)(h2:∀n,Can (AE ls') (rs'.map gB) n (2 ^ ls'.length - 1).testBit->Can (AE ls) (rs.map gB) n (2 ^ ls.length - 1).testBit):AV ls' (rs'.map AM) (2 ^ ls'.length - 1)=AV ls (rs.map AM) (2 ^ ls.length - 1):=by
 have a:=Bu (FS he _ (DV _));have b:=Bu (FS he' _ (DV _));rw[FZ]at a b;exact Nat.le_antisymm (b.2 _ (h1 _ a.1)) (a.2 _ (h2 _ b.1))
theorem Xe(he:BE ls rs)(a:Per p ls.length)(b:Per qs rs.length)(hs:3<=s):AV (BH p s ls) ((A9 p qs fl rs).map AM) (2 ^ (BH p s ls).length - 1)=AV ls (rs.map AM) (2 ^ ls.length - 1):=by
 refine NE he ((Kb a b hs).mpr he) (fun n=>?_) fun n=>?_
 ·refine Cy (N:=ls.length) (f:=nth p) (fun i j hi hj e=>by rw[Ca a hi,Ca a hj,e]) (fun y hy=>?_) n _ _ fun i hi=>?_
  ·obtain⟨r,hr,rfl⟩:=ZJ.mp hy;obtain⟨r',hr',c,e⟩:=Lv (fl:=fl) a b hr;exact .inl ⟨_,ZJ.mpr ⟨r',hr',rfl⟩,c,e⟩
  ·rw[DB,Cc a,decide_eq_true_iff]at hi;rw[DB,decide_eq_true_iff];exact⟨hi,a.nth_lt hi⟩
 ·refine Cy (N:=ls.length) (f:=p.idxOf) (fun i j hi hj e=>?_) (fun y hy=>?_) n _ _ fun i hi=>?_
  ·obtain⟨i1,i2⟩:=a.ix hi;obtain⟨j1,j2⟩:=a.ix hj;rw[Ca a i1,Ca a j1,i2,j2]at e;exact JA hs e
  ·obtain⟨r',hr',rfl⟩:=ZJ.mp hy;obtain⟨r,hr,c,e⟩:=G5 a b hr';refine .inl ⟨_,ZJ.mpr ⟨r,hr,rfl⟩,c,fun i hi=>?_⟩;obtain⟨i1,i2⟩:=a.ix hi;rw[e _ i1,i2];cases gB r i <;> cases c <;> rfl
  ·rw[DB,decide_eq_true_iff]at hi;rw[DB,Cc a,decide_eq_true_iff];exact⟨hi,(a.ix hi).1⟩
theorem Ku(he:BE ls rs)(row:List Bool):BE ls (rs++[row]):=ends_of fun i j hi hj h=>IW he hi hj fun r hr=>h r (Zv _ hr)
theorem Tn(he:BE ls rs){row:List Bool}(h:row∈rs\/row=List.replicate ls.length false):AV ls ((rs++[row]).map AM) (2 ^ ls.length - 1)=AV ls (rs.map AM) (2 ^ ls.length - 1):=by
 refine NE he (Ku he row) (fun n=>IR fun y hy=>by rw[ZF];exact Zv _ hy) fun n=>?_
 refine Cy (N:=ls.length) (f:=id) (fun i j hi hj e=>e) (fun y hy=>?_) n _ _ fun i hi=>?_
 ·obtain⟨r,hr,rfl⟩:=ZJ.mp hy;have old:∀r∈rs,(∃y'∈rs.map gB,∃b:Bool,∀i,i < ls.length->y' i=(gB r (id i) ^^ b))\/∃b:Bool,∀i,i < ls.length->gB r (id i)=b:=fun r hr=>.inl ⟨_,ZJ.mpr ⟨r,hr,rfl⟩,false,fun i _=>(Bool.xor_false _).symm⟩
  rcases Zb.mp hr with z | z
  ·exact old r z
  ·rw[ZO.mp z]
   rcases h with h | h
   ·exact old _ h
   ·refine .inr ⟨false,fun i hi=>?_⟩;rw[h]
    show(List.replicate ls.length false).getD i false=false
    rw[ZN,ZB2,if_pos hi];rfl
 ·have z:=hi;rw[DB,decide_eq_true_iff]at z;exact⟨z,hi⟩
noncomputable def Tr.turn(qs:List Nat)(fl:List Bool)(s:Int):Tr->Tr
 | .say i=>.say (s * i - 7)
 | .ask q n y=>if gB fl q=true then .ask (qs.idxOf q) (y.turn qs fl s) (n.turn qs fl s) else .ask (qs.idxOf q) (n.turn qs fl s) (y.turn qs fl s)
theorem HM(a:Per p n)(b:Per qs rs.length):∀t:Tr,t.ok rs.length->(t.turn qs fl s).ok rs.length/\(t.turn qs fl s).deep=t.deep/\(t.turn qs fl s).size=t.size/\∀k,k < n->(t.turn qs fl s).end_ (A9 p qs fl rs) k=s * t.end_ rs (nth p k) - 7/\(t.turn qs fl s).many (A9 p qs fl rs) k=t.many rs (nth p k)
 | .say i,_=>⟨trivial,rfl,rfl,fun k _=>⟨rfl,rfl⟩⟩
 | .ask q x y,ho=>by
  obtain⟨x1,x2,x3,x4⟩:=HM a b x ho.2.1;obtain⟨y1,y2,y3,y4⟩:=HM a b y ho.2.2;obtain⟨q1,q2⟩:=b.ix ho.1
  have an:∀k,k < n->ansB (A9 p qs fl rs) (qs.idxOf q) k=(ansB rs q (nth p k) ^^ gB fl q):=fun k hk=>by
   unfold ansB
   have e:(A9 p qs fl rs).getD (qs.idxOf q) []=Dh p fl rs q:=by
    have h1:qs.idxOf q < qs.length:=by rw[b.len];exact q1
    unfold A9;rw[ZN,ZP,ZD h1,List.getElem_idxOf h1];rfl
   rw[e,Jx a hk]
  have e1:(Tr.ask q x y).turn qs fl s=if gB fl q=true then .ask (qs.idxOf q) (y.turn qs fl s) (x.turn qs fl s) else .ask (qs.idxOf q) (x.turn qs fl s) (y.turn qs fl s):=rfl
  have ed:∀q (x y:Tr),(Tr.ask q x y).deep=1+max x.deep y.deep:=fun _ _ _=>rfl
  have es:∀q (x y:Tr),(Tr.ask q x y).size=1+x.size+y.size:=fun _ _ _=>rfl
  have em:∀rs q (x y:Tr) k,(Tr.ask q x y).many rs k=1+(if ansB rs q k=true then y.many rs k else x.many rs k):=fun _ _ _ _ _=>rfl
  have ee:∀rs q (x y:Tr) k,(Tr.ask q x y).end_ rs k=(if ansB rs q k=true then y.end_ rs k else x.end_ rs k):=fun _ _ _ _ _=>rfl
  rw[e1]
  by_cases f:gB fl q=true
  ·rw[if_pos f];refine⟨⟨q1,y1,x1⟩,by rw[ed,ed,x2,y2,Nat.max_comm],by rw[es,es,x3,y3];lia,fun k hk=>?_⟩;rw[em,em,ee,ee,an k hk,f,(x4 k hk).1,(x4 k hk).2,(y4 k hk).1,(y4 k hk).2];cases ansB rs q (nth p k) <;> exact⟨rfl,rfl⟩
  ·rw[if_neg f];have f:=Bool.eq_false_iff.mpr f;refine⟨⟨q1,x1,y1⟩,by rw[ed,ed,x2,y2],by rw[es,es,x3,y3],fun k hk=>?_⟩;rw[em,em,ee,ee,an k hk,f,(x4 k hk).1,(x4 k hk).2,(y4 k hk).1,(y4 k hk).2];cases ansB rs q (nth p k) <;> exact⟨rfl,rfl⟩
theorem Told.turn{t:Tr}{D:Nat}(h:Told ls rs t D)(a:Per p ls.length)(b:Per qs rs.length):Told (BH p s ls) (A9 p qs fl rs) (t.turn qs fl s) D:=by
 obtain⟨t1,t2,t3,t4⟩:=HM (fl:=fl) (s:=s) a b t h.ok;refine⟨by rw[Jp b];exact t1,fun k hk=>?_,?_,?_⟩
 ·rw[Cc a]at hk;rw[(t4 k hk).1,(t4 k hk).2,Ca a hk];obtain⟨h1,h2⟩:=h.home _ (a.nth_lt hk);rw[h1];exact⟨rfl,h2⟩
 ·obtain⟨k,hk,e⟩:=h.one;obtain⟨k1,k2⟩:=a.ix hk;exact⟨_,by rw[Cc a];exact k1,by rw[(t4 _ k1).2,k2,e]⟩
 ·rw[t2,t3];exact h.small
structure Mv(p:List Nat)(e e':List Nat × Int):Prop where
 num:e'.2=e.2
 rise:e'.1.Pairwise (· < ·)
 mem:∀k,k∈e'.1 ↔ ∃t∈e.1,p.idxOf t=k
theorem RX{es':Bk}{z:Int}(a:Per p ls.length)(b:Per qs rs.length)(hs:3<=s)(a1:∀e∈es,∃e'∈es',Mv p e e')(a2:∀e'∈es',∃e∈es,Mv p e e')(hok:∀e∈es,DE ls e)(top:z<=0\/∃e∈es,z<=e.2)(hB:Fa rs es):GX (BH p s ls) (A9 p qs fl rs) z (.tup (es'.map Ax)):=by
 have ltE:∀e∈es,∀t∈e.1,t < ls.length:=fun e he t ht=>(hok e he).1.lt t ht
 refine⟨es',rfl,fun e' he'=>?_,?_,fun e' he' h1 r' hr'=>?_⟩
 ·obtain⟨e,he,m⟩:=a2 e' he';have o:=hok e he;refine⟨⟨m.rise,fun k hk=>?_,by rw[m.num];exact o.1.3⟩,fun one=>o.2 fun i j hi hj=>?_⟩
  ·obtain⟨t,ht,rfl⟩:=(m.mem k).mp hk;rw[Cc a];exact(a.ix (ltE e he t ht)).1
  ·have hi:=ZR hi;have hj:=ZR hj;obtain⟨i1,i2⟩:=a.ix (ltE e he i hi);obtain⟨j1,j2⟩:=a.ix (ltE e he j hj)
   have:=one (p.idxOf i) (p.idxOf j) (ZL ((m.mem _).mpr ⟨i,hi,rfl⟩)) (ZL ((m.mem _).mpr ⟨j,hj,rfl⟩))
   rw[Ca a i1,Ca a j1,i2,j2]at this;exact JA hs this
 ·rcases top with z | ⟨e,he,z⟩
  ·exact .inl z
  ·obtain⟨e',he',m⟩:=a1 e he;exact .inr ⟨e',he',by rw[m.num];exact z⟩
 ·obtain⟨e,he,m⟩:=a2 e' he';obtain⟨r,hr,c,er⟩:=G5 a b hr';obtain⟨ans,e2,he2,h2,h3⟩:=hB e he (by rw[<- m.num];exact h1) r hr;obtain⟨e2',he2',m2⟩:=a1 e2 he2;refine⟨ans ^^ c,e2',he2',by rw[m.num,m2.num];exact h2,fun k hk=>?_⟩;obtain⟨t,ht,rfl⟩:=(m2.mem k).mp hk;obtain⟨h4,h5⟩:=h3 t ht;obtain⟨t1,t2⟩:=a.ix (ltE e he t h4);exact⟨(m.mem _).mpr ⟨t,h4,rfl⟩,by rw[er _ t1,t2,h5]⟩
end
theorem UC{p:List Nat}(h:Per p i)(hj:j<=i):Per (p.take j++i::p.drop j) (i+1):=by
 have mem:∀k,k∈p.take j++i::p.drop j ↔ k∈p\/k=i:=fun k=>by
  rw[Zb,ZH,<- List.take_append_drop j p,Zb,List.take_append_drop];constructor
  ·rintro(z | z | z)
   ·exact .inl (.inl z)
   ·exact .inr z
   ·exact .inl (.inr z)
  ·rintro((z | z) | z)
   ·exact .inl z
   ·exact .inr (.inr z)
   ·exact .inr (.inl z)
 refine⟨?_,fun k hk=>(mem k).mpr ?_,fun k hk=>?_⟩
 ·have:=h.len
  rw[ZM,Zi,ZW,ZBC];lia
 ·by_cases z:k=i
  ·exact .inr z
  ·exact .inl (h.all k (by lia))
 ·rcases(mem k).mp hk with z | z
  ·exact ZBv (h.lt k z)
  ·lia
noncomputable def EY:Sp:=fun vs H Q _=>match vs with
 | [.ref t,.int z]=>∃N n:Nat,GFeed H t N/\N<=800000000/\z=n/\n<=16/\∀p l H',Per p n->H l=none->H' l=some (.lst (iL p))->GFeed H' t (N+16)->Yj t H H'->Q (.ref l) H'
 | _=>False
theorem Vf:AR EY:=fun vs H Q Q' E h q=>by
 unfold EY at *;walk_at "q"
theorem UD:Xp P w base T.z46 2 EY:=by
 have G_z54:=@DF P w K mg base T;have G_z54:=@HB P w K mg base T;refine T.z46.F.ok sc_z46 (fun vs H Q E h=>by unfold EY at h;walk_at "e") ?_;walk_at "f";unfold EY at h;walk_at "g"
 rename_i t z;obtain⟨N,n,F,hN,e1,n16,q⟩:=h;subst e1;refine⟨_,(@AF _ _ _ _ _ (@AN _ _ 2 _ _ _ _ sc_z46.nd rfl (by right) (@BK _ _ _ _ AB) (by rfl) (by walk_at "i")) (@AF _ _ _ _ _ (@Be _ _ _ _ _ _ _ _ PassesOwn.never rfl (BC rfl T.z_range (AA (vv 1) AB)) (AO (i:=3) sc_z46.nd rfl (by right)) (@AH _ _ _ (@CP _ _ _ _ (Ng (K:=K) (vv 2) (AA (AI G_z54 (hr.mono (show 1<=_ by decide)) rfl T.z54.m T.z54.F.kp T.z54.b .nil AG (AA (vv 0) (AA (AQ (BA (K:=K)) (Aa (As (K:=K)) rfl T.z_len (by rfl) (AA (vv 2) AB)) AC) AB))) (AA (vv 3) AB))) (by rfl))) (by intro _;rfl)) (@AH _ _ _ (@AL _ _ _ _ (vv 2))))),?_⟩;obtain⟨c,F⟩:=F.told;refine⟨ZV _,fun l hl=>?_⟩;dsimp only[AT];have Yv:=F.ne hl;refine AX (fun Z H'=>∃(z3:Option V) (p:List Nat),Z=[some (.ref t),some (.int (n:Nat)),some (.ref l),z3]/\Per p n/\H' l=some (.lst (iL p))/\GFd H' t c (N+n)/\Yj t H H') ?_ ?_ (by walk_at "sm")
 ·refine⟨(n:Int),rfl,by lia,by lia,?_⟩;rw[ZZ];refine C3 (fun i Z H'=>∃(z3:Option V) (p:List Nat),Z=[some (.ref t),some (.int (n:Nat)),some (.ref l),z3]/\Per p i/\H' l=some (.lst (iL p))/\GFd H' t c (N+i)/\Yj t H H') ⟨none,[],rfl,⟨rfl,fun i h=>absurd h (ZBT _),fun t h=>(by cases h)⟩,AD,F.upd hl,Yj.upd hl⟩ ?_ (fun Z H' h=>h);rintro i Z H1 hi ⟨z3,p,rfl,Pp,gl,F1,f1⟩;have pl:=Pp.len;refine⟨.inl ⟨rfl,_,.of gl⟩,p.length,.inl ⟨_,.of gl,by rw[Aj]⟩,c,_,F1,by lia,Av (by lia) (by lia),fun d H2 d0 d1 F2 f2=>?_⟩;obtain⟨j,rfl⟩:=Int.eq_ofNat_of_zero_le d0;have gl2:H2 l=some (.lst (iL p)):=by rw[f2 l Yv.1];exact gl
  refine⟨_,gl2,d0,by rw[Aj];lia,by rw[Aj];lia,?_⟩;refine⟨_,p.take j++i::p.drop j,rfl,UC Pp (by lia),?_,F2.put Yv,Ds (f1.trans (Ai f2)) hl⟩;rw[AD,Int.zero_add];unfold iL;rw[ZF,Za,List.map_take,List.map_drop];rfl
 rintro Z H1 ⟨z3,p,rfl,Pp,gl,F1,f1⟩;exact q p l H1 Pp hl gl (F1.feed.mono (by lia)) f1
theorem Cj(ls:List Int)(rs:List (List Bool)):BB (gmD ls rs)=true:=by
 have e1:∀ls:List Int,Ah (ls.map Dv.int)=true:=by
  intro ls
  induction ls with
  | nil=>rfl
  | cons x r ih=>show(true && Ah (r.map Dv.int))=true;rw[ih];rfl
 unfold gmD;simp[BB,Ah,e1,CW]
noncomputable def HowAt(H:Hp)(b:Addr)(p qs:List Nat)(fl:List Bool)(s:Int):Prop:=∃la lb lc,H b=some (.tup [.ref la,.ref lb,.ref lc,.int s])/\H la=some (.lst (iL p))/\H lb=some (.lst (iL qs))/\H lc=some (.lst (fl.map V.bl))
theorem HowAt.same{p qs:List Nat}{fl:List Bool}{s:Int}(h:HowAt H b p qs fl s)(x:Yb H H'):HowAt H' b p qs fl s:=by
 obtain⟨la,lb,lc,h1,h2,h3,h4⟩:=h;exact⟨la,lb,lc,x _ _ h1,x _ _ h2,x _ _ h3,x _ _ h4⟩
theorem HowAt.tab{p qs:List Nat}{fl:List Bool}{s:Int}{ps:Array Value}(h:HowAt H b p qs fl s)(x:Yu Pt H H')(hP:H Pt=some (.tbl ps)):HowAt H' b p qs fl s:=by
 obtain⟨la,lb,lc,h1,h2,h3,h4⟩:=h;have ne:∀{c o},H c=some o->(∀ps,o≠.tbl ps)->c≠Pt:=fun e n z=>by rw[z,hP]at e;cases e;exact n _ rfl
 exact⟨la,lb,lc,x _ _ (ne h1 nofun) h1,x _ _ (ne h2 nofun) h2,x _ _ (ne h3 nofun) h3,x _ _ (ne h4 nofun) h4⟩
noncomputable def D3(K:W.Frag):Sp:=fun vs H Q _=>match vs with
 | [.ref t,u]=>∃(N:Nat) (ls:List Int) (rs:List (List Bool)),GFeed H t N/\N<=700000000/\Yf K H (gmD ls rs) u/\Gm ls rs/\∀p qs fl s (x:V) (a b:Addr) H',Per p ls.length->Per qs rs.length->fl.length=rs.length->3<=s/\s<=11->H' a=some (.tup [x,.ref b])->Yf K H' (gmD (BH p s ls) (A9 p qs fl rs)) x->HowAt H' b p qs fl s->GFeed H' t (N+50)->Yj t H H'->Q (.ref a) H'
 | _=>False
theorem W0:AR (D3 K):=fun vs H Q Q' E h q=>by
 unfold D3 at *;walk_at "q"
theorem SY:Xp P w base T.z27 3 (D3 K):=by
 have G_z46:=@UD P w K mg base T;have G_z54:=@DF P w K mg base T;refine T.z27.F.ok sc_z27 (fun vs H Q E h=>by unfold D3 at h;walk_at "e") ?_;walk_at "f";have hr_z46:=hr.mono (show 2<=_ by decide);have hr_z54:=hr.mono (show 1<=_ by decide);have mo1:AR EY:=Vf;unfold D3 at h;walk_at "g"
 rename_i t u;obtain⟨N,ls,rs,F,hN,hg,G,q⟩:=h;have l16:=G.l16;have r16:=G.r16;obtain⟨ga,tl,rl,ps,rfl,g⟩:=Bl hg;refine⟨_,(@AF _ _ _ _ _ (@AN _ _ 2 _ _ _ _ sc_z27.nd rfl (by right) (AI G_z46 hr_z46 rfl T.z46.m T.z46.F.kp T.z46.b .nil AG (AA (vv 0) (AA (Aa (As (K:=K)) rfl T.z_len (by rfl) (AA (Yl (K:=K) (vv 1) AC) AB)) AB))) (by rfl) (by walk_at "i")) (@AF _ _ _ _ _ (@AN _ _ 3 _ _ _ _ sc_z27.nd rfl (by right) (AI G_z46 hr_z46 rfl T.z46.m T.z46.F.kp T.z46.b .nil AG (AA (vv 0) (AA (Aa (As (K:=K)) rfl T.z_len (by rfl) (AA (Yl (K:=K) (vv 1) AC) AB)) AB))) (by rfl) (by walk_at "i")) (@AF _ _ _ _ _ (@AN _ _ 4 _ _ _ _ sc_z27.nd rfl (by right) (@Ap _ _ _ _ _ _ _ (["_law_k","_law_feed_here"]) 1 [0] _ _ _ _ rfl (BC rfl T.z_range (AA (Aa (As (K:=K)) rfl T.z_len (by rfl) (AA (Yl (K:=K) (vv 1) AC) AB)) AB)) (by kernel_rfl) rfl rfl (by kernel_rfl) (fun c=>AO (i:=0) (show(["_law_k","_law_feed_here"]:List Str).Nodup by decide +kernel) rfl (by right)) (Ac (by decide)) (fun c=>Am) (fun c=>(A7 (kEq (K:=K) hu) (AI G_z54 hr_z54 rfl T.z54.m T.z54.F.kp T.z54.b .nil AG (AA (vv 1) (AA AC AB))) AC)) (by intro _;rfl)) (by rfl) (by walk_at "i")) (@AF _ _ _ _ _ (@AN _ _ 5 _ _ _ _ sc_z27.nd rfl (by right) (AQ (BA (K:=K)) AC (AI G_z54 hr_z54 rfl T.z54.m T.z54.F.kp T.z54.b .nil AG (AA (vv 0) (AA AC AB)))) (by rfl) (by walk_at "i")) (@AF _ _ _ _ _ (@AN _ _ 6 _ _ _ _ sc_z27.nd rfl (by right) (@BK _ _ _ _ AB) (by rfl) (by walk_at "i")) (@AF _ _ _ _ _ (@Be _ _ _ _ _ _ _ _ PassesOwn.never rfl (BF (K:=K) (vv 3)) (AO (i:=7) sc_z27.nd rfl (by right)) (@AH _ _ _ (@CP _ _ _ _ (Fb (K:=K) (vv 6) (AA (At (A8 (K:=K)) rfl T.z_tuple (by rfl) (AA (Ap (N':=["_law_thing","_law_game_here","_law_old","_law_flipped"]) (own:=1) (ix:=[1,7,4]) rfl (BF (K:=K) (vv 2)) (by kernel_rfl) rfl rfl (by kernel_rfl) (fun c=>AO (i:=0) (show(["_law_thing","_law_game_here","_law_old","_law_flipped"]:List Str).Nodup by decide +kernel) rfl (by right)) (Ac (by decide)) (fun c=>Am) (fun c=>(A7 (kNe (K:=K) hu) (Yl (K:=K) (Yl (K:=K) (Yl (K:=K) (vv 1) AC) (vv 2)) (vv 0)) (Yl (K:=K) (vv 3) (vv 2))))) AB)) AB)) (by rfl))) (by intro _;rfl)) (@AF _ _ _ _ _ (@AN _ _ 8 _ _ _ _ sc_z27.nd rfl (by right) (At (A8 (K:=K)) rfl T.z_tuple (by rfl) (AA (Ap (N':=["_law_thing","_law_step","_law_game_here"]) (own:=1) (ix:=[5,1]) rfl (BF (K:=K) (vv 2)) (by kernel_rfl) rfl rfl (by kernel_rfl) (fun c=>AO (i:=0) (show(["_law_thing","_law_step","_law_game_here"]:List Str).Nodup by decide +kernel) rfl (by right)) (Ac (by decide)) (fun c=>Am) (fun c=>(AQ DC (AQ CO (vv 1) (Yl (K:=K) (Yl (K:=K) (vv 2) AC) (vv 0))) AC))) AB)) (by rfl) (by walk_at "i")) (@AH _ _ _ (@AL _ _ _ _ (BD (AA (BD (AA (vv 8) (AA (At (A8 (K:=K)) rfl T.z_tuple (by rfl) (AA (vv 6) AB)) AB))) (AA (BD (AA (vv 2) (AA (vv 3) (AA (vv 4) (AA (vv 5) AB))))) AB)))))))))))),?_⟩;refine⟨_,.ref tl,.inr g.two,rfl,ls.length,.inr ⟨_,g.lab,by rw[ZB]⟩,N,ls.length,F,by lia,rfl,l16,fun p la H1 Pp hla g1 F1 f1=>?_⟩;dsimp only[AT];have hg1:=Yf.frm f1 F.lst _ _ (Cj ls rs) hg;clear g hg;obtain⟨ga',tl,rl,ps,ea,g⟩:=Bl hg1;cases ea;have nla:=F.neT hla;refine⟨_,.ref rl,.inr g.two,rfl,rs.length,.inr ⟨_,g.rows,by rw[ZB,g.len]⟩,_,rs.length,F1,by lia,rfl,r16,fun qs lb H2 Pq hlb g2 F2 f2=>?_⟩;dsimp only[AT];have hg2:=Yf.frm f2 F1.lst _ _ (Cj ls rs) hg1;have gla2:=f2 _ _ nla g1;have nlb:=F1.neT hlb;have f2':=f1.trans f2;clear g hg1 g1;obtain⟨ga',tl,rl,ps,ea,g⟩:=Bl hg2;cases ea;refine AX (fun Z H'=>∃(lc:Addr) (fl:List Bool),Z=[some (.ref t),some (.ref ga),some (.ref la),some (.ref lb),some (.ref lc),none,none,none,none]/\fl.length=rs.length/\H' lc=some (.lst (fl.map V.bl))/\lc≠t/\GFeed H' t (N+49)/\Yj t H2 H') ?_ ?_ (by walk_at "sm")
 ·refine⟨_,.ref rl,.inr g.two,rfl,rs.length,.inr ⟨_,g.rows,by rw[ZB,g.len]⟩,rs.length,rfl,by lia,by lia,?_⟩;rw[ZZ];refine BW (fun j ys H'=>∃fl:List Bool,ys=fl.map V.bl/\fl.length=j/\GFeed H' t (N+16+16+j)/\Yj t H2 H') ⟨[],rfl,rfl,F2,Yj.refl⟩ (fun j ys H' hj ⟨fl,e,el,_⟩=>by rw[e,ZB,el];exact Ag (by lia)) ?_ ?_
  ·rintro j ys H3 hj ⟨fl,rfl,el,F3,f3⟩;refine⟨_,F3,by lia,Av (by decide) (by decide),fun d H4 d0 d1 F4 f4=>?_⟩;exact⟨fl++[_],by rw[ZF];rfl,by rw[ZM,el];rfl,F4,f3.trans (Ai f4)⟩
  ·rintro ys H3 ⟨fl,rfl,el,F3,f3⟩ lc hlc;exact⟨lc,fl,rfl,el,AD,F3.neT hlc,(F3.upd hlc).mono (by lia),f3.trans (Yj.upd hlc)⟩
 rintro Z H3 ⟨lc,fl,rfl,el,gc,nlc,F3,f3⟩;have hg3:=Yf.frm f3 F2.lst _ _ (Cj ls rs) hg2;have ga3:=f3 _ _ nla gla2;have gb3:=f3 _ _ nlb g2;have f3':=f2'.trans f3;clear g hg2 gla2 g2;refine AX (fun Z H'=>∃(st:Int),Z=[some (.ref t),some (.ref ga),some (.ref la),some (.ref lb),some (.ref lc),some (.int st),none,none,none]/\(3<=st/\st<=11)/\GFeed H' t (N+50)/\Yj t H3 H') ?_ ?_ (by walk_at "sm")
 ·exact⟨_,F3,by lia,Av (by decide) (by decide),fun d H4 d0 d1 F4 f4=>⟨3+d,rfl,by lia,F4,Ai f4⟩⟩
 rintro Z H4 ⟨st,rfl,hst,F4,f4⟩;have hg4:=Yf.frm f4 F3.lst _ _ (Cj ls rs) hg3;have ga4:=f4 _ _ nla ga3;have gb4:=f4 _ _ nlb gb3;have gc4:=f4 _ _ nlc gc;have f4':=f3'.trans f4;clear hg3 ga3 gb3 gc f3' f4 F3 f3 F2 f2 f2' F1 f1;refine⟨ZV _,fun lr hlr=>?_⟩;dsimp only[AT];have s5:=Yb.upd (o:=.lst []) hlr;have hlr0:H lr=none:=F4.free f4' hlr;have hg5:=Yf.same s5 _ _ hg4;have gl5:upd H4 lr (.lst []) lr=some (.lst []):=AD;have ga5:=s5 _ _ ga4;have gb5:=s5 _ _ gb4;have gc5:=s5 _ _ gc4;have F5:=F4.same s5;have f5:=f4'.trans s5.frm;have nlr:lr≠t:=F4.neT hlr;have ne1:la≠lr:=fun z=>by rw[z,hlr]at ga4;cases ga4
 have ne2:lb≠lr:=fun z=>by rw[z,hlr]at gb4;cases gb4
 have ne3:lc≠lr:=fun z=>by rw[z,hlr]at gc4;cases gc4
 generalize upd H4 lr (.lst [])=H5 at *;clear s5 hg4 ga4 gb4 gc4 F4 f4';refine AX (fun Z H'=>∃(xs:List V) (z7:Option V),Z=[some (.ref t),some (.ref ga),some (.ref la),some (.ref lb),some (.ref lc),some (.int st),some (.ref lr),z7,none]/\H' lr=some (.lst xs)/\Yc K H' (Ab (A9 p qs fl rs)) xs/\GFeed H' t (N+50)/\Yj t H H'/\Yj lr H5 H') ?_ ?_ (by walk_at "sm")
 ·refine .inl ⟨⟨_,.of gb5⟩,?_⟩;refine Jj (xs:=iL qs) (fun i Z H'=>∃(xs:List V) (z7:Option V),Z=[some (.ref t),some (.ref ga),some (.ref la),some (.ref lb),some (.ref lc),some (.int st),some (.ref lr),z7,none]/\H' lr=some (.lst xs)/\Yc K H' (Ab ((qs.take i).map (Dh p fl rs))) xs/\GFeed H' t (N+50)/\Yj t H H'/\Yj lr H5 H') ⟨[],none,rfl,gl5,Ad,F5,f5,Yj.refl⟩ (fun i Z H' _ ⟨_,_,_,_,_,_,_,f⟩=>.of (f _ _ ne2 gb5)) ?_ (fun Z H' ⟨xs,z7,a1,a2,a3,a4⟩=>⟨xs,z7,a1,a2,by rw[Aj,Zq]at a3;exact a3,a4⟩);rintro i x Z H6 hi ⟨xs,z7,rfl,gl6,R6,F6,f6,fl6⟩;obtain⟨o,ho,hom,rfl⟩:=Bp hi;have hol:=Pq.lt o hom;have hg6:=Yf.frm fl6 ⟨_,gl5⟩ _ _ (Cj ls rs) hg5;obtain⟨ga',tl,rl,ps,ea,g⟩:=Bl hg6;cases ea;have hb:ps[o]? = some (ps.getD o 0):=by simp[ZN,show o < ps.length by rw[g.len];exact hol]
  have hr0:rs[o]? = some (rs.getD o []):=by simp[ZN,hol]
  have hrow:=g.row o _ _ hb hr0;have hrl:(rs.getD o []).length=ls.length:=G.row _ (Zt hr0)
  have xl:xs.length<=16:=by
   rw[<- R6.length,Dj,ZB,ZW]
   have:=Pq.len
   lia
  refine⟨.inl ⟨rfl,_,.of gl6⟩,?_⟩;refine .inl ⟨⟨_,.of (fl6 _ _ ne1 ga5)⟩,?_⟩
  refine DO (xs:=iL p) (fun k zs H'=>H'=H6/\zs=((p.take k).map fun c=>(gB (rs.getD o []) c ^^ gB fl o)).map V.bl) ⟨rfl,rfl⟩ (fun k zs H' _ ⟨e,_⟩=>by rw[e];exact .of (fl6 _ _ ne1 ga5)) (fun k zs H' hk ⟨_,e⟩=>by
   rw[Aj,Pp.len]at hk;rw[e,ZB,ZB,ZW];exact Ag (by lia)) ?_ ?_
  ·rintro k x zs H7 hx ⟨rfl,rfl⟩;obtain⟨c,hc,hcm,rfl⟩:=Bp hx;have hcl:=Pp.lt c hcm;refine⟨_,.ref rl,.inr g.two,rfl,_,.ref (ps.getD o 0),.inr g.rows,AW rfl (by rw[ZP,hb];rfl),_,.bl (gB (rs.getD o []) c),.inr hrow,FU (by rw[hrl];exact hcl),_,.bl (gB fl o),.inl (.of (fl6 _ _ ne3 gc5)),FU (by lia),?_⟩;rw[Zm,hc,ZF,ZF];generalize hx1:gB (rs.getD o []) c=x1;generalize hx2:gB fl o=x2
   have e2:((some c).toList.map fun c=>(gB (rs.getD o []) c ^^ x2)).map V.bl=[.bl (x1 ^^ x2)]:=by
    rw[<- hx1];rfl
   rw[e2];cases x1 <;> cases x2 <;> exact⟨rfl,rfl⟩
  ·rintro zs H7 ⟨rfl,rfl⟩ k hk;rw[Aj,Zq];refine⟨_,.inl ⟨.of AD,fun tp htp=>?_⟩⟩;have s8:=(Yb.upd (o:=.lst ((p.map fun c=>(gB (rs.getD o []) c ^^ gB fl o)).map V.bl)) hk).trans (Yb.upd (o:=.tup ((p.map fun c=>(gB (rs.getD o []) c ^^ gB fl o)).map V.bl)) htp);have gt8:upd (upd H7 k (.lst ((p.map fun c=>(gB (rs.getD o []) c ^^ gB fl o)).map V.bl))) tp (.tup ((p.map fun c=>(gB (rs.getD o []) c ^^ gB fl o)).map V.bl)) tp=some (.tup ((p.map fun c=>(gB (rs.getD o []) c ^^ gB fl o)).map V.bl)):=AD;generalize upd (upd H7 k (.lst ((p.map fun c=>(gB (rs.getD o []) c ^^ gB fl o)).map V.bl))) tp (.tup ((p.map fun c=>(gB (rs.getD o []) c ^^ gB fl o)).map V.bl))=H8 at *
   have R8:Yc K H8 (Ab ((qs.take (i+1)).map (Dh p fl rs))) (xs++[.ref tp]):=by
    rw[Zm,ho,ZF];unfold Ab;rw[ZF];exact Yc.append (Yc.same s8 _ _ R6) (AU (BL gt8 (Bx _)) Ad)
   have gl8:=s8 _ _ gl6;have F8:=F6.same s8;have f8:=f6.trans s8.frm;have fl8:=fl6.trans s8.frm;refine⟨_,gl8,Ag (by lia),?_⟩;have fr:=Yj.updT (t:=lr) (H:=H8) (o:=.lst (xs++[.ref tp]));exact⟨_,_,rfl,AD,Yc.frm fr ⟨_,gl8⟩ _ _ (CW _) R8,F8.put nlr gl8 (HR R6),Ds f8 hlr0,fl8.trans fr⟩
 rintro Z H6 ⟨xs,z7,rfl,gl6,R6,F6,f6,fl6⟩;have hg6:=Yf.frm fl6 ⟨_,gl5⟩ _ _ (Cj ls rs) hg5;have ga6:=fl6 _ _ ne1 ga5;have gb6:=fl6 _ _ ne2 gb5;have gc6:=fl6 _ _ ne3 gc5;obtain⟨ga',tl,rl,ps,ea,g⟩:=Bl hg6;cases ea;refine .inl ⟨⟨_,.of ga6⟩,?_⟩
 refine DO (xs:=iL p) (fun k zs H'=>H'=H6/\zs=((p.take k).map fun c=>st * AE ls c - 7).map V.int) ⟨rfl,rfl⟩ (fun k zs H' _ ⟨e,_⟩=>by rw[e];exact .of ga6) (fun k zs H' hk ⟨_,e⟩=>by
  rw[Aj,Pp.len]at hk;rw[e,ZB,ZB,ZW];exact Ag (by lia)) ?_ ?_
 ·rintro k x zs H7 hx ⟨rfl,rfl⟩;obtain⟨c,hc,hcm,rfl⟩:=Bp hx;refine⟨_,.ref tl,.inr g.two,rfl,_,.int (AE ls c),.inr g.lab,C6 (Pp.lt c hcm),.inr (.inl ⟨by lia,by lia⟩),rfl,?_⟩;rw[Zm,hc,ZF,ZF];rfl
 ·rintro zs H7 ⟨rfl,rfl⟩ k hk;rw[Aj,Zq];refine⟨_,.inl ⟨.of AD,fun tq htq=>?_⟩⟩;dsimp only[AT];have s8:=(Yb.upd (o:=.lst ((p.map fun c=>st * AE ls c - 7).map V.int)) hk).trans (Yb.upd (o:=.tup ((p.map fun c=>st * AE ls c - 7).map V.int)) htq);have gq8:upd (upd H7 k (.lst ((p.map fun c=>st * AE ls c - 7).map V.int))) tq (.tup ((p.map fun c=>st * AE ls c - 7).map V.int)) tq=some (.tup ((p.map fun c=>st * AE ls c - 7).map V.int)):=AD;generalize upd (upd H7 k (.lst ((p.map fun c=>st * AE ls c - 7).map V.int))) tq (.tup ((p.map fun c=>st * AE ls c - 7).map V.int))=H8 at *;refine⟨_,.inl ⟨.of (s8 _ _ gl6),fun tr htr=>⟨smq rfl,fun tg htg=>⟨smq rfl,fun b hb=>⟨smq rfl,fun a ha=>?_⟩⟩⟩⟩⟩;have s9:=Yb.upd (o:=.tup xs) htr;have gr9:upd H8 tr (.tup xs) tr=some (.tup xs):=AD;generalize upd H8 tr (.tup xs)=H9 at *;have s10:=Yb.upd (o:=.tup [.ref tq,.ref tr]) htg;have gg10:upd H9 tg (.tup [.ref tq,.ref tr]) tg=some (.tup [.ref tq,.ref tr]):=AD;generalize upd H9 tg (.tup [.ref tq,.ref tr])=H10 at *;have s11:=Yb.upd (o:=.tup [.ref la,.ref lb,.ref lc,.int st]) hb;have gb11:upd H10 b (.tup [.ref la,.ref lb,.ref lc,.int st]) b=some (.tup [.ref la,.ref lb,.ref lc,.int st]):=AD;generalize upd H10 b (.tup [.ref la,.ref lb,.ref lc,.int st])=H11 at *;have s12:=Yb.upd (o:=.tup [.ref tg,.ref b]) ha;have S:=s8.trans (s9.trans (s10.trans (s11.trans s12)));refine q p qs fl st (.ref tg) a b _ Pp Pq el hst AD ?_ ⟨la,lb,lc,s12 _ _ gb11,S _ _ ga6,S _ _ gb6,S _ _ gc6⟩ (F6.same S) (f6.trans S.frm);exact GK ((s11.trans s12) _ _ gg10) (.of ((s9.trans (s10.trans (s11.trans s12))) _ _ gq8)) (Ba (.of ((s10.trans (s11.trans s12)) _ _ gr9)) (Yc.same S _ _ R6))
noncomputable def CQ(K:W.Frag)(D:Nat):Sp:=fun vs H Q _=>match vs with
 | [v,.ref b]=>∃(tr:Tr) (p qs:List Nat) (fl:List Bool) (s:Int) (m:Nat),Yf K H tr.dv v/\HowAt H b p qs fl s/\(3<=s/\s<=11)/\Per qs m/\m<=16/\fl.length=m/\tr.ok m/\tr.deep<=D/\∀x H',Yf K H' (tr.turn qs fl s).dv x->Yb H H'->Q x H'
 | _=>False
theorem M3{D:Nat}:AR (CQ K D):=fun vs H Q Q' E h q=>by
 unfold CQ at *;walk_at "q"
theorem OM{p:List Nat}{t:Nat}(h:Per p n)(ht:t < n):(iL p)[p.idxOf t]? = some (.int (t:Int))/\(iL p).all C4=true/\∀(k:Nat) (z:V),k < p.idxOf t->(iL p)[k]? = some z->eqV z (.int (t:Int))=false:=by
 have h1:=List.idxOf_lt_length_iff.mpr (h.all t ht);refine⟨?_,?_,fun k z hk hz=>?_⟩
 ·unfold iL;rw[ZP,ZD h1,List.getElem_idxOf h1];rfl
 ·unfold iL;rw[List.all_map];exact Z3.mpr fun _ _=>rfl
 ·obtain⟨x,hx,_,rfl⟩:=Bp hz
  have:x≠t:=fun e=>by
   have:=List.not_of_lt_findIdx (p:=(· == t)) (xs:=p) (i:=k) hk
   obtain⟨h3,h4⟩:=Zf.mp hx;rw[h4,e]at this;simp at this
  show((x:Int) == (t:Int))=false
  rw[beq_eq_false_iff_ne];lia
theorem SK{fl:List Bool}{q:Nat}(h:q < fl.length):atI (fl.map V.bl) (q:Int)=some (.bl (gB fl q)):=FU h
theorem PM(D:Nat)(G_z28:Xp P w base T.z28 (D+2) (CQ K D)):Xp P w base T.z28 (D+3) (CQ K (D+1)):=by
 refine T.z28.F.ok sc_z28 (fun vs H Q E h=>by unfold CQ at h;walk_at "e") ?_;walk_at "f";have hr_z28:=hr;have mo1:AR (CQ K D):=M3
 match vs,h with
 | [v,.ref b],⟨tr,p,qs,fl,st,m,hv,hw,hst,Pq,m16,el,hok,hD,q⟩ =>
 refine⟨_,(@AF _ _ _ _ _ (@Cp _ _ _ _ _ _ (vv 1) (Dz (K:=K) (n:=4) rfl (Az (AO (i:=2) sc_z28.nd rfl (by right)) (Az (AO (i:=3) sc_z28.nd rfl (by right)) (Az (AO (i:=4) sc_z28.nd rfl (by right)) (Az (AO (i:=5) sc_z28.nd rfl (by right)) B9))))) (by rfl) (by rfl) (by rfl)) (@AF _ _ _ _ _ (@Ao _ _ _ _ _ _ _ _ (Ae (kEq (K:=K) hu) (Yl (K:=K) (vv 0) AC) Cw) (@AH _ _ _ (@AL _ _ _ _ (BD (AA Cw (AA (AQ DC (AQ CO (vv 5) (Yl (K:=K) (vv 0) AC)) AC) AB))))) An) (@AF _ _ _ _ _ (@AN _ _ 6 _ _ _ _ sc_z28.nd rfl (by right) (@BK _ _ _ _ (AA (AI G_z28 hr_z28 rfl T.z28.m T.z28.F.kp T.z28.b .nil AG (AA (Yl (K:=K) (vv 0) AC) (AA (vv 1) AB))) (AA (AI G_z28 hr_z28 rfl T.z28.m T.z28.F.kp T.z28.b .nil AG (AA (Yl (K:=K) (vv 0) AC) (AA (vv 1) AB))) AB))) (by rfl) (by walk_at "i")) (@AF _ _ _ _ _ (@Ao _ _ _ _ _ _ _ _ (BM (Yl (K:=K) (vv 4) (Yl (K:=K) (vv 0) AC))) (@AH _ _ _ (@CP _ _ _ _ (Ui (K:=K) (vv 6)) (by rfl))) An) (@AH _ _ _ (@AL _ _ _ _ (BD (AA Cw (AA (M9 (K:=K) (vv 3) (AA (Yl (K:=K) (vv 0) AC) AB)) (AA (Yl (K:=K) (vv 6) AC) (AA (Yl (K:=K) (vv 6) AC) AB))))))))))),?_⟩;obtain⟨la,lb,lc,h1,h2,h3,h4⟩:=id hw;refine⟨_,.inr (.of h1),rfl,_,_,rfl,_,_,rfl,_,_,rfl,_,_,rfl,rfl,?_⟩;dsimp only[AT];cases tr with
 | say i =>
  obtain⟨a,rfl,hp⟩:=Gr hv;refine⟨_,_,.inr hp,AW (n:=0) rfl rfl,?_⟩;refine⟨_,_,.inr hp,AW (n:=1) rfl rfl,.inr (.inl ⟨by lia,by lia⟩),smq rfl,fun p1 n1=>q _ _ (Ba (.of AD) (AU (by unfold Yf;rfl) (AU (by unfold Yf;rfl) Ad))) (Yb.upd n1)⟩
 | ask q0 x y =>
  obtain⟨a,x2,x3,rfl,hp,r2,r3⟩:=Gw hv;have hd:1+max x.deep y.deep<=D+1:=hD;have hq:q0 < m:=hok.1;refine⟨_,_,.inr hp,AW (n:=0) rfl rfl,?_⟩;refine⟨_,x2,.inr hp,AW (n:=2) rfl rfl,x,p,qs,fl,st,m,r2,hw,hst,Pq,m16,el,hok.2.1,by lia,fun y2 H2 t2 s2=>?_⟩;refine⟨_,x3,.inr (s2.sqT hp),AW (n:=3) rfl rfl,y,p,qs,fl,st,m,Yf.same s2 _ _ r3,hw.same s2,hst,Pq,m16,el,hok.2.2,by lia,fun y3 H3 t3 s3=>?_⟩;refine⟨smq rfl,fun l hl=>?_⟩;dsimp only[AT];have s4:=Yb.upd (o:=.lst [y2,y3]) hl;have hl0:H l=none:=(s2.trans s3).free hl;have gl4:upd H3 l (.lst [y2,y3]) l=some (.lst [y2,y3]):=AD;generalize upd H3 l (.lst [y2,y3])=H4 at *;have S4:=(s2.trans s3).trans s4;have T2:=Yf.same (s3.trans s4) _ _ t2;have T3:=Yf.same s4 _ _ t3;obtain⟨i1,i2⟩:=Pq.ix hq;obtain⟨ix1,ix2,ix3⟩:=OM Pq hq;have e1:(Tr.ask q0 x y).turn qs fl st=if gB fl q0=true then .ask (qs.idxOf q0) (y.turn qs fl st) (x.turn qs fl st) else .ask (qs.idxOf q0) (x.turn qs fl st) (y.turn qs fl st):=rfl
  rw[e1]at q;refine AX (fun Z H'=>∃w0 w1,Z=[some (.ref a),some (.ref b),some (.ref la),some (.ref lb),some (.ref lc),some (.int st),some (.ref l)]/\Yb H H'/\H' l=some (.lst [w0,w1])/\((gB fl q0=true/\Yf K H' (y.turn qs fl st).dv w0/\Yf K H' (x.turn qs fl st).dv w1)\/(¬gB fl q0=true/\Yf K H' (x.turn qs fl st).dv w0/\Yf K H' (y.turn qs fl st).dv w1))) ?_ ?_ (by walk_at "sm")
  ·refine⟨_,_,.inr (S4.sqT hp),AW (n:=1) rfl rfl,_,_,.inl (.of (S4 _ _ h4)),SK (by lia),?_⟩;refine Ak (fun e=>?_) (fun e=>⟨_,_,rfl,S4,gl4,.inr ⟨e,T2,T3⟩⟩);refine⟨.inl ⟨rfl,_,.of gl4⟩,_,gl4,show 2 < 1000 by decide,?_⟩;have fr:Yj l H4 (upd H4 l (.lst [y2,y3].reverse)):=Yj.updT;exact⟨y3,y2,rfl,fun c o z=>by rw[AJ (BU z hl0)];exact S4 _ _ z,AD,.inl ⟨e,Yf.frm fr ⟨_,gl4⟩ _ _ (Tr.tups _) T3,Yf.frm fr ⟨_,gl4⟩ _ _ (Tr.tups _) T2⟩⟩
  rintro Z H5 ⟨w0,w1,rfl,S5,gl5,hh⟩;refine⟨.inl ⟨rfl,_,.of (S5 _ _ h3)⟩,_,_,.inr (S5.sqT hp),AW (n:=1) rfl rfl,?_⟩;refine⟨_,qs.idxOf q0,_,.of (S5 _ _ h3),rfl,ix2,ix1,beq_self_eq_true (q0:Int),ix3,?_⟩;refine⟨_,_,.inl (.of gl5),AW (n:=0) rfl rfl,_,_,.inl (.of gl5),AW (n:=1) rfl rfl,smq rfl,fun r nr=>?_⟩;have s6:=Yb.upd (o:=.tup [.str (Str.ofString "ask"),.int (qs.idxOf q0:Nat),w0,w1]) nr
  rcases hh with ⟨e,ra,rb⟩ | ⟨e,ra,rb⟩
  ·rw[if_pos e]at q;exact q _ _ (Ba (.of AD) (AU (by unfold Yf;rfl) (AU (by unfold Yf;rfl) (AU (Yf.same s6 _ _ ra) (AU (Yf.same s6 _ _ rb) Ad))))) (S5.trans s6)
  ·rw[if_neg e]at q;exact q _ _ (Ba (.of AD) (AU (by unfold Yf;rfl) (AU (by unfold Yf;rfl) (AU (Yf.same s6 _ _ ra) (AU (Yf.same s6 _ _ rb) Ad))))) (S5.trans s6)
theorem NG:∀D:Nat,Xp P w base T.z28 (D+2) (CQ K D)
 | 0=>by
  have no:∀vs H Q E,¬CQ K 0 vs H Q E:=fun vs H Q E h=>by
   unfold CQ at h;split at h
   ·obtain⟨tr,_,_,_,_,_,_,_,_,_,_,_,_,z,_⟩:=h
    have:=tr.deep_pos
    lia
   ·exact h
  exact⟨fun vs H Q E h=>(no _ _ _ _ h).elim,fun A outer s H args us vs Q E _ _ _ _ h=>(no _ _ _ _ h).elim⟩
 | c+1=>PM T c (NG c)
theorem QS:Xp P w base T.z28 19 (CQ K 17):=NG T 17
theorem Kt:∀{ts:List Nat} {xs:List V},Yc K H (iD ts) xs->xs=iL ts
 | [],xs,h=>by unfold iD at h;simp only[List.map_nil]at h;unfold Yc at h;exact h
 | t::ts,xs,h=>by
  have h':Yc K H (Dv.int (t:Nat)::iD ts) xs:=h;unfold Yc at h';obtain⟨x,r,rfl,h1,h2⟩:=h';unfold Yf at h1;rw[h1,Kt h2];rfl
theorem Tw{p:List Nat}{ms:List Int}(h:Per p n)(hS:S < 2 ^ n)(c:ms.Perm ((Au S).map fun t=>((p.idxOf t:Nat):Int)))(o:ms.Pairwise (· <= ·))(m:Int):∃zs:List Nat,ms.map V.int=iL zs/\Mv p (Au S,m) (zs,m):=by
 have lt:∀t∈Au S,t < n:=fun t ht=>CV hS (mem_memS.mp ht)
 have pos:∀x,x∈ms ↔ ∃t∈Au S,((p.idxOf t:Nat):Int)=x:=fun x=>by rw[c.mem_iff,ZJ]
 have nd:ms.Nodup:=c.symm.nodup (ZBf.mpr ((NJ S).imp_of_mem fun {a b} ha hb hab e=>by
  have h1:=(h.ix (lt a ha)).2;have h2:=(h.ix (lt b hb)).2;rw[show p.idxOf a=p.idxOf b by lia,h2]at h1;lia))
 refine⟨ms.map Int.toNat,?_,rfl,?_,fun k=>?_⟩
 ·unfold iL;rw[ZBX];refine ZBy fun x hx=>?_
  obtain⟨t,_,rfl⟩:=(pos x).mp hx;rfl
 ·refine ZBf.mpr ((o.and nd).imp_of_mem fun {a b} ha hb ⟨h1,h2⟩=>?_);obtain⟨s,_,rfl⟩:=(pos a).mp ha;obtain⟨t,_,rfl⟩:=(pos b).mp hb;lia
 ·rw[ZJ];constructor
  ·rintro⟨x,hx,rfl⟩;obtain⟨t,ht,rfl⟩:=(pos x).mp hx;exact⟨t,ht,rfl⟩
  ·rintro⟨t,ht,rfl⟩;exact⟨_,(pos _).mpr ⟨t,ht,rfl⟩,rfl⟩
noncomputable def CJ(e:List Nat × Int):Dv:=.tup [.tup (iD e.1),.int e.2]
theorem Mw:∀es:Bk,CS (es.map CJ)=es.map Ax
 | []=>rfl
 | e::es=>by
  show Dw.tup [.tup (CS (iD e.1)),.int e.2]::CS (es.map CJ)=Ax e::es.map Ax;rw[LF,Mw es];rfl
theorem JS:∀es:Bk,Ah (es.map CJ)=true
 | []=>by simp[Ah]
 | e::es=>by
  rw[Za];unfold Ah;rw[JS es]
  have h:BB (CJ e)=true:=by
   unfold CJ BB Ah Ah Ah
   have:BB (.tup (iD e.1))=true:=by unfold BB;exact MO _
   rw[this];rfl
  rw[h];rfl
noncomputable def EV(K:W.Frag):Sp:=fun vs H Q _=>match vs with
 | [v,.ref b]=>∃(es:List (Nat × Nat)) (p qs:List Nat) (fl:List Bool) (s:Int) (n:Nat),Yf K H (E9 es) v/\HowAt H b p qs fl s/\Per p n/\n<=16/\es.length<=65536/\(∀e∈es,e.1 < 2 ^ n)/\∀(es':Bk) x H',Yf K H' (.tup (es'.map CJ)) x->es'.length=es.length->(∀e∈DK es,∃e'∈es',Mv p e e')->(∀e'∈es',∃e∈DK es,Mv p e e')->Yb H H'->Q x H'
 | _=>False
theorem Sq:AR (EV K):=fun vs H Q Q' E h q=>by
 unfold EV at *;walk_at "q"
theorem Pl:Xp P w base T.z26 1 (EV K):=by
 refine T.z26.F.ok sc_z26 (fun vs H Q E h=>by unfold EV at h;walk_at "e") ?_;walk_at "f";unfold EV at h;walk_at "g"
 rename_i v b;obtain⟨es,p,qs,fl,st,n,hv,hw,Pp,n16,elen,elt,q⟩:=h;obtain⟨la,lb,lc,h1,h2,h3,h4⟩:=id hw;obtain⟨a,xs,rfl,hp,hx⟩:=Bj hv;refine⟨_,(@AF _ _ _ _ _ (@AN _ _ 2 _ _ _ _ sc_z26.nd rfl (by right) (@BK _ _ _ _ AB) (by rfl) (by walk_at "i")) (@AF _ _ _ _ _ (@Be _ _ _ _ _ _ _ _ PassesOwn.never rfl (BF (K:=K) (vv 0)) (Dz (K:=K) (n:=2) rfl (Az (AO (i:=3) sc_z26.nd rfl (by right)) (Az (AO (i:=4) sc_z26.nd rfl (by right)) B9))) (@AH _ _ _ (@CP _ _ _ _ (Fb (K:=K) (vv 2) (AA (BD (AA (At (A8 (K:=K)) rfl T.z_tuple (by rfl) (AA (Aa (Ug (K:=K)) rfl T.z_sorted (by rfl) (AA (Ap (N':=["_law_thing","_law_how"]) (own:=1) (ix:=[1]) rfl (BF (K:=K) (vv 3)) (by kernel_rfl) rfl rfl (by kernel_rfl) (fun c=>AO (i:=0) (show(["_law_thing","_law_how"]:List Str).Nodup by decide +kernel) rfl (by right)) (Ac (by decide)) (fun c=>Am) (fun c=>(M9 (K:=K) (Yl (K:=K) (vv 1) AC) (AA (vv 0) AB)))) AB)) AB)) (AA (vv 4) AB))) AB)) (by rfl))) (by intro _;rfl)) (@AH _ _ _ (@AL _ _ _ _ (At (A8 (K:=K)) rfl T.z_tuple (by rfl) (AA (vv 2) AB)))))),?_⟩;refine⟨ZV _,fun l hl=>?_⟩;dsimp only[AT];have xl:xs.length=es.length:=by rw[<- hx.length,ZB]
 have s1:=Yb.upd (o:=.lst []) hl;have gl1:upd H l (.lst []) l=some (.lst []):=AD;generalize upd H l (.lst [])=H1 at *;refine AX (fun Z H'=>∃(es':Bk) (ys:List V) (z3 z4:Option V),Z=[some (.ref a),some (.ref b),some (.ref l),z3,z4]/\Yb H H'/\H' l=some (.lst ys)/\Yc K H' (es'.map CJ) ys/\es'.length=es.length/\∀(j:Nat) (e:Nat × Nat) (e':List Nat × Int),es[j]? = some e->es'[j]? = some e'->Mv p (Au e.1,((e.2:Nat):Int)) e') ?_ ?_ (by walk_at "sm")
 ·refine .inr ⟨⟨_,s1.sqT hp⟩,?_⟩;refine Ht (xs:=xs) (fun i Z H'=>∃(es':Bk) (ys:List V) (z3 z4:Option V),Z=[some (.ref a),some (.ref b),some (.ref l),z3,z4]/\Yb H H'/\H' l=some (.lst ys)/\Yc K H' (es'.map CJ) ys/\es'.length=i/\∀(j:Nat) (e:Nat × Nat) (e':List Nat × Int),es[j]? = some e->es'[j]? = some e'->Mv p (Au e.1,((e.2:Nat):Int)) e') ⟨[],[],none,none,rfl,s1,gl1,Ad,rfl,fun j e e' _ z=>by simp at z⟩ (fun i Z H' _ ⟨_,_,_,_,_,s,_⟩=>s.sqT hp) ?_ (fun Z H' ⟨es',ys,z3,z4,a1,a2,a3,a4,a5,a6⟩=>⟨es',ys,z3,z4,a1,a2,a3,a4,a5.trans xl,a6⟩);rintro i x Z H2 hi ⟨es',ys,z3,z4,rfl,s2,gl2,hys,el,hall⟩;obtain⟨d,hd,rx⟩:=IJ hx hi;rw[ZP]at hd;obtain⟨e0,he0,rfl⟩:=ZB4.mp hd;obtain⟨xa,x1,x2,rfl,ha,r1,r2⟩:=GT (Yf.same s2 _ _ rx);obtain⟨ta,zs,rfl,hz,hzz⟩:=Bj r1;obtain rfl:=Kt hzz;unfold Yf at r2;subst r2;have hS:=elt e0 (Zt he0)
  have hml:(Au e0.1).length<=16:=by
   rw[Ox hS];exact Zn (DZ _ _) n16
  have hyl:ys.length=i:=by rw[<- hys.length,ZB,el]
  have hil:i < es.length:=(Zf.mp he0).1;refine⟨_,.inr ha,rfl,_,_,rfl,_,_,rfl,rfl,?_⟩;refine⟨.inl ⟨rfl,_,.of gl2⟩,?_⟩;refine .inr ⟨⟨_,hz⟩,?_⟩
  refine Cq (xs:=iL (Au e0.1)) (fun k zs H'=>H'=H2/\zs=(((Au e0.1).take k).map fun c=>((p.idxOf c:Nat):Int)).map V.int) ⟨rfl,rfl⟩ (fun k zs H' _ ⟨e,_⟩=>by rw[e];exact hz) (fun k zs H' hk ⟨_,e⟩=>by
   rw[Aj]at hk;rw[e,ZB,ZB,ZW];exact Ag (by lia)) ?_ ?_
  ·rintro k x zs H3 hx' ⟨rfl,rfl⟩;obtain⟨c,hc,hcm,rfl⟩:=Bp hx';obtain⟨ix1,ix2,ix3⟩:=OM Pp (CV hS (mem_memS.mp hcm));refine⟨_,_,.inr (.of (s2 _ _ h1)),AW (n:=0) rfl rfl,.inl ⟨rfl,_,.of (s2 _ _ h2)⟩,_,p.idxOf c,_,.of (s2 _ _ h2),rfl,ix2,ix1,beq_self_eq_true (c:Int),ix3,rfl,?_⟩;rw[Zm,hc,ZF,ZF];rfl
  ·rintro zs H3 ⟨rfl,rfl⟩ k hk;rw[Aj,Zq];refine⟨_,.of AD,by rw[ZB];lia,fun ms pp perm srt hpp=>?_⟩;obtain⟨zs,ez,mv⟩:=Tw Pp hS perm srt ((e0.2:Nat):Int);rw[ez];have s3:=(Yb.upd (o:=.lst (((Au e0.1).map fun c=>((p.idxOf c:Nat):Int)).map V.int)) hk).trans (Yb.upd (o:=.lst (iL zs)) hpp);have gp3:upd (upd H3 k (.lst (((Au e0.1).map fun c=>((p.idxOf c:Nat):Int)).map V.int))) pp (.lst (iL zs)) pp=some (.lst (iL zs)):=AD;generalize upd (upd H3 k (.lst (((Au e0.1).map fun c=>((p.idxOf c:Nat):Int)).map V.int))) pp (.lst (iL zs))=H4 at *;refine⟨_,.inl ⟨.of gp3,fun tq htq=>⟨smq rfl,fun tt htt=>?_⟩⟩⟩;have s5:=Yb.upd (o:=.tup (iL zs)) htq;have gq5:upd H4 tq (.tup (iL zs)) tq=some (.tup (iL zs)):=AD;generalize upd H4 tq (.tup (iL zs))=H5 at *;have s6:=Yb.upd (o:=.tup [.ref tq,.int (e0.2:Nat)]) htt;have gt6:upd H5 tt (.tup [.ref tq,.int (e0.2:Nat)]) tt=some (.tup [.ref tq,.int (e0.2:Nat)]):=AD;generalize upd H5 tt (.tup [.ref tq,.int (e0.2:Nat)])=H6 at *;have S:=s3.trans (s5.trans s6);have gl6:=S _ _ gl2;refine⟨_,gl6,by rw[sizeLine_eq];lia,?_⟩;have fr:=Yj.updT (t:=l) (H:=H6) (o:=.lst (ys++[.ref tt]))
   have R6:Yc K H6 ((es'++[(zs,((e0.2:Nat):Int))]).map CJ) (ys++[.ref tt]):=by
    rw[ZF];exact Yc.append (Yc.same S _ _ hys) (AU (Ba (.of gt6) (AU (Ba (.of (s6 _ _ gq5)) (JM zs)) (AU (by unfold Yf;rfl) Ad))) Ad)
   refine⟨es'++[(zs,((e0.2:Nat):Int))],_,_,_,rfl,fun c o z=>by rw[AJ (BU z hl)];exact S _ _ (s2 _ _ z),AD,Yc.frm fr ⟨_,gl6⟩ _ _ (JS _) R6,by rw[ZM,el];rfl,fun j e e' h5 h6=>?_⟩
   rcases ZBH j es'.length with z | z | z
   ·rw[ZBL z]at h6;exact hall j e e' h5 h6
   ·subst z;rw[ZBE (ZE _),ZBm]at h6;cases h6;rw[el,he0]at h5;cases h5;exact mv
   ·rw[ZBE (Zy z),ZB8 (by simp;lia)]at h6;cases h6
 rintro Z H2 ⟨es',ys,z3,z4,rfl,s2,gl2,hys,el,hall⟩;refine⟨_,.inl ⟨.of gl2,fun tq htq=>?_⟩⟩;have s3:=Yb.upd (o:=.tup ys) htq;refine q es' _ _ (Ba (.of AD) (Yc.same s3 _ _ hys)) el (fun e he=>?_) (fun e' he'=>?_) (s2.trans s3)
 ·obtain⟨e0,h0,rfl⟩:=ZJ.mp he;obtain⟨j,hj,rfl⟩:=Zp h0;exact⟨es'[j]'(by lia),Zc _,hall j _ _ (ZD hj) (ZD (by lia))⟩
 ·obtain⟨j,hj,rfl⟩:=Zp he';exact⟨_,ZJ.mpr ⟨es[j]'(by lia),Zc _,rfl⟩,hall j _ _ (ZD (by lia)) (ZD hj)⟩
theorem FK(f:Yj t H H')(ht:∃zs,H t=some (.lst zs))(h:Yp K H p xs):Yp K H' p xs:=by
 obtain⟨zs,hz⟩:=ht
 rcases h with (h1 | ⟨o,h1⟩) | h1
 ·exact .inl (.inl (f p _ (fun q=>by rw[q,hz]at h1;cases h1) h1))
 ·exact .inl (.inr ⟨o,f p _ (fun q=>by rw[q,hz]at h1;cases h1) h1⟩)
 ·exact .inr h1
theorem Th{x:V}{Q:VK}(h:Yp K H a [x])(hk:k<=100)(q:∀p H',Yb H H'->Yp K H' p (List.replicate k x)->Q (.ref p) H'):Et K (.ref a) (.int (k:Nat)) H Q:=by
 refine⟨[x],h,by simp,by lia,Int.lt_of_le_of_lt (show(k:Int)<=100 by lia) (by decide),CZ (by rw[ZZ];show 1 * k<=1000;lia),fun e=>?_,fun _ p hp=>?_⟩
 ·have:k=1:=by lia
  subst this;exact q a H (Yb.refl _) h
 ·refine q p _ (Yb.upd hp) (.of ?_);rw[AD,ZZ];rw[List.flatten_replicate_singleton]
noncomputable abbrev EW(Pt:Addr)(H:Hp):Prop:=Yx Pt FI CN H
theorem NZ{Pu:Addr}{pz:Array Value}(l:Yx Pt pos q H)(g:Yu Pu H H')(ne:Pt≠Pu)(hu:H Pu=some (.tbl pz)):Yx Pt pos q H':=by
 obtain⟨ps,a,b,c⟩:=l;refine⟨ps,g _ _ ne a,b,?_⟩
 rcases c with c | ⟨c',c,d⟩
 ·exact .inl c
 ·exact .inr ⟨c',c,g _ _ (fun z=>by rw[z,hu]at d;cases d) d⟩
structure G3(K:W.Frag)(PA PB:Addr)(H:Hp)(t:Addr)(N:Nat)(u:V)(ls:List Int)(rs:List (List Bool))(x:V)(ls':List Int)(rs':List (List Bool)):Prop where
 F:GFeed H t N
 A:DQ PA H
 B:EW PB H
 r:Yf K H (gmD ls rs) u
 o:Yf K H (gmD ls' rs') x
section
variable {PA PB:Addr}{H H':Hp}{t:Addr}{N N':Nat}{u x:V}{ls ls':List Int}{rs rs':List (List Bool)}
theorem G3.same(n:G3 K PA PB H t N u ls rs x ls' rs')(s:Yb H H'):G3 K PA PB H' t N u ls rs x ls' rs':=⟨n.F.same s,n.A.same s,n.B.same s,Yf.same s _ _ n.r,Yf.same s _ _ n.o⟩
theorem G3.frm(n:G3 K PA PB H t N u ls rs x ls' rs')(F:GFeed H' t N')(f:Yj t H H'):G3 K PA PB H' t N' u ls rs x ls' rs':=⟨F,DA n.A f n.F.lst,DA n.B f n.F.lst,Yf.frm f n.F.lst _ _ (Cj _ _) n.r,Yf.frm f n.F.lst _ _ (Cj _ _) n.o⟩
theorem G3.growB(n:G3 K PA PB H t N u ls rs x ls' rs')(ne:PA≠PB)(g:Yu PB H H')(l:EW PB H'):G3 K PA PB H' t N u ls rs x ls' rs':=by
 obtain⟨pz,hP,_⟩:=id n.B;exact⟨Ma n.F g hP,NZ n.A g ne hP,l,Yf.tab g hP _ _ n.r,Yf.tab g hP _ _ n.o⟩
theorem G3.growA(n:G3 K PA PB H t N u ls rs x ls' rs')(ne:PA≠PB)(g:Yu PA H H')(l:DQ PA H'):G3 K PA PB H' t N u ls rs x ls' rs':=by
 obtain⟨pz,hP,_⟩:=id n.A;exact⟨Ma n.F g hP,l,NZ n.B g (Ne.symm ne) hP,Yf.tab g hP _ _ n.r,Yf.tab g hP _ _ n.o⟩
end
theorem Vc(B:BMn mg base):FnOk P w K mg base CX0 97 T.f_law T.d_law ["_law_script"] (Gc K [T.p_z12,T.p_z61]):=by
 have G_z27:=@SY P w K mg base T;have G_z63:=@RS P w K mg base T B;have G_z68:=@RI P w K mg base T;have G_z51:=@Sz P w K mg base T B;have G_z52:=@RP P w K mg base T;refine T.F_law.ok sc_law (fun vs H Q E h=>by obtain⟨a,ns,rfl,_⟩:=h;rfl) ?_;walk_at "f";have hr_z27:=hr.mono (show 3<=_ by decide);have hr_z63:=hr.mono (show 96<=_ by decide);have hr_z68:=hr.mono (show 2<=_ by decide);have hr_z51:=hr.mono (show 10<=_ by decide);have hr_z52:=hr.mono (show 6<=_ by decide);obtain⟨a,ns,rfl,hS,Yk,hPt,q⟩:=h;refine⟨_,(@AF _ _ _ _ _ (@AN _ _ 1 _ _ _ _ sc_law.nd rfl (by right) (AI (@Rf P w K mg base T) (hr.mono (show 1<=_ by decide)) rfl T.z50.m T.z50.F.kp T.z50.b .nil AG (AA (vv 0) AB)) (by rfl) (by walk_at "i")) (@AF _ _ _ _ _ (@Be _ _ _ _ _ _ _ _ PassesOwn.never rfl (BC rfl T.z_range (AA AC AB)) (AO (i:=2) sc_law.nd rfl (by right)) (@AF _ _ _ _ _ (@AN _ _ 3 _ _ _ _ sc_law.nd rfl (by right) (AI (@Xa P w K mg base T) (hr.mono (show 4<=_ by decide)) rfl T.z55.m T.z55.F.kp T.z55.b .nil AG (AA (vv 1) AB)) (by rfl) (by walk_at "i")) (@AF _ _ _ _ _ (@Cp _ _ _ _ _ _ (AI G_z27 hr_z27 rfl T.z27.m T.z27.F.kp T.z27.b .nil AG (AA (vv 1) (AA (vv 3) AB))) (Dz (K:=K) (n:=2) rfl (Az (AO (i:=4) sc_law.nd rfl (by right)) (Az (AO (i:=5) sc_law.nd rfl (by right)) B9))) (by rfl) (by rfl) (by rfl)) (@AF _ _ _ _ _ (@Ao _ _ _ _ _ _ _ _ (Ae (kNe (K:=K) hu) (AI G_z68 hr_z68 rfl T.z68.m T.z68.F.kp T.z68.b .nil AG (AA (vv 3) AB)) (AI G_z68 hr_z68 rfl T.z68.m T.z68.F.kp T.z68.b .nil AG (AA (vv 4) AB))) (@AH _ _ _ (@AL _ _ _ _ Aw)) An) (@AF _ _ _ _ _ (@AN _ _ 3 _ _ _ _ sc_law.nd rfl (by right) (AI (@UT P w K mg base T) (hr.mono (show 2<=_ by decide)) rfl T.z40.m T.z40.F.kp T.z40.b .nil AG (AA (vv 3) AB)) (by rfl) (by walk_at "i")) (@AF _ _ _ _ _ (@Cp _ _ _ _ _ _ (AI G_z27 hr_z27 rfl T.z27.m T.z27.F.kp T.z27.b .nil AG (AA (vv 1) (AA (vv 3) AB))) (Dz (K:=K) (n:=2) rfl (Az (AO (i:=4) sc_law.nd rfl (by right)) (Az (AO (i:=5) sc_law.nd rfl (by right)) B9))) (by rfl) (by rfl) (by rfl)) (@AF _ _ _ _ _ (@Cp _ _ _ _ _ _ (AI G_z63 hr_z63 rfl T.z63.m T.z63.F.kp T.z63.b .nil AG (AA (vv 3) AB)) (Dz (K:=K) (n:=3) rfl (Az (AO (i:=6) sc_law.nd rfl (by right)) (Az (AO (i:=7) sc_law.nd rfl (by right)) (Az (AO (i:=8) sc_law.nd rfl (by right)) B9)))) (by rfl) (by rfl) (by rfl)) (@AF _ _ _ _ _ (@Ao _ _ _ _ _ _ _ _ (Ae (kNe (K:=K) hu) (Yl (K:=K) (AI G_z63 hr_z63 rfl T.z63.m T.z63.F.kp T.z63.b .nil AG (AA (vv 4) AB)) AC) (vv 6)) (@AH _ _ _ (@AL _ _ _ _ Aw)) An) (@AF _ _ _ _ _ (@AN _ _ 7 _ _ _ _ sc_law.nd rfl (by right) (AI (@QS P w K mg base T) (hr.mono (show 19<=_ by decide)) rfl T.z28.m T.z28.F.kp T.z28.b .nil AG (AA (vv 7) (AA (vv 5) AB))) (by rfl) (by walk_at "i")) (@AF _ _ _ _ _ (@AN _ _ 8 _ _ _ _ sc_law.nd rfl (by right) (AI (@Pl P w K mg base T) (hr.mono (show 1<=_ by decide)) rfl T.z26.m T.z26.F.kp T.z26.b .nil AG (AA (vv 8) (AA (vv 5) AB))) (by rfl) (by walk_at "i")) (@AF _ _ _ _ _ (@Ao _ _ _ _ _ _ _ _ (PW.pt (Dd (Ae D2 (AI G_z51 hr_z51 rfl T.z51.m T.z51.F.kp T.z51.b .nil AG (AA (vv 4) (AA (vv 6) (AA (vv 7) AB)))) Aw) (Dy (PW.pt (DS (Ae Cb (vv 6) AC) (Dk (Ae D2 (AI G_z51 hr_z51 rfl T.z51.m T.z51.F.kp T.z51.b .nil AG (AA (vv 4) (AA (AQ DC (vv 6) AC) (AA (vv 7) AB)))) Aw))))))) (@AH _ _ _ (@AL _ _ _ _ Aw)) An) (@AF _ _ _ _ _ (@Ao _ _ _ _ _ _ _ _ (PW.pt (Dd (Ae D2 (AI G_z52 hr_z52 rfl T.z52.m T.z52.F.kp T.z52.b .nil AG (AA (vv 4) (AA (vv 6) (AA (vv 8) AB)))) Aw) (Dy (Ae D2 (AI G_z52 hr_z52 rfl T.z52.m T.z52.F.kp T.z52.b .nil AG (AA (vv 4) (AA (AQ (D9 (K:=K)) (vv 6) AC) (AA (vv 8) AB)))) Aw)))) (@AH _ _ _ (@AL _ _ _ _ Aw)) An) (@AF _ _ _ _ _ (@AN _ _ 9 _ _ _ _ sc_law.nd rfl (by right) (Yl (K:=K) (@BK _ _ _ _ (AA (AQ (SW (K:=K)) (BD (AA Aw AB)) (Aa (As (K:=K)) rfl T.z_len (by rfl) (AA (Yl (K:=K) (vv 3) AC) AB))) (AA (Yl (K:=K) (Yl (K:=K) (vv 3) AC) AC) AB))) (AI (@DF P w K mg base T) (hr.mono (show 1<=_ by decide)) rfl T.z54.m T.z54.F.kp T.z54.b .nil AG (AA (vv 1) (AA AC AB)))) (by rfl) (by walk_at "i")) (@AH _ _ _ (@Ao _ _ _ _ _ _ _ _ (PW.pt (DS (Ae Cu (Aa (As (K:=K)) rfl T.z_len (by rfl) (AA (Yl (K:=K) (vv 3) AC) AB)) AC) (Dk (Ae (kNe (K:=K) hu) (Yl (K:=K) (AI G_z63 hr_z63 rfl T.z63.m T.z63.F.kp T.z63.b .nil AG (AA (BD (AA (Yl (K:=K) (vv 3) AC) (AA (AQ (D9 (K:=K)) (Yl (K:=K) (vv 3) AC) (BD (AA (vv 9) AB))) AB))) AB)) AC) (vv 6))))) (@AH _ _ _ (@AL _ _ _ _ Aw)) An)))))))))))))) (by intro _;rfl)) (@AH _ _ _ (@AL _ _ _ _ Aw)))),?_⟩;have mo1:AR (CK K 500 800000000):=Ps;have mo2:AR (Eg K):=Rk;have mo3:AR (Do K T.p_z12):=WE;have mo4:AR (D3 K):=W0;have mo5:AR (CQ K 17):=M3;have mo6:AR (EV K):=Sq;have mo7:AR (D8 K):=O0;have mo8:AR (EO K T.p_z61):=Rs;have mo9:AR (Dt K):=Rq;have np:=T.np_0;generalize hPA:T.p_z12=PA at *;generalize hPB:T.p_z61=PB at *;have A0:DQ PA H:=NT (hPt _ (Zo ..));have B0:EW PB H:=NT (hPt _ (Ze _ (ZO.mpr rfl)));refine⟨ns,hS,fun t H1 ht s1 F1=>?_⟩;dsimp only[AT];have A1:=A0.same s1;have B1:=B0.same s1;refine AX (fun Z H'=>∃z:List (Option V),Z=some (.ref a)::some (.ref t)::z) ?_ (fun Z H' _=>q H') (by walk_at "sm");refine⟨4,rfl,by decide,by decide,?_⟩;refine C3 (fun i Z H'=>(∃z2 z3 z4 z5 z6 z7 z8 z9:Option V,Z=[some (.ref a),some (.ref t),z2,z3,z4,z5,z6,z7,z8,z9])/\GFeed H' t (1000 * i)/\DQ PA H'/\EW PB H') ⟨⟨none,none,none,none,none,none,none,none,rfl⟩,F1,A1,B1⟩ ?_ (fun Z H' ⟨⟨z2,z3,z4,z5,z6,z7,z8,z9,e⟩,_⟩=>⟨_,e⟩);clear F1 A1 B1 A0 B0 s1 ht H1;rintro i Z H2 hi ⟨⟨z2,z3,z4,z5,z6,z7,z8,z9,rfl⟩,F2,A2,B2⟩;have hi4:i < 4:=hi;refine⟨_,F2,by lia,fun ls0 rs u0 H3 G0 r3 F3 f3=>?_⟩;dsimp only[AT];have A3:=DA A2 f3 F2.lst;have B3:=DA B2 f3 F2.lst;clear F2 A2 B2 f3 H2;refine AX (fun Z H'=>∃(p qs:List Nat) (fl:List Bool) (s:Int) (x:V) (b:Addr),Z=[some (.ref a),some (.ref t),some (.int (0+(i:Int))),some u0,some x,some (.ref b),z6,z7,z8,z9]/\G3 K PA PB H' t (1000 * i+550) u0 ls0 rs x (BH p s ls0) (A9 p qs fl rs)/\Per p ls0.length/\Per qs rs.length/\3<=s) ?_ ?_ (by walk_at "sm")
 ·exact⟨_,ls0,rs,F3,by lia,r3,G0,fun p qs fl s x a b H4 Pp Pq el hs ga rx hw F4 f4=>⟨_,.inr (.of ga),rfl,_,_,rfl,_,_,rfl,rfl,p,qs,fl,s,x,b,rfl,⟨F4,DA A3 f4 F3.lst,DA B3 f4 F3.lst,Yf.frm f4 F3.lst _ _ (Cj _ _) r3,rx⟩,Pp,Pq,hs.1⟩⟩
 clear F3 A3 B3 r3 H3;rintro Z H4 ⟨p,qs,fl,s0,x,b,rfl,n4,Pp,Pq,hs⟩;refine AX (fun Z H'=>Z=[some (.ref a),some (.ref t),some (.int (0+(i:Int))),some u0,some x,some (.ref b),z6,z7,z8,z9]/\G3 K PA PB H' t (1000 * i+550) u0 ls0 rs x (BH p s0 ls0) (A9 p qs fl rs)) ?_ ?_ (by walk_at "sm")
 ·refine⟨ls0,rs,n4.r,G0,fun b1 H5 s5 e1=>⟨_,_,(n4.same s5).o,G0.turn Pp Pq,fun b2 H6 s6 e2=>?_⟩⟩;have e3:b1=b2:=by rw[ZBG,e1,e2];exact(Kb Pp Pq hs).symm
  subst e3;have n6:=(n4.same s5).same s6;cases b1 <;> exact⟨rfl,n6⟩
 clear n4 H4;rintro Z H4 ⟨rfl,n4⟩;refine⟨ls0,rs,n4.r,G0,fun ls u H5 s5 G he r5=>?_⟩;dsimp only[AT];have F5:=n4.F.same s5;have A5:=n4.A.same s5;have B5:=n4.B.same s5;clear n4 s5 H4 G0 Pp Pq hs;have l1:=G.l1;have l16:=G.l16;have r1:=G.r1;have r16:=G.r16;refine AX (fun Z H'=>∃(p qs:List Nat) (fl:List Bool) (s:Int) (x:V) (b:Addr),Z=[some (.ref a),some (.ref t),some (.int (0+(i:Int))),some u,some x,some (.ref b),z6,z7,z8,z9]/\G3 K PA PB H' t (1000 * i+600) u ls rs x (BH p s ls) (A9 p qs fl rs)/\Per p ls.length/\Per qs rs.length/\fl.length=rs.length/\(3<=s/\s<=11)/\HowAt H' b p qs fl s) ?_ ?_ (by walk_at "sm")
 ·exact⟨_,ls,rs,F5,by lia,r5,G,fun p qs fl s x a b H4 Pp Pq el hs ga rx hw F4 f4=>⟨_,.inr (.of ga),rfl,_,_,rfl,_,_,rfl,rfl,p,qs,fl,s,x,b,rfl,⟨F4,DA A5 f4 F5.lst,DA B5 f4 F5.lst,Yf.frm f4 F5.lst _ _ (Cj _ _) r5,rx⟩,Pp,Pq,el,hs,hw⟩⟩
 clear F5 A5 B5 r5 H5 p qs fl s0 x b;rintro Z H4 ⟨p,qs,fl,st,x,b,rfl,n4,Pp,Pq,el,hs,hw⟩;have G':=G.turn (s:=st) (fl:=fl) Pp Pq;have he':=(Kb (fl:=fl) Pp Pq hs.1).mpr he;have nt:=Xe (fl:=fl) he Pp Pq hs.1;refine AX (fun Z H'=>∃(t0:Tr) (es:List (Nat × Nat)) (v y:V),Z=[some (.ref a),some (.ref t),some (.int (0+(i:Int))),some u,some x,some (.ref b),some (.int (AV ls (rs.map AM) (2 ^ ls.length - 1):Nat)),some v,some y,z9]/\G3 K PA PB H' t (1000 * i+600) u ls rs x (BH p st ls) (A9 p qs fl rs)/\HowAt H' b p qs fl st/\Dl ls (rs.map AM) t0 (2 ^ ls.length - 1)/\PInv ls (rs.map AM) ls.length (2 ^ ls.length - 1) es []/\Yf K H' t0.dv v/\Yf K H' (E9 es) y) ?_ ?_ (by walk_at "sm")
 ·refine⟨ls,rs,n4.r,G,he,n4.A,fun t0 es u' H6 bt I rp g6 A6=>?_⟩;obtain⟨pp,xs,rfl,hp,hx⟩:=Bj rp;unfold Yc at hx;obtain⟨x0,l0,rfl,e0,hx⟩:=hx;unfold Yc at hx;obtain⟨x1,l1',rfl,e1,hx⟩:=hx;unfold Yc at hx;obtain⟨x2,l2,rfl,e2,hx⟩:=hx;unfold Yc at hx;subst hx;unfold Yf at e0;subst e0;obtain⟨pz,hP,_⟩:=id n4.A;exact⟨_,.inr hp,rfl,_,_,rfl,_,_,rfl,_,_,rfl,rfl,t0,es,x1,x2,rfl,n4.growA np g6 A6,hw.tab g6 hP,bt,I,e1,e2⟩
 clear n4 hw H4;rintro Z H4 ⟨t0,es,v,y,rfl,n4,hw,bt,I,rv,ry⟩;have TO:=Tc G he bt;have TT:=TO.turn (s:=st) (fl:=fl) Pp Pq;obtain⟨hok,htop,hB⟩:=Vl I
 have hc':Can (AE (BH p st ls)) ((A9 p qs fl rs).map gB) (AV ls (rs.map AM) (2 ^ ls.length - 1)) (fun k=>decide (k∈List.range (BH p st ls).length)):=by
  have:=(Bu (FS he' _ (DV _))).1
  rw[FZ,nt]at this;rw[show(fun k=>decide (k∈List.range (BH p st ls).length))=(2 ^ (BH p st ls).length - 1).testBit by funext k;rw[DB];simp only[Zr]];exact this
 have ilen:=I.len l16;have elt:∀e∈es,e.1 < 2 ^ ls.length:=fun e h=>(I.ok e h).1
 have nm:=fun(row:List Bool) h=>Tn (row:=row) he h
 refine AX (fun Z H'=>Z=[some (.ref a),some (.ref t),some (.int (0+(i:Int))),some u,some x,some (.ref b),some (.int (AV ls (rs.map AM) (2 ^ ls.length - 1):Nat)),some v,some y,z9]/\G3 K PA PB H' t (1000 * i+600) u ls rs x (BH p st ls) (A9 p qs fl rs)/\HowAt H' b p qs fl st/\Yf K H' t0.dv v/\Yf K H' (E9 es) y) ?_ ?_ (by walk_at "sm")
 ·refine⟨_,_,n4.o,G',he',n4.A,fun t1 es1 u' H6 bt1 I1 rp g6 A6=>?_⟩;obtain⟨pp,xs,rfl,hp,hx⟩:=Bj rp;unfold Yc at hx;obtain⟨x0,l0,rfl,e0,hx⟩:=hx;unfold Yf at e0;subst e0;obtain⟨pz,hP,_⟩:=id n4.A;refine⟨_,_,.inr hp,AW (n:=0) rfl rfl,?_⟩;have n6:=n4.growA np g6 A6;have w6:=hw.tab g6 hP;have v6:=Yf.tab g6 hP _ _ rv;have y6:=Yf.tab g6 hP _ _ ry;rw[nt];generalize ((AV ls (rs.map AM) (2 ^ ls.length - 1):Nat):Int)=D at *;have e0:(true ^^ (D == D))=false:=by simp
  show if (true ^^ (D == D))=true then _ else _
  rw[e0];exact⟨rfl,n6,w6,v6,y6⟩
 clear n4 hw rv ry H4 bt I;rintro Z H4 ⟨rfl,n4,hw,rv,ry⟩;generalize AV ls (rs.map AM) (2 ^ ls.length - 1)=D at *;refine⟨t0,p,qs,fl,st,_,rv,hw,hs,Pq,r16,el,TO.ok,Zn TO.small.1 (by decide),fun v' H5 rv' s5=>?_⟩;dsimp only[AT];have n5:=n4.same s5;refine⟨es,p,qs,fl,st,_,Yf.same s5 _ _ ry,hw.same s5,Pp,l16,ilen,elt,fun es' y' H6 ry' el' m1 m2 s6=>?_⟩;dsimp only[AT];have n6:=n5.same s6;have rw6:=Yf.same s6 _ _ rv';have hard:=RX (fl:=fl) (es:=DK es) (es':=es') Pp Pq hs.1 m1 m2 hok htop hB;have hno:=fun(h:GX (BH p st ls) (A9 p qs fl rs) ((D:Nat)+1) (.tup (es'.map Ax)))=>XT hc' h (by lia)
 have hel:∀ds,Dw.tup (es'.map Ax)=.tup ds->ds.length<=100000:=fun ds e=>by
  injection e with e
  rw[<- e,ZB];lia
 clear m1 m2 rv' n5 s5 s6 H5 hw rv ry n4 H4;refine AX (fun Z H'=>Z=[some (.ref a),some (.ref t),some (.int (0+(i:Int))),some u,some x,some (.ref b),some (.int (D:Nat)),some v',some y',z9]/\G3 K PA PB H' t (1000 * i+600) u ls rs x (BH p st ls) (A9 p qs fl rs)/\Yf K H' (.tup (es'.map CJ)) y') ?_ ?_ (by walk_at "sm")
 ·obtain⟨pz,hP,_⟩:=id n6.B;refine⟨_,_,_,n6.o,G',rw6,TT.ok,TT.small,n6.B,fun H7 g7 B7=>?_⟩;rw[TT.all];have n7:=n6.growB np g7 B7;have y7:=Yf.tab g7 hP _ _ ry';refine Ak (fun z=>?_) (fun z=>⟨rfl,n7,y7⟩);have z:(0:Int) < (D:Nat):=ZR z;obtain⟨pz',hP',_⟩:=id n7.B;refine⟨_,_,_,n7.o,G',Yf.tab g7 hP _ _ rw6,TT.ok,TT.small,n7.B,fun H8 g8 B8=>?_⟩;rw[TT.less (by lia)];exact⟨rfl,n7.growB np g8 B8,Yf.tab g8 hP' _ _ y7⟩
 clear n6 rw6 ry' H6;rintro Z H6 ⟨rfl,n6,ry'⟩;have ry6:=La _ _ (by unfold BB;exact JS es') ry'
 have eu:upW (.tup (es'.map CJ))=.tup (es'.map Ax):=by
  show Dw.tup (CS (es'.map CJ))=_;rw[Mw]
 rw[eu]at ry6;refine AX (fun Z H'=>Z=[some (.ref a),some (.ref t),some (.int (0+(i:Int))),some u,some x,some (.ref b),some (.int (D:Nat)),some v',some y',z9]/\G3 K PA PB H' t (1000 * i+600) u ls rs x (BH p st ls) (A9 p qs fl rs)) ?_ ?_ (by walk_at "sm")
 ·refine⟨_,_,_,n6.o,G',ry6,hel,fun b2 H7 hb2 s7=>?_⟩;have e:=hb2.mpr hard;subst e;refine⟨_,_,_,(n6.same s7).o,G',Yo.same s7 _ _ ry6,hel,fun b3 H8 hb3 s8=>?_⟩;cases b3 with
  | true=>exact(hno (hb3.mp rfl)).elim
  | false=>exact⟨rfl,(n6.same s7).same s8⟩
 clear n6 ry6 ry' H6;rintro Z H6 ⟨rfl,n6⟩;obtain⟨ga,x1,x2,rfl,hs2,hx1,hx2⟩:=GT n6.r;obtain⟨tl,zs,rfl,hlab,hz⟩:=Bj hx1;obtain rfl:=GQ hz;obtain⟨rl,ws,rfl,hrows,hw⟩:=Bj hx2;have wl:ws.length=rs.length:=by rw[<- hw.length,Dj]
 have r0:rs[0]? = some rs[0]:=ZD r1;obtain⟨w0,hw0,rw0⟩:=hw.get (i:=0) (d:=.tup (rs[0].map Dv.bl)) (by unfold Ab;rw[ZP,r0];rfl);obtain⟨rp0,zs0,rfl,hrp0,hz0⟩:=Bj rw0;obtain rfl:=IN hz0;refine AX (fun Z H'=>∃(row:List Bool) (rp:Addr),Z=[some (.ref a),some (.ref t),some (.int (0+(i:Int))),some (.ref ga),some x,some (.ref b),some (.int (D:Nat)),some v',some y',some (.ref rp)]/\GFeed H' t (1000 * i+601)/\Yj t H6 H'/\(row∈rs\/row=List.replicate ls.length false)/\row.length=ls.length/\Yp K H' rp (row.map V.bl)) ?_ ?_ (by walk_at "sm")
 ·refine⟨smq rfl,fun q0 hq0=>?_⟩;have s7:=Yb.upd (o:=.tup [.bl false]) hq0;have gq:upd H6 q0 (.tup [.bl false]) q0=some (.tup [.bl false]):=AD;generalize upd H6 q0 (.tup [.bl false])=H7 at *;refine⟨_,.ref tl,.inr (s7.sqT hs2),rfl,ls.length,.inr ⟨_,s7.sqT hlab,by rw[ZB]⟩,?_⟩;refine Th (k:=ls.length) (.of gq) (by lia) fun r1' H8 s8 t8=>?_
  have S8:=s7.trans s8;refine⟨_,.ref rl,.inr (S8.sqT hs2),rfl,_,.ref rp0,.inr (S8.sqT hrows),AW (n:=0) rfl hw0,smq rfl,fun l hl=>?_⟩;have s9:=Yb.upd (o:=.lst [.ref r1',.ref rp0]) hl;have gl9:upd H8 l (.lst [.ref r1',.ref rp0]) l=some (.lst [.ref r1',.ref rp0]):=AD;have nl:l≠t:=(n6.F.same S8).neT hl;generalize upd H8 l (.lst [.ref r1',.ref rp0])=H9 at *;have S9:=S8.trans s9;have F9:=n6.F.same S9;refine⟨_,F9,by lia,Av (by decide) (by decide),fun d H10 d0 d1 F10 f10=>?_⟩;have gl10:H10 l=some (.lst [.ref r1',.ref rp0]):=by rw[f10 l nl];exact gl9
  have hd:d=0\/d=1:=by lia
  rcases hd with rfl | rfl
  ·exact⟨_,.ref r1',.inl (.of gl10),rfl,List.replicate ls.length false,r1',rfl,F10,S9.frm.trans (Ai f10),.inr rfl,ZBh,by rw[List.map_replicate];exact FK (Ai f10) F9.lst (s9.sqT t8)⟩
  ·exact⟨_,.ref rp0,.inl (.of gl10),rfl,rs[0],rp0,rfl,F10,S9.frm.trans (Ai f10),.inl (Zc r1),G.row _ (Zc r1),FK (Ai f10) F9.lst (S9.sqT hrp0)⟩
 rintro Z H7 ⟨row,rp,rfl,F7,f7,hrow,hrl,grp⟩;have n7:=n6.frm F7 f7;have fl:=n6.F.lst;have hs7:=FK f7 fl hs2;have hl7:=FK f7 fl hlab;have hr7:=FK f7 fl hrows;have hw7:=Yc.frm f7 fl _ _ (CW rs) hw;have done:∀H',GFeed H' t (1000 * i+601)->DQ PA H'->EW PB H'->(∃z2 z3 z4 z5 z6 z7 z8 z9:Option V,[some (V.ref a),some (.ref t),some (.int (0+(i:Int))),some (.ref ga),some x,some (.ref b),some (.int (D:Nat)),some v',some y',some (.ref rp)]=[some (.ref a),some (.ref t),z2,z3,z4,z5,z6,z7,z8,z9])/\GFeed H' t (1000 * (i+1))/\DQ PA H'/\EW PB H':=fun H' x1 x2 x3=>⟨⟨_,_,_,_,_,_,_,_,rfl⟩,x1.mono (by lia),x2,x3⟩
 refine⟨_,.ref rl,.inr hs7,rfl,rs.length,.inr ⟨_,hr7,wl.symm⟩,?_⟩;refine Ak (fun e=>?_) (fun e=>done H7 F7 n7.A n7.B);have e5:((rs.length:Nat):Int) < 5:=ZR e;refine⟨_,.ref tl,.inr hs7,rfl,_,.ref rl,.inr hs7,rfl,smq rfl,fun q1 hq1=>?_⟩;have s8:=Yb.upd (o:=.tup [.ref rp]) hq1;have gq8:upd H7 q1 (.tup [.ref rp]) q1=some (.tup [.ref rp]):=AD;generalize upd H7 q1 (.tup [.ref rp])=H8 at *;refine .inr ⟨_,_,s8.sqT hr7,.of gq8,CZ (by rw[wl];show rs.length+1<=1000;lia),fun p2 H9 s9 t9=>⟨smq rfl,fun gt hgt=>?_⟩⟩;have s10:=Yb.upd (o:=.tup [.ref tl,.ref p2]) hgt;have gg:upd H9 gt (.tup [.ref tl,.ref p2]) gt=some (.tup [.ref tl,.ref p2]):=AD;generalize upd H9 gt (.tup [.ref tl,.ref p2])=H10 at *;have S:=s8.trans (s9.trans s10);have n10:=n7.same S
 refine⟨ls,rs++[row],GK gg (S.sqT hl7) (Ba (s10.sqT t9) (by
  unfold Ab;rw[ZF];exact Yc.append (Yc.same S _ _ hw7) (AU (Ba (S.sqT grp) (Bx row)) Ad))),⟨l1,l16,by rw[ZM];lia,by rw[ZM];show rs.length+1<=16;lia,fun r hr=>?_⟩,Ku he row,n10.A,fun t1 es1 u' H11 bt1 I1 rp1 g11 A11=>?_⟩
 ·rcases Zb.mp hr with z | z
  ·exact G.row r z
  ·rw[ZO.mp z];exact hrl
 obtain⟨pp,xs,rfl,hp,hx⟩:=Bj rp1;unfold Yc at hx;obtain⟨x0,l0,rfl,e0,hx⟩:=hx;unfold Yf at e0;subst e0;refine⟨_,_,.inr hp,AW (n:=0) rfl rfl,?_⟩;have n11:=n10.growA np g11 A11;have dn:=done H11 n11.F n11.A n11.B;rw[nm row hrow];generalize ((D:Nat):Int)=y at *;have e0:(true ^^ (y == y))=false:=by simp
 show if (true ^^ (y == y))=true then _ else _
 rw[e0];exact dn
end
noncomputable abbrev DI(K:W.Frag)(n:Str)(st:Stmt)(f:Addr):Prop:=∃(oc kV dc pm cd ct:Value) (od an:Option Addr) (sl:Array (Option Value)),W.nsIn K mainGlobals n=some (some (.ref f))/\K.lookup f=some ⟨oc,od,.func (W.fnOf n n (Bq st) (BY st) (AK st) .none kV dc pm an cd ct),sl⟩/\W.codeIn K cd n=true/\W.keepIn K (.ref f)=true
structure FD(K:W.Frag)(mg:Str->Option Value)(n:Str)(st:Stmt)(ps:List Str)(f:Addr) where
 d:FuncData
 F:Fun K n n st f d
 b:Binds K d ps []
 m:mg n=some (.ref f)
theorem DI.fd{h:Heap}{mg:Str->Option Value}{n:Str}{st:Stmt}{f:Addr}{ps:List Str}(i:DI K n st f)(X:K.In h)(G:h.Ns mainGlobals mg)(hb:∀(kV doc pm:Value) (an:Option Addr) (Yy ct:Value) (us:List Value),us.length=ps.length->bindArgs (W.fnOf n n (Bq st) (BY st) (AK st) .none kV doc pm an Yy ct) ⟨us,[]⟩=pure (ps.zip us)):Nonempty (FD K mg n st ps f):=by
 obtain⟨oc,kV,dc,pm,cd,ct,od,an,sl,a,l,c,k⟩:=i;exact⟨⟨_,DT l c k,(DT l c k).binds hb,W.mg_of X G a⟩⟩
noncomputable abbrev DM(K:W.Frag)(C:Addr)(n q:Str)(st:Stmt)(f:Addr):Prop:=∃(oc kV dc pm cd ct:Value) (od an:Option Addr) (sl:Array (Option Value)),W.findIn K (.ref C) n=some (some (.ref f))/\W.isFn K (.ref f)=true/\K.lookup f=some ⟨oc,od,.func (W.fnOf n q (Bq st) (BY st) (AK st) .none kV dc pm an cd ct),sl⟩/\W.codeIn K cd q=true/\W.keepIn K (.ref f)=true
structure FM(K:W.Frag)(C:Addr)(n q:Str)(st:Stmt)(ps:List Str)(f:Addr) where
 d:FuncData
 F:Fun K n q st f d
 b:Binds K d ps []
 m:Meth K C n f
theorem DM.fm{n:Str}{st:Stmt}{f:Addr}{ps:List Str}(i:DM K C n q st f)(hb:∀(kV doc pm:Value) (an:Option Addr) (Yy ct:Value) (us:List Value),us.length=ps.length->bindArgs (W.fnOf n q (Bq st) (BY st) (AK st) .none kV doc pm an Yy ct) ⟨us,[]⟩=pure (ps.zip us)):Nonempty (FM K C n q st ps f):=by
 obtain⟨oc,kV,dc,pm,cd,ct,od,an,sl,a,i,l,c,k⟩:=i;exact⟨⟨_,DT l c k,(DT l c k).binds hb,⟨a,i,k⟩⟩⟩
theorem all_di{n:Str}{st:Stmt}{f:Addr}{oc kV dc pm cd ct:Value}{od an:Option Addr}{sl:Array (Option Value)}(a:W.nsIn K mainGlobals n=some (some (.ref f)))(l:K.lookup f=some ⟨oc,od,.func (W.fnOf n n (Bq st) (BY st) (AK st) .none kV dc pm an cd ct),sl⟩)(c:W.codeIn K cd n=true)(k:W.keepIn K (.ref f)=true):DI K n st f:=⟨_,_,_,_,_,_,_,_,_,a,l,c,k⟩
theorem all_dm{n:Str}{st:Stmt}{f:Addr}{oc kV dc pm cd ct:Value}{od an:Option Addr}{sl:Array (Option Value)}(a:W.findIn K (.ref C) n=some (some (.ref f)))(i:W.isFn K (.ref f)=true)(l:K.lookup f=some ⟨oc,od,.func (W.fnOf n q (Bq st) (BY st) (AK st) .none kV dc pm an cd ct),sl⟩)(c:W.codeIn K cd q=true)(k:W.keepIn K (.ref f)=true):DM K C n q st f:=⟨_,_,_,_,_,_,_,_,_,a,i,l,c,k⟩
theorem all_mk {l:W.OpenLaw} {w:World} {h:Heap} {mg:Str->Option Value} {fa:Addr} (X:K.In h) (G:h.Ns mainGlobals mg) (hfa:mg "law" = some (.ref fa))
 {C_Bearing:Addr}
 {C_Reckoner:Addr}
 {f19:Addr} {oc19 kV19 dc19 pm19 ct19:Value} {od19 an19:Option Addr} {sl19:Array (Option Value)} {g19 p19:Addr} {cvs19:Array Value} {cod19:Option Addr} {csl19:Array (Option Value)}
 {f37:Addr} {oc37 kV37 dc37 pm37 ct37:Value} {od37 an37:Option Addr} {sl37:Array (Option Value)} {g37 p37:Addr} {cvs37:Array Value} {cod37:Option Addr} {csl37:Array (Option Value)}
 {f59:Addr} {oc59 kV59 dc59 pm59 cd59 ct59:Value} {od59 an59:Option Addr} {sl59:Array (Option Value)}
 {t_MOST_TREES:Tok}
 {t_MOST_WITHIN:Tok}
 {f0 f1 f2 f3 f4 f5 f6 f7 f8 f9 f10 f11 f12 f13 f14 f15 f16 f17 f18 f20 f21 f22 f23 f24 f25 f26 f27 f28 f29 f30 f31 f32 f33 f34 f35 f36 f38 f39 f40 f41 f42 f43 f44 f45 f46 f47 f48 f49 f50 f51 f52 f53 f54 f55 f56 f57 f58:Addr}
 (aC_Bearing:W.nsIn K mainGlobals "Bearing" = some (some (.ref C_Bearing)))
 (pg_Bearing:W.plainGet K C_Bearing Str.empty=true)
 (hd_Bearing:W.hasDictIn K C_Bearing=true)
 (po_Bearing:W.plainOver K C_Bearing=true)
 (sa_Bearing:W.findIn K (.ref C_Bearing) "__setattr__" = some (some (.builtin "object.__setattr__")))
 (mk_Bearing:W.makesIn K C_Bearing=true)
 (kc_Bearing:W.keepIn K (.ref C_Bearing)=true)
 (na_yeses_Bearing:W.findIn K (.ref C_Bearing) "yeses" = some none)
 (na_numbers_Bearing:W.findIn K (.ref C_Bearing) "numbers" = some none)
 (na_found_Bearing:W.findIn K (.ref C_Bearing) "found" = some none)
 (aC_Reckoner:W.nsIn K mainGlobals "Reckoner" = some (some (.ref C_Reckoner)))
 (pg_Reckoner:W.plainGet K C_Reckoner Str.empty=true)
 (hd_Reckoner:W.hasDictIn K C_Reckoner=true)
 (po_Reckoner:W.plainOver K C_Reckoner=true)
 (sa_Reckoner:W.findIn K (.ref C_Reckoner) "__setattr__" = some (some (.builtin "object.__setattr__")))
 (mk_Reckoner:W.makesIn K C_Reckoner=true)
 (kc_Reckoner:W.keepIn K (.ref C_Reckoner)=true)
 (na_labels_Reckoner:W.findIn K (.ref C_Reckoner) "labels" = some none)
 (na_yeses_Reckoner:W.findIn K (.ref C_Reckoner) "yeses" = some none)
 (na_alike_Reckoner:W.findIn K (.ref C_Reckoner) "alike" = some none)
 (na_known_Reckoner:W.findIn K (.ref C_Reckoner) "known" = some none)
 (i0:DI K "is_whole" Ic f0)
 (i1:DI K "is_below" KJ f1)
 (i2:DI K "two_to" KO f2)
 (i3:DI K "power_of" IH f3)
 (i4:DI K "is_on" IF f4)
 (i5:DI K "within" Ke f5)
 (i6:DI K "set_holding" KA f6)
 (i7:DI K "members_of" IQ f7)
 (i8:DM K C_Reckoner "__init__" "Reckoner.__init__" Jc f8)
 (i9:DM K C_Reckoner "everything" "Reckoner.everything" HX f9)
 (i10:DM K C_Reckoner "has_one_label" "Reckoner.has_one_label" JK f10)
 (i11:DM K C_Reckoner "label_of" "Reckoner.label_of" HP f11)
 (i12:DM K C_Reckoner "left_of" "Reckoner.left_of" JW f12)
 (i13:DM K C_Reckoner "fewest_among" "Reckoner.fewest_among" Ib f13)
 (i14:DM K C_Reckoner "fewest_reckoned" "Reckoner.fewest_reckoned" JY f14)
 (i15:DM K C_Reckoner "parting" "Reckoner.parting" Je f15)
 (i16:DM K C_Reckoner "worst_behind" "Reckoner.worst_behind" Jz f16)
 (i17:DM K C_Reckoner "harder_left" "Reckoner.harder_left" Jq f17)
 (i18:DM K C_Reckoner "harder_lefts" "Reckoner.harder_lefts" Jo f18)
 (a19:W.findIn K (.ref C_Reckoner) "first_question" = some (some (.ref f19)))
 (i19:W.isFn K (.ref f19)=true)
 (l19:K.lookup f19=some ⟨oc19,od19,.func (W.fnOf "first_question" "Reckoner.first_question" (Bq Ch) (BY Ch) (AK Ch) .none kV19 dc19 pm19 an19 (.ref g19) ct19),sl19⟩)
 (c19:W.codeIn K (.ref g19) "Reckoner.first_question" = true)
 (k19:W.keepIn K (.ref f19)=true)
 (lc19:K.lookup g19=some ⟨.type "code",cod19,.fields cvs19,csl19⟩)
 (pv19:cvs19[11]? = some (.ref p19))
 (gh19:W.codeHdIn K g19 p19=true)
 (gt19:h.get? p19=some (W.tabObj #[]))
 (i20:DI K "members_where" Ix f20)
 (i21:DI K "is_pair" He f21)
 (i22:DI K "ends" IL f22)
 (i23:DI K "refuse_without_end" KB f23)
 (i24:DI K "first_unparted" Io f24)
 (i25:DI K "fewest" KN f25)
 (i26:DI K "best_tree" Gx f26)
 (i27:DI K "hard_paper" Jl f27)
 (i28:DI K "lets_hard" Jn f28)
 (i29:DI K "is_entry" Hk f29)
 (i30:DI K "are_things" HW f30)
 (i31:DM K C_Bearing "__init__" "Bearing.__init__" JQ f31)
 (i32:DM K C_Bearing "bears_all" "Bearing.bears_all" Jw f32)
 (i33:DM K C_Bearing "bears" "Bearing.bears" Ho f33)
 (i34:DM K C_Bearing "has_within" "Bearing.has_within" Ia f34)
 (i35:DM K C_Bearing "greatest_within" "Bearing.greatest_within" Ja f35)
 (i36:DI K "keeps_to" Hg f36)
 (a37:W.nsIn K mainGlobals "is_tree" = some (some (.ref f37)))
 (l37:K.lookup f37=some ⟨oc37,od37,.func (W.fnOf "is_tree" "is_tree" (Bq Ct) (BY Ct) (AK Ct) .none kV37 dc37 pm37 an37 (.ref g37) ct37),sl37⟩)
 (c37:W.codeIn K (.ref g37) "is_tree" = true)
 (k37:W.keepIn K (.ref f37)=true)
 (lc37:K.lookup g37=some ⟨.type "code",cod37,.fields cvs37,csl37⟩)
 (pv37:cvs37[11]? = some (.ref p37))
 (gh37:W.codeHdIn K g37 p37=true)
 (gt37:h.get? p37=some (W.tabObj #[]))
 (i38:DI K "has_tree_form" Hy f38)
 (i39:DI K "trees_within" HK f39)
 (i40:DI K "is_too_large_tree" Hj f40)
 (i41:DI K "asked" KZ f41)
 (i42:DI K "lets_tree" Ih f42)
 (i43:DI K "comes_home" Iq f43)
 (i44:DI K "_law_feed" JU f44)
 (i45:DI K "_law_draw" Ie f45)
 (i46:DI K "_law_table" IT f46)
 (i47:DI K "_law_table_game" KH f47)
 (i48:DI K "_law_class" Il f48)
 (i49:DI K "_law_class_game" KL f49)
 (i50:DI K "_law_picks" Hl f50)
 (i51:DI K "_law_any_game" Jr f51)
 (i52:DI K "_law_game" G6 f52)
 (i53:DI K "_law_pair" JJ f53)
 (i54:DI K "_law_ending" Iv f54)
 (i55:DI K "_law_order" J9 f55)
 (i56:DI K "_law_turned_game" IP f56)
 (i57:DI K "_law_turned_tree" J2 f57)
 (i58:DI K "_law_turned_paper" Kc f58)
 (a59:W.nsIn K mainGlobals "law" = some (some (.ref f59)))
 (l59:K.lookup f59=some ⟨oc59,od59,.func (W.fnOf "law" "law" (Bq C7) (BY C7) (AK C7) .none kV59 dc59 pm59 an59 cd59 ct59),sl59⟩)
 (c59:W.codeIn K cd59 "law" = true)
 (k59:W.keepIn K (.ref f59)=true)
 (z_all:W.nsIn K mainGlobals "all" = some none)
 (z_any:W.nsIn K mainGlobals "any" = some none)
 (z_bool:W.nsIn K mainGlobals "bool" = some none)
 (z_enumerate:W.nsIn K mainGlobals "enumerate" = some none)
 (z_int:W.nsIn K mainGlobals "int" = some none)
 (z_isinstance:W.nsIn K mainGlobals "isinstance" = some none)
 (z_len:W.nsIn K mainGlobals "len" = some none)
 (z_list:W.nsIn K mainGlobals "list" = some none)
 (z_max:W.nsIn K mainGlobals "max" = some none)
 (z_min:W.nsIn K mainGlobals "min" = some none)
 (z_range:W.nsIn K mainGlobals "range" = some none)
 (z_set:W.nsIn K mainGlobals "set" = some none)
 (z_sorted:W.nsIn K mainGlobals "sorted" = some none)
 (z_sum:W.nsIn K mainGlobals "sum" = some none)
 (z_tuple:W.nsIn K mainGlobals "tuple" = some none)
 (c_MOST_TREES:W.nsIn K mainGlobals "MOST_TREES" = some (some (.int 2000 t_MOST_TREES)))
 (c_MOST_WITHIN:W.nsIn K mainGlobals "MOST_WITHIN" = some (some (.int 16 t_MOST_WITHIN)))
 (hnt:W.noTabs K=true)
 (np_0:p19≠p37) :
 ∃(fd:FuncData) (ts:List (Addr × Addr)),W.TabsAt ts h/\W.noTabs K=true/\(∀(s:Shared) (v:Value),BindsTo s fd ⟨[v],[]⟩ [("_law_script",v)])/\∀base:Heap,K.In base->base.Ns mainGlobals mg->BMn mg base->FnOk l.prog w K mg base CX0 97 fa fd ["_law_script"] (Gc K (ts.map (·.2))):=by
 have e:=hfa.symm.trans (W.mg_of X G a59);cases e;obtain⟨Q0⟩:=i0.fd X G (ps:=["thing"]) fun _ _ _ _ _ _=>L2.on1 (fun _=>rfl)
 obtain⟨Q1⟩:=i1.fd X G (ps:=["bound","thing"]) fun _ _ _ _ _ _=>L2.on2 (fun _ _=>rfl)
 obtain⟨Q2⟩:=i2.fd X G (ps:=["n"]) fun _ _ _ _ _ _=>L2.on1 (fun _=>rfl)
 obtain⟨Q3⟩:=i3.fd X G (ps:=["base","times"]) fun _ _ _ _ _ _=>L2.on2 (fun _ _=>rfl)
 obtain⟨Q4⟩:=i4.fd X G (ps:=["place","switch"]) fun _ _ _ _ _ _=>L2.on2 (fun _ _=>rfl)
 obtain⟨Q5⟩:=i5.fd X G (ps:=["subset","other"]) fun _ _ _ _ _ _=>L2.on2 (fun _ _=>rfl)
 obtain⟨Q6⟩:=i6.fd X G (ps:=["members"]) fun _ _ _ _ _ _=>L2.on1 (fun _=>rfl)
 obtain⟨Q7⟩:=i7.fd X G (ps:=["subset"]) fun _ _ _ _ _ _=>L2.on1 (fun _=>rfl)
 obtain⟨Q8⟩:=i8.fm (ps:=["self","game"]) fun _ _ _ _ _ _=>L2.on2 (fun _ _=>rfl)
 obtain⟨Q9⟩:=i9.fm (ps:=["self"]) fun _ _ _ _ _ _=>L2.on1 (fun _=>rfl)
 obtain⟨Q10⟩:=i10.fm (ps:=["self","things"]) fun _ _ _ _ _ _=>L2.on2 (fun _ _=>rfl)
 obtain⟨Q11⟩:=i11.fm (ps:=["self","things"]) fun _ _ _ _ _ _=>L2.on2 (fun _ _=>rfl)
 obtain⟨Q12⟩:=i12.fm (ps:=["self","things","question","answer"]) fun _ _ _ _ _ _=>L2.on4 (fun _ _ _ _=>rfl)
 obtain⟨Q13⟩:=i13.fm (ps:=["self","things"]) fun _ _ _ _ _ _=>L2.on2 (fun _ _=>rfl)
 obtain⟨Q14⟩:=i14.fm (ps:=["self","things"]) fun _ _ _ _ _ _=>L2.on2 (fun _ _=>rfl)
 obtain⟨Q15⟩:=i15.fm (ps:=["self","things"]) fun _ _ _ _ _ _=>L2.on2 (fun _ _=>rfl)
 obtain⟨Q16⟩:=i16.fm (ps:=["self","things","question"]) fun _ _ _ _ _ _=>L2.on3 (fun _ _ _=>rfl)
 obtain⟨Q17⟩:=i17.fm (ps:=["self","things","question"]) fun _ _ _ _ _ _=>L2.on3 (fun _ _ _=>rfl)
 obtain⟨Q18⟩:=i18.fm (ps:=["self","things"]) fun _ _ _ _ _ _=>L2.on2 (fun _ _=>rfl)
 have F19:=DT (st:=Ch) l19 c19 k19;have b19:=F19.binds (ps:=["self","things"]) fun _ _ _ _ _ _=>L2.on2 (fun _ _=>rfl)
 obtain⟨Q20⟩:=i20.fd X G (ps:=["wanted","values"]) fun _ _ _ _ _ _=>L2.on2 (fun _ _=>rfl)
 obtain⟨Q21⟩:=i21.fd X G (ps:=["thing"]) fun _ _ _ _ _ _=>L2.on1 (fun _=>rfl)
 obtain⟨Q22⟩:=i22.fd X G (ps:=["game"]) fun _ _ _ _ _ _=>L2.on1 (fun _=>rfl)
 obtain⟨Q23⟩:=i23.fd X G (ps:=["game"]) fun _ _ _ _ _ _=>L2.on1 (fun _=>rfl)
 obtain⟨Q24⟩:=i24.fd X G (ps:=["game"]) fun _ _ _ _ _ _=>L2.on1 (fun _=>rfl)
 obtain⟨Q25⟩:=i25.fd X G (ps:=["game"]) fun _ _ _ _ _ _=>L2.on1 (fun _=>rfl)
 obtain⟨Q26⟩:=i26.fd X G (ps:=["reckoner","things"]) fun _ _ _ _ _ _=>L2.on2 (fun _ _=>rfl)
 obtain⟨Q27⟩:=i27.fd X G (ps:=["reckoner","things"]) fun _ _ _ _ _ _=>L2.on2 (fun _ _=>rfl)
 obtain⟨Q28⟩:=i28.fd X G (ps:=["game","d","thing"]) fun _ _ _ _ _ _=>L2.on3 (fun _ _ _=>rfl)
 obtain⟨Q29⟩:=i29.fd X G (ps:=["game","thing"]) fun _ _ _ _ _ _=>L2.on2 (fun _ _=>rfl)
 obtain⟨Q30⟩:=i30.fd X G (ps:=["many","thing"]) fun _ _ _ _ _ _=>L2.on2 (fun _ _=>rfl)
 obtain⟨Q31⟩:=i31.fm (ps:=["self","game","entries"]) fun _ _ _ _ _ _=>L2.on3 (fun _ _ _=>rfl)
 obtain⟨Q32⟩:=i32.fm (ps:=["self"]) fun _ _ _ _ _ _=>L2.on1 (fun _=>rfl)
 obtain⟨Q33⟩:=i33.fm (ps:=["self","things","number","yes"]) fun _ _ _ _ _ _=>L2.on4 (fun _ _ _ _=>rfl)
 obtain⟨Q34⟩:=i34.fm (ps:=["self","things","number"]) fun _ _ _ _ _ _=>L2.on3 (fun _ _ _=>rfl)
 obtain⟨Q35⟩:=i35.fm (ps:=["self","things"]) fun _ _ _ _ _ _=>L2.on2 (fun _ _=>rfl)
 obtain⟨Q36⟩:=i36.fd X G (ps:=["has_form","parts_within","is_beyond","thing"]) fun _ _ _ _ _ _=>L2.on4 (fun _ _ _ _=>rfl)
 have F37:=DT (st:=Ct) l37 c37 k37;have b37:=F37.binds (ps:=["game","thing"]) fun _ _ _ _ _ _=>L2.on2 (fun _ _=>rfl)
 obtain⟨Q38⟩:=i38.fd X G (ps:=["questions","thing"]) fun _ _ _ _ _ _=>L2.on2 (fun _ _=>rfl)
 obtain⟨Q39⟩:=i39.fd X G (ps:=["tree"]) fun _ _ _ _ _ _=>L2.on1 (fun _=>rfl)
 obtain⟨Q40⟩:=i40.fd X G (ps:=["many","depth"]) fun _ _ _ _ _ _=>L2.on2 (fun _ _=>rfl)
 obtain⟨Q41⟩:=i41.fd X G (ps:=["game","tree","thing"]) fun _ _ _ _ _ _=>L2.on3 (fun _ _ _=>rfl)
 obtain⟨Q42⟩:=i42.fd X G (ps:=["game","d","thing"]) fun _ _ _ _ _ _=>L2.on3 (fun _ _ _=>rfl)
 obtain⟨Q43⟩:=i43.fd X G (ps:=["game","d","tree","hidden"]) fun _ _ _ _ _ _=>L2.on4 (fun _ _ _ _=>rfl)
 obtain⟨Q44⟩:=i44.fd X G (ps:=["_law_script"]) fun _ _ _ _ _ _=>L2.on1 (fun _=>rfl)
 obtain⟨Q45⟩:=i45.fd X G (ps:=["_law_feed_here","_law_many"]) fun _ _ _ _ _ _=>L2.on2 (fun _ _=>rfl)
 obtain⟨Q46⟩:=i46.fd X G (ps:=["_law_feed_here","_law_n"]) fun _ _ _ _ _ _=>L2.on2 (fun _ _=>rfl)
 obtain⟨Q47⟩:=i47.fd X G (ps:=["_law_table_here"]) fun _ _ _ _ _ _=>L2.on1 (fun _=>rfl)
 obtain⟨Q48⟩:=i48.fd X G (ps:=["_law_feed_here","_law_n","_law_many"]) fun _ _ _ _ _ _=>L2.on3 (fun _ _ _=>rfl)
 obtain⟨Q49⟩:=i49.fd X G (ps:=["_law_tables"]) fun _ _ _ _ _ _=>L2.on1 (fun _=>rfl)
 obtain⟨Q50⟩:=i50.fd X G (ps:=["_law_feed_here"]) fun _ _ _ _ _ _=>L2.on1 (fun _=>rfl)
 obtain⟨Q51⟩:=i51.fd X G (ps:=["_law_feed_here"]) fun _ _ _ _ _ _=>L2.on1 (fun _=>rfl)
 obtain⟨Q52⟩:=i52.fd X G (ps:=["_law_feed_here"]) fun _ _ _ _ _ _=>L2.on1 (fun _=>rfl)
 obtain⟨Q53⟩:=i53.fd X G (ps:=["_law_game_here"]) fun _ _ _ _ _ _=>L2.on1 (fun _=>rfl)
 obtain⟨Q54⟩:=i54.fd X G (ps:=["_law_game_here"]) fun _ _ _ _ _ _=>L2.on1 (fun _=>rfl)
 obtain⟨Q55⟩:=i55.fd X G (ps:=["_law_feed_here","_law_many"]) fun _ _ _ _ _ _=>L2.on2 (fun _ _=>rfl)
 obtain⟨Q56⟩:=i56.fd X G (ps:=["_law_feed_here","_law_game_here"]) fun _ _ _ _ _ _=>L2.on2 (fun _ _=>rfl)
 obtain⟨Q57⟩:=i57.fd X G (ps:=["_law_tree","_law_how"]) fun _ _ _ _ _ _=>L2.on2 (fun _ _=>rfl)
 obtain⟨Q58⟩:=i58.fd X G (ps:=["_law_paper","_law_how"]) fun _ _ _ _ _ _=>L2.on2 (fun _ _=>rfl)
 have F59:=DT (st:=C7) l59 c59 k59;have b59:=F59.binds (ps:=["_law_script"]) fun _ _ _ _ _ _=>L2.on1 (fun _=>rfl)
 let T:Txt K mg:={ C_Bearing:=C_Bearing,mC_Bearing:=W.mg_of X G aC_Bearing,cl_Bearing:=⟨pg_Bearing,hd_Bearing,po_Bearing,sa_Bearing⟩,na_Bearing_yeses:=na_yeses_Bearing,na_Bearing_numbers:=na_numbers_Bearing,na_Bearing_found:=na_found_Bearing,C_Reckoner:=C_Reckoner,mC_Reckoner:=W.mg_of X G aC_Reckoner,cl_Reckoner:=⟨pg_Reckoner,hd_Reckoner,po_Reckoner,sa_Reckoner⟩,na_Reckoner_labels:=na_labels_Reckoner,na_Reckoner_yeses:=na_yeses_Reckoner,na_Reckoner_alike:=na_alike_Reckoner,na_Reckoner_known:=na_known_Reckoner,z56:=⟨f0,Q0.d,Q0.F,Q0.b,Q0.m⟩,z57:=⟨f1,Q1.d,Q1.F,Q1.b,Q1.m⟩,z65:=⟨f2,Q2.d,Q2.F,Q2.b,Q2.m⟩,z59:=⟨f3,Q3.d,Q3.F,Q3.b,Q3.m⟩,z66:=⟨f4,Q4.d,Q4.F,Q4.b,Q4.m⟩,z64:=⟨f5,Q5.d,Q5.F,Q5.b,Q5.m⟩,z39:=⟨f6,Q6.d,Q6.F,Q6.b,Q6.m⟩,z45:=⟨f7,Q7.d,Q7.F,Q7.b,Q7.m⟩,z30:=⟨f8,Q8.d,Q8.F,Q8.b,Q8.m⟩,mk_Reckoner:=⟨mk_Reckoner,Q8.m.at_,Q8.m.fn,kc_Reckoner⟩,z18:=⟨f9,Q9.d,Q9.F,Q9.b,Q9.m⟩,z13:=⟨f10,Q10.d,Q10.F,Q10.b,Q10.m⟩,z21:=⟨f11,Q11.d,Q11.F,Q11.b,Q11.m⟩,z24:=⟨f12,Q12.d,Q12.F,Q12.b,Q12.m⟩,z15:=⟨f13,Q13.d,Q13.F,Q13.b,Q13.m⟩,z10:=⟨f14,Q14.d,Q14.F,Q14.b,Q14.m⟩,z22:=⟨f15,Q15.d,Q15.F,Q15.b,Q15.m⟩,z14:=⟨f16,Q16.d,Q16.F,Q16.b,Q16.m⟩,z17:=⟨f17,Q17.d,Q17.F,Q17.b,Q17.m⟩,z16:=⟨f18,Q18.d,Q18.F,Q18.b,Q18.m⟩,g_z12:=g19,p_z12:=p19,gc_z12:=rfl,gh_z12:=gh19,z12:=⟨f19,_,F19,b19,⟨a19,i19,k19⟩⟩,z35:=⟨f20,Q20.d,Q20.F,Q20.b,Q20.m⟩,z62:=⟨f21,Q21.d,Q21.F,Q21.b,Q21.m⟩,z68:=⟨f22,Q22.d,Q22.F,Q22.b,Q22.m⟩,z23:=⟨f23,Q23.d,Q23.F,Q23.b,Q23.m⟩,z34:=⟨f24,Q24.d,Q24.F,Q24.b,Q24.m⟩,z63:=⟨f25,Q25.d,Q25.F,Q25.b,Q25.m⟩,z49:=⟨f26,Q26.d,Q26.F,Q26.b,Q26.m⟩,z47:=⟨f27,Q27.d,Q27.F,Q27.b,Q27.m⟩,z52:=⟨f28,Q28.d,Q28.F,Q28.b,Q28.m⟩,z58:=⟨f29,Q29.d,Q29.F,Q29.b,Q29.m⟩,z42:=⟨f30,Q30.d,Q30.F,Q30.b,Q30.m⟩,z33:=⟨f31,Q31.d,Q31.F,Q31.b,Q31.m⟩,mk_Bearing:=⟨mk_Bearing,Q31.m.at_,Q31.m.fn,kc_Bearing⟩,z20:=⟨f32,Q32.d,Q32.F,Q32.b,Q32.m⟩,z32:=⟨f33,Q33.d,Q33.F,Q33.b,Q33.m⟩,z19:=⟨f34,Q34.d,Q34.F,Q34.b,Q34.m⟩,z11:=⟨f35,Q35.d,Q35.F,Q35.b,Q35.m⟩,z60:=⟨f36,Q36.d,Q36.F,Q36.b,Q36.m⟩,g_z61:=g37,p_z61:=p37,gc_z61:=rfl,gh_z61:=gh37,z61:=⟨f37,_,F37,b37,W.mg_of X G a37⟩,z36:=⟨f38,Q38.d,Q38.F,Q38.b,Q38.m⟩,z38:=⟨f39,Q39.d,Q39.F,Q39.b,Q39.m⟩,z25:=⟨f40,Q40.d,Q40.F,Q40.b,Q40.m⟩,z67:=⟨f41,Q41.d,Q41.F,Q41.b,Q41.m⟩,z51:=⟨f42,Q42.d,Q42.F,Q42.b,Q42.m⟩,z41:=⟨f43,Q43.d,Q43.F,Q43.b,Q43.m⟩,z50:=⟨f44,Q44.d,Q44.F,Q44.b,Q44.m⟩,z54:=⟨f45,Q45.d,Q45.F,Q45.b,Q45.m⟩,z48:=⟨f46,Q46.d,Q46.F,Q46.b,Q46.m⟩,z29:=⟨f47,Q47.d,Q47.F,Q47.b,Q47.m⟩,z43:=⟨f48,Q48.d,Q48.F,Q48.b,Q48.m⟩,z31:=⟨f49,Q49.d,Q49.F,Q49.b,Q49.m⟩,z44:=⟨f50,Q50.d,Q50.F,Q50.b,Q50.m⟩,z37:=⟨f51,Q51.d,Q51.F,Q51.b,Q51.m⟩,z55:=⟨f52,Q52.d,Q52.F,Q52.b,Q52.m⟩,z53:=⟨f53,Q53.d,Q53.F,Q53.b,Q53.m⟩,z40:=⟨f54,Q54.d,Q54.F,Q54.b,Q54.m⟩,z46:=⟨f55,Q55.d,Q55.F,Q55.b,Q55.m⟩,z27:=⟨f56,Q56.d,Q56.F,Q56.b,Q56.m⟩,z28:=⟨f57,Q57.d,Q57.F,Q57.b,Q57.m⟩,z26:=⟨f58,Q58.d,Q58.F,Q58.b,Q58.m⟩,f_law:=fa,d_law:=_,F_law:=F59,b_law:=b59,m_law:=W.mg_of X G a59,z_all:=W.mg_none_of X G z_all,z_any:=W.mg_none_of X G z_any,z_bool:=W.mg_none_of X G z_bool,z_enumerate:=W.mg_none_of X G z_enumerate,z_int:=W.mg_none_of X G z_int,z_isinstance:=W.mg_none_of X G z_isinstance,z_len:=W.mg_none_of X G z_len,z_list:=W.mg_none_of X G z_list,z_max:=W.mg_none_of X G z_max,z_min:=W.mg_none_of X G z_min,z_range:=W.mg_none_of X G z_range,z_set:=W.mg_none_of X G z_set,z_sorted:=W.mg_none_of X G z_sorted,z_sum:=W.mg_none_of X G z_sum,z_tuple:=W.mg_none_of X G z_tuple,t_MOST_TREES:=t_MOST_TREES,c_MOST_TREES:=W.mg_of X G c_MOST_TREES,t_MOST_WITHIN:=t_MOST_WITHIN,c_MOST_WITHIN:=W.mg_of X G c_MOST_WITHIN,np_0:=np_0 };exact⟨W.fnOf "law" "law" (Bq C7) (BY C7) (AK C7) .none kV59 dc59 pm59 an59 cd59 ct59,[(g19,p19),(g37,p37)],List.forall_mem_cons.mpr ⟨⟨W.codeHd_of_K X gh19,gt19⟩,List.forall_mem_cons.mpr ⟨⟨W.codeHd_of_K X gh37,gt37⟩,fun _ z=>nomatch z⟩⟩,hnt,fun s v=>.of_eq rfl,fun base _ _ B=>Vc T B⟩
theorem walk {l:W.OpenLaw} {q:Program} {loose:List Str} {XP:(Str->Option Value)->Heap->Prop} {YP:World->Heap->Prop} {d:DefRec} {K:Params->W.Frag} (hn:l.most=some 63) (hdf:d.params.defaults=[])
 (hY:∀(w:World) (h:Heap),YP w h->(K w.params).In h)
 (F:∀(w:World) (mg:Str->Option Value) (fa:Addr) (h:Heap),YP w h->(K w.params).In h->h.Ns mainGlobals mg->mg d.name=some (.ref fa) ->
   ∃(fd:FuncData) (ts:List (Addr × Addr)),W.TabsAt ts h/\W.noTabs (K w.params)=true/\(∀(s:Shared) (u:Value),BindsTo s fd ⟨[u],[]⟩ [("_law_script",u)])/\∀base:Heap,(K w.params).In base->base.Ns mainGlobals mg->BMn mg base->FnOk l.prog w (K w.params) mg base CX0 97 fa fd ["_law_script"] (Gc (K w.params) (ts.map (·.2)))) :
 W.WalkO q loose XP YP l.row.toRowW d [] (fun f vs=>PySem.call f vs) :=
 L2.walk_ofT (n:=63) (k:=97) (x:="_law_script") (sp:=fun w ts=>Gc (K w.params) ts) hn (by decide) hdf ⟨rfl,by decide,by decide,rfl⟩ hY F (fun _ _ a ns ts hl hO hS=>⟨a,ns,rfl,hS,hl,hO,fun _=>rfl⟩)
end Mine
structure PySem.W.Fast:Prop where(tw15863756857292881900 tw12418350316346213429 tw13292597451518884858 tw11330563956008465488 tw11537316667366958065 tw9011660585558349180 tw15290305527991973917 tw12407300559525275393 tw8307722389047761420 tw7332040622111600870 tw7441357820976010 tw13189330916499928643 tw3335827058280723182 tw7008646017111961069 tw12370810715231533870 tw9480213949398979246 tw15929567821606731092 tw17006246328966598922 tw4196916946006828145 tw138894378183382327 tw13561165949356372520 tw15106397333068375481 tw10074403802908045002 tw7859669665861942629 tw8554600916019606613 tw6761917046188918233 tw17589210613693877973 tw10876146366329368416 tw17842258721867765655 tw8587025523357441029 tw1216737994057239310 tw4383206943175465302 tw7260445706306878373 tw2748533850165317792 tw9736827073274379701 tw5108528424375882248 tw855944469075553138 tw17730313678942122941 tw6213083982716450446 tw9172466270864781392 tw1630012958509300249 tw17091973515628950517 tw5662677039909651260 tw15785436649599676584 tw18057677637453287755 tw2118897949765216658 tw15025713241811498784 tw11803770873019047154 tw17611446172852845811 tw15902627003201720755 tw10685148888283315289 tw8054963180137211496 tw4764402528174161473 tw8201534586514314770 tw17981878450194157457 tw5279052390383491842 tw16134871962100430649 tw15161756829683823340 tw397113801613802156 tw817190034495219751 tw543187338184334204 tw10696765793794342117 tw827702934044548738 tw5242706109924235008 tw877605626793142852 tw14115612936710159101 tw5119837638608589102 tw12097620847266659669 tw9255040345196568942 tw6068316104228605651 tw4157810463246202910 tw11880446087613135273 tw10339310388135132963 tw11153991418037687283 tw7607510671700033364 tw15056983247489292846 tw1820708951268426919 tw5320466948422031458 tw12452797274338822142 tw3536913201543241431 tw939957331616650561 tw14793903532568570005 tw5307258796710827059 tw4157433803834369512 tw7732941248387859154 tw14893217152214765005 tw17195277595738203746 tw4945254153533253502 tw17303488226666698407 tw16023634997029115883 tw14310700204335914214 tw12577922662064374373 tw13201377281628036547 tw15893449148019983007 tw18041012780138664635 tw7177216220712903528 tw1659405380936672271 tw885569831220330227 tw1574785961216118129 tw8153559736030888430 tw18221151489213482707 tw2419914971247675700 tw1512381210135381750 tw3707480646792618498 tw202285518066802611 tw2663673564710650617 tw16671535938975270062 tw15056986436844613068 tw7857495128503466795 tw745848884889300987 tw13634559026818879086 tw1317613270615115600 tw15029304703677400921 tw13187515730150569829 tw251979330576571786 tw10190399090672228040 tw18400655588722507913 tw15536239598224686111 tw1337432883440709994 tw14734926395881832565 tw14658457242635582987 tw13393658172840115352 tw11311302717469688965 tw5594230683816336756 tw12468272135301744180 tw3735808061378328253 tw16020640556779367259 tw5061976504496251011 tw7965530610177161714 tw16086393536313406677 tw2776342980737799116 tw14040211726511544787 tw17140493451115740500 tw9013783462780610033 tw7985328656753328311:True)
open PySem PySem.W PyProof.Rows
local macro_rules | `(tactic| walk_at "k")=>`(tactic| (refine' Mine.all_di ?a ?b ?c ?d;(case a=>k_is);(case b=>k_is);(case c=>k_is);(case d=>k_is)))
local macro_rules | `(tactic| walk_at "l")=>`(tactic| (refine' Mine.all_dm ?a ?e ?b ?c ?d;(case a=>k_is);(case e=>k_is);(case b=>k_is);(case c=>k_is);(case d=>k_is)))
set_option maxRecDepth 100000 in
set_option maxHeartbeats 0 in
theorem PySem.Challenge.cw_flips_k53_whole_called_otherwise_holds : PySem.Challenge.rw_flips_k53_whole_called_otherwise.Holds := by
 w_on;o_law;k_head;(case hw=>w_witness2)
 k_fill
 refine Mine.walk (l:=PySem.Challenge.rw_flips_k53_whole_called_otherwise) rfl rfl (fun w h Y=>PySem.W.km_in_of Y) ?F
 case F =>
  intro w mg fa h Y KX G hmg
  refine' Mine.all_mk KX G hmg ?aC_Bearing ?pg_Bearing ?hd_Bearing ?po_Bearing ?sa_Bearing ?mk_Bearing ?kc_Bearing ?na_yeses_Bearing ?na_numbers_Bearing ?na_found_Bearing ?aC_Reckoner ?pg_Reckoner ?hd_Reckoner ?po_Reckoner ?sa_Reckoner ?mk_Reckoner ?kc_Reckoner ?na_labels_Reckoner ?na_yeses_Reckoner ?na_alike_Reckoner ?na_known_Reckoner ?i0 ?i1 ?i2 ?i3 ?i4 ?i5 ?i6 ?i7 ?i8 ?i9 ?i10 ?i11 ?i12 ?i13 ?i14 ?i15 ?i16 ?i17 ?i18 ?a19 ?i19 ?l19 ?c19 ?k19 ?lc19 ?pv19 ?gh19 ?gt19 ?i20 ?i21 ?i22 ?i23 ?i24 ?i25 ?i26 ?i27 ?i28 ?i29 ?i30 ?i31 ?i32 ?i33 ?i34 ?i35 ?i36 ?a37 ?l37 ?c37 ?k37 ?lc37 ?pv37 ?gh37 ?gt37 ?i38 ?i39 ?i40 ?i41 ?i42 ?i43 ?i44 ?i45 ?i46 ?i47 ?i48 ?i49 ?i50 ?i51 ?i52 ?i53 ?i54 ?i55 ?i56 ?i57 ?i58 ?a59 ?l59 ?c59 ?k59 ?z_all ?z_any ?z_bool ?z_enumerate ?z_int ?z_isinstance ?z_len ?z_list ?z_max ?z_min ?z_range ?z_set ?z_sorted ?z_sum ?z_tuple ?c_MOST_TREES ?c_MOST_WITHIN ?hnt ?np_0
  (case aC_Bearing | pg_Bearing | hd_Bearing | po_Bearing | sa_Bearing | mk_Bearing | kc_Bearing | na_yeses_Bearing | na_numbers_Bearing | na_found_Bearing | aC_Reckoner | pg_Reckoner | hd_Reckoner | po_Reckoner | sa_Reckoner | mk_Reckoner | kc_Reckoner | na_labels_Reckoner | na_yeses_Reckoner | na_alike_Reckoner | na_known_Reckoner | a19 | i19 | l19 | c19 | k19 | lc19 | a37 | l37 | c37 | k37 | lc37 | a59 | l59 | c59 | k59 | z_all | z_any | z_bool | z_enumerate | z_int | z_isinstance | z_len | z_list | z_max | z_min | z_range | z_set | z_sorted | z_sum | z_tuple | c_MOST_TREES | c_MOST_WITHIN=>k_is)
  (case i0=>walk_at "k")
  (case i1=>walk_at "k")
  (case i2=>walk_at "k")
  (case i3=>walk_at "k")
  (case i4=>walk_at "k")
  (case i5=>walk_at "k")
  (case i6=>walk_at "k")
  (case i7=>walk_at "k")
  (case i8=>walk_at "l")
  (case i9=>walk_at "l")
  (case i10=>walk_at "l")
  (case i11=>walk_at "l")
  (case i12=>walk_at "l")
  (case i13=>walk_at "l")
  (case i14=>walk_at "l")
  (case i15=>walk_at "l")
  (case i16=>walk_at "l")
  (case i17=>walk_at "l")
  (case i18=>walk_at "l")
  (case pv19=>rfl)
  (case gh19=>kernel_rfl)
  (case gt19=>exact PySem.W.km_tabs_of Y _ (by k_mem))
  (case i20=>walk_at "k")
  (case i21=>walk_at "k")
  (case i22=>walk_at "k")
  (case i23=>walk_at "k")
  (case i24=>walk_at "k")
  (case i25=>walk_at "k")
  (case i26=>walk_at "k")
  (case i27=>walk_at "k")
  (case i28=>walk_at "k")
  (case i29=>walk_at "k")
  (case i30=>walk_at "k")
  (case i31=>walk_at "l")
  (case i32=>walk_at "l")
  (case i33=>walk_at "l")
  (case i34=>walk_at "l")
  (case i35=>walk_at "l")
  (case i36=>walk_at "k")
  (case pv37=>rfl)
  (case gh37=>kernel_rfl)
  (case gt37=>exact PySem.W.km_tabs_of Y _ (by k_mem))
  (case i38=>walk_at "k")
  (case i39=>walk_at "k")
  (case i40=>walk_at "k")
  (case i41=>walk_at "k")
  (case i42=>walk_at "k")
  (case i43=>walk_at "k")
  (case i44=>walk_at "k")
  (case i45=>walk_at "k")
  (case i46=>walk_at "k")
  (case i47=>walk_at "k")
  (case i48=>walk_at "k")
  (case i49=>walk_at "k")
  (case i50=>walk_at "k")
  (case i51=>walk_at "k")
  (case i52=>walk_at "k")
  (case i53=>walk_at "k")
  (case i54=>walk_at "k")
  (case i55=>walk_at "k")
  (case i56=>walk_at "k")
  (case i57=>walk_at "k")
  (case i58=>walk_at "k")
  (case hnt=>kernel_rfl)
  (case np_0=>first | decide | exact fun z=>nomatch z)
