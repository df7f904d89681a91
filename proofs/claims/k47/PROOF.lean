import PyProof.Rows.All
import Wide.All
import OpenK.AllK
import Wide.FinOn
import Lean
import PyProof.EqAt
import PyProof.EqKinds
import PyProof.TupleCall
import PyProof.NeKinds
import PyProof.ReprRoads
import PyProof.ReprBulk
import PyProof.Draws
import PyProof.EnumMake
import KE.BitLaws
import PyProof.ListIndex
import PyProof.AttrMissHeap
import PyProof.DictUpdate
import KE.KDictOf
import PyProof.FactsAll.enumerate_1
import PyProof.FactsAll.tuple_2
import PyProof.ListMulRoad
import PyProof.ListRange
import PyProof.FactsAll.list_3
import PyProof.Rows.SortWalk
import PyProof.Rows.MinMaxN
import KE.KEqDict
import KE.KDictSum
import PyProof.WalksMore
import PyProof.Rows.SetFrom
import PyProof.SetRoads
import PyProof.FactsAll.set_1
import KE.KItemsList
import KE.KSortTup
import KE.KLam
import PyProof.FactsAll.dict_1
import PyProof.StrBlockH
import PyProof.StrLawsTight
import PyProof.StrLawsOccR
import PyProof.StrLawsJoin
import PyProof.StationsW
import PyProof.NsDelKeeps
import PyProof.RulesAs
import PyProof.ExcInit
import KE.KTryMore
import PyProof.ExcClass3
import PyProof.ExcBaseAll.ValueError
import OpenK.KOwn
import PyProof.ExcArgsOwn
import PyProof.InstStoreFacts
import PyProof.FactsAll.tuple_2
import PyProof.FactsAll.tuple_3
import PyProof.TupleOfStr
import KE.KMinKey
import PyProof.FactsAll.list_4
import PySem.Challenge.RW_flips_k47_whole_fewest_shown
set_option Elab.async false
set_option linter.all false
set_option compiler.extract_closed false
set_option bootstrap.genMatcherCode false
set_option maxRecDepth 100000
set_option maxHeartbeats 0
section
open PySem PySem.Spec PyProof.Rows PySem.W
theorem ZA:type_of% @PySem.wpAny_bind:=@PySem.wpAny_bind
theorem ZB:type_of% @List.length_map:=@List.length_map
theorem ZC:type_of% @PySem.wpAny_pure:=@PySem.wpAny_pure
theorem ZD:type_of% @Nat.le_refl:=@Nat.le_refl
theorem ZE:type_of% @List.getElem?_eq_getElem:=@List.getElem?_eq_getElem
theorem ZF:type_of% @PySem.Heap.lt_size:=@PySem.Heap.lt_size
theorem ZG:type_of% @List.mem_cons:=@List.mem_cons
theorem ZH:type_of% @PySem.Heap.get?_push_of_some:=@PySem.Heap.get?_push_of_some
theorem ZI:type_of% @List.size_toArray:=@List.size_toArray
theorem ZJ:type_of% @List.map_append:=@List.map_append
theorem ZK:type_of% @Bool.and_eq_true:=@Bool.and_eq_true
theorem ZL:type_of% @decide_eq_true:=@decide_eq_true
theorem ZM:type_of% @List.mem_map:=@List.mem_map
theorem ZN:type_of% @List.length_append:=@List.length_append
theorem ZO:type_of% @List.mem_singleton:=@List.mem_singleton
theorem ZP:type_of% @of_decide_eq_true:=@of_decide_eq_true
theorem ZQ:type_of% @List.getD_eq_getElem?_getD:=@List.getD_eq_getElem?_getD
theorem ZR:type_of% @List.getElem?_map:=@List.getElem?_map
theorem ZS:type_of% @PySem.Heap.get?_push_size:=@PySem.Heap.get?_push_size
theorem ZT:type_of% @Nat.ne_of_lt:=@Nat.ne_of_lt
theorem ZU:type_of% @Nat.zero_le:=@Nat.zero_le
theorem ZV:type_of% @Option.some.inj:=@Option.some.inj
theorem ZW:type_of% @Nat.lt_irrefl:=@Nat.lt_irrefl
theorem ZX:type_of% @List.mem_cons_of_mem:=@List.mem_cons_of_mem
theorem ZY:type_of% @Nat.lt_of_lt_of_le:=@Nat.lt_of_lt_of_le
theorem ZZ:type_of% @List.mem_append_right:=@List.mem_append_right
theorem Za:type_of% @List.length_take:=@List.length_take
theorem Zb:type_of% @List.mem_cons_self:=@List.mem_cons_self
theorem Zc:type_of% @Int.toNat_natCast:=@Int.toNat_natCast
theorem Zd:type_of% @List.getElem_mem:=@List.getElem_mem
theorem Ze:type_of% @List.mem_range:=@List.mem_range
theorem Zf:type_of% @List.mem_append:=@List.mem_append
theorem Zg:type_of% @List.getElem?_eq_some_iff:=@List.getElem?_eq_some_iff
theorem Zh:type_of% @Array.length_toList:=@Array.length_toList
theorem Zi:type_of% @List.map_cons:=@List.map_cons
theorem Zj:type_of% @Nat.le_trans:=@Nat.le_trans
theorem Zk:type_of% @PySem.wpAny_holding:=@PySem.wpAny_holding
theorem Zl:type_of% @Nat.pow_le_pow_right:=@Nat.pow_le_pow_right
theorem Zm:type_of% @List.take_add_one:=@List.take_add_one
theorem Zn:type_of% @List.length_cons:=@List.length_cons
theorem Zo:type_of% @Bool.false_xor:=@Bool.false_xor
theorem Zp:type_of% @PySem.wpAny_mono:=@PySem.wpAny_mono
theorem Zq:type_of% @List.append_nil:=@List.append_nil
theorem Zr:type_of% @Nat.lt_or_ge:=@Nat.lt_or_ge
theorem Zs:type_of% @List.getElem_of_mem:=@List.getElem_of_mem
theorem Zt:type_of% @List.length_range:=@List.length_range
theorem Zu:type_of% @List.take_length:=@List.take_length
theorem Zv:type_of% @Nat.le_of_lt:=@Nat.le_of_lt
theorem Zw:type_of% @List.mem_of_getElem?:=@List.mem_of_getElem?
theorem Zx:type_of% @PySem.wpAny_newObj_type:=@PySem.wpAny_newObj_type
theorem Zy:type_of% @List.all_eq_true:=@List.all_eq_true
theorem Zz:type_of% @decide_eq_false:=@decide_eq_false
theorem Z0:type_of% @List.mem_filter:=@List.mem_filter
theorem Z1:type_of% @PySem.wpAny_call_entry:=@PySem.wpAny_call_entry
theorem Z2:type_of% @Bool.eq_iff_iff:=@Bool.eq_iff_iff
theorem Z3:type_of% @PySem.wpAny_ite_split:=@PySem.wpAny_ite_split
theorem Z4:type_of% @Nat.testBit_and:=@Nat.testBit_and
theorem Z5:type_of% @List.mem_append_left:=@List.mem_append_left
theorem Z6:type_of% @List.getElem?_append_right:=@List.getElem?_append_right
theorem Z7:type_of% @PySem.Heap.size_push:=@PySem.Heap.size_push
theorem Z8:type_of% @List.lookup_cons:=@List.lookup_cons
theorem Z9:type_of% @List.mem_nil_iff:=@List.mem_nil_iff
theorem ZBA:type_of% @PySem.Heap.SameBut.update:=@PySem.Heap.SameBut.update
theorem ZBB:type_of% @PySem.wpAny_truthy_bool:=@PySem.wpAny_truthy_bool
theorem ZBC:type_of% @Nat.lt_trichotomy:=@Nat.lt_trichotomy
theorem ZBD:type_of% @PySem.plainId_quiet:=@PySem.plainId_quiet
theorem ZBE:type_of% @Bool.false_ne_true:=@Bool.false_ne_true
theorem ZBF:type_of% @List.getElem?_append_left:=@List.getElem?_append_left
theorem ZBG:type_of% @List.length_drop:=@List.length_drop
theorem ZBH:type_of% @PySem.codeAny_builtin:=@PySem.codeAny_builtin
theorem ZBI:type_of% @PySem.Heap.get?_update_other:=@PySem.Heap.get?_update_other
theorem ZBJ:type_of% @List.range_succ:=@List.range_succ
theorem ZBK:type_of% @PySem.Around.under_plainId:=@PySem.Around.under_plainId
theorem ZBL:type_of% @Bool.false_and:=@Bool.false_and
theorem ZBM:type_of% @Nat.lt_succ_self:=@Nat.lt_succ_self
theorem ZBN:type_of% @PySem.codeAny_mono:=@PySem.codeAny_mono
theorem ZBO:type_of% @List.length_set:=@List.length_set
theorem ZBP:type_of% @Nat.lt_trans:=@Nat.lt_trans
theorem ZBQ:type_of% @List.take_of_length_le:=@List.take_of_length_le
theorem ZBR:type_of% @List.any_eq_true:=@List.any_eq_true
theorem ZBS:type_of% @PySem.wpAny_tryCatch:=@PySem.wpAny_tryCatch
theorem ZBT:type_of% @Bool.true_and:=@Bool.true_and
theorem ZBU:type_of% @Nat.ne_of_gt:=@Nat.ne_of_gt
theorem ZBV:type_of% @PySem.wpAny_field:=@PySem.wpAny_field
theorem ZBW:type_of% @Nat.not_lt_zero:=@Nat.not_lt_zero
theorem ZBX:type_of% @PySem.wpAny_setField:=@PySem.wpAny_setField
theorem ZBY:type_of% @List.length_eq_zero_iff:=@List.length_eq_zero_iff
theorem ZBZ:type_of% @Array.getElem?_eq_getElem:=@Array.getElem?_eq_getElem
theorem ZBa:type_of% @PySem.wpAny_letGo:=@PySem.wpAny_letGo
theorem ZBb:type_of% @Nat.sub_self:=@Nat.sub_self
theorem ZBc:type_of% @Bool.not_eq_true':=@Bool.not_eq_true'
theorem ZBd:type_of% @List.filterMap_cons:=@List.filterMap_cons
theorem ZBe:type_of% @PySem.wpAny_standAt:=@PySem.wpAny_standAt
theorem ZBf:type_of% @Nat.le_of_eq:=@Nat.le_of_eq
theorem ZBg:type_of% @List.nodup_cons:=@List.nodup_cons
theorem ZBh:type_of% @PySem.Heap.get?_update_self:=@PySem.Heap.get?_update_self
theorem ZBi:type_of% @Option.map_some:=@Option.map_some
theorem ZBj:type_of% @Nat.two_pow_pos:=@Nat.two_pow_pos
theorem ZBk:type_of% @List.map_map:=@List.map_map
theorem ZBl:type_of% @Nat.le_succ:=@Nat.le_succ
theorem ZBm:type_of% @Nat.le_of_succ_le:=@Nat.le_of_succ_le
theorem ZBn:type_of% @List.find?_cons:=@List.find?_cons
theorem ZBo:type_of% @List.pairwise_lt_range:=@List.pairwise_lt_range
theorem ZBp:type_of% @List.not_mem_nil:=@List.not_mem_nil
theorem ZBq:type_of% @List.filter_append:=@List.filter_append
theorem ZBr:type_of% @Nat.and_le_left:=@Nat.and_le_left
theorem ZBs:type_of% @List.getElem?_eq_none:=@List.getElem?_eq_none
theorem ZBt:type_of% @List.length_replicate:=@List.length_replicate
theorem ZBu:type_of% @List.replicate_succ:=@List.replicate_succ
theorem ZBv:type_of% @List.append_assoc:=@List.append_assoc
theorem ZBw:type_of% @Bool.or_eq_true:=@Bool.or_eq_true
theorem ZBx:type_of% @List.any_cons:=@List.any_cons
theorem ZBy:type_of% @Nat.eq_zero_or_pos:=@Nat.eq_zero_or_pos
theorem ZBz:type_of% @Array.getElem?_toList:=@Array.getElem?_toList
theorem ZB0:type_of% @List.pairwise_map:=@List.pairwise_map
theorem ZB1:type_of% @List.length_filter_le:=@List.length_filter_le
theorem ZB2:type_of% @List.mem_filterMap:=@List.mem_filterMap
theorem ZB3:type_of% @Int.natCast_nonneg:=@Int.natCast_nonneg
theorem ZB4:type_of% @List.getElem_toArray:=@List.getElem_toArray
theorem ZB5:type_of% @Bool.false_eq_true:=@Bool.false_eq_true
theorem ZB6:type_of% @Array.toList_append:=@Array.toList_append
theorem ZB7:type_of% @List.map_congr_left:=@List.map_congr_left
theorem ZB8:type_of% @Int.toNat_of_nonneg:=@Int.toNat_of_nonneg
end
-- CHANGE: your row's module here,as the last of these rows
namespace L2
open PySem PySem.Spec PyProof.Rows
variable {us:List Value}{x:Str}{u:Value}{H:Hp}{C a b:Addr}{o:HO}{P:Program}{w:World}{base h:Heap}{i k t':Nat}{A:Around}{E Q:Value->Shared->Prop}{v:V}{s:Shared}{pos:Pos}{Ya:List (Addr × Obj)}{Z:St}{K:W.Frag}{mg:Str->Option Value}
noncomputable abbrev Key:=Sum Int Str
noncomputable def Dn:Key->Value->Bool
 | .inl k,v=>Value.isInt k v
 | .inr x,v=>Value.isStrOf x v
noncomputable def Vy(w:World):Key->Int
 | .inl k=>hashInt k
 | .inr x=>hashStr w x
theorem keyIs_shape:∀{k:Key} {v:Value},Dn k v=true->(∃i t,k=Sum.inl i/\v=Value.int i t)\/(∃x t,k=Sum.inr x/\v=Value.str x t)
 | .inl i,v,h=>by
  obtain⟨t,e⟩:=Value.isInt_shape (k:=i) (v:=v) h;exact .inl ⟨i,t,rfl,e⟩
 | .inr x,v,h=>by
  obtain⟨t,e⟩:=Value.isStrOf_shape (x:=x) (v:=v) h;exact .inr ⟨x,t,rfl,e⟩
theorem WO(i:Int)(t:Tok):Dn (.inl i) (.int i t)=true:=by simp[Dn,Value.isInt]
theorem W2(x:Str)(t:Tok):Dn (.inr x) (.str x t)=true:=by simp[Dn,Value.isStrOf]
theorem WY(a b:Int):decide ((Sum.inl a:Key)=Sum.inl b)=(a == b):=by
 by_cases e:a=b
 ·subst e;simp
 ·have h:¬(Sum.inl a:Key)=Sum.inl b:=fun q=>e (Sum.inl.inj q)
  rw[Zz h];exact(beq_eq_false_iff_ne.mpr e).symm
theorem Ws(a b:Str):decide ((Sum.inr a:Key)=Sum.inr b)=decide (a=b):=by
 by_cases e:a=b
 ·subst e;simp
 ·have h:¬(Sum.inr a:Key)=Sum.inr b:=fun q=>e (Sum.inr.inj q)
  rw[Zz h,Zz e]
theorem XI(a:Int)(b:Str):decide ((Sum.inl a:Key)=Sum.inr b)=false:=Zz (fun q=>nomatch q)
theorem Sw(a:Str)(b:Int):decide ((Sum.inr a:Key)=Sum.inl b)=false:=Zz (fun q=>nomatch q)
noncomputable def BR(prog:Program)(w:World):PySem.KeyKind prog w Key where
 is:=Dn
 hash:=Vy w
 inj:=fun v a b ha hb=>by
  rcases keyIs_shape ha with ⟨i,t,rfl,rfl⟩ | ⟨x,t,rfl,rfl⟩
  ·rcases keyIs_shape hb with ⟨j,u,rfl,e⟩ | ⟨y,u,rfl,e⟩
   ·injection e with e1 _;rw[e1]
   ·exact nomatch e
  ·rcases keyIs_shape hb with ⟨j,u,rfl,e⟩ | ⟨y,u,rfl,e⟩
   ·exact nomatch e
   ·injection e with e1 _;rw[e1]
 byValue:=fun k v h=>by
  rcases keyIs_shape h with ⟨i,t,rfl,rfl⟩ | ⟨x,t,rfl,rfl⟩ <;> rfl
 pyHash:=fun hv h=>by
  rcases keyIs_shape hv with ⟨i,t,rfl,rfl⟩ | ⟨x,t,rfl,rfl⟩
  ·exact wpAny_pyHash_int h
  ·exact wpAny_pyHash_str h
 eqBool:=fun hu hv h=>by
  rcases keyIs_shape hu with ⟨i,t,rfl,rfl⟩ | ⟨x,t,rfl,rfl⟩
  ·rcases keyIs_shape hv with ⟨j,u,rfl,rfl⟩ | ⟨y,u,rfl,rfl⟩
   ·rw[WY]at h;exact wpAny_eqBool_int h
   ·rw[XI]at h;exact SeqAt.EqAt.int_str i t y u _ _ _ _ h
  ·rcases keyIs_shape hv with ⟨j,u,rfl,rfl⟩ | ⟨y,u,rfl,rfl⟩
   ·rw[Sw]at h;exact SeqAt.EqAt.str_int x t j u _ _ _ _ h
   ·rw[Ws]at h;exact wpAny_eqBool_str h
 «strs»:=fun k x t v h=>by
  rcases keyIs_shape h with ⟨i,u,rfl,e⟩ | ⟨y,u,rfl,e⟩
  ·exact nomatch e
  ·injection e with e1 _
   subst e1;cases v <;> rfl
theorem PQ(prog:Program)(w:World)(i:Int)(t:Tok):(BR prog w).is (.inl i) (.int i t)=true:=WO i t
theorem Ur(prog:Program)(w:World)(x:Str)(t:Tok):(BR prog w).is (.inr x) (.str x t)=true:=W2 x t
inductive V where
 | non | bl (b:Bool) | int (i:Int) | str (x:Str) | byt (b:Array UInt8) | flt (b:UInt64) | ref (a:Addr) | ty (n:String)
 deriving DecidableEq
noncomputable def Yi:V->Value->Prop
 | .non,u=>u=Value.none
 | .bl b,u=>u=Value.bool b
 | .int i,u=>∃t,u=Value.int i t
 | .str x,u=>∃t,u=Value.str x t
 | .byt b,u=>∃t,u=Value.bytes b t
 | .flt b,u=>∃t,u=Value.float b t
 | .ref a,u=>u=Value.ref a
 | .ty n,u=>u=Value.type n
noncomputable abbrev Yk:List V->List Value->Prop:=Paired Yi
theorem Yk.length{xs:List V}(r:Yk xs us):xs.length=us.length:=Paired.length r
theorem Yk.get:∀{xs:List V} {us:List Value} {i:Nat} {x:V},Yk xs us->xs[i]? = some x->∃u,us[i]? = some u/\Yi x u
 | _,_,_,_,.nil,e=>by simp at e
 | _,_,0,_,.cons r _,e=>by simp at e;subst e;exact⟨_,rfl,r⟩
 | _,_,i+1,x,.cons _ t,e=>by
  obtain⟨u,h1,h2⟩:=Yk.get (i:=i) (x:=x) t (by simpa using e);exact⟨u,by simpa using h1,h2⟩
theorem Yk.set{x:V}(r:Yi x u):∀{xs:List V} {us:List Value} (i:Nat),Yk xs us->Yk (xs.set i x) (us.set i u)
 | _,_,_,.nil=>.nil
 | _,_,0,.cons _ t=>.cons r t
 | _,_,i+1,.cons q t=>.cons q (Yk.set r i t)
theorem Yk.append:∀{xs ys:List V} {us ws:List Value},Yk xs us->Yk ys ws->Yk (xs++ys) (us++ws)
 | _,_,_,_,.nil,s=>s
 | _,_,_,_,.cons r t,s=>.cons r (Yk.append t s)
theorem Yk.take:∀{xs:List V} {us:List Value} (n:Nat),Yk xs us->Yk (xs.take n) (us.take n)
 | _,_,0,_=>.nil
 | _,_,_+1,.nil=>.nil
 | _,_,n+1,.cons r t=>.cons r (Yk.take n t)
theorem Yk.drop:∀{xs:List V} {us:List Value} (n:Nat),Yk xs us->Yk (xs.drop n) (us.drop n)
 | _,_,0,r=>r
 | _,_,_+1,.nil=>.nil
 | _,_,n+1,.cons _ t=>Yk.drop n t
noncomputable def RelO:Option V->Option Value->Prop
 | some v,some u=>Yi v u
 | none,none=>True
 | _,_=>False
noncomputable def KV{κ:Type}:List (κ × V)->List (κ × Value)->Prop:=Paired fun(p:κ × V) (q:κ × Value)=>p.1=q.1/\Yi p.2 q.2
noncomputable def kV:Key->V
 | .inl i=>.int i
 | .inr x=>.str x
inductive HO where
 | lst (xs:List V)
 | tup (xs:List V)
 | dK (Yc:List (Key × V)) | dT (Yc:List (List Key × V))
 | set (S:Int->Bool) (n:Nat)
 | ins (C dx:Addr) (fs:List (Str × V))
 | own (x:Addr)
 | xd (fs:List (Str × V))
 | met (f x:Addr)
 | rng (lo hi:Int)
 | frz (o:Obj) (u:HO)
 | tbl (ps:Array Value)
 | ext (φ:Heap->Prop)
noncomputable abbrev Hp:=Addr->Option HO
noncomputable def upd(H:Hp)(a:Addr)(o:HO):Hp:=fun b=>if b=a then some o else H b
theorem AD:upd H a o a=some o:=by unfold upd;rw[if_pos rfl]
theorem AJ(h:b≠a):upd H a o b=H b:=by unfold upd;rw[if_neg h]
theorem Bm{u:HO}(h:H a=some o)(h':H b=some u)(d:o≠u):a≠b:=by
 intro e;subst e;rw[h]at h';exact d (ZV h')
theorem BZ(h:H a=some o)(h':H b=none):a≠b:=by
 intro e;subst e;rw[h]at h';cases h'
noncomputable def IsTupN(h:Heap)(a:Addr)(items:Array Value):Prop:=∃o,h.get? a=some o/\o.cls=.type "tuple" /\ (∃n,o.data=.seq items n)/\o.dict=none
theorem IsTupN.tup{h:Heap}{a:Addr}{items:Array Value}(x:IsTupN h a items):PyProof.Rows.IsTup h a items:=by
 obtain⟨o,e,c,d,_⟩:=x;exact⟨o,e,c,d⟩
theorem IsTupN.new(h:Heap)(items:Array Value):IsTupN (h.push { cls:=.type "tuple",data:=.seq items }) h.objs.size items:=⟨_,ZS _ rfl,rfl,⟨_,rfl⟩,rfl⟩
section
variable (P:Program)(w:World)
noncomputable def ObjOk(H:Hp)(h:Heap)(a:Addr):HO->Prop
 | .lst xs=>xs.length<=sizeLine/\∃(Ye:List Value) (n:Nat),Yk xs Ye/\h.get? a=some { cls:=.type "list",data:=.seq Ye.toArray n }
 | .tup xs=>xs.length<=sizeLine/\∃Ye:List Value,Yk xs Ye/\IsTupN h a Ye.toArray
 | .dK Yc=>Yc.length<=sizeLine/\(a == sysModules)=false/\∃vs,KV Yc vs/\h.DictOf (BR P w) a vs
 | .dT Yc=>Yc.length<=sizeLine/\(a == sysModules)=false/\∃xs:List (List Key × Addr × Value),
  Paired (fun(p:List Key × V) (q:List Key × Addr × Value)=>p.1=q.1/\H q.2.1=some (.tup (p.1.map kV))/\Yi p.2 q.2.2) Yc xs /\
  ∃o es ep,h.get? a=some o/\o.ExactDict/\o.data=.dict es ep/\es.toList=xs.map (entryOfKey (tupleKind (BR P w)))/\(xs.map (·.1)).Nodup
 | .set S n=>h.SetOf (intKind P w) a S n
 | .ins C dx fs=>H dx=some (.own a)/\fs.length<=1000/\dx≠a/\h.get? a=some (PySem.W.instObj C dx) /\
  ∃mA,h.Ns1 dx mA/\(∀f,RelO (fs.lookup f) (mA f))/\PySem.Within mA (fs.map (·.1))
 | .own _=>∃o,h.get? a=some o
 | .xd fs=>∃mA,h.Ns1 a mA/\∀f,RelO (fs.lookup f) (mA f)
 | .rng lo hi=>∃t u v,h.get? a=some { cls:=.type "range",data:=.fields #[.int lo t,.int hi u,.int 1 v] }
 | .frz o u=>h.get? a=some o/\ObjOk H h a u
 | .tbl ps=>h.get? a=some { cls:=.none,data:=.fields ps }
 | .met f x=>h.get? a=some (PySem.W.methodObj (.ref f) (.ref x))
 | .ext φ=>φ h/\(∃o,h.get? a=some o)/\∀h1 h2:Heap,φ h1->(∀o,h1.get? a=some o->h2.get? a=some o)->φ h2
noncomputable def HOk(H:Hp)(h:Heap):Prop:=∀a o,H a=some o->ObjOk P w H h a o
end
section
variable {P:Program}{w:World}{H H':Hp}{h h':Heap}{a:Addr}{o:HO}
theorem ObjOk.lt(x:ObjOk P w H h a o):a < h.objs.size:=by
 cases o with
 | lst xs=>obtain⟨_,_,_,_,e⟩:=x;exact ZF e
 | tup xs=>obtain⟨_,_,_,p⟩:=x;exact p.tup.lt
 | dK Yc=>obtain⟨_,_,_,_,o,_,_,e,_⟩:=x;exact ZF e
 | dT Yc=>obtain⟨_,_,_,_,o,_,_,e,_⟩:=x;exact ZF e
 | set S n=>obtain⟨o,_,_,_,e,_⟩:=x;exact ZF e
 | ins C dx fs=>obtain⟨_,_,_,e,_⟩:=x;exact ZF e
 | own y=>obtain⟨_,e⟩:=x;exact ZF e
 | xd fs=>obtain⟨_,⟨_,_,_,e,_⟩,_⟩:=x;exact ZF e
 | rng lo hi=>obtain⟨_,_,_,e⟩:=x;exact ZF e
 | frz ob u=>obtain⟨e,_⟩:=x;exact ZF e
 | tbl ps=>exact ZF (show h.get? a=some _ from x)
 | met f y=>exact ZF (show h.get? a=some _ from x)
 | ext φ=>obtain⟨_,⟨_,e⟩,_⟩:=x;exact ZF e
theorem Paired.mapP{α β:Type}{F G:α->β->Prop}:∀{l₁:List α} {l₂:List β},Paired F l₁ l₂->(∀a b,F a b->G a b)->Paired G l₁ l₂
 | _,_,.nil,_=>.nil
 | _,_,.cons r t,f=>.cons (f _ _ r) (Paired.mapP t f)
theorem ObjOk.stay (x:ObjOk P w H h a o) (k:∀b u,(b=a\/H b=some (.own a))->h.get? b=some u->h'.get? b=some u)
 (ho:∀b,H b=some (.own a)->H' b=some (.own a)) (ht:∀b xs,H b=some (.tup xs)->H' b=some (.tup xs)):ObjOk P w H' h' a o:=by
 induction o with
 | lst xs=>obtain⟨z,Ye,n,r,e⟩:=x;exact⟨z,Ye,n,r,k _ _ (.inl rfl) e⟩
 | tup xs=>obtain⟨z,Ye,r,ob,e,c⟩:=x;exact⟨z,Ye,r,ob,k _ _ (.inl rfl) e,c⟩
 | dK Yc=>obtain⟨z,y,vs,r,ob,es,ep,e,c⟩:=x;exact⟨z,y,vs,r,ob,es,ep,k _ _ (.inl rfl) e,c⟩
 | dT Yc =>
  obtain⟨z,y,xs,r,ob,es,ep,e,c⟩:=x;exact⟨z,y,xs,Paired.mapP r fun p q z=>⟨z.1,ht _ _ z.2.1,z.2.2⟩,ob,es,ep,k _ _ (.inl rfl) e,c⟩
 | set S n=>obtain⟨ob,es,ep,t,e,c⟩:=x;exact⟨ob,es,ep,t,k _ _ (.inl rfl) e,c⟩
 | ins C dx fs =>
  obtain⟨d,z,ne,e,mA,⟨od,es,ep,e2,c⟩,r⟩:=x;exact⟨ho _ d,z,ne,k _ _ (.inl rfl) e,mA,⟨od,es,ep,k _ _ (.inr d) e2,c⟩,r⟩
 | own y=>obtain⟨ob,e⟩:=x;exact⟨ob,k _ _ (.inl rfl) e⟩
 | xd fs=>obtain⟨mA,⟨od,es,ep,e,c⟩,r⟩:=x;exact⟨mA,⟨od,es,ep,k _ _ (.inl rfl) e,c⟩,r⟩
 | rng lo hi=>obtain⟨t,u,v,e⟩:=x;exact⟨t,u,v,k _ _ (.inl rfl) e⟩
 | frz ob u ih=>obtain⟨e,q⟩:=x;exact⟨k _ _ (.inl rfl) e,ih q⟩
 | tbl ps =>
  have e:h.get? a=some { cls:=.none,data:=.fields ps }:=x;show h'.get? a=some { cls:=.none,data:=.fields ps };exact k a _ (.inl rfl) e
 | met f y =>
  have e:h.get? a=some (PySem.W.methodObj (.ref f) (.ref y)):=x;show h'.get? a=some (PySem.W.methodObj (.ref f) (.ref y));exact k a _ (.inl rfl) e
 | ext φ=>obtain⟨p,⟨o,e⟩,st⟩:=x;exact⟨st _ _ p fun o q=>k _ _ (.inl rfl) q,⟨o,k _ _ (.inl rfl) e⟩,st⟩
theorem HOk.lt(x:HOk P w H h)(e:H a=some o):a < h.objs.size:=(x a o e).lt
theorem HOk.fresh(x:HOk P w H h)(e:h.objs.size<=a):H a=none:=by
 cases q:H a with
 | none=>rfl
 | some u=>exact absurd (ZY (x.lt q) e) (ZW _)
theorem HOk.kept(x:HOk P w H h)(k:∀b u,h.get? b=some u->h'.get? b=some u):HOk P w H h':=fun a o e =>
 (x a o e).stay (fun b u _ q=>k b u q) (fun _ q=>q) fun _ _ q=>q
theorem HOk.laid(x:HOk P w H h)(k:∀b u,h.get? b=some u->h'.get? b=some u)(hp:h.objs.size<=a)(new:ObjOk P w (upd H a o) h' a o):HOk P w (upd H a o) h':=fun b u e=>by
 have hn:=x.fresh hp
 by_cases hb:b=a
 ·subst hb;rw[AD]at e;cases e;exact new
 ·rw[AJ hb]at e;exact(x b u e).stay (fun c v _ q=>k c v q) (fun c q=>by rw[AJ (BZ q hn)];exact q) fun c xs q=>by rw[AJ (BZ q hn)];exact q
end
noncomputable def Rd(H:Hp)(a:Addr)(u:HO):Prop:=H a=some u\/∃o,H a=some (.frz o u)
theorem Rd.of{u:HO}(h:H a=some u):Rd H a u:=.inl h
theorem Rd.ok{u:HO}(r:Rd H a u)(x:HOk P w H h):ObjOk P w H h a u:=by
 rcases r with r | ⟨o,r⟩
 ·exact x a u r
 ·obtain⟨_,q⟩:=x a _ r;exact q
noncomputable def Mut:Option HO->Prop
 | some (.lst _)=>True
 | some (.dK _)=>True
 | some (.dT _)=>True
 | some (.set _ _)=>True
 | some (.ins _ _ _)=>True
 | some (.ext _)=>True
 | _=>False
section
variable {P:Program}{w:World}{H:Hp}{h h':Heap}{x e:Addr}{o':HO}
theorem HOk.write (ok:HOk P w H h) (mu:Mut (H x)) (he:e=x\/H e=some (.own x)) (k:∀b u,b≠e->h.get? b=some u->h'.get? b=some u) (heo:∃u,h'.get? e=some u)
 (new:ObjOk P w (upd H x o') h' x o'):HOk P w (upd H x o') h':=fun b u q=>by
 have nown:∀c y,H c=some (.own y)->c≠x:=fun c y r z=>by subst z;rw[r]at mu;exact mu
 have ntup:∀c xs,H c=some (.tup xs)->c≠x:=fun c xs r z=>by subst z;rw[r]at mu;exact mu
 by_cases hb:b=x
 ·subst hb;rw[AD]at q;cases q;exact new
 ·rw[AJ hb]at q
  by_cases hbe:b=e
  ·have q':H b=some (.own x):=by
    rcases he with z | z
    ·exact absurd (hbe.trans z) hb
    ·rw[hbe];exact z
   rw[q]at q';cases q';obtain⟨v,hv⟩:=heo;exact⟨v,by rw[hbe];exact hv⟩
  ·refine(ok b u q).stay (fun c v hc r=>k c v ?_ r) (fun c r=>by rw[AJ (nown c b r)];exact r) fun c xs r=>by rw[AJ (ntup c xs r)];exact r
   rcases hc with rfl | hc
   ·exact hbe
   ·rintro rfl
    rcases he with z | z
    ·exact nown c b hc z
    ·rw[hc]at z;cases z;exact hb rfl
end
structure Un(fs ex:List Addr)(H H':Hp)(h h':Heap):Prop where
 keep:∀b o,h.get? b=some o->H b=none->b∉fs->b∉ex->h'.get? b=some o
 slot:∀b o,h.get? b=some o->H b=none->b∈fs->b∉ex->∃sl,h'.get? b=some { o with slots:=sl }
 free:∀b o,h.get? b=some o->H b=none->b∉ex->H' b=none
 there:∀b o,h.get? b=some o->b∉ex->∃o',h'.get? b=some o'
 tups:∀b xs,H b=some (.tup xs)->H' b=some (.tup xs)
 frzs:∀b o u,H b=some (.frz o u)->H' b=some (.frz o u)
 tbls:∀b ps,H b=some (.tbl ps)->∃more,H' b=some (.tbl (ps++more))
section
variable {fs fs' ex ex':List Addr}{H H1 H2:Hp}{h h1 h2 h':Heap}{a x e:Addr}{o:HO}
theorem Un.any(u:Un fs ex H H1 h h1){ob:Obj}(q:h.get? b=some ob)(n:H b=none)(hx:b∉ex):∃sl,h1.get? b=some { ob with slots:=sl }:=by
 by_cases hb:b∈fs
 ·exact u.slot b ob q n hb hx
 ·exact⟨ob.slots,u.keep b ob q n hb hx⟩
theorem Un.kept(k:∀b u,h.get? b=some u->h'.get? b=some u):Un fs ex H H h h' :=
 ⟨fun b ob q _ _ _=>k b ob q,fun b ob q _ _ _=>⟨ob.slots,k b ob q⟩,fun _ _ _ n _=>n,fun b ob q _=>⟨ob,k b ob q⟩,fun _ _ q=>q,fun _ _ _ q=>q,fun _ ps q=>⟨#[],by rw[q];simp⟩⟩
theorem Un.refl:Un fs ex H H h h:=Un.kept fun _ _ q=>q
theorem Un.laid(k:∀b u,h.get? b=some u->h'.get? b=some u)(hp:h.objs.size<=a)(hn:H a=none):Un fs ex H (upd H a o) h h' where
 keep:=fun b u q _ _ _=>k b u q
 slot:=fun b u q _ _ _=>⟨u.slots,k b u q⟩
 free:=fun b u q n _=>by rw[AJ (ZT (ZY (ZF q) hp))];exact n
 there:=fun b u q _=>⟨u,k b u q⟩
 tups:=fun b xs q=>by rw[AJ (BZ q hn)];exact q
 frzs:=fun b u xs q=>by rw[AJ (BZ q hn)];exact q
 tbls:=fun b ps q=>⟨#[],by rw[AJ (BZ q hn),q];simp⟩
theorem Un.write(mu:Mut (H x))(he:e=x\/H e=some (.own x))(k:∀b u,b≠e->h.get? b=some u->h'.get? b=some u)(heo:∃u,h'.get? e=some u):Un fs ex H (upd H x o) h h':=by
 have hx:∀b,H b=none->b≠x:=fun b n z=>by subst z;rw[n]at mu;exact mu
 have hb:∀b,H b=none->b≠e:=fun b n z=>by
  subst z
  rcases he with r | r
  ·exact hx b n r
  ·rw[n]at r;cases r
 have hm:∀b u,H b=some u->¬Mut (some u)->b≠x:=fun b u q nm z=>by subst z;rw[q]at mu;exact nm mu
 refine⟨fun b u q n _ _=>k b u (hb b n) q,fun b u q n _ _=>⟨u.slots,k b u (hb b n) q⟩,fun b u q n _=>by rw[AJ (hx b n)];exact n,fun b u q _=>?_,
  fun b xs q=>by rw[AJ (hm b _ q fun z=>z)];exact q,fun b u xs q=>by rw[AJ (hm b _ q fun z=>z)];exact q,fun b ps q=>⟨#[],by rw[AJ (hm b _ q fun z=>z),q];simp⟩⟩
 by_cases hbe:b=e
 ·subst hbe;exact heo
 ·exact⟨u,k b u hbe q⟩
end
noncomputable def trk(h:Heap)(H:Hp):List Addr:=(List.range h.objs.size).filter fun a=>(H a).isSome
noncomputable def CZ(h:Heap)(H:Hp):Heap:=PySem.W.hideAll h (trk h H)
theorem MM(h:Heap)(H:Hp):(CZ h H).objs.size=h.objs.size:=PySem.W.hideAll_size _ _
theorem M5{o:Obj}(e:h.get? b=some o)(n:H b=none):(CZ h H).get? b=some o :=
 PySem.W.hideAll_get _ e fun hm=>by
  have q:(H b).isSome=true:=(Z0.mp hm).2;rw[n]at q;simp at q
theorem OY{o:Obj}(e:(CZ h H).get? b=some o):h.get? b=some o/\H b=none:=by
 have e':h.get? b=some o:=PySem.W.of_hideAll (trk h H) e;refine⟨e',?_⟩;cases q:H b with
 | none=>rfl
 | some x =>
  have hm:b∈trk h H:=Z0.mpr ⟨Ze.mpr (ZF e'),by simp[q]⟩;have z:(CZ h H).get? b=none:=PySem.W.hideAll_none (trk h H) hm;rw[z]at e;cases e
structure Mod(K:W.Frag)(mg:Str->Option Value)(base:Heap):Prop where
 kin:K.In base
 glob:base.Ns mainGlobals mg
 blt:∃mb,base.Ns builtinsNs mb/\∀x:Str,x ≠ "__name__" -> mb x=bootBuiltins x
 nolimit:base.NoLimit
structure Cx where
 prog:Program
 w:World
 K:W.Frag
 mg:Str->Option Value
 base:Heap
 A:Around
 N:List Str
 s₀:Shared
 H₀:Hp
 env:Env
 outer:List Env
 stack:List Env
 ex:List Addr
 fn:Str->Bool
 calm:Bool
 pn:List (Addr × Obj)
 xe:Value->Shared->Prop
noncomputable def frs(l:List Env):List Addr:=l.filterMap (·.frame)
noncomputable abbrev Cx.fs(X:Cx):List Addr:=frs X.outer
noncomputable def Vis(sc:Scope)(x:Str):Prop:=sc.names.lookup x=some .local\/sc.names.lookup x=some .cell\/sc.names.lookup x=some .free
noncomputable def Loc(sc:Scope)(x:Str):Prop:=sc.names.lookup x=some .local\/sc.names.lookup x=some .cell
noncomputable def VW(env:Env)(h:Heap)(m:Str->Option Value)(x:Str)(u:Value):Prop :=
 (env.kindOf x=some .local/\m x=some u)\/((env.kindOf x=some .cell\/env.kindOf x=some .free)/\∃c,env.cells.lookup x=some c/\h.IsCell c (some u))
structure Cx.Ok(X:Cx):Prop where
 mod:Mod X.K X.mg X.base
 kind:X.env.scope.kind=.function
 glob:X.env.globals=mainGlobals
 blt:X.env.builtins=builtinsNs
 above:X.s₀.heap.objs.size<=X.env.locals
 inj:∀x y c,X.env.cells.lookup x=some c->X.env.cells.lookup y=some c->x=y
 has:∀x,(X.env.kindOf x=some .cell\/X.env.kindOf x=some .free)->∃c,X.env.cells.lookup x=some c
 cab:∀x c,X.fn x=true->X.env.cells.lookup x=some c->X.s₀.heap.objs.size<=c
 hd:X.calm=true->X.A.handled=none
 frames:X.A.frames=some X.stack
 stk:X.stack=X.outer\/(X.stack=X.env::X.outer/\X.env.frame=some X.env.locals)
 exf:∀b∈X.ex,b≠X.env.locals/\∀x c,X.env.cells.lookup x=some c->c≠b
 bs:∀b o,X.base.get? b=some o->X.s₀.heap.get? b=some o/\X.H₀ b=none
 bsz:X.base.objs.size<=X.s₀.heap.objs.size
 noex:∀b o,X.base.get? b=some o->b∉X.ex
 exfs:∀b∈X.ex,b∉X.fs
 funs:X.s₀.heap.FunFrames X.base X.outer
 frf:∀b∈X.fs,X.H₀ b=none
structure Yg(X:Cx)(Ya:List (Addr × Obj))(Z:List (Option V))(H:Hp)(s:Shared):Prop where
 ok:X.Ok
 os:s.os=X.s₀.os
 bare:AllBare s.gens
 base:Un X.fs X.ex X.H₀ H X.s₀.heap s.heap
 loc:∃m,s.heap.Ns X.env.locals m/\∀(i:Nat) (x:Str) (v:V),X.N[i]? = some x->Z[i]? = some (some v)->Vis X.env.scope x->∃u,Yi v u/\VW X.env s.heap m x u
 cell:∀x c,X.env.cells.lookup x=some c->∃v,s.heap.IsCell c v
 free:H X.env.locals=none
 freeC:∀x c,X.env.cells.lookup x=some c->H c=none
 pin:∀p∈X.pn++Ya,s.heap.get? p.1=some p.2/\H p.1=none/\p.1≠X.env.locals/\p.1∉X.fs/\∀v,p.2.data≠.cell v
 hok:HOk X.prog X.w H s.heap
 len:Z.length=X.N.length
section
variable {X:Cx}{Ya:List (Addr × Obj)}{Z:List (Option V)}{H H':Hp}{s:Shared}{h':Heap}
theorem Cx.Ok.nofr(ok:X.Ok){o:Obj}(e:X.base.get? b=some o):b∉X.fs:=fun hb=>by
 have:=(ok.funs.mem hb).1
 rw[e]at this;cases this
theorem Yg.bs(I:Yg X Ya Z H s):∀b o,X.base.get? b=some o->s.heap.get? b=some o/\H b=none:=fun b o e =>
 ⟨I.base.keep b o (I.ok.bs b o e).1 (I.ok.bs b o e).2 (I.ok.nofr e) (I.ok.noex b o e),I.base.free b o (I.ok.bs b o e).1 (I.ok.bs b o e).2 (I.ok.noex b o e)⟩
theorem Yg.bk(I:Yg X Ya Z H s):∀b o,X.base.get? b=some o->s.heap.get? b=some o:=fun b o e=>(I.bs b o e).1
theorem Yg.mod(I:Yg X Ya Z H s):Mod X.K X.mg X.base:=I.ok.mod
theorem Yg.kIn(I:Yg X Ya Z H s):X.K.In s.heap:=I.ok.mod.kin.keeps I.bk
theorem Yg.lt(I:Yg X Ya Z H s):X.env.locals < s.heap.objs.size:=let ⟨_,hn,_⟩:=I.loc;hn.lt
theorem Yg.sz(I:Yg X Ya Z H s):X.s₀.heap.objs.size<=s.heap.objs.size:=Zj I.ok.above (Zv I.lt)
theorem Yg.nofs(I:Yg X Ya Z H s)(h:s.heap.objs.size<=a):a∉X.fs:=fun hb=>by
 obtain⟨_,o,ho,_⟩:=I.ok.funs.mem hb;exact absurd (ZY (ZF ho) (Zj I.sz h)) (ZW _)
theorem Yg.cne(I:Yg X Ya Z H s):∀x c,X.env.cells.lookup x=some c->c≠X.env.locals:=fun x c e z=>by
 obtain⟨v,o,ho,hd⟩:=I.cell x c e;obtain⟨m,⟨o',es,ep,ho',hd',_⟩,_⟩:=I.loc;rw[z,ho']at ho;cases ho;rw[hd']at hd;cases hd
theorem Yg.funs(I:Yg X Ya Z H s):s.heap.FunFrames X.base X.outer:=by
 have all:∀(l:List Env),(∀b∈frs l,b∈X.fs)->X.s₀.heap.FunFrames X.base l->s.heap.FunFrames X.base l:=by
  intro l
  induction l with
  | nil=>intro _ _;trivial
  | cons env r ih =>
   intro hs hl;obtain⟨hk,⟨L,o,hf,hn,ho,hd⟩,hr⟩:=hl;have hL:L∈X.fs:=hs L (by unfold frs;rw[ZBd,hf];exact Zb);obtain⟨sl,e⟩:=I.base.slot L o ho (I.ok.frf L hL) hL fun z=>I.ok.exfs L z hL
   exact⟨hk,⟨L,_,hf,hn,e,hd⟩,ih (fun b hb=>hs b (by unfold frs;rw[ZBd,hf];exact ZX _ hb)) hr⟩
 exact all X.outer (fun _ hb=>hb) I.ok.funs
theorem Yg.stack(I:Yg X Ya Z H s):s.heap.FunFrames X.base X.stack:=by
 rcases I.ok.stk with e | ⟨e,hf⟩
 ·rw[e];exact I.funs
 ·rw[e];obtain⟨m,hn,_⟩:=I.loc;refine .cons (by rw[I.ok.kind];decide) hf hn ?_ I.funs;exact Heap.get?_none_of_le (Zj I.ok.bsz I.ok.above)
theorem Yg.stkSub(I:Yg X Ya Z H s):∀b∈frs X.stack,b∈X.env.locals::X.fs:=fun b hb=>by
 rcases I.ok.stk with e | ⟨e,hf⟩
 ·rw[e]at hb;exact ZX _ hb
 ·rw[e]at hb;unfold frs at hb;rw[ZBd,hf]at hb;exact hb
theorem Yg.stkFree(I:Yg X Ya Z H s):∀b∈frs X.stack,H b=none:=fun b hb=>by
 rcases ZG.mp (I.stkSub b hb) with e | hb
 ·rw[e];exact I.free
 ·obtain⟨_,o,ho,_⟩:=I.ok.funs.mem hb;exact I.base.free b o ho (I.ok.frf b hb) fun z=>I.ok.exfs b z hb
theorem Yg.step {g':Array GenState} {d':Drawn} {ch:List Addr} (I:Yg X Ya Z H s)
 (hch:∀b∈ch,(b∈X.ex\/X.s₀.heap.objs.size<=b)/\b≠X.env.locals/\(∀x c,X.env.cells.lookup x=some c->c≠b)/\∀p∈X.pn++Ya,p.1≠b)
 (keep:∀b o,b≠X.env.locals->b∉X.fs->b∉ch->s.heap.get? b=some o->H b=none->h'.get? b=some o)
 (slot:∀b o,b≠X.env.locals->b∈X.fs->b∉ch->s.heap.get? b=some o->H b=none->∃sl,h'.get? b=some { o with slots:=sl }) (free:∀b o,b∉ch->s.heap.get? b=some o->H b=none->H' b=none)
 (there:∀b o,b∉ch->s.heap.get? b=some o->∃o',h'.get? b=some o')
 (tups:∀b xs,H b=some (.tup xs)->H' b=some (.tup xs)) (frzs:∀b o u,H b=some (.frz o u)->H' b=some (.frz o u)) (tbls:∀b ps,H b=some (.tbl ps)->∃more,H' b=some (.tbl (ps++more)))
 (ns:∀m,s.heap.Ns X.env.locals m->h'.Ns X.env.locals m) (hok:HOk X.prog X.w H' h') (hg:AllBare g') :
 Yg X Ya Z H' { s with heap:=h',gens:=g',drawn:=d',toks:=t' }:=by
 have neL:∀b o,X.s₀.heap.get? b=some o->b≠X.env.locals:=fun b o e=>ZT (ZY (ZF e) I.ok.above)
 have neC:∀b o,X.s₀.heap.get? b=some o->b∉X.ex->b∉ch:=fun b o e hx hb=>by
  rcases(hch b hb).1 with z | z
  ·exact hx z
  ·exact absurd (ZY (ZF e) z) (ZW _)
 have cellK:∀x c,X.env.cells.lookup x=some c->∀v,s.heap.IsCell c v->h'.IsCell c v:=fun x c e v ⟨o,ho,hd⟩=>by
  have nch:c∉ch:=fun z=>(hch c z).2.2.1 x c e rfl
  by_cases hc:c∈X.fs
  ·obtain⟨sl,q⟩:=slot c o (I.cne x c e) hc nch ho (I.freeC x c e);exact⟨_,q,hd⟩
  ·exact⟨o,keep c o (I.cne x c e) hc nch ho (I.freeC x c e),hd⟩
 refine⟨I.ok,I.os,hg,⟨fun b o e n hb hx=>?_,fun b o e n hb hx=>?_,fun b o e n hx=>?_,fun b o e hx=>?_,fun b xs e=>tups b xs (I.base.tups b xs e),fun b o xs e=>frzs b o xs (I.base.frzs b o xs e),fun b ps e=>?_⟩,?_,fun x c e=>?_,?_,fun x c e=>?_,fun p hp=>?_,hok,I.len⟩
 ·exact keep b o (neL b o e) hb (neC b o e hx) (I.base.keep b o e n hb hx) (I.base.free b o e n hx)
 ·obtain⟨sl,e1⟩:=I.base.slot b o e n hb hx;obtain⟨sl',e2⟩:=slot b _ (neL b o e) hb (neC b o e hx) e1 (I.base.free b o e n hx);exact⟨sl',e2⟩
 ·obtain⟨o',e1⟩:=I.base.there b o e hx;exact free b o' (neC b o e hx) e1 (I.base.free b o e n hx)
 ·obtain⟨o',e1⟩:=I.base.there b o e hx;exact there b o' (neC b o e hx) e1
 ·obtain⟨m1,e1⟩:=I.base.tbls b ps e;obtain⟨m2,e2⟩:=tbls b _ e1;exact⟨m1++m2,by rw[e2,Array.append_assoc]⟩
 ·obtain⟨m,hn,hl⟩:=I.loc;refine⟨m,ns m hn,fun i x v e1 e2 e3=>?_⟩;obtain⟨u,r,l⟩:=hl i x v e1 e2 e3;refine⟨u,r,?_⟩
  rcases l with l | ⟨k,c,e,z⟩
  ·exact .inl l
  ·exact .inr ⟨k,c,e,cellK x c e _ z⟩
 ·obtain⟨v,z⟩:=I.cell x c e;exact⟨v,cellK x c e v z⟩
 ·obtain⟨m,⟨o,_,_,ho,_⟩,_⟩:=I.loc;exact free _ o (fun z=>(hch _ z).2.1 rfl) ho I.free
 ·obtain⟨v,o,ho,hd⟩:=I.cell x c e;exact free c o (fun z=>(hch c z).2.2.1 x c e rfl) ho (I.freeC x c e)
 ·obtain⟨e,n,ne,nf,d⟩:=I.pin p hp;have nch:p.1∉ch:=fun z=>(hch p.1 z).2.2.2 p hp rfl
  exact⟨keep p.1 p.2 ne nf nch e n,free p.1 p.2 nch e n,ne,nf,d⟩
theorem Yg.un(I:Yg X Ya Z H s)(u:Un X.fs [] H H' s.heap h')(hok:HOk X.prog X.w H' h'):Yg X Ya Z H' { s with heap:=h',toks:=t' }:=by
 obtain⟨m,⟨o,es,ep,ho,r⟩,_⟩:=id I.loc;obtain⟨sl,hL⟩:=u.any ho I.free (by simp)
 exact I.step (g':=s.gens) (d':=s.drawn) (ch:=[]) (fun _ z=>nomatch z) (fun b o _ hb _ e n=>u.keep b o e n hb (by simp)) (fun b o _ hb _ e n=>u.slot b o e n hb (by simp)) (fun b o _ e n=>u.free b o e n (by simp)) (fun b o _ e=>u.there b o e (by simp)) u.tups u.frzs u.tbls (fun m' hm=>by
  obtain⟨o',es',ep',ho',r'⟩:=hm;rw[ho]at ho';cases ho';exact⟨_,es',ep',hL,r'⟩) hok I.bare
theorem Yg.call {g':Array GenState} {d':Drawn} {ch:List Addr} (I:Yg X Ya Z H s) (u:Un (frs X.stack) ch H H' s.heap h') (hok:HOk X.prog X.w H' h') (hg:AllBare g')
 (hch:∀b∈ch,(b∈X.ex\/X.s₀.heap.objs.size<=b)/\b≠X.env.locals/\(∀x c,X.env.cells.lookup x=some c->c≠b)/\∀p∈X.pn++Ya,p.1≠b) :
 Yg X Ya Z H' { s with heap:=h',gens:=g',drawn:=d',toks:=t' }:=by
 obtain⟨m,⟨o,es,ep,ho,r⟩,_⟩:=id I.loc;obtain⟨sl,hL⟩:=u.any ho I.free fun z=>(hch _ z).2.1 rfl
 exact I.step (ch:=ch) hch (fun b o hL hb hc e n=>u.keep b o e n (fun z=>(ZG.mp (I.stkSub b z)).elim hL hb) hc) (fun b o _ _ hc e n=>u.any e n hc) (fun b o hc e n=>u.free b o e n hc) (fun b o hc e=>u.there b o e hc) u.tups u.frzs u.tbls (fun m' hm=>by
  obtain⟨o',es',ep',ho',r'⟩:=hm;rw[ho]at ho';cases ho';exact⟨_,es',ep',hL,r'⟩) hok hg
theorem Yg.turned {it:Addr} (I:Yg X Ya Z H s) (k:∀b o,b≠it->s.heap.get? b=some o->h'.get? b=some o) (hn:H it=none) (hL:it≠X.env.locals)
 (h1:it∈X.ex\/X.s₀.heap.objs.size<=it) (h2:∀x c,X.env.cells.lookup x=some c->c≠it) (h3:∀p∈X.pn++Ya,p.1≠it):Yg X Ya Z H { s with heap:=h',toks:=t' }:=by
 have nit:∀b u,H b=some u->b≠it:=fun b u e z=>by rw[z,hn]at e;cases e
 refine I.step (g':=s.gens) (d':=s.drawn) (ch:=[it]) (fun b hb=>?_) (fun b o _ _ hc e _=>k b o (fun z=>hc (by simp[z])) e) (fun b o _ _ hc e _=>⟨o.slots,k b o (fun z=>hc (by simp[z])) e⟩) (fun _ _ _ _ n=>n)
  (fun b o hc e=>⟨o,k b o (fun z=>hc (by simp[z])) e⟩) (fun _ _ e=>e) (fun _ _ _ e=>e) (fun b ps e=>⟨#[],by rw[e];simp⟩) (fun m hm=>?_) (fun b u e=>?_) I.bare
 ·have e:b=it:=by simpa using hb
  subst e;exact⟨h1,hL,h2,h3⟩
 ·obtain⟨o,es,ep,ho,r⟩:=hm;exact⟨o,es,ep,k _ o (Ne.symm hL) ho,r⟩
 ·refine(I.hok b u e).stay (fun c v hc q=>k c v ?_ q) (fun _ q=>q) fun _ _ q=>q
  rcases hc with z | z
  ·rw[z];exact nit b u e
  ·exact nit c _ z
theorem Yg.tok(I:Yg X Ya Z H s)(t:Nat):Yg X Ya Z H { s with toks:=t }:=I.un (h':=s.heap) (t':=t) Un.refl I.hok
theorem Yg.kept(I:Yg X Ya Z H s)(k:∀b u,s.heap.get? b=some u->h'.get? b=some u):Yg X Ya Z H { s with heap:=h',toks:=t' }:=I.un (Un.kept k) (I.hok.kept k)
theorem Yg.laid(I:Yg X Ya Z H s)(k:∀b u,s.heap.get? b=some u->h'.get? b=some u)(hp:s.heap.objs.size<=a)(new:ObjOk X.prog X.w (upd H a o) h' a o) :
 Yg X Ya Z (upd H a o) { s with heap:=h',toks:=t' }:=I.un (Un.laid k hp (I.hok.fresh hp)) (I.hok.laid k hp new)
theorem Yg.write {x e:Addr} (I:Yg X Ya Z H s) (mu:Mut (H x)) (he:e=x\/H e=some (.own x)) (k:∀b u,b≠e->s.heap.get? b=some u->h'.get? b=some u) (heo:∃u,h'.get? e=some u)
 (new:ObjOk X.prog X.w (upd H x o) h' x o):Yg X Ya Z (upd H x o) { s with heap:=h',toks:=t' }:=I.un (Un.write mu he k heo) (I.hok.write mu he k heo new)
theorem Yg.weak{σ':List (Option V)}(I:Yg X Ya Z H s)(hl:σ'.length=Z.length)(w:∀(i:Nat) v,σ'[i]? = some (some v)->Z[i]? = some (some v)):Yg X Ya σ' H s :=
 ⟨I.ok,I.os,I.bare,I.base,let ⟨m,hn,hl'⟩:=I.loc;⟨m,hn,fun i x v e1 e2 e3=>hl' i x v e1 (w i v e2) e3⟩,I.cell,I.free,I.freeC,I.pin,I.hok,hl.trans I.len⟩
theorem Yg.pins_of{pins':List (Addr × Obj)}(I:Yg X Ya Z H s)(h:∀p∈pins',s.heap.get? p.1=some p.2/\H p.1=none/\p.1≠X.env.locals/\p.1∉X.fs/\∀v,p.2.data≠.cell v):Yg X pins' Z H s :=
 ⟨I.ok,I.os,I.bare,I.base,I.loc,I.cell,I.free,I.freeC,fun p hp=>(Zf.mp hp).elim (fun z=>I.pin p (Z5 _ z)) (h p),I.hok,I.len⟩
theorem L9{N:List Str}(hN:N.Nodup){j:Nat}(a:N[i]? = some x)(b:N[j]? = some x):i=j:=by
 obtain⟨h1,e1⟩:=Zg.mp a;obtain⟨h2,e2⟩:=Zg.mp b;exact(List.getElem_inj hN).mp (e1.trans e2.symm)
theorem Lo {M:Model} {Q:Unit->Shared->Prop} (I:Yg X Ya Z H s) (hN:X.N.Nodup) (hi:X.N[i]? = some x) (hx:Loc X.env.scope x) (r:Yi v u)
 (h:∀s',Yg X Ya (Z.set i (some v)) H s'->(∃a,Heap.SameBut a s.heap s'.heap/\(a=X.env.locals\/X.env.cells.lookup x=some a))->Q () s') (hf:X.fn x=true\/X.env.scope.names.lookup x=some .local:=by first | exact .inl rfl | exact .inr rfl | assumption):wpAny M A (storeName X.env x u) Q E s:=by
 obtain⟨m,hn,hl⟩:=id I.loc;have hcls:(X.env.scope.kind == .class || (X.env.scope.kind == .module && X.env.locals != X.env.globals))=false:=by rw[I.ok.kind];rfl
 have hiσ:i < Z.length:=by rw[I.len];exact(Zg.mp hi).1
 have cne:=I.cne
 have tracked:∀{a:Addr} {h':Heap},(∃o,s.heap.get? a=some o/\H a=none)->Heap.SameBut a s.heap h'->HOk X.prog X.w H h':=fun {a h'} ha hs b ob e=>by
  obtain⟨_,_,hfree⟩:=ha;refine(I.hok b ob e).stay (fun c w' hc q=>(hs.2 c ?_).trans q) (fun _ q=>q) fun _ _ q=>q
  rintro rfl
  rcases hc with rfl | hc
  ·rw[hfree]at e;cases e
  ·rw[hfree]at hc;cases hc
 rcases hx with hk | hk
 ·refine wpAny_storeName_local hk hn (fun h' hn' hs=>?_) hcls;obtain⟨oL,_,_,hoL,_⟩:=id hn;refine h _ ⟨I.ok,I.os,I.bare,⟨fun b o e n hb hx=>?_,fun b o e n hb hx=>?_,I.base.free,fun b o e hx=>?_,I.base.tups,I.base.frzs,I.base.tbls⟩,⟨_,hn',fun j y v' e1 e2 e3=>?_⟩,fun y c e=>?_,I.free,I.freeC,fun p hp=>?_,tracked ⟨oL,hoL,I.free⟩ hs,by simpa using I.len⟩ ⟨_,hs,.inl rfl⟩
  ·exact(hs.2 b (ZT (ZY (ZF e) I.ok.above))).trans (I.base.keep b o e n hb hx)
  ·obtain⟨sl,e1⟩:=I.base.slot b o e n hb hx;exact⟨sl,(hs.2 b (ZT (ZY (ZF e) I.ok.above))).trans e1⟩
  ·obtain⟨o',e1⟩:=I.base.there b o e hx;exact⟨o',(hs.2 b (ZT (ZY (ZF e) I.ok.above))).trans e1⟩
  ·by_cases hj:j=i
   ·subst hj;rw[hi]at e1;cases e1;rw[List.getElem?_set_self hiσ]at e2;cases e2;exact⟨u,r,.inl ⟨hk,by simp⟩⟩
   ·rw[List.getElem?_set_ne (Ne.symm hj)]at e2;obtain⟨u',r',q⟩:=hl j y v' e1 e2 e3;refine⟨u',r',?_⟩
    rcases q with ⟨k,e⟩ | ⟨k,c,e,z⟩
    ·refine .inl ⟨k,?_⟩
     have:y≠x:=fun e=>hj (L9 hN e1 (e ▸ hi))
     simp[this,e]
    ·exact .inr ⟨k,c,e,z.sameBut hs (cne y c e)⟩
  ·obtain⟨w',z⟩:=I.cell y c e;exact⟨w',z.sameBut hs (cne y c e)⟩
  ·obtain⟨e,n,ne,nf,d⟩:=I.pin p hp;exact⟨(hs.2 p.1 ne).trans e,n,ne,nf,d⟩
 ·have hfn:X.fn x=true:=by
   rcases hf with z | z
   ·exact z
   ·rw[z]at hk;cases hk
  obtain⟨c,hc⟩:=I.ok.has x (.inl hk);obtain⟨w',z⟩:=I.cell x c hc;refine wpAny_storeName_cell I.ok.kind hk hc z (fun h' hc' hs=>?_);obtain⟨oc,hoc,hocd⟩:=id z;refine h { s with heap:=h' } ⟨I.ok,I.os,I.bare,⟨fun b o e n hb hx=>?_,fun b o e n hb hx=>?_,I.base.free,fun b o e hx=>?_,I.base.tups,I.base.frzs,I.base.tbls⟩,⟨m,hn.sameBut hs (Ne.symm (cne x c hc)),fun j y v' e1 e2 e3=>?_⟩,fun y c' e=>?_,I.free,I.freeC,fun p hp=>?_,tracked ⟨oc,hoc,I.freeC x c hc⟩ hs,by simpa using I.len⟩ ⟨c,hs,.inr hc⟩
  ·exact(hs.2 b (ZT (ZY (ZF e) (I.ok.cab x c hfn hc)))).trans (I.base.keep b o e n hb hx)
  ·obtain⟨sl,e1⟩:=I.base.slot b o e n hb hx;exact⟨sl,(hs.2 b (ZT (ZY (ZF e) (I.ok.cab x c hfn hc)))).trans e1⟩
  ·obtain⟨o',e1⟩:=I.base.there b o e hx;exact⟨o',(hs.2 b (ZT (ZY (ZF e) (I.ok.cab x c hfn hc)))).trans e1⟩
  ·by_cases hj:j=i
   ·subst hj;rw[hi]at e1;cases e1;rw[List.getElem?_set_self hiσ]at e2;cases e2;exact⟨u,r,.inr ⟨.inl hk,c,hc,hc'⟩⟩
   ·rw[List.getElem?_set_ne (Ne.symm hj)]at e2;obtain⟨u',r',q⟩:=hl j y v' e1 e2 e3;refine⟨u',r',?_⟩
    rcases q with q | ⟨k,c',e,z'⟩
    ·exact .inl q
    ·refine .inr ⟨k,c',e,z'.sameBut hs ?_⟩;rintro rfl;exact hj (L9 hN e1 (I.ok.inj _ _ _ e hc ▸ hi))
  ·by_cases hcc:c'=c
   ·subst hcc;exact⟨_,hc'⟩
   ·obtain⟨w2,z2⟩:=I.cell y c' e;exact⟨w2,z2.sameBut hs hcc⟩
  ·obtain⟨e,n,ne,nf,d⟩:=I.pin p hp;refine⟨(hs.2 p.1 ?_).trans e,n,ne,nf,d⟩;intro q;rw[q,hoc]at e;have q':oc=p.2:=ZV e;exact d w' (by rw[<- q'];exact hocd)
theorem Ld {M:Model} {Q:Unit->Shared->Prop} (I:Yg X Ya Z H s) (hN:X.N.Nodup) (hi:X.N[i]? = some x) (hx:Loc X.env.scope x) (r:Yi v u)
 (h:∀s',Yg X Ya (Z.set i (some v)) H s'->Q () s') (hf:X.fn x=true\/X.env.scope.names.lookup x=some .local:=by first | exact .inl rfl | exact .inr rfl | assumption):wpAny M A (storeName X.env x u) Q E s :=
 Lo I hN hi hx r (fun s' I' _=>h s' I') hf
theorem Yg.call' {s':Shared} {ch:List Addr} (I:Yg X Ya Z H s) (ho:s'.os=s.os) (u:Un (frs X.stack) ch H H' s.heap s'.heap) (hok:HOk X.prog X.w H' s'.heap) (hg:AllBare s'.gens)
 (hch:∀b∈ch,(b∈X.ex\/X.s₀.heap.objs.size<=b)/\b≠X.env.locals/\(∀x c,X.env.cells.lookup x=some c->c≠b)/\∀p∈X.pn++Ya,p.1≠b):Yg X Ya Z H' s':=by
 obtain⟨h',g',d',t',o'⟩:=s';have e:o'=s.os:=ho;subst e;exact I.call (g':=g') (t':=t') (d':=d') u hok hg hch
end
noncomputable abbrev XK:=Value->Option Addr->Hp->Prop
noncomputable abbrev St:=List (Option V)
noncomputable abbrev VK:=V->Hp->Prop
noncomputable abbrev TE:=St->Hp->VK->Prop
noncomputable abbrev TT:=St->Hp->(Bool->Hp->Prop)->Prop
noncomputable abbrev TA:=St->Hp->(List V->Hp->Prop)->Prop
structure Ends where
 nx:St->Hp->Prop
 rt:VK
 bk:St->Hp->Prop:=fun _ _=>False
 ct:St->Hp->Prop:=fun _ _=>False
noncomputable abbrev TS:=Ends->St->Hp->Prop
noncomputable def EP(X:Cx)(Ya:List (Addr × Obj))(Z:St)(Q:VK)(u:Value)(s':Shared):Prop:=∃v H',Yg X Ya Z H' s'/\Yi v u/\Q v H'
noncomputable def TP(X:Cx)(Ya:List (Addr × Obj))(Z:St)(Q:Bool->Hp->Prop)(b:Bool)(s':Shared):Prop:=∃H',Yg X Ya Z H' s'/\Q b H'
noncomputable def AP(X:Cx)(Ya:List (Addr × Obj))(Z:St)(Q:List V->Hp->Prop)(us:List Value)(s':Shared):Prop:=∃vs H',Yg X Ya Z H' s'/\Yk vs us/\Q vs H'
noncomputable def SP(X:Cx)(Ya:List (Addr × Obj))(D:Ends)(f:Flow)(s':Shared):Prop :=
 match f with
 | .next=>∃σ' H',Yg X Ya σ' H' s'/\D.nx σ' H'
 | .brk=>∃σ' H',Yg X Ya σ' H' s'/\D.bk σ' H'
 | .cont=>∃σ' H',Yg X Ya σ' H' s'/\D.ct σ' H'
 | .ret u=>∃v σ' H',Yg X Ya σ' H' s'/\Yi v u/\D.rt v H'
noncomputable def PE(X:Cx)(e:Expr)(t:TE):Prop :=
 ∀(Ya:List (Addr × Obj)) (s:Shared) (Z:St) (H:Hp) (Q:VK),Yg X Ya Z H s->t Z H Q->wpAny (model X.prog X.w) X.A (eval e X.env) (EP X Ya Z Q) X.xe s
noncomputable def PT(X:Cx)(e:Expr)(t:TT):Prop :=
 ∀(Ya:List (Addr × Obj)) (s:Shared) (Z:St) (H:Hp) (Q:Bool->Hp->Prop),Yg X Ya Z H s->t Z H Q->wpAny (model X.prog X.w) X.A (isTrue e X.env (eval e X.env)) (TP X Ya Z Q) X.xe s
noncomputable def PW(X:Cx)(e:Expr)(t:TT):Prop :=
 ∀(whole:Sem Value) (Ya:List (Addr × Obj)) (s:Shared) (Z:St) (H:Hp) (Q:Bool->Hp->Prop),Yg X Ya Z H s->t Z H Q->wpAny (model X.prog X.w) X.A (isTrue e X.env whole) (TP X Ya Z Q) X.xe s
theorem PW.pt{X:Cx}{e:Expr}{t:TT}(h:PW X e t):PT X e t:=h _
noncomputable def PA(X:Cx)(es:List Expr)(t:TA):Prop :=
 ∀(pos:Pos) (Ya:List (Addr × Obj)) (s:Shared) (Z:St) (H:Hp) (Q:List V->Hp->Prop),Yg X Ya Z H s->t Z H Q->wpAny (model X.prog X.w) X.A (spliced (backTo pos (starEach es X.env))) (AP X Ya Z Q) X.xe s
noncomputable def PS(X:Cx)(st:Stmt)(t:TS):Prop :=
 ∀(Ya:List (Addr × Obj)) (s:Shared) (Z:St) (H:Hp) (D:Ends),Yg X Ya Z H s->t D Z H->wpAny (model X.prog X.w) X.A (exec st X.env) (SP X Ya D) X.xe s
noncomputable def PSs(X:Cx)(st:List Stmt)(t:TS):Prop :=
 ∀(Ya:List (Addr × Obj)) (s:Shared) (Z:St) (H:Hp) (D:Ends),Yg X Ya Z H s->t D Z H->wpAny (model X.prog X.w) X.A (execs st X.env) (SP X Ya D) X.xe s
theorem Yn{α:Type}{t:Sem α}{Q Q':α->Shared->Prop}{M:Model}(h:wpAny M A t Q E s)(hQ:∀a s,Q a s->Q' a s):wpAny M A t Q' E s:=Zp h hQ fun _ _ x=>x
section
variable {X:Cx}
noncomputable def V3(i:Nat):TE:=fun Z H Q=>∃v,Z[i]? = some (some v)/\Q v H
noncomputable def tC(v:V):TE:=fun _ H Q=>Q v H
theorem Uk(hN:X.N[i]? = some x)(hv:Vis X.env.scope x)(hd:(x == ("__debug__" : Str))=false:=by decide)(hcd:(x == ("__classdict__" : Str))=false:=by decide):PE X (.Name x pos) (V3 i):=by
 intro Ya s Z H Q I h;obtain⟨v,e,h⟩:=h;obtain⟨m,hn,hl⟩:=I.loc;obtain⟨u,r,l⟩:=hl i x v hN e hv;have fin:EP X Ya Z Q u s:=⟨v,H,I,r,h⟩
 rcases l with ⟨hk,hm⟩ | ⟨hk,c,hc,hcell⟩
 ·exact wpAny_Name (wpAny_loadName_local I.ok.kind hk hn hm fin) hd
 ·rcases hk with hk | hk
  ·exact wpAny_Name (wpAny_loadName_cell I.ok.kind hk hc hcell fin) hd
  ·exact wpAny_Name (wpAny_loadName_free I.ok.kind hk hc hcell fin hcd) hd
theorem AC{i j pos}:PE X (.Constant (.int i) j pos) (tC (.int i)):=fun _ _ _ H _ I h=>wpAny_Constant_int ⟨.int i,H,I.tok _,⟨_,rfl⟩,h⟩
theorem Am{b j pos}:PE X (.Constant (.bool b) j pos) (tC (.bl b)):=fun _ _ _ H _ I h=>Constant_bool ⟨.bl b,H,I,rfl,h⟩
theorem Fz{j pos}:PE X (.Constant .none j pos) (tC .non):=fun _ _ _ H _ I h=>Constant_none ⟨.non,H,I,rfl,h⟩
theorem DC{x j pos}:PE X (.Constant (.str x) j pos) (tC (.str x)):=fun _ _ _ H _ I h=>Calls.Constant_str ⟨.str x,H,I.tok _,⟨_,rfl⟩,h⟩
noncomputable def Gl(X:Cx)(x:Str):Prop:=X.env.kindOf x=some .globalImplicit
theorem GP (I:Yg X Ya Z H s) (hg:Gl X x) (hm:X.mg x=some u) (h:Q u s)
 (hd:(x == ("__debug__" : Str))=false:=by decide):wpAny (model X.prog X.w) X.A (eval (.Name x pos) X.env) Q E s :=
 Calls.Name_function_global I.ok.kind hg (Calls.loadGlobal_global (by rw[I.ok.glob];exact I.mod.glob.keeps I.bk) hm h) hd
theorem Cu (I:Yg X Ya Z H s) (hg:Gl X x) (hm:X.mg x=none) (hv:bootBuiltins x=some u) (h:Q u s)
 (hn:x ≠ "__name__":=by decide) (hd:(x == ("__debug__" : Str))=false:=by decide):wpAny (model X.prog X.w) X.A (eval (.Name x pos) X.env) Q E s:=by
 obtain⟨mb,h1,h2⟩:=I.mod.blt;exact Calls.Name_function_global I.ok.kind hg (Calls.loadGlobal_builtin (by rw[I.ok.glob];exact I.mod.glob.keeps I.bk) hm (by rw[I.ok.blt];exact h1.keeps I.bk) ((h2 x hn).trans hv) h) hd
theorem GI(hg:Gl X x)(hm:X.mg x=some u)(r:Yi v u)(hd:(x == ("__debug__" : Str))=false:=by decide):PE X (.Name x pos) (tC v) :=
 fun _ _ _ H _ I h=>GP I hg hm ⟨v,H,I,r,h⟩ hd
theorem EL(hg:Gl X x)(hm:X.mg x=none)(hv:bootBuiltins x=some u)(r:Yi v u)(hn:x ≠ "__name__":=by decide)(hd:(x == ("__debug__" : Str))=false:=by decide):PE X (.Name x pos) (tC v) :=
 fun _ _ _ H _ I h=>Cu I hg hm hv ⟨v,H,I,r,h⟩ hn hd
variable {a b:Expr}{ta tb:TE}{pos:Pos}
theorem Ip(b:Expr){op:CmpOp}(h:op≠.In)(h2:op≠.NotIn):behindInMarks op b=false:=by
 have e1:(op == CmpOp.In)=false:=by cases op <;> first | rfl | exact absurd rfl h
 have e2:(op == CmpOp.NotIn)=false:=by cases op <;> first | rfl | exact absurd rfl h2
 cases b <;> simp[behindInMarks,e1,e2]
variable {tA tB':TT}{rest:List Expr}
noncomputable def Lw(t u:TT):TT:=fun Z H Q=>t Z H fun c H1=>if c=true then u Z H1 Q else Q false H1
noncomputable def tOr(t u:TT):TT:=fun Z H Q=>t Z H fun c H1=>if c=true then Q true H1 else u Z H1 Q
noncomputable def Mc(t:TT):TT:=fun Z H Q=>t Z H fun c H1=>Q (!c) H1
theorem C5(ha:PT X a tA):PW X (.BoolOp .And [a] pos) tA:=by
 intro wh Ya s Z H Q I h;refine isTrue_and (Yn (ha Ya s Z H Q I h) fun c s1 e=>?_);cases c with
 | true=>exact isTrue_and_nil e
 | false=>exact e
theorem C6(ha:PT X a tA):PW X (.BoolOp .Or [a] pos) tA:=by
 intro wh Ya s Z H Q I h;refine isTrue_or (Yn (ha Ya s Z H Q I h) fun c s1 e=>?_);cases c with
 | false=>exact isTrue_or_nil e
 | true=>exact e
theorem C1(ha:PT X a tA)(hb:PW X (.BoolOp .And (b::rest) pos) tB'):PW X (.BoolOp .And (a::b::rest) pos) (Lw tA tB'):=by
 intro wh Ya s Z H Q I h;refine isTrue_and (Yn (ha Ya s Z H _ I h) fun c s1 ⟨H1,I1,q1⟩=>?_);cases c with
 | true=>exact hb wh Ya s1 Z H1 Q I1 q1
 | false=>exact⟨H1,I1,q1⟩
theorem Ce(ha:PT X a tA)(hb:PW X (.BoolOp .Or (b::rest) pos) tB'):PW X (.BoolOp .Or (a::b::rest) pos) (tOr tA tB'):=by
 intro wh Ya s Z H Q I h;refine isTrue_or (Yn (ha Ya s Z H _ I h) fun c s1 ⟨H1,I1,q1⟩=>?_);cases c with
 | true=>exact⟨H1,I1,q1⟩
 | false=>exact hb wh Ya s1 Z H1 Q I1 q1
theorem CP(ha:PT X a tA):PT X (.UnaryOp .Not a pos) (Mc tA):=by
 intro Ya s Z H Q I h;exact isTrue_not (ha Ya s Z H (fun c H1=>Q (!c) H1) I h)
noncomputable def PF(ta tb:TE):TE:=fun Z H Q=>ta Z H fun x H1=>∃c,x=.bl c/\if c=true then tb Z H1 Q else Q (.bl false) H1
noncomputable def PY(ta tb:TE):TE:=fun Z H Q=>ta Z H fun x H1=>∃c,x=.bl c/\if c=true then Q (.bl true) H1 else tb Z H1 Q
noncomputable def Wv(ta:TE):TE:=fun Z H Q=>ta Z H fun x H1=>∃c,x=.bl c/\Q (.bl (!c)) H1
theorem CY{op}{t:TE}(h:PE X a t):PE X (.BoolOp op [a] pos) t:=fun Ya s Z H Q I hw=>BoolOp_one (h Ya s Z H Q I hw)
theorem UV(ha:PE X a ta)(hb:PE X (.BoolOp .And (b::rest) pos) tb):PE X (.BoolOp .And (a::b::rest) pos) (PF ta tb):=by
 intro Ya s Z H Q I h;refine BoolOp_and (Yn (ha Ya s Z H _ I h) fun v s1 ⟨x,H1,I1,r1,q1⟩=>?_);obtain⟨c,rfl,q1⟩:=q1;cases r1;refine ZBB ?_;cases c with
 | true=>exact hb Ya s1 Z H1 Q I1 q1
 | false=>exact⟨.bl false,H1,I1,rfl,q1⟩
theorem Oj(ha:PE X a ta)(hb:PE X (.BoolOp .Or (b::rest) pos) tb):PE X (.BoolOp .Or (a::b::rest) pos) (PY ta tb):=by
 intro Ya s Z H Q I h;refine BoolOp_or (Yn (ha Ya s Z H _ I h) fun v s1 ⟨x,H1,I1,r1,q1⟩=>?_);obtain⟨c,rfl,q1⟩:=q1;cases r1;refine ZBB ?_;cases c with
 | false=>exact hb Ya s1 Z H1 Q I1 q1
 | true=>exact⟨.bl true,H1,I1,rfl,q1⟩
theorem TK(ha:PE X a ta):PE X (.UnaryOp .Not a pos) (Wv ta):=by
 intro Ya s Z H Q I h;refine UnaryOp_ (Yn (ha Ya s Z H _ I h) fun v s1 ⟨x,H1,I1,r1,q1⟩=>?_);obtain⟨c,rfl,q1⟩:=q1;cases r1;exact not_of (ZBB ⟨.bl (!c),H1,I1,rfl,q1⟩)
noncomputable def tIf(t:TT)(ta tb:TE):TE:=fun Z H Q=>t Z H fun c H1=>if c=true then ta Z H1 Q else tb Z H1 Q
theorem DH{c:Expr}(hc:PT X c tA)(ha:PE X a ta)(hb:PE X b tb):PE X (.IfExp c a b pos) (tIf tA ta tb):=by
 intro Ya s Z H Q I h;refine wpAny_IfExp (Yn (hc Ya s Z H _ I h) fun d s1 ⟨H1,I1,q1⟩=>?_);cases d with
 | true=>exact ha Ya s1 Z H1 Q I1 q1
 | false=>exact hb Ya s1 Z H1 Q I1 q1
end
noncomputable def Yw(K:W.Frag)(H:Hp)(a:Addr)(xs:List V):Prop :=
 Rd H a (.lst xs) \/
  ∃(o:Obj) (Ye:Array Value) (n:Nat),K.lookup a=some o/\o.cls=.type "list" /\ o.dict=none/\o.data=.seq Ye n/\Ye.size<=sizeLine/\Yk xs Ye.toList
noncomputable def Yo(K:W.Frag)(H:Hp)(a:Addr)(xs:List V):Prop :=
 Rd H a (.tup xs) \/
  ∃(o:Obj) (Ye:Array Value) (n:Nat),K.lookup a=some o/\o.cls=.type "tuple" /\ o.dict=none/\o.data=.seq Ye n/\Ye.size<=sizeLine/\Yk xs Ye.toList
noncomputable def PK:Value->Option V
 | .none=>some .non
 | .bool b=>some (.bl b)
 | .int i _=>some (.int i)
 | .str x _=>some (.str x)
 | .bytes b _=>some (.byt b)
 | .float b _=>some (.flt b)
 | .ref a=>some (.ref a)
 | .type n=>some (.ty n)
 | _=>none
theorem Yi.abs{x:V}(r:Yi x u):PK u=some x:=by
 cases x with
 | non=>cases r;rfl
 | bl _=>cases r;rfl
 | int _=>obtain⟨t,rfl⟩:=r;rfl
 | str _=>obtain⟨t,rfl⟩:=r;rfl
 | byt _=>obtain⟨t,rfl⟩:=r;rfl
 | flt _=>obtain⟨t,rfl⟩:=r;rfl
 | ref _=>cases r;rfl
 | ty _=>cases r;rfl
theorem Yi.inj{x y:V}(r:Yi x u)(q:Yi y u):x=y:=ZV (r.abs.symm.trans q.abs)
theorem Yk.inj:∀{xs ys:List V} {us:List Value},Yk xs us->Yk ys us->xs=ys
 | _,_,_,.nil,.nil=>rfl
 | _,_,_,.cons r t,.cons r' t'=>by rw[r.inj r',Yk.inj t t']
section
variable {X:Cx}{Ya:List (Addr × Obj)}{Z:St}{H:Hp}{s:Shared}{a:Addr}{xs ys:List V}
theorem Yw.of(h:H a=some (.lst xs)):Yw K H a xs:=.inl (.inl h)
theorem Yo.of(h:H a=some (.tup xs)):Yo K H a xs:=.inl (.inl h)
theorem Yg.list(I:Yg X Ya Z H s)(h:Yw X.K H a xs):∃Ye:List Value,Yk xs Ye/\PlainL s.heap a Ye.toArray/\xs.length<=sizeLine:=by
 rcases h with h | ⟨o,Ye,n,hk,hc,hd,hs,hz,r⟩
 ·obtain⟨z,Ye,n,r,e⟩:=h.ok I.hok;exact⟨Ye,r,⟨_,n,e,rfl,rfl,rfl⟩,z⟩
 ·refine⟨Ye.toList,r,⟨o,n,I.kIn a o hk,hc,hd,by simpa using hs⟩,?_⟩;have e:=r.length;simp only[Zh]at e;lia
theorem Yg.tuple(I:Yg X Ya Z H s)(h:Yo X.K H a xs):∃Ye:List Value,Yk xs Ye/\IsTup s.heap a Ye.toArray/\xs.length<=sizeLine:=by
 rcases h with h | ⟨o,Ye,n,hk,hc,hdd,hs,hz,r⟩
 ·obtain⟨z,Ye,r,p⟩:=h.ok I.hok;exact⟨Ye,r,p.tup,z⟩
 ·refine⟨Ye.toList,r,⟨o,I.kIn a o hk,hc,n,by simpa using hs⟩,?_⟩;have e:=r.length;simp only[Zh]at e;lia
theorem Yg.list_inj(I:Yg X Ya Z H s)(h:Yw X.K H a xs)(h':Yw X.K H a ys):xs=ys:=by
 obtain⟨Ye,r,⟨o,n,e,_,_,d⟩,_⟩:=I.list h;obtain⟨its',r',⟨o',n',e',_,_,d'⟩,_⟩:=I.list h';rw[e]at e';cases e';rw[d]at d';injection d' with d1 _
 have:Ye=its':=by simpa using congrArg Array.toList d1
 subst this;exact r.inj r'
theorem Yg.tuple_inj(I:Yg X Ya Z H s)(h:Yo X.K H a xs)(h':Yo X.K H a ys):xs=ys:=by
 obtain⟨Ye,r,⟨o,e,_,n,d⟩,_⟩:=I.tuple h;obtain⟨its',r',⟨o',e',_,n',d'⟩,_⟩:=I.tuple h';rw[e]at e';cases e';rw[d]at d';injection d' with d1 _
 have:Ye=its':=by simpa using congrArg Array.toList d1
 subst this;exact r.inj r'
end
noncomputable abbrev Cx.wish(X:Cx)(E:Value->Shared->Prop):Cx:={ X with xe:=E }
noncomputable abbrev Cx.nox(X:Cx):Cx:=X.wish fun _ _=>False
theorem Cx.Ok.wish{X:Cx}(ok:X.Ok)(E:Value->Shared->Prop):(X.wish E).Ok :=
 ⟨ok.mod,ok.kind,ok.glob,ok.blt,ok.above,ok.inj,ok.has,ok.cab,ok.hd,ok.frames,ok.stk,ok.exf,ok.bs,ok.bsz,ok.noex,ok.exfs,ok.funs,ok.frf⟩
theorem Cx.Ok.unwish{X:Cx}(ok:(X.wish E).Ok):X.Ok :=
 ⟨ok.mod,ok.kind,ok.glob,ok.blt,ok.above,ok.inj,ok.has,ok.cab,ok.hd,ok.frames,ok.stk,ok.exf,ok.bs,ok.bsz,ok.noex,ok.exfs,ok.funs,ok.frf⟩
section
variable {X:Cx}{Ya:List (Addr × Obj)}{Z:St}{H:Hp}{s:Shared}{E:Value->Shared->Prop}
theorem Yg.wish(I:Yg X Ya Z H s)(E:Value->Shared->Prop):Yg (X.wish E) Ya Z H s:=⟨I.ok.wish E,I.os,I.bare,I.base,I.loc,I.cell,I.free,I.freeC,I.pin,I.hok,I.len⟩
theorem Yg.unwish(I:Yg (X.wish E) Ya Z H s):Yg X Ya Z H s:=⟨I.ok.unwish,I.os,I.bare,I.base,I.loc,I.cell,I.free,I.freeC,I.pin,I.hok,I.len⟩
theorem SP.unwish{D:Ends}{f:Flow}{s':Shared}(h:SP (X.wish E) Ya D f s'):SP X Ya D f s':=by
 cases f with
 | next=>obtain⟨σ',H',I,q⟩:=h;exact⟨σ',H',I.unwish,q⟩
 | brk=>obtain⟨σ',H',I,q⟩:=h;exact⟨σ',H',I.unwish,q⟩
 | cont=>obtain⟨σ',H',I,q⟩:=h;exact⟨σ',H',I.unwish,q⟩
 | ret u=>obtain⟨v,σ',H',I,r,q⟩:=h;exact⟨v,σ',H',I.unwish,r,q⟩
theorem PSs.nox{st:List Stmt}{t:TS}(h:PSs X.nox st t):PSs X st t:=fun Ya s Z H D I hw =>
 Zp (h Ya s Z H D (I.wish _) hw) (fun _ _ q=>q.unwish) fun _ _ z=>False.elim z
end
section
variable {X:Cx}{st:Stmt}{rest:List Stmt}{t u:TS}{e:Expr}{te:TE}{pos:Pos}
noncomputable def Cc:TS:=fun D Z H=>D.nx Z H
noncomputable def J2(t u:TS):TS:=fun D Z H=>t { D with nx:=u D } Z H
theorem Aq:PSs X [] Cc:=fun _ _ Z H _ I h=>wpAny_execs_nil ⟨Z,H,I,h⟩
theorem AF(h1:PS X st t)(h2:PSs X rest u):PSs X (st::rest) (J2 t u):=by
 intro Ya s Z H D I h;refine wpAny_execs_cons (Yn (h1 Ya s Z H { D with nx:=u D } I h) fun f s1 q=>?_);cases f with
 | next =>
  obtain⟨σ',H',I',q⟩:=q;exact h2 Ya s1 σ' H' D I' q
 | ret v=>exact q
 | brk=>exact q
 | cont=>exact q
theorem AH(h1:PS X st t):PSs X [st] t:=by
 intro Ya s Z H D I h;refine wpAny_execs_cons (Yn (h1 Ya s Z H D I h) fun f s1 q=>?_);cases f with
 | next=>exact wpAny_execs_nil q
 | ret v=>exact q
 | brk=>exact q
 | cont=>exact q
theorem Yg.quiet(I:Yg X Ya Z H s):interactive X.env=false:=by simp[interactive,I.ok.kind]
noncomputable def Jn(te:TE):TS:=fun D Z H=>te Z H fun _ H1=>D.nx Z H1
theorem Dt(he:PE X e te)(hs:swapsWith e none pos.line X.env=pure false:=by rfl):PS X (.Expr e pos) (Jn te):=by
 intro Ya s Z H D I h;exact wpAny_Expr_any (Yn (he Ya s Z H _ I h) fun v s1 ⟨x,H1,I1,r1,q1⟩=>⟨Z,H1,I1,q1⟩) I.quiet hs
noncomputable def OD(te:TE):TS:=fun D Z H=>te Z H D.rt
theorem AK(he:PE X e te):PS X (.Return (some e) pos) (OD te):=by
 intro Ya s Z H D I h;exact wpAny_Return_some (Yn (he Ya s Z H _ I h) fun v s1 ⟨x,H1,I1,r1,q1⟩=>⟨x,Z,H1,I1,r1,q1⟩)
noncomputable def Nj(c:TT)(t u:TS):TS:=fun D Z H=>c Z H fun b H1=>if b=true then t D Z H1 else u D Z H1
theorem Ar{c:Expr}{a b:List Stmt}{tc:TT}(hc:PT X c tc)(ha:PSs X a t)(hb:PSs X b u):PS X (.If c a b pos) (Nj tc t u):=by
 intro Ya s Z H D I h;refine wpAny_If (Yn (hc Ya s Z H _ I h) fun d s1 ⟨H1,I1,q1⟩=>?_);cases d with
 | true=>exact ha Ya s1 Z H1 D I1 q1
 | false=>exact hb Ya s1 Z H1 D I1 q1
noncomputable def Xa:TS:=fun _ _ _=>False
theorem O0:PS X st Xa:=fun _ _ _ _ _ _ h=>h.elim
end
noncomputable abbrev TG:=V->St->Hp->(St->Hp->Prop)->Prop
noncomputable abbrev TGs:=List V->St->Hp->(St->Hp->Prop)->Prop
noncomputable def PG(X:Cx)(target:Expr)(t:TG):Prop :=
 ∀(Ya:List (Addr × Obj)) (s:Shared) (Z:St) (H:Hp) (v:V) (u:Value) (Q:St->Hp->Prop),Yg X Ya Z H s->Yi v u->t v Z H Q ->
  wpAny (model X.prog X.w) X.A (assign target X.env u) (fun _ s'=>∃σ' H',Yg X Ya σ' H' s'/\Q σ' H') X.xe s
noncomputable def PGs(X:Cx)(ts:List Expr)(t:TGs):Prop :=
 ∀(Ya:List (Addr × Obj)) (s:Shared) (Z:St) (H:Hp) (vs:List V) (us:List Value) (Q:St->Hp->Prop),Yg X Ya Z H s->Yk vs us->t vs Z H Q ->
  wpAny (model X.prog X.w) X.A (assignInOrder ((assignEach ts X.env).map (·.2)) us) (fun _ s'=>∃σ' H',Yg X Ya σ' H' s'/\Q σ' H') X.xe s
noncomputable abbrev Er:=V->V->V->Hp->(Hp->Prop)->Prop
noncomputable def IM(X:Cx)(t:Er):Prop :=
 ∀(Ya:List (Addr × Obj)) (s:Shared) (Z:St) (H:Hp) (o i v:V) (ov iv u:Value) (Q:Hp->Prop),Yg X Ya Z H s->Yi o ov->Yi i iv->Yi v u->t o i v H Q ->
  wpAny (model X.prog X.w) X.A (setItem ov iv u) (fun _ s'=>∃H',Yg X Ya Z H' s'/\Q H') X.xe s
section
variable {X:Cx}{pos:Pos}
noncomputable def AZ(i:Nat):TG:=fun v Z H Q=>Q (Z.set i (some v)) H
theorem AR(hN:X.N.Nodup)(hi:X.N[i]? = some x)(hx:Loc X.env.scope x)(hf:X.fn x=true\/X.env.scope.names.lookup x=some .local:=by first | exact .inl rfl | exact .inr rfl | assumption):PG X (.Name x pos) (AZ i):=by
 intro Ya s Z H v u Q I r h;exact wpAny_assign_Name (Ld I hN hi hx r (fun s' I'=>⟨_,H,I',h⟩) hf)
noncomputable def JI:TGs:=fun vs Z H Q=>vs=[]/\Q Z H
noncomputable def IF(t:TG)(u:TGs):TGs:=fun vs Z H Q=>∃v r,vs=v::r/\t v Z H fun σ' H'=>u r σ' H' Q
theorem DG:PGs X [] JI:=by
 intro Ya s Z H vs us Q I r h;obtain⟨e,h⟩:=h;subst e;cases r;exact assignInOrder_nil ⟨Z,H,I,h⟩
theorem Bg {e:Expr} {es:List Expr} {t:TG} {u:TGs} (h1:PG X e t) (h2:PGs X es u)
 (hs:(assignEach (e::es) X.env).map (·.2)=assign e X.env::(assignEach es X.env).map (·.2):=by rfl):PGs X (e::es) (IF t u):=by
 intro Ya s Z H vs us Q I r h;obtain⟨v,vr,e1,h⟩:=h;subst e1;cases r with
 | cons r rr =>
  rw[hs];refine assignInOrder_cons (Yn (h1 Ya s Z H _ _ _ I r h) fun _ s1 ⟨σ1,H1,I1,q1⟩=>?_);exact h2 Ya s1 σ1 H1 _ _ Q I1 rr q1
noncomputable def HQ(K:W.Frag)(n:Nat)(t:TGs):TG:=fun v Z H Q=>∃a xs,v=.ref a/\Yo K H a xs/\xs.length=n/\t xs Z H Q
theorem Lz {es:List Expr} {t:TGs} {n:Nat} (hc:X.calm=true) (h:PGs X es t)
 (hn:(assignEach es X.env).length=n:=by rfl) (hst:(assignEach es X.env).findIdx? (·.1)=none:=by rfl):PG X (.Tuple es k pos) (HQ X.K n t):=by
 intro Ya s Z H v u Q I r hw;obtain⟨a,xs,e1,hq,hl,hw⟩:=hw;subst e1;cases r;obtain⟨Ye,rv,ht,hz⟩:=I.tuple hq;refine assign_Tuple_tuple (I.ok.hd hc) ht (by simp[hn,<- hl,rv.length]) hst fun h' hx=>?_
 have I1:Yg X Ya Z H { s with heap:=h' }:=I.kept (t':=s.toks) fun b o e=>hx b o (ZT (ZF e)) e
 exact h Ya _ Z H xs _ Q I1 (by simpa using rv) hw
noncomputable def MJ(to ti:TE)(t:Er):TG:=fun v Z H Q=>to Z H fun o H1=>ti Z H1 fun i H2=>t o i v H2 fun H3=>Q Z H3
theorem EC {o i:Expr} {to ti:TE} {t:Er} (ho:PE X o to) (hi:PE X i ti) (hs:IM X t)
 (ha:∀v,assign (.Subscript o i pos) X.env v=(do
   let ov <- holding [v] (eval o X.env);let iv <- holding [v,ov] (eval i X.env)
   standAt pos
   holding [v,ov,iv] (setItem ov iv v)
   release [v,ov,iv] []):=by intro _;rfl):PG X (.Subscript o i pos) (MJ to ti t):=by
 intro Ya s Z H v u Q I r h;rw[ha];refine ZA (Zk (Yn (ho Ya s Z H _ I h) fun ov s1 ⟨x,H1,I1,r1,q1⟩=>?_));refine ZA (Zk (Yn (hi Ya s1 Z H1 _ I1 q1) fun iv s2 ⟨y,H2,I2,r2,q2⟩=>?_));refine ZA (ZBe (ZA (Zk (Yn (hs Ya s2 Z H2 x y v ov iv u _ I2 r1 r2 r q2) fun _ s3 ⟨H3,I3,q3⟩=>?_))));exact wpAny_release ⟨Z,H3,I3,q3⟩
noncomputable def Eg(te:TE)(g:TG):TS:=fun D Z H=>te Z H fun x H1=>g x Z H1 D.nx
theorem Dj {tg e:Expr} {te:TE} {g:TG} (he:PE X e te) (hg:PG X tg g) (hs:swapsWithSole [tg] e pos.line X.env=pure false:=by rfl) (hw:swappedStores [tg] e X.env=pure none:=by rfl)
 (h1:(assignEach [tg] X.env).map (·.2)=[assign tg X.env]:=by rfl):PS X (.Assign [tg] e pos) (Eg te g):=by
 intro Ya s Z H D I h;refine wpAny_Assign_stores (Yn (he Ya s Z H _ I h) fun v s1 ⟨x,H1,I1,r1,q1⟩=>?_) hs hw;rw[h1];exact Yn (hg Ya s1 Z H1 x v _ I1 r1 q1) fun _ s2 q=>q
theorem AN{i:Nat}{x:Str}{e:Expr}{te:TE}{pos':Pos}(hN:X.N.Nodup)(hi:X.N[i]? = some x)(hx:Loc X.env.scope x)(he:PE X e te)(hs:swapsWith e (some (.Name x pos')) pos.line X.env=pure false:=by rfl)(hf:X.fn x=true\/X.env.scope.names.lookup x=some .local:=by first | exact .inl rfl | exact .inr rfl | assumption) :
 PS X (.Assign [.Name x pos'] e pos) (Eg te (AZ i)):=by
 intro Ya s Z H D I h;refine wpAny_Assign_Name (Yn (he Ya s Z H _ I h) fun v s1 ⟨y,H1,I1,r1,q1⟩=>?_) hs;exact Ld I1 hN hi hx r1 (fun s2 I2=>⟨_,H1,I2,q1⟩) hf
end
structure It where
 go:Nat->Hp->Prop
 yld:Nat->Hp->V->Hp->Prop
 stop:Nat->Hp->Prop
noncomputable def BJ(X:Cx)(Ya:List (Addr × Obj))(H:Hp)(b:Addr):Prop :=
 H b=none/\b≠X.env.locals/\b∉X.fs/\(b∈X.ex\/X.s₀.heap.objs.size<=b)/\(∀x c,X.env.cells.lookup x=some c->c≠b)/\∀p∈X.pn++Ya,p.1≠b
theorem Yg.fpOk{X:Cx}{H':Hp}(I:Yg X Ya Z H s)(hb:s.heap.objs.size<=b)(hn:H' b=none):BJ X Ya H' b:=by
 refine⟨hn,ZBU (ZY I.lt hb),I.nofs hb,.inr (Zj I.sz hb),fun x c e z=>?_,fun p hp z=>?_⟩
 ·obtain⟨v,q⟩:=I.cell x c e;exact absurd (ZY q.lt (by rw[z];exact hb)) (ZW _)
 ·exact absurd (ZY (ZF (I.pin p hp).1) (by rw[z];exact hb)) (ZW _)
structure Turn(P:Program)(w:World)(K:W.Frag)(tg:Expr)(J:It)(fp:List Addr)(it:Addr)(tn:Nat->Heap->Prop):Prop where
 mem:it∈fp
 obj:∀i h,tn i h->∀b∈fp,∃o,h.get? b=some o/\∀v,o.data≠.cell v
 keep:∀i h h',tn i h->(∀b∈fp,∀o,h.get? b=some o->h'.get? b=some o)->tn i h'
 item:∀(X:Cx),X.prog=P->X.w=w->X.K=K->X.calm=true->∀(i:Nat) (Ya:List (Addr × Obj)) (s:Shared) (Z:St) (H:Hp) (E:Value->Shared->Prop),Yg X Ya Z H s->(∀b∈fp,BJ X Ya H b)->tn i s.heap->J.go i H ->
  wpAny (model P w) X.A (pyNext (.ref it)) (fun r s1=>∃u,r=some u /\
   wpAny (model P w) X.A (letOwnedTupleGo tg (.ref it) u) (fun _ s2=>∃x H',Yg X Ya Z H' s2/\Yi x u/\J.yld i H x H'/\tn (i+1) s2.heap/\∀b∈fp,H' b=none) E s1) E s
 done:∀(X:Cx),X.prog=P->X.w=w->X.K=K->X.calm=true->∀(i:Nat) (Ya:List (Addr × Obj)) (s:Shared) (Z:St) (H:Hp) (E:Value->Shared->Prop),Yg X Ya Z H s->(∀b∈fp,BJ X Ya H b)->tn i s.heap->J.stop i H ->
  wpAny (model P w) X.A (pyNext (.ref it)) (fun r s1=>r=none/\Yg X Ya Z H s1) E s
 self:∀(A:Around) (i:Nat) (s:Shared) (Q:Value->Shared->Prop) (E:Value->Shared->Prop),tn i s.heap->Q (.ref it) s->wpAny (model P w) A (pyIter (.ref it)) Q E s
noncomputable abbrev TI:=St->Hp->(It->Hp->Prop)->Prop
noncomputable def PIE(X:Cx)(Ya:List (Addr × Obj))(Z:St)(tg:Expr)(R:It->Hp->Prop)(itv:Value)(s2:Shared):Prop :=
 ∃(it:Addr) (fp:List Addr) (tn:Nat->Heap->Prop) (J:It) (H':Hp),itv=.ref it/\Yg X Ya Z H' s2/\Turn X.prog X.w X.K tg J fp it tn/\tn 0 s2.heap/\(∀b∈fp,BJ X Ya H' b)/\R J H'
noncomputable def PI(X:Cx)(tg iter:Expr)(wi:TI):Prop :=
 ∀(Ya:List (Addr × Obj)) (s:Shared) (Z:St) (H:Hp) (R:It->Hp->Prop),Yg X Ya Z H s->wi Z H R ->
  wpAny (model X.prog X.w) X.A (eval iter X.env) (fun v s1=>wpAny (model X.prog X.w) X.A (pyIter v) (PIE X Ya Z tg R) X.xe s1) X.xe s
theorem KB {M:Model} {tg:Expr} {it:Addr} {o:Obj} {n:String} {vs:Array Value} {Q:Unit->Shared->Prop} (ho:s.heap.get? it=some o) (hc:o.cls=.type n) (hd:o.data=.fields vs)
 (hn:["enumerate","zip","dict_itemiterator","dict_reverseitemiterator","odict_iterator","itertools.zip_longest","itertools.pairwise"].contains n=false) (hQ:Q () s):wpAny M A (letOwnedTupleGo tg (.ref it) u) Q E s:=by
 unfold letOwnedTupleGo
 cases tg <;> first
  | exact ZC hQ
  | (cases u <;> first
      | exact ZC hQ
      | (refine ZA (wpAny_load ho ?_)
         rw[hc,hd];show wpAny M A (if (["enumerate","zip","dict_itemiterator","dict_reverseitemiterator","odict_iterator","itertools.zip_longest","itertools.pairwise"].contains n && vs[0]? == some (rawInt _))=true then _ else _) Q E s;rw[if_neg (by intro h;rw[hn,ZBL]at h;cases h)];exact ZC hQ))
noncomputable def Itl(K:W.Frag)(a:Addr):It :=
 ⟨fun i H=>∃xs x,Yw K H a xs/\xs[i]? = some x,fun i H x H'=>H'=H/\∀xs,Yw K H a xs->xs[i]? = some x,fun i H=>∃xs,Yw K H a xs/\xs.length<=i⟩
noncomputable def Itt(K:W.Frag)(a:Addr):It :=
 ⟨fun i H=>∃xs x,Yo K H a xs/\xs[i]? = some x,fun i H x H'=>H'=H/\∀xs,Yo K H a xs->xs[i]? = some x,fun i H=>∃xs,Yo K H a xs/\xs.length<=i⟩
noncomputable def Itr(lo:Int)(n:Nat):It:=⟨fun i _=>i < n,fun i H x H'=>H'=H/\x=.int (lo+i),fun i _=>n<=i⟩
theorem T2{tg:Expr}(a it:Addr):Turn P w K tg (Itl K a) [it] it (fun i h=>h.IsListIter it a i) where
 mem:=by simp
 obj:=fun i h st b hb=>by
  have e:b=it:=by simpa using hb
  subst e;obtain⟨o,e,c,d⟩:=st;exact⟨o,e,fun v z=>by rw[d]at z;cases z⟩
 keep:=fun i h h' st k=>st.at fun o e=>k it (by simp) o e
 item:=by
  intro X hP hw hK hc i Ya s Z H E I hf st hg;subst hP hw hK;obtain⟨xs,x,hq,hx⟩:=hg;obtain⟨Ye,rv,p,hz⟩:=I.list hq;obtain⟨u,hu,ru⟩:=rv.get hx;obtain⟨f0,f1,f2,f3,f4,f5⟩:=hf it (by simp);refine wpAny_pyNext_list_item st p.isList (x:=u) (by simpa using hu) fun h' st' sb=>?_
  have I1:Yg X Ya Z H { s with heap:=h' }:=I.turned (t':=s.toks) (fun b o hb e=>(sb.2 b hb).trans e) f0 f1 f3 f4 f5;obtain⟨o,e,c,d⟩:=id st';exact⟨u,rfl,KB (s:={ s with heap:=h' }) e c d (by decide) ⟨x,H,I1,ru,⟨rfl,fun ys hy=>by rw[I.list_inj hy hq];exact hx⟩,st',fun b hb=>(hf b hb).1⟩⟩
 done:=by
  intro X hP hw hK hc i Ya s Z H E I hf st hg;subst hP hw hK;obtain⟨xs,hq,hx⟩:=hg;obtain⟨Ye,rv,p,hz⟩:=I.list hq;obtain⟨f0,f1,f2,f3,f4,f5⟩:=hf it (by simp);have hl:=rv.length;exact wpAny_pyNext_list_end (I.ok.hd hc) st p.isList (by simp;lia) fun h' eb=>⟨rfl,I.turned (t':=s.toks) (fun b o hb e=>eb b o hb e) f0 f1 f3 f4 f5⟩
 self:=fun _ _ _ _ _ st h=>wpAny_pyIter_listiter st h
theorem Vt{tg:Expr}(a it:Addr):Turn P w K tg (Itt K a) [it] it (fun i h=>h.IsTupleIter it a i) where
 mem:=by simp
 obj:=fun i h st b hb=>by
  have e:b=it:=by simpa using hb
  subst e;obtain⟨o,e,c,d⟩:=st;exact⟨o,e,fun v z=>by rw[d]at z;cases z⟩
 keep:=fun i h h' st k=>st.at fun o e=>k it (by simp) o e
 item:=by
  intro X hP hw hK hc i Ya s Z H E I hf st hg;subst hP hw hK;obtain⟨xs,x,hq,hx⟩:=hg;obtain⟨Ye,rv,p,hz⟩:=I.tuple hq;obtain⟨u,hu,ru⟩:=rv.get hx;obtain⟨f0,f1,f2,f3,f4,f5⟩:=hf it (by simp);refine wpAny_pyNext_tuple_item st (show s.heap.IsTuple a Ye.toArray from p) (x:=u) (by simpa using hu) fun h' st' sb=>?_
  have I1:Yg X Ya Z H { s with heap:=h' }:=I.turned (t':=s.toks) (fun b o hb e=>(sb.2 b hb).trans e) f0 f1 f3 f4 f5;obtain⟨o,e,c,d⟩:=id st';exact⟨u,rfl,KB (s:={ s with heap:=h' }) e c d (by decide) ⟨x,H,I1,ru,⟨rfl,fun ys hy=>by rw[I.tuple_inj hy hq];exact hx⟩,st',fun b hb=>(hf b hb).1⟩⟩
 done:=by
  intro X hP hw hK hc i Ya s Z H E I hf st hg;subst hP hw hK;obtain⟨xs,hq,hx⟩:=hg;obtain⟨Ye,rv,p,hz⟩:=I.tuple hq;obtain⟨f0,f1,f2,f3,f4,f5⟩:=hf it (by simp);have hl:=rv.length;exact wpAny_pyNext_tuple_end (I.ok.hd hc) st (show s.heap.IsTuple a Ye.toArray from p) (by simp;lia) fun h' eb=>⟨rfl,I.turned (t':=s.toks) (fun b o hb e=>eb b o hb e) f0 f1 f3 f4 f5⟩
 self:=fun _ _ _ _ _ st h=>wpAny_pyIter_tupleiter st h
theorem V2{tg:Expr}(it:Addr)(lo:Int)(n:Nat):Turn P w K tg (Itr lo n) [it] it (fun i h=>IsRangeIter h it (lo+(i:Nat) * 1) ((n:Int) - (i:Nat)) 1) where
 mem:=by simp
 obj:=fun i h st b hb=>by
  have e:b=it:=by simpa using hb
  subst e
  exact⟨_,st,fun v z=>by
   have z':Data.fields _=Data.cell v:=z;cases z'⟩
 keep:=fun i h h' st k=>k it (by simp) _ st
 item:=by
  intro X hP hw hK hc i Ya s Z H E I hf st hg;subst hP hw hK;obtain⟨f0,f1,f2,f3,f4,f5⟩:=hf it (by simp);have W:=Walks.range (prog:=X.prog) (w:=X.w) (I.ok.hd hc) it lo 1 n;refine W.item i s _ _ hg st fun v h' tk hv st' kk=>?_
  obtain⟨t,rfl⟩:=hv;have I1:Yg X Ya Z H { s with heap:=h',toks:=tk }:=I.turned (fun b o hb e=>kk b o (by simpa using hb) e) f0 f1 f3 f4 f5;refine⟨_,rfl,KB (s:={ s with heap:=h',toks:=tk }) (n:="range_iterator") st' rfl rfl (by decide) ⟨.int (lo+i),H,I1,⟨t,?_⟩,⟨rfl,rfl⟩,st',fun b hb=>(hf b hb).1⟩⟩;rw[Int.mul_one]
 done:=by
  intro X hP hw hK hc i Ya s Z H E I hf st hg;subst hP hw hK;obtain⟨f0,f1,f2,f3,f4,f5⟩:=hf it (by simp);exact wpAny_pyNext_range_end (I.ok.hd hc) st (by have:n<=i:=hg;lia) fun h' eb=>⟨rfl,I.turned (t':=s.toks) (fun b o hb e=>eb b o hb e) f0 f1 f3 f4 f5⟩
 self:=fun _ _ _ _ _ st h=>wpAny_pyIter_rangeiter st h
section
variable {X:Cx}{tg:Expr}
theorem Kg {R:It->Hp->Prop} {lo hi:Int} {t u v:Tok} {tk:Nat} (I:Yg X Ya Z H s) (h1 : -(2 ^ 62)<=lo) (h2:lo < 2 ^ 62) (h3 : -(2 ^ 62)<=hi) (h4:hi < 2 ^ 62)
 (q:R (Itr lo (hi - lo).toNat) H):wpAny (model X.prog X.w) X.A (pyIter (.ref s.heap.objs.size)) (PIE X Ya Z tg R) E { s with heap:=s.heap.push { cls:=.type "range",data:=.fields #[.int lo t,.int hi u,.int 1 v] },toks:=tk }:=by
 refine wpAny_pyIter_range (IsRange.new ..) (small_one h1 h2 h3 h4) ?_;have I1:Yg X Ya Z H { s with heap:=s.heap.push { cls:=.type "range",data:=.fields #[.int lo t,.int hi u,.int 1 v] },toks:=tk }:=I.kept fun b o e=>ZH _ e
 refine⟨(s.heap.push { cls:=.type "range",data:=.fields #[.int lo t,.int hi u,.int 1 v] }).objs.size,[(s.heap.push { cls:=.type "range",data:=.fields #[.int lo t,.int hi u,.int 1 v] }).objs.size],_,_,H,rfl,
  I1.kept (t':=tk) fun b o e=>ZH _ e,V2 _ lo (hi - lo).toNat,?_,fun b hb=>?_,q⟩
 ·have e1:lo+((0:Nat):Int) * 1=lo:=by simp
  have e2:(((hi - lo).toNat:Nat):Int) - ((0:Nat):Int)=Builtin.Range.rangeSize lo hi 1:=by rw[rangeSize_one];split <;> lia
  show IsRangeIter _ _ (lo+((0:Nat):Int) * 1) ((((hi - lo).toNat:Nat):Int) - ((0:Nat):Int)) 1;rw[e1,e2];exact ZS _ rfl
 ·have e:b=(s.heap.push { cls:=.type "range",data:=.fields #[.int lo t,.int hi u,.int 1 v] }).objs.size:=by simpa using hb
  subst e;exact I1.fpOk (ZD _) (I1.hok.fresh (ZD _))
noncomputable def Oc(ta:TA):TI:=fun Z H R=>ta Z H fun vs H1=>∃j:Int,vs=[.int j] /\ -(2 ^ 62)<=j/\j < 2 ^ 62/\R (Itr 0 j.toNat) H1
noncomputable def MI(ta:TA):TI:=fun Z H R=>ta Z H fun vs H1=>∃i j:Int,vs=[.int i,.int j]/\(-(2 ^ 62)<=i/\i < 2 ^ 62 /\ -(2 ^ 62)<=j/\j < 2 ^ 62)/\R (Itr i (j - i).toNat) H1
theorem BA{a:Expr}{ta:TA}{p:Pos}(hg:Gl X "range")(hm:X.mg "range" = none)(ha:PA X [a] ta)(hs:starEach [a] X.env=[(false,eval a X.env)]:=by rfl):PI X tg (.Call (.Name "range" p) [a] [] pos) (Oc ta):=by
 intro Ya s Z H R I h;refine Call_ (Cu I hg hm boot_range (PyProof.Rows.callWith_type1 (Yn (ha pos Ya s Z H _ I h) fun us s1 ⟨vs,H1,I1,r1,q1⟩=>?_) hs rfl));obtain⟨j,e,q1,q2,q⟩:=q1;subst e;cases r1 with
 | cons r rr =>
  cases rr;obtain⟨t,rfl⟩:=r;exact call_range_1 (Kg I1 (by lia) (by lia) q1 q2 (by simpa using q))
theorem Hk{a b:Expr}{ta:TA}{p:Pos}(hg:Gl X "range")(hm:X.mg "range" = none)(ha:PA X [a,b] ta)(hs:starEach [a,b] X.env=[(false,eval a X.env),(false,eval b X.env)]:=by rfl)(hs2:starEach [b] X.env=[(false,eval b X.env)]:=by rfl) :
 PI X tg (.Call (.Name "range" p) [a,b] [] pos) (MI ta):=by
 intro Ya s Z H R I h;refine Call_ (Cu I hg hm boot_range (PyProof.Rows.callWith_type1 (Yn (ha pos Ya s Z H _ I h) fun us s1 ⟨vs,H1,I1,r1,q1⟩=>?_) (by rw[hs,hs2]) (by rw[hs2];rfl)));obtain⟨i,j,e,⟨q1,q2,q3,q4⟩,q⟩:=q1;subst e;cases r1 with
 | cons r rr =>
  cases rr with
  | cons r' rr =>
   cases rr;obtain⟨t,rfl⟩:=r;obtain⟨t',rfl⟩:=r';exact call_range_2 (Kg I1 q1 q2 q3 q4 q)
noncomputable def LN(wi:TI)(g:TG)(tb:TS):TS:=fun D Z H=>wi Z H fun J H1=>∃W:Nat->Nat->St->Hp->Prop,(∃m,W 0 m Z H1)/\∀i m Z H,W i m Z H ->
 (J.stop i H/\D.nx Z H)\/(J.go i H/\∃N:St->Hp->Prop,(∀σ' H',N σ' H'->∃m',m' < m/\W (i+1) m' σ' H')/\∀x H',J.yld i H x H'->g x Z H' fun σ2 H2=>tb { D with nx:=N,ct:=N,bk:=D.nx } σ2 H2)
noncomputable def CJ(fp:List Addr)(h:Heap):List (Addr × Obj):=fp.filterMap fun b=>(h.get? b).map fun o=>(b,o)
theorem Cf{fp:List Addr}{o:Obj}(hb:b∈fp)(e:h.get? b=some o):(b,o)∈CJ fp h:=ZB2.mpr ⟨b,hb,by rw[e];rfl⟩
theorem G8{fp:List Addr}{p:Addr × Obj}(hp:p∈CJ fp h):p.1∈fp/\h.get? p.1=some p.2:=by
 obtain⟨b,hb,e⟩:=ZB2.mp hp;cases q:h.get? b with
 | none=>rw[q]at e;cases e
 | some o =>
  rw[q]at e;have e':(b,o)=p:=ZV e;subst e';exact⟨hb,q⟩
theorem Yg.pinned{fp:List Addr}(I:Yg X Ya Z H s)(hf:∀b∈fp,BJ X Ya H b)(ho:∀b∈fp,∃o,s.heap.get? b=some o/\∀v,o.data≠.cell v):Yg X (Ya++CJ fp s.heap) Z H s :=
 I.pins_of fun p hp=>(Zf.mp hp).elim (fun z=>I.pin p (ZZ _ z)) fun z=>by
  obtain⟨hb,e⟩:=G8 z;obtain⟨f0,f1,f2,_⟩:=hf p.1 hb;obtain⟨o,e',d⟩:=ho p.1 hb;rw[e]at e';cases e';exact⟨e,f0,f1,f2,d⟩
theorem Yg.unpinned{pl:List (Addr × Obj)}(I:Yg X (Ya++pl) Z H s):Yg X Ya Z H s:=I.pins_of fun p hp=>I.pin p (ZZ _ (Z5 _ hp))
theorem Bu {iter:Expr} {body:List Stmt} {wi:TI} {g:TG} {tb:TS} {pos:Pos} (hp:PassesOwn (model X.prog X.w) X.A X.env X.xe) (hc:X.calm=true) (hi:PI X tg iter wi) (hg:PG X tg g) (hb:PSs X body tb)
 (hs:∀x,foldedSetIterable iter X.env x=pure x:=by intro _;rfl):PS X (.For tg iter body [] pos) (LN wi g tb):=by
 intro Ya s Z H D I h;refine wpAny_For (Yn (hi Ya s Z H _ I h) fun v s1 h1=>Yn h1 fun itv s2 h2=>?_) hs;obtain⟨it,fp,tn,J,H2,e,I2,T,st2,f2,W,⟨m0,w0⟩,turn⟩:=h2;subst e
 -- what stays true of the iterator's objects through the loop
 have stat:∀{H':Hp},(∀b∈fp,H' b=none)->∀b∈fp,BJ X Ya H' b:=fun hn b hb=>⟨hn b hb,(f2 b hb).2⟩
 refine codeAny_forLoop_any (fun n s'=>∃i σ' H',Yg X Ya σ' H' s'/\tn i s'.heap/\(∀b∈fp,H' b=none)/\W i n σ' H') ?_ m0 ⟨0,Z,H2,I2,st2,fun b hb=>(f2 b hb).1,w0⟩;rintro n s3 ⟨i,σ3,H3,I3,st3,fr3,w3⟩
 rcases turn i n σ3 H3 w3 with ⟨stop,qn⟩ | ⟨go,N,hN,step⟩
 ·refine wpAny_passesOwn hp (Yn (T.done X rfl rfl rfl hc i Ya s3 σ3 H3 X.xe I3 (stat fr3) st3 stop) fun r s4 ⟨hr,I4⟩=>?_);subst hr;exact wpAny_execs_nil ⟨σ3,H3,I4,qn⟩
 ·refine wpAny_passesOwn hp (Yn (T.item X rfl rfl rfl hc i Ya s3 σ3 H3 X.xe I3 (stat fr3) st3 go) fun r s4 ⟨u,hr,h4⟩=>?_);subst hr;refine wpAny_passesOwn hp (Yn h4 fun _ s5 ⟨x,H5,I5,r5,y5,st5,fr5⟩=>?_);have I5':=I5.pinned (stat fr5) (T.obj _ _ st5);refine wpAny_passesOwn hp (Yn (hg _ s5 σ3 H5 x u _ I5' r5 (step x H5 y5)) fun _ s6 ⟨σ6,H6,I6,q6⟩=>?_);refine wpAny_passesOwn hp (Yn (hb _ s6 σ6 H6 _ I6 q6) fun f s7 q7=>?_)
  have again:∀{σ7:St} {H7:Hp},Yg X (Ya++CJ fp s5.heap) σ7 H7 s7->N σ7 H7->∃m,m < n/\∃i σ' H',Yg X Ya σ' H' s7/\tn i s7.heap/\(∀b∈fp,H' b=none)/\W i m σ' H':=fun {σ7 H7} I7 n7=>by
   obtain⟨m',hm,w7⟩:=hN σ7 H7 n7;refine⟨m',hm,i+1,σ7,H7,I7.unpinned,T.keep _ _ _ st5 fun b hb o e=>(I7.pin (b,o) (ZZ _ (ZZ _ (Cf hb e)))).1,fun b hb=>?_,w7⟩;obtain⟨o,e,d⟩:=T.obj _ _ st5 b hb;exact(I7.pin (b,o) (ZZ _ (ZZ _ (Cf hb e)))).2.1
  cases f with
  | next=>obtain⟨σ7,H7,I7,n7⟩:=q7;exact again I7 n7
  | cont=>obtain⟨σ7,H7,I7,n7⟩:=q7;exact again I7 n7
  | brk=>obtain⟨σ7,H7,I7,q7⟩:=q7;exact⟨σ7,H7,I7.unpinned,q7⟩
  | ret v=>obtain⟨x7,σ7,H7,I7,r7,q7⟩:=q7;exact⟨x7,σ7,H7,I7.unpinned,r7,q7⟩
end
theorem OK {xs:List V} {g:TG} {tb:TS} {D:Ends} (Pv:Nat->St->Hp->Prop) (h0:Pv 0 Z H) (hl:∀i Z H,i<=xs.length->Pv i Z H->Yw K H a xs)
 (hs:∀i x Z H,xs[i]? = some x->Pv i Z H->g x Z H fun σ2 H2=>tb { D with nx:=Pv (i+1),ct:=Pv (i+1),bk:=D.nx } σ2 H2) (hd:∀Z H,Pv xs.length Z H->D.nx Z H) :
 ∃W:Nat->Nat->St->Hp->Prop,(∃m,W 0 m Z H)/\∀i m Z H,W i m Z H ->
  ((Itl K a).stop i H/\D.nx Z H)\/((Itl K a).go i H/\∃N:St->Hp->Prop,(∀σ' H',N σ' H'->∃m',m' < m/\W (i+1) m' σ' H')/\∀x H',(Itl K a).yld i H x H'->g x Z H' fun σ2 H2=>tb { D with nx:=N,ct:=N,bk:=D.nx } σ2 H2):=by
 refine⟨fun i m Z H=>m=xs.length - i/\i<=xs.length/\Pv i Z H,⟨xs.length,by simp,ZU _,h0⟩,?_⟩;rintro i m Z H ⟨rfl,hi,p⟩;have q:=hl i Z H hi p
 by_cases Yq:i < xs.length
 ·refine .inr ⟨⟨xs,xs[i],q,by simp[Yq]⟩,Pv (i+1),fun σ' H' p'=>⟨xs.length - (i+1),by lia,rfl,Yq,p'⟩,fun x H' y=>?_⟩;obtain⟨e,y⟩:=y;subst e;exact hs i x Z _ (y xs q) p
 ·have e:i=xs.length:=by lia
  subst e;exact .inl ⟨⟨xs,q,ZD _⟩,hd Z H p⟩
theorem L6 {xs:List V} {g:TG} {tb:TS} {D:Ends} (Pv:Nat->St->Hp->Prop) (h0:Pv 0 Z H) (hl:∀i Z H,i<=xs.length->Pv i Z H->Yo K H a xs)
 (hs:∀i x Z H,xs[i]? = some x->Pv i Z H->g x Z H fun σ2 H2=>tb { D with nx:=Pv (i+1),ct:=Pv (i+1),bk:=D.nx } σ2 H2) (hd:∀Z H,Pv xs.length Z H->D.nx Z H) :
 ∃W:Nat->Nat->St->Hp->Prop,(∃m,W 0 m Z H)/\∀i m Z H,W i m Z H ->
  ((Itt K a).stop i H/\D.nx Z H)\/((Itt K a).go i H/\∃N:St->Hp->Prop,(∀σ' H',N σ' H'->∃m',m' < m/\W (i+1) m' σ' H')/\∀x H',(Itt K a).yld i H x H'->g x Z H' fun σ2 H2=>tb { D with nx:=N,ct:=N,bk:=D.nx } σ2 H2):=by
 refine⟨fun i m Z H=>m=xs.length - i/\i<=xs.length/\Pv i Z H,⟨xs.length,by simp,ZU _,h0⟩,?_⟩;rintro i m Z H ⟨rfl,hi,p⟩;have q:=hl i Z H hi p
 by_cases Yq:i < xs.length
 ·refine .inr ⟨⟨xs,xs[i],q,by simp[Yq]⟩,Pv (i+1),fun σ' H' p'=>⟨xs.length - (i+1),by lia,rfl,Yq,p'⟩,fun x H' y=>?_⟩;obtain⟨e,y⟩:=y;subst e;exact hs i x Z _ (y xs q) p
 ·have e:i=xs.length:=by lia
  subst e;exact .inl ⟨⟨xs,q,ZD _⟩,hd Z H p⟩
theorem Cg {lo:Int} {n:Nat} {g:TG} {tb:TS} {D:Ends} (Pv:Nat->St->Hp->Prop) (h0:Pv 0 Z H)
 (hs:∀i Z H,i < n->Pv i Z H->g (.int (lo+i)) Z H fun σ2 H2=>tb { D with nx:=Pv (i+1),ct:=Pv (i+1),bk:=D.nx } σ2 H2) (hd:∀Z H,Pv n Z H->D.nx Z H) :
 ∃W:Nat->Nat->St->Hp->Prop,(∃m,W 0 m Z H)/\∀i m Z H,W i m Z H ->
  ((Itr lo n).stop i H/\D.nx Z H)\/((Itr lo n).go i H/\∃N:St->Hp->Prop,(∀σ' H',N σ' H'->∃m',m' < m/\W (i+1) m' σ' H')/\∀x H',(Itr lo n).yld i H x H'->g x Z H' fun σ2 H2=>tb { D with nx:=N,ct:=N,bk:=D.nx } σ2 H2):=by
 refine⟨fun i m Z H=>m=n - i/\i<=n/\Pv i Z H,⟨n,by simp,ZU _,h0⟩,?_⟩;rintro i m Z H ⟨rfl,hi,p⟩
 by_cases Yq:i < n
 ·refine .inr ⟨Yq,Pv (i+1),fun σ' H' p'=>⟨n - (i+1),by lia,rfl,Yq,p'⟩,fun x H' y=>?_⟩;obtain⟨e,y⟩:=y;subst e y;exact hs i Z _ Yq p
 ·have e:i=n:=by lia
  subst e;exact .inl ⟨ZD _,hd Z H p⟩
noncomputable abbrev R2:=V->V->Hp->VK->Prop
noncomputable def Yv(X:Cx)(f:Value->Value->Sem Value)(r:R2):Prop :=
 ∀(Ya:List (Addr × Obj)) (s:Shared) (Z:St) (H:Hp) (x y:V) (v u:Value) (Q:VK),Yg X Ya Z H s->Yi x v->Yi y u->r x y H Q ->
  wpAny (model X.prog X.w) X.A (f v u) (EP X Ya Z Q) X.xe s
noncomputable def UnR(X:Cx)(f:Value->Sem Value)(r:V->Hp->VK->Prop):Prop :=
 ∀(Ya:List (Addr × Obj)) (s:Shared) (Z:St) (H:Hp) (x:V) (v:Value) (Q:VK),Yg X Ya Z H s->Yi x v->r x H Q ->
  wpAny (model X.prog X.w) X.A (f v) (EP X Ya Z Q) X.xe s
noncomputable def CallR(X:Cx)(f:Value)(r:List V->Hp->VK->Prop):Prop :=
 ∀(Ya:List (Addr × Obj)) (s:Shared) (Z:St) (H:Hp) (xs:List V) (us:List Value) (Q:VK),Yg X Ya Z H s->Yk xs us->r xs H Q ->
  wpAny (model X.prog X.w) X.A (call f us) (EP X Ya Z Q) X.xe s
noncomputable def tOp(r:R2)(ta tb:TE):TE:=fun Z H Q=>ta Z H fun x H1=>tb Z H1 fun y H2=>r x y H2 Q
noncomputable def tUn(r:V->Hp->VK->Prop)(ta:TE):TE:=fun Z H Q=>ta Z H fun x H1=>r x H1 Q
noncomputable def rI(C:Int->Int->Prop)(g:Int->Int->V):R2:=fun x y H Q=>∃i j,x=.int i/\y=.int j/\C i j/\Q (g i j) H
noncomputable def rI0(g:Int->Int->V):R2:=fun x y H Q=>∃i j,x=.int i/\y=.int j/\Q (g i j) H
noncomputable def rU(g:Int->V):V->Hp->VK->Prop:=fun x H Q=>∃i,x=.int i/\Q (g i) H
section
variable {X:Cx}{a b c:Expr}{ta tb tc:TE}{pos:Pos}
theorem Jv (ha:PE X a ta) (hb:PE X b tb) {R:V->V->Hp->Prop} (I:Yg X Ya Z H s)
 (h:ta Z H fun x H1=>tb Z H1 fun y H2=>R x y H2) {f:Value->Value->Sem Value}
 (hf:∀v u s2 x y H2,Yg X Ya Z H2 s2->Yi x v->Yi y u->R x y H2->wpAny (model X.prog X.w) X.A (f v u) Q X.xe s2) :
 wpAny (model X.prog X.w) X.A (eval a X.env) (fun v s₁=>wpAny (model X.prog X.w) X.A (eval b X.env) (fun u s₂=>wpAny (model X.prog X.w) X.A (f v u) Q X.xe s₂) X.xe s₁) X.xe s:=by
 refine Yn (ha Ya s Z H _ I h) fun v s1 ⟨x,H1,I1,r1,q1⟩=>?_
 refine Yn (hb Ya s1 Z H1 _ I1 q1) fun u s2 ⟨y,H2,I2,r2,q2⟩=>?_
 exact hf v u s2 x y H2 I2 r1 r2 q2
theorem AO{op:Operator}{r:R2}(ho:Yv X (binaryOp op) r)(ha:PE X a ta)(hb:PE X b tb):PE X (.BinOp a op b pos) (tOp r ta tb):=by
 intro Ya s Z H Q I h;exact wpAny_BinOp (Jv ha hb I h fun v u s2 x y H2 I2 rx ry q=>ho Ya s2 Z H2 x y v u Q I2 rx ry q)
theorem ML{op:UnaryOp}{r:V->Hp->VK->Prop}(ho:UnR X (unaryOp op) r)(ha:PE X a ta):PE X (.UnaryOp op a pos) (tUn r ta):=by
 intro Ya s Z H Q I h;exact UnaryOp_ (Yn (ha Ya s Z H _ I h) fun v s1 ⟨x,H1,I1,r1,q1⟩=>ho Ya s1 Z H1 x v Q I1 r1 q1)
theorem opI {f:Value->Value->Sem Value} {C:Int->Int->Prop} {g:Int->Int->Int}
 (rule:∀(i j:Int) (t u:Tok) (s:Shared) (Q:Value->Shared->Prop) (E:Value->Shared->Prop),C i j->Q (.int (g i j) s.toks) { s with toks:=s.toks+1 } -> wpAny (model X.prog X.w) X.A (f (.int i t) (.int j u)) Q E s) :
 Yv X f (rI C fun i j=>.int (g i j)):=by
 intro Ya s Z H x y v u Q I rx ry h;obtain⟨i,j,rfl,rfl,hc,q⟩:=h;obtain⟨t,rfl⟩:=rx;obtain⟨t',rfl⟩:=ry;exact rule i j t t' s _ _ hc ⟨.int (g i j),H,I.tok _,⟨_,rfl⟩,q⟩
theorem KJ {f:Value->Value->Sem Value} {g:Int->Int->Int}
 (rule:∀(i j:Int) (t u:Tok) (s:Shared) (Q:Value->Shared->Prop) (E:Value->Shared->Prop),Q (.int (g i j) s.toks) { s with toks:=s.toks+1 } -> wpAny (model X.prog X.w) X.A (f (.int i t) (.int j u)) Q E s) :
 Yv X f (rI0 fun i j=>.int (g i j)):=by
 intro Ya s Z H x y v u Q I rx ry h;obtain⟨i,j,rfl,rfl,q⟩:=h;obtain⟨t,rfl⟩:=rx;obtain⟨t',rfl⟩:=ry;exact rule i j t t' s _ _ ⟨.int (g i j),H,I.tok _,⟨_,rfl⟩,q⟩
theorem GZ {f:Value->Value->Sem Value} {g:Int->Int->Bool}
 (rule:∀(i j:Int) (t u:Tok) (s:Shared) (Q:Value->Shared->Prop) (E:Value->Shared->Prop),Q (.bool (g i j)) s->wpAny (model X.prog X.w) X.A (f (.int i t) (.int j u)) Q E s) :
 Yv X f (rI0 fun i j=>.bl (g i j)):=by
 intro Ya s Z H x y v u Q I rx ry h;obtain⟨i,j,rfl,rfl,q⟩:=h;obtain⟨t,rfl⟩:=rx;obtain⟨t',rfl⟩:=ry;exact rule i j t t' s _ _ ⟨.bl (g i j),H,I,rfl,q⟩
noncomputable def Fy(i j:Int):Prop:=0<=j/\j<=1000000/\i.natAbs < 2 ^ 64
noncomputable def CMul(i j:Int):Prop:=(-(2 ^ 64) < i/\i < 2 ^ 64)\/(-(2 ^ 64) < j/\j < 2 ^ 64)
theorem CMul.ok{i j:Int}(h:CMul i j):IntMulOk i j:=by
 rcases h with ⟨h1,h2⟩ | ⟨h1,h2⟩
 ·exact .of_left (intBits_le_64 h1 h2)
 ·exact .of_right (intBits_le_64 h1 h2)
theorem UB(k:Nat):(0:Int)<=2 ^ k:=by
 rw[two_pow_cast];exact ZB3 _
theorem K3:Yv X (binaryOp .Add) (rI0 fun i j=>.int (i+j)):=KJ fun _ _ _ _ _ _ _ q=>add_int q
theorem RI:Yv X (binaryOp .Sub) (rI0 fun i j=>.int (i - j)):=KJ fun _ _ _ _ _ _ _ q=>sub_int q
theorem Xc:Yv X (binaryOp .Mod) (rI (fun _ j=>0 < j) fun i j=>.int (i % j)):=opI fun i j _ _ _ _ _ hc q=>by
 have h1:(0:Int) < j:=hc;exact mod_int' (by lia) (by rw[Int.fmod_eq_emod_of_nonneg i (by lia)];exact q)
theorem UH:Yv X (binaryOp .Pow) (rI Fy fun i j=>.int (i ^ j.toNat)):=opI fun _ _ _ _ _ _ _ hc q=>pow_int_small hc.1 hc.2.1 hc.2.2 q
theorem SZ:Yv X (binaryOp .LShift) (rI Fy fun i j=>.int (i * 2 ^ j.toNat)):=opI fun _ _ _ _ _ _ _ hc q=>lshift_int_small hc.1 hc.2.1 hc.2.2 q
theorem Tm:Yv X (binaryOp .RShift) (rI (fun _ j=>0<=j) fun i j=>.int (i / 2 ^ j.toNat)):=opI fun i j _ _ _ _ _ hc q =>
 rshift_int hc (by rw[Int.fdiv_eq_ediv_of_nonneg i (UB _)];exact q)
theorem Us:Yv X (binaryOp .BitAnd) (rI0 fun i j=>.int (Builtin.bitAnd i j)):=KJ fun _ _ _ _ _ _ _ q=>and_int q
theorem unI {f:Value->Sem Value} {g:Int->Int}
 (rule:∀(i:Int) (t:Tok) (s:Shared) (Q:Value->Shared->Prop) (E:Value->Shared->Prop),Q (.int (g i) s.toks) { s with toks:=s.toks+1 } -> wpAny (model X.prog X.w) X.A (f (.int i t)) Q E s) :
 UnR X f (rU fun i=>.int (g i)):=by
 intro Ya s Z H x v Q I rx h;obtain⟨i,rfl,q⟩:=h;obtain⟨t,rfl⟩:=rx;exact rule i t s _ _ ⟨.int (g i),H,I.tok _,⟨_,rfl⟩,q⟩
theorem W0:UnR X (unaryOp .USub) (rU fun i=>.int (-i)):=unI fun _ _ _ _ _ q=>neg_int q
end
section
variable {X:Cx}{a b c:Expr}{ta tb tc:TE}{pos:Pos}
theorem SX{Q:VK}{k k':Bool}(I:Yg X Ya Z H s)(q:Q (.bl k) H)(e:k=k'):EP X Ya Z Q (.bool k') s:=by
 subst e;exact⟨.bl k,H,I,rfl,q⟩
theorem Wl:Yv X (compareOp .Lt) (rI0 fun i j=>.bl (decide (i < j))):=GZ fun _ _ _ _ _ _ _ q=>lt_int q
theorem XM:Yv X (compareOp .LtE) (rI0 fun i j=>.bl (decide (i<=j))):=GZ fun _ _ _ _ _ _ _ q=>le_int q
theorem Ut:Yv X (compareOp .Gt) (rI0 fun i j=>.bl (decide (j < i))):=GZ fun _ _ _ _ _ _ _ q=>gt_int q
theorem UD:Yv X (compareOp .GtE) (rI0 fun i j=>.bl (decide (j<=i))):=GZ fun _ _ _ _ _ _ _ q=>ge_int q
theorem XB:Yv X (compareOp .IsNot) (fun x y H Q=>y=.non/\Q (.bl (!decide (x=.non))) H):=by
 intro Ya s Z H x y v u Q I rx ry h;obtain⟨rfl,q⟩:=h;cases ry;refine isnot_none_gen (SX I q ?_)
 cases x <;> first
  | (cases rx;rfl)
  | (obtain⟨t,rfl⟩:=rx;rfl)
theorem Ps{op:CmpOp}{r:R2}(ho:Yv X (compareOp op) r)(ha:PE X a ta)(hb:PE X b tb)(hm:behindInMarks op b=false):PE X (.Compare a [op] [b] pos) (tOp r ta tb):=by
 intro Ya s Z H Q I h;exact wpAny_Compare1 (Jv ha hb I h fun v u s2 x y H2 I2 rx ry q=>ho Ya s2 Z H2 x y v u Q I2 rx ry q) hm
theorem FA:(sizeLine:Nat) < 2 ^ 63:=by rw[sizeLine_eq];decide
theorem T0:Yv X (binaryOp .Add) (fun x y H Q=>∃i j,x=.str i/\y=.str j/\i.length+j.length<=sizeLine/\Q (.str (i++j)) H):=by
 intro Ya s Z H x y v u Q I rx ry h;obtain⟨i,j,rfl,rfl,hz,q⟩:=h;obtain⟨t,rfl⟩:=rx;obtain⟨t',rfl⟩:=ry;exact add_str (fun t' tk=>⟨.str (i++j),H,I.tok _,⟨_,rfl⟩,q⟩) hz
theorem BN{x:V}(r:Yk [x] us):∃u,us=[u]/\Yi x u:=by
 cases r with
 | cons r1 r2=>cases r2;exact⟨_,rfl,r1⟩
theorem Ea{x y:V}(r:Yk [x,y] us):∃u w',us=[u,w']/\Yi x u/\Yi y w':=by
 cases r with
 | cons r1 r2 =>
  cases r2 with
  | cons r3 r4=>cases r4;exact⟨_,_,rfl,r1,r3⟩
theorem Su(hc:X.calm=true):CallR X (.builtin "max") (fun xs H Q=>∃i j,xs=[.int i,.int j]/\Q (.int (if j > i then j else i)) H):=by
 intro Ya s Z H xs us Q I r h;obtain⟨i,j,rfl,q⟩:=h;obtain⟨u,w',rfl,⟨t,rfl⟩,⟨t',rfl⟩⟩:=Ea r;refine max_two_ints (I.ok.hd hc) fun h' tk k=>⟨_,H,I.kept k,?_,q⟩
 by_cases hj:j > i
 ·rw[if_pos hj,if_pos hj];exact⟨_,rfl⟩
 ·rw[if_neg hj,if_neg hj];exact⟨_,rfl⟩
theorem call_int1:CallR X (.type "int") (fun xs H Q=>(∃i,xs=[.int i]/\Q (.int i) H)\/∃k,xs=[.bl k]/\Q (.int (if k then 1 else 0)) H):=by
 intro Ya s Z H xs us Q I r h
 rcases h with ⟨i,rfl,q⟩ | ⟨k,rfl,q⟩
 ·obtain⟨u,rfl,t,rfl⟩:=BN r;exact call_int_int ⟨.int i,H,I,⟨_,rfl⟩,q⟩
 ·obtain⟨u,rfl,r1⟩:=BN r;cases r1;exact call_int_bool ⟨.int (if k then 1 else 0),H,I.tok _,⟨_,rfl⟩,q⟩
noncomputable def Kj(K:W.Frag)(x:V)(H:Hp)(n:Nat):Prop :=
 match x with
 | .str y=>y.length<=sizeLine/\n=y.length
 | .byt y=>y.size<=sizeLine/\n=y.size
 | .ref p=>(∃xs,Yw K H p xs/\n=xs.length)\/∃xs,Yo K H p xs/\n=xs.length
 | _=>False
theorem call_len:CallR X (.builtin "len") (fun xs H Q=>∃x n,xs=[x]/\Kj X.K x H n/\Q (.int n) H):=by
 intro Ya s Z H xs us Q I r h;obtain⟨x,n,rfl,e,q⟩:=h;obtain⟨u,rfl,rx⟩:=BN r;have hl:=FA;have hs:sizeLine=16777216:=sizeLine_eq;cases x with
 | str y =>
  obtain⟨t,rfl⟩:=rx;obtain⟨hy,e'⟩:y.length<=sizeLine/\n=y.length:=e;subst e';exact len_str (by lia) ⟨.int _,H,I.tok _,⟨_,rfl⟩,q⟩
 | byt y =>
  obtain⟨t,rfl⟩:=rx;obtain⟨hy,e'⟩:y.size<=sizeLine/\n=y.size:=e;subst e';exact PySem.W.len_bytes (by lia) ⟨.int _,H,I.tok _,⟨_,rfl⟩,q⟩
 | ref p =>
  cases rx;have e':(∃xs,Yw X.K H p xs/\n=xs.length)\/∃xs,Yo X.K H p xs/\n=xs.length:=e
  rcases e' with ⟨xs,hx,e'⟩ | ⟨xs,hx,e'⟩
  ·subst e';obtain⟨Ye,r',pl,hz⟩:=I.list hx;have Ym:=r'.length;exact Calls.call_len_list pl.isList (by simp only[ZI];lia) ⟨.int xs.length,H,I.tok _,⟨_,by simp only[ZI];rw[Ym]⟩,q⟩
  ·subst e';obtain⟨Ye,r',pl,hz⟩:=I.tuple hx;have Ym:=r'.length;exact len_tuple pl (by simp only[ZI];lia) ⟨.int xs.length,H,I.tok _,⟨_,by simp only[ZI];rw[Ym]⟩,q⟩
 | _=>exact(show False from e).elim
end
structure ObjM(h:Heap)(x dx C:Addr)(mA:Str->Option Value):Prop where
 obj:h.get? x=some (PySem.W.instObj C dx)
 ns:h.Ns1 dx mA
 ne:dx≠x
theorem V8{dx:Addr}{mA:Str->Option Value}(n:h.Ns1 dx mA):∃od,h.get? dx=some od/\∀name,PySem.W.lookIn name od=some (mA name):=by
 obtain⟨o,es,ep,ho,hd,hk,_,hm⟩:=n;refine⟨o,ho,fun name=>?_⟩;have e:=hm name;unfold nsFind findBy at e;rw[<- Array.find?_toList]at e;unfold PySem.W.lookIn;rw[hd];dsimp only;split
 ·rename_i y q;rw[q]at e;exact congrArg some e
 ·rename_i q;rw[q]at e
  have a:es.toList.any (·.refKey)=false:=by
   rw[List.any_eq_false];intro y hy;obtain⟨z,t,hkey⟩:=hk y (Array.mem_toList_iff.mp hy);simp[DictEntry.refKey,hkey]
  have a':¬es.toList.any (·.refKey)=true:=by rw[a];exact ZBE
  rw[if_neg a'];exact congrArg some e
theorem ObjM.look{x dx:Addr}{mA:Str->Option Value}(I:ObjM h x dx C mA):∃od,PySem.W.InstAt h x (PySem.W.instObj C dx) C (some od)/\∀name,PySem.W.lookIn name od=some (mA name) :=
 let ⟨od,ho,hl⟩:=V8 I.ns
 ⟨od,⟨I.obj,rfl,rfl,ho⟩,hl⟩
section
variable {prog:Program}{w:World}{A:Around}{E:Value->Shared->Prop}{s:Shared}{K:W.Frag}{x dx C f:Addr}{mA:Str->Option Value}{name:Str}{v:Value}
theorem QN {expr:Bool} (X:K.In s.heap) (I:ObjM s.heap x dx C mA) (hg:PySem.W.plainGet K C name=true) (hh:PySem.W.hasDictIn K C=true)
 (ha:PySem.W.findIn K (.ref C) name=some none) (hv:mA name=some v) (hv':PySem.W.handedIn v=true) (h:Q v { s with toks:=s.toks+1 }) :
 wpAny (model prog w) A (getAttr (.ref x) name expr) Q E s:=by
 obtain⟨od,J,hl⟩:=I.look;exact PySem.W.get_value X J (PySem.W.plainGet_of hg).1 (PySem.W.findObj_own hh ha rfl (by rw[hl,hv])) hv' h
theorem Oi {pl:Sem Bool} {Q:Value × List Value->Shared->Prop} (X:K.In s.heap) (I:ObjM s.heap x dx C mA) (hg:PySem.W.plainGet K C name=true)
 (hf:PySem.W.findIn K (.ref C) name=some (some (.ref f))) (ht:PySem.W.isFn K (.ref f)=true) (hv:mA name=none) (h:Q (.ref f,[.ref x]) s) :
 wpAny (model prog w) A (getMethod (.ref x) name pl) Q E s:=by
 obtain⟨od,J,hl⟩:=I.look;exact PySem.W.method_fn X J (PySem.W.plainGet_of hg).1 (PySem.W.plainGet_of hg).2 hf (beq_iff_eq.mp ht) (by show(PySem.W.lookIn name od).map (·.isSome)=some false;rw[hl,hv];rfl) h
theorem Qh {ns:List Str} {Q:Unit->Shared->Prop} (X:K.In s.heap) (I:ObjM s.heap x dx C mA)
 (hs:PySem.W.findIn K (.ref C) "__setattr__" = some (some (.builtin "object.__setattr__"))) (hp:PySem.W.plainOver K C=true) (ht:PySem.W.takerIn K C name=some none) (hh:PySem.W.hasDictIn K C=true)
 (hw:PySem.Within mA ns) (hsz:ns.length<=sizeLine)
 (h:∀h',ObjM h' x dx C (fun y=>if y=name then some v else mA y)->Heap.SameBut dx s.heap h'->Q () { s with heap:=h',toks:=s.toks+2 }) :
 wpAny (model prog w) A (setAttr (.ref x) name v) Q E s:=by
 obtain⟨od,J,hl⟩:=I.look;refine PySem.W.set_plain X J hs (PySem.W.osa_open (s:={ s with toks:=s.toks+1 }) (r:=none) X J hp ht fun b=>?_);obtain⟨cd,hc,hd'⟩:=PySem.W.any_some hh;have hx:s.heap.get? x=some ⟨.ref C,some dx,.plain,#[]⟩:=I.obj;refine ZA (ZC (ZA (ZA (wpAny_loadPart hx (ZA (PySem.W.Looks.here (s:={ s with toks:=s.toks+1 }) (PySem.W.looks_clsIn X hc) ?_))))));rw[hd'];refine ZC (a:=some dx) (ZA (ZC (ZA ?_)));refine wpAny_nsSet1 (s:={ s with toks:=s.toks+1 }) I.ns fun h' hn2 hs2=>?_
 obtain⟨oD,esD,epD,hoD,hdD,hcD⟩:=hn2.count (PySem.Within.cons name v hw);refine ZA (wpAny_lookBehind hoD (by rw[hdD];exact pastItsLine_dict (Zj hcD (by rw[Zn];lia))) ?_);exact ZC (h _ ⟨(hs2.2 _ (Ne.symm I.ne)).trans I.obj,hn2,I.ne⟩ hs2)
theorem Sr {R:Result->Shared->Prop} {vs:List Value} {kw:List (Str × Value)} (X:K.In s.heap) (hm:PySem.W.makesIn K C=true)
 (hi:PySem.W.findIn K (.ref C) "__init__" = some (some (.ref f))) (hf:PySem.W.typeIn K (.ref f)=some (.type "function"))
 (h:codeAny (model prog w) (A.under (.builtin "type.__call__" ⟨.ref C::vs,kw⟩)) (.call (.ref f) ⟨.ref (s.heap.objs.size+1)::vs,kw⟩) (PySem.W.InitBack (s.heap.objs.size+1) R)
   { s with heap:=(s.heap.push PySem.W.emptyDict).push (PySem.W.instObj C s.heap.objs.size) }) :
 codeAny (model prog w) A (.call (.ref C) ⟨vs,kw⟩) R s:=by
 obtain⟨hh,g,d,t,os⟩:=s;exact PySem.W.make_core (PySem.W.makes_of X hm) (PySem.W.looks_findIn X hi) (fun self=>PySem.W.bind_fn X self hf) (.inl rfl) h
end
noncomputable def Ac(f:Str)(v:V):List (Str × V)->List (Str × V)
 | []=>[(f,v)]
 | (g,x)::r=>if g=f then (g,v)::r else (g,x)::Ac f v r
theorem NN(f g:Str)(v:V):∀fs:List (Str × V),(Ac f v fs).lookup g=if g=f then some v else fs.lookup g
 | []=>by
  show List.lookup g [(f,v)]=_
  by_cases h:g=f
  ·have hb:(g == f)=true:=beq_iff_eq.mpr h;simp only[List.lookup,hb,if_pos h]
  ·have hb:(g == f)=false:=beq_eq_false_iff_ne.mpr h;simp only[List.lookup,hb,if_neg h]
 | (k,x)::r=>by
  have ih:=NN f g v r;rw[show Ac f v ((k,x)::r)=(if k=f then (k,v)::r else (k,x)::Ac f v r) from rfl]
  by_cases hk:k=f
  ·rw[if_pos hk]
   by_cases h:g=k
   ·have hb:(g == k)=true:=beq_iff_eq.mpr h;simp only[List.lookup,hb,if_pos (h.trans hk)]
   ·have hb:(g == k)=false:=beq_eq_false_iff_ne.mpr h;simp only[List.lookup,hb,if_neg (fun e:g=f=>h (e.trans hk.symm))]
  ·rw[if_neg hk]
   by_cases h:g=k
   ·have hb:(g == k)=true:=beq_iff_eq.mpr h;simp only[List.lookup,hb,if_neg (fun e:g=f=>hk (h.symm.trans e))]
   ·have hb:(g == k)=false:=beq_eq_false_iff_ne.mpr h;simp only[List.lookup,hb];exact ih
theorem JN(f:Str)(v:V):∀fs:List (Str × V),f∈(Ac f v fs).map (·.1)/\∀g,g∈fs.map (·.1)->g∈(Ac f v fs).map (·.1)
 | []=>⟨by simp[Ac],fun g h=>by simp at h⟩
 | (k,x)::r=>by
  obtain⟨i1,i2⟩:=JN f v r;rw[show Ac f v ((k,x)::r)=(if k=f then (k,v)::r else (k,x)::Ac f v r) from rfl]
  by_cases hk:k=f
  ·rw[if_pos hk];subst hk;exact⟨by simp,fun g h=>by simpa using h⟩
  ·rw[if_neg hk];refine⟨?_,fun g h=>?_⟩
   ·rw[Zi];exact ZX _ i1
   ·rw[Zi]at h ⊢
    rcases ZG.mp h with e | e
    ·exact ZG.mpr (.inl e)
    ·exact ZX _ (i2 g e)
theorem NV(f:Str)(v:V):∀fs:List (Str × V),(Ac f v fs).length<=fs.length+1
 | []=>by simp[Ac]
 | (k,x)::r=>by
  have ih:=NV f v r;rw[show Ac f v ((k,x)::r)=(if k=f then (k,v)::r else (k,x)::Ac f v r) from rfl]
  by_cases hk:k=f
  ·rw[if_pos hk,Zn,Zn];lia
  ·rw[if_neg hk,Zn,Zn];lia
theorem RelO.some_of{o:Option Value}(r:RelO (some v) o):∃u,o=some u/\Yi v u:=by
 cases o with
 | none=>exact(show False from r).elim
 | some u=>exact⟨u,rfl,r⟩
theorem RelO.none_of{o:Option Value}(r:RelO none o):o=none:=by
 cases o with
 | none=>rfl
 | some u=>exact(show False from r).elim
theorem SQ(r:Yi v u):PySem.W.handedIn u=true:=by
 cases v with
 | non=>cases (show u=Value.none from r);rfl
 | bl b=>cases (show u=Value.bool b from r);rfl
 | int i=>obtain⟨t,e⟩:=(show ∃t,u=Value.int i t from r);cases e;rfl
 | str x=>obtain⟨t,e⟩:=(show ∃t,u=Value.str x t from r);cases e;rfl
 | byt b=>obtain⟨t,e⟩:=(show ∃t,u=Value.bytes b t from r);cases e;rfl
 | flt b=>obtain⟨t,e⟩:=(show ∃t,u=Value.float b t from r);cases e;rfl
 | ref a=>cases (show u=Value.ref a from r);rfl
 | ty n=>cases (show u=Value.type n from r);rfl
section
variable {P:Program}{w:World}{H H':Hp}{h h':Heap}{a C dx:Addr}{fs fs':List (Str × V)}
theorem GB(hok:HOk P w H h)(e:H a=some (.ins C dx fs)):∃mA,ObjM h a dx C mA/\(∀f,RelO (fs.lookup f) (mA f))/\PySem.Within mA (fs.map (·.1))/\fs.length<=1000/\H dx=some (.own a):=by
 obtain⟨d,z,ne,ob,mA,n,r,q⟩:=(show ObjOk P w H h a (.ins C dx fs) from hok a _ e);exact⟨mA,⟨ob,n,ne⟩,r,q,z,d⟩
end
structure Cls(K:W.Frag)(C:Addr):Prop where
 pg:PySem.W.plainGet K C Str.empty=true
 hd:PySem.W.hasDictIn K C=true
 po:PySem.W.plainOver K C=true
 sa:PySem.W.findIn K (.ref C) "__setattr__" = some (some (.builtin "object.__setattr__"))
theorem Cls.get(c:Cls K C)(f:Str):PySem.W.plainGet K C f=true:=c.pg
noncomputable def NoAttr(K:W.Frag)(C:Addr)(f:Str):Prop:=PySem.W.findIn K (.ref C) f=some none
theorem NoAttr.taker{f:Str}(n:NoAttr K C f):PySem.W.takerIn K C f=some none:=by
 unfold PySem.W.takerIn;rw[show PySem.W.findIn K (.ref C) f=some none from n];rfl
structure Meth(K:W.Frag)(C:Addr)(m:Str)(f:Addr):Prop where
 at_:PySem.W.findIn K (.ref C) m=some (some (.ref f))
 fn:PySem.W.isFn K (.ref f)=true
 kp:PySem.W.keepIn K (.ref f)=true
section
variable {X:Cx}{Ya:List (Addr × Obj)}{Z:St}{H:Hp}{s:Shared}{a C dx:Addr}{fs:List (Str × V)}{f:Str}{v:V}{A:Around}{E:Value->Shared->Prop}
theorem U7 {b:Bool} (I:Yg X Ya Z H s) (e:H a=some (.ins C dx fs)) (c:Cls X.K C) (n:NoAttr X.K C f) (l:fs.lookup f=some v)
 (h:∀u s',Yg X Ya Z H s'->Yi v u->Q u s'):wpAny (model X.prog X.w) A (getAttr (.ref a) f b) Q E s:=by
 obtain⟨mA,O,r,_,_,_⟩:=GB I.hok e;obtain⟨u,hu,ru⟩:=RelO.some_of (v:=v) (o:=mA f) (by rw[<- l];exact r f);exact QN I.kIn O (c.get f) c.hd n hu (SQ ru) (h u _ (I.tok _) ru)
theorem NS {m:Str} {g:Addr} {pl:Sem Bool} {Q:Value × List Value->Shared->Prop} (I:Yg X Ya Z H s) (e:H a=some (.ins C dx fs)) (c:Cls X.K C) (k:Meth X.K C m g) (l:fs.lookup m=none)
 (h:Q (.ref g,[.ref a]) s):wpAny (model X.prog X.w) A (getMethod (.ref a) m pl) Q E s:=by
 obtain⟨mA,O,r,_,_,_⟩:=GB I.hok e;have hn:mA m=none:=RelO.none_of (by rw[<- l];exact r m);exact Oi I.kIn O (c.get m) k.at_ k.fn hn h
theorem Sm {y:V} {Q:Unit->Shared->Prop} (I:Yg X Ya Z H s) (e:H a=some (.ins C dx fs)) (c:Cls X.K C) (n:NoAttr X.K C f) (hl:fs.length < 1000) (ry:Yi y u)
 (h:∀s',Yg X Ya Z (upd H a (.ins C dx (Ac f y fs))) s'->Q () s'):wpAny (model X.prog X.w) A (setAttr (.ref a) f u) Q E s:=by
 obtain⟨mA,O,r,wi,_,ho⟩:=GB I.hok e;have hz:(fs.map (·.1)).length<=sizeLine:=by rw[ZB,sizeLine_eq];lia
 refine Qh I.kIn O c.sa c.po n.taker c.hd wi hz fun h' O' sb=>h _ ?_
 have hd:∃o,h'.get? dx=some o:=let ⟨o,_,_,e',_⟩:=O'.ns;⟨o,e'⟩;refine I.write (x:=a) (e:=dx) (by rw[e];exact True.intro) (.inr ho) (fun b q hb z=>(sb.2 b hb).trans z) hd ?_;refine⟨by rw[AJ O.ne];exact ho,?_,O.ne,O'.obj,_,O'.ns,fun g=>?_,fun g hg=>?_⟩
 ·have:=NV f y fs;lia
 ·show RelO ((Ac f y fs).lookup g) (if g=f then some u else mA g);rw[NN]
  by_cases q:g=f
  ·rw[if_pos q,if_pos q];exact ry
  ·rw[if_neg q,if_neg q];exact r g
 ·by_cases q:g=f
  ·rw[q];exact(JN f y fs).1
  ·refine(JN f y fs).2 g (wi g fun z=>hg ?_)
   show(if g=f then some u else mA g)=none
   rw[if_neg q];exact z
theorem Yg.made(I:Yg X Ya Z H s):Yg X Ya Z (upd (upd H s.heap.objs.size (.own (s.heap.objs.size+1))) (s.heap.objs.size+1) (.ins C s.heap.objs.size []))
 { s with heap:=(s.heap.push PySem.W.emptyDict).push (PySem.W.instObj C s.heap.objs.size) }:=by
 have e1:(s.heap.push PySem.W.emptyDict).get? s.heap.objs.size=some PySem.W.emptyDict:=ZS s.heap rfl
 have e2:((s.heap.push PySem.W.emptyDict).push (PySem.W.instObj C s.heap.objs.size)).get? (s.heap.objs.size+1)=some (PySem.W.instObj C s.heap.objs.size):=by
  have:=ZS (s.heap.push PySem.W.emptyDict) (o:=PySem.W.instObj C s.heap.objs.size) rfl
  rwa [Z7]at this
 have e3:(s.heap.push PySem.W.emptyDict).Ns s.heap.objs.size (fun _=>none):=⟨PySem.W.emptyDict,#[],_,e1,rfl,(fun e he=>absurd he (by simp)),fun _=>rfl⟩;have I1:=I.laid (a:=s.heap.objs.size) (o:=.own (s.heap.objs.size+1)) (h':=s.heap.push PySem.W.emptyDict) (t':=s.toks) (fun b u q=>ZH _ q) (ZD _) ⟨_,e1⟩;refine I1.laid (a:=s.heap.objs.size+1) (o:=.ins C s.heap.objs.size []) (t':=s.toks) (fun b u q=>ZH _ q) (ZBf (Z7 _ _)) ?_;have ne:s.heap.objs.size≠s.heap.objs.size+1:=ZT (ZBM _);refine⟨by rw[AJ ne,AD],ZU _,ne,e2,fun _=>none,(Heap.Ns1.of_empty e3).at fun o q=>ZH _ q,fun _=>True.intro,fun y hy=>absurd rfl hy⟩
theorem TC {prog:Program} {env:Env} {e:Expr} {f:Str} (hb:attributeBase e f env (eval e env)=eval e env)
 (h:wpAny (model prog w) A (eval e env) (fun o s₁=>wpAny (model prog w) A (getAttr o f true) Q E s₁) E s):wpAny (model prog w) A (eval (.Attribute e f pos) env) Q E s :=
 Attribute_any_ h (by rw[arm_eval_Attribute,hb])
end
section
variable {X:Cx}{Ya:List (Addr × Obj)}{Z:St}{H:Hp}{s:Shared}{A:Around}{E:Value->Shared->Prop}{Q:Value->Shared->Prop}{c:Value}{b:Bool}
inductive TyOf (K:W.Frag) (H:Hp):V->Value->Prop where
 | non:TyOf K H .non (.type "NoneType")
 | bl (x:Bool):TyOf K H (.bl x) (.type "bool")
 | int (i:Int):TyOf K H (.int i) (.type "int")
 | str (x:Str):TyOf K H (.str x) (.type "str")
 | flt (x:UInt64):TyOf K H (.flt x) (.type "float")
 | lst {a:Addr} {xs:List V} (e:H a=some (.lst xs)):TyOf K H (.ref a) (.type "list")
 | frz {a:Addr} {o:Obj} {xs:List V} (e:H a=some (.frz o (.lst xs))):TyOf K H (.ref a) (.type "list")
 | tup {a:Addr} {xs:List V} (e:H a=some (.tup xs)):TyOf K H (.ref a) (.type "tuple")
 | dK {a:Addr} {Yc:List (Key × V)} (e:H a=some (.dK Yc)):TyOf K H (.ref a) (.type "dict")
 | dT {a:Addr} {Yc:List (List Key × V)} (e:H a=some (.dT Yc)):TyOf K H (.ref a) (.type "dict")
 | ins {a C dx:Addr} {fs:List (Str × V)} (e:H a=some (.ins C dx fs)) (cl:Cls K C) (ha:PySem.W.findIn K (.ref C) "__class__" = some (some (.builtin "object.__class__")))
  (hn:PySem.W.specialIn K (.builtin "object.__class__") "__get__" = some (some (.builtin "getset_descriptor.__get__"))) (htk:PySem.W.takesIn K (.builtin "object.__class__")=some true)
  (hm:PySem.W.mroIn K C (.type "object")=some true):TyOf K H (.ref a) (.ref C)
theorem Sn{x:V}{t:Value}(I:Yg X Ya Z H s)(rx:Yi x u)(ty:TyOf X.K H x t)(e:PySem.W.kitOne X.K t c=some b)(h:∀tk,Q (.bool b) { s with toks:=tk }) :
 wpAny (model X.prog X.w) A (call (.builtin "isinstance") [u,c]) Q E s:=by
 cases ty with
 | non=>cases (show u=Value.none from rx);exact PySem.W.kia_one PySem.W.kitx_none I.kIn True.intro e (fun z=>nomatch z) h
 | bl y=>cases (show u=Value.bool y from rx);exact PySem.W.kia_one PySem.W.kitx_bool I.kIn True.intro e (fun z=>nomatch z) h
 | int i=>obtain⟨t,q⟩:=(show ∃t,u=Value.int i t from rx);cases q;exact PySem.W.kia_one PySem.W.kitx_int I.kIn True.intro e (fun z=>nomatch z) h
 | str y=>obtain⟨t,q⟩:=(show ∃t,u=Value.str y t from rx);cases q;exact PySem.W.kia_one PySem.W.kitx_str I.kIn True.intro e (fun z=>nomatch z) h
 | flt y=>obtain⟨t,q⟩:=(show ∃t,u=Value.float y t from rx);cases q;exact PySem.W.kia_one PySem.W.kitx_float I.kIn True.intro e (fun z=>nomatch z) h
 | @lst a xs ea =>
  cases (show u=Value.ref a from rx);obtain⟨_,_,n,_,h1⟩:=(show ObjOk X.prog X.w H s.heap a (.lst xs) from I.hok a _ ea);exact PySem.W.kia_one PySem.W.kitx_list I.kIn ⟨_,h1,rfl⟩ e (fun z=>nomatch z) h
 | @frz a ob xs ea =>
  cases (show u=Value.ref a from rx);obtain⟨_,_,_,n,_,h1⟩:=(show ObjOk X.prog X.w H s.heap a (.frz ob (.lst xs)) from I.hok a _ ea);exact PySem.W.kia_one PySem.W.kitx_list I.kIn ⟨_,h1,rfl⟩ e (fun z=>nomatch z) h
 | @tup a xs ea =>
  cases (show u=Value.ref a from rx);obtain⟨_,_,_,p⟩:=(show ObjOk X.prog X.w H s.heap a (.tup xs) from I.hok a _ ea);obtain⟨o,h1,h2,_⟩:=p;exact PySem.W.kia_one PySem.W.kitx_tuple I.kIn ⟨o,h1,h2⟩ e (fun z=>nomatch z) h
 | @dK a Yc ea =>
  cases (show u=Value.ref a from rx);obtain⟨_,_,vs,_,p⟩:=(show ObjOk X.prog X.w H s.heap a (.dK Yc) from I.hok a _ ea);obtain⟨o,es,ep,h1,h2,_⟩:=p;exact PySem.W.kia_one PySem.W.kitx_dict I.kIn ⟨o,h1,h2.1⟩ e (fun z=>nomatch z) h
 | @dT a Yc ea =>
  cases (show u=Value.ref a from rx);obtain⟨_,_,xs,_,o,es,ep,h1,h2,_⟩:=(show ObjOk X.prog X.w H s.heap a (.dT Yc) from I.hok a _ ea);exact PySem.W.kia_one PySem.W.kitx_dict I.kIn ⟨o,h1,h2.1⟩ e (fun z=>nomatch z) h
 | @ins a C dx fs ea cl ha hn htk hm =>
  cases (show u=Value.ref a from rx);obtain⟨mA,O,_⟩:=GB I.hok ea;obtain⟨od,J,_⟩:=O.look;exact PySem.W.kia_one (PySem.W.kitx_own (cl.get _) cl.hd ha hn htk hm) I.kIn J e (fun z=>nomatch z) h
end
structure Room(k:Nat)(A:Around):Prop where
 hd:A.handled=none
 dp:A.depth+3 * k+5 < recursionLimit
 un:A.units+16 * k+200 < cLine
 gd:A.guards=some []
theorem Room.mono{j:Nat}(r:Room k A)(h:j<=k):Room j A:=⟨r.hd,by have:=r.dp;lia,by have:=r.un;lia,r.gd⟩
theorem Room.deeper(r:Room (k+1) A)(env:Env):Room k (A.deeper env) :=
 ⟨r.hd,by have:=r.dp;show A.depth+1+3 * k+5 < _;lia,by have:=r.un;show A.units+3+16 * k+200 < _;lia,r.gd⟩
theorem Room.in1(r:Room (k+1) A):Room k A.in1 :=
 ⟨r.hd,by have:=r.dp;show A.depth+3 * k+5 < _;lia,by have:=r.un;show A.units+1+16 * k+200 < _;lia,r.gd⟩
theorem V5{kw:List (Str × Value)}:(A.under (.builtin "type.__call__" ⟨.ref C::us,kw⟩)).depth=A.depth+1:=by
 first | rfl | simp[Around.under,Code.weight,Code.isCreation,Code.isGuard,Code.isCaller,Code.frames,Code.isFrame,guardIds]
theorem Wg{kw:List (Str × Value)}:(A.under (.builtin "type.__call__" ⟨.ref C::us,kw⟩)).units=A.units+1:=by
 first | rfl | simp[Around.under,Code.cUnits,Code.frames,Code.isFrame]
theorem Room.make(r:Room (k+1) A)(C:Addr)(us:List Value)(kw:List (Str × Value)):Room k (A.under (.builtin "type.__call__" ⟨.ref C::us,kw⟩)) :=
 ⟨r.hd,by have:=r.dp;rw[V5];lia,by have:=r.un;rw[Wg];lia,by first | exact r.gd | (simpa [Around.under,Code.guards,Code.isGuard,guardIds,pushGuards] using r.gd)⟩
theorem Room.depth(r:Room k A):A.depth < recursionLimit:=by have:=r.dp;lia
noncomputable def Di:TA:=fun _ H Q=>Q [] H
noncomputable def Dm(ta:TE)(tr:TA):TA:=fun Z H Q=>ta Z H fun x H1=>tr Z H1 fun xs H2=>Q (x::xs) H2
section
variable {X:Cx}{e:Expr}{es:List Expr}{te:TE}{t:TA}{pos:Pos}
theorem AB:PA X [] Di:=fun _ _ _ _ H Q I h=>Calls.spliced_nil ⟨[],H,I,.nil,h⟩
theorem AA(ha:PE X e te)(hr:PA X es t)(hs:starEach (e::es) X.env=(false,eval e X.env)::starEach es X.env:=by rfl):PA X (e::es) (Dm te t):=by
 intro pos Ya s Z H Q I h;rw[hs];show wpAny _ _ (spliced ((false,eval e X.env)::backTo pos (starEach es X.env))) _ _ s;refine Calls.spliced_cons (Yn (ha Ya s Z H _ I h) fun u s1 ⟨x,H1,I1,r1,q1⟩=>?_);exact Yn (hr pos Ya s1 Z H1 _ I1 q1) fun us s2 ⟨xs,H2,I2,r2,q2⟩=>⟨x::xs,H2,I2,.cons r1 r2,q2⟩
noncomputable def GY(t:TA):TE:=fun Z H Q=>t Z H fun xs H1=>xs.length<=sizeLine/\∀p,H1 p=none->Q (.ref p) (upd H1 p (.tup xs))
noncomputable def Kk(t:TA):TE:=fun Z H Q=>t Z H fun xs H1=>xs.length<=sizeLine/\∀p,H1 p=none->Q (.ref p) (upd H1 p (.lst xs))
theorem BK{x1}(h:PA X es t):PE X (.Tuple es x1 pos) (GY t):=by
 intro Ya s Z H Q I hq;refine wpAny_Tuple_spliced (Yn (h pos Ya s Z H _ I hq) fun us s1 ⟨xs,H1,I1,r,z,q⟩=>⟨by rw[<- r.length];exact z,?_⟩);have hf:H1 s1.heap.objs.size=none:=I1.hok.fresh (ZD _);refine⟨.ref s1.heap.objs.size,upd H1 s1.heap.objs.size (.tup xs),I1.laid (t':=s1.toks) (fun b u e=>ZH _ e) (ZD _) ?_,rfl,q _ hf⟩;exact⟨z,us,r,⟨_,ZS _ rfl,rfl,⟨_,rfl⟩,rfl⟩⟩
theorem BX(h:PA X es t):PE X (.List es pos) (Kk t):=by
 intro Ya s Z H Q I hq;refine wpAny_List_spliced (Yn (h pos Ya s Z H _ I hq) fun us s1 ⟨xs,H1,I1,r,z,q⟩=>⟨by rw[<- r.length];exact z,?_⟩);have hf:H1 s1.heap.objs.size=none:=I1.hok.fresh (ZD _);refine⟨.ref s1.heap.objs.size,upd H1 s1.heap.objs.size (.lst xs),I1.laid (t':=s1.toks) (fun b u e=>ZH _ e) (ZD _) ?_,rfl,q _ hf⟩;exact⟨z,us,0,r,ZS _ rfl⟩
end
noncomputable abbrev Sp:=List V->Hp->VK->XK->Prop
noncomputable abbrev CXT:=List Env->Hp->Shared->XK->Value->Shared->Prop
structure Env0(P:Program)(w:World)(K:W.Frag)(mg:Str->Option Value)(base:Heap)(A:Around)(outer:List Env)(s:Shared)(H:Hp):Prop where
 frames:A.frames=some outer
 mod:Mod K mg base
 bs:∀b o,base.get? b=some o->s.heap.get? b=some o/\H b=none
 bsz:base.objs.size<=s.heap.objs.size
 funs:s.heap.FunFrames base outer
 frf:∀b∈frs outer,H b=none
 hok:HOk P w H s.heap
 bare:AllBare s.gens
noncomputable def CE(outer:List Env)(P:Program)(w:World)(H:Hp)(s:Shared)(Q:VK)(u:Value)(s':Shared):Prop :=
 ∃v H',s'.os=s.os/\AllBare s'.gens/\Un (frs outer) [] H H' s.heap s'.heap/\HOk P w H' s'.heap/\Yi v u/\Q v H'
noncomputable def CR(CX:CXT)(outer:List Env)(P:Program)(w:World)(H:Hp)(s:Shared)(Q:VK)(E:XK)(r:Result)(s':Shared):Prop :=
 match r with
 | .ok (.ret u)=>CE outer P w H s Q u s'
 | .ok _=>False
 | .error e=>CX outer H s E e s'
structure FnOk(P:Program)(w:World)(K:W.Frag)(mg:Str->Option Value)(base:Heap)(CX:CXT)(k:Nat)(f:Addr)(fd:FuncData)(ps:List Str)(sp:Sp):Prop where
 len:∀vs H Q E,sp vs H Q E->vs.length=ps.length
 run:∀(A:Around) (outer:List Env) (s:Shared) (H:Hp) (args:Args) (us:List Value) (vs:List V) (Q:VK) (E:XK),Room k A->Env0 P w K mg base A outer s H->BindsTo s fd args (ps.zip us)->Yk vs us->sp vs H Q E ->
  codeAny (model P w) A (.call (.ref f) args) (CR CX outer P w H s Q E) s
theorem FnOk.imp {CX:CXT} {f:Addr} {fd:FuncData} {ps:List Str} {sp sp':Sp} (F:FnOk P w K mg base CX k f fd ps sp)
 (h:∀vs H Q E,sp' vs H Q E->sp vs H Q E):FnOk P w K mg base CX k f fd ps sp' :=
 ⟨fun vs H Q E q=>F.len vs H Q E (h _ _ _ _ q),fun A outer s H args us vs Q E hr he hb hv hs=>F.run A outer s H args us vs Q E hr he hb hv (h _ _ _ _ hs)⟩
theorem Env0.make{outer:List Env}(e:Env0 P w K mg base A outer s H)(C:Addr)(us:List Value)(kw:List (Str × Value)) :
 Env0 P w K mg base (A.under (.builtin "type.__call__" ⟨.ref C::us,kw⟩)) outer s H:=⟨by first | exact e.frames | (simpa [Around.under,Code.envs,Code.isFrame,pushEnvs] using e.frames),e.mod,e.bs,e.bsz,e.funs,e.frf,e.hok,e.bare⟩
theorem Env0.in1{outer:List Env}(e:Env0 P w K mg base A outer s H) :
 Env0 P w K mg base A.in1 outer s H:=⟨e.frames,e.mod,e.bs,e.bsz,e.funs,e.frf,e.hok,e.bare⟩
section
variable {X:Cx}{Ya:List (Addr × Obj)}{Z:St}{H:Hp}{s s':Shared}
theorem Yg.env0(I:Yg X Ya Z H s):Env0 X.prog X.w X.K X.mg X.base X.A X.stack s H :=
 ⟨I.ok.frames,I.ok.mod,I.bs,Zj I.ok.bsz I.sz,I.stack,I.stkFree,I.hok,I.bare⟩
theorem Yg.after{Q:VK}(I:Yg X Ya Z H s)(h:CE X.stack X.prog X.w H s Q u s'):EP X Ya Z Q u s':=by
 obtain⟨v,H',os,bare,un,hok,r,q⟩:=h;obtain⟨hh,g,d,t,os'⟩:=s';obtain rfl:os'=s.os:=os;exact⟨v,H',I.call (h':=hh) (g':=g) (d':=d) (t':=t) (ch:=[]) un hok bare (fun b z=>absurd z (by simp)),r,q⟩
end
noncomputable def Hq(sp:Sp)(dvs:List V)(E:XK)(t:TA):TE:=fun Z H Q=>t Z H fun vs H1=>sp (vs++dvs) H1 Q E
noncomputable def IX(C:Addr)(m:Str)(sp:Sp)(dvs:List V)(E:XK)(ta:TE)(t:TA):TE:=fun Z H Q=>ta Z H fun x H1=>∃a dx fs,x=.ref a/\H1 a=some (.ins C dx fs)/\fs.lookup m=none /\
 t Z H1 fun vs H2=>sp (x::(vs++dvs)) H2 Q E
noncomputable def Vv(C:Addr)(sp:Sp)(dvs:List V)(E:XK)(t:TA):TE:=fun Z H Q=>t Z H fun vs H1=>∀x dx,H1 x=none->H1 dx=none->dx≠x ->
 sp (.ref x::(vs++dvs)) (upd (upd H1 dx (.own x)) x (.ins C dx [])) (fun v H2=>v=.non/\Q (.ref x) H2) E
noncomputable def Binds(K:W.Frag)(fd:FuncData)(ps:List Str)(ds:List Value):Prop :=
 ∀(s:Shared) (us:List Value),K.In s.heap->(us++ds).length=ps.length->BindsTo s fd ⟨us,[]⟩ (ps.zip (us++ds))
theorem Binds.all{fd:FuncData}{ps:List Str}(h:∀us:List Value,us.length=ps.length->bindArgs fd ⟨us,[]⟩=pure (ps.zip us)):Binds K fd ps []:=fun s us _ hl=>by
 rw[Zq]at hl ⊢;exact .of_eq (h us hl)
noncomputable def Dr(CX:CXT)(X:Cx)(E:XK):Prop:=∀(Ya:List (Addr × Obj)) (Z:St) (H:Hp) (s:Shared) (e:Value) (s':Shared),Yg X Ya Z H s->CX X.stack H s E e s'->X.xe e s'
section
variable {X:Cx}{CX:CXT}{k:Nat}{f C:Addr}{fd:FuncData}{ps:List Str}{sp:Sp}{dvs:List V}{ds:List Value}{E:XK}{x m:Str}{p pos apos:Pos}{e o:Expr}{es:List Expr}{ta:TE}{t:TA}
theorem Ff {Q:VK} {vs:List V} (F:FnOk X.prog X.w X.K X.mg X.base CX k f fd ps sp) (hr:Room k X.A) (hb:Binds X.K fd ps ds) (hd:Yk dvs ds) (hx:Dr CX X E)
 (I:Yg X Ya Z H s) (r:Yk vs us) (h:sp (vs++dvs) H Q E):wpAny (model X.prog X.w) X.A (call (.ref f) us) (EP X Ya Z Q) X.xe s:=by
 have r2:Yk (vs++dvs) (us++ds):=r.append hd;have hl:(us++ds).length=ps.length:=by rw[<- r2.length];exact F.len _ _ _ _ h
 refine wpAny_call (ZBN (F.run X.A X.stack s H ⟨us,[]⟩ (us++ds) (vs++dvs) Q E hr I.env0 (hb s us I.kIn hl) r2 h) fun r s' hq=>?_);cases r with
 | error e=>exact hx Ya Z H s e s' I hq
 | ok fl =>
  cases fl with
  | ret u=>exact I.after hq
  | next=>exact False.elim hq
  | brk=>exact False.elim hq
  | cont=>exact False.elim hq
theorem AI (F:FnOk X.prog X.w X.K X.mg X.base CX k f fd ps sp) (hr:Room k X.A) (hg:Gl X x) (hm:X.mg x=some (.ref f)) (hk:PySem.W.keepIn X.K (.ref f)=true) (hb:Binds X.K fd ps ds) (hd:Yk dvs ds) (hx:Dr CX X E)
 (ha:PA X (e::es) t) (hdb:(x == ("__debug__" : Str))=false:=by decide) (he:starEach (e::es) X.env=(false,eval e X.env)::starEach es X.env:=by rfl) (hpl:(backTo pos (starEach es X.env)).any (·.1)=false:=by rfl) :
 PE X (.Call (.Name x p) (e::es) [] pos) (Hq sp dvs E t):=by
 intro Ya s Z H Q I h;refine wpAny_Call_Name_kw (GP I hg hm ?_ hdb);refine PySem.W.callWith_K (h₀:=X.base) I.ok.mod.kin hk (Yn (ha pos Ya s Z H _ I h) fun us s1 ⟨vs,H1,I1,r,q⟩=>⟨I1.kIn,?_⟩) he hpl;exact Ff F hr hb hd hx I1 r q
theorem A3 {pl:Sem Bool} (he:PE X o ta) (c:Cls X.K C) (hm:Meth X.K C m f) (F:FnOk X.prog X.w X.K X.mg X.base CX k f fd ps sp) (hr:Room k X.A) (hb:Binds X.K fd ps ds) (hd:Yk dvs ds) (hx:Dr CX X E) (ha:PA X (e::es) t)
 (hst:starEach (e::es) X.env=(false,eval e X.env)::starEach es X.env:=by rfl) (hpl:(backTo pos (starEach es X.env)).any (·.1)=false:=by rfl)
 (ht:eval (.Call (.Attribute o m apos) (e::es) [] pos) X.env=(do
   let ov <- eval o X.env
   standAt apos.atName
   let (f,first) <- holding [ov] (getMethod ov m pl)
   callWith pos f first (backTo pos (starEach (e::es) X.env)) (backToKw pos (keywordEach [] X.env))):=by rfl) :
 PE X (.Call (.Attribute o m apos) (e::es) [] pos) (IX C m sp dvs E ta t):=by
 intro Ya s Z H Q I h;refine PySem.W.methodCall_KW (pl:=pl) (Yn (he Ya s Z H _ I h) fun u s1 ⟨x,H1,I1,rx,a,dx,fs,ex,ea,l,q⟩=>?_) ht;subst ex;obtain rfl:u=Value.ref a:=rx;refine NS I1 ea c hm l ?_;refine PySem.W.callWith_K (first:=[.ref a]) (h₀:=X.base) I.ok.mod.kin hm.kp (Yn (ha pos Ya s1 Z H1 _ I1 q) fun us s2 ⟨vs,H2,I2,r,q2⟩=>⟨I2.kIn,?_⟩) hst hpl;exact Ff (us:=.ref a::us) (vs:=.ref a::vs) F hr hb hd hx I2 (.cons rfl r) q2
theorem OF {pl:Sem Bool} (he:PE X o ta) (c:Cls X.K C) (hm:Meth X.K C m f) (F:FnOk X.prog X.w X.K X.mg X.base CX k f fd ps sp) (hr:Room k X.A) (hb:Binds X.K fd ps ds) (hd:Yk dvs ds) (hx:Dr CX X E)
 (ht:eval (.Call (.Attribute o m apos) [] [] pos) X.env=(do
   let ov <- eval o X.env
   standAt apos.atName
   let (f,first) <- holding [ov] (getMethod ov m pl)
   callWith pos f first (backTo pos (starEach [] X.env)) (backToKw pos (keywordEach [] X.env))):=by rfl) :
 PE X (.Call (.Attribute o m apos) [] [] pos) (IX C m sp dvs E ta Di):=by
 intro Ya s Z H Q I h;refine PySem.W.methodCall_KW (pl:=pl) (Yn (he Ya s Z H _ I h) fun u s1 ⟨x,H1,I1,rx,a,dx,fs,ex,ea,l,q⟩=>?_) ht;subst ex;obtain rfl:u=Value.ref a:=rx;refine NS I1 ea c hm l ?_;exact PySem.W.callWith_K0 (first:=[.ref a]) I1.kIn hm.kp (Ff (us:=[.ref a]) (vs:=[.ref a]) F hr hb hd hx I1 (.cons rfl .nil) q)
structure Mk(K:W.Frag)(C f:Addr):Prop where
 makes:PySem.W.makesIn K C=true
 init:PySem.W.findIn K (.ref C) "__init__" = some (some (.ref f))
 fn:PySem.W.isFn K (.ref f)=true
 kp:PySem.W.keepIn K (.ref C)=true
theorem RS {Q:VK} {vs:List V} (M:Mk X.K C f) (F:FnOk X.prog X.w X.K X.mg X.base CX k f fd ps sp) (hr:Room (k+1) X.A) (hb:Binds X.K fd ps ds) (hd:Yk dvs ds)
 (hx:Dr CX X E) (I:Yg X Ya Z H s) (r:Yk vs us)
 (h:∀x dx,H x=none->H dx=none->dx≠x->sp (.ref x::(vs++dvs)) (upd (upd H dx (.own x)) x (.ins C dx [])) (fun v H2=>v=.non/\Q (.ref x) H2) E) :
 wpAny (model X.prog X.w) X.A (call (.ref C) us) (EP X Ya Z Q) X.xe s:=by
 have hq:=h (s.heap.objs.size+1) s.heap.objs.size (I.hok.fresh (ZBl _)) (I.hok.fresh (ZD _)) (ZT (ZBM _));have I2:=Yg.made (C:=C) I;have r2:Yk (V.ref (s.heap.objs.size+1)::(vs++dvs)) (Value.ref (s.heap.objs.size+1)::(us++ds)):=.cons rfl (r.append hd)
 have hl:(Value.ref (s.heap.objs.size+1)::us++ds).length=ps.length:=by
  have e:=r2.length;rw[F.len _ _ _ _ hq]at e;exact e.symm
 refine wpAny_call (Sr (f:=f) I.kIn M.makes M.init (beq_iff_eq.mp M.fn) (ZBN (F.run _ X.stack _ _ ⟨Value.ref (s.heap.objs.size+1)::us,[]⟩ (Value.ref (s.heap.objs.size+1)::(us++ds)) _ _ E (hr.make C us [])
  (I2.env0.make C us []) (hb _ (Value.ref (s.heap.objs.size+1)::us) I2.kIn hl) r2 hq) fun r s' hq'=>?_))
 cases r with
 | error e=>exact hx Ya Z _ _ e s' I2 hq'
 | ok fl =>
  cases fl with
  | ret u =>
   obtain⟨v,H',I3,rv,ev,q3⟩:=I2.after hq';subst ev;exact⟨rv,⟨V.ref (s.heap.objs.size+1),H',I3,rfl,q3⟩⟩
  | next=>exact False.elim hq'
  | brk=>exact False.elim hq'
  | cont=>exact False.elim hq'
theorem JB (M:Mk X.K C f) (F:FnOk X.prog X.w X.K X.mg X.base CX k f fd ps sp) (hr:Room (k+1) X.A) (hg:Gl X x) (hm:X.mg x=some (.ref C)) (hb:Binds X.K fd ps ds) (hd:Yk dvs ds) (hx:Dr CX X E)
 (ha:PA X (e::es) t) (hdb:(x == ("__debug__" : Str))=false:=by decide) (he:starEach (e::es) X.env=(false,eval e X.env)::starEach es X.env:=by rfl) (hpl:(backTo pos (starEach es X.env)).any (·.1)=false:=by rfl) :
 PE X (.Call (.Name x p) (e::es) [] pos) (Vv C sp dvs E t):=by
 intro Ya s Z H Q I h;refine wpAny_Call_Name_kw (GP I hg hm ?_ hdb);refine PySem.W.callWith_K (h₀:=X.base) I.ok.mod.kin M.kp (Yn (ha pos Ya s Z H _ I h) fun us s1 ⟨vs,H1,I1,r,q⟩=>⟨I1.kIn,?_⟩) he hpl;exact RS M F hr hb hd hx I1 r q
end
structure FnScope(N P:List Str)(sc:Scope):Prop where
 kind:sc.kind=.function
 co:sc.isCoroutine=false
 gen:sc.isGenerator=false
 nd:N.Nodup
 pre:N.take P.length=P
 par:∀x∈P,sc.names.lookup x=some .local\/sc.names.lookup x=some .cell
 nofree:∀y∈sc.names,y.2≠.free
theorem MR{kindOf:Str->Option NameKind}:∀{binds:List (Str × Value)} {m:Str->Option Value},(∀v,(x,v)∉binds)->bindL kindOf binds m x=m x
 | [],_,_=>rfl
 | (n,v)::r,m,h=>by
  unfold bindL;rw[MR fun w hw=>h w (ZX _ hw)];split
  ·have:x≠n:=by rintro rfl;exact h v Zb
   simp[this]
  ·rfl
theorem K2{kindOf:Str->Option NameKind}:∀{binds:List (Str × Value)} {m:Str->Option Value},(∀v,(x,v)∉binds)->bindC kindOf binds m x=m x
 | [],_,_=>rfl
 | (n,v)::r,m,h=>by
  unfold bindC;rw[K2 fun w hw=>h w (ZX _ hw)];split
  ·rfl
  ·have:x≠n:=by rintro rfl;exact h v Zb
   simp[this]
theorem Mu{kindOf:Str->Option NameKind}{v:Value}:∀{P:List Str} {vs:List Value} {i:Nat} {m:Str->Option Value},P.Nodup->P[i]? = some x->vs[i]? = some v->kindOf x=some .local ->
 bindL kindOf (P.zip vs) m x=some v
 | [],_,_,_,_,h,_,_=>by simp at h
 | _::_,[],_,_,_,_,h,_=>by simp at h
 | p::P,w::vs,0,m,nd,h1,h2,hk=>by
  simp at h1 h2;subst h1;subst h2;show bindL kindOf ((p,w)::P.zip vs) m p=_;unfold bindL;rw[MR fun v hv=>(ZBg.mp nd).1 (List.of_mem_zip hv).1,if_pos hk];simp
 | p::P,w::vs,i+1,m,nd,h1,h2,hk=>by
  show bindL kindOf ((p,w)::P.zip vs) m x=_;unfold bindL;exact Mu (i:=i) (ZBg.mp nd).2 (by simpa using h1) (by simpa using h2) hk
theorem NI{kindOf:Str->Option NameKind}{v:Value}:∀{P:List Str} {vs:List Value} {i:Nat} {m:Str->Option Value},P.Nodup->P[i]? = some x->vs[i]? = some v->kindOf x≠some .local ->
 bindC kindOf (P.zip vs) m x=some v
 | [],_,_,_,_,h,_,_=>by simp at h
 | _::_,[],_,_,_,_,h,_=>by simp at h
 | p::P,w::vs,0,m,nd,h1,h2,hk=>by
  simp at h1 h2;subst h1;subst h2;show bindC kindOf ((p,w)::P.zip vs) m p=_;unfold bindC;rw[K2 fun v hv=>(ZBg.mp nd).1 (List.of_mem_zip hv).1,if_neg hk];simp
 | p::P,w::vs,i+1,m,nd,h1,h2,hk=>by
  show bindC kindOf ((p,w)::P.zip vs) m x=_;unfold bindC;exact NI (i:=i) (ZBg.mp nd).2 (by simpa using h1) (by simpa using h2) hk
noncomputable def C9(N:List Str)(vs:List V):St:=vs.map some++List.replicate (N.length - vs.length) none
noncomputable def Db(CX:CXT)(P:Program)(w:World)(K:W.Frag)(mg:Str->Option Value)(base:Heap)(N:List Str)(qual:Str)(scope:Scope)(f:Addr)(cd:Value)(A:Around)(outer:List Env)(s:Shared)(H:Hp)(E:XK):Cx where
 prog:=P
 w:=w
 K:=K
 mg:=mg
 base:=base
 A:=A.deeper (envOfC qual scope s.heap.objs.size f cd)
 N:=N
 s₀:=s
 H₀:=H
 env:=envOfC qual scope s.heap.objs.size f cd
 outer:=outer
 stack:=envOfC qual scope s.heap.objs.size f cd::outer
 ex:=[]
 calm:=true
 fn:=fun _=>true
 pn:=[]
 xe:=fun e s'=>wpAny (model P w) (A.deeper (envOfC qual scope s.heap.objs.size f cd)) (leaving (envOfC qual scope s.heap.objs.size f cd) e) (fun _ s''=>CX outer H s E e s'') (fun e' s''=>CX outer H s E e' s'') s'
theorem Ke{sc:Scope}{n:Nat}(h:sc.names.lookup x=some .cell):∃c,(cellsFrom n sc.names []).lookup x=some c:=by
 have q:=PySem.W.cellsFrom_some sc.names n [] (.inl h);exact Option.isSome_iff_exists.mp q
theorem VM {CX:CXT} {N ps:List Str} {qual:Str} {scope:Scope} {f:Addr} {cd:Value} {outer:List Env} {s1:Shared} {E:XK} {vs:List V}
 (S:FnScope N ps scope) (hd:A.handled=none) (e0:Env0 P w K mg base A outer s H) (hl:vs.length=ps.length) (r:Yk vs us)
 (x:InCallC s s.heap.objs.size (bindL (envOfC qual scope s.heap.objs.size f cd).kindOf (ps.zip us) fun _=>none) (cellsFrom (s.heap.objs.size+1) scope.names []) (bindC (envOfC qual scope s.heap.objs.size f cd).kindOf (ps.zip us) fun _=>none) s1) :
 Yg (Db CX P w K mg base N qual scope f cd A outer s H E) [] (C9 N vs) H s1:=by
 have hpl:ps.length<=N.length:=by have:=congrArg List.length S.pre;rw[Za]at this;lia
 obtain⟨h1,tk,rfl,hk⟩:=x.done;have noA:∀b:Addr,b∉(Db CX P w K mg base N qual scope f cd A outer s H E).ex:=fun b z=>absurd (show b∈([]:List Addr) from z) (by simp)
 refine⟨⟨e0.mod,S.kind,rfl,rfl,ZD _,fun y z c h1 h2=>?_,fun y hy=>?_,fun y c _ h=>?_,fun _=>hd,Around.frames_deeper e0.frames,.inr ⟨rfl,rfl⟩,fun b z=>absurd z (noA b),e0.bs,e0.bsz,fun b _ _=>noA b,fun b z=>absurd z (noA b),e0.funs,e0.frf⟩,
  rfl,e0.bare,Un.kept hk,⟨_,x.toInCall.ns,fun i y v h1 h2 h3=>?_⟩,fun y c h=>⟨_,x.cell y c h⟩,e0.hok.fresh (ZD _),fun y c h=>?_,fun p hp=>absurd (show p∈([]:List (Addr × Obj)) from hp) (by simp),e0.hok.kept hk,?_⟩
 ·exact name_of_addr x.apart (PySem.mem_of_lookup h1) (PySem.mem_of_lookup h2)
 ·have hy:scope.names.lookup y=some .cell\/scope.names.lookup y=some .free:=hy
  rcases hy with hy | hy
  ·exact Ke hy
  ·exact absurd rfl (S.nofree _ (PySem.mem_of_lookup hy))
 ·exact Zv (x.above y c (PySem.mem_of_lookup h))
 ·have hi:i < vs.length:=by
   unfold C9 at h2
   by_cases hi:i < vs.length
   ·exact hi
   ·rw[Z6 (by simpa using hi)]at h2;rw[List.getElem?_replicate]at h2;split at h2 <;> cases h2
  have ha:vs[i]? = some v:=by
   unfold C9 at h2;rw[ZBF (by simpa using hi),ZR]at h2;cases e:vs[i]? with
   | none=>rw[e]at h2;cases h2
   | some a=>rw[e]at h2;cases h2;rfl
  obtain⟨u,hu,rv⟩:=r.get ha
  have hp:ps[i]? = some y:=by
   rw[<- S.pre,List.getElem?_take_of_lt (by lia)];exact h1
  have ndP:ps.Nodup:=by rw[<- S.pre];exact S.nd.sublist (List.take_sublist _ _)
  refine⟨u,rv,?_⟩
  rcases S.par y (Zw hp) with k | k
  ·exact .inl ⟨k,Mu ndP hp hu k⟩
  ·obtain⟨c,e⟩:=Ke (n:=s.heap.objs.size+1) k;refine .inr ⟨.inl k,c,e,?_⟩;have q:=x.cell y c e;rw[NI ndP hp hu (by show scope.names.lookup y≠_;rw[k];decide)]at q;exact q
 ·exact e0.hok.fresh (Zv (x.above y c (PySem.mem_of_lookup h)))
 ·unfold C9;show _=N.length;rw[ZN,ZB,ZBt];lia
theorem OV {CX:CXT} {f:Addr} {name qual:Str} {params:Arguments} {body:List Stmt} {scope:Scope} {dV kV doc pm Yy ct oc:Value} {an od:Option Addr}
 {osl:Array (Option Value)} {N ps:List Str} {sp:Sp} (lk:K.lookup f=some ⟨oc,od,.func (PySem.W.fnOf name qual params body scope dV kV doc pm an Yy ct),osl⟩) (hcd:PySem.W.codeIn K Yy qual=true) (S:FnScope N ps scope)
 (len:∀vs H Q E,sp vs H Q E->vs.length=ps.length)
 (hbody:∀(A:Around) (outer:List Env) (s:Shared) (H:Hp) (vs:List V) (Q:VK) (E:XK),Room k (A.deeper (envOfC qual scope s.heap.objs.size f Yy))->sp vs H Q E ->
   ∃t,PSs (Db CX P w K mg base N qual scope f Yy A outer s H E) body t/\t { nx:=fun _ H'=>Q .non H',rt:=Q } (C9 N vs) H) :
 FnOk P w K mg base CX (k+1) f (PySem.W.fnOf name qual params body scope dV kV doc pm an Yy ct) ps sp:=by
 refine⟨len,fun A outer s H args us vs Q E hr e0 hb r hsp=>?_⟩;have hl:=len _ _ _ _ hsp;have KX:K.In s.heap:=e0.mod.kin.keeps fun b o e=>(e0.bs b o e).1
 have lim:s.heap.NoLimit:=e0.mod.nolimit.keeps fun b o e=>(e0.bs b o e).1
 have hkind:∀y∈ps.zip us,scope.names.lookup y.1=some .local\/(scope.names.lookup y.1=some .cell/\((cellsFrom (s.heap.objs.size+1) scope.names []).lookup y.1).isSome=true):=fun⟨n,v⟩ hy=>by
  rcases S.par n (List.of_mem_zip hy).1 with q | q
  ·exact .inl q
  ·exact .inr ⟨q,PySem.W.cellsFrom_some _ _ _ (.inl q)⟩
 refine codeAny_call_function hr.depth (KX _ _ lk) rfl S.co S.gen rfl (PySem.W.codeRec_of KX hcd) (hb _ _ _ _ ?_);refine wpAny_newFunctionEnv_cells S.kind hkind fun env he s1 x=>?_
 subst he;refine⟨lim.keeps x.toInCall.keep,codeAny_func ?_⟩;obtain⟨t,ht,hq⟩:=hbody A outer s H vs Q E (hr.deeper _) hsp;have I:Yg (Db CX P w K mg base N qual scope f Yy A outer s H E) [] (C9 N vs) H s1:=VM S hr.hd e0 hl r x;refine Zp (ht [] s1 (C9 N vs) H _ I hq) (fun fl s' hs=>?_) fun e s' hs=>hs
 have fin:∀{σ':St} {H':Hp} {v:V} {u:Value},Yg (Db CX P w K mg base N qual scope f Yy A outer s H E) [] σ' H' s'->Yi v u->Q v H'->CE outer P w H s Q u s' :=
  fun {σ' H' v u} J rv q=>⟨v,H',J.os,J.bare,J.base,J.hok,rv,q⟩
 cases fl with
 | ret u =>
  obtain⟨v,σ',H',J,rv,q⟩:=hs;exact fin J rv q
 | next =>
  obtain⟨σ',H',J,q⟩:=hs;exact fin (v:=V.non) (u:=Value.none) J rfl q
 | brk =>
  obtain⟨_,_,_,q⟩:=hs;exact False.elim q
 | cont =>
  obtain⟨_,_,_,q⟩:=hs;exact False.elim q
section
variable {X:Cx}{x:Str}{p pos:Pos}{e:Expr}{es:List Expr}{t:TA}{id T:String}{r:List V->Hp->VK->Prop}
noncomputable def tCB(r:List V->Hp->VK->Prop)(t:TA):TE:=fun Z H Q=>t Z H fun vs H1=>r vs H1 Q
theorem Ab (hc:CallR X (.builtin id) r) (hg:Gl X x) (hm:X.mg x=none) (hv:bootBuiltins x=some (.builtin id)) (ha:PA X (e::es) t) (hn:x ≠ "__name__":=by decide) (hdb:(x == ("__debug__" : Str))=false:=by decide)
 (he:starEach (e::es) X.env=(false,eval e X.env)::starEach es X.env:=by rfl) (hpl:(backTo pos (starEach es X.env)).any (·.1)=false:=by rfl):PE X (.Call (.Name x p) (e::es) [] pos) (tCB r t):=by
 intro Ya s Z H Q I h;refine wpAny_Call_Name_kw (Cu I hg hm hv ?_ hn hdb);exact PyProof.Rows.callWith_builtin1 (Yn (ha pos Ya s Z H _ I h) fun us s1 ⟨vs,H1,I1,r1,q1⟩=>hc Ya s1 Z H1 vs us Q I1 r1 q1) he hpl
theorem Av (hc:CallR X (.type T) r) (hg:Gl X x) (hm:X.mg x=none) (hv:bootBuiltins x=some (.type T)) (ha:PA X (e::es) t) (hn:x ≠ "__name__":=by decide) (hdb:(x == ("__debug__" : Str))=false:=by decide)
 (he:starEach (e::es) X.env=(false,eval e X.env)::starEach es X.env:=by rfl) (hpl:(backTo pos (starEach es X.env)).any (·.1)=false:=by rfl):PE X (.Call (.Name x p) (e::es) [] pos) (tCB r t):=by
 intro Ya s Z H Q I h;refine wpAny_Call_Name_kw (Cu I hg hm hv ?_ hn hdb);exact PyProof.Rows.callWith_type1 (Yn (ha pos Ya s Z H _ I h) fun us s1 ⟨vs,H1,I1,r1,q1⟩=>hc Ya s1 Z H1 vs us Q I1 r1 q1) he hpl
end
end L2
namespace HT
open PySem PyProof.Rows
section
open PySem.SeqAt
open PySem.AutoSeq1 (wpAny_loadPart')
open PySem.MeetsSeq PySem.MeetsSeq2 PySem.MeetsSeq3
end
section
variable {prog:Program}{w:World}{A:Around}{E:Value->Shared->Prop}{s:Shared}
theorem cat_tup {t b:Addr} {vs ws:List Value} {Q:Value->Shared->Prop} (ht:IsTup s.heap t vs.toArray) (hb:IsTup s.heap b ws.toArray) (hv:vs≠[])
 (h1:ws=[]->Q (.ref t) s) (h2:ws≠[]->Q (.ref s.heap.objs.size) { s with heap:=s.heap.push { cls:=.type "tuple",data:=.seq (vs++ws).toArray } })
 (hsz:vs.length+ws.length<=sizeLine):wpAny (model prog w) A (binaryOp .Add (.ref t) (.ref b)) Q E s:=by
 obtain⟨⟨cls,dd,data,sl⟩,ho,hc,n,hd⟩:=id ht;obtain⟨⟨cls2,dd2,data2,sl2⟩,ho2,hc2,n2,hd2⟩:=id hb;simp only at hc hd hc2 hd2;subst hc hd hc2 hd2;have e:vs.toArray++ws.toArray=(vs++ws).toArray:=by simp
 by_cases hw:ws=[]
 ·exact concat_meets ⟨_,ho,rfl⟩ ⟨_,ho2,rfl⟩ noFill_tuple_add seq_tuple_add PySem.F.slot_tuple_add PySem.F.entry_tuple_add (PySem.F.args_tuple_add_2 _ _)
   (tuple_addW1 t b vs.toArray ws.toArray n n2 dd dd2 sl sl2 (by simpa using hv) (by simp[hw])) ⟨ho,ho2,h1 hw⟩
 ·refine concat_meets ⟨_,ho,rfl⟩ ⟨_,ho2,rfl⟩ noFill_tuple_add seq_tuple_add PySem.F.slot_tuple_add PySem.F.entry_tuple_add (PySem.F.args_tuple_add_2 _ _)
   (tuple_addW2 t b vs.toArray ws.toArray n n2 dd dd2 sl sl2 (by simpa using hv) (by simpa using hw) (by rw[ZI,ZI];exact hsz)) ⟨ho,ho2,?_⟩
  rw[e];exact h2 hw
noncomputable def sIx(n d:Nat):Option Int->Nat
 | none=>d
 | some v=>if v < 0 then (v+(n:Int)).toNat else min v.toNat n
theorem sIx_none(n d:Nat):sIx n d none=d:=rfl
theorem sIx_nat(n d k:Nat):sIx n d (some (k:Int))=min k n:=by
 show(if (k:Int) < 0 then ((k:Int)+(n:Int)).toNat else min (k:Int).toNat n)=min k n
 rw[if_neg (by lia),Zc]
theorem WX(n d:Nat)(hd:d<=n)(o:Option Int):sIx n d o<=n:=by
 cases o with
 | none=>exact hd
 | some v =>
  show(if v < 0 then (v+(n:Int)).toNat else min v.toNat n)<=n
  by_cases hv:v < 0
  ·rw[if_pos hv];lia
  ·rw[if_neg hv];exact Nat.min_le_right _ _
theorem LB(v:Int)(n d:Nat):(if v < 0 then max (v+(n:Int)) 0 else min v (n:Int))=((sIx n d (some v):Nat):Int):=by
 show(if v < 0 then max (v+(n:Int)) 0 else min v (n:Int))=(((if v < 0 then (v+(n:Int)).toNat else min v.toNat n):Nat):Int)
 by_cases hv:v < 0
 ·simp only[if_pos hv];lia
 ·simp only[if_neg hv];lia
theorem T9(lo hi:Option Int)(n:Nat):Builtin.Slice.sliceAdjust lo hi 1 (n:Int)=(((sIx n 0 lo:Nat):Int),((sIx n n hi:Nat):Int)):=by
 have h1:¬((1:Int) < 0):=by lia
 unfold Builtin.Slice.sliceAdjust;simp only[h1,if_false];refine Prod.ext ?_ ?_
 ·cases lo with
  | none=>rfl
  | some v=>exact LB v n 0
 ·cases hi with
  | none=>rfl
  | some v=>exact LB v n n
theorem Wq(i j:Nat):Builtin.Slice.slicePlaces (i:Int) (j:Int) 1=j - i:=by
 unfold Builtin.Slice.slicePlaces;have h1:(1:Int) > 0:=by lia
 simp only[h1,if_true,Int.ediv_one];split <;> lia
theorem MU{v:Value}{o:Option Int}{Q:Option Int->Shared->Prop}(p:IsPart v o)(h:Q o s):wpAny (model prog w) A (Builtin.Slice.slicePartIndex v) Q E s:=by
 cases p with
 | none=>exact slicePart_none h
 | int i t=>exact slicePart_int h
theorem NQ {sl:Addr} {vl vu:Value} {lo hi:Option Int} {n:Nat} {Q:Int × Int × Nat->Shared->Prop} (hs:s.heap.IsSliceOf sl vl vu .none) (pl:IsPart vl lo) (pu:IsPart vu hi)
 (h:Q (((sIx n 0 lo:Nat):Int),1,sIx n n hi - sIx n 0 lo) s):wpAny (model prog w) A (Builtin.Slice.sliceApplied (.ref sl) (pure (n:Int))) Q E s:=by
 obtain⟨os,hos,hcs,hds⟩:=id hs;unfold Builtin.Slice.sliceApplied Builtin.Slice.sliceFields;refine ZA (ZA (ZBV hos hds (x:=vl) rfl (ZA (ZBV hos hds (x:=vu) rfl (ZA (ZBV hos hds (x:=.none) rfl (ZC ?_)))))));refine ZA (slicePart_none ?_);show wpAny _ _ (if ((1:Int) == 0)=true then _ else _) _ _ s;rw[if_neg (by decide)];refine ZA (MU pl (ZA (MU pu (ZA (ZC ?_)))));show wpAny _ _ (match Builtin.Slice.sliceAdjust lo hi 1 (n:Int) with | (lo,hi)=>pure (lo,(1:Int),Builtin.Slice.slicePlaces lo hi 1)) _ _ s;rw[T9 lo hi n];show wpAny _ _ (pure (((sIx n 0 lo:Nat):Int),(1:Int),Builtin.Slice.slicePlaces ((sIx n 0 lo:Nat):Int) ((sIx n n hi:Nat):Int) 1)) _ _ s;rw[Wq];exact ZC h
theorem QD(xs:Array Value)(i k:Nat):((List.range k).filterMap fun(m:Nat)=>xs[((i:Int)+(m:Int) * 1).toNat]?).toArray=((xs.toList.drop i).take k).toArray:=by
 have e:(fun(m:Nat)=>xs[((i:Int)+(m:Int) * 1).toNat]?)=fun m=>xs[i+m]?:=by
  funext m
  have:((i:Int)+(m:Int) * 1).toNat=i+m:=by lia
  rw[this]
 rw[e]
 have:=pick_run xs i k
 rw[List.filterMap_map]at this;have e2:((fun x=>xs[x]?) ∘ fun x=>i+x)=fun m=>xs[i+m]?:=rfl
 rw[e2]at this;rw[this]
theorem getItem_tuple_cut {t sl:Addr} {items:Array Value} {vl vu:Value} {lo hi:Option Int} {Q:Value->Shared->Prop} (ht:IsTup s.heap t items) (hs:s.heap.IsSliceOf sl vl vu .none) (pl:IsPart vl lo) (pu:IsPart vu hi)
 (hw:¬(sIx items.size 0 lo=0/\sIx items.size items.size hi=items.size))
 (h:Q (.ref s.heap.objs.size) { s with heap:=s.heap.push { cls:=.type "tuple",data:=.seq ((items.toList.drop (sIx items.size 0 lo)).take (sIx items.size items.size hi - sIx items.size 0 lo)).toArray } })
 (hsz:items.size<=sizeLine):wpAny (model prog w) A (getItem (.ref t) (.ref sl)) Q E s:=by
 have htake:sizeOk (.seq ((items.toList.drop (sIx items.size 0 lo)).take (sIx items.size items.size hi - sIx items.size 0 lo)).toArray):=by
  show((items.toList.drop (sIx items.size 0 lo)).take (sIx items.size items.size hi - sIx items.size 0 lo)).toArray.size<=sizeLine
  rw[ZI,Za,ZBG,Zh];lia
 have hj:sIx items.size items.size hi<=items.size:=WX _ _ (ZD _) hi;obtain⟨os,hos,hcs,hds⟩:=id hs;have hTs:s.TypeIs (.ref sl) "slice":=⟨os,hos,hcs⟩;unfold getItem
 try with_reducible refine Zk ?_
 first | refine ZA (ZC ?_) | skip
 refine ZA (wpAny_sequenceKey ht.typeIs (by decide) ?_)
 refine ZA (wpAny_callSpecial?_slot (name:=Str.ofString "__getitem__") ht.typeIs PyProof.Rows.slot_tuple_getitem
  (Z1 PyProof.Rows.slot_tuple_getitem ht.typeIs entry_tuple_getitem ?_ (args_tuple_getitem _ _)))
 show wpAny _ _ (Builtin.Tuple.tupleItemsOf (.ref t) >>= _) _ _ s;refine ZA (tupleItemsOf_ ht ?_);refine ZA (wpAny_typeOf hTs ?_);rw[if_pos (by decide)];refine ZA (NQ hs pl pu ?_)
 have hno:¬((((sIx items.size 0 lo:Nat):Int) == 0 && (1:Int) == 1 && (sIx items.size items.size hi - sIx items.size 0 lo) == items.size)=true):=by
  intro q;rw[ZK,ZK]at q;have q1:((sIx items.size 0 lo:Nat):Int)=0:=eq_of_beq q.1.1;have q2:sIx items.size items.size hi - sIx items.size 0 lo=items.size:=eq_of_beq q.2;exact hw ⟨by lia,by lia⟩
 show wpAny _ _ (if (((sIx items.size 0 lo:Nat):Int) == 0 && (1:Int) == 1 && (sIx items.size items.size hi - sIx items.size 0 lo) == items.size)=true then _ else _) _ _ s;rw[if_neg hno,QD]
 first
  | exact ZA (m:=Builtin.Tuple.tupleExact _) (Zx (ZC ⟨_,rfl,ZC h⟩) htake)
  | exact ZA (m:=Builtin.Tuple.tupleExact _) (Zx (ZA (ZC (ZC ⟨_,rfl,ZC h⟩))) htake)
  | exact ZA (ZA (m:=Builtin.Tuple.tupleExact _) (Zx (ZC (ZC ⟨_,rfl,ZC h⟩)) htake))
  | exact ZA (ZA (m:=Builtin.Tuple.tupleExact _) (Zx (ZC ⟨_,rfl,ZC h⟩) htake))
end
end HT
namespace L2
open PySem PySem.Spec PyProof.Rows
noncomputable abbrev TO:=St->Hp->(Option Int->Hp->Prop)->Prop
noncomputable def PO(X:Cx)(e:Option Expr)(t:TO):Prop :=
 ∀(Ya:List (Addr × Obj)) (s:Shared) (Z:St) (H:Hp) (Q:Option Int->Hp->Prop),Yg X Ya Z H s->t Z H Q ->
  wpAny (model X.prog X.w) X.A (evalPart e X.env) (fun u s'=>∃o H',Yg X Ya Z H' s'/\IsPart u o/\Q o H') X.xe s
noncomputable def Lg:TO:=fun _ H Q=>Q none H
noncomputable def NM(t:TE):TO:=fun Z H Q=>t Z H fun x H1=>∃i,x=.int i/\Q (some i) H1
theorem Dg{ns:List Int}:∀{us:List Value},Yk (ns.map V.int) us->IntsAre us ns:=by
 induction ns with
 | nil=>intro us r;rw[List.map_nil]at r;cases r;exact .nil
 | cons n ns ih =>
  intro us r;rw[Zi]at r;cases r with
  | cons r1 r2 =>
   obtain⟨t,e⟩:=r1;subst e;exact .cons n t (ih r2)
section
variable {X:Cx}{e:Expr}{te:TE}{lo hi:Option Expr}{tl th:TO}{pos p2:Pos}
theorem GU:PO X none Lg:=by
 intro Ya s Z H Q I h;rw[evalPart_none];exact ZC ⟨none,H,I,.none,h⟩
theorem Ge(h:PE X e te):PO X (some e) (NM te):=by
 intro Ya s Z H Q I hw;rw[evalPart_some];refine Yn (h Ya s Z H _ I hw) fun u s1 ⟨x,H1,I1,r1,q1⟩=>?_
 obtain⟨i,rfl,q⟩:=q1;obtain⟨t,rfl⟩:=r1;exact⟨some i,H1,I1,.int i t,q⟩
noncomputable def SlR(X:Cx)(r:V->Option Int->Option Int->Hp->VK->Prop):Prop :=
 ∀(Ya:List (Addr × Obj)) (s:Shared) (Z:St) (H:Hp) (x:V) (v vl vu:Value) (lo hi:Option Int) (sl:Addr) (Q:VK),Yg X Ya Z H s->Yi x v->s.heap.IsSliceOf sl vl vu .none->IsPart vl lo->IsPart vu hi->r x lo hi H Q ->
  ∃T id,typeLookup (.type T) "__getitem__" = pure (some (.builtin id))/\s.TypeIs v T/\wpAny (model X.prog X.w) X.A (getItem v (.ref sl)) (EP X Ya Z Q) X.xe s
noncomputable def tSl(r:V->Option Int->Option Int->Hp->VK->Prop)(te:TE)(tl th:TO):TE:=fun Z H Q=>te Z H fun x H1=>tl Z H1 fun l H2=>th Z H2 fun u H3=>r x l u H3 Q
theorem K4{r:V->Option Int->Option Int->Hp->VK->Prop}(hr:SlR X r)(he:PE X e te)(hl:PO X lo tl)(hu:PO X hi th):PE X (.Subscript e (.Slice lo hi none p2) pos) (tSl r te tl th):=by
 intro Ya s Z H Q I h;refine Subscript_ (Yn (he Ya s Z H _ I h) fun v s1 ⟨x,H1,I1,r1,q1⟩=>?_);refine wpAny_Slice (Yn (hl Ya s1 Z H1 _ I1 q1) fun vl s2 ⟨l,H2,I2,pl,q2⟩=>Yn (hu Ya s2 Z H2 _ I2 q2) fun vu s3 ⟨u,H3,I3,pu,q3⟩=>?_);rw[evalPart_none];refine ZC ?_;have I4:Yg X Ya Z H3 { s3 with heap:=s3.heap.push { cls:=.type "slice",data:=.fields #[vl,vu,.none] } }:=I3.kept (t':=s3.toks) fun b ob q=>ZH _ q
 obtain⟨T,id,hT,ht,hg⟩:=hr Ya { s3 with heap:=s3.heap.push { cls:=.type "slice",data:=.fields #[vl,vu,.none] } } Z H3 x v vl vu l u s3.heap.objs.size Q I4 r1 (Heap.IsSliceOf.new ..) pl pu q3;show wpAny (model X.prog X.w) X.A (subscriptTail e (.Slice lo hi none p2) v (.ref s3.heap.objs.size)) (EP X Ya Z Q) X.xe { s3 with heap:=s3.heap.push { cls:=.type "slice",data:=.fields #[vl,vu,.none] } };exact tail_any (ops:=[.ref s3.heap.objs.size,v]) ht hT hg (by with_unfolding_all rfl)
noncomputable def BS(xs:List V)(lo hi:Option Int):List V:=(xs.drop (HT.sIx xs.length 0 lo)).take (HT.sIx xs.length xs.length hi - HT.sIx xs.length 0 lo)
theorem Nl(xs:List V)(lo hi:Option Int):(BS xs lo hi).length<=xs.length:=by
 unfold BS;rw[Za,ZBG];lia
noncomputable def Sc(K:W.Frag):V->Option Int->Option Int->Hp->VK->Prop:=fun x lo hi H Q=>∃a xs,x=.ref a/\Yo K H a xs /\
 ¬(HT.sIx xs.length 0 lo=0/\HT.sIx xs.length xs.length hi=xs.length)/\∀p,H p=none->Q (.ref p) (upd H p (.tup (BS xs lo hi)))
theorem L8:SlR X (Sc X.K):=by
 intro Ya s Z H x v vl vu lo hi sl Q I rx hs pl pu h;obtain⟨a,xs,rfl,hx,hw,q⟩:=h;cases rx;obtain⟨Ye,r,ht,hz⟩:=I.tuple hx;have Ym:Ye.toArray.size=xs.length:=by rw[ZI];exact r.length.symm
 refine⟨"tuple",_,PyProof.Rows.slot_tuple_getitem.lookup,ht.typeIs,?_⟩;refine HT.getItem_tuple_cut ht hs pl pu (by rw[Ym];exact hw) ?_ (by rw[Ym];exact hz);rw[Ym];refine⟨.ref s.heap.objs.size,_,I.laid (t':=s.toks) (o:=.tup (BS xs lo hi)) (fun b ob q=>ZH _ q) (ZD _) ?_,rfl,q _ (I.hok.fresh (ZD _))⟩;exact⟨Zj (Nl xs lo hi) hz,_,(r.drop (HT.sIx xs.length 0 lo)).take (HT.sIx xs.length xs.length hi - HT.sIx xs.length 0 lo),IsTupN.new _ _⟩
noncomputable def Ni(K:W.Frag):R2:=fun x y H Q=>∃a b xs ys,x=.ref a/\y=.ref b/\Yo K H a xs/\Yo K H b ys/\xs≠[]/\xs.length+ys.length<=sizeLine /\
 (ys=[]->Q (.ref a) H)/\(ys≠[]->∀p,H p=none->Q (.ref p) (upd H p (.tup (xs++ys))))
theorem Yk.nil_iff{xs:List V}{us:List Value}(r:Yk xs us):us=[] ↔ xs=[]:=by
 cases r with
 | nil=>simp
 | cons _ _=>simp
theorem K7:Yv X (binaryOp .Add) (Ni X.K):=by
 intro Ya s Z H x y v u Q I rx ry h;obtain⟨a,b,xs,ys,rfl,rfl,ha,hb,hx,hz,q1,q2⟩:=h;cases rx;cases ry;obtain⟨Ye,r1,p1,_⟩:=I.tuple ha;obtain⟨its2,r2,p2,_⟩:=I.tuple hb;refine HT.cat_tup p1 p2 (fun z=>hx (r1.nil_iff.mp z)) (fun z=>⟨.ref a,H,I,rfl,q1 (r2.nil_iff.mp z)⟩) (fun z=>?_) (by rw[<- r1.length,<- r2.length];exact hz);refine⟨.ref s.heap.objs.size,_,I.laid (t':=s.toks) (o:=.tup (xs++ys)) (fun b ob q=>ZH _ q) (ZD _) ?_,rfl,q2 (fun w=>z (r2.nil_iff.mpr w)) _ (I.hok.fresh (ZD _))⟩;exact⟨by rw[ZN];exact hz,_,r1.append r2,IsTupN.new _ _⟩
end
noncomputable def ixN(n:Nat)(i:Int):Option Nat:=if 0<=i then (if i < n then some i.toNat else none) else if -(n:Int)<=i then some (i+n).toNat else none
noncomputable def atI{α:Type}(xs:List α)(i:Int):Option α:=(ixN xs.length i).bind fun j=>xs[j]?
theorem MG{n:Nat}{i:Int}{j:Nat}(h:ixN n i=some j):seqIndex? i n=some j/\j < n /\ -(n:Int)<=i/\i < n:=by
 unfold ixN at h
 by_cases h0:0<=i
 ·rw[if_pos h0]at h
  by_cases h1:i < n
  ·rw[if_pos h1]at h;have e:i.toNat=j:=ZV h;exact⟨by rw[seqIndex_of h0 h1,e],by lia,by lia,h1⟩
  ·rw[if_neg h1]at h;cases h
 ·rw[if_neg h0]at h
  by_cases h1 : -(n:Int)<=i
  ·rw[if_pos h1]at h;have e:(i+n).toNat=j:=ZV h;exact⟨by rw[seqIndex_neg (by lia) h1,e],by lia,h1,by lia⟩
  ·rw[if_neg h1]at h;cases h
theorem IN{α:Type}{xs:List α}{i:Int}{v:α}(h:atI xs i=some v):∃j,seqIndex? i xs.length=some j/\xs[j]? = some v/\j < xs.length /\ -(xs.length:Int)<=i/\i < xs.length:=by
 unfold atI at h;cases e:ixN xs.length i with
 | none=>rw[e]at h;cases h
 | some j =>
  rw[e]at h;obtain⟨h1,h2,h3,h4⟩:=MG e;exact⟨j,h1,h,h2,h3,h4⟩
noncomputable def IH(b:Expr):Prop:=∀o i,subscripted b false o i=operate [o,i] (getItem o i)
noncomputable def IxR(X:Cx)(r:R2):Prop :=
 ∀(value slice:Expr) (Ya:List (Addr × Obj)) (s:Shared) (Z:St) (H:Hp) (x y:V) (v u:Value) (Q:VK),Yg X Ya Z H s->Yi x v->Yi y u->r x y H Q ->
  subscripted slice false v u=operate [v,u] (getItem v u)->wpAny (model X.prog X.w) X.A (subscriptTail value slice v u) (EP X Ya Z Q) X.xe s
noncomputable def MtR(X:Cx)(id:String)(r:V->List V->Hp->VK->Prop):Prop :=
 ∀(Ya:List (Addr × Obj)) (s:Shared) (Z:St) (H:Hp) (x:V) (xs:List V) (v:Value) (us:List Value) (Q:VK),Yg X Ya Z H s->Yi x v->Yk xs us->r x xs H Q ->
  wpAny (model X.prog X.w) X.A (call (.builtin id) (v::us)) (EP X Ya Z Q) X.xe s
section
variable {X:Cx}{a b:Expr}{ta tb:TE}{pos:Pos}
theorem IxR.or{r r':R2}(h:IxR X r)(h':IxR X r'):IxR X (fun x y H Q=>r x y H Q\/r' x y H Q):=by
 intro value slice Ya s Z H x y v u Q I rx ry q hs
 rcases q with q | q
 ·exact h value slice Ya s Z H x y v u Q I rx ry q hs
 ·exact h' value slice Ya s Z H x y v u Q I rx ry q hs
theorem XD{r:R2}(hr:IxR X r)(ha:PE X a ta)(hb:PE X b tb)(hs:IH b):PE X (.Subscript a b pos) (tOp r ta tb):=by
 intro Ya s Z H Q I h;exact Subscript_ (Jv ha hb I h fun v u s2 x y H2 I2 rx ry q=>hr a b Ya s2 Z H2 x y v u Q I2 rx ry q (hs _ _))
noncomputable def LM(K:W.Frag):R2:=fun x y H Q=>∃p xs i v,x=.ref p/\y=.int i/\Yw K H p xs/\atI xs i=some v/\Q v H
noncomputable def Kn(K:W.Frag):R2:=fun x y H Q=>∃p xs i v,x=.ref p/\y=.int i/\Yo K H p xs/\atI xs i=some v/\Q v H
noncomputable def NB:R2:=fun x y H Q=>∃z i c,x=.str z/\y=.int i/\z.length<=sizeLine/\atI z.cps.toList i=some c/\Q (.str ⟨#[c]⟩) H
theorem ix_list:IxR X (LM X.K):=by
 intro value slice Ya s Z H x y v u Q I rx ry h hs;obtain⟨p,xs,i,z,rfl,rfl,hq,he,q⟩:=h;cases rx;obtain⟨t,rfl⟩:=ry;obtain⟨Ye,r,pl,hz⟩:=I.list hq;obtain⟨j,h1,h2,h3,h4,h5⟩:=IN he;obtain⟨w,ew,rw'⟩:=r.get h2;have hl:=r.length;have hn:=FA;have fin:EP X Ya Z Q w s:=⟨z,H,I,rw',q⟩
 by_cases h0:0<=i
 ·have hj:i.toNat=j:=by
   rw[seqIndex_of h0 h5]at h1;exact ZV h1
  exact item_listR pl.isList h0 (by lia) (by rw[hj];simpa using ew) fin hs
 ·have hj:(i+(Ye.toArray.size:Int)).toNat=j:=by
   rw[seqIndex_neg (by lia) h4]at h1;rw[ZI,<- hl];exact ZV h1
  exact subscriptTail_builtinR (x:=w) pl.isList.typeIs slot_list_getitem.lookup
   (wpAny_getItem_list_neg (Q:=fun r s'=>r=w/\EP X Ya Z Q r s') pl.isList (by lia) (by rw[ZI] <;> lia) (by lia) (by rw[hj];simpa using ew) ⟨rfl,fin⟩) hs
theorem ix_tup:IxR X (Kn X.K):=by
 intro value slice Ya s Z H x y v u Q I rx ry h hs;obtain⟨p,xs,i,z,rfl,rfl,hq,he,q⟩:=h;cases rx;obtain⟨t,rfl⟩:=ry;obtain⟨Ye,r,pl,hz⟩:=I.tuple hq;obtain⟨j,h1,h2,h3,h4,h5⟩:=IN he;obtain⟨w,ew,rw'⟩:=r.get h2;have hl:=r.length;have hn:=FA;have fin:EP X Ya Z Q w s:=⟨z,H,I,rw',q⟩
 exact subscriptTail_builtinR (x:=w) pl.typeIs slot_tuple_getitem.lookup
  (getItem_tuple (j:=j) (Q:=fun r s'=>r=w/\EP X Ya Z Q r s') pl (by lia) (by lia) (by rw[ZI,<- hl];exact h1) (by simpa using ew) ⟨rfl,fin⟩) hs
theorem Qj:IxR X NB:=by
 intro value slice Ya s Z H x y v u Q I rx ry h hs;obtain⟨z,i,c,rfl,rfl,hz,he,q⟩:=h;obtain⟨t,rfl⟩:=rx;obtain⟨t',rfl⟩:=ry;obtain⟨j,h1,h2,h3,h4,h5⟩:=IN he;have hl:z.cps.toList.length=z.length:=by simp[Str.length]
 rw[hl]at h1 h4 h5;have hn:=FA
 exact tail_any (typeIs_str s z t) slot_str_getitem.lookup (getItem_str (c:=c) (by
  have e1:decide (i < -(2 ^ 63:Int))=false:=Zz (by lia);have e2:decide (i ≥ 2 ^ 63)=false:=Zz (by lia);rw[e1,e2,Bool.or_false]) (by rw[h1];simpa using h2) ⟨.str ⟨#[c]⟩,H,I.tok _,⟨_,rfl⟩,q⟩) hs
noncomputable def rIx(K:W.Frag):R2:=fun x y H Q=>LM K x y H Q\/Kn K x y H Q\/NB x y H Q
theorem ix_seq:IxR X (rIx X.K):=ix_list.or (ix_tup.or Qj)
theorem Ov(Ye:List Value)(n j:Nat)(u:Value):Obj.mapSeq (·.setIfInBounds j u) { cls:=.type "list",data:=.seq Ye.toArray n } = { cls:=.type "list",data:=.seq (Ye.set j u).toArray n }:=by
 simp[Obj.mapSeq]
theorem Yg.lst{Ya:List (Addr × Obj)}{Z:St}{H:Hp}{s:Shared}{p:Addr}{xs:List V}(I:Yg X Ya Z H s)(h:H p=some (.lst xs)) :
 ∃(Ye:List Value) (n:Nat),Yk xs Ye/\s.heap.get? p=some { cls:=.type "list",data:=.seq Ye.toArray n } /\ xs.length<=sizeLine:=by
 obtain⟨z,Ye,n,r,e⟩:=I.hok p _ h;exact⟨Ye,n,r,e,z⟩
theorem Yg.lstUpd {Ya:List (Addr × Obj)} {Z:St} {H:Hp} {s:Shared} {p:Addr} {xs ys:List V} {Ye its':List Value} {n n':Nat} {f:Obj->Obj} (I:Yg X Ya Z H s) (h:H p=some (.lst xs))
 (ho:s.heap.get? p=some { cls:=.type "list",data:=.seq Ye.toArray n }) (hf:f { cls:=.type "list",data:=.seq Ye.toArray n } = { cls:=.type "list",data:=.seq its'.toArray n' }) (r:Yk ys its') (hz:ys.length<=sizeLine) (t:Nat) :
 Yg X Ya Z (upd H p (.lst ys)) { s with heap:=s.heap.update p f,toks:=t }:=by
 have e:(s.heap.update p f).get? p=some { cls:=.type "list",data:=.seq its'.toArray n' }:=by
  rw[ZBh f ho (by rw[hf] <;> rfl),hf]
 refine I.write (x:=p) (e:=p) (by rw[h];trivial) (.inl rfl) (fun b u hb q=>(ZBI _ _ (Ne.symm hb)).trans q) ⟨_,e⟩ ?_;exact⟨hz,its',n',r,e⟩
noncomputable def Rf:V->V->V->Hp->(Hp->Prop)->Prop:=fun o i v H Q=>∃p xs k j,o=.ref p/\i=.int k/\H p=some (.lst xs)/\ixN xs.length k=some j/\Q (upd H p (.lst (xs.set j v)))
theorem P8:IM X Rf:=by
 intro Ya s Z H o i v ov iv u Q I ro ri rv h;obtain⟨p,xs,k,j,rfl,rfl,hp,hj,q⟩:=h;cases ro;obtain⟨t,rfl⟩:=ri;obtain⟨Ye,n,r,ho,hz⟩:=I.lst hp;obtain⟨h1,h2,h3,h4⟩:=MG hj;have hl:=r.length;have hn:=FA
 have I':Yg X Ya Z (upd H p (.lst (xs.set j v))) { s with heap:=s.heap.update p (Obj.mapSeq (·.setIfInBounds j u)) } :=
  I.lstUpd hp ho (Ov Ye n j u) (r.set rv j) (by rw[ZBO];exact hz) s.toks
 by_cases h0:0<=k
 ·have hk:k.toNat=j:=by
   rw[seqIndex_of h0 h4]at h1;exact ZV h1
  exact PySem.W.ki_setAt ho h0 (by lia) (by rw[ZI,<- hl];exact h4) (by rw[hk];exact⟨_,I',q⟩)
 ·have hk:(k+(Ye.toArray.size:Int)).toNat=j:=by
   rw[seqIndex_neg (by lia) h3]at h1;rw[ZI,<- hl];exact ZV h1
  exact PySem.W.ki_setBack ho (by lia) (by rw[ZI,<- hl];exact h3) (by lia) (by rw[hk];exact⟨_,I',q⟩)
theorem WN(lo hi:Option Int)(n:Nat):(sliceBounds lo hi none n).1=((HT.sIx n 0 lo:Nat):Int)/\(sliceBounds lo hi none n).2.1=((HT.sIx n n hi:Nat):Int)/\(sliceBounds lo hi none n).2.2=1:=by
 refine⟨?_,?_,rfl⟩
 ·cases lo with
  | none=>simp[sliceBounds,HT.sIx]
  | some i =>
   simp only[sliceBounds,HT.sIx,Option.getD_none,show(1:Int) > 0 by decide,if_true]
   by_cases h:i < 0
   ·simp only[h,if_true] <;> lia
   ·simp only[h,if_false] <;> lia
 ·cases hi with
  | none=>simp[sliceBounds,HT.sIx]
  | some i =>
   simp only[sliceBounds,HT.sIx,Option.getD_none,show(1:Int) > 0 by decide,if_true]
   by_cases h:i < 0
   ·simp only[h,if_true] <;> lia
   ·simp only[h,if_false] <;> lia
theorem QX(Ye:List Value)(lo hi:Option Int):slicePick Ye.toArray lo hi none=((Ye.drop (HT.sIx Ye.length 0 lo)).take (HT.sIx Ye.length Ye.length hi - HT.sIx Ye.length 0 lo)).toArray:=by
 obtain⟨h1,h2,h3⟩:=WN lo hi Ye.toArray.size;unfold slicePick;rw[h1,h2,h3];simp only[sliceRange_one,pick_run,ZI] <;> rfl
noncomputable def Ss(K:W.Frag):V->Option Int->Option Int->Hp->VK->Prop:=fun x lo hi H Q=>∃a xs,x=.ref a/\Yw K H a xs/\∀p,H p=none->Q (.ref p) (upd H p (.lst (BS xs lo hi)))
theorem Ww:SlR X (Ss X.K):=by
 intro Ya s Z H x v vl vu lo hi sl Q I rx hs pl pu h;obtain⟨a,xs,rfl,hx,q⟩:=h;cases rx;obtain⟨Ye,r,ht,hz⟩:=I.list hx;have Ym:=r.length;refine⟨"list",_,slot_list_getitem.lookup,ht.isList.typeIs,?_⟩;refine wpAny_getItem_list_slice ht.isList hs pl pu .none (by simp) ?_ (by rw[ZI] <;> lia);rw[QX,<- Ym];refine⟨.ref s.heap.objs.size,_,I.laid (t':=s.toks) (o:=.lst (BS xs lo hi)) (fun b ob q=>ZH _ q) (ZD _) ?_,rfl,q _ (I.hok.fresh (ZD _))⟩;exact⟨Zj (Nl xs lo hi) hz,_,0,(r.drop (HT.sIx xs.length 0 lo)).take (HT.sIx xs.length xs.length hi - HT.sIx xs.length 0 lo),ZS _ rfl⟩
theorem call_list_of:CallR X (.type "list") (fun xs H Q=>∃p ys,xs=[.ref p]/\(Yw X.K H p ys\/Yo X.K H p ys)/\∀l,H l=none->Q (.ref l) (upd H l (.lst ys))):=by
 intro Ya s Z H xs us Q I r h;obtain⟨p,ys,rfl,hq,q⟩:=h;obtain⟨u,rfl,rx⟩:=BN r;cases rx
 have fin:∀(Ye:List Value),Yk ys Ye->ys.length<=sizeLine->∀(h':Heap) (c':Nat),(∀b o',s.heap.get? b=some o'->h'.get? b=some o') ->
  h'.get? s.heap.objs.size=some { cls:=.type "list",dict:=none,data:=.seq Ye.toArray c',slots:=#[] } -> EP X Ya Z Q (.ref s.heap.objs.size) { s with heap:=h' }:=fun Ye r' hz h' c' kp e =>
  ⟨.ref s.heap.objs.size,_,I.laid (t':=s.toks) kp (ZD _) (show ObjOk X.prog X.w _ h' _ (.lst ys) from⟨hz,Ye,c',r',e⟩),rfl,q _ (I.hok.fresh (ZD _))⟩
 rcases hq with hq | hq
 ·obtain⟨Ye,r',pl,hz⟩:=I.list hq;have Ym:=r'.length;obtain⟨o,ho,hc,n,hd⟩:=pl.isList;exact call_list_seq p (.inl rfl) ho hc hd (fun h' c' kp e=>fin Ye r' hz h' c' kp e) (by simp only[ZI] <;> lia)
 ·obtain⟨Ye,r',pl,hz⟩:=I.tuple hq;have Ym:=r'.length;obtain⟨o,ho,hc,n,hd⟩:=pl;exact call_list_seq p (.inr rfl) ho hc hd (fun h' c' kp e=>fin Ye r' hz h' c' kp e) (by simp only[ZI] <;> lia)
theorem call_tuple_of:CallR X (.type "tuple") (fun xs H Q=>∃p ys,xs=[.ref p]/\((Yw X.K H p ys/\∀l,H l=none->Q (.ref l) (upd H l (.tup ys)))\/(Yo X.K H p ys/\Q (.ref p) H))):=by
 intro Ya s Z H xs us Q I r h;obtain⟨p,ys,rfl,h⟩:=h;obtain⟨u,rfl,rx⟩:=BN r;cases rx
 rcases h with ⟨hq,q⟩ | ⟨hq,q⟩
 ·obtain⟨Ye,r',pl,hz⟩:=I.list hq;have Ym:=r'.length;refine call_tuple_list pl.isList (fun h' kp=>?_) (by simp only[ZI] <;> lia);have I1:Yg X Ya Z H { s with heap:=h' }:=I.kept (t':=s.toks) kp
  have I2:Yg X Ya Z (upd H h'.objs.size (.tup ys)) { s with heap:=h'.push { cls:=.type "tuple",data:=.seq Ye.toArray } } :=
   I1.laid (t':=s.toks) (fun b o e=>ZH _ e) (ZD _) (show ObjOk X.prog X.w _ _ _ (.tup ys) from⟨hz,Ye,r',IsTupN.new _ _⟩)
  exact⟨.ref h'.objs.size,_,I2,rfl,q _ (I1.hok.fresh (ZD _))⟩
 ·obtain⟨Ye,r',pl,hz⟩:=I.tuple hq;exact call_tuple_same pl ⟨.ref p,H,I,rfl,q⟩
noncomputable def tyV(K:W.Frag)(T:String)(x:V)(H:Hp):Prop:=match x with
 | .str _=>T = "str"
 | .int _=>T = "int"
 | .ref p=>(T = "list" /\ ∃xs,Yw K H p xs)\/(T = "tuple" /\ ∃o,K.lookup p=some o/\o.cls=.type "tuple" /\ o.dict=none) \/
  (T = "dict" /\ ((∃Yc,H p=some (.dK Yc))\/∃Yc,H p=some (.dT Yc)))\/(T = "set" /\ ∃S n,H p=some (.set S n))
 | _=>False
theorem OI{Ya:List (Addr × Obj)}{Z:St}{H:Hp}{s:Shared}{T:String}{x:V}{v:Value}(I:Yg X Ya Z H s)(r:Yi x v)(ty:tyV X.K T x H) :
 s.TypeIs v T/\∀a,v=.ref a->∃ob,s.heap.get? a=some ob/\ob.dict=none:=by
 cases x with
 | str z =>
  obtain⟨t,rfl⟩:=r;cases (show T = "str" from ty);exact⟨typeIs_str s z t,fun _ e=>nomatch e⟩
 | int i =>
  obtain⟨t,rfl⟩:=r;cases (show T = "int" from ty);exact⟨typeIs_int s i t,fun _ e=>nomatch e⟩
 | ref p =>
  cases r
  rcases ty with ⟨rfl,xs,hq⟩ | ⟨rfl,o,hk,hc,hd⟩ | ⟨rfl,hk⟩ | ⟨rfl,S,n,hk⟩
  ·obtain⟨Ye,_,pl,_⟩:=I.list hq;refine⟨pl.isList.typeIs,fun a e=>?_⟩;cases e;obtain⟨o,n,e,c,hd,_⟩:=pl;exact⟨o,e,hd⟩
  ·refine⟨⟨o,I.kIn p o hk,hc⟩,fun a e=>?_⟩;cases e;exact⟨o,I.kIn _ o hk,hd⟩
  ·have z:∃o,s.heap.get? p=some o/\o.ExactDict:=by
    rcases hk with ⟨Yc,hk⟩ | ⟨Yc,hk⟩
    ·obtain⟨_,_,_,_,o,_,_,e,ex,_⟩:=I.hok p _ hk;exact⟨o,e,ex⟩
    ·obtain⟨_,_,_,_,o,_,_,e,ex,_⟩:=I.hok p _ hk;exact⟨o,e,ex⟩
   obtain⟨o,e,ex⟩:=z;refine⟨⟨o,e,ex.1⟩,fun a e2=>?_⟩;cases e2;exact⟨o,e,ex.2.1⟩
  ·obtain⟨o,_,_,_,e,ex,_⟩:=I.hok p _ hk;refine⟨⟨o,e,ex.1⟩,fun a e2=>?_⟩;cases e2;exact⟨o,e,ex.2.1⟩
 | _=>exact False.elim ty
noncomputable def K5(K:W.Frag)(T:String)(r:V->List V->Hp->VK->Prop)(to:TE):TE:=fun Z H Q=>to Z H fun x H1=>tyV K T x H1/\r x [] H1 Q
noncomputable def tBM(K:W.Frag)(T:String)(r:V->List V->Hp->VK->Prop)(to:TE)(t:TA):TE:=fun Z H Q=>to Z H fun x H1=>tyV K T x H1/\t Z H1 fun xs H2=>r x xs H2 Q
variable {o e:Expr}{es:List Expr}{to:TE}{t:TA}{name:Str}{apos cpos:Pos}{T id:String}{r:V->List V->Hp->VK->Prop}
theorem Uv (pa:PlainAttrs T) (slot:Slot T name id) (hty:typeOf (.builtin id)=pure (.type "method_descriptor")) (hm:MtR X id r) (ho:PE X o to)
 (hbase:attributeBase o name X.env (eval o X.env)=eval o X.env:=by rfl) (hline:(apos.endLine == cpos.line)=true:=by rfl):PE X (.Call (.Attribute o name apos) [] [] cpos) (K5 X.K T r to):=by
 intro Ya s Z H Q I h;refine wpAny_Call_method0_late hbase hline (Yn (ho Ya s Z H _ I h) fun v s1 ⟨x,H1,I1,r1,ty,q1⟩=>?_);obtain⟨h1,h2⟩:=OI I1 r1 ty;exact⟨T,id,pa,slot,hty,h1,h2,Calls.callWith_builtin rfl (PySem.evalArgs_none (hm Ya s1 Z H1 x [] v [] Q I1 r1 .nil q1))⟩
theorem GE (pa:PlainAttrs T) (slot:Slot T name id) (hty:typeOf (.builtin id)=pure (.type "method_descriptor")) (hm:MtR X id r) (ho:PE X o to) (ha:PA X (e::es) t)
 (hbase:attributeBase o name X.env (eval o X.env)=eval o X.env:=by rfl)
 (hfew:((backTo cpos (starEach (e::es) X.env)).all (fun x=>!x.1) && (backToKw cpos (keywordEach [] X.env)).all (fun x=>x.1.isSome)
   && decide ((e::es).length+([]:List Keyword).length+(if ([]:List Keyword).isEmpty then 0 else 1) < 30))=true:=by rfl)
 (hline:(apos.endLine == cpos.line)=true:=by rfl) (hs:starEach (e::es) X.env=(false,eval e X.env)::starEach es X.env:=by rfl) (hplain:(backTo cpos (starEach es X.env)).any (·.1)=false:=by rfl) :
 PE X (.Call (.Attribute o name apos) (e::es) [] cpos) (tBM X.K T r to t):=by
 intro Ya s Z H Q I h;refine wpAny_Call_method_late hbase hfew hline rfl (Yn (ho Ya s Z H _ I h) fun v s1 ⟨x,H1,I1,r1,ty,q1⟩=>?_);obtain⟨h1,h2⟩:=OI I1 r1 ty;refine⟨T,id,pa,slot,hty,h1,h2,?_⟩;have hA:=ha cpos Ya s1 Z H1 _ I1 q1;rw[hs]at hA ⊢;refine Calls.callWith_builtin (by show(false || (backTo cpos (starEach es X.env)).any (·.1))=false;rw[hplain] <;> rfl) (Calls.evalArgs_plain ?_);exact Yn hA fun us s2 ⟨vs,H2,I2,r2,q2⟩=>hm Ya s2 Z H2 x vs v us Q I2 r1 r2 q2
end
noncomputable def MtM(X:Cx)(id:String)(r:V->List V->Hp->VK->Prop):Prop :=
 ∀(Ya:List (Addr × Obj)) (s:Shared) (Z:St) (H:Hp) (x:V) (xs:List V) (v:Value) (us:List Value) (Q:VK),Yg X Ya Z H s->Yi x v->Yk xs us->r x xs H Q ->
  wpAny (model X.prog X.w) X.A (call (.builtin id) (v::us)) (EP X Ya Z Q) X.xe s
theorem Yk.one:∀{x:V} {us:List Value},Yk [x] us->∃u,us=[u]/\Yi x u
 | _,_,.cons r .nil=>⟨_,rfl,r⟩
theorem Yk.rep{xs:List V}{us:List Value}(h:Yk xs us):∀k:Nat,Yk (List.replicate k xs).flatten (List.replicate k us).flatten
 | 0=>.nil
 | k+1=>by
  rw[ZBu,ZBu,List.flatten_cons,List.flatten_cons];exact Yk.append h (Yk.rep h k)
theorem L0(Ye:List Value):∀(k:Nat) (Ys:List Value),
 List.foldl (fun x1 x2=>x1++x2) Ys.toArray (List.replicate k Ye.toArray)=(Ys++(List.replicate k Ye).flatten).toArray
 | 0,Ys=>by simp
 | k+1,Ys=>by
  have e:Ys.toArray++Ye.toArray=(Ys++Ye).toArray:=by simp
  have e2:(Ys++Ye)++(List.replicate k Ye).flatten=Ys++(List.replicate (k+1) Ye).flatten:=by
   rw[ZBu,List.flatten_cons,ZBv]
  rw[<- e2,<- L0 Ye k (Ys++Ye),<- e,ZBu,List.foldl_cons]
section
variable {X:Cx}{Ya:List (Addr × Obj)}{Z:St}{H:Hp}{s:Shared}{l b:Addr}{xs ys zs:List V}
theorem Yg.lset {Ye its':List Value} {n:Nat} {f:Array Value->Array Value} {t':Nat} (I:Yg X Ya Z H s) (hH:H l=some (.lst xs))
 (e:s.heap.get? l=some { cls:=.type "list",data:=.seq Ye.toArray n }) (hf:f Ye.toArray=its'.toArray) (hv:Yk ys its') (hz:ys.length<=sizeLine) :
 Yg X Ya Z (upd H l (.lst ys)) { s with heap:=s.heap.update l (Obj.mapSeq f),toks:=t' }:=by
 have q:=PySem.IsL.update e f;rw[hf]at q;refine I.write (x:=l) (e:=l) (by rw[hH];exact trivial) (.inl rfl) (fun b' u hb hu=>(ZBI s.heap (Obj.mapSeq f) (Ne.symm hb)).trans hu) ⟨_,q⟩ ?_;exact⟨hz,its',_,hv,q⟩
theorem Yg.lnew{Ye:List Value}{t':Nat}(I:Yg X Ya Z H s)(hv:Yk ys Ye)(hz:ys.length<=sizeLine) :
 Yg X Ya Z (upd H s.heap.objs.size (.lst ys)) { s with heap:=s.heap.push { cls:=.type "list",data:=.seq Ye.toArray },toks:=t' } :=
 I.laid (fun _ _ q=>ZH _ q) (ZD _) ⟨hz,Ye,0,hv,ZS _ rfl⟩
theorem Yg.fresh(I:Yg X Ya Z H s):H s.heap.objs.size=none:=I.hok.fresh (ZD _)
theorem Yg.lstM(I:Yg X Ya Z H s)(hH:H l=some (.lst xs)):xs.length<=sizeLine/\∃(Ye:List Value) (n:Nat),Yk xs Ye/\xs.length=Ye.length/\s.heap.get? l=some { cls:=.type "list",data:=.seq Ye.toArray n }:=by
 obtain⟨z,Ye,n,r,e⟩:=I.hok l _ hH;exact⟨z,Ye,n,r,r.length,e⟩
theorem Sd{n:Nat}(h:n<=sizeLine):Builtin.List.listTooLong n=false:=by
 unfold Builtin.List.listTooLong;exact Zz (by lia)
end
section
variable {X:Cx}
noncomputable def TH:V->List V->Hp->VK->Prop:=fun x vs H Q=>∃l xs y,x=.ref l/\vs=[y]/\H l=some (.lst xs)/\xs.length < sizeLine/\Q .non (upd H l (.lst (xs++[y])))
theorem R9:MtM X "list.append" TH:=by
 intro Ya s Z H x vs v us Q I rx rv h;obtain⟨l,xs,y,rfl,rfl,hH,hz,q⟩:=h;cases rx;obtain⟨u,rfl,ru⟩:=rv.one;obtain⟨z,Ye,n,r,hl,e⟩:=I.lstM hH;refine call_meets F.slot_list_append ⟨_,e,rfl⟩ F.entry_list_append (F.args_list_append_2 _ _) (PySem.list_append l Ye.toArray n u (by rw[ZI];lia)) ⟨e,?_⟩;refine⟨.non,_,I.lset (its':=Ye++[u]) hH e (by simp) (r.append (.cons ru .nil)) ?_,rfl,q⟩;rw[ZN,List.length_singleton];lia
noncomputable def Jf:R2:=fun x y H Q=>∃l b xs zs,x=.ref l/\y=.ref b/\H l=some (.lst xs)/\H b=some (.lst zs)/\xs.length+zs.length<=sizeLine/\∀p,H p=none->Q (.ref p) (upd H p (.lst (xs++zs)))
theorem Ko:Yv X (binaryOp .Add) Jf:=by
 intro Ya s Z H x y v u Q I rx ry h;obtain⟨l,b,xs,zs,rfl,rfl,hH,hB,hz,q⟩:=h;cases rx;cases ry;obtain⟨z,Ye,n,r,hl,e⟩:=I.lstM hH;obtain⟨z2,its2,n2,r2,hl2,e2⟩:=I.lstM hB;refine PySem.P.add_list e e2 ?_ (by rw[ZI,ZI];lia);have ea:Ye.toArray++its2.toArray=(Ye++its2).toArray:=by simp
 rw[ea];exact⟨.ref _,_,I.lnew (t':=s.toks) (r.append r2) (by rw[ZN];lia),rfl,q _ I.fresh⟩
noncomputable def MZ:R2:=fun x y H Q=>∃l k xs,x=.ref l/\y=.int k/\H l=some (.lst xs) /\ -(2 ^ 63)<=k/\k < 2 ^ 63/\xs.length * k.toNat<=sizeLine /\
 ∀p,H p=none->Q (.ref p) (upd H p (.lst (List.replicate k.toNat xs).flatten))
theorem W5{α:Type}(xs:List α)(k:Nat):(List.replicate k xs).flatten.length=k * xs.length:=by
 induction k with
 | zero=>simp
 | succ k ih=>rw[ZBu,List.flatten_cons,ZN,ih,Nat.succ_mul,Nat.add_comm]
theorem Vp:Yv X (binaryOp .Mult) MZ:=by
 intro Ya s Z H x y v u Q I rx ry h;obtain⟨l,k,xs,rfl,rfl,hH,h1,h2,hz,q⟩:=h;cases rx;obtain⟨t,rfl⟩:=ry;obtain⟨z,Ye,n,r,hl,e⟩:=I.lstM hH;have Ym:Ye.toArray.size * k.toNat<=sizeLine:=by rw[ZI,<- hl];exact hz
 have hcap:¬Ye.toArray.size * k.toNat > (2 ^ 63 - 1) / 8:=by
  have:(sizeLine:Nat)<=(2 ^ 63 - 1) / 8:=by decide
  lia
 have hfit:¬(!Builtin.List.listFitsIndex k)=true:=by
  rw[fitsIndex_both h1 h2];exact ZBE
 have hlong:¬Builtin.List.listTooLong (Ye.toArray.size * k.toNat)=true:=by
  rw[Sd Ym];exact ZBE
 have hnew:List.foldl (fun x1 x2=>x1++x2) #[] (List.replicate (if Ye.toArray.isEmpty=true then 0 else k.toNat) Ye.toArray)=(List.replicate k.toNat Ye).flatten.toArray:=by
  have f0:∀m:Nat,List.foldl (fun x1 x2=>x1++x2) #[] (List.replicate m Ye.toArray)=(List.replicate m Ye).flatten.toArray:=fun m=>by
   have:=L0 Ye m []
   rw[List.nil_append]at this;exact this
  rw[f0];cases Ye with
  | nil=>simp
  | cons a r'=>rw[if_neg (by simp)]
 refine wpAny_binaryOp_repeat_ref (T:="list") (U:="int") (by decide) ⟨_,e,rfl⟩ (fun s'=>typeIs_int s' k t) noFill_list_mul F.fills_int_mul F.slot_int_rmul repeat_list F.slot_int_index.lookup
  (call_meets F.slot_int_rmul (typeIs_int s k t) F.entry_int_rmul (F.args_int_rmul_2 _ _) (int___rmul___int_list k t l Ye.toArray n)
    ⟨e,rfl,⟨_,e,rfl⟩,call_meets F.slot_list_mul ⟨_,e,rfl⟩ F.entry_list_mul (F.args_list_mul_2 _ _) (AutoListH.list___mul___list_int_3 l Ye.toArray n k t hfit hcap hlong) ⟨e,?_⟩⟩)
 rw[hnew];exact⟨.ref _,_,I.lnew (t':=s.toks) (r.rep k.toNat) (by rw[W5,Nat.mul_comm];exact hz),rfl,q _ I.fresh⟩
end
end L2
namespace Att
open PySem PySem.W PySem.Calls PyProof.Rows
theorem Qq{P:Params}{h:Heap}:∀(ns:List Int) (vs:List Value),WellAll P h vs (ns.map WData.int)->IntsAre vs ns:=by
 intro ns
 induction ns with
 | nil =>
  intro vs w;rw[List.map_nil]at w;cases w;exact .nil
 | cons n ns ih =>
  intro vs w;rw[Zi]at w;cases w with
  | cons a b =>
   cases a;exact .cons _ _ (ih _ b)
theorem PV {l:OpenLaw} {n:Nat} (hn:l.most=some n) {P:Params} {h:Heap} {args:List WData} {vals:List Value}
 (hpre:l.row.toRowW.claim.pre args=true) (hwl:WellAll P h vals args) :
 ∃a vs ns,vals=[Value.ref a]/\args=[WData.list (ns.map WData.int)]/\h.get? a=some { cls:=.type "list",data:=.seq vs.toArray } /\ IntsAre vs ns/\ns.length<=n:=by
 have hsh:WShape.hasAll [] args [.list .int]=true:=(pre_splitW hpre).1;have hc:l.pre.holds [] { args:=args } = true:=(pre_splitW hpre).2;obtain⟨d,r,rfl,h1,h2⟩:=hasAllW_cons hsh;obtain rfl:=hasAllW_nil h2;obtain⟨xs,rfl,h3⟩:=hasW_list h1;obtain⟨ns,rfl⟩:=items_int h3
 have Ym:ns.length<=n:=by
  unfold OpenLaw.pre at hc
  have h4:(WTm.not (.lt (.lit (.int (n:Int))) (.len (.arg 0)))).holds [] { args:=[.list (ns.map .int)] } = true:=by
   have h4:=(holds_andW hc).1;rw[hn]at h4;exact h4
  have h5:=condW_of h4 (w_not (w_lt w_lit (w_len_list (w_arg rfl))));rw[ZB]at h5;refine Nat.le_of_not_lt fun q=>?_
  have q':(n:Int) < ((ns.length:Nat):Int):=by lia
  first
   | (rw[ZL q']at h5;exact absurd h5 (by decide))
   | (simp at h5;lia)
 cases hwl with
 | cons w1 w2 =>
  cases w2;cases w1 with
  | list ho hall=>exact⟨_,_,ns,rfl,rfl,ho,Qq ns _ hall,Ym⟩
theorem VZ(l:OpenLaw)(args:List WData):l.row.toRowW.claim.post args (.bool true) args=true :=
 postW_of (r:=l.row.toRowW) (X:=(true == true))
  (show WShape.has [] (.bool true) .bool=true by first | rfl | decide | simp[WShape.has,WShape.arms,WShape.armsAll])
  (show(WTm.eq .res (.lit (.bool true))).value [] { args:=args,res:=some (.bool true),after:=args } = some (.bool (true == true)) from w_eq_bool (w_res rfl) w_lit) rfl
theorem attach_call {l:OpenLaw} {n:Nat} {q:Program} {loose:List Str} {XP:(Str->Option Value)->Heap->Prop} {YP:World->Heap->Prop} {d:DefRec}
 (hn:l.most=some n) (hdf:d.params.defaults=[])
 (call:∀(w:World) (s₀ s₁:Shared) (mg mb:Str->Option Value) (fa:Addr) (o:Obj) (pm cd doc:Value) (a:Addr) (vs:List Value) (ns:List Int),
   Ground q loose [] XP w s₀ mg mb s₁.heap->YP w s₁.heap ->
   s₁.heap.get? fa=some o->o.data=.func (docDef d.name d.params d.body d.scope pm cd doc)->s₁.heap.CodeRec cd d.name->mg d.name=some (.ref fa) ->
   s₁.heap.get? a=some { cls:=.type "list",data:=.seq vs.toArray } -> IntsAre vs ns->ns.length<=n->s₁.gens = #[] ->
   codeAny (model l.prog w) callerA (.call (.ref fa) ⟨[.ref a],[]⟩) (fun r s'=>r=.ok (.ret (.bool true))/\OldK s₁.heap s'.heap/\s'.os=s₁.os/\AllBare s'.gens) s₁) :
 WalkO q loose XP YP l.row.toRowW d [] (fun f vs=>PySem.call f vs):=by
 intro w s₀ s₁ mg mb G Y fa o pm cd doc dV kV ho hd hcd hD hmg hg args vals as hpre hlay hrd hwl hlo;obtain rfl:dV=.none:=Dflts.none hD hdf;obtain rfl:kV=.none:=Dflts.noKw hD;obtain⟨a,vs,ns,rfl,rfl,hobj,hints,Ym⟩:=PV hn hpre hwl;refine enter_call (ZBN (call w s₀ s₁ mg mb fa o pm cd doc a vs ns G Y ho (fd_plain hd) hcd hmg hobj hints Ym hg) fun r s' hq=>?_);obtain⟨rfl,h2,h3,h4⟩:=hq;exact⟨.inl ⟨.bool true,.bool true,[],rfl,fun _=>rfl,.bool true,VZ l _,fun _=>⟨List.Pairwise.nil,fun _ hm=>(nomatch hm)⟩⟩,h2,h3,h4⟩
section
variable {prog:Program}{w:World}{A:Around}{E:Value->Shared->Prop}{s:Shared}{K:Frag}
noncomputable def Gr(h:Heap):Heap:={ h with objs:=#[] }
theorem LX(h:Heap)(b:Addr):(Gr h).get? b=none:=by
 cases e:(Gr h).get? b with
 | none=>rfl
 | some o=>exact absurd (ZF e) (ZBW _)
theorem Sa{h:Heap}{L:Addr}{m:Str->Option Value}(n:h.Ns L m):Fr (Gr h) L h m :=
 ⟨n,fun b o e=>(by rw[LX]at e;cases e),ZU _⟩
end
end Att
namespace L2
open PySem PySem.Spec PyProof.Rows
variable {X:Cx}{x:Str}{i n own:Nat}{H H':Hp}{a l t:Addr}{pos:Pos}{K:W.Frag}{Z σc:St}{v y:V}{r:R2}{ds:List Dv}{xs:List V}{A:Around}{Q:Value->Shared->Prop}{o:HO}{ta te:TE}{es:List Expr}{s:Shared}{u:Value}{P:Program}{w:World}{Yc:List (List Key × V)}
theorem LO:∀{vs:List Value} {ns:List Int},IntsAre vs ns->Yk (ns.map V.int) vs
 | _,_,.nil=>.nil
 | _,_,.cons n t h=>.cons ⟨t,rfl⟩ (LO h)
noncomputable def Be(s:Stmt)(j:Nat):Stmt:=match s with
 | .ClassDef _ _ _ body _ _ _ _ _ _ _=>body.getD j (.Pass ⟨0,0,0,0⟩)
 | _=>.Pass ⟨0,0,0,0⟩
noncomputable def Bw(s:Stmt):Arguments:=match s with
 | .FunctionDef _ a _ _ _ _ _ _ _ _=>a
 | _=>{ posonlyargs:=[],args:=[],vararg:=none,kwonlyargs:=[],kw_defaults:=[],kwarg:=none,defaults:=[] }
noncomputable def BY(s:Stmt):List Stmt:=match s with
 | .FunctionDef _ _ b _ _ _ _ _ _ _=>b
 | _=>[]
noncomputable def AL(s:Stmt):Scope:=match s with
 | .FunctionDef _ _ _ _ _ _ sc _ _ _=>sc
 | _=>{ kind:=.function,names:=[],isGenerator:=false,isCoroutine:=false }
noncomputable abbrev CX0:CXT:=fun _ _ _ _ _ _=>False
noncomputable abbrev E0:XK:=fun _ _ _=>False
theorem AE:Dr CX0 X E0:=fun _ _ _ _ _ _ _ h=>h.elim
structure Fun(K:W.Frag)(x qual:Str)(st:Stmt)(f:Addr)(fd:FuncData):Prop where
 ex:∃(oc:Value) (od:Option Addr) (kV doc pm:Value) (an:Option Addr) (Yy ct:Value) (osl:Array (Option Value)),
  fd=PySem.W.fnOf x qual (Bw st) (BY st) (AL st) .none kV doc pm an Yy ct/\K.lookup f=some ⟨oc,od,.func fd,osl⟩/\PySem.W.codeIn K Yy qual=true
 kp:PySem.W.keepIn K (.ref f)=true
section
variable {P:Program}{w:World}{K:W.Frag}{mg:Str->Option Value}{base:Heap}
theorem Fun.ok {qual:Str} {st:Stmt} {f:Addr} {fd:FuncData} {N ps:List Str} {k:Nat} {sp:Sp} (F:Fun K x qual st f fd) (S:FnScope N ps (AL st)) (len:∀vs H Q E,sp vs H Q E->vs.length=ps.length)
 (hbody:∀(Yy:Value) (A:Around) (outer:List Env) (s:Shared) (H:Hp) (vs:List V) (Q:VK) (E:XK),Room k (A.deeper (envOfC qual (AL st) s.heap.objs.size f Yy))->sp vs H Q E ->
   ∃t,PSs (Db CX0 P w K mg base N qual (AL st) f Yy A outer s H E).nox (BY st) t/\t { nx:=fun _ H'=>Q .non H',rt:=Q } (C9 N vs) H):FnOk P w K mg base CX0 (k+1) f fd ps sp:=by
 obtain⟨oc,od,kV,doc,pm,an,Yy,ct,osl,rfl,lk,hcd⟩:=F.ex;refine OV lk hcd S len fun A outer s H vs Q E hr hsp=>?_
 obtain⟨t,h,q⟩:=hbody Yy A outer s H vs Q E hr hsp;exact⟨t,h.nox,q⟩
theorem Fun.binds {qual:Str} {st:Stmt} {f:Addr} {fd:FuncData} {ps:List Str} (F:Fun K x qual st f fd)
 (h:∀(kV doc pm:Value) (an:Option Addr) (Yy ct:Value) (us:List Value),us.length=ps.length->bindArgs (PySem.W.fnOf x qual (Bw st) (BY st) (AL st) .none kV doc pm an Yy ct) ⟨us,[]⟩=pure (ps.zip us)):Binds K fd ps []:=by
 obtain⟨oc,od,kV,doc,pm,an,Yy,ct,osl,rfl,lk,hcd⟩:=F.ex;exact .all (h kV doc pm an Yy ct)
theorem Da {qual:Str} {st:Stmt} {f:Addr} {oc:Value} {od an:Option Addr} {osl:Array (Option Value)} {kV doc pm Yy ct:Value} (l:K.lookup f=some ⟨oc,od,.func (PySem.W.fnOf x qual (Bw st) (BY st) (AL st) .none kV doc pm an Yy ct),osl⟩)
 (c:PySem.W.codeIn K Yy qual=true) (k:PySem.W.keepIn K (.ref f)=true):Fun K x qual st f (PySem.W.fnOf x qual (Bw st) (BY st) (AL st) .none kV doc pm an Yy ct):=⟨⟨oc,od,kV,doc,pm,an,Yy,ct,osl,rfl,l,c⟩,k⟩
end
theorem Ad(h:n<=1000):n < sizeLine:=Nat.lt_of_le_of_lt h (by decide)
theorem AT{c A B:Prop}[Decidable c](h1:c->A)(h2:¬c->B):if c then A else B:=by
 by_cases h:c
 ·rw[if_pos h];exact h1 h
 ·rw[if_neg h];exact h2 h
noncomputable def Yb(H H':Hp):Prop:=∀b o,H b=some o->H' b=some o
theorem Yb.refl(H:Hp):Yb H H:=fun _ _ h=>h
theorem Yb.trans{H1 H2:Hp}(a:Yb H H1)(b:Yb H1 H2):Yb H H2:=fun c o h=>b c o (a c o h)
theorem Yb.free(e:Yb H H')(h:H' l=Option.none):H l=Option.none:=by
 cases q:H l with
 | none=>rfl
 | some o =>
  rw[e l o q]at h;cases h
theorem EA:∀(names:List (Str × NameKind)) (n:Nat) (Ys:List (Str × Addr)),cellsFrom n names Ys=cellsFrom n names []++Ys
 | [],_,_=>rfl
 | (name,kind)::r,n,Ys=>by
  unfold cellsFrom;split
  ·rw[EA r (n+1) ((name,n)::Ys),EA r (n+1) [(name,n)],ZBv];rfl
  ·exact EA r n Ys
theorem cellsFrom_kind:∀(names:List (Str × NameKind)) (n:Nat) (Ys:List (Str × Addr)) (x:Str) (c:Addr),(x,c)∈cellsFrom n names Ys->(x,c)∈Ys\/(x,NameKind.cell)∈names
 | [],_,_,_,_,h=>.inl h
 | (name,kind)::r,n,Ys,x,c,h=>by
  unfold cellsFrom at h;split at h
  ·rename_i hk
   rcases cellsFrom_kind r _ _ x c h with h | h
   ·rcases ZG.mp h with e | h
    ·cases e
     have:kind=.cell:=by simpa using hk
     subst this;exact .inr Zb
    ·exact .inl h
   ·exact .inr (ZX _ h)
  ·rcases cellsFrom_kind r _ _ x c h with h | h
   ·exact .inl h
   ·exact .inr (ZX _ h)
theorem GR{α:Type}:∀(l r:List (Str × α)),(l++r).lookup x=(match l.lookup x with | some c=>some c | none=>r.lookup x)
 | [],r=>rfl
 | (k,v)::l,r=>by
  show List.lookup x ((k,v)::(l++r))=_;rw[Z8,Z8];cases x == k with
  | true=>rfl
  | false=>exact GR l r
theorem Kr{α:Type}:∀{l:List (Str × α)},(∀c,(x,c)∉l)->l.lookup x=none
 | [],_=>rfl
 | (k,v)::l,h=>by
  rw[Z8];cases hb:x == k with
  | true =>
   have:x=k:=by simpa using hb
   subst this;exact absurd Zb (h v)
  | false=>exact Kr fun c hc=>h c (ZX _ hc)
noncomputable def BP(cells:List (Str × Addr)):List (Str × NameKind)->List (Str × Addr)->List (Str × Addr)
 | [],Ys=>Ys
 | (n,k)::r,Ys=>if k == .free then BP cells r ((n,(cells.lookup n).getD 0)::Ys) else BP cells r Ys
theorem LU{scope:Scope}{env:Env}(h:∀y∈scope.names,y.2=.free->∃c,env.cells.lookup y.1=some c):closureFor scope env=pure (BP env.cells scope.names []):=by
 have all:∀(names:List (Str × NameKind)) (Ys:List (Str × Addr)),(∀y∈names,y.2=.free->∃c,env.cells.lookup y.1=some c) ->
  (forIn names Ys fun(x:Str × NameKind) cs=>(if (x.2 == NameKind.free)=true then (do let a <- cellOf env x.1;pure (ForInStep.yield ((x.1,a)::cs))) else pure (ForInStep.yield cs):Sem (ForInStep (List (Str × Addr)))))=(pure (BP env.cells names Ys):Sem _):=by
  intro names
  induction names with
  | nil=>intro Ys _;rfl
  | cons y r ih =>
   intro Ys hy;obtain⟨n,k⟩:=y;rw[List.forIn_cons];have hr:∀y∈r,y.2=.free->∃c,env.cells.lookup y.1=some c:=fun y hm=>hy y (ZX _ hm)
   unfold BP
   by_cases hk:(k == NameKind.free)=true
   ·obtain⟨c,e⟩:=hy (n,k) Zb (by simpa using hk);rw[if_pos hk,if_pos hk];have e2:cellOf env n=pure c:=by unfold cellOf;rw[show env.cells.lookup n=some c from e]
    rw[e2];rw[show env.cells.lookup n=some c from e];exact ih _ hr
   ·rw[if_neg hk,if_neg hk];exact ih _ hr
 have q:=all scope.names [] h;unfold closureFor;refine Eq.trans ?_ (congrArg (fun t=>t >>= pure) q |>.trans (by rfl))
 congr 1
theorem clOf_mem{cells:List (Str × Addr)}:∀(names:List (Str × NameKind)) (Ys:List (Str × Addr)) (x:Str) (c:Addr),(∀y∈names,y.2=.free->∃c,cells.lookup y.1=some c)->(x,c)∈BP cells names Ys->(x,c)∈Ys\/((x,NameKind.free)∈names/\cells.lookup x=some c)
 | [],_,_,_,_,h=>.inl h
 | (n,k)::r,Ys,x,c,hy,h=>by
  have hr:∀y∈r,y.2=.free->∃c,cells.lookup y.1=some c:=fun y hm=>hy y (ZX _ hm)
  unfold BP at h;split at h
  ·rename_i hk;have hk':k=.free:=by simpa using hk
   subst hk';obtain⟨d,e⟩:=hy (n,.free) Zb rfl
   rcases clOf_mem r _ x c hr h with h | ⟨h,h'⟩
   ·rcases ZG.mp h with e' | h
    ·obtain⟨e1,e2⟩:=Prod.mk.inj e';rw[show cells.lookup n=some d from e]at e2;subst e1;exact .inr ⟨Zb,by rw[e2];exact e⟩
    ·exact .inl h
   ·exact .inr ⟨ZX _ h,h'⟩
  ·rcases clOf_mem r _ x c hr h with h | ⟨h,h'⟩
   ·exact .inl h
   ·exact .inr ⟨ZX _ h,h'⟩
theorem Js{cells:List (Str × Addr)}:∀(names:List (Str × NameKind)) (Ys:List (Str × Addr)),(∃c,(x,c)∈Ys)->∃c,(x,c)∈BP cells names Ys
 | [],_,h=>h
 | (n,k)::r,Ys,⟨c,h⟩=>by
  unfold BP;split
  ·exact Js r _ ⟨c,ZX _ h⟩
  ·exact Js r _ ⟨c,h⟩
theorem HG{cells:List (Str × Addr)}:∀(names:List (Str × NameKind)) (Ys:List (Str × Addr)),(x,NameKind.free)∈names->∃c,(x,c)∈BP cells names Ys
 | (n,k)::r,Ys,h=>by
  unfold BP
  rcases ZG.mp h with e | h
  ·cases e;rw[if_pos (by decide)];exact Js r _ ⟨_,Zb⟩
  ·split
   ·exact HG r _ h
   ·exact HG r _ h
theorem Ky{α:Type}:∀{l:List (Str × α)},(∃c,(x,c)∈l)->∃c,l.lookup x=some c
 | (k,v)::l,⟨c,h⟩=>by
  rw[Z8];cases hb:x == k with
  | true=>exact⟨v,rfl⟩
  | false =>
   rcases ZG.mp h with e | h
   ·cases e;simp at hb
   ·exact Ky ⟨c,h⟩
noncomputable def FV(scope sc:Scope):Scope :=
 { scope with names:=scope.names.map fun(n,k)=>if (k == .free && sc.kind == .function && sc.names.lookup n == some .cell) then (n,.cell) else (n,k) }
structure CompScope(scope sc:Scope):Prop where
 kind:scope.kind=.function
 nd:(scope.names.map (·.1)).Nodup
 fr:∀y∈scope.names,y.2=.free->sc.names.lookup y.1=some .cell\/sc.names.lookup y.1=some .free
theorem Dd{α:Type}:∀{l:List (Str × α)} {x:Str} {c:α},(l.map (·.1)).Nodup->(x,c)∈l->l.lookup x=some c
 | (k,v)::l,x,c,nd,h=>by
  obtain⟨n1,n2⟩:=ZBg.mp (show(k::l.map (·.1)).Nodup from nd);rw[Z8]
  rcases ZG.mp h with e | h
  ·cases e;simp
  ·have Yu:¬x=k:=fun e=>n1 (by rw[<- e];exact ZM.mpr ⟨(x,c),h,rfl⟩)
   have:(x == k)=false:=by simpa using Yu
   rw[this];exact Dd n2 h
theorem OE{scope sc:Scope}:(FV scope sc).names.lookup x=(scope.names.lookup x).map fun k=>if (k == .free && sc.kind == .function && sc.names.lookup x == some .cell) then NameKind.cell else k:=by
 show(scope.names.map _).lookup x=_
 generalize scope.names=names
 induction names with
 | nil=>rfl
 | cons y r ih =>
  obtain⟨n,k⟩:=y;rw[Zi]
  by_cases hc:(k == .free && sc.kind == .function && sc.names.lookup n == some .cell)=true
  ·show List.lookup x ((if (k == .free && sc.kind == .function && sc.names.lookup n == some .cell)=true then (n,NameKind.cell) else (n,k))::_)=_;rw[if_pos hc,Z8,Z8];cases hb:x == n with
   | true =>
    have hx:x=n:=by simpa using hb
    subst hx;show some NameKind.cell=some (if _ then _ else _);rw[if_pos hc]
   | false=>exact ih
  ·show List.lookup x ((if (k == .free && sc.kind == .function && sc.names.lookup n == some .cell)=true then (n,NameKind.cell) else (n,k))::_)=_;rw[if_neg hc,Z8,Z8];cases hb:x == n with
   | true =>
    have hx:x=n:=by simpa using hb
    subst hx;show some k=some (if _ then _ else _);rw[if_neg hc]
   | false=>exact ih
structure CArgs where
 Ya:List (Addr × Obj)
 cells:List (Str × Addr)
 s:Shared
 H:Hp
 fp:List Addr
 C:Addr
noncomputable def Cx.comp(X:Cx)(scope:Scope)(N':List Str)(c:CArgs):Cx where
 prog:=X.prog
 w:=X.w
 K:=X.K
 mg:=X.mg
 base:=X.base
 A:=X.A
 N:=N'
 s₀:=c.s
 H₀:=c.H
 env:=compEnvC scope c.cells c.C X.env
 outer:=X.stack
 stack:=X.stack
 ex:=c.fp
 fn:=fun x=>scope.names.lookup x == some .cell
 calm:=X.calm
 pn:=X.pn++c.Ya
 xe:=fun _ _=>False
noncomputable def cSt(own:Nat)(ix:List Nat)(Z:St):St:=List.replicate own none++ix.map fun i=>(Z[i]?).join
section
variable {X:Cx}{Ya:List (Addr × Obj)}{Z:St}{H:Hp}{s s4:Shared}{fp:List Addr}{scope:Scope}{N':List Str}{own:Nat}{ix:List Nat}
theorem XO (I:Yg X Ya Z H s) (f2:∀b∈fp,BJ X Ya H b) (hob:∀b∈fp,∃o,s.heap.get? b=some o) (S:CompScope scope X.env.scope)
 (Ym:N'.length=own+ix.length) (hN:(N'.drop own).map some=ix.map (X.N[·]?)) (hfr:∀x∈N'.drop own,scope.names.lookup x=some .free)
 {C:Addr} (hC:s.heap.objs.size < C) (k4:∀b o,s.heap.get? b=some o->s4.heap.get? b=some o) (os4:s4.os=s.os) (g4:s4.gens=s.gens)
 (n4:∃m,s4.heap.Ns C m) (own4:∀x c,(x,c)∈cellsFrom (C+1) scope.names []->s4.heap.IsCell c none/\C+1<=c)
 (apart:(cellsFrom (C+1) scope.names []).Pairwise fun x y=>x.2≠y.2) :
 Yg (X.comp scope N' ⟨Ya,cellsFrom (C+1) scope.names (BP X.env.cells scope.names []),s,H,fp,C⟩) [] (cSt own ix Z) H s4:=by
 have hfree:∀y∈scope.names,y.2=.free->∃c,X.env.cells.lookup y.1=some c:=fun y hy h=>I.ok.has y.1 (S.fr y hy h)
 -- a cell of the block
 have cases:∀x c,(cellsFrom (C+1) scope.names (BP X.env.cells scope.names [])).lookup x=some c ->
  ((x,c)∈cellsFrom (C+1) scope.names []/\scope.names.lookup x=some .cell)\/((x,NameKind.free)∈scope.names/\X.env.cells.lookup x=some c):=fun x c h=>by
  rw[EA,GR]at h;cases e:(cellsFrom (C+1) scope.names []).lookup x with
  | some d =>
   rw[e]at h;cases h;have m:=mem_of_lookup e
   rcases cellsFrom_kind _ _ _ _ _ m with z | z
   ·exact absurd z (by simp)
   ·exact .inl ⟨m,Dd S.nd z⟩
  | none =>
   rw[e]at h
   rcases clOf_mem _ _ _ _ hfree (mem_of_lookup h) with z | z
   ·exact absurd z (by simp)
   ·exact .inr z
 have oldlt:∀x c,X.env.cells.lookup x=some c->c < s.heap.objs.size:=fun x c e=>let ⟨v,q⟩:=I.cell x c e;q.lt
 have kin:∀x,(FV scope X.env.scope).names.lookup x=some .cell\/(FV scope X.env.scope).names.lookup x=some .free->(scope.names.lookup x=some .cell\/scope.names.lookup x=some .free):=fun x h=>by
  rw[OE]at h;cases e:scope.names.lookup x with
  | none=>rw[e]at h;simp at h
  | some k =>
   rw[e]at h;cases k with
   | cell=>exact .inl rfl
   | free=>exact .inr rfl
   | _=>exact absurd h (by simp)
 have hCn:∀b o,s.heap.get? b=some o->b≠C:=fun b o e z=>by have:=ZF e;rw[z]at this;exact ZW _ (ZBP this hC)
 have lk:∀x,(x,NameKind.free)∈scope.names->∀c,X.env.cells.lookup x=some c->(cellsFrom (C+1) scope.names (BP X.env.cells scope.names [])).lookup x=some c:=fun x hx c hc=>by
  have hl:scope.names.lookup x=some .free:=Dd S.nd hx;rw[EA,GR,Kr (l:=cellsFrom (C+1) scope.names []) fun d hd=>?_]
  ·obtain⟨d,hd⟩:=Ky (HG (cells:=X.env.cells) scope.names [] hx)
   rcases clOf_mem _ _ _ _ hfree (mem_of_lookup hd) with z | ⟨_,z⟩
   ·exact absurd z (by simp)
   ·rw[hc]at z;cases z;exact hd
  ·rcases cellsFrom_kind _ _ _ _ _ hd with z | z
   ·exact absurd z (by simp)
   ·rw[Dd S.nd z]at hl;cases hl
 refine⟨⟨I.ok.mod,S.kind,I.ok.glob,I.ok.blt,Zv hC,fun x y c hx hy=>?_,fun x hx=>?_,fun x c hf hx=>?_,I.ok.hd,I.ok.frames,.inl rfl,fun b hb=>⟨?_,fun x c hx=>?_⟩,fun b o e=>I.bs b o e,Zj I.ok.bsz I.sz,fun b o e hb=>?_,fun b hb z=>?_,I.stack,I.stkFree⟩,
  os4,by rw[g4];exact I.bare,Un.kept k4,?_,fun x c hx=>?_,?_,fun x c hx=>?_,fun p hp=>?_,I.hok.kept k4,?_⟩
 ·-- inj
  rcases cases x c hx with ⟨m1,_⟩ | ⟨_,m1⟩ <;> rcases cases y c hy with ⟨m2,_⟩ | ⟨_,m2⟩
  ·exact name_of_addr apart m1 m2
  ·exact absurd (ZY (ZBP (oldlt y c m2) hC) (ZBm (own4 x c m1).2)) (ZW _)
  ·exact absurd (ZY (ZBP (oldlt x c m1) hC) (ZBm (own4 y c m2).2)) (ZW _)
  ·exact I.ok.inj x y c m1 m2
 ·-- has
  rcases kin x hx with h | h
  ·have q:=PySem.W.cellsFrom_some scope.names (C+1) (BP X.env.cells scope.names []) (.inl h);exact Option.isSome_iff_exists.mp q
  ·obtain⟨c,e⟩:=hfree (x,.free) (mem_of_lookup h) rfl;exact⟨c,lk x (mem_of_lookup h) c e⟩
 ·-- cab
  rcases cases x c hx with ⟨m1,_⟩ | ⟨m1,_⟩
  ·exact Zv (ZY hC (ZBm (own4 x c m1).2))
  ·have hl:=Dd S.nd m1;have hf':(scope.names.lookup x == some NameKind.cell)=true:=hf;rw[hl]at hf';cases hf'
 ·obtain⟨o,e⟩:=hob b hb;exact hCn b o e
 ·intro z;obtain⟨o,e⟩:=hob b hb;have Yq:=ZF e
  rcases cases x c hx with ⟨m1,_⟩ | ⟨_,m1⟩
  ·subst z;exact absurd (ZY (ZBP Yq hC) (ZBm (own4 x c m1).2)) (ZW _)
  ·exact(f2 b hb).2.2.2.2.1 x c m1 z
 ·-- noex
  have e1:=(I.ok.bs b o e).1
  rcases(f2 b hb).2.2.2.1 with z | z
  ·exact I.ok.noex b o e z
  ·exact absurd (ZY (ZF e1) z) (ZW _)
 ·-- exfs
  rcases ZG.mp (I.stkSub b z) with e | z
  ·exact(f2 b hb).2.1 e
  ·exact(f2 b hb).2.2.1 z
 ·-- loc
  obtain⟨m,hm⟩:=n4;obtain⟨m0,hn0,hl0⟩:=I.loc;refine⟨m,hm,fun i x v h1 h2 h3=>?_⟩;have h1:N'[i]? = some x:=h1;unfold cSt at h2
  by_cases hi:i < own
  ·rw[ZBF (by simpa using hi),List.getElem?_replicate]at h2;split at h2 <;> cases h2
  ·rw[Z6 (by simpa using hi),ZBt,ZR]at h2;obtain⟨j,hj⟩:∃j,i=own+j:=⟨i - own,by lia⟩;subst hj;rw[Nat.add_sub_cancel_left]at h2;cases e:ix[j]? with
   | none=>rw[e]at h2;cases h2
   | some q =>
    rw[e]at h2;have h2:some (Z[q]?).join=some (some v):=h2;have h2:(Z[q]?).join=some v:=ZV h2
    have hσ:Z[q]? = some (some v):=by
     cases eq:Z[q]? with
     | none=>rw[eq]at h2;cases h2
     | some z=>rw[eq]at h2;simp at h2;rw[h2]
    have hx:(N'.drop own)[j]? = some x:=by rw[List.getElem?_drop];exact h1
    have hNq:X.N[q]? = some x:=by
     have:=congrArg (·[j]?) hN
     simp only[ZR,hx,e,ZBi]at this;exact(ZV this).symm
    have hfx:=hfr x (Zw hx);have hmem:=mem_of_lookup hfx;have kx:=S.fr (x,.free) hmem rfl;have vis:Vis X.env.scope x:=.inr kx;obtain⟨u,r,l⟩:=hl0 q x v hNq hσ vis;refine⟨u,r,?_⟩
    rcases l with ⟨k,_⟩ | ⟨k,c,hc,z⟩
    ·exfalso;have k':X.env.scope.names.lookup x=some .local:=k
     rcases kx with kx | kx
     ·rw[show X.env.scope.names.lookup x=some .cell from kx]at k';cases k'
     ·rw[show X.env.scope.names.lookup x=some .free from kx]at k';cases k'
    ·refine .inr ⟨?_,c,lk x hmem c hc,z.keeps k4⟩
     show(FV scope X.env.scope).names.lookup x=some .cell\/(FV scope X.env.scope).names.lookup x=some .free
     rw[OE,hfx]
     by_cases hc:(NameKind.free == .free && X.env.scope.kind == .function && X.env.scope.names.lookup x == some .cell)=true
     ·exact .inl (by rw[ZBi,if_pos hc])
     ·exact .inr (by rw[ZBi,if_neg hc])
 ·rcases cases x c hx with ⟨m1,_⟩ | ⟨_,m1⟩
  ·exact⟨_,(own4 x c m1).1⟩
  ·obtain⟨v,q⟩:=I.cell x c m1;exact⟨v,q.keeps k4⟩
 ·exact I.hok.fresh (Zv hC)
 ·rcases cases x c hx with ⟨m1,_⟩ | ⟨_,m1⟩
  ·exact I.hok.fresh (Zv (ZY hC (ZBm (own4 x c m1).2)))
  ·exact I.freeC x c m1
 ·have hp:p∈X.pn++Ya:=by
   have:p∈(X.pn++Ya)++[]:=hp
   rwa [Zq]at this
  obtain⟨e,n,ne,nf,d⟩:=I.pin p hp;refine⟨k4 _ _ e,n,hCn _ _ e,fun z=>?_,d⟩
  rcases ZG.mp (I.stkSub _ z) with q | q
  ·exact ne q
  ·exact nf q
 ·unfold cSt;rw[ZN,ZBt,ZB];exact Ym.symm
end
section
variable {prog:Program}{w:World}{A:Around}{R:Result->Shared->Prop}{s:Shared}
theorem VA {elt target iter:Expr} {ifs:List Expr} {scope:Scope} {it Ys:Value} {env:Env} (I:Nat->Shared->Prop)
 (turn:∀n s,I n s->wpAny (model prog w) A (pyNext it) (fun r s₁=>match r with
   | none=>R (.ok .next) s₁
   | some v=>wpAny (model prog w) A (letOwnedTupleGo target it v) (fun _ s₁'=>wpAny (model prog w) A (assign target env v) (fun _ s₂ =>
    wpAny (model prog w) A (forIn ifs true fun c r=>if r=true then do let ok <- isTrue c env (eval c env);pure (ForInStep.yield ok) else pure (ForInStep.yield r)) (fun ok s₃ =>
     if ok=true then wpAny (model prog w) A (eval elt env) (fun x s₄ =>
      wpAny (model prog w) A (call (.builtin "list.append") [Ys,x]) (fun _ s₅=>∃m,m < n/\I m s₅) (fun _ _=>False) s₄) (fun _ _=>False) s₃
     else ∃m,m < n/\I m s₃) (fun _ _=>False) s₂) (fun _ _=>False) s₁') (fun _ _=>False) s₁) (fun _ _=>False) s)
 (n:Nat) (h:I n s) :
 codeAny (model prog w) A (.compLoop (.ListComp elt [⟨target,iter,ifs,0⟩] scope pos) 0 it Ys env) R s:=by
 refine codeAny_loop rfl I (fun n s hI=>?_) n h;show wpAny _ A ((compTurn (.ListComp elt [⟨target,iter,ifs,0⟩] scope pos) 0 it Ys env).onRaise (fun x=>do noteFrame x env;theTreesLotGoes x)) _ _ s;refine wpAny_noted ?_;rw[compTurn_list];refine ZA (ZBe (ZA (Zp (turn n s hI) (fun r s₁ h₁=>?_) fun _ _ h'=>h'.elim)));cases r with
 | none=>exact ZC h₁
 | some v =>
  refine ZA (Zp h₁ (fun _ s₁' h₁'=>?_) fun _ _ h'=>h'.elim);refine ZA (Zp h₁' (fun _ s₂ h₂=>ZA (Zp h₂ (fun ok s₃ h₃=>?_) fun _ _ h'=>h'.elim)) fun _ _ h'=>h'.elim);cases ok with
  | false=>exact ZC ⟨rfl,h₃⟩
  | true =>
   exact ZA (ZA (Zp h₃ (fun x s₄ h₄=>ZA (Zp h₄ (fun _ s₅ h₅=>ZC (ZC ⟨rfl,h₅⟩)) fun _ _ h'=>h'.elim)) fun _ _ h'=>h'.elim))
end
noncomputable def PTs(X:Cx)(ifs:List Expr)(t:TT):Prop :=
 ∀(Ya:List (Addr × Obj)) (s:Shared) (Z:St) (H:Hp) (Q:Bool->Hp->Prop),Yg X Ya Z H s->t Z H Q ->
  wpAny (model X.prog X.w) X.A (forIn ifs true fun c r=>if r=true then do let ok <- isTrue c X.env (eval c X.env);pure (ForInStep.yield ok) else pure (ForInStep.yield r)) (TP X Ya Z Q) X.xe s
noncomputable def U0:TT:=fun _ H Q=>Q true H
theorem Ao:PTs X [] U0:=fun _ _ _ H _ I h=>wpAny_tests_nil ⟨H,I,h⟩
theorem C3{c:Expr}{t:TT}(h:PT X c t):PTs X [c] t:=fun Ya s Z H Q I hq=>wpAny_tests_one (h Ya s Z H Q I hq)
noncomputable def DP(own:Nat)(g:TG):Prop:=∀x Z H Q,g x Z H Q->g x Z H fun σ' H'=>(σ'.length=Z.length/\∀i,own<=i->σ'[i]? = Z[i]?)/\Q σ' H'
noncomputable def GC(own:Nat)(g:TGs):Prop:=∀x Z H Q,g x Z H Q->g x Z H fun σ' H'=>(σ'.length=Z.length/\∀i,own<=i->σ'[i]? = Z[i]?)/\Q σ' H'
theorem AX(h:i < own):DP own (AZ i):=fun x Z H Q q =>
 ⟨⟨by simp,fun j hj=>by rw[List.getElem?_set_ne (by lia)]⟩,q⟩
theorem Ee:GC own JI:=fun x Z H Q ⟨e,q⟩=>⟨e,⟨rfl,fun _ _=>rfl⟩,q⟩
noncomputable def DY(g:TG):Prop:=∀x Z H (Q Q':St->Hp->Prop),(∀Z H,Q Z H->Q' Z H)->g x Z H Q->g x Z H Q'
noncomputable def E2(g:TGs):Prop:=∀x Z H (Q Q':St->Hp->Prop),(∀Z H,Q Z H->Q' Z H)->g x Z H Q->g x Z H Q'
theorem BV:DY (AZ i):=fun _ _ _ _ _ h q=>h _ _ q
theorem CA:E2 JI:=fun _ _ _ _ _ h ⟨e,q⟩=>⟨e,h _ _ q⟩
theorem De{t:TG}{u:TGs}(h1:DY t)(h2:E2 u):E2 (IF t u):=fun _ _ _ _ _ h ⟨v,r,e,q⟩=>⟨v,r,e,h1 _ _ _ _ _ (fun _ _ q=>h2 _ _ _ _ _ h q) q⟩
theorem CO{t:TG}{u:TGs}(m:DY t)(mu:E2 u)(h1:DP own t)(h2:GC own u):GC own (IF t u):=fun x Z H Q ⟨v,r,e,q⟩ =>
 ⟨v,r,e,m _ _ _ _ _ (fun σ' H' ⟨⟨e1,e2⟩,q⟩=>mu _ _ _ _ _ (fun σ'' H'' ⟨⟨e3,e4⟩,q⟩=>⟨⟨e3.trans e1,fun i hi=>(e4 i hi).trans (e2 i hi)⟩,q⟩) (h2 r σ' H' Q q)) (h1 v Z H _ q)⟩
theorem EB{t:TGs}(h:GC own t):DP own (HQ K n t):=fun x Z H Q ⟨a,xs,e,s,l,q⟩=>⟨a,xs,e,s,l,h _ _ _ _ q⟩
theorem Sg{ix:List Nat}(h:(cSt own ix Z)[i]? = some (some v)):own<=i:=by
 unfold cSt at h
 by_cases hi:i < own
 ·rw[ZBF (by simpa using hi),List.getElem?_replicate]at h;split at h <;> cases h
 ·lia
noncomputable def DN(J:It)(g:TG)(tc:TT)(te:TE)(σc:St)(Q:VK)(H1:Hp):Prop :=
 ∃W:Nat->Nat->List V->Hp->Prop,(∃m,W 0 m [] H1)/\∀i m ys H,W i m ys H ->
  (J.stop i H/\∀p,H p=none->Q (.ref p) (upd H p (.lst ys))) \/
  (J.go i H/\ys.length < sizeLine/\∃N:List V->Hp->Prop,(∀ys' H',N ys' H'->∃m',m' < m/\W (i+1) m' ys' H')/\∀x H',J.yld i H x H'->g x σc H' fun σ4 H4=>tc σ4 H4 fun b H5 =>
    if b=true then te σ4 H5 fun y H6=>N (ys++[y]) H6 else N ys H5)
noncomputable def FU(wi:TI)(own:Nat)(ix:List Nat)(g:TG)(tc:TT)(te:TE):TE:=fun Z H Q=>wi Z H fun J H1=>DN J g tc te (cSt own ix Z) Q H1
section
variable {X:Cx}{Ya:List (Addr × Obj)}{Z:St}{H:Hp}{s:Shared}{fp:List Addr}{it:Addr}{tn:Nat->Heap->Prop}{J:It}{tg iter elt:Expr}{ifs:List Expr}{scope:Scope}{pos:Pos}{N':List Str}{own:Nat}{ix:List Nat}{g:TG}{tc:TT}{te:TE}{Q:VK}{E:Value->Shared->Prop}
theorem NJ (I:Yg X Ya Z H s) (T:Turn X.prog X.w X.K tg J fp it tn) (st:tn 0 s.heap) (f2:∀b∈fp,BJ X Ya H b) (hc:X.calm=true) (S:CompScope scope X.env.scope)
 (Ym:N'.length=own+ix.length) (hN:(N'.drop own).map some=ix.map (X.N[·]?)) (hfr:∀x∈N'.drop own,scope.names.lookup x=some .free)
 (hg:∀c,PG (X.comp scope N' c) tg g) (hgo:DP own g) (ht:∀c,PTs (X.comp scope N' c) ifs tc) (he:∀c,PE (X.comp scope N' c) elt te)
 (hq:DN J g tc te (cSt own ix Z) Q H) {RR:Value->Addr->Result->Shared->Prop}
 (fin:∀(D C:Addr) (s':Shared) (H':Hp) (ys:List V) (Ye:List Value) (n:Nat),s'.os=s.os->AllBare s'.gens->Un (frs X.stack) fp H H' s.heap s'.heap->HOk X.prog X.w H' s'.heap->(∃m,s'.heap.Ns C m)->H' C=none->s.heap.objs.size<=C ->
   H' D=none->s.heap.objs.size<=D->D≠C->s'.heap.get? D=some { cls:=.type "list",data:=.seq Ye.toArray n } -> Yk ys Ye->ys.length<=sizeLine->(∀p,H' p=none->Q (.ref p) (upd H' p (.lst ys)))->RR (.ref D) C (.ok .next) s') :
 wpAny (model X.prog X.w) X.A (newList []) (fun Ys s₃=>wpAny (model X.prog X.w) X.A (newFunctionEnv scope X.env.globals (BP X.env.cells scope.names []) [] X.env.qual none .none (some X.env)) (fun cenv s₄ =>
  codeAny (model X.prog X.w) X.A (.compStart (.ListComp elt [⟨tg,iter,ifs,0⟩] scope pos) 0 (.ref it) Ys { cenv with scope:=relabel scope X.env }) (RR Ys cenv.locals) s₄) E s₃) E s:=by
 obtain⟨W,⟨m0,w0⟩,turn⟩:=hq;have hob:∀b∈fp,∃o,s.heap.get? b=some o:=fun b hb=>let ⟨o,e,_⟩:=T.obj 0 _ st b hb;⟨o,e⟩
 refine Zx ?_;generalize hH1:s.heap.push { cls:=.type "list",dict:=none,data:=.seq ([]:List Value).toArray } = h1;have hs1:h1.objs.size=s.heap.objs.size+1:=by rw[<- hH1,Z7]
 have k1:∀b o,s.heap.get? b=some o->h1.get? b=some o:=fun b o e=>by rw[<- hH1];exact ZH _ e
 have d1:h1.get? s.heap.objs.size=some { cls:=.type "list",data:=.seq ([]:List Value).toArray }:=by rw[<- hH1];exact ZS _ rfl
 simp only[newFunctionEnv,Option.isSome_some,if_true];refine ZA (wpAny_alloc ?_);generalize hH2:(({ s with heap:=h1 }:Shared).heap.push { cls:=.type "dict",data:=.dict #[] })=h2;have hH2':h1.push { cls:=.type "dict",data:=.dict #[] } = h2:=hH2;have hs2:h2.objs.size=h1.objs.size+1:=by rw[<- hH2',Z7]
 have k2:∀b o,h1.get? b=some o->h2.get? b=some o:=fun b o e=>by rw[<- hH2'];exact ZH _ e
 have n2:h2.Ns h1.objs.size (fun _=>none):=by rw[<- hH2'];exact Heap.Ns.new h1 (.type "dict")
 refine ZA (wpAny_layCells _ (fun name kind cells=>by cases hkc:kind == NameKind.cell <;> simp[hkc]) _ _ _ _ ?_);have ok:=cellsFrom_ok scope.names h2 (h1.objs.size+1) [] ⟨fun _ _ hm=>(nomatch hm),List.Pairwise.nil⟩ (by rw[hs2];exact ZD _);rw[hs2]at ok;show wpAny _ _ (forIn ([]:List (Str × Value)) PUnit.unit _ >>= _) _ _ _;rw[List.forIn_nil];refine ZA (ZC (ZC ?_));show codeAny _ _ (.compStart _ 0 (.ref it) (.ref s.heap.objs.size) (compEnvC scope (cellsFrom h2.objs.size scope.names (BP X.env.cells scope.names [])) h1.objs.size X.env)) (RR (.ref s.heap.objs.size) h1.objs.size) { s with heap:=pushCells h2 scope.names };rw[hs2];generalize hH3:pushCells h2 scope.names=h3 at ok ⊢;have k3:∀b o,h2.get? b=some o->h3.get? b=some o:=fun b o e=>by rw[<- hH3];exact pushCells_keeps _ _ b o e
 have kk:∀b o,s.heap.get? b=some o->h3.get? b=some o:=fun b o e=>k3 b o (k2 b o (k1 b o e))
 have d3:h3.get? s.heap.objs.size=some { cls:=.type "list",data:=.seq ([]:List Value).toArray }:=k3 _ _ (k2 _ _ d1);have hC:s.heap.objs.size < h1.objs.size:=by rw[hs1];exact ZBM _
 have I3:Yg (X.comp scope N' ⟨Ya,cellsFrom (h1.objs.size+1) scope.names (BP X.env.cells scope.names []),s,H,fp,h1.objs.size⟩) [] (cSt own ix Z) H { s with heap:=h3 } :=
  XO (s4:={ s with heap:=h3 }) I f2 hob S Ym hN hfr hC kk rfl rfl ⟨_,n2.keeps k3⟩ (fun x c hm=>ok.empty x c hm) ok.apart
 generalize hcs:cellsFrom (h1.objs.size+1) scope.names (BP X.env.cells scope.names [])=cs at I3 ⊢;generalize hCC:h1.objs.size=C at *;generalize hDD:s.heap.objs.size=D at *;have hY:=I3.ok
 -- what is fixed of the records
 have sD:D≠C/\(∀x c,cs.lookup x=some c->c≠D)/\D∉frs X.stack/\∀p∈X.pn++Ya,p.1≠D:=by
  refine⟨ZT hC,fun x c e z=>?_,fun z=>?_,fun p hp z=>?_⟩
  ·subst z;have e':=e;rw[<- hcs,EA,GR]at e';cases q:(cellsFrom (C+1) scope.names []).lookup x with
   | some d =>
    rw[q]at e';cases e'
    have:=(ok.empty x c (mem_of_lookup q)).2
    exact absurd (ZY hC (ZBm this)) (ZW _)
   | none =>
    rw[q]at e';have hfree:∀y∈scope.names,y.2=.free->∃c,X.env.cells.lookup y.1=some c:=fun y hy h=>I.ok.has y.1 (S.fr y hy h)
    rcases clOf_mem _ _ _ _ hfree (mem_of_lookup e') with z | ⟨_,z⟩
    ·exact absurd z (by simp)
    ·obtain⟨v,q⟩:=I.cell x c z
     have:=q.lt
     rw[hDD]at this;exact ZW _ this
  ·exact(I3.nofs (a:=D) (by exact absurd z (by
    intro z';obtain⟨_,o,ho,_⟩:=(show s.heap.FunFrames X.base X.stack from I.stack).mem z'
    have:=ZF ho
    rw[hDD]at this;exact ZW _ this))) z
  ·have:=ZF (I.pin p hp).1
   rw[z,hDD]at this;exact ZW _ this
 have stat:∀{H':Hp},(∀b∈fp,H' b=none)->∀b∈fp,BJ (X.comp scope N' ⟨Ya,cs,s,H,fp,C⟩) [] H' b:=fun {H'} hn b hb=>by
  refine⟨hn b hb,(hY.exf b hb).1,hY.exfs b hb,.inl hb,(hY.exf b hb).2,fun p hp=>?_⟩;have hp:p∈(X.pn++Ya)++[]:=hp;rw[Zq]at hp;exact(f2 b hb).2.2.2.2.2 p hp
 have statD:∀{H':Hp},H' D=none->BJ (X.comp scope N' ⟨Ya,cs,s,H,fp,C⟩) [] H' D:=fun {H'} hn=>by
  refine⟨hn,sD.1,sD.2.2.1,.inr (ZBf hDD),sD.2.1,fun p hp=>?_⟩;have hp:p∈(X.pn++Ya)++[]:=hp;rw[Zq]at hp;exact sD.2.2.2 p hp
 have loop:codeAny (model X.prog X.w) X.A (.compLoop (.ListComp elt [⟨tg,iter,ifs,0⟩] scope pos) 0 (.ref it) (.ref D) (compEnvC scope cs C X.env)) (RR (.ref D) C) { s with heap:=h3 }:=by
  refine VA (fun n s'=>∃(i:Nat) (H':Hp) (ys:List V) (Ye:List Value) (k:Nat),Yg (X.comp scope N' ⟨Ya,cs,s,H,fp,C⟩) [] (cSt own ix Z) H' s'/\tn i s'.heap/\(∀b∈fp,H' b=none)/\H' D=none /\
   s'.heap.get? D=some { cls:=.type "list",data:=.seq Ye.toArray k } /\ Yk ys Ye/\ys.length<=sizeLine/\W i n ys H') ?_ m0
   ⟨0,H,[],[],0,I3,T.keep _ _ _ st fun b _ o e=>kk b o e,fun b hb=>(f2 b hb).1,I.hok.fresh (ZBf hDD),d3,.nil,ZU _,w0⟩
  rintro n s4 ⟨i,H4,ys,Ye,k,I4,st4,fr4,dn4,d4,rv4,z4,w4⟩
  rcases turn i n ys H4 w4 with ⟨stop,qn⟩ | ⟨go,zl,N,hN2,step⟩
  ·have ID:=I4.pinned (fp:=[D]) (fun b hb=>by rw[ZO.mp hb];exact statD dn4) (fun b hb=>by rw[ZO.mp hb];exact⟨_,d4,fun v z=>nomatch z⟩)
   have nD:∀b∈fp,b≠D:=fun b hb z=>by
    obtain⟨o,e⟩:=hob b hb
    have:=ZF e
    rw[z,hDD]at this;exact ZW _ this
   have stat':∀b∈fp,BJ (X.comp scope N' ⟨Ya,cs,s,H,fp,C⟩) ([]++CJ [D] s4.heap) H4 b:=fun b hb=>by
    obtain⟨q1,q2,q3,q4,q5,q6⟩:=stat fr4 b hb;refine⟨q1,q2,q3,q4,q5,fun p hp=>?_⟩
    rcases Zf.mp hp with z | z
    ·exact q6 p (Z5 _ z)
    ·have:=(G8 (by simpa using z:p∈CJ [D] s4.heap)).1
     rw[ZO.mp this];exact fun z=>nD b hb z.symm
   refine Yn (T.done (X.comp scope N' ⟨Ya,cs,s,H,fp,C⟩) rfl rfl rfl hc i _ s4 _ H4 (fun _ _=>False) ID stat' st4 stop) fun r s5 ⟨hr,I5⟩=>?_
   subst hr;obtain⟨m,hm,_⟩:=I5.loc;refine fin D C s5 H4 ys Ye k I5.os I5.bare I5.base I5.hok ⟨m,hm⟩ I5.free (Zv hC) dn4 (ZD _) sD.1 ?_ rv4 z4 qn
   ·exact(I5.pin (D,_) (ZZ _ (ZZ _ (Cf (ZO.mpr rfl) d4)))).1
  ·have nD:∀b∈fp,b≠D:=fun b hb z=>by
    obtain⟨o,e⟩:=hob b hb
    have:=ZF e
    rw[z,hDD]at this;exact ZW _ this
   have ID:=I4.pinned (fp:=[D]) (fun b hb=>by rw[ZO.mp hb];exact statD dn4) (fun b hb=>by rw[ZO.mp hb];exact⟨_,d4,fun v z=>nomatch z⟩)
   have statP:∀{H':Hp},(∀b∈fp,H' b=none)->∀b∈fp,BJ (X.comp scope N' ⟨Ya,cs,s,H,fp,C⟩) ([]++CJ [D] s4.heap) H' b:=fun {H'} hn b hb=>by
    obtain⟨q1,q2,q3,q4,q5,q6⟩:=stat hn b hb;refine⟨q1,q2,q3,q4,q5,fun p hp=>?_⟩
    rcases Zf.mp hp with z | z
    ·exact q6 p (Z5 _ z)
    ·have:=(G8 (by simpa using z:p∈CJ [D] s4.heap)).1
     rw[ZO.mp this];exact fun z=>nD b hb z.symm
   refine Yn (T.item (X.comp scope N' ⟨Ya,cs,s,H,fp,C⟩) rfl rfl rfl hc i _ s4 _ H4 (fun _ _=>False) ID (statP fr4) st4 go) fun r s5 ⟨u,hr,h5⟩=>?_
   subst hr;refine Yn h5 fun _ s6 ⟨x,H6,I6,r6,y6,st6,fr6⟩=>?_
   have I6':=I6.pinned (statP fr6) (T.obj _ _ st6);refine Yn (hg _ _ s6 _ H6 x u _ I6' r6 (hgo _ _ _ _ (step x H6 y6))) fun _ s7 ⟨σ7,H7,I7,⟨e7,k7⟩,q7⟩=>?_
   have I7':Yg (X.comp scope N' ⟨Ya,cs,s,H,fp,C⟩) ([]++CJ [D] s4.heap++CJ fp s6.heap) σ7 H7 s7:=I7;refine Yn (ht _ _ s7 σ7 H7 _ I7' q7) fun b s8 ⟨H8,I8,q8⟩=>?_
   -- what is kept through the turn
   have back:∀{s9:Shared} {H9:Hp},Yg (X.comp scope N' ⟨Ya,cs,s,H,fp,C⟩) ([]++CJ [D] s4.heap++CJ fp s6.heap) σ7 H9 s9 ->
    Yg (X.comp scope N' ⟨Ya,cs,s,H,fp,C⟩) [] (cSt own ix Z) H9 s9/\tn (i+1) s9.heap/\(∀b∈fp,H9 b=none)/\H9 D=none/\s9.heap.get? D=some { cls:=.type "list",data:=.seq Ye.toArray k }:=fun {s9 H9} I9=>by
    have pD:=I9.pin (D,_) (ZZ _ (Z5 _ (ZZ _ (Cf (ZO.mpr rfl) d4))));refine⟨I9.unpinned.unpinned.weak (by rw[e7]) fun j v hj=>?_,T.keep _ _ _ st6 fun b hb o e=>(I9.pin (b,o) (ZZ _ (ZZ _ (Cf hb e)))).1,fun b hb=>?_,pD.2.1,pD.1⟩
    ·rw[k7 j (Sg hj)];exact hj
    ·obtain⟨o,e,_⟩:=T.obj _ _ st6 b hb;exact(I9.pin (b,o) (ZZ _ (ZZ _ (Cf hb e)))).2.1
   cases b with
   | false =>
    rw[if_neg ZBE]at q8;obtain⟨m',hm,w8⟩:=hN2 _ _ q8;obtain⟨b1,b2,b3,b4,b5⟩:=back I8;exact⟨m',hm,i+1,H8,ys,Ye,k,b1,b2,b3,b4,b5,rv4,z4,w8⟩
   | true =>
    rw[if_pos rfl]at q8;rw[if_pos rfl];refine Yn (he _ _ s8 σ7 H8 _ I8 q8) fun yv s9 ⟨y,H9,I9,r9,q9⟩=>?_
    obtain⟨m',hm,w9⟩:=hN2 _ _ q9;obtain⟨b1,b2,b3,b4,b5⟩:=back I9;have hl:=rv4.length;refine call_meets F.slot_list_append ⟨_,b5,rfl⟩ F.entry_list_append (F.args_list_append_2 _ _) (PySem.list_append D Ye.toArray k yv (by rw[ZI];lia)) ⟨b5,?_⟩;have up:=PySem.IsL.update b5 (fun a=>a.push yv);have keep:∀b o,b≠D->s9.heap.get? b=some o->(s9.heap.update D (Obj.mapSeq fun a=>a.push yv)).get? b=some o:=fun b o hb q=>(ZBI _ _ (Ne.symm hb)).trans q
    obtain⟨f0,f1,f2',f3,f4,f5⟩:=statD b4;refine⟨m',hm,i+1,H9,ys++[y],Ye++[yv],(if ((Ye.toArray.push yv).size == Ye.toArray.size)=true then k else k+1),b1.turned (t':=s9.toks) keep b4 f1 f3 f4 f5,?_,b3,b4,?_,rv4.append (.cons r9 .nil),?_,w9⟩
    ·exact T.keep _ _ _ b2 fun b hb o e=>keep b o (nD b hb) e
    ·have e2:(Ye.toArray.push yv)=(Ye++[yv]).toArray:=by simp
     rw[<- e2];exact up
    ·rw[ZN,List.length_singleton];lia
 exact codeAny_compStart_list loop (T.self X.A 0 _ _ _ (T.keep _ _ _ st fun b _ o e=>kk b o e) loop)
end
section
variable {X:Cx}{Ya:List (Addr × Obj)}{Z:St}{H:Hp}{s:Shared}{fp:List Addr}{it:Addr}{tn:Nat->Heap->Prop}{J:It}{tg iter elt:Expr}{ifs:List Expr}{scope:Scope}{pos:Pos}{N':List Str}{own:Nat}{ix:List Nat}{g:TG}{tc:TT}{te:TE}{wi:TI}{E:Value->Shared->Prop}
theorem Mo {s':Shared} {D:Addr} {ys:List V} {Ye:List Value} (I:Yg X Ya Z H s) (f2:∀b∈fp,BJ X Ya H b) (ho:s'.os=s.os) (hg:AllBare s'.gens) (u:Un (frs X.stack) fp H H' s.heap s'.heap) (hok:HOk X.prog X.w H' s'.heap)
 (dn:H' D=none) (ds:s.heap.objs.size<=D) (d:s'.heap.get? D=some { cls:=.type "list",data:=.seq Ye.toArray n }) (rv:Yk ys Ye) (z:ys.length<=sizeLine):Yg X Ya Z (upd H' D (.lst ys)) s':=by
 have nD:∀b o,s.heap.get? b=some o->b≠D:=fun b o e q=>by rw[q,Heap.get?_none_of_le ds]at e;cases e
 have nH:∀b o,H' b=some o->b≠D:=fun b o e q=>by rw[q,dn]at e;cases e
 refine I.call' (ch:=fp) ho ⟨u.keep,u.slot,fun b o e q hx=>?_,u.there,fun b xs e=>?_,fun b o v e=>?_,fun b ps e=>?_⟩ (fun b o e=>?_) hg fun b hb=>?_
 ·rw[AJ (nD b o e)];exact u.free b o e q hx
 ·have:=u.tups b xs e
  rw[AJ (nH _ _ this)];exact this
 ·have:=u.frzs b o v e
  rw[AJ (nH _ _ this)];exact this
 ·obtain⟨more,q⟩:=u.tbls b ps e;exact⟨more,by rw[AJ (nH _ _ q)];exact q⟩
 ·by_cases hb:b=D
  ·subst hb;rw[AD]at e;cases e;exact⟨z,Ye,n,rv,d⟩
  ·rw[AJ hb]at e;exact(hok b o e).stay (fun _ _ _ q=>q) (fun c q=>by rw[AJ (nH _ _ q)];exact q) fun c xs q=>by rw[AJ (nH _ _ q)];exact q
 ·obtain⟨q1,q2,q3,q4,q5,q6⟩:=f2 b hb;exact⟨q4,q2,q5,q6⟩
theorem Yg.dictGone{s':Shared}{h':Heap}{C:Addr}{σ':St}(I:Yg X Ya Z H s)(J:Yg X Ya σ' H' s')(hC:s.heap.objs.size<=C)(hn:H' C=none)(k:Heap.SameBut C s'.heap h'):Yg X Ya σ' H' { s' with heap:=h' }:=by
 have hC0:=Heap.get?_none_of_le hC;refine J.turned (t':=s'.toks) (fun b o hb e=>(k.2 b hb).trans e) hn (fun z=>?_) (.inr (Zj I.sz hC)) (fun x c e z=>?_) fun p hp z=>?_
 ·obtain⟨m,⟨o,_,_,ho,_⟩,_⟩:=I.loc;rw[<- z,hC0]at ho;cases ho
 ·obtain⟨v,o,ho,_⟩:=I.cell x c e;rw[z,hC0]at ho;cases ho
 ·have:=(I.pin p hp).1
  rw[z,hC0]at this;cases this
theorem WG (hc:X.calm=true) (hi:PI X tg iter wi) (S:CompScope scope X.env.scope)
 (Ym:N'.length=own+ix.length) (hN:(N'.drop own).map some=ix.map (X.N[·]?)) (hfr:∀x∈N'.drop own,scope.names.lookup x=some .free)
 (hg:∀c,PG (X.comp scope N' c) tg g) (hgo:DP own g) (ht:∀c,PTs (X.comp scope N' c) ifs tc) (he:∀c,PE (X.comp scope N' c) elt te)
 (hs:∀x,foldedSetIterable iter X.env x=pure x:=by intro _;rfl):PE X (.ListComp elt [⟨tg,iter,ifs,0⟩] scope pos) (FU wi own ix g tc te):=by
 intro Ya s Z H Q I h;rw[eval_ListComp];have hfree:∀y∈scope.names,y.2=.free->∃c,X.env.cells.lookup y.1=some c:=fun y hy h=>I.ok.has y.1 (S.fr y hy h)
 refine wpAny_comprehension_free (use:=none) rfl hs (LU hfree) S.kind (fun y hy hl=>Dd S.nd (by rw[<- hl];exact hy)) ?_;refine Yn (hi Ya s Z H _ I h) fun v s1 h1=>Yn h1 fun itv s2 h2=>?_
 obtain⟨it,fp,tn,J,H2,e,I2,T,st2,f2,q2⟩:=h2;subst e;refine NJ (RR:=fun Ys C=>compPost (model X.prog X.w) X.A X.xe none (EP X Ya Z Q) Ys C) I2 T st2 f2 hc S Ym hN hfr hg hgo ht he q2 ?_;intro D C s' H' ys Ye n ho hgn u hok hm hC hCs hD hDs hDC d rv z q;obtain⟨m,hm⟩:=hm;have I3:=Mo I2 f2 ho hgn u hok hD hDs d rv z;refine⟨m,hm,fun h' hs'=>?_⟩;exact⟨.ref D,_,I2.dictGone I3 hCs (by rw[AJ (Ne.symm hDC)];exact hC) hs',rfl,q D hD⟩
theorem We {y:Str} {py spos:Pos} (hc:X.calm=true) (hnd:X.N.Nodup) (hiy:X.N[i]? = some y) (hy:X.env.scope.names.lookup y=some .local) (hi:PI X tg iter wi) (S:CompScope scope X.env.scope)
 (Ym:N'.length=own+ix.length) (hN:(N'.drop own).map some=ix.map (X.N[·]?)) (hfr:∀x∈N'.drop own,scope.names.lookup x=some .free)
 (hg:∀c,PG (X.comp scope N' c) tg g) (hgo:DP own g) (ht:∀c,PTs (X.comp scope N' c) ifs tc) (he:∀c,PE (X.comp scope N' c) elt te)
 (hsw:swapsWith (.ListComp elt [⟨tg,iter,ifs,0⟩] scope pos) (some (.Name y py)) spos.line X.env=pure true)
 (hs:∀x,foldedSetIterable iter X.env x=pure x:=by intro _;rfl):PS X (.Assign [.Name y py] (.ListComp elt [⟨tg,iter,ifs,0⟩] scope pos) spos) (Eg (FU wi own ix g tc te) (AZ i)):=by
 intro Ya s Z H D I h;rw[exec_Assign_Name_used _ _ _ _ hsw];refine ZA (ZBe (ZA ?_));show wpAny _ _ (do let _ <- comprehension (.ListComp elt [⟨tg,iter,ifs,0⟩] scope pos) scope X.env _ (newList []) false (eval iter X.env) (some (assign (.Name y py) X.env))) _ _ s;have hfree:∀y∈scope.names,y.2=.free->∃c,X.env.cells.lookup y.1=some c:=fun y hy h=>I.ok.has y.1 (S.fr y hy h)
 refine ZA (Zp (wpAny_comprehension_free (use:=some (assign (.Name y py) X.env)) (Q:=fun _ s'=>SP X Ya D .next s') rfl hs (LU hfree) S.kind (fun y hy hl=>Dd S.nd (by rw[<- hl];exact hy)) ?_) (fun _ s' hq=>ZC (ZC hq)) fun _ _ e=>e);refine Yn (hi Ya s Z H _ I h) fun v s1 h1=>Yn h1 fun itv s2 h2=>?_
 obtain⟨it,fp,tn,J,H2,e,I2,T,st2,f2,q2⟩:=h2;subst e;refine NJ (RR:=fun Ys C=>compPost (model X.prog X.w) X.A X.xe (some (assign (.Name y py) X.env)) (fun _ s'=>SP X Ya D .next s') Ys C) I2 T st2 f2 hc S Ym hN hfr hg hgo ht he q2 ?_;intro d C s' H' ys Ye n ho hgn u hok hm hC hCs hD hDs hDC hd rv z q;obtain⟨m,hm⟩:=hm;have I3:=Mo I2 f2 ho hgn u hok hD hDs hd rv z;show wpAny _ _ (assign (.Name y py) X.env (.ref d)) _ _ s';have hCn:(upd H' d (.lst ys)) C=none:=by rw[AJ (Ne.symm hDC)];exact hC
 refine wpAny_assign_Name (Lo I3 hnd hiy (.inl hy) (v:=.ref d) rfl (fun s3 I4 ⟨a,sb,ha⟩=>?_) (.inr hy))
 have ha':a≠C:=fun e=>by
  have hC0:=Heap.get?_none_of_le hCs
  rcases ha with z | z
  ·obtain⟨m,⟨o,_,_,ho,_⟩,_⟩:=I2.loc;rw[<- z,e,hC0]at ho;cases ho
  ·obtain⟨v,o,ho,_⟩:=I2.cell y a z;rw[e,hC0]at ho;cases ho
 refine⟨m,hm.sameBut sb (Ne.symm ha'),fun h' hs'=>?_⟩;exact⟨_,_,I2.dictGone I4 hCs hCn hs',q d hD⟩
end
section
variable {X:Cx}
theorem PE.imp{e:Expr}{t t':TE}(h:PE X e t)(f:∀Z H Q,t' Z H Q->t Z H Q):PE X e t':=fun Ya s Z H Q I q=>h Ya s Z H Q I (f Z H Q q)
theorem Yv.imp{f:Value->Value->Sem Value}{r':R2}(h:Yv X f r)(g:∀x y H Q,r' x y H Q->r x y H Q):Yv X f r':=fun Ya s Z H x y v u Q I rx ry q=>h Ya s Z H x y v u Q I rx ry (g _ _ _ _ q)
theorem CallR.imp{f:Value}{r r':List V->Hp->VK->Prop}(h:CallR X f r)(g:∀x H Q,r' x H Q->r x H Q):CallR X f r':=fun Ya s Z H xs us Q I r q=>h Ya s Z H xs us Q I r (g _ _ _ q)
noncomputable def DV(i:Nat):TE:=fun Z H Q=>match Z[i]? with
 | some (some v)=>Q v H
 | _=>False
theorem vv (i:Nat) (hN:X.N[i]? = some x:=by rfl) (hv:Vis X.env.scope x:=by first | exact Or.inl rfl | exact Or.inr (Or.inl rfl) | exact Or.inr (Or.inr rfl)) (hd:(x == ("__debug__" : Str))=false:=by decide)
 (hcd:(x == ("__classdict__" : Str))=false:=by decide):PE X (.Name x pos) (DV i):=(Uk hN hv hd hcd).imp fun Z H Q q=>by
 unfold DV at q;split at q
 ·rename_i v e;exact⟨v,e,q⟩
 ·exact q.elim
noncomputable def okMul(i j:Int):Prop:=(i.natAbs < 2 ^ 4096/\j.natAbs < 2 ^ 4096)\/(-(2 ^ 64) < i/\i < 2 ^ 64)\/(-(2 ^ 64) < j/\j < 2 ^ 64)
theorem NX{i:Int}(h:i.natAbs < 2 ^ 4096):Builtin.Int.intBits i<=2 ^ 20:=by
 unfold Builtin.Int.intBits;split
 ·exact ZU _
 ·rename_i hz
  have Yu:i.natAbs≠0:=by
   have:¬i=0:=by simpa using hz
   lia
  have:=(Nat.log2_lt Yu).mpr h
  have e:(2:Nat) ^ 20=1048576:=by decide
  lia
theorem okMul.ok{i j:Int}(h:okMul i j):IntMulOk i j:=by
 rcases h with ⟨h1,h2⟩ | h | h
 ·exact .of_bits (NX h1) (NX h2)
 ·exact CMul.ok (.inl h)
 ·exact CMul.ok (.inr h)
noncomputable def okDiv(j:Int):Prop:=0 < j/\j < 2 ^ 4096
theorem okDiv.ok{i j:Int}(h:okDiv j):Builtin.divisionGoesByPylong i j=false:=by
 refine PyProof.noPylong_of_log2 ?_;obtain⟨h1,h2⟩:=h;have Yu:j.natAbs≠0:=by lia
 have h3:j.natAbs < 2 ^ 4096:=by
  have e:((j.natAbs:Int))=j:=by lia
  have h2':((j.natAbs:Nat):Int) < ((2 ^ 4096:Nat):Int):=by rw[e,Int.natCast_pow];exact h2
  exact Int.ofNat_lt.mp h2'
 have:=(Nat.log2_lt Yu).mpr h3
 lia
noncomputable def Eb(K:W.Frag):R2:=fun x y H Q=>match x,y with
 | .int i,.int j=>Q (.int (i+j)) H
 | .str a,.str b=>a.length+b.length<=sizeLine/\Q (.str (a++b)) H
 | .ref a,.ref b=>Jf (.ref a) (.ref b) H Q\/Ni K (.ref a) (.ref b) H Q
 | _,_=>False
theorem UJ:Yv X (binaryOp .Add) (Eb X.K):=by
 intro Ya s Z H x y v u Q I rx ry q
 cases x <;> cases y <;> first
  | exact False.elim q
  | exact K3 Ya s Z H _ _ v u Q I rx ry ⟨_,_,rfl,rfl,q⟩
  | exact T0 Ya s Z H _ _ v u Q I rx ry ⟨_,_,rfl,rfl,q.1,q.2⟩
  | (rcases q with q | q
     ·exact Ko Ya s Z H _ _ v u Q I rx ry q
     ·exact K7 Ya s Z H _ _ v u Q I rx ry q)
noncomputable def IU:R2:=fun x y H Q=>match x,y with
 | .int i,.int j=>Q (.int (i - j)) H
 | _,_=>False
theorem Cj:Yv X (binaryOp .Sub) IU:=by
 intro Ya s Z H x y v u Q I rx ry q
 cases x <;> cases y <;> first
  | exact False.elim q
  | exact RI Ya s Z H _ _ v u Q I rx ry ⟨_,_,rfl,rfl,q⟩
noncomputable def KM:R2:=fun x y H Q=>match x,y with
 | .int i,.int j=>okMul i j/\Q (.int (i * j)) H
 | .ref a,.int k=>MZ (.ref a) (.int k) H Q
 | _,_=>False
theorem Co:Yv X (binaryOp .Mult) KM:=by
 have hI:Yv X (binaryOp .Mult) (rI okMul fun i j=>.int (i * j)):=opI fun _ _ _ _ _ _ _ hc q=>mul_int q hc.ok
 intro Ya s Z H x y v u Q I rx ry q
 cases x <;> cases y <;> first
  | exact False.elim q
  | exact hI Ya s Z H _ _ v u Q I rx ry ⟨_,_,rfl,rfl,q.1,q.2⟩
  | exact Vp Ya s Z H _ _ v u Q I rx ry q
noncomputable def Hy:R2:=fun x y H Q=>match x,y with
 | .int i,.int j=>okDiv j/\Q (.int (i / j)) H
 | _,_=>False
theorem Ez:Yv X (binaryOp .FloorDiv) Hy:=by
 have hI:Yv X (binaryOp .FloorDiv) (rI (fun _ j=>okDiv j) fun i j=>.int (i / j)):=opI fun i j _ _ _ _ _ hc q=>by
  refine floordiv_int (by have:=hc.1;lia) ?_ (.inl hc.ok);rw[Int.fdiv_eq_ediv_of_nonneg i (by have:=hc.1;lia)];exact q
 intro Ya s Z H x y v u Q I rx ry q
 cases x <;> cases y <;> first
  | exact False.elim q
  | exact hI Ya s Z H _ _ v u Q I rx ry ⟨_,_,rfl,rfl,q.1,q.2⟩
noncomputable def IR:R2:=fun x y H Q=>match x,y with
 | .int i,.int j=>0 < j/\Q (.int (i % j)) H
 | _,_=>False
theorem DW:Yv X (binaryOp .Mod) IR:=by
 intro Ya s Z H x y v u Q I rx ry q
 cases x <;> cases y <;> first
  | exact False.elim q
  | exact Xc Ya s Z H _ _ v u Q I rx ry ⟨_,_,rfl,rfl,q.1,q.2⟩
noncomputable def KO:R2:=fun x y H Q=>match x,y with
 | .int i,.int j=>Fy i j/\Q (.int (i ^ j.toNat)) H
 | _,_=>False
theorem OC:Yv X (binaryOp .Pow) KO:=by
 intro Ya s Z H x y v u Q I rx ry q
 cases x <;> cases y <;> first
  | exact False.elim q
  | exact UH Ya s Z H _ _ v u Q I rx ry ⟨_,_,rfl,rfl,q.1,q.2⟩
noncomputable def Gp(f:Int->Int->Int):R2:=fun x y H Q=>match x,y with
 | .int i,.int j=>Q (.int (f i j)) H
 | _,_=>False
theorem FS:Yv X (binaryOp .BitAnd) (Gp Builtin.bitAnd):=by
 intro Ya s Z H x y v u Q I rx ry q
 cases x <;> cases y <;> first
  | exact False.elim q
  | exact Us Ya s Z H _ _ v u Q I rx ry ⟨_,_,rfl,rfl,q⟩
noncomputable def TL:R2:=fun x y H Q=>match x,y with
 | .int i,.int j=>0<=j/\Q (.int (i / 2 ^ j.toNat)) H
 | _,_=>False
theorem TY:Yv X (binaryOp .RShift) TL:=by
 intro Ya s Z H x y v u Q I rx ry q
 cases x <;> cases y <;> first
  | exact False.elim q
  | exact Tm Ya s Z H _ _ v u Q I rx ry ⟨_,_,rfl,rfl,q.1,q.2⟩
noncomputable def Il:R2:=fun x y H Q=>match x,y with
 | .int i,.int j=>Fy i j/\Q (.int (i * 2 ^ j.toNat)) H
 | _,_=>False
theorem Nu:Yv X (binaryOp .LShift) Il:=by
 intro Ya s Z H x y v u Q I rx ry q
 cases x <;> cases y <;> first
  | exact False.elim q
  | exact SZ Ya s Z H _ _ v u Q I rx ry ⟨_,_,rfl,rfl,q.1,q.2⟩
noncomputable def Jq:V->Hp->VK->Prop:=fun x H Q=>match x with
 | .int i=>Q (.int (-i)) H
 | _=>False
theorem Le:UnR X (unaryOp .USub) Jq:=by
 intro Ya s Z H x v Q I rx q
 cases x <;> first
  | exact False.elim q
  | exact W0 Ya s Z H _ v Q I rx ⟨_,rfl,q⟩
noncomputable def D7(p:Int->Int->Bool):R2:=fun x y H Q=>match x,y with
 | .int i,.int j=>Q (.bl (p i j)) H
 | _,_=>False
theorem Ck:Yv X (compareOp .Lt) (D7 fun i j=>decide (i < j)):=by
 intro Ya s Z H x y v u Q I rx ry q
 cases x <;> cases y <;> first
  | exact False.elim q
  | exact Wl Ya s Z H _ _ v u Q I rx ry ⟨_,_,rfl,rfl,q⟩
theorem Jb:Yv X (compareOp .LtE) (D7 fun i j=>decide (i<=j)):=by
 intro Ya s Z H x y v u Q I rx ry q
 cases x <;> cases y <;> first
  | exact False.elim q
  | exact XM Ya s Z H _ _ v u Q I rx ry ⟨_,_,rfl,rfl,q⟩
theorem Bp:Yv X (compareOp .Gt) (D7 fun i j=>decide (j < i)):=by
 intro Ya s Z H x y v u Q I rx ry q
 cases x <;> cases y <;> first
  | exact False.elim q
  | exact Ut Ya s Z H _ _ v u Q I rx ry ⟨_,_,rfl,rfl,q⟩
theorem F0:Yv X (compareOp .GtE) (D7 fun i j=>decide (j<=i)):=by
 intro Ya s Z H x y v u Q I rx ry q
 cases x <;> cases y <;> first
  | exact False.elim q
  | exact UD Ya s Z H _ _ v u Q I rx ry ⟨_,_,rfl,rfl,q⟩
end
inductive Dv where
 | non | bl (b:Bool) | int (i:Int) | str (x:Str) | tup (ds:List Dv) | lst (ds:List Dv)
mutual
noncomputable def Yh(K:W.Frag)(H:Hp):Dv->V->Prop
 | .non,v=>v=.non
 | .bl b,v=>v=.bl b
 | .int i,v=>v=.int i
 | .str x,v=>v=.str x
 | .tup ds,v=>∃a xs,v=.ref a/\Yo K H a xs/\Yd K H ds xs
 | .lst ds,v=>∃a xs,v=.ref a/\Yw K H a xs/\Yd K H ds xs
noncomputable def Yd(K:W.Frag)(H:Hp):List Dv->List V->Prop
 | [],xs=>xs=[]
 | d::ds,xs=>∃x r,xs=x::r/\Yh K H d x/\Yd K H ds r
end
mutual
noncomputable def eqD:Dv->Dv->Bool
 | .non,.non=>true
 | .bl a,.bl b=>a == b
 | .bl a,.int b=>(if a then 1 else 0) == b
 | .int a,.bl b=>a == (if b then 1 else 0)
 | .int a,.int b=>a == b
 | .str a,.str b=>a == b
 | .tup ds,.tup es=>BQ ds es
 | .lst ds,.lst es=>BQ ds es
 | _,_=>false
noncomputable def BQ:List Dv->List Dv->Bool
 | [],[]=>true
 | d::ds,e::es=>eqD d e && BQ ds es
 | _,_=>false
end
mutual
noncomputable def Az:Dv->Nat
 | .tup ds=>Bl ds+1
 | .lst ds=>Bl ds+1
 | _=>0
noncomputable def Bl:List Dv->Nat
 | []=>0
 | d::ds=>max (Az d) (Bl ds)
end
theorem Qr(ds es:List Dv):eqD (.tup ds) (.tup es)=BQ ds es:=by rw[eqD]
theorem Fp(ds es:List Dv):eqD (.lst ds) (.lst es)=BQ ds es:=by rw[eqD]
theorem Yd.length:∀{ds:List Dv} {xs:List V},Yd K H ds xs->ds.length=xs.length
 | [],xs,h=>by unfold Yd at h;subst h;rfl
 | d::ds,xs,h=>by
  unfold Yd at h;obtain⟨x,r,rfl,_,h⟩:=h;rw[Zn,Zn,Yd.length h]
theorem Yd.get:∀{ds:List Dv} {xs:List V} {i:Nat} {d:Dv},Yd K H ds xs->ds[i]? = some d->∃x,xs[i]? = some x/\Yh K H d x
 | [],_,_,_,_,e=>by simp at e
 | d::ds,xs,0,_,h,e=>by
  unfold Yd at h;obtain⟨x,r,rfl,h1,_⟩:=h;simp at e;subst e;exact⟨x,rfl,h1⟩
 | d::ds,xs,i+1,_,h,e=>by
  unfold Yd at h;obtain⟨x,r,rfl,_,h⟩:=h;obtain⟨y,h1,h2⟩:=Yd.get (i:=i) h (by simpa using e);exact⟨y,by simpa using h1,h2⟩
theorem MX{d:Dv}(h:ds[i]? = some d):Az d<=Bl ds:=by
 induction ds generalizing i with
 | nil=>simp at h
 | cons e es ih =>
  unfold Bl;cases i with
  | zero=>simp at h;subst h;lia
  | succ i=>have:=ih (i:=i) (by simpa using h);lia
theorem Hl:∀(ds es:List Dv),ds.length=es.length->BQ ds es=(List.range ds.length).all fun i=>match ds[i]?,es[i]? with | some d,some e=>eqD d e | _,_=>false
 | [],[],_=>by unfold BQ;rfl
 | d::ds,e::es,h=>by
  unfold BQ;rw[Zn,List.range_succ_eq_map,List.all_cons,List.all_map,Hl ds es (by simpa using h)]
  congr 1
 | [],e::es,h=>by simp at h
 | d::ds,[],h=>by simp at h
theorem HW:∀(ds es:List Dv),ds.length≠es.length->BQ ds es=false
 | [],[],h=>absurd rfl h
 | [],_::_,_=>by unfold BQ;rfl
 | _::_,[],_=>by unfold BQ;rfl
 | d::ds,e::es,h=>by unfold BQ;rw[HW ds es (fun z=>h (by simp[z])),Bool.and_false]
mutual
theorem Jz:∀d:Dv,eqD d d=true
 | .non=>by unfold eqD;rfl
 | .bl b=>by unfold eqD;simp
 | .int i=>by unfold eqD;simp
 | .str x=>by unfold eqD;simp
 | .tup ds=>by unfold eqD;exact GF ds
 | .lst ds=>by unfold eqD;exact GF ds
theorem GF:∀ds:List Dv,BQ ds ds=true
 | []=>by unfold BQ;rfl
 | d::ds=>by unfold BQ;rw[Jz d,GF ds];rfl
end
section
variable {X:Cx}{Ya:List (Addr × Obj)}{Z:St}{H:Hp}{s:Shared}
theorem K1{ys:List V}(I:Yg X Ya Z H s)(h:Yw X.K H a xs)(h':Yo X.K H a ys):False:=by
 obtain⟨Ye,_,⟨o,n,e,c,_⟩,_⟩:=I.list h;obtain⟨its',_,⟨o',e',c',_⟩,_⟩:=I.tuple h';rw[e]at e';cases e';rw[c]at c';exact absurd c' (by decide)
mutual
theorem Fk(I:Yg X Ya Z H s):∀(d e:Dv) (x:V),Yh X.K H d x->Yh X.K H e x->d=e
 | .non,e,x,h,h'=>by
  unfold Yh at h;subst h;cases e <;> unfold Yh at h' <;> first | rfl | (obtain⟨a,xs,q,_⟩:=h';cases q;done) | (cases h';done)
 | .bl b,e,x,h,h'=>by
  unfold Yh at h;subst h;cases e <;> unfold Yh at h' <;> first | (obtain⟨a,xs,q,_⟩:=h';cases q;done) | (cases h';rfl) | (cases h';done)
 | .int b,e,x,h,h'=>by
  unfold Yh at h;subst h;cases e <;> unfold Yh at h' <;> first | (obtain⟨a,xs,q,_⟩:=h';cases q;done) | (cases h';rfl) | (cases h';done)
 | .str b,e,x,h,h'=>by
  unfold Yh at h;subst h;cases e <;> unfold Yh at h' <;> first | (obtain⟨a,xs,q,_⟩:=h';cases q;done) | (cases h';rfl) | (cases h';done)
 | .tup ds,e,x,h,h'=>by
  unfold Yh at h;obtain⟨a,xs,rfl,hs,hr⟩:=h;cases e with
  | tup es =>
   unfold Yh at h';obtain⟨b,ys,q,hs',hr'⟩:=h';cases q;rw[I.tuple_inj hs' hs]at hr';rw[IV I ds es xs hr hr']
  | lst es =>
   unfold Yh at h';obtain⟨b,ys,q,hs',hr'⟩:=h';cases q;exact(K1 I hs' hs).elim
  | _=>unfold Yh at h';cases h'
 | .lst ds,e,x,h,h'=>by
  unfold Yh at h;obtain⟨a,xs,rfl,hs,hr⟩:=h;cases e with
  | lst es =>
   unfold Yh at h';obtain⟨b,ys,q,hs',hr'⟩:=h';cases q;rw[I.list_inj hs' hs]at hr';rw[IV I ds es xs hr hr']
  | tup es =>
   unfold Yh at h';obtain⟨b,ys,q,hs',hr'⟩:=h';cases q;exact(K1 I hs hs').elim
  | _=>unfold Yh at h';cases h'
theorem IV(I:Yg X Ya Z H s):∀(ds es:List Dv) (xs:List V),Yd X.K H ds xs->Yd X.K H es xs->ds=es
 | [],es,xs,h,h'=>by
  unfold Yd at h;subst h;cases es with
  | nil=>rfl
  | cons e es=>unfold Yd at h';obtain⟨x,r,q,_⟩:=h';cases q
 | d::ds,es,xs,h,h'=>by
  unfold Yd at h;obtain⟨x,r,rfl,h1,h2⟩:=h;cases es with
  | nil=>unfold Yd at h';cases h'
  | cons e es =>
   unfold Yd at h';obtain⟨y,r',q,h3,h4⟩:=h';cases q;rw[Fk I d e _ h1 h3,IV I ds es _ h2 h4]
end
noncomputable abbrev Eq3(A:Around)(s:Shared)(u v:Value)(b:Bool):Prop:=SeqAt.EqAt A s u v b/\SeqAt.RcAt A s u v b/\SeqAt.RcNeAt A s u v (!b)
theorem Re {b:Addr} {ys:List V} {es:List Dv} (I:Yg X Ya Z H s) (hu:A.units < cLine) (ha:Yo X.K H a xs) (hb:Yo X.K H b ys) (hd:Yd X.K H ds xs) (he:Yd X.K H es ys)
 (ih:∀(i:Nat) (d e:Dv) (x y:V) (u v:Value),ds[i]? = some d->es[i]? = some e->xs[i]? = some x->ys[i]? = some y->Yi x u->Yi y v->SeqAt.EqAt A.in1 s u v (eqD d e)):Eq3 A s (.ref a) (.ref b) (eqD (.tup ds) (.tup es)):=by
 obtain⟨Ye,r1,p1,_⟩:=I.tuple ha;obtain⟨its2,r2,p2,_⟩:=I.tuple hb;have l1:=hd.length;have l2:=he.length;have l3:=r1.length;have l4:=r2.length
 have hitem:∀j (h1:j < Ye.toArray.size) (h2:j < its2.toArray.size),SeqAt.EqAt A.in1 s Ye.toArray[j] its2.toArray[j] (match ds[j]?,es[j]? with | some d,some e=>eqD d e | _,_=>false):=fun j h1 h2=>by
  rw[ZI]at h1 h2;have e1:ds[j]? = some ds[j]:=ZE (by lia);have e2:es[j]? = some es[j]:=ZE (by lia);have e3:xs[j]? = some xs[j]:=ZE (by lia);have e4:ys[j]? = some ys[j]:=ZE (by lia);obtain⟨u,q1,q2⟩:=r1.get e3;obtain⟨v,q3,q4⟩:=r2.get e4;rw[e1,e2];have z1:Ye.toArray[j]=u:=by rw[ZB4];rw[ZE h1]at q1;exact ZV q1
  have z2:its2.toArray[j]=v:=by rw[ZB4];rw[ZE h2]at q3;exact ZV q3
  rw[z1,z2];exact ih j _ _ _ _ _ _ e1 e2 e3 e4 q2 q4
 have val:((List.range (min Ye.toArray.size its2.toArray.size)).all (fun j=>match ds[j]?,es[j]? with | some d,some e=>eqD d e | _,_=>false) && Ye.toArray.size == its2.toArray.size)=eqD (.tup ds) (.tup es):=by
  rw[ZI,ZI,<- l3,<- l4,<- l1,<- l2,Qr]
  by_cases h:ds.length=es.length
  ·rw[h,Nat.min_self,<- h,Hl ds es h];simp
  ·rw[HW ds es h]
   have:(ds.length == es.length)=false:=by simpa using h
   rw[this,Bool.and_false]
 have R:=SeqAt.RcAt.tuples (A:=A) p1 p2 hu hitem;have N:=SeqAt.RcNeAt.tuples (A:=A) p1 p2 hu hitem;rw[val]at R N;refine⟨?_,R,N⟩
 by_cases hab:a=b
 ·subst hab
  have e:ds=es:=by
   have:=Fk I (.tup ds) (.tup es) (.ref a) (by unfold Yh;exact⟨a,xs,rfl,ha,hd⟩) (by unfold Yh;exact⟨a,ys,rfl,hb,he⟩)
   cases this;rfl
  subst e;rw[Jz];exact SeqAt.EqAt.same _
 ·exact .of_refs hab R
theorem SR {b:Addr} {ys:List V} {es:List Dv} (I:Yg X Ya Z H s) (hu:A.units < cLine) (ha:Yw X.K H a xs) (hb:Yw X.K H b ys) (hd:Yd X.K H ds xs) (he:Yd X.K H es ys)
 (ih:∀(i:Nat) (d e:Dv) (x y:V) (u v:Value),ds[i]? = some d->es[i]? = some e->xs[i]? = some x->ys[i]? = some y->Yi x u->Yi y v->SeqAt.EqAt A.in1 s u v (eqD d e)):Eq3 A s (.ref a) (.ref b) (eqD (.lst ds) (.lst es)):=by
 obtain⟨Ye,r1,p1,_⟩:=I.list ha;obtain⟨its2,r2,p2,_⟩:=I.list hb;have l1:=hd.length;have l2:=he.length;have l3:=r1.length;have l4:=r2.length
 have hitem:∀j (h1:j < Ye.toArray.size) (h2:j < its2.toArray.size),SeqAt.EqAt A.in1 s Ye.toArray[j] its2.toArray[j] (match ds[j]?,es[j]? with | some d,some e=>eqD d e | _,_=>false):=fun j h1 h2=>by
  rw[ZI]at h1 h2;have e1:ds[j]? = some ds[j]:=ZE (by lia);have e2:es[j]? = some es[j]:=ZE (by lia);have e3:xs[j]? = some xs[j]:=ZE (by lia);have e4:ys[j]? = some ys[j]:=ZE (by lia);obtain⟨u,q1,q2⟩:=r1.get e3;obtain⟨v,q3,q4⟩:=r2.get e4;rw[e1,e2];have z1:Ye.toArray[j]=u:=by rw[ZB4];rw[ZE h1]at q1;exact ZV q1
  have z2:its2.toArray[j]=v:=by rw[ZB4];rw[ZE h2]at q3;exact ZV q3
  rw[z1,z2];exact ih j _ _ _ _ _ _ e1 e2 e3 e4 q2 q4
 have RN:SeqAt.RcAt A s (.ref a) (.ref b) (eqD (.lst ds) (.lst es))/\SeqAt.RcNeAt A s (.ref a) (.ref b) (!eqD (.lst ds) (.lst es)):=by
  by_cases h:ds.length=es.length
  ·have hsz:Ye.toArray.size=its2.toArray.size:=by rw[ZI,ZI];lia
   have val:(List.range Ye.toArray.size).all (fun j=>match ds[j]?,es[j]? with | some d,some e=>eqD d e | _,_=>false)=eqD (.lst ds) (.lst es):=by
    rw[Fp,ZI,<- l3,<- l1,Hl ds es h]
   have R:=SeqAt.RcAt.lists (A:=A) p1.isList p2.isList hsz hu hitem;have N:=SeqAt.RcNeAt.lists (A:=A) p1.isList p2.isList hsz hu hitem;rw[val]at R N;exact⟨R,N⟩
  ·have hsz:(Ye.toArray.size != its2.toArray.size)=true:=by rw[ZI,ZI];simp;lia
   have val:eqD (.lst ds) (.lst es)=false:=by rw[Fp];exact HW ds es h
   rw[val];exact⟨SeqAt.RcAt.lists_lengths p1.isList p2.isList hsz hu,SeqAt.RcNeAt.lists_lengths p1.isList p2.isList hsz hu⟩
 refine⟨?_,RN.1,RN.2⟩
 by_cases hab:a=b
 ·subst hab
  have e:ds=es:=by
   have:=Fk I (.lst ds) (.lst es) (.ref a) (by unfold Yh;exact⟨a,xs,rfl,ha,hd⟩) (by unfold Yh;exact⟨a,ys,rfl,hb,he⟩)
   cases this;rfl
  subst e;rw[Jz];exact SeqAt.EqAt.same _
 ·exact .of_refs hab RN.1
theorem Jy(I:Yg X Ya Z H s):∀(n:Nat) (A:Around) (d e:Dv) (x y:V) (u v:Value),Az d<=n->A.units+n < cLine->Yh X.K H d x->Yh X.K H e y->Yi x u->Yi y v->Eq3 A s u v (eqD d e):=by
 intro n
 induction n with
 | zero =>
  intro A d e x y u v hd hu hx hy ru rv;have hu':A.units < cLine:=by lia
  cases d with
  | tup ds=>unfold Az at hd;lia
  | lst ds=>unfold Az at hd;lia
  | non =>
   unfold Yh at hx;subst hx;cases ru;cases e <;> unfold Yh at hy
   case non=>subst hy;cases rv;exact⟨SeqAt.EqAt.same _,SeqAt.RcAt.none_none,SeqAt.RcNeAt.none_none⟩
   case bl=>subst hy;cases rv;exact⟨.none_bool _,.none_bool _,.none_bool _⟩
   case int=>subst hy;obtain⟨t,rfl⟩:=rv;exact⟨.none_int _ _,.none_int _ _,.none_int _ _⟩
   case str=>subst hy;obtain⟨t,rfl⟩:=rv;exact⟨.none_str _ _,.none_str _ _,.none_str _ _⟩
   case tup=>obtain⟨a,xs,rfl,ha,_⟩:=hy;cases rv;obtain⟨Ye,_,p,_⟩:=I.tuple ha;exact⟨.none_tuple p hu',.none_tuple p hu',.none_tuple p hu'⟩
   case lst=>obtain⟨a,xs,rfl,ha,_⟩:=hy;cases rv;obtain⟨Ye,_,p,_⟩:=I.list ha;exact⟨.none_list p.isList hu',.none_list p.isList hu',.none_list p.isList hu'⟩
  | bl c =>
   unfold Yh at hx;subst hx;cases ru;cases e <;> unfold Yh at hy
   case non=>subst hy;cases rv;exact⟨.bool_none _,.bool_none _,.bool_none _⟩
   case bl=>subst hy;cases rv;unfold eqD;exact⟨.bool_bool _ _,.bool_bool _ _,.bool_bool _ _⟩
   case int=>subst hy;obtain⟨t,rfl⟩:=rv;unfold eqD;exact⟨.bool_int _ _ _,.bool_int _ _ _,.bool_int _ _ _⟩
   case str=>subst hy;obtain⟨t,rfl⟩:=rv;exact⟨.bool_str _ _ _,.bool_str _ _ _,.bool_str _ _ _⟩
   case tup=>obtain⟨a,xs,rfl,ha,_⟩:=hy;cases rv;obtain⟨Ye,_,p,_⟩:=I.tuple ha;exact⟨.bool_tuple _ p hu',.bool_tuple _ p hu',.bool_tuple _ p hu'⟩
   case lst=>obtain⟨a,xs,rfl,ha,_⟩:=hy;cases rv;obtain⟨Ye,_,p,_⟩:=I.list ha;exact⟨.bool_list _ p.isList hu',.bool_list _ p.isList hu',.bool_list _ p.isList hu'⟩
  | int c =>
   unfold Yh at hx;subst hx;obtain⟨t0,rfl⟩:=ru;cases e <;> unfold Yh at hy
   case non=>subst hy;cases rv;exact⟨.int_none _ _,.int_none _ _,.int_none _ _⟩
   case bl=>subst hy;cases rv;unfold eqD;exact⟨.int_bool _ _ _,.int_bool _ _ _,.int_bool _ _ _⟩
   case int=>subst hy;obtain⟨t,rfl⟩:=rv;unfold eqD;exact⟨.int_int _ _ _ _,.int_int _ _ _ _,.int_int _ _ _ _⟩
   case str=>subst hy;obtain⟨t,rfl⟩:=rv;exact⟨.int_str _ _ _ _,.int_str _ _ _ _,.int_str _ _ _ _⟩
   case tup=>obtain⟨a,xs,rfl,ha,_⟩:=hy;cases rv;obtain⟨Ye,_,p,_⟩:=I.tuple ha;exact⟨.int_tuple _ _ p hu',.int_tuple _ _ p hu',.int_tuple _ _ p hu'⟩
   case lst=>obtain⟨a,xs,rfl,ha,_⟩:=hy;cases rv;obtain⟨Ye,_,p,_⟩:=I.list ha;exact⟨.int_list _ _ p.isList hu',.int_list _ _ p.isList hu',.int_list _ _ p.isList hu'⟩
  | str c =>
   unfold Yh at hx;subst hx;obtain⟨t0,rfl⟩:=ru;cases e <;> unfold Yh at hy
   case non=>subst hy;cases rv;exact⟨.str_none _ _,.str_none _ _,.str_none _ _⟩
   case bl=>subst hy;cases rv;exact⟨.str_bool _ _ _,.str_bool _ _ _,.str_bool _ _ _⟩
   case int=>subst hy;obtain⟨t,rfl⟩:=rv;exact⟨.str_int _ _ _ _,.str_int _ _ _ _,.str_int _ _ _ _⟩
   case str=>subst hy;obtain⟨t,rfl⟩:=rv;unfold eqD;exact⟨.str_str _ _ _ _,.str_str _ _ _ _,.str_str _ _ _ _⟩
   case tup=>obtain⟨a,xs,rfl,ha,_⟩:=hy;cases rv;obtain⟨Ye,_,p,_⟩:=I.tuple ha;exact⟨.str_tuple _ _ p hu',.str_tuple _ _ p hu',.str_tuple _ _ p hu'⟩
   case lst=>obtain⟨a,xs,rfl,ha,_⟩:=hy;cases rv;obtain⟨Ye,_,p,_⟩:=I.list ha;exact⟨.str_list _ _ p.isList hu',.str_list _ _ p.isList hu',.str_list _ _ p.isList hu'⟩
 | succ n ih =>
  intro A d e x y u v hd hu hx hy ru rv;have hu':A.units < cLine:=by lia
  have hin:A.in1.units+n < cLine:=by show A.units+1+n < cLine;lia
  cases d with
  | tup ds =>
   unfold Az at hd;unfold Yh at hx;obtain⟨a,xs,rfl,ha,hr⟩:=hx;cases ru;cases e <;> unfold Yh at hy
   case tup es =>
    obtain⟨b,ys,rfl,hb,hr'⟩:=hy;cases rv;refine Re I hu' ha hb hr hr' fun i d e x y u v e1 e2 e3 e4 ru rv=>?_
    obtain⟨x',q1,q2⟩:=hr.get e1;obtain⟨y',q3,q4⟩:=hr'.get e2;rw[e3]at q1;cases q1;rw[e4]at q3;cases q3;exact(ih A.in1 d e x y u v (by have:=MX e1;lia) hin q2 q4 ru rv).1
   case non=>subst hy;cases rv;obtain⟨Ye,_,p,_⟩:=I.tuple ha;exact⟨.tuple_none p hu',.tuple_none p hu',.tuple_none p hu'⟩
   case bl=>subst hy;cases rv;obtain⟨Ye,_,p,_⟩:=I.tuple ha;exact⟨.tuple_bool _ p hu',.tuple_bool _ p hu',.tuple_bool _ p hu'⟩
   case int=>subst hy;obtain⟨t,rfl⟩:=rv;obtain⟨Ye,_,p,_⟩:=I.tuple ha;exact⟨.tuple_int _ _ p hu',.tuple_int _ _ p hu',.tuple_int _ _ p hu'⟩
   case str=>subst hy;obtain⟨t,rfl⟩:=rv;obtain⟨Ye,_,p,_⟩:=I.tuple ha;exact⟨.tuple_str _ _ p hu',.tuple_str _ _ p hu',.tuple_str _ _ p hu'⟩
   case lst=>obtain⟨b,ys,rfl,hb,_⟩:=hy;cases rv;obtain⟨Ye,_,p,_⟩:=I.tuple ha;obtain⟨its2,_,p2,_⟩:=I.list hb;exact⟨.tuple_list p p2.isList hu',.tuple_list p p2.isList hu',.tuple_list p p2.isList hu'⟩
  | lst ds =>
   unfold Az at hd;unfold Yh at hx;obtain⟨a,xs,rfl,ha,hr⟩:=hx;cases ru;cases e <;> unfold Yh at hy
   case lst es =>
    obtain⟨b,ys,rfl,hb,hr'⟩:=hy;cases rv;refine SR I hu' ha hb hr hr' fun i d e x y u v e1 e2 e3 e4 ru rv=>?_
    obtain⟨x',q1,q2⟩:=hr.get e1;obtain⟨y',q3,q4⟩:=hr'.get e2;rw[e3]at q1;cases q1;rw[e4]at q3;cases q3;exact(ih A.in1 d e x y u v (by have:=MX e1;lia) hin q2 q4 ru rv).1
   case non=>subst hy;cases rv;obtain⟨Ye,_,p,_⟩:=I.list ha;exact⟨.list_none p.isList hu',.list_none p.isList hu',.list_none p.isList hu'⟩
   case bl=>subst hy;cases rv;obtain⟨Ye,_,p,_⟩:=I.list ha;exact⟨.list_bool _ p.isList hu',.list_bool _ p.isList hu',.list_bool _ p.isList hu'⟩
   case int=>subst hy;obtain⟨t,rfl⟩:=rv;obtain⟨Ye,_,p,_⟩:=I.list ha;exact⟨.list_int _ _ p.isList hu',.list_int _ _ p.isList hu',.list_int _ _ p.isList hu'⟩
   case str=>subst hy;obtain⟨t,rfl⟩:=rv;obtain⟨Ye,_,p,_⟩:=I.list ha;exact⟨.list_str _ _ p.isList hu',.list_str _ _ p.isList hu',.list_str _ _ p.isList hu'⟩
   case tup=>obtain⟨b,ys,rfl,hb,_⟩:=hy;cases rv;obtain⟨Ye,_,p,_⟩:=I.list ha;obtain⟨its2,_,p2,_⟩:=I.tuple hb;exact⟨.list_tuple p.isList p2 hu',.list_tuple p.isList p2 hu',.list_tuple p.isList p2 hu'⟩
  | non=>exact ih A .non e x y u v (by unfold Az;lia) (by lia) hx hy ru rv
  | bl c=>exact ih A (.bl c) e x y u v (by unfold Az;lia) (by lia) hx hy ru rv
  | int c=>exact ih A (.int c) e x y u v (by unfold Az;lia) (by lia) hx hy ru rv
  | str c=>exact ih A (.str c) e x y u v (by unfold Az;lia) (by lia) hx hy ru rv
end
section
variable {X:Cx}
noncomputable def mEq(neg:Bool)(K:W.Frag):R2:=fun x y H Q=>match x,y with
 | .non,.non=>Q (.bl (neg ^^ true)) H
 | .bl a,.bl b=>Q (.bl (neg ^^ (a == b))) H
 | .int a,.int b=>Q (.bl (neg ^^ (a == b))) H
 | .str a,.str b=>Q (.bl (neg ^^ (a == b))) H
 | x,y=>∃d e,Yh K H d x/\Yh K H e y/\Az d<=60/\Q (.bl (neg ^^ eqD d e)) H
theorem O6(hu:X.A.units+60 < cLine):Yv X (compareOp .Eq) (fun x y H Q=>∃d e,Yh X.K H d x/\Yh X.K H e y/\Az d<=60/\Q (.bl (eqD d e)) H):=by
 intro Ya s Z H x y v u Q I rx ry h;obtain⟨d,e,h1,h2,h3,q⟩:=h;exact(Jy I 60 X.A d e x y v u h3 hu h1 h2 rx ry).2.1 X.prog X.w _ _ ⟨.bl _,H,I,rfl,q⟩
theorem om_neAll(hu:X.A.units+60 < cLine):Yv X (compareOp .NotEq) (fun x y H Q=>∃d e,Yh X.K H d x/\Yh X.K H e y/\Az d<=60/\Q (.bl (!eqD d e)) H):=by
 intro Ya s Z H x y v u Q I rx ry h;obtain⟨d,e,h1,h2,h3,q⟩:=h;exact(Jy I 60 X.A d e x y v u h3 hu h1 h2 rx ry).2.2 X.prog X.w _ _ ⟨.bl _,H,I,rfl,q⟩
theorem LI{neg:Bool}{x:V}{Q:VK}(h:mEq neg K x y H Q):∃d e,Yh K H d x/\Yh K H e y/\Az d<=60/\Q (.bl (neg ^^ eqD d e)) H:=by
 unfold mEq at h;split at h
 ·exact⟨.non,.non,by unfold Yh;rfl,by unfold Yh;rfl,by unfold Az;lia,by unfold eqD;exact h⟩
 ·rename_i a b;exact⟨.bl a,.bl b,by unfold Yh;rfl,by unfold Yh;rfl,by unfold Az;lia,by unfold eqD;exact h⟩
 ·rename_i a b;exact⟨.int a,.int b,by unfold Yh;rfl,by unfold Yh;rfl,by unfold Az;lia,by unfold eqD;exact h⟩
 ·rename_i a b;exact⟨.str a,.str b,by unfold Yh;rfl,by unfold Yh;rfl,by unfold Az;lia,by unfold eqD;exact h⟩
 ·exact h
theorem Sj(hu:X.A.units+60 < cLine):Yv X (compareOp .Eq) (mEq false X.K):=(O6 hu).imp fun x y H Q h=>by
 obtain⟨d,e,h1,h2,h3,q⟩:=LI h;exact⟨d,e,h1,h2,h3,by rw[Zo]at q;exact q⟩
theorem Ol(hu:X.A.units+60 < cLine):Yv X (compareOp .NotEq) (mEq true X.K):=(om_neAll hu).imp fun x y H Q h=>by
 obtain⟨d,e,h1,h2,h3,q⟩:=LI h;exact⟨d,e,h1,h2,h3,by rw[Bool.true_xor]at q;exact q⟩
end
section
variable {X:Cx}{a b c e:Expr}{es:List Expr}{ta tb tc te:TE}{tA tB':TT}{t:TA}{pos p:Pos}{x:Str}
noncomputable def isB(v:V)(Q:Bool->Prop):Prop:=match v with
 | .bl c=>Q c
 | _=>False
theorem DQ{Q:Bool->Prop}(h:isB v Q):∃c,v=.bl c/\Q c:=by
 cases v <;> first | exact False.elim h | exact⟨_,rfl,h⟩
noncomputable def Af(t:TE):Prop:=∀Z H (Q Q':VK),(∀v H,Q v H->Q' v H)->t Z H Q->t Z H Q'
noncomputable def uB(t:TE):TT:=fun Z H Q=>t Z H fun x H1=>isB x fun c=>Q c H1
theorem AW{op:CmpOp}(ho:Yv X (compareOp op) r)(ha:PE X a ta)(hb:PE X b tb)(hm:behindInMarks op b=false:=by first | exact Ip _ (by decide) (by decide) | rfl):PT X (.Compare a [op] [b] pos) (uB (tOp r ta tb)):=by
 intro Ya s Z H Q I h
 refine wpAny_isTrue_Compare1 (Yn (ha Ya s Z H _ I h) fun v s1 ⟨x,H1,I1,r1,q1⟩=>Yn (hb Ya s1 Z H1 _ I1 q1) fun u s2 ⟨y,H2,I2,r2,q2⟩ =>
  Yn (ho Ya s2 Z H2 x y v u _ I2 r1 r2 q2) fun c s3 ⟨z,H3,I3,r3,q⟩=>?_) hm
 obtain⟨k,e,q3⟩:=DQ q;subst e;cases r3;exact ZBB ⟨H3,I3,q3⟩
theorem A7{op:CmpOp}(ho:Yv X (compareOp op) r)(ha:PE X a ta)(hb:PE X b tb)(hm:behindInMarks op b=false:=by first | exact Ip _ (by decide) (by decide) | rfl):PE X (.Compare a [op] [b] pos) (tOp r ta tb):=Ps ho ha hb hm
theorem BL(h:PE X e te)(he:∀whole,isTrue e X.env whole=(do let v <- whole;standAt e.pos;holding [v] (truthy v)):=by intro _;rfl):PT X e (uB te):=by
 intro Ya s Z H Q I hq;refine isTrue_plain (Yn (h Ya s Z H _ I hq) fun v s1 ⟨x,H1,I1,r1,q1⟩=>?_) (he _);obtain⟨k,e,q⟩:=DQ q1;subst e;cases r1;exact ZBB ⟨H1,I1,q⟩
noncomputable def MC(r r':R2)(ta tb tc:TE):TE:=fun Z H Q=>ta Z H fun x H1=>tb Z H1 fun y H2=>r x y H2 fun z H3=>isB z fun k =>
 (if k=true then tc Z H3 fun w' H4=>r' y w' H4 Q else Q (.bl false) H3)
theorem WB {op op':CmpOp} {r':R2} (ho:Yv X (compareOp op) r) (ho':Yv X (compareOp op') r') (ha:PE X a ta) (hb:PE X b tb) (hc:PE X c tc)
 (hm:lastMarks [op,op'] [b,c]=false:=by with_unfolding_all rfl):PE X (.Compare a [op,op'] [b,c] pos) (MC r r' ta tb tc):=by
 intro Ya s Z H Q I h
 refine Compare_chain (Yn (ha Ya s Z H _ I h) fun v s1 ⟨x,H1,I1,r1,q1⟩=>chain_link (Yn (hb Ya s1 Z H1 _ I1 q1) fun u s2 ⟨y,H2,I2,r2,q2⟩ =>
  Yn (ho Ya s2 Z H2 x y v u _ I2 r1 r2 q2) fun d s3 ⟨z,H3,I3,r3,q⟩=>?_)) hm
 obtain⟨k,e,q3⟩:=DQ q;subst e;cases r3;refine ZBB ?_;cases k with
 | false=>exact ite_ff ⟨.bl false,H3,I3,rfl,q3⟩
 | true=>exact ite_tt (chain_last (Yn (hc Ya s3 Z H3 _ I3 q3) fun w' s4 ⟨z',H4,I4,r4,q4⟩=>ho' Ya s4 Z H4 y z' u w' Q I4 r2 r4 q4))
theorem Uo {op op':CmpOp} {r':R2} (ho:Yv X (compareOp op) r) (ho':Yv X (compareOp op') r') (ha:PE X a ta) (hb:PE X b tb) (hc:PE X c tc)
 (hm:lastMarks [op,op'] [b,c]=false:=by with_unfolding_all rfl):PT X (.Compare a [op,op'] [b,c] pos) (uB (MC r r' ta tb tc)):=by
 intro Ya s Z H Q I h
 refine isTrue_chain (Yn (ha Ya s Z H _ I h) fun v s1 ⟨x,H1,I1,r1,q1⟩=>test_link (Yn (hb Ya s1 Z H1 _ I1 q1) fun u s2 ⟨y,H2,I2,r2,q2⟩ =>
  Yn (ho Ya s2 Z H2 x y v u _ I2 r1 r2 q2) fun d s3 ⟨z,H3,I3,r3,q⟩=>?_)) hm
 obtain⟨k,e,q3⟩:=DQ q;subst e;cases r3;refine ZBB ?_;cases k with
 | false =>
  have q3:Q false H3:=q3;exact ite_ff ⟨H3,I3,q3⟩
 | true =>
  refine ite_tt (test_last (Yn (hc Ya s3 Z H3 _ I3 q3) fun w' s4 ⟨z',H4,I4,r4,q4⟩=>Yn (ho' Ya s4 Z H4 y z' u w' _ I4 r2 r4 q4) fun d' s5 ⟨z2,H5,I5,r5,q5⟩=>?_));obtain⟨k2,e2,q5⟩:=DQ q5;subst e2;cases r5;exact ZBB ⟨H5,I5,q5⟩
noncomputable def Qa(ta tb:TE):TE:=fun Z H Q=>ta Z H fun x H1=>isB x fun c=>if c=true then tb Z H1 Q else Q (.bl false) H1
noncomputable def vOr(ta tb:TE):TE:=fun Z H Q=>ta Z H fun x H1=>isB x fun c=>if c=true then Q (.bl true) H1 else tb Z H1 Q
noncomputable def NY(ta:TE):TE:=fun Z H Q=>ta Z H fun x H1=>isB x fun c=>Q (.bl (!c)) H1
theorem DA(ha:PE X a ta)(hb:PE X (.BoolOp .And (b::es) pos) tb):PE X (.BoolOp .And (a::b::es) pos) (Qa ta tb):=by
 have ha':PE X a (fun Z H Q=>ta Z H fun x H1=>isB x fun c=>Q (.bl c) H1):=fun Ya s Z H Q I h=>Yn (ha Ya s Z H _ I h) fun v s1 ⟨x,H1,I1,r1,q1⟩=>by
  obtain⟨c,e,q⟩:=DQ q1;subst e;exact⟨.bl c,H1,I1,r1,q⟩
 have h:=UV (pos:=pos) ha' hb
 exact h.imp fun Z H Q q=>by
  show ta Z H fun x H1=>isB x fun c=>∃c',V.bl c=.bl c'/\if c'=true then tb Z H1 Q else Q (.bl false) H1
  have e:(fun(x:V) (H1:Hp)=>isB x fun c=>∃c',V.bl c=.bl c'/\if c'=true then tb Z H1 Q else Q (.bl false) H1)=fun x H1=>isB x fun c=>if c=true then tb Z H1 Q else Q (.bl false) H1:=by
   funext x H1
   cases x <;> first | rfl | (apply propext;constructor;(rintro⟨c',e,h⟩;cases e;exact h);(intro h;exact⟨_,rfl,h⟩))
  rw[e];exact q
theorem IC(ha:PE X a ta)(hb:PE X (.BoolOp .Or (b::es) pos) tb):PE X (.BoolOp .Or (a::b::es) pos) (vOr ta tb):=by
 have ha':PE X a (fun Z H Q=>ta Z H fun x H1=>isB x fun c=>Q (.bl c) H1):=fun Ya s Z H Q I h=>Yn (ha Ya s Z H _ I h) fun v s1 ⟨x,H1,I1,r1,q1⟩=>by
  obtain⟨c,e,q⟩:=DQ q1;subst e;exact⟨.bl c,H1,I1,r1,q⟩
 have h:=Oj (pos:=pos) ha' hb
 exact h.imp fun Z H Q q=>by
  show ta Z H fun x H1=>isB x fun c=>∃c',V.bl c=.bl c'/\if c'=true then Q (.bl true) H1 else tb Z H1 Q
  have e:(fun(x:V) (H1:Hp)=>isB x fun c=>∃c',V.bl c=.bl c'/\if c'=true then Q (.bl true) H1 else tb Z H1 Q)=fun x H1=>isB x fun c=>if c=true then Q (.bl true) H1 else tb Z H1 Q:=by
   funext x H1
   cases x <;> first | rfl | (apply propext;constructor;(rintro⟨c',e,h⟩;cases e;exact h);(intro h;exact⟨_,rfl,h⟩))
  rw[e];exact q
theorem Mg(ha:PE X a ta):PE X (.UnaryOp .Not a pos) (NY ta):=by
 have ha':PE X a (fun Z H Q=>ta Z H fun x H1=>isB x fun c=>Q (.bl c) H1):=fun Ya s Z H Q I h=>Yn (ha Ya s Z H _ I h) fun v s1 ⟨x,H1,I1,r1,q1⟩=>by
  obtain⟨c,e,q⟩:=DQ q1;subst e;exact⟨.bl c,H1,I1,r1,q⟩
 have h:=TK (pos:=pos) ha'
 exact h.imp fun Z H Q q=>by
  show ta Z H fun x H1=>isB x fun c=>∃c',V.bl c=.bl c'/\Q (.bl (!c')) H1
  have e:(fun(x:V) (H1:Hp)=>isB x fun c=>∃c',V.bl c=.bl c'/\Q (.bl (!c')) H1)=fun x H1=>isB x fun c=>Q (.bl (!c)) H1:=by
   funext x H1
   cases x <;> first | rfl | (apply propext;constructor;(rintro⟨c',e,h⟩;cases e;exact h);(intro h;exact⟨_,rfl,h⟩))
  rw[e];exact q
noncomputable def SqA(K:W.Frag)(H:Hp)(p:Addr)(xs:List V):Prop:=Yw K H p xs\/Yo K H p xs
noncomputable def mIx(K:W.Frag):R2:=fun x y H Q=>match x,y with
 | .ref p,.int i=>∃xs v,SqA K H p xs/\atI xs i=some v/\Q v H
 | .str z,.int i=>∃c,z.length<=sizeLine/\atI z.cps.toList i=some c/\Q (.str ⟨#[c]⟩) H
 | _,_=>False
theorem IxR.imp{r':R2}(h:IxR X r)(g:∀x y H Q,r' x y H Q->r x y H Q):IxR X r':=fun a b Ya s Z H x y v u Q I rx ry q z=>h a b Ya s Z H x y v u Q I rx ry (g _ _ _ _ q) z
theorem Tf:IxR X (mIx X.K):=ix_seq.imp fun x y H Q q=>by
 cases x <;> cases y <;> first
  | exact False.elim q
  | (obtain⟨xs,v,h | h,e,q⟩:=q
     ·exact .inl ⟨_,xs,_,v,rfl,rfl,h,e,q⟩
     ·exact .inr (.inl ⟨_,xs,_,v,rfl,rfl,h,e,q⟩))
  | (obtain⟨c,hz,e,q⟩:=q
     exact .inr (.inr ⟨_,_,c,rfl,rfl,hz,e,q⟩))
theorem PD(ha:PE X a ta)(hb:PE X b tb)(hs:IH b:=by intro _ _;rfl):PE X (.Subscript a b pos) (tOp (mIx X.K) ta tb):=XD Tf ha hb hs
noncomputable def Gb(K:W.Frag):List V->Hp->VK->Prop:=fun xs H Q=>match xs with
 | [x]=>∃n,Kj K x H n/\Q (.int n) H
 | _=>False
theorem Vz:CallR X (.builtin "len") (Gb X.K):=call_len.imp fun xs H Q q=>by
 match xs,q with
 | [x],⟨n,h,q⟩=>exact⟨x,n,rfl,h,q⟩
noncomputable def WR:List V->Hp->VK->Prop:=fun xs H Q=>match xs with
 | [.int i,.int j]=>Q (.int (max i j)) H
 | _=>False
theorem Rs(hc:X.calm=true):CallR X (.builtin "max") WR:=(Su hc).imp fun xs H Q q=>by
 match xs,q with
 | [.int i,.int j],q =>
  refine⟨i,j,rfl,?_⟩;have e:(if j > i then j else i)=max i j:=by split <;> lia
  rw[e];exact q
noncomputable def Hw:List V->Hp->VK->Prop:=fun xs H Q=>match xs with
 | [.int i]=>Q (.int i) H
 | [.bl k]=>Q (.int (if k then 1 else 0)) H
 | _=>False
theorem Im:CallR X (.type "int") Hw:=call_int1.imp fun xs H Q q=>by
 match xs,q with
 | [.int i],q=>exact .inl ⟨i,rfl,q⟩
 | [.bl k],q=>exact .inr ⟨k,rfl,q⟩
noncomputable def Gj(K:W.Frag):List V->Hp->VK->Prop:=fun xs H Q=>match xs with
 | [.ref p]=>∃ys,(Yw K H p ys/\∀l,H l=none->Q (.ref l) (upd H l (.tup ys)))\/(Yo K H p ys/\Q (.ref p) H)
 | _=>False
theorem XX:CallR X (.type "tuple") (Gj X.K):=call_tuple_of.imp fun xs H Q q=>by
 match xs,q with
 | [.ref p],⟨ys,q⟩=>exact⟨p,ys,rfl,q⟩
noncomputable def Nw(K:W.Frag):List V->Hp->VK->Prop:=fun xs H Q=>match xs with
 | [.ref p]=>∃ys,SqA K H p ys/\∀l,H l=none->Q (.ref l) (upd H l (.lst ys))
 | _=>False
theorem Qg:CallR X (.type "list") (Nw X.K):=call_list_of.imp fun xs H Q q=>by
 match xs,q with
 | [.ref p],⟨ys,h,q⟩=>exact⟨p,ys,rfl,h,q⟩
noncomputable def LY(K:W.Frag)(T:String)(x:V)(H:Hp)(b:Bool):Prop:=match x with
 | .non=>b=(T == "NoneType")
 | .bl _=>b=(T == "bool" || T == "int")
 | .int _=>b=(T == "int")
 | .str _=>b=(T == "str")
 | .ref a=>(∃xs,(H a=some (.lst xs)\/∃o,H a=some (.frz o (.lst xs)))/\b=(T == "list"))\/(∃xs,H a=some (.tup xs)/\b=(T == "tuple"))\/((∃Yc,H a=some (.dK Yc))/\b=(T == "dict"))\/((∃Yc,H a=some (.dT Yc))/\b=(T == "dict"))
 | _=>False
noncomputable def kinds:List String:=["int","bool","str","tuple","list","dict"]
theorem SW(K:W.Frag):∀T∈kinds,PySem.W.kitOne K (.type "NoneType") (.type T)=some (T == "NoneType")/\PySem.W.kitOne K (.type "bool") (.type T)=some (T == "bool" || T == "int") /\
 PySem.W.kitOne K (.type "int") (.type T)=some (T == "int")/\PySem.W.kitOne K (.type "str") (.type T)=some (T == "str")/\PySem.W.kitOne K (.type "list") (.type T)=some (T == "list") /\
 PySem.W.kitOne K (.type "tuple") (.type T)=some (T == "tuple")/\PySem.W.kitOne K (.type "dict") (.type T)=some (T == "dict"):=by
 intro T h;unfold kinds at h
 rcases ZG.mp h with rfl | h
 ·exact⟨rfl,rfl,rfl,rfl,rfl,rfl,rfl⟩
 rcases ZG.mp h with rfl | h
 ·exact⟨rfl,rfl,rfl,rfl,rfl,rfl,rfl⟩
 rcases ZG.mp h with rfl | h
 ·exact⟨rfl,rfl,rfl,rfl,rfl,rfl,rfl⟩
 rcases ZG.mp h with rfl | h
 ·exact⟨rfl,rfl,rfl,rfl,rfl,rfl,rfl⟩
 rcases ZG.mp h with rfl | h
 ·exact⟨rfl,rfl,rfl,rfl,rfl,rfl,rfl⟩
 rcases ZG.mp h with rfl | h
 ·exact⟨rfl,rfl,rfl,rfl,rfl,rfl,rfl⟩
 ·exact absurd h (by simp)
theorem VJ{T:String}{k:Bool}(hT:T∈kinds)(h:LY K T v H k):∃ty,TyOf K H v ty/\PySem.W.kitOne K ty (.type T)=some k:=by
 obtain⟨k1,k2,k3,k4,k5,k6,k7⟩:=SW K T hT;cases v with
 | non=>cases (show k=_ from h);exact⟨_,.non,k1⟩
 | bl _=>cases (show k=_ from h);exact⟨_,.bl _,k2⟩
 | int _=>cases (show k=_ from h);exact⟨_,.int _,k3⟩
 | str _=>cases (show k=_ from h);exact⟨_,.str _,k4⟩
 | ref q =>
  rcases h with ⟨xs,h | ⟨o,h⟩,e⟩ | ⟨xs,h,e⟩ | ⟨⟨Yc,h⟩,e⟩ | ⟨⟨Yc,h⟩,e⟩
  ·subst e;exact⟨_,.lst h,k5⟩
  ·subst e;exact⟨_,.frz h,k5⟩
  ·subst e;exact⟨_,.tup h,k6⟩
  ·subst e;exact⟨_,.dK h,k7⟩
  ·subst e;exact⟨_,.dT h,k7⟩
 | _=>exact False.elim h
noncomputable def TB(K:W.Frag):List V->Hp->VK->Prop:=fun xs H Q=>match xs with
 | [x,.ty T]=>T∈kinds/\∃k,LY K T x H k/\Q (.bl k) H
 | _=>False
theorem HF:CallR X (.builtin "isinstance") (TB X.K):=by
 intro Ya s Z H xs us Q I r q
 match xs,q with
 | [x,.ty T],q =>
  obtain⟨hT,k,h,q⟩:=q;obtain⟨u,w',rfl,ru,rw'⟩:=Ea r;cases rw';obtain⟨ty,h1,h2⟩:=VJ hT h;exact Sn I ru h1 h2 fun tk=>⟨.bl k,H,I.tok _,rfl,q⟩
end
noncomputable def GD(scope sc:Scope):Bool :=
 decide (scope.kind=.function) && decide (scope.names.map (·.1)).Nodup && scope.names.all fun y=>!(y.2 == .free) || (sc.names.lookup y.1 == some .cell || sc.names.lookup y.1 == some .free)
theorem CompScope.of{scope sc:Scope}(h:GD scope sc=true):CompScope scope sc:=by
 unfold GD at h;rw[ZK,ZK]at h;obtain⟨⟨h1,h2⟩,h3⟩:=h;refine⟨ZP h1,ZP h2,fun y hy hf=>?_⟩
 have:=Zy.mp h3 y hy
 rw[hf]at this
 rcases(ZBw _ _).mp this with z | z
 ·exact absurd z (by decide)
 ·rcases(ZBw _ _).mp z with z | z
  ·exact .inl (by simpa using z)
  ·exact .inr (by simpa using z)
section
variable {X:Cx}{tg iter elt:Expr}{ifs:List Expr}{scope:Scope}{pos:Pos}{N':List Str}{own:Nat}{ix:List Nat}{g:TG}{tc:TT}{te:TE}{wi:TI}
theorem frB{l:List Str}(h:(l.all fun x=>scope.names.lookup x == some .free)=true):∀x∈l,scope.names.lookup x=some .free:=fun x hx=>by
 have:=Zy.mp h x hx
 simpa using this
theorem An (hc:X.calm=true) (hi:PI X tg iter wi) (S:GD scope X.env.scope=true)
 (Ym:N'.length=own+ix.length) (hN:(N'.drop own).map some=ix.map (X.N[·]?)) (hfr:((N'.drop own).all fun x=>scope.names.lookup x == some .free)=true)
 (hg:∀c,PG (X.comp scope N' c) tg g) (hgo:DP own g) (ht:∀c,PTs (X.comp scope N' c) ifs tc) (he:∀c,PE (X.comp scope N' c) elt te)
 (hs:∀x,foldedSetIterable iter X.env x=pure x:=by intro _;rfl):PE X (.ListComp elt [⟨tg,iter,ifs,0⟩] scope pos) (FU wi own ix g tc te) :=
 WG hc hi (.of S) Ym hN (frB hfr) hg hgo ht he hs
theorem C0 {i:Nat} {y:Str} {py spos:Pos} (hc:X.calm=true) (hnd:X.N.Nodup) (hiy:X.N[i]? = some y) (hy:X.env.scope.names.lookup y=some .local) (hi:PI X tg iter wi) (S:GD scope X.env.scope=true)
 (Ym:N'.length=own+ix.length) (hN:(N'.drop own).map some=ix.map (X.N[·]?)) (hfr:((N'.drop own).all fun x=>scope.names.lookup x == some .free)=true)
 (hg:∀c,PG (X.comp scope N' c) tg g) (hgo:DP own g) (ht:∀c,PTs (X.comp scope N' c) ifs tc) (he:∀c,PE (X.comp scope N' c) elt te)
 (hsw:swapsWith (.ListComp elt [⟨tg,iter,ifs,0⟩] scope pos) (some (.Name y py)) spos.line X.env=pure true)
 (hs:∀x,foldedSetIterable iter X.env x=pure x:=by intro _;rfl):PS X (.Assign [.Name y py] (.ListComp elt [⟨tg,iter,ifs,0⟩] scope pos) spos) (Eg (FU wi own ix g tc te) (AZ i)) :=
 We hc hnd hiy hy hi (.of S) Ym hN (frB hfr) hg hgo ht he hsw hs
noncomputable def Jc(K:W.Frag)(tl:TE):TI:=fun Z H R=>tl Z H fun x H1=>match x with
 | .ref a=>((∃xs,Yw K H1 a xs)/\R (Itl K a) H1)\/((∃xs,Yo K H1 a xs)/\R (Itt K a) H1)
 | _=>False
theorem Ua{l:Expr}{tl:TE}(hl:PE X l tl):PI X tg l (Jc X.K tl):=by
 intro Ya s Z H R I h;refine Yn (hl Ya s Z H _ I h) fun v s1 ⟨x,H1,I1,r1,q1⟩=>?_
 cases x with
 | ref a =>
  cases r1
  rcases q1 with ⟨⟨xs,hq⟩,q⟩ | ⟨⟨xs,hq⟩,q⟩
  ·obtain⟨Ye,rv,p,hz⟩:=I1.list hq;refine wpAny_pyIter_list p.isList ?_;refine⟨s1.heap.objs.size,[s1.heap.objs.size],_,_,H1,rfl,I1.kept (t':=s1.toks) fun b o e=>ZH _ e,T2 a _,⟨_,ZS _ rfl,rfl,rfl⟩,fun b hb=>?_,q⟩;have e:b=s1.heap.objs.size:=by simpa using hb
   subst e;exact I1.fpOk (ZD _) (I1.hok.fresh (ZD _))
  ·obtain⟨Ye,rv,p,hz⟩:=I1.tuple hq;refine wpAny_pyIter_tuple (show s1.heap.IsTuple a Ye.toArray from p) ?_;refine⟨s1.heap.objs.size,[s1.heap.objs.size],_,_,H1,rfl,I1.kept (t':=s1.toks) fun b o e=>ZH _ e,Vt a _,⟨_,ZS _ rfl,rfl,rfl⟩,fun b hb=>?_,q⟩;have e:b=s1.heap.objs.size:=by simpa using hb
   subst e;exact I1.fpOk (ZD _) (I1.hok.fresh (ZD _))
 | _=>exact False.elim q1
noncomputable def HK:Er:=fun o i v H Q=>match o,i with
 | .ref p,.int k=>∃xs j,H p=some (.lst xs)/\ixN xs.length k=some j/\Q (upd H p (.lst (xs.set j v)))
 | _,_=>False
theorem EY:IM X HK:=by
 intro Ya s Z H o i v ov iv u Q I ro ri rv h
 cases o <;> cases i <;> first
  | exact False.elim h
  | (obtain⟨xs,j,h1,h2,q⟩:=h
     exact P8 Ya s Z H _ _ v ov iv u Q I ro ri rv ⟨_,xs,_,j,rfl,rfl,h1,h2,q⟩)
theorem Du {Q:VK} (Pv:Nat->List V->Hp->Prop) (h0:Pv 0 [] H) (hl:∀i ys H,i<=xs.length->Pv i ys H->Yw K H a xs) (hz:∀i ys H,i < xs.length->Pv i ys H->ys.length < sizeLine)
 (hs:∀i x ys H,xs[i]? = some x->Pv i ys H->g x σc H fun σ2 H2=>tc σ2 H2 fun b H3=>if b=true then te σ2 H3 fun y H4=>Pv (i+1) (ys++[y]) H4 else Pv (i+1) ys H3)
 (hd:∀ys H,Pv xs.length ys H->∀p,H p=none->Q (.ref p) (upd H p (.lst ys))):DN (Itl K a) g tc te σc Q H:=by
 refine⟨fun i m ys H=>m=xs.length - i/\i<=xs.length/\Pv i ys H,⟨xs.length,by simp,ZU _,h0⟩,?_⟩;rintro i m ys H ⟨rfl,hi,p⟩;have q:=hl i ys H hi p
 by_cases Yq:i < xs.length
 ·refine .inr ⟨⟨xs,xs[i],q,by simp[Yq]⟩,hz i ys H Yq p,Pv (i+1),fun ys' H' p'=>⟨xs.length - (i+1),by lia,rfl,Yq,p'⟩,fun x H' y=>?_⟩;obtain⟨e,y⟩:=y;subst e;exact hs i x ys _ (y xs q) p
 ·have e:i=xs.length:=by lia
  subst e;exact .inl ⟨⟨xs,q,ZD _⟩,hd ys H p⟩
theorem B3 {Q:VK} (Pv:Nat->List V->Hp->Prop) (h0:Pv 0 [] H) (hl:∀i ys H,i<=xs.length->Pv i ys H->Yo K H a xs) (hz:∀i ys H,i < xs.length->Pv i ys H->ys.length < sizeLine)
 (hs:∀i x ys H,xs[i]? = some x->Pv i ys H->g x σc H fun σ2 H2=>tc σ2 H2 fun b H3=>if b=true then te σ2 H3 fun y H4=>Pv (i+1) (ys++[y]) H4 else Pv (i+1) ys H3)
 (hd:∀ys H,Pv xs.length ys H->∀p,H p=none->Q (.ref p) (upd H p (.lst ys))):DN (Itt K a) g tc te σc Q H:=by
 refine⟨fun i m ys H=>m=xs.length - i/\i<=xs.length/\Pv i ys H,⟨xs.length,by simp,ZU _,h0⟩,?_⟩;rintro i m ys H ⟨rfl,hi,p⟩;have q:=hl i ys H hi p
 by_cases Yq:i < xs.length
 ·refine .inr ⟨⟨xs,xs[i],q,by simp[Yq]⟩,hz i ys H Yq p,Pv (i+1),fun ys' H' p'=>⟨xs.length - (i+1),by lia,rfl,Yq,p'⟩,fun x H' y=>?_⟩;obtain⟨e,y⟩:=y;subst e;exact hs i x ys _ (y xs q) p
 ·have e:i=xs.length:=by lia
  subst e;exact .inl ⟨⟨xs,q,ZD _⟩,hd ys H p⟩
theorem BU {lo:Int} {Q:VK} (Pv:Nat->List V->Hp->Prop) (h0:Pv 0 [] H) (hz:∀i ys H,i < n->Pv i ys H->ys.length < sizeLine)
 (hs:∀i ys H,i < n->Pv i ys H->g (.int (lo+i)) σc H fun σ2 H2=>tc σ2 H2 fun b H3=>if b=true then te σ2 H3 fun y H4=>Pv (i+1) (ys++[y]) H4 else Pv (i+1) ys H3)
 (hd:∀ys H,Pv n ys H->∀p,H p=none->Q (.ref p) (upd H p (.lst ys))):DN (Itr lo n) g tc te σc Q H:=by
 refine⟨fun i m ys H=>m=n - i/\i<=n/\Pv i ys H,⟨n,by simp,ZU _,h0⟩,?_⟩;rintro i m ys H ⟨rfl,hi,p⟩
 by_cases Yq:i < n
 ·refine .inr ⟨Yq,hz i ys H Yq p,Pv (i+1),fun ys' H' p'=>⟨n - (i+1),by lia,rfl,Yq,p'⟩,fun x H' y=>?_⟩;obtain⟨e,y⟩:=y;subst e y;exact hs i ys _ Yq p
 ·have e:i=n:=by lia
  subst e;exact .inl ⟨ZD _,hd ys H p⟩
noncomputable def LZ(c:TT)(tb:TS):TS:=fun D Z H=>∃W:Nat->St->Hp->Prop,(∃m,W m Z H)/\∀m Z H,W m Z H ->
 c Z H fun b H1=>if b=true then tb { D with nx:=fun σ' H'=>∃m',m' < m/\W m' σ' H',ct:=fun σ' H'=>∃m',m' < m/\W m' σ' H',bk:=D.nx } Z H1 else D.nx Z H1
theorem FR{c:Expr}{body:List Stmt}{tc:TT}{tb:TS}(hp:PassesOwn (model X.prog X.w) X.A X.env X.xe)(hc:PT X c tc)(hb:PSs X body tb):PS X (.While c body [] pos) (LZ tc tb):=by
 intro Ya s Z H D I h;obtain⟨W,⟨m0,w0⟩,turn⟩:=h;refine wpAny_While (codeAny_whileLoop (fun n s'=>∃σ' H',Yg X Ya σ' H' s'/\W n σ' H') ?_ m0 ⟨Z,H,I,w0⟩);rintro n s1 ⟨σ1,H1,I1,w1⟩;refine wpAny_passesOwn hp (Yn (hc Ya s1 σ1 H1 _ I1 (turn n σ1 H1 w1)) fun b s2 ⟨H2,I2,q2⟩=>?_);cases b with
 | true =>
  rw[if_pos rfl]at q2;rw[if_pos rfl];refine wpAny_passesOwn hp (Yn (hb Ya s2 σ1 H2 _ I2 q2) fun f s3 q3=>?_);cases f with
  | next =>
   obtain⟨σ3,H3,I3,m',hm,w3⟩:=q3;exact⟨m',hm,σ3,H3,I3,w3⟩
  | cont =>
   obtain⟨σ3,H3,I3,m',hm,w3⟩:=q3;exact⟨m',hm,σ3,H3,I3,w3⟩
  | brk=>exact q3
  | ret v=>exact q3
 | false =>
  rw[if_neg ZBE]at q2;rw[if_neg ZBE];exact wpAny_execs_nil ⟨σ1,H2,I2,q2⟩
end
theorem AS{k:Nat}(hr:Room k A):A.units+60 < cLine:=by have:=hr.un;lia
noncomputable def Yl(t:Addr)(H H':Hp):Prop:=∀b o,b≠t->H b=some o->H' b=some o
theorem Yl.refl:Yl t H H:=fun _ _ _ h=>h
theorem Yl.trans{H1 H2:Hp}(a:Yl t H H1)(b:Yl t H1 H2):Yl t H H2:=fun c o n h=>b c o n (a c o n h)
theorem Yl.upd{p:Addr}(h:H p=none):Yl t H (upd H p o):=fun b u _ e=>by rw[AJ (BZ e h)];exact e
theorem Yl.updT:Yl t H (L2.upd H t o):=fun b u n e=>by rw[AJ n];exact e
theorem Yb.upd{p:Addr}(h:H p=none):Yb H (L2.upd H p o):=fun b u e=>by rw[AJ (BZ e h)];exact e
theorem Yb.frm(h:Yb H H'):Yl t H H':=fun b o _ e=>h b o e
theorem OH(h:Yw K H a xs)(k:∀o,H a=some o->H' a=some o):Yw K H' a xs:=by
 rcases h with (h | ⟨o,h⟩) | h
 ·exact .inl (.inl (k _ h))
 ·exact .inl (.inr ⟨o,k _ h⟩)
 ·exact .inr h
theorem Ga(h:Yo K H a xs)(k:∀o,H a=some o->H' a=some o):Yo K H' a xs:=by
 rcases h with (h | ⟨o,h⟩) | h
 ·exact .inl (.inl (k _ h))
 ·exact .inl (.inr ⟨o,k _ h⟩)
 ·exact .inr h
theorem Ah{i:Int}(h:i=(n:Int))(hx:xs[n]? = some v):atI xs i=some v:=by
 subst h;have hn:n < xs.length:=(Zg.mp hx).1;unfold atI ixN;rw[if_pos (ZB3 n),if_pos (by lia)];simpa using hx
theorem Sv{ns:List Int}{i:Int}(h0:0<=i)(h1:i < ns.length):∃z,atI (ns.map V.int) i=some (.int z):=by
 obtain⟨n,rfl⟩:=Int.eq_ofNat_of_zero_le h0;have hn:n < ns.length:=by lia
 exact⟨ns[n],Ah rfl (by rw[ZR,ZE hn];rfl)⟩
theorem Au{j:Int}(h1:0 < j)(h2:j<=2 ^ 1000):okDiv j:=⟨h1,Int.lt_of_le_of_lt h2 (by decide)⟩
theorem DL(h:n<=1000):n<=sizeLine:=Zv (Ad h)
theorem smq(h:Nat.ble n 1000=true):n<=sizeLine:=DL (Nat.le_of_ble_eq_true h)
noncomputable def CD(t:TT):Prop:=∀Z H (Q Q':Bool->Hp->Prop),(∀b H,Q b H->Q' b H)->t Z H Q->t Z H Q'
noncomputable def CI(t:TA):Prop:=∀Z H (Q Q':List V->Hp->Prop),(∀b H,Q b H->Q' b H)->t Z H Q->t Z H Q'
noncomputable def Bd(r:R2):Prop:=∀x y H (Q Q':VK),(∀v H,Q v H->Q' v H)->r x y H Q->r x y H Q'
noncomputable def LK(r:V->Hp->VK->Prop):Prop:=∀x H (Q Q':VK),(∀v H,Q v H->Q' v H)->r x H Q->r x H Q'
noncomputable def Cw(r:List V->Hp->VK->Prop):Prop:=∀xs H (Q Q':VK),(∀v H,Q v H->Q' v H)->r xs H Q->r xs H Q'
noncomputable def FI(r:V->List V->Hp->VK->Prop):Prop:=∀x xs H (Q Q':VK),(∀v H,Q v H->Q' v H)->r x xs H Q->r x xs H Q'
noncomputable def AQ(sp:Sp):Prop:=∀vs H (Q Q':VK) E,(∀v H,Q v H->Q' v H)->sp vs H Q E->sp vs H Q' E
noncomputable def ET(t:TI):Prop:=∀Z H (Q Q':It->Hp->Prop),(∀J H,Q J H->Q' J H)->t Z H Q->t Z H Q'
noncomputable def Ng(t:Er):Prop:=∀o i v H (Q Q':Hp->Prop),(∀H,Q H->Q' H)->t o i v H Q->t o i v H Q'
structure Ends.le(D D':Ends):Prop where
 nx:∀Z H,D.nx Z H->D'.nx Z H
 rt:∀v H,D.rt v H->D'.rt v H
 bk:∀Z H,D.bk Z H->D'.bk Z H
 ct:∀Z H,D.ct Z H->D'.ct Z H
noncomputable def Bk(t:TS):Prop:=∀D D' Z H,Ends.le D D'->t D Z H->t D' Z H
theorem Wu:Af (DV i):=fun Z H Q Q' h q=>by
 unfold DV at *;split at q
 ·exact h _ _ q
 ·exact q.elim
theorem UM:Af (tC v):=fun _ _ _ _ h q=>h _ _ q
theorem SB{tb:TE}(hr:Bd r)(ha:Af ta)(hb:Af tb):Af (tOp r ta tb):=fun Z H Q Q' h q=>ha _ _ _ _ (fun _ _ q=>hb _ _ _ _ (fun _ _ q=>hr _ _ _ _ _ h q) q) q
theorem RU{r:V->Hp->VK->Prop}(hr:LK r)(ha:Af ta):Af (tUn r ta):=fun Z H Q Q' h q=>ha _ _ _ _ (fun _ _ q=>hr _ _ _ _ h q) q
theorem Xg{K}:Bd (Eb K):=fun x y H Q Q' h q=>by
 unfold Eb at *;split at q
 ·exact h _ _ q
 ·exact⟨q.1,h _ _ q.2⟩
 ·rcases q with ⟨l,b,xs,zs,e1,e2,h1,h2,h3,q⟩ | ⟨a,b,xs,ys,e1,e2,h1,h2,h3,h4,q1,q2⟩
  ·exact .inl ⟨l,b,xs,zs,e1,e2,h1,h2,h3,fun p hp=>h _ _ (q p hp)⟩
  ·exact .inr ⟨a,b,xs,ys,e1,e2,h1,h2,h3,h4,fun e=>h _ _ (q1 e),fun e p hp=>h _ _ (q2 e p hp)⟩
 ·exact q.elim
theorem VX:Bd IU:=fun x y H Q Q' h q=>by unfold IU at *;split at q <;> first | exact h _ _ q | exact q.elim
theorem P7:Bd KM:=fun x y H Q Q' h q=>by
 unfold KM at *;split at q
 ·exact⟨q.1,h _ _ q.2⟩
 ·obtain⟨l,k,xs,e1,e2,h1,h2,h3,h4,q⟩:=q;exact⟨l,k,xs,e1,e2,h1,h2,h3,h4,fun p hp=>h _ _ (q p hp)⟩
 ·exact q.elim
theorem QS:Bd Hy:=fun x y H Q Q' h q=>by unfold Hy at *;split at q <;> first | exact⟨q.1,h _ _ q.2⟩ | exact q.elim
theorem SH:Bd IR:=fun x y H Q Q' h q=>by unfold IR at *;split at q <;> first | exact⟨q.1,h _ _ q.2⟩ | exact q.elim
theorem V9:Bd KO:=fun x y H Q Q' h q=>by unfold KO at *;split at q <;> first | exact⟨q.1,h _ _ q.2⟩ | exact q.elim
theorem Pz{f}:Bd (Gp f):=fun x y H Q Q' h q=>by unfold Gp at *;split at q <;> first | exact h _ _ q | exact q.elim
theorem WK:Bd Il:=fun x y H Q Q' h q=>by unfold Il at *;split at q <;> first | exact⟨q.1,h _ _ q.2⟩ | exact q.elim
theorem VD:LK Jq:=fun x H Q Q' h q=>by unfold Jq at *;split at q <;> first | exact h _ _ q | exact q.elim
theorem TD{p}:Bd (D7 p):=fun x y H Q Q' h q=>by unfold D7 at *;split at q <;> first | exact h _ _ q | exact q.elim
theorem VH{n K}:Bd (mEq n K):=fun x y H Q Q' h q=>by
 unfold mEq at *;split at q <;> first | exact h _ _ q | (obtain⟨d,e,h1,h2,h3,q⟩:=q;exact⟨d,e,h1,h2,h3,h _ _ q⟩)
theorem VP{K}:Bd (mIx K):=fun x y H Q Q' h q=>by
 unfold mIx at *;split at q
 ·obtain⟨xs,v,h1,h2,q⟩:=q;exact⟨xs,v,h1,h2,h _ _ q⟩
 ·obtain⟨c,h1,h2,q⟩:=q;exact⟨c,h1,h2,h _ _ q⟩
 ·exact q.elim
theorem Kt{Q Q':Bool->Prop}(h:∀b,Q b->Q' b)(q:isB v Q):isB v Q':=by
 cases v <;> first | exact h _ q | exact q
theorem Ow{t:TE}(h:Af t):CD (uB t):=fun Z H Q Q' k q=>h _ _ _ _ (fun _ _ q=>Kt (fun b q=>k b _ q) q) q
theorem RL(ha:Af ta):Af (NY ta):=fun Z H Q Q' h q=>ha _ _ _ _ (fun _ _ q=>Kt (fun b q=>h _ _ q) q) q
theorem VG{t:TT}{tb:TE}(ht:CD t)(ha:Af ta)(hb:Af tb):Af (tIf t ta tb):=fun Z H Q Q' h q=>ht _ _ _ _ (fun b _ q=>by
 cases b with
 | true=>exact ha _ _ _ _ h q
 | false=>exact hb _ _ _ _ h q) q
theorem UI{t u:TT}(ht:CD t)(hu:CD u):CD (Lw t u):=fun Z H Q Q' h q=>ht _ _ _ _ (fun b _ q=>by
 cases b with
 | true=>exact hu _ _ _ _ h q
 | false=>exact h _ _ q) q
theorem QW{t u:TT}(ht:CD t)(hu:CD u):CD (tOr t u):=fun Z H Q Q' h q=>ht _ _ _ _ (fun b _ q=>by
 cases b with
 | true=>exact h _ _ q
 | false=>exact hu _ _ _ _ h q) q
theorem WQ{t:TT}(ht:CD t):CD (Mc t):=fun Z H Q Q' h q=>ht _ _ _ _ (fun b _ q=>h _ _ q) q
theorem PH:CI Di:=fun _ _ _ _ h q=>h _ _ q
theorem QE{t:TA}(ha:Af ta)(ht:CI t):CI (Dm ta t):=fun Z H Q Q' h q=>ha _ _ _ _ (fun _ _ q=>ht _ _ _ _ (fun _ _ q=>h _ _ q) q) q
theorem Ro{r}{t:TA}(hr:Cw r)(ht:CI t):Af (tCB r t):=fun Z H Q Q' h q=>ht _ _ _ _ (fun _ _ q=>hr _ _ _ _ h q) q
theorem Pc{sp dvs E}{t:TA}(hs:AQ sp)(ht:CI t):Af (Hq sp dvs E t):=fun Z H Q Q' h q=>ht _ _ _ _ (fun _ _ q=>hs _ _ _ _ _ h q) q
theorem UN{t:TA}(ht:CI t):Af (GY t):=fun Z H Q Q' h q=>ht _ _ _ _ (fun _ _ q=>⟨q.1,fun p hp=>h _ _ (q.2 p hp)⟩) q
theorem Tk{t:TA}(ht:CI t):Af (Kk t):=fun Z H Q Q' h q=>ht _ _ _ _ (fun _ _ q=>⟨q.1,fun p hp=>h _ _ (q.2 p hp)⟩) q
theorem RF{wi own ix g tc te}(hi:ET wi):Af (FU wi own ix g tc te):=fun Z H Q Q' h q=>hi _ _ _ _ (fun J H1 q=>by
 obtain⟨W,w0,turn⟩:=q;refine⟨W,w0,fun i m ys H w=>?_⟩
 rcases turn i m ys H w with ⟨a,b⟩ | r
 ·exact .inl ⟨a,fun p hp=>h _ _ (b p hp)⟩
 ·exact .inr r) q
theorem VT{K}:Cw (Gb K):=fun xs H Q Q' h q=>by unfold Gb at *;split at q <;> first | (obtain⟨n,a,q⟩:=q;exact⟨n,a,h _ _ q⟩) | exact q.elim
theorem Vl:Cw Hw:=fun xs H Q Q' h q=>by unfold Hw at *;split at q <;> first | exact h _ _ q | exact q.elim
theorem T5{K}:Cw (Gj K):=fun xs H Q Q' h q=>by
 unfold Gj at *;split at q
 ·obtain⟨ys,⟨a,q⟩ | ⟨a,q⟩⟩:=q
  ·exact⟨ys,.inl ⟨a,fun l hl=>h _ _ (q l hl)⟩⟩
  ·exact⟨ys,.inr ⟨a,h _ _ q⟩⟩
 ·exact q.elim
theorem Wb{K}{tl:TE}(h:Af tl):ET (Jc K tl):=fun Z H Q Q' k q=>h _ _ _ _ (fun v H1 q=>by
 cases v <;> first | exact q.elim | (rcases q with ⟨a,q⟩ | ⟨a,q⟩
                                     ·exact .inl ⟨a,k _ _ q⟩
                                     ·exact .inr ⟨a,k _ _ q⟩)) q
theorem XJ{ta:TA}(h:CI ta):ET (Oc ta):=fun Z H Q Q' k q=>h _ _ _ _ (fun _ _ ⟨j,e,a,b,q⟩=>⟨j,e,a,b,k _ _ q⟩) q
theorem Uf{ta:TA}(h:CI ta):ET (MI ta):=fun Z H Q Q' k q=>h _ _ _ _ (fun _ _ ⟨i,j,e,a,q⟩=>⟨i,j,e,a,k _ _ q⟩) q
theorem S8:Ng HK:=fun o i v H Q Q' h q=>by
 unfold HK at *;split at q
 ·obtain⟨xs,j,a,b,q⟩:=q;exact⟨xs,j,a,b,h _ q⟩
 ·exact q.elim
theorem WI{to ti:TE}{t:Er}(h1:Af to)(h2:Af ti)(h3:Ng t):DY (MJ to ti t):=fun v Z H Q Q' h q=>h1 _ _ _ _ (fun _ _ q=>h2 _ _ _ _ (fun _ _ q=>h3 _ _ _ _ _ _ (fun H q=>h _ _ q) q) q) q
theorem T3:Bk Cc:=fun D D' Z H h q=>h.nx _ _ q
theorem Qp{t u:TS}(h1:Bk t)(h2:Bk u):Bk (J2 t u):=fun D D' Z H h q=>h1 { D with nx:=u D } { D' with nx:=u D' } Z H ⟨fun Z H q=>h2 D D' Z H h q,h.rt,h.bk,h.ct⟩ q
theorem U3{g:TG}(h1:Af te)(h2:DY g):Bk (Eg te g):=fun D D' Z H h q=>h1 _ _ _ _ (fun _ _ q=>h2 _ _ _ _ _ h.nx q) q
theorem PC(h1:Af te):Bk (OD te):=fun D D' Z H h q=>h1 _ _ _ _ h.rt q
theorem RA(h1:Af te):Bk (Jn te):=fun D D' Z H h q=>h1 _ _ _ _ (fun _ _ q=>h.nx _ _ q) q
theorem UX{c:TT}{t u:TS}(hc:CD c)(h1:Bk t)(h2:Bk u):Bk (Nj c t u):=fun D D' Z H h q=>hc _ _ _ _ (fun b _ q=>by
 cases b with
 | true=>exact h1 _ _ _ _ h q
 | false=>exact h2 _ _ _ _ h q) q
theorem UG{c:TT}{tb:TS}(hc:CD c)(h1:Bk tb):Bk (LZ c tb):=fun D D' Z H h q=>by
 obtain⟨W,w0,turn⟩:=q;refine⟨W,w0,fun m Z H w=>hc _ _ _ _ (fun b H1 q=>?_) (turn m Z H w)⟩;cases b with
 | true=>exact h1 { D with nx:=fun σ' H'=>∃m',m' < m/\W m' σ' H',ct:=fun σ' H'=>∃m',m' < m/\W m' σ' H',bk:=D.nx } _ _ _ ⟨fun _ _ q=>q,h.rt,h.nx,fun _ _ q=>q⟩ q
 | false=>exact h.nx _ _ q
theorem Oz{wi:TI}{g:TG}{tb:TS}(hi:ET wi)(hg:DY g)(h1:Bk tb):Bk (LN wi g tb):=fun D D' Z H h q=>hi _ _ _ _ (fun J H1 q=>by
 obtain⟨W,w0,turn⟩:=q;refine⟨W,w0,fun i m Z H w=>?_⟩
 rcases turn i m Z H w with ⟨a,b⟩ | ⟨a,N,hN,step⟩
 ·exact .inl ⟨a,h.nx _ _ b⟩
 ·exact .inr ⟨a,N,hN,fun x H' y=>hg _ _ _ _ _ (fun σ2 H2 q=>h1 { D with nx:=N,ct:=N,bk:=D.nx } _ _ _ ⟨fun _ _ q=>q,h.rt,h.nx,fun _ _ q=>q⟩ q) (step x H' y)⟩) q
theorem AY{t u:TS}{D:Ends}(J:St->Hp->Prop)(h1:t { D with nx:=J } Z H)(h2:∀σ' H',J σ' H'->u D σ' H')(hm:Bk t):J2 t u D Z H :=
 hm { D with nx:=J } { D with nx:=u D } Z H ⟨h2,fun _ _ q=>q,fun _ _ q=>q,fun _ _ q=>q⟩ h1
section
variable {X:Cx}{K:W.Frag}{a b c e l tg:Expr}{es:List Expr}{ta tb tc te tl:TE}{pos p:Pos}
theorem BB(hK:X.K=K:=by rfl):Yv X (binaryOp .Add) (Eb K):=hK ▸ UJ
theorem kEq(hu:X.A.units+60 < cLine)(hK:X.K=K:=by rfl):Yv X (compareOp .Eq) (mEq false K):=hK ▸ Sj hu
theorem kNe(hu:X.A.units+60 < cLine)(hK:X.K=K:=by rfl):Yv X (compareOp .NotEq) (mEq true K):=hK ▸ Ol hu
theorem Yp(ha:PE X a ta)(hb:PE X b tb)(hs:IH b:=by intro _ _;rfl)(hK:X.K=K:=by rfl):PE X (.Subscript a b pos) (tOp (mIx K) ta tb):=hK ▸ PD ha hb hs
theorem Ay(hK:X.K=K:=by rfl):CallR X (.builtin "len") (Gb K):=hK ▸ Vz
theorem BD(hK:X.K=K:=by rfl):CallR X (.type "tuple") (Gj K):=hK ▸ XX
theorem NC(hK:X.K=K:=by rfl):CallR X (.type "list") (Nw K):=hK ▸ Qg
theorem BE(hl:PE X l tl)(hK:X.K=K:=by rfl):PI X tg l (Jc K tl):=hK ▸ Ua hl
theorem Es {k:Nat} {t:TGs} (hc:X.calm=true) (h:PGs X es t)
 (hn:(assignEach es X.env).length=n:=by rfl) (hst:(assignEach es X.env).findIdx? (·.1)=none:=by rfl) (hK:X.K=K:=by rfl):PG X (.Tuple es k pos) (HQ K n t):=hK ▸ Lz hc h hn hst
end
theorem Yg.turnedNew {Ya:List (Addr × Obj)} {h':Heap} {ch:List Addr} {T:Addr} (I:Yg X Ya Z H s) (hf:∀b∈ch,BJ X Ya H b) (hT:s.heap.objs.size<=T)
 (k:∀b u,b∉ch->s.heap.get? b=some u->h'.get? b=some u) (new:ObjOk X.prog X.w (upd H T o) h' T o) (th:∀b∈ch,∃u,h'.get? b=some u):Yg X Ya Z (upd H T o) { s with heap:=h' }:=by
 have hTn:H T=none:=I.hok.fresh hT;have nT:∀b u,H b=some u->b≠T:=fun b u e z=>by rw[z,hTn]at e;cases e
 have nc:∀b u,H b=some u->b∉ch:=fun b u e z=>by rw[(hf b z).1]at e;cases e
 refine I.step (g':=s.gens) (d':=s.drawn) (t':=s.toks) (ch:=ch) (fun b hb=>?_) (fun b u _ _ hc e _=>k b u hc e) (fun b u _ _ hc e _=>⟨u.slots,k b u hc e⟩) (fun b u hc e n=>?_) (fun b u hc e=>⟨u,k b u hc e⟩)
  (fun b xs e=>by rw[AJ (nT _ _ e)];exact e) (fun b u v e=>by rw[AJ (nT _ _ e)];exact e) (fun b ps e=>⟨#[],by rw[AJ (nT _ _ e),e];simp⟩) (fun m hm=>?_) (fun b u e=>?_) I.bare
 ·obtain⟨q1,q2,q3,q4,q5,q6⟩:=hf b hb;exact⟨q4,q2,q5,q6⟩
 ·rw[AJ (ZT (ZY (ZF e) hT))];exact n
 ·obtain⟨u,es,ep,ho,r⟩:=hm;exact⟨u,es,ep,k _ u (fun z=>(hf _ z).2.1 rfl) ho,r⟩
 ·by_cases hb:b=T
  ·subst hb;rw[AD]at e;cases e;exact new
  ·rw[AJ hb]at e;refine(I.hok b u e).stay (fun c v hc q=>k c v ?_ q) (fun c q=>by rw[AJ (nT _ _ q)];exact q) fun c xs q=>by rw[AJ (nT _ _ q)];exact q
   rcases hc with z | z
   ·rw[z];exact nc b u e
   ·exact nc c _ z
section
variable {X:Cx}{K:W.Frag}{o e:Expr}{es:List Expr}{to:TE}{t:TA}{apos cpos:Pos}
noncomputable def GV:V->List V->Hp->VK->Prop:=fun x vs H Q=>match x,vs with
 | .ref l,[y]=>∃xs,H l=some (.lst xs)/\xs.length < sizeLine/\Q .non (upd H l (.lst (xs++[y])))
 | _,_=>False
theorem Wy:MtR X "list.append" GV:=by
 intro Ya s Z H x vs v us Q I rx rv q
 match x,vs,q with
 | .ref l,[y],⟨xs,h1,h2,q⟩=>exact R9 Ya s Z H _ _ v us Q I rx rv ⟨l,xs,y,rfl,rfl,h1,h2,q⟩
theorem JQ (ho:PE X o to) (ha:PA X [e] t) (hbase:attributeBase o "append" X.env (eval o X.env)=eval o X.env:=by rfl)
 (hfew:((backTo cpos (starEach [e] X.env)).all (fun x=>!x.1) && (backToKw cpos (keywordEach [] X.env)).all (fun x=>x.1.isSome)
   && decide ([e].length+([]:List Keyword).length+(if ([]:List Keyword).isEmpty then 0 else 1) < 30))=true:=by rfl)
 (hline:(apos.endLine == cpos.line)=true:=by rfl) (hs:starEach [e] X.env=(false,eval e X.env)::starEach [] X.env:=by rfl) (hplain:(backTo cpos (starEach [] X.env)).any (·.1)=false:=by rfl) (hK:X.K=K:=by rfl) :
 PE X (.Call (.Attribute o "append" apos) [e] [] cpos) (tBM K "list" GV to t):=hK ▸ GE PySem.F.plainAttrs_list PySem.F.slot_list_append PySem.F.type_list_append Wy ho ha hbase hfew hline hs hplain
theorem RG{T:String}{r:V->List V->Hp->VK->Prop}(h1:Af to)(h2:CI t)(h3:FI r):Af (tBM K T r to t):=fun Z H Q Q' h q=>h1 _ _ _ _ (fun _ _ q=>⟨q.1,h2 _ _ _ _ (fun _ _ q=>h3 _ _ _ _ _ h q) q.2⟩) q
theorem Pj:FI GV:=fun x xs H Q Q' h q=>by
 unfold GV at *;split at q
 ·obtain⟨ys,a,b,q⟩:=q;exact⟨ys,a,b,h _ _ q⟩
 ·exact q.elim
noncomputable def OG(K:W.Frag):List V->Hp->VK->Prop:=fun xs H Q=>match xs with
 | [.ref l]=>∃ns:List Int,Yw K H l (ns.map V.int)/\Q (.int ns.sum) H
 | _=>False
theorem WC(hc:X.calm=true):CallR X (.builtin "sum") (OG X.K):=by
 intro Ya s Z H xs us Q I r q
 match xs,q with
 | [.ref l],q =>
 obtain⟨ns,hl,q⟩:=q;obtain⟨u,rfl,ru⟩:=BN r;cases ru;obtain⟨Ye,rv,pl,hz⟩:=I.list hl;have hi:IntsAre Ye ns:=by simpa using Dg rv
 obtain⟨zs,hzs⟩:=(hi.allInts).items;have e:(numsOf Ye).sum=ns.sum:=by rw[hi.numsOf]
 have pl':=pl.isList;rw[hzs]at pl';refine sum_intListG (I.ok.hd hc) pl' fun h' tk t' hk=>?_
 refine⟨.int _,H,I.kept hk,⟨t',rfl⟩,?_⟩
 have e2:preSum (numAt zs) zs.size=ns.sum:=by
  rw[preSum_eq,ZBQ (by simp),<- e];rw[show Ye=Ye.toArray.toList by simp,hzs,nums_intItems]
 rw[e2];exact q
theorem SJ(hc:X.calm=true)(hK:X.K=K:=by rfl):CallR X (.builtin "sum") (OG K):=hK ▸ WC hc
noncomputable def Gf(K:W.Frag):List V->Hp->VK->Prop:=fun xs H Q=>match xs with
 | [.ref l]=>∃bs:List Bool,Yw K H l (bs.map V.bl)/\Q (.bl (bs.all id)) H
 | _=>False
theorem W7(hc:X.calm=true):CallR X (.builtin "all") (Gf X.K):=by
 intro Ya s Z H xs us Q I r q
 match xs,q with
 | [.ref l],q =>
 obtain⟨bs,hl,q⟩:=q;obtain⟨u,rfl,ru⟩:=BN r;cases ru;obtain⟨Ye,rv,pl,hz⟩:=I.list hl;have Ym:=rv.length;rw[ZB]at Ym;obtain⟨o1,n1,g1,_⟩:=id pl;have Yq:=ZF g1;refine call_all_walk (wpAny_pyIter_list pl.isList ?_);have Yu:l≠s.heap.objs.size:=ZT Yq;refine⟨_,_,_,_,_,_,fun i=>bs.getD i false,rfl,Walks.list (A:=X.A.in1) (I.ok.hd hc) s.heap.objs.size l Yu Ye.toArray,?_,?_,fun h' tk hk=>?_⟩
 ·exact⟨⟨_,ZS _ rfl,rfl,rfl⟩,(show s.heap.IsList l Ye.toArray from pl.isList).at fun o e=>ZH _ e⟩
 ·intro i v s' Q' E' hv hq;have hv:Ye.toArray[i]? = some v:=hv
  have hi:i < Ye.length:=by
   have:=(Array.getElem?_eq_some_iff.mp hv).1
   simpa using this
  have hb:(bs.map V.bl)[i]? = some (.bl bs[i]):=by rw[ZR,ZE (by lia)];rfl
  obtain⟨w',q1,q2⟩:=rv.get hb;have e:v=w':=by simp at hv;rw[q1]at hv;exact(ZV hv).symm
  subst e;cases q2;refine ZBB ?_;have e2:bs.getD i false=bs[i]:=by rw[ZQ,ZE (by lia)];rfl
  have hq:Q' (bs.getD i false) s':=hq;rw[e2]at hq;exact hq
 ·refine⟨.bl _,H,I.kept (fun b o e=>hk b o ?_ (ZH _ e)),rfl,?_⟩
  ·simp only[ZO];exact ZT (ZF e)
  ·have e:(List.range Ye.toArray.size).all (fun i=>bs.getD i false)=bs.all id:=by
    rw[ZI,<- Ym];rw[Z2,Zy,Zy];constructor
    ·intro h b hb;obtain⟨i,hi,rfl⟩:=List.mem_iff_getElem.mp hb
     have:=h i (Ze.mpr hi)
     rw[ZQ,ZE hi]at this;exact this
    ·intro h i hi;have hi':=Ze.mp hi;rw[ZQ,ZE hi'];exact h _ (Zd hi')
   rw[e];exact q
theorem JG(hc:X.calm=true)(hK:X.K=K:=by rfl):CallR X (.builtin "all") (Gf K):=hK ▸ W7 hc
theorem Rv:Cw (Gf K):=fun xs H Q Q' h q=>by
 unfold Gf at *;split at q
 ·obtain⟨ns,a,q⟩:=q;exact⟨ns,a,h _ _ q⟩
 ·exact q.elim
end
section
variable {prog:Program}{w:World}{A:Around}{E:Value->Shared->Prop}{s:Shared}
theorem N1{it:Addr}{items:Array Value}(Yu:t≠it):∀(n i:Nat) (s:Shared) (Q:List Value->Shared->Prop),s.heap.IsListIter it t i->s.heap.IsList t items->i+n<=items.size ->
 (∀h',h'.IsListIter it t (i+n)->Heap.SameBut it s.heap h'->Q ((items.toList.drop i).take n) { s with heap:=h' })->wpAny (model prog w) A (draw (.ref it) n) Q E s
 | 0,i,s,Q,hit,_,_,hQ=>by
  show wpAny _ _ (pure []) Q E s;exact ZC (by simpa using hQ s.heap hit (Heap.SameBut.refl ..))
 | n+1,i,s,Q,hit,ht,hle,hQ=>by
  have Yq:i < items.size:=by lia
  show wpAny _ _ (pyNext (.ref it) >>= _) Q E s;refine ZA (wpAny_pyNext_list_item hit ht (x:=items[i]) (by simp[Yq]) fun h₁ hit₁ hs₁=>?_);refine ZA (Zk (N1 Yu n (i+1) _ _ hit₁ (ht.extBut hs₁.extBut Yu) (by lia) fun h₂ hit₂ hs₂=>ZC ?_));have hd:items.toList.drop i=items[i]::items.toList.drop (i+1):=by simp[List.drop_eq_getElem_cons,Yq]
  have:=hQ h₂ (by rw[show i+(n+1)=i+1+n by lia];exact hit₂) (hs₁.trans hs₂)
  rw[hd,List.take_succ_cons]at this;exact this
theorem QP {items:Array Value} {Q:List Value->Shared->Prop} (hh:A.handled=none) (ht:s.heap.IsList t items)
 (hQ:∀h',Heap.ExtBut s.heap.objs.size s.heap h'->Q items.toList { s with heap:=h' }):wpAny (model prog w) A (unpackItems (.ref t) items.size none) Q E s:=by
 have Yq:t≠s.heap.objs.size:=by obtain⟨o,ho,_⟩:=ht;exact ZT (ZF ho)
 unfold unpackItems;refine ZA ?_
 ·unfold notIterableAtAll;refine ZA (wpAny_specialOf ht.typeIs slot_list_iter.lookup ?_);refine ZC ?_;simp only[ZB5,if_false];refine ZA (Zk (wpAny_pyIter_list ht ?_));refine ZA (Zk (N1 Yq items.size 0 _ _ ⟨_,ZS _ rfl,rfl,rfl⟩ (ht.at fun o e=>ZH _ e) (by lia) fun h₁ hit₁ hs₁=>?_))
  have hall:List.take items.size (List.drop 0 items.toList)=items.toList:=by
   rw[List.drop_zero];exact ZBQ (by simp)
  rw[hall];rw[if_neg (by simp)];have ht₁:h₁.IsList t items:=(Heap.IsList.at ht fun o e=>ZH _ e).extBut hs₁.extBut Yq;refine ZA (Zk (wpAny_pyNext_list_end hh hit₁ ht₁ (by simp) fun h₂ he₂=>?_));simp only[Option.isSome_none,ZB5,if_false];refine ZC (hQ h₂ fun b o hb e=>he₂ b o hb (hs₁.extBut b o hb (ZH _ e)))
theorem Os {env:Env} {elts:List Expr} {x1} {items:Array Value} {Q:Unit->Shared->Prop} (hh:A.handled=none) (ht:s.heap.IsList t items)
 (hn:(assignEach elts env).length=items.size) (hstar:(assignEach elts env).findIdx? (·.1)=none)
 (h:∀h',Heap.ExtBut s.heap.objs.size s.heap h'->wpAny (model prog w) A (assignInOrder ((assignEach elts env).map (·.2)) items.toList) Q E { s with heap:=h' }) :
 wpAny (model prog w) A (assign (.Tuple elts x1 pos) env (.ref t)) Q E s:=by
 rw[assign_Tuple];refine ZA (ZBe ?_);unfold unpack;rw[hn,hstar];exact ZA (Zk (QP hh ht h))
end
section
variable {X:Cx}{K:W.Frag}{pos p2:Pos}{e:Expr}{lo hi:Option Expr}{te:TE}{tl th:TO}
noncomputable def ND(K:W.Frag)(n:Nat)(t:TGs):TG:=fun v Z H Q=>match v with
 | .ref a=>∃xs,SqA K H a xs/\xs.length=n/\t xs Z H Q
 | _=>False
theorem Ml {k:Nat} {t:TGs} (hc:X.calm=true) (h:PGs X es t)
 (hn:(assignEach es X.env).length=n:=by rfl) (hst:(assignEach es X.env).findIdx? (·.1)=none:=by rfl) (hK:X.K=K:=by rfl):PG X (.Tuple es k pos) (ND K n t):=by
 subst hK;intro Ya s Z H v u Q I r hw;cases v with
 | ref a =>
  obtain⟨xs,hq | hq,hl,hw⟩:=hw
  ·cases r;obtain⟨Ye,rv,ht,hz⟩:=I.list hq;refine Os (I.ok.hd hc) ht.isList (by simp[hn,<- hl,rv.length]) hst fun h' hx=>?_
   have I1:Yg X Ya Z H { s with heap:=h' }:=I.kept (t':=s.toks) fun b o e=>hx b o (ZT (ZF e)) e
   exact h Ya _ Z H xs _ Q I1 (by simpa using rv) hw
  ·exact Lz hc h hn hst Ya s Z H _ u Q I r ⟨a,xs,rfl,hq,hl,hw⟩
 | _=>exact False.elim hw
theorem Pd{t:TGs}(h:E2 t):DY (ND K n t):=fun v _ _ _ _ k q=>by
 cases v <;> first | exact False.elim q | (obtain⟨xs,s,l,q⟩:=q;exact⟨xs,s,l,h _ _ _ _ _ k q⟩)
noncomputable def MB(K:W.Frag):V->Option Int->Option Int->Hp->VK->Prop:=fun x lo hi H Q=>match x with
 | .ref a=>∃xs,(Yw K H a xs/\∀p,H p=none->Q (.ref p) (upd H p (.lst (BS xs lo hi)))) \/
  (Yo K H a xs/\¬(HT.sIx xs.length 0 lo=0/\HT.sIx xs.length xs.length hi=xs.length)/\∀p,H p=none->Q (.ref p) (upd H p (.tup (BS xs lo hi))))
 | _=>False
theorem VB:SlR X (MB X.K):=by
 intro Ya s Z H x v vl vu lo hi sl Q I rx hs pl pu q;cases x with
 | ref a =>
  obtain⟨xs,⟨h,q⟩ | ⟨h,h2,q⟩⟩:=q
  ·exact Ww Ya s Z H _ v vl vu lo hi sl Q I rx hs pl pu ⟨a,xs,rfl,h,q⟩
  ·exact L8 Ya s Z H _ v vl vu lo hi sl Q I rx hs pl pu ⟨a,xs,rfl,h,h2,q⟩
 | _=>exact False.elim q
theorem T7(he:PE X e te)(hl:PO X lo tl)(hu:PO X hi th)(hK:X.K=K:=by rfl):PE X (.Subscript e (.Slice lo hi none p2) pos) (tSl (MB K) te tl th):=hK ▸ K4 VB he hl hu
noncomputable def Fh(t:TO):Prop:=∀Z H (Q Q':Option Int->Hp->Prop),(∀b H,Q b H->Q' b H)->t Z H Q->t Z H Q'
theorem QA:Fh Lg:=fun _ _ _ _ h q=>h _ _ q
theorem Rb(h:Af te):Fh (NM te):=fun Z H Q Q' k q=>h _ _ _ _ (fun _ _ ⟨i,e,q⟩=>⟨i,e,k _ _ q⟩) q
end
theorem Lp(h:Yo K H a xs)(s:Yb H H'):Yo K H' a xs:=Ga h fun o e=>s a o e
mutual
theorem Yh.same(s:Yb H H'):∀(d:Dv) (v:V),Yh K H d v->Yh K H' d v
 | .non,v,h=>by unfold Yh at *;exact h
 | .bl b,v,h=>by unfold Yh at *;exact h
 | .int i,v,h=>by unfold Yh at *;exact h
 | .str x,v,h=>by unfold Yh at *;exact h
 | .tup ds,v,h=>by
  unfold Yh at *;obtain⟨a,xs,e,h1,h2⟩:=h;exact⟨a,xs,e,Lp h1 s,Yd.same s ds xs h2⟩
 | .lst ds,v,h=>by
  unfold Yh at *;obtain⟨a,xs,e,h1,h2⟩:=h;exact⟨a,xs,e,OH h1 fun o e=>s a o e,Yd.same s ds xs h2⟩
theorem Yd.same(s:Yb H H'):∀(ds:List Dv) (xs:List V),Yd K H ds xs->Yd K H' ds xs
 | [],xs,h=>by unfold Yd at *;exact h
 | d::ds,xs,h=>by
  unfold Yd at *;obtain⟨x,r,e,h1,h2⟩:=h;exact⟨x,r,e,Yh.same s d x h1,Yd.same s ds r h2⟩
end
mutual
noncomputable def BF:Dv->Bool
 | .tup ds=>Aj ds
 | .lst _=>false
 | _=>true
noncomputable def Aj:List Dv->Bool
 | []=>true
 | d::ds=>BF d && Aj ds
end
mutual
theorem Yh.frm(s:Yl t H H')(ht:∃zs,H t=some (.lst zs)):∀(d:Dv) (v:V),BF d=true->Yh K H d v->Yh K H' d v
 | .non,v,_,h=>by unfold Yh at *;exact h
 | .bl b,v,_,h=>by unfold Yh at *;exact h
 | .int i,v,_,h=>by unfold Yh at *;exact h
 | .str x,v,_,h=>by unfold Yh at *;exact h
 | .tup ds,v,hd,h=>by
  unfold BF at hd;unfold Yh at *;obtain⟨a,xs,e,h1,h2⟩:=h;refine⟨a,xs,e,?_,Yd.frm s ht ds xs hd h2⟩;obtain⟨zs,hz⟩:=ht
  rcases h1 with (h1 | ⟨o,h1⟩) | h1
  ·exact .inl (.inl (s a _ (fun q=>by rw[q,hz]at h1;cases h1) h1))
  ·exact .inl (.inr ⟨o,s a _ (fun q=>by rw[q,hz]at h1;cases h1) h1⟩)
  ·exact .inr h1
 | .lst ds,v,hd,h=>by unfold BF at hd;cases hd
theorem Yd.frm(s:Yl t H H')(ht:∃zs,H t=some (.lst zs)):∀(ds:List Dv) (xs:List V),Aj ds=true->Yd K H ds xs->Yd K H' ds xs
 | [],xs,_,h=>by unfold Yd at *;exact h
 | d::ds,xs,hd,h=>by
  unfold Aj at hd;rw[ZK]at hd;unfold Yd at *;obtain⟨x,r,e,h1,h2⟩:=h;exact⟨x,r,e,Yh.frm s ht d x hd.1 h1,Yd.frm s ht ds r hd.2 h2⟩
end
theorem BO{p:Addr}(h:H p=some (.tup xs))(r:Yd K H ds xs):Yh K H (.tup ds) (.ref p):=by unfold Yh;exact⟨p,xs,rfl,.of h,r⟩
theorem Ag:Yd K H [] []:=by unfold Yd;rfl
theorem AU{d:Dv}{x:V}(h:Yh K H d x)(r:Yd K H ds xs):Yd K H (d::ds) (x::xs):=by unfold Yd;exact⟨x,xs,rfl,h,r⟩
theorem KF{x:Int}:Yh K H (.int x) (.int x):=by unfold Yh;rfl
theorem RQ{x:Bool}:Yh K H (.bl x) (.bl x):=by unfold Yh;rfl
theorem Yd.append:∀{ds es:List Dv} {xs ys:List V},Yd K H ds xs->Yd K H es ys->Yd K H (ds++es) (xs++ys)
 | [],es,xs,ys,h,h'=>by unfold Yd at h;subst h;exact h'
 | d::ds,es,xs,ys,h,h'=>by
  unfold Yd at h;obtain⟨x,r,rfl,h1,h2⟩:=h;exact AU h1 (Yd.append h2 h')
section
variable {κ:Type}[DecidableEq κ]
noncomputable def valV(Yc:List (κ × V))(k:κ):Option V:=(Yc.find? fun kv=>decide (kv.1=k)).map (·.2)
noncomputable def At(Yc:List (κ × V))(k:κ)(v:V):List (κ × V) :=
 if (Yc.any fun kv=>decide (kv.1=k))=true then Yc.map (fun kv=>if kv.1=k then (kv.1,v) else kv) else Yc++[(k,v)]
theorem CB{p:κ × V}{r:List (κ × V)}{k:κ}(e:p.1=k):valV (p::r) k=some p.2:=by simp[valV,ZBn,e]
theorem B9{p:κ × V}{r:List (κ × V)}{k:κ}(e:¬p.1=k):valV (p::r) k=valV r k:=by simp[valV,ZBn,e]
theorem GO(k:κ):∀Yc:List (κ × V),(Yc.any fun kv=>decide (kv.1=k))=(valV Yc k).isSome
 | []=>rfl
 | p::r=>by
  rw[ZBx]
  by_cases e:p.1=k
  ·simp only[CB e,ZL e,Bool.true_or,Option.isSome_some]
  ·rw[B9 e,Zz e,Bool.false_or];exact GO k r
theorem MO(k j:κ)(y:V):∀Yc:List (κ × V),valV (Yc.map fun kv=>if kv.1=k then (kv.1,y) else kv) j=(valV Yc j).map fun x=>if j=k then y else x
 | []=>rfl
 | p::r=>by
  have ih:=MO k j y r;rw[Zi]
  by_cases h:p.1=k
  ·rw[if_pos h]
   by_cases e:p.1=j
   ·rw[CB (p:=(p.1,y)) e,CB e,ZBi,if_pos (e.symm.trans h)]
   ·rw[B9 (p:=(p.1,y)) e,B9 e,ih]
  ·rw[if_neg h]
   by_cases e:p.1=j
   ·rw[CB (p:=p) e,CB e,ZBi,if_neg (fun z=>h (e.trans z))]
   ·rw[B9 (p:=p) e,B9 e,ih]
theorem Km(k j:κ)(y:V):∀Yc:List (κ × V),valV Yc k=none->valV (Yc++[(k,y)]) j=if j=k then some y else valV Yc j
 | [],_=>by
  by_cases e:k=j
  ·rw[if_pos e.symm];exact CB (p:=(k,y)) e
  ·rw[if_neg (fun z=>e z.symm)];exact B9 (p:=(k,y)) e
 | p::r,hn=>by
  rw[List.cons_append];have hk:¬p.1=k:=fun z=>by rw[CB z]at hn;cases hn
  rw[B9 hk]at hn;have ih:=Km k j y r hn
  by_cases e:p.1=j
  ·rw[CB e,CB e,if_neg (fun z=>hk (e.trans z))]
  ·rw[B9 e,B9 e,ih]
theorem Nt(Yc:List (κ × V))(k j:κ)(y:V):valV (At Yc k y) j=if j=k then some y else valV Yc j:=by
 unfold At
 by_cases a:(Yc.any fun kv=>decide (kv.1=k))=true
 ·rw[if_pos a,MO];rw[GO]at a
  by_cases e:j=k
  ·obtain⟨x,hx⟩:=Option.isSome_iff_exists.mp a;rw[if_pos e,e,hx,ZBi,if_pos rfl]
  ·rw[if_neg e];cases valV Yc j with
   | none=>rfl
   | some x=>rw[ZBi,if_neg e]
 ·rw[if_neg a];refine Km k j y Yc ?_;rw[GO]at a;cases q:valV Yc k with
  | none=>rfl
  | some x=>rw[q]at a;exact(a rfl).elim
theorem LJ(Yc:List (κ × V))(k:κ)(v:V):(At Yc k v).length<=Yc.length+1:=by
 unfold At;split
 ·rw[ZB];lia
 ·rw[ZN,Zn,List.length_nil];lia
theorem RelO.isSome_eq{o:Option V}{u:Option Value}(r:RelO o u):o.isSome=u.isSome:=by
 cases o with
 | none=>cases u with
  | none=>rfl
  | some _=>exact(show False from r).elim
 | some _=>cases u with
  | none=>exact(show False from r).elim
  | some _=>rfl
theorem RelO.getD{o:Option V}{u:Option Value}{d:V}{d':Value}(r:RelO o u)(rd:Yi d d'):Yi (o.getD d) (u.getD d'):=by
 cases o with
 | none=>cases u with
  | none=>exact rd
  | some _=>exact(show False from r).elim
 | some _=>cases u with
  | none=>exact(show False from r).elim
  | some _=>exact r
theorem KV.val{Yc:List (κ × V)}{vs:List (κ × Value)}(r:KV Yc vs)(k:κ):RelO (valV Yc k) (valueAt vs k):=by
 unfold KV at r
 induction r with
 | nil=>exact True.intro
 | @cons p q ps qs h t ih =>
  obtain⟨h1,h2⟩:=h
  by_cases e:p.1=k
  ·have e':q.1=k:=h1.symm.trans e;have b:valueAt (q::qs) k=some q.2:=by simp[valueAt,ZBn,e']
   rw[CB e,b];exact h2
  ·have e':¬q.1=k:=fun z=>e (h1.trans z)
   have b:valueAt (q::qs) k=valueAt qs k:=by simp[valueAt,ZBn,e']
   rw[B9 e,b];exact ih
theorem KV.any{Yc:List (κ × V)}{vs:List (κ × Value)}(r:KV Yc vs)(k:κ):(Yc.any fun kv=>decide (kv.1=k))=vs.any fun kv=>decide (kv.1=k):=by
 unfold KV at r
 induction r with
 | nil=>rfl
 | cons h t ih=>rw[ZBx,ZBx,ih,h.1]
theorem KV.repl{Yc:List (κ × V)}{vs:List (κ × Value)}(r:KV Yc vs)(k:κ)(ry:Yi y u) :
 KV (Yc.map fun kv=>if kv.1=k then (kv.1,y) else kv) (vs.map fun kv=>if kv.1=k then (kv.1,u) else kv):=by
 unfold KV at r ⊢
 induction r with
 | nil=>exact .nil
 | @cons p q ps qs h t ih =>
  rw[Zi,Zi];refine .cons ?_ ih;obtain⟨h1,h2⟩:=h
  by_cases e:p.1=k
  ·rw[if_pos e,if_pos (h1.symm.trans e)];exact⟨h1,ry⟩
  ·rw[if_neg e,if_neg (fun z=>e (h1.trans z))];exact⟨h1,h2⟩
theorem KV.put{Yc:List (κ × V)}{vs:List (κ × Value)}(r:KV Yc vs)(k:κ)(ry:Yi y u):KV (At Yc k y) (stored vs k u):=by
 unfold At stored;rw[r.any k]
 by_cases e:(vs.any fun kv=>decide (kv.1=k))=true
 ·rw[if_pos e,if_pos e];exact r.repl k ry
 ·rw[if_neg e,if_neg e];exact Paired.snoc r ⟨rfl,ry⟩
theorem KV.length{Yc:List (κ × V)}{vs:List (κ × Value)}(r:KV Yc vs):Yc.length=vs.length:=Paired.length r
end
theorem FQ{k:Key}(r:Yi (kV k) u):(BR P w).is k u=true:=by
 cases k with
 | inl i=>obtain⟨t,e⟩:=(show ∃t,u=Value.int i t from r);subst e;exact PQ P w i t
 | inr x=>obtain⟨t,e⟩:=(show ∃t,u=Value.str x t from r);subst e;exact Ur P w x t
theorem NO:∀{ks:List Key} {us:List Value},Yk (ks.map kV) us->ItemsAre (BR P w) ks us
 | [],_,r=>by rw[List.map_nil]at r;cases r;exact .nil
 | k::ks,_,r=>by
  rw[Zi]at r;cases r with
  | cons h t=>exact .cons (FQ h) (NO t)
noncomputable abbrev KT(H:Hp):List (List Key × V)->List (List Key × Addr × Value)->Prop:=Paired fun p q=>p.1=q.1/\H q.2.1=some (.tup (p.1.map kV))/\Yi p.2 q.2.2
theorem KT.val{xs:List (List Key × Addr × Value)}(r:KT H Yc xs)(k:List Key):RelO (valV Yc k) ((atKey xs k).map (·.2)):=by
 induction r with
 | nil=>exact True.intro
 | @cons p q ps qs h t ih =>
  obtain⟨h1,_,h2⟩:=h
  by_cases e:p.1=k
  ·have e':q.1=k:=h1.symm.trans e;have b:atKey (q::qs) k=some q.2:=by simp[atKey,ZBn,e']
   rw[CB e,b];exact h2
  ·have e':¬q.1=k:=fun z=>e (h1.trans z)
   have b:atKey (q::qs) k=atKey qs k:=by simp[atKey,ZBn,e']
   rw[B9 e,b];exact ih
theorem KT.repl{xs:List (List Key × Addr × Value)}(r:KT H Yc xs)(k:List Key)(ry:Yi y u) :
 KT H (Yc.map fun kv=>if kv.1=k then (kv.1,y) else kv) (xs.map (putAt k u)):=by
 induction r with
 | nil=>exact .nil
 | @cons p q ps qs h t ih =>
  rw[Zi,Zi];refine .cons ?_ ih;obtain⟨h1,h2,h3⟩:=h;unfold putAt
  by_cases e:p.1=k
  ·rw[if_pos e,if_pos (h1.symm.trans e)];exact⟨h1,h2,ry⟩
  ·rw[if_neg e,if_neg (fun z=>e (h1.trans z))];exact⟨h1,h2,h3⟩
theorem KT.put{xs:List (List Key × Addr × Value)}(r:KT H Yc xs)(k:List Key){b:Addr}(hb:H b=some (.tup (k.map kV)))(ry:Yi y u) :
 KT H (At Yc k y) (storedH xs k b u):=by
 have e:(Yc.any fun kv=>decide (kv.1=k))=(atKey xs k).isSome:=by
  rw[GO,(r.val k).isSome_eq,Option.isSome_map]
 unfold At storedH;rw[e]
 by_cases q:(atKey xs k).isSome=true
 ·rw[if_pos q,if_pos q];exact r.repl k ry
 ·rw[if_neg q,if_neg q];exact Paired.snoc r ⟨rfl,hb,ry⟩
theorem KT.keeps{xs:List (List Key × Addr × Value)}(r:KT H Yc xs)(ht:∀b ys,H b=some (.tup ys)->H' b=some (.tup ys)):KT H' Yc xs :=
 Paired.mapP r fun _ _ z=>⟨z.1,ht _ _ z.2.1,z.2.2⟩
section
variable {P:Program}{w:World}{H:Hp}{h:Heap}{a:Addr}
theorem M7{u:HO}(ok:HOk P w H h)(e:Rd H a u):ObjOk P w H h a u:=e.ok ok
theorem D6{Yc:List (Key × V)}(ok:HOk P w H h)(e:Rd H a (.dK Yc)):Yc.length<=sizeLine/\(a == sysModules)=false/\∃vs,KV Yc vs/\h.DictOf (BR P w) a vs :=
 show ObjOk P w H h a (.dK Yc) from M7 ok e
theorem Lx{Yc:List (Key × V)}(ok:HOk P w H h)(e:H a=some (.dK Yc)):Yc.length<=sizeLine/\(a == sysModules)=false/\∃vs,KV Yc vs/\h.DictOf (BR P w) a vs:=D6 ok (.inl e)
theorem E6{ks:List Key}(ok:HOk P w H h)(e:H a=some (.tup (ks.map kV))):(tupleKind (BR P w)).is h ks a:=by
 obtain⟨_,Ye,r,o,h1,h2,⟨n,h3⟩,_⟩:=(show ObjOk P w H h a (.tup (ks.map kV)) from ok a _ e);exact⟨o,Ye.toArray,n,h1,h2,h3,by simpa using NO r⟩
theorem Ef(ok:HOk P w H h)(e:Rd H a (.dT Yc)):Yc.length<=sizeLine/\(a == sysModules)=false /\
 ∃xs,KT H Yc xs/\h.DictOfH (tupleKind (BR P w)) a xs:=by
 obtain⟨z,y,xs,r,o,es,ep,h1,h2,h3,h4,h5⟩:=(show ObjOk P w H h a (.dT Yc) from M7 ok e);refine⟨z,y,xs,r,o,es,ep,h1,h2,h3,h4,fun x hx=>?_,h5⟩
 have all:∀{l:List (List Key × V)} {m:List (List Key × Addr × Value)},KT H l m->∀x∈m,(tupleKind (BR P w)).is h x.1 x.2.1:=by
  intro l m q
  induction q with
  | nil=>intro x hx;exact nomatch hx
  | @cons p q ps qs hq t ih =>
   intro x hx
   rcases ZG.mp hx with e | hx
   ·subst e;exact E6 ok (by rw[<- hq.1];exact hq.2.1)
   ·exact ih x hx
 exact all r x hx
theorem Xd(ok:HOk P w H h)(e:H a=some (.dT Yc)):Yc.length<=sizeLine/\(a == sysModules)=false /\
 ∃xs,KT H Yc xs/\h.DictOfH (tupleKind (BR P w)) a xs:=Ef ok (.inl e)
end
noncomputable def DGet(H:Hp)(a:Addr)(y:V)(r:Option V):Prop :=
 (∃Yc k,Rd H a (.dK Yc)/\y=kV k/\r=valV Yc k)\/∃Yc k b,Rd H a (.dT Yc)/\y=.ref b/\H b=some (.tup (k.map kV))/\r=valV Yc k
noncomputable def DPut(H:Hp)(a:Addr)(y v:V)(H':Hp):Prop :=
 (∃Yc k,H a=some (.dK Yc)/\y=kV k/\Yc.length < sizeLine/\H'=upd H a (.dK (At Yc k v))) \/
 ∃Yc k b,H a=some (.dT Yc)/\y=.ref b/\H b=some (.tup (k.map kV))/\Yc.length < sizeLine/\H'=upd H a (.dT (At Yc k v))
theorem DGet.k{Yc:List (Key × V)}{k:Key}(e:H a=some (.dK Yc)):DGet H a (kV k) (valV Yc k):=.inl ⟨Yc,k,.inl e,rfl,rfl⟩
theorem DPut.k{Yc:List (Key × V)}{k:Key}(e:H a=some (.dK Yc))(hl:Yc.length < sizeLine):DPut H a (kV k) v (upd H a (.dK (At Yc k v))):=.inl ⟨Yc,k,e,rfl,hl,rfl⟩
section
variable {X:Cx}{Ya:List (Addr × Obj)}{Z:St}{H:Hp}{s:Shared}{a:Addr}{y v:V}{u r:Value}{o:Option V}{A:Around}{E:Value->Shared->Prop}
theorem Yg.big(I:Yg X Ya Z H s):sysModules < s.heap.objs.size:=by
 have h:mainGlobals < s.heap.objs.size:=(I.mod.glob.keeps I.bk).lt;exact ZBP (by decide) h
theorem Se(hu:A.units+1 < cLine)(I:Yg X Ya Z H s)(g:DGet H a y (some v))(ry:Yi y u)(h:∀w' s',Yg X Ya Z H s'->Yi v w'->Q w' s') :
 wpAny (model X.prog X.w) A (getItem (.ref a) u) Q E s:=by
 rcases g with ⟨Yc,k,e,ey,l⟩ | ⟨Yc,k,b,e,ey,eb,l⟩
 ·subst ey;obtain⟨z,hd,vs,rel,dd⟩:=D6 I.hok e;obtain⟨w',hw,rw'⟩:=RelO.some_of (v:=v) (o:=valueAt vs k) (by rw[l];exact rel.val k);exact wpAny_getItem_of (FQ ry) dd.mapOf hw (h w' _ (I.tok _) rw')
 ·subst ey;cases (show u=Value.ref b from ry);obtain⟨z,hd,xs,rel,dd⟩:=Ef I.hok e;obtain⟨w',hw,rw'⟩:=RelO.some_of (v:=v) (o:=(atKey xs k).map (·.2)) (by rw[l];exact rel.val k);obtain⟨p,hp,hp2⟩:=Option.map_eq_some_iff.mp hw;refine wpAny_getItem_heap (tupleKind_room_in1 hu) (E6 I.hok eb) dd hp ?_;rw[hp2];exact h w' _ (I.tok _) rw'
theorem Sb(hu:A.units+1 < cLine)(I:Yg X Ya Z H s)(g:DGet H a y o)(ry:Yi y u)(h:∀s',Yg X Ya Z H s'->Q (.bool (!o.isSome)) s') :
 wpAny (model X.prog X.w) A (compareOp .NotIn u (.ref a)) Q E s:=by
 rcases g with ⟨Yc,k,e,ey,l⟩ | ⟨Yc,k,b,e,ey,eb,l⟩
 ·subst ey;obtain⟨z,hd,vs,rel,dd⟩:=D6 I.hok e;refine wpAny_notIn_of (FQ ry) hd dd.mapOf ?_;rw[<- (rel.val k).isSome_eq,<- l];exact h _ (I.tok _)
 ·subst ey;cases (show u=Value.ref b from ry);obtain⟨z,hd,xs,rel,dd⟩:=Ef I.hok e;refine wpAny_notIn_heap (tupleKind_room_in1 hu) (E6 I.hok eb) hd dd ?_;have q:=(rel.val k).isSome_eq;rw[Option.isSome_map]at q;rw[<- q,<- l];exact h _ (I.tok _)
theorem OS{h':Heap}{t':Nat}{ob:HO}(I:Yg X Ya Z H s)(mu:Mut (H a))(hs:Heap.SameBut a s.heap h')(he:∃q,h'.get? a=some q)(new:ObjOk X.prog X.w (upd H a ob) h' a ob) :
 Yg X Ya Z (upd H a ob) { s with heap:=h',toks:=t' } :=
 I.write (x:=a) (e:=a) mu (.inl rfl) (fun b q hb z=>(hs.2 b hb).trans z) he new
theorem Sl{h':Heap}{Yc:List (Key × V)}{vs:List (Key × Value)}(z:Yc.length<=sizeLine)(hd:(a == sysModules)=false)(rel:KV Yc vs)(dd:h'.DictOf (BR P w) a vs) :
 ObjOk P w H' h' a (.dK Yc):=⟨z,hd,vs,rel,dd⟩
theorem PN{Q:Unit->Shared->Prop}(hu:A.units+1 < cLine)(I:Yg X Ya Z H s)(g:DPut H a y v H')(ry:Yi y u)(rv:Yi v r)(h:∀s',Yg X Ya Z H' s'->Q () s') :
 wpAny (model X.prog X.w) A (setItem (.ref a) u r) Q E s:=by
 rcases g with ⟨Yc,k,e,ey,l,eH⟩ | ⟨Yc,k,b,e,ey,eb,l,eH⟩
 ·subst ey eH;obtain⟨z,hd,vs,rel,dd⟩:=Lx I.hok e;have hz:vs.length<=sizeLine:=by rw[<- rel.length];exact z
  have hl:(At Yc k v).length<=sizeLine:=by have:=LJ Yc k v;lia
  refine wpAny_setItem_pairs (hsz:=hz) (FQ ry) dd fun h' dd' hs=>h _ ?_
  have he:∃q,h'.get? a=some q:=let ⟨q,_,_,hq,_⟩:=dd';⟨q,hq⟩;exact OS I (by rw[e];exact True.intro) hs he (Sl hl hd (rel.put k rv) dd')
 ·subst ey eH;cases (show u=Value.ref b from ry);obtain⟨z,hd,xs,rel,dd⟩:=Xd I.hok e;have hz:xs.length<=sizeLine:=by rw[<- Paired.length rel];exact z
  have hl:(At Yc k v).length<=sizeLine:=by have:=LJ Yc k v;lia
  refine wpAny_setItem_heap (hsz:=hz) (tupleKind_room_in1 hu) (E6 I.hok eb) dd fun h' dd' hs=>h _ ?_
  obtain⟨q,es,ep,hq,h2,h3,h4,_,h5⟩:=dd';refine OS I (by rw[e];exact True.intro) hs ⟨q,hq⟩ ⟨hl,hd,_,(rel.put k eb rv).keeps fun c ys ec=>?_,q,es,ep,hq,h2,h3,h4,h5⟩;rw[AJ (Bm ec e (fun z=>nomatch z))];exact ec
end
noncomputable def M4(i:Expr):Prop:=∀ov iv,subscripted i false ov iv=operate [ov,iv] (getItem ov iv)
theorem V1 {prog:Program} {E:Value->Shared->Prop} {env:Env} {value slice:Expr} {T id:String} 
 (hl:typeLookup (.type T) "__getitem__" = pure (some (.builtin id))) (hs:M4 slice)
 (h:wpAny (model prog w) A (eval value env) (fun o s₁=>wpAny (model prog w) A (eval slice env) (fun i s₂=>s₂.TypeIs o T/\wpAny (model prog w) A (getItem o i) Q E s₂) E s₁) E s) :
 wpAny (model prog w) A (eval (.Subscript value slice pos) env) Q E s:=by
 refine Subscript_ (Zp h (fun o s₁ h₁=>Zp h₁ (fun i s₂ h₂=>?_) fun _ _ x=>x) fun _ _ x=>x);obtain⟨hT,h₂⟩:=h₂;unfold subscriptTail;refine ZA ?_;rw[getitemInPython_of_ne hT.not_modules];refine ZA (wpAny_specialOf hT hl ?_)
 have fin:wpAny (model prog w) A (subscripted slice false o i) (fun r s₃=>wpAny (model prog w) A (letTemporaryGo value o r >>= fun _=>pure r) Q E s₃) E s₂:=by
  rw[hs o i];exact wpAny_operating (Zp h₂ (fun r s₃ h₃=>ZA (wpAny_letTemporaryGo (ZC h₃))) fun _ _ x=>x)
 first
  | exact ZC (ZA fin)
  | exact ZA (ZC (ZA fin))
  | exact ZA fin
theorem Uu{Ya:List (Addr × Obj)}{o:Option V}(I:Yg X Ya Z H s)(g:DGet H a y o):s.TypeIs (.ref a) "dict":=by
 rcases g with ⟨Yc,k,e,_,_⟩ | ⟨Yc,k,b,e,_,_,_⟩
 ·obtain⟨_,_,vs,_,dd⟩:=D6 I.hok e;exact dd.typeIs
 ·obtain⟨_,_,xs,_,dd⟩:=Ef I.hok e;exact dd.typeIs
noncomputable def SE(td ty:TE):TE:=fun Z H Q=>td Z H fun x H1=>ty Z H1 fun y H2=>∃a v,x=.ref a/\DGet H2 a y (some v)/\Q v H2
noncomputable def Kv(td ty tv:TE):TS:=fun D Z H=>tv Z H fun v H1=>td Z H1 fun x H2=>ty Z H2 fun y H3=>∃a H4,x=.ref a/\DPut H3 a y v H4/\D.nx Z H4
section
variable {X:Cx}{o i e value:Expr}{pos pos' tpos:Pos}{td ty tv:TE}
theorem Lu(hu:X.A.units+1 < cLine)(ho:PE X o td)(hi:PE X i ty)(hs:M4 i):PE X (.Subscript o i pos) (SE td ty):=by
 intro Ya s Z H Q I h;refine V1 PySem.F.slot_dict_getitem.lookup hs (Yn (ho Ya s Z H _ I h) fun u s1 ⟨x,H1,I1,rx,q1⟩=>Yn (hi Ya s1 Z H1 _ I1 q1) fun iv s2 ⟨y,H2,I2,ry,a,v,ex,g,q2⟩=>?_);subst ex;obtain rfl:u=Value.ref a:=rx;exact⟨Uu I2 g,Se hu I2 g ry fun w' s3 I3 rw'=>⟨v,H2,I3,rw',q2⟩⟩
theorem Fu(hu:X.A.units+1 < cLine)(ho:PE X o td)(hi:PE X i ty)(hv:PE X value tv)(hs:swapsWith value (some (.Subscript o i pos')) pos.line X.env=pure false) :
 PS X (.Assign [.Subscript o i pos'] value pos) (Kv td ty tv):=by
 intro Ya s Z H D I h;refine wpAny_Assign_Subscript (Yn (hv Ya s Z H _ I h) fun r s1 ⟨v,H1,I1,rv,q1⟩=>Yn (ho Ya s1 Z H1 _ I1 q1) fun u s2 ⟨x,H2,I2,rx,q2⟩=>Yn (hi Ya s2 Z H2 _ I2 q2) fun iv s3 ⟨y,H3,I3,ry,a,H4,ex,g,q3⟩=>?_) hs;subst ex;obtain rfl:u=Value.ref a:=rx;exact PN hu I3 g ry rv fun s4 I4=>⟨Z,H4,I4,q3⟩
end
theorem UL(h:Heap)(hb:sysModules < h.objs.size):ObjOk P w H (h.push { cls:=.type "dict",data:=.dict #[] }) h.objs.size (.dK []) :=
 ⟨ZU _,beq_eq_false_iff_ne.mpr (Ne.symm (ZT hb)),[],.nil,Heap.DictOf.new h⟩
noncomputable def Qe:TE:=fun _ H Q=>∀p,H p=none->Q (.ref p) (upd H p (.dK []))
section
variable {X:Cx}{pos:Pos}
theorem GJ:PE X (.Dict [] [] pos) Qe:=fun Ya s Z H Q I h =>
 wpAny_Dict_empty ⟨.ref s.heap.objs.size,_,I.laid (a:=s.heap.objs.size) (o:=.dK []) (t':=s.toks) (fun _ _ q=>ZH _ q) (ZD _) (UL s.heap I.big),rfl,h _ (I.hok.fresh (ZD _))⟩
end
structure M2(X:Cx)(o:Expr)(m:Str)(apos:Pos)(e f:Expr)(cpos:Pos):Prop where
 base:attributeBase o m X.env (eval o X.env)=eval o X.env
 few:((backTo cpos (starEach [e,f] X.env)).all (fun x=>!x.1) && (backToKw cpos (keywordEach [] X.env)).all (fun x=>x.1.isSome)
  && decide (([e,f]:List Expr).length+([]:List Keyword).length+(if ([]:List Keyword).isEmpty then 0 else 1) < 30))=true
 line:(apos.endLine == cpos.line)=true
 trees:backTo cpos (starEach [e,f] X.env)=[(false,eval e X.env),(false,eval f X.env)]
noncomputable def IsD(H:Hp)(a:Addr):Prop:=(∃Yc,Rd H a (.dK Yc))\/∃Yc,Rd H a (.dT Yc)
theorem Tv{Ya:List (Addr × Obj)}(I:Yg X Ya Z H s)(d:IsD H a) :
 s.TypeIs (.ref a) "dict" /\ (∀b,Value.ref a=.ref b->∃ob,s.heap.get? b=some ob/\ob.dict=none)/\(a == sysModules)=false:=by
 rcases d with ⟨Yc,e⟩ | ⟨Yc,e⟩
 ·obtain⟨_,hd,vs,_,dd⟩:=D6 I.hok e;refine⟨dd.typeIs,fun b q=>?_,hd⟩;cases q;obtain⟨ob,_,_,h1,h2,_⟩:=dd;exact⟨ob,h1,h2.2.1⟩
 ·obtain⟨_,hd,xs,_,dd⟩:=Ef I.hok e;refine⟨dd.typeIs,fun b q=>?_,hd⟩;cases q;obtain⟨ob,_,_,h1,h2,_⟩:=dd;exact⟨ob,h1,h2.2.1⟩
section
variable {X:Cx}{Ya:List (Addr × Obj)}{Z:St}{H:Hp}{s:Shared}{a:Addr}{y d:V}{u r:Value}{o:Option V}{A:Around}{E:Value->Shared->Prop}
theorem Vo(hu:A.units+1 < cLine)(I:Yg X Ya Z H s)(g:DGet H a y o)(ry:Yi y u)(rd:Yi d r)(h:∀w' s',Yg X Ya Z H s'->Yi (o.getD d) w'->Q w' s') :
 wpAny (model X.prog X.w) A (call (.builtin "dict.get") [.ref a,u,r]) Q E s:=by
 rcases g with ⟨Yc,k,e,ey,l⟩ | ⟨Yc,k,b,e,ey,eb,l⟩
 ·subst ey;obtain⟨z,hd,vs,rel,dd⟩:=D6 I.hok e;refine call_meetsIn PySem.F.slot_dict_get dd.typeIs PySem.F.entry_dict_get (PySem.F.args_dict_get_3 _ _ _) (meets_dict_get_default (BR X.prog X.w) a (FQ ry) hd r) ⟨_,dd.mapOf,h _ _ (I.tok _) ?_⟩;rw[l];exact(rel.val k).getD rd
 ·subst ey;cases (show u=Value.ref b from ry);obtain⟨z,hd,xs,rel,dd⟩:=Ef I.hok e;refine call_meetsIn PySem.F.slot_dict_get dd.typeIs PySem.F.entry_dict_get (PySem.F.args_dict_get_3 _ _ _) (meetsH_dict_get_default (tupleKind (BR X.prog X.w)) a b hd r) ⟨tupleKind_room_in1 hu,k,xs,E6 I.hok eb,dd,h _ _ (I.tok _) ?_⟩;rw[l];exact(rel.val k).getD rd
end
noncomputable def Wp(td ty tx:TE):TE:=fun Z H Q=>td Z H fun x H1=>∃a,x=.ref a/\IsD H1 a/\ty Z H1 fun y H2=>tx Z H2 fun z H3=>∃o,DGet H3 a y o/\Q (o.getD z) H3
section
variable {X:Cx}{o e f:Expr}{apos cpos:Pos}{td ty tx:TE}
theorem K0(hu:X.A.units+1 < cLine)(ho:PE X o td)(he:PE X e ty)(hf:PE X f tx)(m:M2 X o "get" apos e f cpos):PE X (.Call (.Attribute o "get" apos) [e,f] [] cpos) (Wp td ty tx):=by
 intro Ya s Z H Q I h;refine wpAny_Call_method m.base m.few m.line PySem.F.plainAttrs_dict PySem.F.slot_dict_get PySem.F.type_dict_get (Yn (ho Ya s Z H _ I h) fun u s1 ⟨x,H1,I1,rx,a,ex,d,q1⟩=>?_);subst ex;obtain rfl:u=Value.ref a:=rx;obtain⟨t1,t2,_⟩:=Tv I1 d;refine⟨t1,t2,?_⟩;rw[m.trees]
 refine Calls.callWith_builtin rfl (Calls.evalArgs_plain (Calls.spliced_cons (Yn (he Ya s1 Z H1 _ I1 q1) fun iv s2 ⟨y,H2,I2,ry,q2⟩ =>
  Calls.spliced_cons (Yn (hf Ya s2 Z H2 _ I2 q2) fun fv s3 ⟨z,H3,I3,rz,ov,g,q3⟩=>Calls.spliced_nil ?_))))
 exact Vo hu I3 g ry rz fun w' s4 I4 rw'=>⟨_,H3,I4,rw',q3⟩
end
section
variable {X:Cx}{K:W.Frag}{o:Expr}{to:TE}{apos cpos:Pos}
noncomputable def OB:V->List V->Hp->VK->Prop:=fun x vs H Q=>match x,vs with
 | .int i,[]=>Q (.int (Builtin.Int.intBits i:Nat)) H
 | _,_=>False
theorem Rn:MtR X "int.bit_length" OB:=by
 intro Ya s Z H x vs v us Q I rx rv q
 match x,vs,q with
 | .int i,[],q =>
  cases rv;obtain⟨t,rfl⟩:=(show ∃t,v=Value.int i t from rx);exact PyProof.Rows.call_int_bit_length ⟨.int (Builtin.Int.intBits i:Nat),H,I.tok _,⟨_,rfl⟩,q⟩
theorem P0(ho:PE X o to)(hbase:attributeBase o "bit_length" X.env (eval o X.env)=eval o X.env:=by rfl)(hline:(apos.endLine == cpos.line)=true:=by rfl)(hK:X.K=K:=by rfl) :
 PE X (.Call (.Attribute o "bit_length" apos) [] [] cpos) (K5 K "int" OB to):=hK ▸ Uv PySem.F.plainAttrs_int PySem.F.slot_int_bit_length PySem.F.type_int_bit_length Rn ho hbase hline
end
noncomputable def Ite(K:W.Frag)(l:Addr):It :=
 ⟨fun i H=>∃xs x,Yw K H l xs/\xs[i]? = some x,
  fun i H v H'=>∃p x,H p=none/\v=.ref p/\H'=upd H p (.tup [.int i,x])/\∀xs,Yw K H l xs->xs[i]? = some x,
  fun i H=>∃xs,Yw K H l xs/\xs.length<=i⟩
theorem WS{kt:Nat}{tpos:Pos}{e it:Addr}(Yu:e≠it) :
 Turn P w K (.Tuple es kt tpos) (Ite K l) [e,it] e (fun i h=>(∃old,IsEnum h e it (i:Int) old)/\h.IsListIter it l i) where
 mem:=by simp
 obj:=fun i h st b hb=>by
  obtain⟨⟨old,hz⟩,⟨o1,e1,c1,d1⟩⟩:=st;simp only[ZG,Z9,or_false]at hb
  rcases hb with rfl | rfl
  ·exact⟨_,hz,fun v q=>nomatch q⟩
  ·exact⟨o1,e1,fun v q=>by rw[d1]at q;cases q⟩
 keep:=fun i h h' ⟨⟨old,hz⟩,h1⟩ k=>⟨⟨old,k e (by simp) _ hz⟩,h1.at fun o q=>k it (by simp) o q⟩
 item:=by
  intro X hP hw hK hc i Ya s Z H E I hf st hg;subst hP hw hK;obtain⟨xs,x,hq1,hx⟩:=hg;obtain⟨⟨old,hz⟩,h1⟩:=st;obtain⟨Ye,rv,p,_⟩:=I.list hq1;obtain⟨u,hu,ru⟩:=rv.get hx;refine wpAny_pyNext_enum_item hz h1 p.isList (x:=u) (by simpa using hu) Yu fun h' z1 z2 z3 z4 z5=>?_
  refine⟨_,rfl,?_⟩
  have z5':∀b v,b∉[e,it]->s.heap.get? b=some v->h'.get? b=some v:=fun b v hb q=>by
   simp only[ZG,Z9,or_false,not_or]at hb;exact z5 b v hb.1 hb.2 q
  have I1:Yg X Ya Z (upd H s.heap.objs.size (.tup [.int i,x])) { s with heap:=h' }:=by
   refine I.turnedNew (ch:=[e,it]) (fun b hb=>hf b hb) (ZD _) z5' ?_ fun b hb=>?_
   ·exact⟨smq rfl,[.int i s.toks,u],.cons ⟨_,rfl⟩ (.cons ru .nil),⟨_,z3,rfl,⟨_,rfl⟩,rfl⟩⟩
   ·simp only[ZG,Z9,or_false]at hb
    rcases hb with rfl | rfl
    ·exact⟨_,z1⟩
    ·obtain⟨o,q,_⟩:=z2;exact⟨o,q⟩
  refine wpAny_letOwnedTupleGo_enum (s:={ s with heap:=h',toks:=s.toks+1 }) z1 fun h'' z8 z9=>?_
  have hfz:=hf e (by simp)
  have neT:∀b,b∈[e,it]->b≠s.heap.objs.size:=fun b hb q=>by
   have st':∃o,s.heap.get? b=some o:=by
    simp only[ZG,Z9,or_false]at hb
    rcases hb with rfl | rfl
    ·exact⟨_,hz⟩
    ·obtain⟨o,q,_⟩:=h1;exact⟨o,q⟩
   obtain⟨o,ho⟩:=st'
   have:=ZF ho
   rw[q]at this;exact ZW _ this
  have hTH:∀b∈[e,it],upd H s.heap.objs.size (.tup [.int i,x]) b=none:=fun b hb=>by rw[AJ (neT b hb)];exact(hf b hb).1
  have I2:Yg X Ya Z (upd H s.heap.objs.size (.tup [.int i,x])) { s with heap:=h'',toks:=s.toks+1 } :=
   I1.turned (t':=s.toks+1) (fun b o hb q=>(z9.2 b hb).trans q) (hTH e (by simp)) hfz.2.1 hfz.2.2.2.1 hfz.2.2.2.2.1 hfz.2.2.2.2.2
  have up:∀b o,b≠e->h'.get? b=some o->h''.get? b=some o:=fun b o hb q=>(z9.2 b hb).trans q
  exact⟨.ref s.heap.objs.size,_,I2,rfl,⟨_,x,I.hok.fresh (ZD _),rfl,rfl,fun xs' h=>by rw[I.list_inj h hq1];exact hx⟩,⟨⟨_,z8⟩,z2.at fun o q=>up _ o (Ne.symm Yu) q⟩,hTH⟩
 done:=by
  intro X hP hw hK hc i Ya s Z H E I hf st hg;subst hP hw hK;obtain⟨xs,hq1,hl⟩:=hg;obtain⟨⟨old,hz⟩,h1⟩:=st;obtain⟨Ye,rv,p,_⟩:=I.list hq1;have e1:=rv.length;refine wpAny_pyNext_enum_end (I.ok.hd hc) hz h1 p.isList (by simp;lia) fun h' z7=>⟨rfl,?_⟩
  obtain⟨f0,f1,f2,f3,f4,f5⟩:=hf it (by simp);exact I.turned (t':=s.toks) (fun b o hb q=>z7 b o hb q) f0 f1 f3 f4 f5
 self:=fun _ _ _ _ _ st h=>wpAny_pyIter_enum st.1.choose_spec h
section
variable {X:Cx}
noncomputable def Pa(K:W.Frag)(ta:TA):TI:=fun Z H R=>ta Z H fun vs H1=>match vs with
 | [.ref a]=>(∃xs,Yw K H1 a xs)/\R (Ite K a) H1
 | _=>False
theorem VO {a:Expr} {ta:TA} {p:Pos} {kt:Nat} {tpos:Pos} (hg:Gl X "enumerate") (hm:X.mg "enumerate" = none) (ha:PA X [a] ta)
 (hs:starEach [a] X.env=[(false,eval a X.env)]:=by rfl) (hK:X.K=K:=by rfl) :
 PI X (.Tuple es kt tpos) (.Call (.Name "enumerate" p) [a] [] pos) (Pa K ta):=by
 subst hK;intro Ya s Z H R I h;refine Call_ (Cu I hg hm (by rfl:bootBuiltins "enumerate" = some (.type "enumerate")) (PyProof.Rows.callWith_type1 (Yn (ha pos Ya s Z H _ I h) fun us s1 ⟨vs,H1,I1,r1,q1⟩=>?_) (by rw[hs];rfl) (by rfl)))
 match vs,q1,r1 with
 | [.ref l1],⟨⟨xs,hx⟩,q⟩,r1 =>
 cases r1 with
 | cons r rr =>
 cases rr;cases r;obtain⟨Ye,rv,p1,_⟩:=I1.list hx;refine call_enumerate_list p1.isList fun h' z1 z2 z3 z4=>?_
 refine wpAny_pyIter_enum (s:={ s1 with heap:=h' }) z1 ?_;have I2:Yg X Ya Z H1 { s1 with heap:=h' }:=I1.kept (t':=s1.toks) z4;refine⟨_,_,_,_,H1,rfl,I2,WS (l:=l1) (it:=s1.heap.objs.size) (ZBU (ZBM _)),⟨⟨_,z1⟩,z2⟩,fun b hb=>?_,q⟩;refine I1.fpOk ?_ (I1.hok.fresh ?_)
 all_goals
  simp only[ZG,Z9,or_false]at hb
  rcases hb with rfl | rfl
  ·exact ZBl _
  ·exact ZD _
theorem Tp {g:TG} {tc:TT} {Q:VK} (Pv:Nat->List V->Hp->Prop) (h0:Pv 0 [] H) (hl:∀i zs H,i<=xs.length->Pv i zs H->Yw K H l xs) (hz:∀i zs H,i < xs.length->Pv i zs H->zs.length < sizeLine)
 (hs:∀i x zs H p,xs[i]? = some x->Pv i zs H->H p=none->g (.ref p) σc (upd H p (.tup [.int (i:Nat),x])) fun σ2 H2=>tc σ2 H2 fun b H3=>if b=true then te σ2 H3 fun v H4=>Pv (i+1) (zs++[v]) H4 else Pv (i+1) zs H3)
 (hd:∀zs H,Pv xs.length zs H->∀p,H p=none->Q (.ref p) (upd H p (.lst zs))):DN (Ite K l) g tc te σc Q H:=by
 refine⟨fun i m zs H=>m=xs.length - i/\i<=xs.length/\Pv i zs H,⟨xs.length,by simp,ZU _,h0⟩,?_⟩;rintro i m zs H ⟨rfl,hi,p⟩;have q1:=hl i zs H hi p
 by_cases Yq:i < xs.length
 ·refine .inr ⟨⟨xs,xs[i],q1,by simp[Yq]⟩,hz i zs H Yq p,Pv (i+1),fun zs' H' p'=>⟨xs.length - (i+1),by lia,rfl,Yq,p'⟩,?_⟩;rintro v H' ⟨pp,x,hp,rfl,rfl,k1⟩;exact hs i x zs H pp (k1 xs q1) p hp
 ·have e:i=xs.length:=by lia
  subst e;exact .inl ⟨⟨xs,q1,ZD _⟩,hd zs H p⟩
end
noncomputable def TyS(K:W.Frag)(H:Hp)(x:V)(t:String):Prop:=match x with
 | .int _=>t = "int"
 | .bl _=>t = "bool"
 | .ref a=>(t = "tuple" /\ ∃xs,Yo K H a xs)\/(t = "list" /\ ∃xs,Yw K H a xs)
 | _=>False
noncomputable def B8(t T:String):Bool:=t == T || (t == "bool" && T == "int")
section
variable {X:Cx}{K:W.Frag}
theorem MY{Ya:List (Addr × Obj)}{x:V}{t:String}(I:Yg X Ya Z H s)(rx:Yi x u)(h:TyS X.K H x t) :
 (t = "int" \/ t = "bool" \/ t = "tuple" \/ t = "list")/\u≠Value.builtin "__main__.__loader__#opaque" /\ ∃Hh:Heap->Prop,PySem.W.KitX X.K u (.type t) Hh/\Hh s.heap:=by
 cases x with
 | int i =>
  obtain⟨k,rfl⟩:=(show ∃t,u=Value.int i t from rx);cases (show t = "int" from h);exact⟨.inl rfl,(fun z=>nomatch z),_,PySem.W.kitx_int,True.intro⟩
 | bl b =>
  cases (show u=Value.bool b from rx);cases (show t = "bool" from h);exact⟨.inr (.inl rfl),(fun z=>nomatch z),_,PySem.W.kitx_bool,True.intro⟩
 | ref a =>
  cases (show u=Value.ref a from rx)
  rcases h with ⟨rfl,xs,hq⟩ | ⟨rfl,xs,hq⟩
  ·obtain⟨Ye,rv,p,_⟩:=I.tuple hq;obtain⟨o,h1,h2,_⟩:=p;exact⟨.inr (.inr (.inl rfl)),(fun z=>nomatch z),_,PySem.W.kitx_tuple,⟨o,h1,h2⟩⟩
  ·obtain⟨Ye,rv,p,_⟩:=I.list hq;obtain⟨o,n,h1,h2,_⟩:=p;exact⟨.inr (.inr (.inr rfl)),(fun z=>nomatch z),_,PySem.W.kitx_list,⟨o,h1,h2⟩⟩
 | _=>exact False.elim h
end
open AutoSeq1 (wpAny_loadPart')
section
variable {prog:Program}{w:World}{A:Around}{E:Value->Shared->Prop}{s:Shared}
theorem PM {j tp:Addr} {k:Nat} {Ye:Array Value} {z:Value} (hj:s.heap.IsTupleIter j tp k) (hp:s.heap.IsTuple tp Ye) (hz:Ye[k]? = some z)
 (q:∀h',h'.IsTupleIter j tp (k+1)->Heap.SameBut j s.heap h'->Q z { s with heap:=h' }):wpAny (model prog w) A (Builtin.SmallTypes.nextOf (.ref j)) Q E s:=by
 obtain⟨ob,g1,g2,g3⟩:=id hj;obtain⟨ol,k1,_,nl,k3⟩:=hp;unfold Builtin.SmallTypes.nextOf;refine ZA (wpAny_callSpecial?_slot (name:=Str.ofString "__next__") hj.typeIs F.slot_tuple_iterator_next (Z1 F.slot_tuple_iterator_next hj.typeIs F.entry_tuple_iterator_next ?_ (F.args_tuple_iterator_next_1 _)));show wpAny _ _ (field (.ref j) 0 >>= _) _ _ s;refine ZA (ZBV g1 g3 (x:=.ref tp) rfl ?_);show wpAny _ _ (if (Value.ref tp == Value.none)=true then _ else _) _ _ s;rw[if_neg (c:=(Value.ref tp == Value.none)=true) (fun z=>ZBE z)];show wpAny _ _ (field (.ref j) 1 >>= _) _ _ s;refine ZA (ZBV g1 g3 (x:=.int k 0) rfl ?_);show wpAny _ _ (seqItems? (.ref tp) >>= _) _ _ s;refine ZA (wpAny_seqItems k1 k3 ?_);simp only[Zc,hz];refine ZA (ZBX g1 g3 (by simp) (ZC ⟨z,rfl,ZC (q _ ?_ (ZBA ..))⟩));refine⟨_,ZBh _ g1 (Obj.isFreed_of_fields (Obj.data_mapFields g3 _)),(Obj.cls_mapFields ..).trans g2,?_⟩;rw[Obj.data_mapFields g3];simp[rawInt]
theorem Mv {j tp:Addr} {k:Nat} {Ye:Array Value} (hh:A.handled=none) (hj:s.heap.IsTupleIter j tp k) (hp:s.heap.IsTuple tp Ye) (hz:Ye[k]? = none)
 (q:∀h' e,Heap.ExtBut j s.heap h'->(∃o,h'.get? e=some o/\o.cls=.type "StopIteration")->E (.ref e) { s with heap:=h' }):wpAny (model prog w) A (Builtin.SmallTypes.nextOf (.ref j)) Q E s:=by
 obtain⟨ob,g1,g2,g3⟩:=id hj;obtain⟨ol,k1,_,nl,k3⟩:=hp;unfold Builtin.SmallTypes.nextOf;refine ZA (wpAny_callSpecial?_slot (name:=Str.ofString "__next__") hj.typeIs F.slot_tuple_iterator_next (Z1 F.slot_tuple_iterator_next hj.typeIs F.entry_tuple_iterator_next ?_ (F.args_tuple_iterator_next_1 _)));show wpAny _ _ (field (.ref j) 0 >>= _) _ _ s;refine ZA (ZBV g1 g3 (x:=.ref tp) rfl ?_);show wpAny _ _ (if (Value.ref tp == Value.none)=true then _ else _) _ _ s;rw[if_neg (c:=(Value.ref tp == Value.none)=true) (fun z=>ZBE z)];show wpAny _ _ (field (.ref j) 1 >>= _) _ _ s;refine ZA (ZBV g1 g3 (x:=.int k 0) rfl ?_);show wpAny _ _ (seqItems? (.ref tp) >>= _) _ _ s;refine ZA (wpAny_seqItems k1 k3 ?_);simp only[Zc,hz];refine ZA (wpAny_rule (ZA (ZBX g1 g3 (by simp) ?_)));show wpAny _ _ (newExc (.type "StopIteration") [] >>= fun z=>_) _ _ _;refine ZA ?_;simp only[newExc,newTuple];refine ZA (Zx (hd:=by size_fits) ?_);refine ZA (m:=firstArgMember _ _) (wpAny_of_eq (a:=Value.none) (by first | (simp only[firstArgMember];rfl) | rfl) ?_);refine Zx (hd:=by size_fits) ?_;simp only[raiseNew];refine ZA (wpAny_handled ?_)
 first | rw[hh] | rw[show A.in1.handled=none from hh]
 refine ZA (ZC (wpAny_throw ?_));exact q _ _ (((ZBA ..).extBut.push _).push _) ⟨_,ZS _ rfl,rfl⟩
theorem TU(hh:A.handled=none)(j tp:Addr)(Yu:tp≠j)(Ye:Array Value) :
 Draws prog w A j [j,tp] Ye.size (fun k v=>Ye[k]? = some v) (fun k h=>h.IsTupleIter j tp k/\h.IsTuple tp Ye) where
 live:=fun _ _ st=>by obtain⟨⟨o,ho,_⟩,_⟩:=st;exact⟨o,ho⟩
 frame:=fun _ _ _ st hk=>by
  obtain⟨st1,o,h1,h2⟩:=st;exact⟨st1.at fun o e=>hk j (by simp) o e,o,hk tp (by simp) o h1,h2⟩
 item:=fun k s Q E hi st hQ=>by
  refine PM st.1 st.2 (z:=Ye[k]) (by simp[hi]) fun h' h1 h2=>?_
  exact hQ _ h' s.toks (by simp[hi]) ⟨h1,st.2.extBut h2.extBut Yu⟩ h2
 done:=fun s Q E st hE=>Mv hh st.1 st.2 (by simp) hE
theorem Uy(tp:Addr)(Ye:Array Value)(n:Nat)(dct:Option Addr)(sl:Array (Option Value)) :
 Meets (Builtin.«enumerate.__new__» ⟨[.type "enumerate",.ref tp],[]⟩) (fun _ R s=>s.heap.get? tp=some { cls:=.type "tuple",dict:=dct,data:=.seq Ye n,slots:=sl } /\
  R (.ok (.ret (.ref (s.heap.push { cls:=.type "tuple_iterator",data:=.fields #[.ref tp,.int 0 0] }).objs.size)))
   { s with heap:=(s.heap.push { cls:=.type "tuple_iterator",data:=.fields #[.ref tp,.int 0 0] }).push { cls:=.type "enumerate",data:=.fields #[.none,.bool false,.ref s.heap.objs.size,rawInt 0,.none,.none] } }) :=
 .of_wp fun prog w A R s h=>by
  obtain⟨hp,g,d,tk,os⟩:=s;obtain⟨hl,h⟩:=h;have hsub:=sub_enumerate;have ht:Heap.IsTuple (Shared.heap ⟨hp,g,d,tk,os⟩) tp Ye:=⟨_,hl,rfl,n,rfl⟩
  wp_walk using wpAny_loadPart' hl
  refine wpAny_stack_any fun st=>ZC ?_
  split
  ·rename_i c _ _ _ _ _;cases (c == Value.type "enumerate") <;> (wp_walk using wpAny_loadPart' hl,wpAny_pyIter_tuple ht;exact⟨_,rfl,h⟩)
  ·wp_walk using wpAny_loadPart' hl,wpAny_pyIter_tuple ht
   exact⟨_,rfl,h⟩
theorem Th {tp:Addr} {Ye:Array Value} (ht:s.heap.IsTuple tp Ye)
 (h:∀h',IsEnum h' (s.heap.objs.size+1) s.heap.objs.size 0 .none->h'.IsTupleIter s.heap.objs.size tp 0->(∀b o,s.heap.get? b=some o->h'.get? b=some o)->Q (.ref (s.heap.objs.size+1)) { s with heap:=h' }) :
 wpAny (model prog w) A (call (.type "enumerate") [.ref tp]) Q E s:=by
 obtain⟨⟨c,dct,dt,sl⟩,hl,hc,n,hd⟩:=ht;cases (show c=.type "tuple" from hc);cases (show dt=.seq Ye n from hd);refine callType_new F.called_enumerate (by decide) (F.typeCall_enumerate_1 _) (F.newCall_enumerate_1 _) (fun obj=>F.args_object_init_2 obj _) F.entry_enumerate_new (Uy tp Ye n dct sl) ⟨hl,?_⟩;have z1:(s.heap.push { cls:=.type "tuple_iterator",data:=.fields #[.ref tp,.int 0 0] }).objs.size=s.heap.objs.size+1:=Z7 ..;show _/\_;rw[z1];have z2:=ZS (s.heap.push { cls:=.type "tuple_iterator",data:=.fields #[.ref tp,.int 0 0] }) (o:={ cls:=.type "enumerate",data:=.fields #[.none,.bool false,.ref s.heap.objs.size,rawInt 0,.none,.none] }) rfl;rw[z1]at z2;have z3:IsEnum _ (s.heap.objs.size+1) s.heap.objs.size 0 .none:=z2;exact⟨⟨_,z2,rfl⟩,h _ z3 ⟨_,ZH _ (ZS _ rfl),rfl,rfl⟩ fun b o x=>ZH _ (ZH _ x)⟩
end
noncomputable def JZ(K:W.Frag)(l:Addr):It :=
 ⟨fun i H=>∃xs x,Yo K H l xs/\xs[i]? = some x,
  fun i H v H'=>∃p x,H p=none/\v=.ref p/\H'=upd H p (.tup [.int i,x])/\∀xs,Yo K H l xs->xs[i]? = some x,
  fun i H=>∃xs,Yo K H l xs/\xs.length<=i⟩
theorem SK{kt:Nat}{tpos:Pos}{e it:Addr}(Yu:e≠it) :
 Turn P w K (.Tuple es kt tpos) (JZ K l) [e,it] e (fun i h=>(∃old,IsEnum h e it (i:Int) old)/\h.IsTupleIter it l i) where
 mem:=by simp
 obj:=fun i h st b hb=>by
  obtain⟨⟨old,hz⟩,⟨o1,e1,c1,d1⟩⟩:=st;simp only[ZG,Z9,or_false]at hb
  rcases hb with rfl | rfl
  ·exact⟨_,hz,fun v q=>nomatch q⟩
  ·exact⟨o1,e1,fun v q=>by rw[d1]at q;cases q⟩
 keep:=fun i h h' ⟨⟨old,hz⟩,h1⟩ k=>⟨⟨old,k e (by simp) _ hz⟩,h1.at fun o q=>k it (by simp) o q⟩
 item:=by
  intro X hP hw hK hc i Ya s Z H E I hf st hg;subst hP hw hK;obtain⟨xs,x,hq1,hx⟩:=hg;obtain⟨⟨old,hz⟩,h1⟩:=st;obtain⟨Ye,rv,p,_⟩:=I.tuple hq1;obtain⟨u,hu,ru⟩:=rv.get hx;have hp:s.heap.IsTuple l Ye.toArray:=p;have le:l≠e:=fun q=>by obtain⟨o,g1,g2,_⟩:=hp;rw[q]at g1;rw[show s.heap.get? e=_ from hz]at g1;cases g1;exact absurd (show Value.type "enumerate" = Value.type "tuple" from g2) (by decide)
  have li:l≠it:=fun q=>by obtain⟨o,g1,g2,_⟩:=hp;obtain⟨o',g3,g4,_⟩:=h1;rw[q,g3]at g1;cases g1;rw[g4]at g2;exact absurd g2 (by decide)
  refine wpAny_pyNext_enum_itemD (TU (A:=X.A.in1) (show X.A.in1.handled=none from I.ok.hd hc) it l li Ye.toArray) hz ⟨h1,hp⟩ ?_ Yu (by simp[Yu,Ne.symm le]) fun y h' tk py z1 z2' z3 z4 z5=>?_
  ·have:=(Zg.mp hu).1
   simpa using this
  obtain⟨z2,_⟩:=z2'
  have ey:y=u:=by
   have:Ye.toArray[i]? = some u:=by simpa using hu
   rw[this]at py;exact(ZV py).symm
  subst ey;refine⟨_,rfl,?_⟩
  have z5':∀b v,b∉[e,it]->s.heap.get? b=some v->h'.get? b=some v:=fun b v hb q=>by
   simp only[ZG,Z9,or_false,not_or]at hb;exact z5 b v hb.1 hb.2 q
  have I1:Yg X Ya Z (upd H s.heap.objs.size (.tup [.int i,x])) { s with heap:=h' }:=by
   refine I.turnedNew (ch:=[e,it]) (fun b hb=>hf b hb) (ZD _) z5' ?_ fun b hb=>?_
   ·exact⟨smq rfl,[.int i tk,y],.cons ⟨_,rfl⟩ (.cons ru .nil),⟨_,z3,rfl,⟨_,rfl⟩,rfl⟩⟩
   ·simp only[ZG,Z9,or_false]at hb
    rcases hb with rfl | rfl
    ·exact⟨_,z1⟩
    ·obtain⟨o,q,_⟩:=z2;exact⟨o,q⟩
  refine wpAny_letOwnedTupleGo_enum (s:={ s with heap:=h',toks:=tk+1 }) z1 fun h'' z8 z9=>?_
  have hfz:=hf e (by simp)
  have neT:∀b,b∈[e,it]->b≠s.heap.objs.size:=fun b hb q=>by
   have st':∃o,s.heap.get? b=some o:=by
    simp only[ZG,Z9,or_false]at hb
    rcases hb with rfl | rfl
    ·exact⟨_,hz⟩
    ·obtain⟨o,q,_⟩:=h1;exact⟨o,q⟩
   obtain⟨o,ho⟩:=st'
   have:=ZF ho
   rw[q]at this;exact ZW _ this
  have hTH:∀b∈[e,it],upd H s.heap.objs.size (.tup [.int i,x]) b=none:=fun b hb=>by rw[AJ (neT b hb)];exact(hf b hb).1
  have I2:Yg X Ya Z (upd H s.heap.objs.size (.tup [.int i,x])) { s with heap:=h'',toks:=tk+1 } :=
   I1.turned (t':=tk+1) (fun b o hb q=>(z9.2 b hb).trans q) (hTH e (by simp)) hfz.2.1 hfz.2.2.2.1 hfz.2.2.2.2.1 hfz.2.2.2.2.2
  have up:∀b o,b≠e->h'.get? b=some o->h''.get? b=some o:=fun b o hb q=>(z9.2 b hb).trans q
  exact⟨.ref s.heap.objs.size,_,I2,rfl,⟨_,x,I.hok.fresh (ZD _),rfl,rfl,fun xs' h=>by rw[I.tuple_inj h hq1];exact hx⟩,⟨⟨_,z8⟩,z2.at fun o q=>up _ o (Ne.symm Yu) q⟩,hTH⟩
 done:=by
  intro X hP hw hK hc i Ya s Z H E I hf st hg;subst hP hw hK;obtain⟨xs,hq1,hl⟩:=hg;obtain⟨⟨old,hz⟩,h1⟩:=st;obtain⟨Ye,rv,p,_⟩:=I.tuple hq1;have e1:=rv.length;have hp:s.heap.IsTuple l Ye.toArray:=p;have hT:s.TypeIs (.ref e) "enumerate":=⟨_,hz,rfl⟩;unfold pyNext;refine ZA (wpAny_attempt (wpAny_callSpecial?_slot (name:=Str.ofString "__next__") hT F.slot_enumerate_next (Z1 F.slot_enumerate_next hT F.entry_enumerate_next ?_ (F.args_enumerate_next_1 _))));show wpAny _ _ (field (.ref e) 2 >>= fun z=>_) _ _ _;refine ZA (ZBV hz rfl (x:=.ref it) rfl ?_);refine ZA (Mv (by first | exact I.ok.hd hc | simpa using I.ok.hd hc) h1 hp (by simp;lia) fun h' x z7 hx'=>?_);obtain⟨o,ho,hcl⟩:=hx';refine ZA (wpAny_isInstance (T:="StopIteration") (b:=true) ⟨o,ho,hcl⟩ isSubtype_stop (ZC ⟨rfl,?_⟩));obtain⟨f0,f1,f2,f3,f4,f5⟩:=hf it (by simp);exact I.turned (t':=s.toks) (fun b o hb q=>z7 b o hb q) f0 f1 f3 f4 f5
 self:=fun _ _ _ _ _ st h=>wpAny_pyIter_enum st.1.choose_spec h
section
variable {X:Cx}
noncomputable def SF(K:W.Frag)(ta:TA):TI:=fun Z H R=>ta Z H fun vs H1=>match vs with
 | [.ref a]=>(∃xs,Yo K H1 a xs)/\R (JZ K a) H1
 | _=>False
theorem Jr {a:Expr} {ta:TA} {p:Pos} {kt:Nat} {tpos:Pos} (hg:Gl X "enumerate") (hm:X.mg "enumerate" = none) (ha:PA X [a] ta)
 (hs:starEach [a] X.env=[(false,eval a X.env)]:=by rfl) (hK:X.K=K:=by rfl) :
 PI X (.Tuple es kt tpos) (.Call (.Name "enumerate" p) [a] [] pos) (SF K ta):=by
 subst hK;intro Ya s Z H R I h;refine Call_ (Cu I hg hm (by rfl:bootBuiltins "enumerate" = some (.type "enumerate")) (PyProof.Rows.callWith_type1 (Yn (ha pos Ya s Z H _ I h) fun us s1 ⟨vs,H1,I1,r1,q1⟩=>?_) (by rw[hs];rfl) (by rfl)))
 match vs,q1,r1 with
 | [.ref l1],⟨⟨xs,hx⟩,q⟩,r1 =>
 cases r1 with
 | cons r rr =>
 cases rr;cases r;obtain⟨Ye,rv,p1,_⟩:=I1.tuple hx;refine Th (Ye:=Ye.toArray) p1 fun h' z1 z2 z4=>?_
 refine wpAny_pyIter_enum (s:={ s1 with heap:=h' }) z1 ?_;have I2:Yg X Ya Z H1 { s1 with heap:=h' }:=I1.kept (t':=s1.toks) z4;refine⟨_,_,_,_,H1,rfl,I2,SK (l:=l1) (it:=s1.heap.objs.size) (ZBU (ZBM _)),⟨⟨_,z1⟩,z2⟩,fun b hb=>?_,q⟩;refine I1.fpOk ?_ (I1.hok.fresh ?_)
 all_goals
  simp only[ZG,Z9,or_false]at hb
  rcases hb with rfl | rfl
  ·exact ZBl _
  ·exact ZD _
theorem IB {g:TG} {tc:TT} {Q:VK} (Pv:Nat->List V->Hp->Prop) (h0:Pv 0 [] H) (hl:∀i zs H,i<=xs.length->Pv i zs H->Yo K H l xs) (hz:∀i zs H,i < xs.length->Pv i zs H->zs.length < sizeLine)
 (hs:∀i x zs H p,xs[i]? = some x->Pv i zs H->H p=none->g (.ref p) σc (upd H p (.tup [.int (i:Nat),x])) fun σ2 H2=>tc σ2 H2 fun b H3=>if b=true then te σ2 H3 fun v H4=>Pv (i+1) (zs++[v]) H4 else Pv (i+1) zs H3)
 (hd:∀zs H,Pv xs.length zs H->∀p,H p=none->Q (.ref p) (upd H p (.lst zs))):DN (JZ K l) g tc te σc Q H:=by
 refine⟨fun i m zs H=>m=xs.length - i/\i<=xs.length/\Pv i zs H,⟨xs.length,by simp,ZU _,h0⟩,?_⟩;rintro i m zs H ⟨rfl,hi,p⟩;have q1:=hl i zs H hi p
 by_cases Yq:i < xs.length
 ·refine .inr ⟨⟨xs,xs[i],q1,by simp[Yq]⟩,hz i zs H Yq p,Pv (i+1),fun zs' H' p'=>⟨xs.length - (i+1),by lia,rfl,Yq,p'⟩,?_⟩;rintro v H' ⟨pp,x,hp,rfl,rfl,k1⟩;exact hs i x zs H pp (k1 xs q1) p hp
 ·have e:i=xs.length:=by lia
  subst e;exact .inl ⟨⟨xs,q1,ZD _⟩,hd zs H p⟩
end
theorem Fo(a b:Nat):Builtin.bitAnd (a:Int) (b:Int)=((a &&& b:Nat):Int):=by
 unfold Builtin.bitAnd;rw[ZL (ZB3 a),ZL (ZB3 b)];rfl
noncomputable def iL(xs:List Nat):List V:=xs.map fun i=>V.int (i:Nat)
noncomputable def iD(xs:List Nat):List Dv:=xs.map fun i=>Dv.int (i:Nat)
theorem Ai(xs:List Nat):(iL xs).length=xs.length:=by unfold iL;rw[ZB]
theorem Bv(xs ys:List Nat):iL (xs++ys)=iL xs++iL ys:=by unfold iL;rw[ZJ]
theorem CK{xs:List Nat}(h:(iL xs)[i]? = some v):∃x,xs[i]? = some x/\x∈xs/\v=.int (x:Nat):=by
 unfold iL at h;rw[ZR]at h;cases e:xs[i]? with
 | none=>rw[e]at h;cases h
 | some x=>rw[e]at h;exact⟨x,rfl,Zw e,(ZV h).symm⟩
theorem Go:∀xs:List Nat,Yd K H (iD xs) (iL xs)
 | []=>by unfold iD iL Yd;rfl
 | x::xs=>by
  show Yd K H (Dv.int (x:Nat)::iD xs) (V.int (x:Nat)::iL xs);unfold Yd;exact⟨_,_,rfl,by unfold Yh;rfl,Go xs⟩
theorem MA:∀xs:List Nat,Bl (iD xs)=0
 | []=>by unfold iD;simp[Bl]
 | x::xs=>by
  show Bl (Dv.int (x:Nat)::iD xs)=_;unfold Bl;rw[MA xs];unfold Az;rfl
theorem JE{H0:Hp}(s:Yb H0 H)(ht:H0 t=none):Yb H0 (upd H t o):=fun b u e=>by
 rw[AJ (BZ e ht)];exact s b u e
theorem Yb.sqT(e:Yb H H')(h:Yo K H a xs):Yo K H' a xs:=Ga h (fun o k=>e _ _ k)
theorem Yb.sqL(e:Yb H H')(h:Yw K H a xs):Yw K H' a xs:=OH h (fun o k=>e _ _ k)
noncomputable def Mn:Nat->Nat->Nat
 | 0,_=>0
 | f+1,x=>x % 2+Mn f (x / 2)
@[irreducible] noncomputable def many(x:Nat):Nat:=Mn 64 x
noncomputable def gB(bs:List Bool)(i:Nat):Bool:=bs.getD i false
theorem Vj{bs:List Bool}(h:i < bs.length):gB bs i=bs[i]:=by unfold gB;rw[ZQ,ZE h];rfl
theorem Fm{bs:List Bool}(h:i < bs.length):atI (bs.map V.bl) ((i:Nat):Int)=some (.bl (gB bs i)):=by
 rw[Vj h];exact Ah rfl (by rw[ZR,ZE h];rfl)
noncomputable def Nb(x:Int)(k:Nat):Prop:=x.natAbs < 2 ^ k
theorem Nb.mul{x y:Int}{a b:Nat}(hx:Nb x a)(hy:Nb y b):Nb (x * y) (a+b):=by
 unfold Nb at *;rw[Int.natAbs_mul,Nat.pow_add];exact Nat.mul_lt_mul'' hx hy
theorem Nb.up{x:Int}{a b:Nat}(hx:Nb x a)(h:a<=b):Nb x b:=ZY hx (Zl (by decide) h)
theorem Nb.pow{x:Int}{a:Nat}(hx:Nb x a):∀i,Nb (x ^ i) (a * i+1)
 | 0=>by unfold Nb;rw[Int.pow_zero];show 1 < 2 ^ (a * 0+1);rw[Nat.mul_zero];decide
 | i+1=>by
  rw[Int.pow_succ]
  have:=(hx.pow i).mul hx
  rw[show a * (i+1)+1=a * i+1+a by rw[Nat.mul_succ];lia];exact this
theorem Nb.okMul{x y:Int}(hx:Nb x 4000)(hy:Nb y 4000):okMul x y:=.inl ⟨hx.up (by decide),hy.up (by decide)⟩
noncomputable def Hf(H:Hp)(Q:VK)(xs:List V):Prop:=∀p H',H p=none->Yb H H'->H' p=some (.lst xs)->Q (.ref p) H'
theorem Wx(f:Nat->Bool)(n:Nat):((List.range (n+1)).map f).map V.bl=((List.range n).map f).map V.bl++[V.bl (f n)]:=by
 rw[ZBJ,ZJ,ZJ];rfl
theorem SG{td ty tv:TE}(h1:Af td)(h2:Af ty)(h3:Af tv):Bk (Kv td ty tv):=fun D D' Z H h q=>h3 _ _ _ _ (fun _ _ q=>h1 _ _ _ _ (fun _ _ q=>h2 _ _ _ _ (fun _ _ ⟨a,H4,e,g,q⟩=>⟨a,H4,e,g,h.nx _ _ q⟩) q) q) q
theorem C7(h:A.units+60 < cLine):A.units+1 < cLine:=by lia
end L2
namespace L2
open PySem PySem.Spec PyProof.Rows
variable {H:Hp}{d t:Addr}{N:Nat}{K:W.Frag}{Yc:List (Key × V)}
section
variable {X:Cx}{K:W.Frag}{e sx:Expr}{te ts:TE}{lo hi:Option Expr}{tl th:TO}{pos p2:Pos}
noncomputable def mIs(neg:Bool):R2:=fun x y H Q=>match x,y with
 | .bl a,.bl b=>Q (.bl (neg ^^ (a == b))) H
 | x,.non=>Q (.bl (neg ^^ decide (x=.non))) H
 | _,_=>False
theorem DD:Yv X (compareOp .IsNot) (mIs true):=by
 intro Ya s Z H x y v u Q I rx ry h;unfold mIs at h;split at h
 ·cases rx;cases ry;rename_i a b;exact wpAny_of_eq (show compareOp .IsNot (.bool a) (.bool b)=pure (.bool (!(a == b))) by cases a <;> cases b <;> rfl) ⟨.bl (!(a == b)),H,I,rfl,by rw[Bool.true_xor]at h;exact h⟩
 ·exact XB Ya s Z H _ _ v u Q I rx ry ⟨rfl,by rw[Bool.true_xor]at h;exact h⟩
 ·exact h.elim
theorem UW{neg:Bool}:Bd (mIs neg):=fun x y H Q Q' h q=>by
 unfold mIs at *;split at q
 ·exact h _ _ q
 ·exact h _ _ q
 ·exact q.elim
end
structure GFeed(H:Hp)(t:Addr)(N:Nat):Prop where
 at_:∃(l:Addr) (i g c:Int) (ns:List Int),0<=i/\0<=g/\0<=c/\c<=N/\H t=some (.lst [.ref l,.int i,.int g,.int c])/\l≠t/\H l=some (.lst (ns.map V.int))/\ns.length≠0
theorem GFeed.same{H':Hp}(F:GFeed H t N)(h:Yb H H'):GFeed H' t N:=by
 obtain⟨l,i,g,c,ns,h1,h2,h3,h4,h5,h6,h7,h8⟩:=F.at_;exact⟨l,i,g,c,ns,h1,h2,h3,h4,h _ _ h5,h6,h _ _ h7,h8⟩
theorem GFeed.upd{p:Addr}{o:HO}(F:GFeed H t N)(h:H p=none):GFeed (L2.upd H p o) t N:=F.same (Yb.upd h)
theorem GFeed.mono{N':Nat}(F:GFeed H t N)(h:N<=N'):GFeed H t N':=by
 obtain⟨l,i,g,c,ns,h1,h2,h3,h4,h5⟩:=F.at_;exact⟨l,i,g,c,ns,h1,h2,h3,by lia,h5⟩
theorem GFeed.lst{H:Hp}{t:Addr}{N:Nat}(F:GFeed H t N):∃zs,H t=some (.lst zs):=by
 obtain⟨l,i,g,c,ns,h1,h2,h3,h4,h5,_⟩:=F.at_;exact⟨_,h5⟩
theorem GFeed.neT{p:Addr}(F:GFeed H t N)(hp:H p=none):p≠t:=fun e=>by
 obtain⟨zs,h⟩:=F.lst;rw[e,h]at hp;cases hp
theorem GFeed.free{H':Hp}{p:Addr}(F:GFeed H' t N)(h:Yl t H H')(hp:H' p=none):H p=none:=by
 cases e:H p with
 | none=>rfl
 | some o =>
  by_cases hpt:p=t
  ·subst hpt;obtain⟨zs,h3⟩:=F.lst;rw[h3]at hp;cases hp
  ·rw[h p o hpt e]at hp;cases hp
noncomputable def D4:Sp:=fun vs H Q _=>match vs with
 | [.ref t,.int m]=>∃N,GFeed H t N/\N<=1000000000/\okDiv m/\∀d H',0<=d->d < m->GFeed H' t (N+1)->(∀b,b≠t->H' b=H b)->Q (.int d) H'
 | _=>False
theorem Uz:AQ D4:=fun vs H Q Q' E h q=>by
 unfold D4 at *;split at q
 ·obtain⟨N,h1,h2,h3,q⟩:=q;exact⟨N,h1,h2,h3,fun d H' a b c e=>h _ _ (q d H' a b c e)⟩
 ·exact q.elim
noncomputable def Ie(K:W.Frag):Sp:=fun vs H Q _=>match vs with
 | [.ref a]=>∃ns:List Int,Yw K H a (ns.map V.int)/\∀t H',H t=none->Yb H H'->GFeed H' t 0->Q (.ref t) H'
 | _=>False
theorem G3:∀ns:List Int,Yd K H (ns.map Dv.int) (ns.map V.int)
 | []=>Ag
 | n::ns=>AU KF (G3 ns)
theorem MP:∀ns:List Int,Bl (ns.map Dv.int)=0
 | []=>by rw[List.map_nil];unfold Bl;rfl
 | n::ns=>by rw[Zi];unfold Bl;rw[MP ns];unfold Az;rfl
noncomputable def tyD:Dv->String
 | .non=>"NoneType"
 | .bl _=>"bool"
 | .int _=>"int"
 | .str _=>"str"
 | .tup _=>"tuple"
 | .lst _=>"list"
noncomputable def WP(K:W.Frag):List V->Hp->VK->Prop:=fun xs H Q=>match xs with
 | [x,.ty T]=>T∈kinds/\∃d,Yh K H d x/\Q (.bl (B8 (tyD d) T)) H
 | _=>False
theorem Gy{t T:String}(ht:t = "int" \/ t = "bool" \/ t = "tuple" \/ t = "list")(hT:T∈kinds):PySem.W.kitOne K (.type t) (.type T)=some (B8 t T):=by
 unfold kinds at hT;simp only[ZG,Z9,or_false]at hT
 rcases ht with rfl | rfl | rfl | rfl <;> rcases hT with rfl | rfl | rfl | rfl | rfl | rfl <;> rfl
theorem GK{X:Cx}:CallR X (.builtin "isinstance") (WP X.K):=by
 intro Ya s Z H xs us Q I r q
 match xs,q with
 | [x,.ty T],q =>
  obtain⟨hT,d,h,q⟩:=q
  have go:∀t,TyS X.K H x t->Q (.bl (B8 t T)) H->wpAny (model X.prog X.w) X.A (call (.builtin "isinstance") us) (EP X Ya Z Q) X.xe s:=fun t ht hq=>by
   obtain⟨u,w',rfl,ru,rw'⟩:=Ea r;cases rw';obtain⟨ht,hn,Hh,k,hh⟩:=MY I ru ht;exact PySem.W.kia_one k I.kIn hh (Gy ht hT) hn fun tk=>⟨.bl (B8 t T),H,I.tok _,rfl,hq⟩
  have hT':=hT;unfold kinds at hT';simp only[ZG,Z9,or_false]at hT';cases d with
  | non =>
   unfold Yh at h;subst h;refine HF Ya s Z H _ us Q I r ⟨hT,_,rfl,?_⟩;have e:(T == "NoneType")=B8 (tyD .non) T:=by rcases hT' with rfl | rfl | rfl | rfl | rfl | rfl <;> rfl
   rw[e];exact q
  | str z =>
   unfold Yh at h;subst h;refine HF Ya s Z H _ us Q I r ⟨hT,_,rfl,?_⟩;have e:(T == "str")=B8 (tyD (.str z)) T:=by rcases hT' with rfl | rfl | rfl | rfl | rfl | rfl <;> rfl
   rw[e];exact q
  | bl b=>unfold Yh at h;subst h;exact go _ rfl q
  | int i=>unfold Yh at h;subst h;exact go _ rfl q
  | tup ds=>unfold Yh at h;obtain⟨a,xs,rfl,hs,_⟩:=h;exact go _ (.inl ⟨rfl,xs,hs⟩) q
  | lst ds=>unfold Yh at h;obtain⟨a,xs,rfl,hs,_⟩:=h;exact go _ (.inr ⟨rfl,xs,hs⟩) q
theorem CV:∀bs:List Bool,Yd K H (bs.map Dv.bl) (bs.map V.bl)
 | []=>Ag
 | b::bs=>AU RQ (CV bs)
theorem Ch{ds:List Dv}{v:V}(h:Yh K H (.tup ds) v):∃a xs,v=.ref a/\Yo K H a xs/\Yd K H ds xs:=by unfold Yh at h;exact h
theorem Bf{p:Addr}{xs:List V}{ds:List Dv}(h:Yo K H p xs)(r:Yd K H ds xs):Yh K H (.tup ds) (.ref p):=by unfold Yh;exact⟨p,xs,rfl,h,r⟩
theorem MD:∀ds es:List Dv,Aj (ds++es)=(Aj ds && Aj es)
 | [],es=>by rw[List.nil_append];simp[Aj]
 | d::ds,es=>by
  rw[List.cons_append]
  show(BF d && Aj (ds++es))=(BF d && Aj ds && Aj es)
  rw[MD ds es,Bool.and_assoc]
theorem Jw:∀bs:List Bool,Aj (bs.map Dv.bl)=true
 | []=>rfl
 | b::bs=>by
  show(true && Aj (bs.map Dv.bl))=true
  rw[Jw bs];rfl
section
variable {X:Cx}{Ya:List (Addr × Obj)}{Z:St}{H:Hp}{s:Shared}
theorem Yg.hold(I:Yg X Ya Z H s)(h:H d=some (.dK Yc)):∃o,s.heap.get? d=some o/\Yg X Ya Z (upd H d (.frz o (.dK Yc))) s:=by
 obtain⟨hl,hs,vs,r,dd⟩:=(show ObjOk X.prog X.w H s.heap d (.dK Yc) from I.hok d _ h);obtain⟨o,es,ep,ho,rest⟩:=id dd;refine⟨o,ho,?_⟩
 have:=I.write (x:=d) (e:=d) (o:=.frz o (.dK Yc)) (h':=s.heap) (t':=s.toks) (by rw[h];exact True.intro) (.inl rfl) (fun b u _ q=>q) ⟨o,ho⟩ ⟨ho,hl,hs,vs,r,dd⟩
 exact this
theorem Yg.held{o:Obj}(I:Yg X Ya Z H s)(h:H d=some (.frz o (.dK Yc))):s.heap.get? d=some o/\(d == sysModules)=false/\Yc.length<=sizeLine/\∃vs,KV Yc vs/\s.heap.DictOf (BR X.prog X.w) d vs:=by
 obtain⟨ho,hl,hs,vs,r,dd⟩:=(show ObjOk X.prog X.w H s.heap d (.frz o (.dK Yc)) from I.hok d _ h);exact⟨ho,hs,hl,vs,r,dd⟩
theorem KV.get{vs:List (Key × Value)}(r:KV Yc vs):∀{i:Nat} {q:Key × V},Yc[i]? = some q->∃v,vs[i]? = some (q.1,v)/\Yi q.2 v:=by
 induction r with
 | nil=>intro i q e;simp at e
 | @cons a b l1 l2 h t ih =>
  intro i q e;cases i with
  | zero =>
   simp at e;subst e;obtain⟨b1,b2⟩:=b;obtain⟨h1,h2⟩:=h;exact⟨b2,by simp;exact h1.symm,h2⟩
  | succ i =>
   obtain⟨v,h1,h2⟩:=ih (i:=i) (q:=q) (by simpa using e);exact⟨v,by simpa using h1,h2⟩
theorem KV.len{vs:List (Key × Value)}(r:KV Yc vs):Yc.length=vs.length:=Paired.length r
theorem Vs{k:Key}{u:Value}(h:Dn k u=true):Yi (kV k) u:=by
 rcases keyIs_shape h with ⟨i,t,rfl,rfl⟩ | ⟨x,t,rfl,rfl⟩
 ·exact⟨t,rfl⟩
 ·exact⟨t,rfl⟩
end
noncomputable def Itm(d:Addr)(o:Obj):It :=
 ⟨fun i H=>∃Yc q,H d=some (.frz o (.dK Yc))/\Yc[i]? = some q,
  fun i H v H'=>∃p Yc q,H d=some (.frz o (.dK Yc))/\Yc[i]? = some q/\H p=none/\v=.ref p/\H'=upd H p (.tup [kV q.1,q.2]),
  fun i H=>∃Yc,H d=some (.frz o (.dK Yc))/\Yc.length<=i⟩
theorem Ji{P:Program}{w:World}{h:Heap}{o:Obj}{es:Array DictEntry}{ep:Nat}{vs:List (Key × Value)}(ho:h.get? d=some o)(hd:o.data=.dict es ep)(dd:h.DictOf (BR P w) d vs):h.DictAt (BR P w) d vs ep/\es.size=vs.length:=by
 obtain⟨o',es',ep',h1,h2,h3,h4,h5,h6⟩:=dd;rw[ho]at h1;cases h1;rw[hd]at h3;cases h3;exact⟨⟨o,es,ho,h2,hd,h4,h5,h6⟩,by rw[<- h5.length];simp⟩
theorem Pm:entryFor table "dict_itemiterator.__iter__" = some Builtin.«dict_keyiterator.__iter__» :=
 entryFor_alias (id':="dict_keyiterator.__iter__") (by kernel_rfl) (by first | rfl | decide +kernel) (by decide +kernel) (by kernel_rfl)
theorem WT{prog:Program}{w:World}{A:Around}{E:Value->Shared->Prop}{s:Shared}{it:Addr}{i n ep:Nat}{ok ov:Value}{Q:Value->Shared->Prop}(hz:IsItemIter s.heap it d i n ep ok ov)(h:Q (.ref it) s):wpAny (model prog w) A (pyIter (.ref it)) Q E s:=by
 have hT:s.TypeIs (.ref it) "dict_itemiterator":=⟨_,hz,rfl⟩;refine wpAny_pyIter_slot hT F.slot_dict_itemiterator_iter (Z1 F.slot_dict_itemiterator_iter hT Pm ?_ (F.args_dict_itemiterator_iter_1 _));show wpAny _ _ (ret (.ref it)) _ _ s;exact ZC ⟨_,rfl,"dict_itemiterator",_,hT,F.slot_dict_itemiterator_next.lookup,h⟩
theorem SC{P:Program}{w:World}{ts:List Expr}{kt:Nat}{tpos:Pos}{it:Addr}{o:Obj}{es:Array DictEntry}{ep:Nat}(hdat:o.data=.dict es ep) :
 Turn P w K (.Tuple ts kt tpos) (Itm d o) [it] it (fun i h=>∃ok ov,IsItemIter h it d i es.size ep ok ov) where
 mem:=by simp
 obj:=fun i h st b hb=>by
  obtain⟨ok,ov,hz⟩:=st;obtain rfl:b=it:=by simpa using hb
  exact⟨_,hz,fun v q=>nomatch q⟩
 keep:=fun i h h' ⟨ok,ov,hz⟩ k=>⟨ok,ov,k it (by simp) _ hz⟩
 item:=by
  intro X hP hw hK hc i Ya s Z H E I hf st hg;subst hP hw hK;obtain⟨Yc,q,hq1,hx⟩:=hg;obtain⟨ok,ov,hz⟩:=st;obtain⟨ho,hs,hl,vs,rv,dd⟩:=I.held hq1;obtain⟨da,hsz⟩:=Ji ho hdat dd;obtain⟨u,hu,ru⟩:=rv.get hx;rw[hsz]at hz;refine wpAny_pyNext_items_item hz da hu fun key h' z0 z1 z2 z3 z4=>?_
  refine⟨_,rfl,?_⟩;have z4':∀b v,b∉[it]->s.heap.get? b=some v->h'.get? b=some v:=fun b v hb q=>z4 b v (by simpa using hb) q
  have I1:Yg X Ya Z (upd H s.heap.objs.size (.tup [kV q.1,q.2])) { s with heap:=h' }:=by
   refine I.turnedNew (ch:=[it]) (fun b hb=>hf b hb) (ZD _) z4' ?_ fun b hb=>?_
   ·exact⟨smq rfl,[key,u],.cons (Vs z0) (.cons ru .nil),⟨_,z2,rfl,⟨_,rfl⟩,rfl⟩⟩
   ·obtain rfl:b=it:=by simpa using hb
    exact⟨_,z1⟩
  refine wpAny_letOwnedTupleGo_items (s:={ s with heap:=h' }) z1 fun h'' z8 z9=>?_
  have hfz:=hf it (by simp)
  have neT:it≠s.heap.objs.size:=fun q=>by
   have:=ZF hz
   rw[q]at this;exact ZW _ this
  have hTH:∀b∈[it],upd H s.heap.objs.size (.tup [kV q.1,q.2]) b=none:=fun b hb=>by
   obtain rfl:b=it:=by simpa using hb
   rw[AJ neT];exact hfz.1
  have I2:Yg X Ya Z (upd H s.heap.objs.size (.tup [kV q.1,q.2])) { s with heap:=h'' } :=
   I1.turned (t':=s.toks) (fun b o hb q=>(z9.2 b hb).trans q) (hTH it (by simp)) hfz.2.1 hfz.2.2.2.1 hfz.2.2.2.2.1 hfz.2.2.2.2.2
  rw[<- hsz]at z8;exact⟨.ref s.heap.objs.size,_,I2,rfl,⟨_,Yc,q,hq1,hx,I.hok.fresh (ZD _),rfl,rfl⟩,⟨_,_,z8⟩,hTH⟩
 done:=by
  intro X hP hw hK hc i Ya s Z H E I hf st hg;subst hP hw hK;obtain⟨Yc,hq1,hl⟩:=hg;obtain⟨ok,ov,hz⟩:=st;obtain⟨ho,hs,hl',vs,rv,dd⟩:=I.held hq1;obtain⟨da,hsz⟩:=Ji ho hdat dd;have e1:=rv.len;rw[hsz]at hz;refine wpAny_pyNext_items_end (I.ok.hd hc) hz da (by simp;lia) fun h' z7=>⟨rfl,?_⟩
  obtain⟨f0,f1,f2,f3,f4,f5⟩:=hf it (by simp);exact I.turned (t':=s.toks) (fun b o hb q=>z7 b o hb q) f0 f1 f3 f4 f5
 self:=fun A i s Q E st h=>by
  obtain⟨ok,ov,hz⟩:=st;exact WT hz h
noncomputable def Et(x:V)(H:Hp)(R:Addr->Obj->Hp->Prop):Prop:=match x with
 | .ref d=>(∃Yc,H d=some (.dK Yc)/\∀o,R d o (upd H d (.frz o (.dK Yc))))\/∃Yc o,H d=some (.frz o (.dK Yc))/\R d o H
 | _=>False
theorem RW{X:Cx}{Ya:List (Addr × Obj)}{Z:St}{s:Shared}{x:V}{v:Value}{R:Addr->Obj->Hp->Prop}(I:Yg X Ya Z H s)(r:Yi x v)(h:Et x H R) :
 ∃d Yc o H2,v=.ref d/\Yg X Ya Z H2 s/\H2 d=some (.frz o (.dK Yc))/\R d o H2:=by
 cases x with
 | ref d =>
  cases r
  rcases h with ⟨Yc,e,q⟩ | ⟨Yc,o,e,q⟩
  ·obtain⟨o,ho,I2⟩:=I.hold e;exact⟨d,Yc,o,_,rfl,I2,AD,q o⟩
  ·exact⟨d,Yc,o,H,rfl,I,e,q⟩
 | _=>exact False.elim h
noncomputable def OM(to:TE):TI:=fun Z H R=>to Z H fun x H1=>Et x H1 fun d o H2=>R (Itm d o) H2
section
variable {X:Cx}{K:W.Frag}{tg oe:Expr}{to:TE}{ts:List Expr}{kt:Nat}{tpos apos cpos:Pos}
theorem J1(ho:PE X oe to)(hbase:attributeBase oe "items" X.env (eval oe X.env)=eval oe X.env:=by rfl)(hline:(apos.endLine == cpos.line)=true:=by rfl) :
 PI X (.Tuple ts kt tpos) (.Call (.Attribute oe "items" apos) [] [] cpos) (OM to):=by
 intro Ya s Z H R I h;refine wpAny_Call_method0_late hbase hline (Yn (ho Ya s Z H _ I h) fun v s1 ⟨x,H1,I1,r1,q1⟩=>?_);obtain⟨d,Yc,o,H2,rfl,I2,hd2,q⟩:=RW I1 r1 q1;obtain⟨ho',hs,hl,vs,rv,dd⟩:=I2.held hd2;obtain⟨o',es,ep,e1,e2,e3,_⟩:=id dd;rw[ho']at e1;cases e1;refine⟨"dict","dict.items",PySem.F.plainAttrs_dict,PySem.F.slot_dict_items,PySem.F.type_dict_items,dd.typeIs,fun a ea=>?_,Calls.callWith_builtin rfl (PySem.evalArgs_none ?_)⟩
 ·cases ea;exact⟨o,ho',e2.2.1⟩
 refine call_meetsIn PySem.F.slot_dict_items dd.typeIs PySem.F.entry_dict_items (PySem.F.args_dict_items_1 _) (meets_dict_items (BR X.prog X.w) d hs) ⟨⟨vs,dd⟩,?_⟩;have I3:Yg X Ya Z H2 { s1 with heap:=s1.heap.push { cls:=.type "dict_items",data:=.fields #[.ref d] } }:=I2.kept (t':=s1.toks) fun b u e=>ZH _ e
 have hv:(s1.heap.push { cls:=.type "dict_items",data:=.fields #[.ref d] }).IsItemsView s1.heap.objs.size d:=⟨_,ZS _ rfl,rfl,rfl⟩;obtain⟨ho3,_,_,vs3,rv3,dd3⟩:=I3.held hd2;obtain⟨da,hsz⟩:=Ji ho3 e3 dd3;refine wpAny_pyIter_items (s:={ s1 with heap:=s1.heap.push { cls:=.type "dict_items",data:=.fields #[.ref d] } }) hv da ?_;generalize s1.heap.push { cls:=.type "dict_items",data:=.fields #[.ref d] } = h3 at *;refine⟨h3.objs.size,[h3.objs.size],_,_,H2,rfl,I3.kept (t':=s1.toks) fun b o e=>ZH _ e,SC e3,⟨.none,.none,?_⟩,fun b hb=>?_,q⟩
 ·rw[hsz];exact ZS _ rfl
 ·obtain rfl:b=h3.objs.size:=by simpa using hb
  exact I3.fpOk (ZD _) (I3.hok.fresh (ZD _))
end
theorem RX{x:V}{R R':Addr->Obj->Hp->Prop}(k:∀d o H,R d o H->R' d o H)(h:Et x H R):Et x H R':=by
 cases x with
 | ref d =>
  rcases h with ⟨Yc,e,q⟩ | ⟨Yc,o,e,q⟩
  ·exact .inl ⟨Yc,e,fun o=>k _ _ _ (q o)⟩
  ·exact .inr ⟨Yc,o,e,k _ _ _ q⟩
 | _=>exact False.elim h
theorem Ud{to:TE}(h:Af to):ET (OM to):=fun Z H Q Q' k q=>h _ _ _ _ (fun _ _ q=>RX (fun _ _ _ q=>k _ _ q) q) q
theorem Vf {o:Obj} {g:TG} {tb:TS} {D:Ends} {Z:St} (Pv:Nat->St->Hp->Prop) (h0:Pv 0 Z H) (hl:∀i Z H,i<=Yc.length->Pv i Z H->H d=some (.frz o (.dK Yc)))
 (hs:∀i q p Z H,Yc[i]? = some q->Pv i Z H->H p=none->g (.ref p) Z (upd H p (.tup [kV q.1,q.2])) fun σ2 H2=>tb { D with nx:=Pv (i+1),ct:=Pv (i+1),bk:=D.nx } σ2 H2) (hd:∀Z H,Pv Yc.length Z H->D.nx Z H) :
 ∃W:Nat->Nat->St->Hp->Prop,(∃m,W 0 m Z H)/\∀i m Z H,W i m Z H ->
  ((Itm d o).stop i H/\D.nx Z H)\/((Itm d o).go i H/\∃N:St->Hp->Prop,(∀σ' H',N σ' H'->∃m',m' < m/\W (i+1) m' σ' H')/\∀x H',(Itm d o).yld i H x H'->g x Z H' fun σ2 H2=>tb { D with nx:=N,ct:=N,bk:=D.nx } σ2 H2):=by
 refine⟨fun i m Z H=>m=Yc.length - i/\i<=Yc.length/\Pv i Z H,⟨Yc.length,by simp,ZU _,h0⟩,?_⟩;rintro i m Z H ⟨rfl,hi,p⟩;have q:=hl i Z H hi p
 by_cases Yq:i < Yc.length
 ·refine .inr ⟨⟨Yc,Yc[i],q,by simp[Yq]⟩,Pv (i+1),fun σ' H' p'=>⟨Yc.length - (i+1),by lia,rfl,Yq,p'⟩,fun x H' y=>?_⟩;obtain⟨pp,kvs',r,e1,e2,e3,rfl,rfl⟩:=y;rw[q]at e1;cases e1;exact hs i r pp Z H e2 p e3
 ·have e:i=Yc.length:=by lia
  subst e;exact .inl ⟨⟨Yc,q,ZD _⟩,hd Z H p⟩
end L2
namespace L2
open PySem PySem.Spec PyProof.Rows PySem.W
open Att (Gr LX Sa)
variable {H H':Hp}{Pt:Addr}{K:W.Frag}{ps:Array Value}
noncomputable def CdO(a:Addr)(q:Str):HO:=.ext fun h=>h.CodeRec (.ref a) q
theorem Rk{P:Program}{w:World}{h:Heap}{a:Addr}{q:Str}(r:h.CodeRec (.ref a) q):ObjOk P w H h a (CdO a q):=by
 refine⟨r,?_,fun h1 h2 p k=>?_⟩
 ·obtain⟨c,o,vs,t,e,g,_⟩:=r;cases e;exact⟨o,g⟩
 ·obtain⟨c,o,vs,t,e,g,z⟩:=p;cases e;exact⟨_,o,vs,t,rfl,k o g,z⟩
noncomputable def Yx(Pt:Addr)(pos:Pos)(q:Str)(H:Hp):Prop :=
 ∃ps:Array Value,H Pt=some (.tbl ps)/\TriplesOk ps.toList/\(codeAmong pos ps.toList=none\/∃c',codeAmong pos ps.toList=some (.ref c')/\H c'=some (CdO c' q))
noncomputable def Yt(Pt:Addr)(H H':Hp):Prop:=∀b o,b≠Pt->H b=some o->H' b=some o
theorem Yt.refl(Pt:Addr)(H:Hp):Yt Pt H H:=fun _ _ _ e=>e
theorem Yt.trans{H1 H2:Hp}(a:Yt Pt H H1)(b:Yt Pt H1 H2):Yt Pt H H2:=fun c o n e=>b c o n (a c o n e)
theorem Yt.same(h:Yb H H'):Yt Pt H H':=fun b o _ e=>h b o e
theorem Yx.same{pos:Pos}{q:Str}(l:Yx Pt pos q H)(h:Yb H H'):Yx Pt pos q H':=by
 obtain⟨ps,a,b,c⟩:=l;refine⟨ps,h _ _ a,b,?_⟩
 rcases c with c | ⟨c',c,d⟩
 ·exact .inl c
 ·exact .inr ⟨c',c,h _ _ d⟩
theorem Ev{a:Addr}{xs:List V}(s:Yt Pt H H')(hz:H Pt=some (.tbl ps))(h1:Yo K H a xs):Yo K H' a xs:=by
 rcases h1 with (h1 | ⟨o,h1⟩) | h1
 ·exact .inl (.inl (s a _ (fun q=>by rw[q,hz]at h1;cases h1) h1))
 ·exact .inl (.inr ⟨o,s a _ (fun q=>by rw[q,hz]at h1;cases h1) h1⟩)
 ·exact .inr h1
theorem UK{a:Addr}{xs:List V}(s:Yt Pt H H')(hz:H Pt=some (.tbl ps))(h1:Yw K H a xs):Yw K H' a xs:=by
 rcases h1 with (h1 | ⟨o,h1⟩) | h1
 ·exact .inl (.inl (s a _ (fun q=>by rw[q,hz]at h1;cases h1) h1))
 ·exact .inl (.inr ⟨o,s a _ (fun q=>by rw[q,hz]at h1;cases h1) h1⟩)
 ·exact .inr h1
mutual
theorem Yh.tab(s:Yt Pt H H')(hz:H Pt=some (.tbl ps)):∀(d:Dv) (v:V),Yh K H d v->Yh K H' d v
 | .non,v,h=>by unfold Yh at *;exact h
 | .bl b,v,h=>by unfold Yh at *;exact h
 | .int i,v,h=>by unfold Yh at *;exact h
 | .str x,v,h=>by unfold Yh at *;exact h
 | .tup ds,v,h=>by
  unfold Yh at *;obtain⟨a,xs,e,h1,h2⟩:=h;exact⟨a,xs,e,Ev s hz h1,Yd.tab s hz ds xs h2⟩
 | .lst ds,v,h=>by
  unfold Yh at *;obtain⟨a,xs,e,h1,h2⟩:=h;exact⟨a,xs,e,UK s hz h1,Yd.tab s hz ds xs h2⟩
theorem Yd.tab(s:Yt Pt H H')(hz:H Pt=some (.tbl ps)):∀(ds:List Dv) (xs:List V),Yd K H ds xs->Yd K H' ds xs
 | [],xs,h=>by unfold Yd at *;exact h
 | d::ds,xs,h=>by
  unfold Yd at *;obtain⟨x,r,e,h1,h2⟩:=h;exact⟨x,r,e,Yh.tab s hz d x h1,Yd.tab s hz ds r h2⟩
end
noncomputable def BMn(mg:Str->Option Value)(h:Heap):Prop:=∃bm ob,mg "__builtins__" = some (.ref bm)/\bm≠builtinsNs/\h.get? bm=some ob/\ob.cls=.type "module" /\ ob.dict=some builtinsNs/\ob.data=.plain
section
variable {X:Cx}{Ya:List (Addr × Obj)}{Z:List (Option V)}{H:Hp}{s:Shared}{h':Heap}
theorem Yg.grow {c':Addr} {more:Array Value} {t':Nat} {q:Str} (I:Yg X Ya Z H s) (hP:H Pt=some (.tbl ps)) (hx:Heap.ExtBut Pt s.heap h') (hP':h'.get? Pt=some (tabObj (ps++more)))
 (hc:s.heap.objs.size<=c') (hr:h'.CodeRec (.ref c') q):Yg X Ya Z (upd (upd H Pt (.tbl (ps++more))) c' (CdO c' q)) { s with heap:=h',toks:=t' }:=by
 have hcn:H c'=none:=I.hok.fresh hc;have hcP:c'≠Pt:=fun z=>by rw[z,hP]at hcn;cases hcn
 have hn:∀b,H b=none->b≠Pt:=fun b e z=>by rw[z,hP]at e;cases e
 have hs:∀b u,H b=some u->b≠c':=fun b u e z=>by rw[z,hcn]at e;cases e
 have up:∀b,b≠c'->b≠Pt->upd (upd H Pt (.tbl (ps++more))) c' (CdO c' q) b=H b:=fun b n1 n2=>by rw[AJ n1,AJ n2]
 refine I.un ⟨fun b o e n _ _=>hx b o (hn b n) e,fun b o e n _ _=>⟨o.slots,hx b o (hn b n) e⟩,fun b o e n _=>?_,fun b o e _=>?_,fun b xs e=>?_,fun b o u e=>?_,fun b qs e=>?_⟩ fun b u e=>?_
 ·rw[up b (ZT (ZY (ZF e) hc)) (hn b n)];exact n
 ·by_cases z:b=Pt
  ·subst z;exact⟨_,hP'⟩
  ·exact⟨o,hx b o z e⟩
 ·have z:b≠Pt:=fun z=>by rw[z,hP]at e;cases e
  rw[up b (hs b _ e) z];exact e
 ·have z:b≠Pt:=fun z=>by rw[z,hP]at e;cases e
  rw[up b (hs b _ e) z];exact e
 ·by_cases z:b=Pt
  ·subst z;rw[hP]at e;cases e;exact⟨more,by rw[AJ (Ne.symm hcP),AD]⟩
  ·exact⟨#[],by rw[up b (hs b _ e) z,e];simp⟩
 ·by_cases z:b=c'
  ·subst z;rw[AD]at e;cases e;exact Rk hr
  ·rw[AJ z]at e
   by_cases y:b=Pt
   ·subst y;rw[AD]at e;cases e;exact hP'
   ·rw[AJ y]at e;refine(I.hok b u e).stay (fun c v hc' r=>hx c v ?_ r) (fun c r=>?_) fun c xs r=>?_
    ·rcases hc' with k | k
     ·rw[k];exact y
     ·rintro rfl;rw[hP]at k;cases k
    ·rw[up c (hs c _ r) (fun k=>by rw[k,hP]at r;cases r)];exact r
    ·rw[up c (hs c _ r) (fun k=>by rw[k,hP]at r;cases r)];exact r
end
theorem Ri {P:Program} {w:World} {mg mb:Str->Option Value} {CX:CXT} {k:Nat} {fa a:Addr} {fd:FuncData} {x:Str} {sp:Sp} {s₁:Shared} {vs:List Value} {ns:List Int} {ts:List (Addr × Addr)}
 (KX:K.In s₁.heap) (hns:s₁.heap.Ns mainGlobals mg) (hb:s₁.heap.Ns builtinsNs mb) (hbb:∀x:Str,x ≠ "__name__" -> mb x=bootBuiltins x) (hlim:s₁.heap.NoLimit) (hg:s₁.gens = #[])
 (ha:s₁.heap.get? a=some { cls:=.type "list",data:=.seq vs.toArray }) (hi:IntsAre vs ns) (hl:ns.length<=sizeLine) (hr:Room k callerA) (hbm:BMn mg s₁.heap) (hT:TabsAt ts s₁.heap) (hnt:noTabs K=true)
 (F:∀base:Heap,K.In base->base.Ns mainGlobals mg->BMn mg base->FnOk P w K mg base CX k fa fd [x] sp) (hbind:∀(s:Shared) (u:Value),BindsTo s fd ⟨[u],[]⟩ [(x,u)])
 (hsp:∀H:Hp,(∀q∈ts,H q.2=some (.tbl #[]))->Yw K H a (ns.map V.int)->sp [.ref a] H (fun v _=>v=.bl true) fun _ _ _=>False)
 (hCX:∀H e s',CX [] H s₁ (fun _ _ _=>False) e s'->False) :
 codeAny (model P w) callerA (.call (.ref fa) ⟨[.ref a],[]⟩) (fun r s'=>r=.ok (.ret (.bool true))/\OldK s₁.heap s'.heap/\s'.os=s₁.os/\AllBare s'.gens) s₁:=by
 have rv:=LO hi;have lenV:=hi.length
 have tabK:∀b,b∈ts.map (·.2)->K.lookup b=none:=fun b hb'=>by
  obtain⟨q,hq,rfl⟩:=ZM.mp hb';cases e:K.lookup q.2 with
  | none=>rfl
  | some o =>
   have e1:=KX _ _ e;rw[(hT q hq).2]at e1;cases e1;have h2:=Zy.mp hnt (q.2,tabObj #[]) (mem_of_lookupK e);exact absurd (show false=true from h2) ZBE
 have tabO:∀b,b∈ts.map (·.2)->s₁.heap.get? b=some (tabObj #[]):=fun b hb'=>by
  obtain⟨q,hq,rfl⟩:=ZM.mp hb';exact(hT q hq).2
 have core:∀H:Hp,(∀b,H b=none\/(∃o xs,H b=some (.frz o (.lst xs)))\/(b∈ts.map (·.2)/\H b=some (.tbl #[])))->(∀q∈ts,H q.2=some (.tbl #[]))->Yw K H a (ns.map V.int)->HOk P w H s₁.heap->(∀b,H b≠none->b=a\/b∈ts.map (·.2))->(H a≠none->K.lookup a=none) ->
  codeAny (model P w) callerA (.call (.ref fa) ⟨[.ref a],[]⟩) (fun r s'=>r=.ok (.ret (.bool true))/\OldK s₁.heap s'.heap/\s'.os=s₁.os/\AllBare s'.gens) s₁:=by
  intro H hO hTs hS hok hA hK;have base_of:∀{b:Addr} {o:Obj},s₁.heap.get? b=some o->H b=none->(CZ s₁.heap H).get? b=some o:=fun e n=>M5 e n
  have noA:∀{b:Addr} {o:Obj},s₁.heap.get? b=some o->(∀as n,o.data≠.seq as n)->(∀as,o.data≠.fields as)->H b=none:=fun {b o} e d d2=>by
   cases q:H b with
   | none=>rfl
   | some u =>
    rcases hA b (by rw[q];simp) with e' | e'
    ·subst e';rw[ha]at e;cases e;exact absurd rfl (d _ _)
    ·rw[tabO b e']at e;cases e;exact absurd rfl (d2 _)
  have nsK:∀{b:Addr} {m:Str->Option Value},s₁.heap.Ns b m->(CZ s₁.heap H).Ns b m:=fun {b m} ⟨o,es,ep,e,d,r⟩=>⟨o,es,ep,base_of e (noA e (fun _ _=>by rw[d];simp) (fun _=>by rw[d];simp)),d,r⟩
  have hKb:K.In (CZ s₁.heap H):=fun b o e=>base_of (KX b o e) (by
   cases q:H b with
   | none=>rfl
   | some u =>
    rcases hA b (by rw[q];simp) with e' | e'
    ·subst e';rw[hK (by rw[q];simp)]at e;cases e
    ·rw[tabK b e']at e;cases e)
  have hM:Mod K mg (CZ s₁.heap H):=⟨hKb,nsK hns,⟨mb,nsK hb,hbb⟩,let ⟨mc,h1,h2⟩:=hlim;⟨mc,nsK h1,h2⟩⟩
  have hBb:BMn mg (CZ s₁.heap H):=by
   obtain⟨bm,ob,b1,b2,b3,b4,b5,b6⟩:=hbm;exact⟨bm,ob,b1,b2,base_of b3 (noA b3 (fun _ _=>by rw[b6];simp) (fun _=>by rw[b6];simp)),b4,b5,b6⟩
  have e0:Env0 P w K mg (CZ s₁.heap H) callerA [] s₁ H:=⟨rfl,hM,fun b o e=>OY e,ZBf (MM _ _),trivial,fun b hb=>absurd (show b∈([]:List Addr) from hb) (by simp),hok,.of_eq hg⟩;refine ZBN ((F _ hKb (nsK hns) hBb).run callerA [] s₁ H ⟨[.ref a],[]⟩ [.ref a] [.ref a] _ _ hr e0 (hbind s₁ (.ref a)) (.cons rfl .nil) (hsp H hTs hS)) fun r s' h=>?_
  cases r with
  | error e=>exact(hCX H e s' h).elim
  | ok fl =>
   cases fl with
   | next=>exact False.elim h
   | brk=>exact False.elim h
   | cont=>exact False.elim h
   | ret u =>
    obtain⟨v,H',os,bare,un,hok',r',q⟩:=h;have q':v=.bl true:=q;subst q';obtain rfl:u=Value.bool true:=r'
    have kk:∀b o,s₁.heap.get? b=some o->b∉ts.map (·.2)->s'.heap.get? b=some o:=fun b o e nb=>by
     cases q:H b with
     | none=>exact un.keep b o e q (by intro z;exact absurd (show b∈([]:List Addr) from z) (by simp)) (by simp)
     | some u =>
      rcases hO b with z | ⟨ob,xs,z⟩ | ⟨z,_⟩
      ·rw[q]at z;cases z
      ·have z2:=un.frzs b ob _ z;obtain⟨e1,_⟩:=hok b _ z;obtain⟨e2,_⟩:=hok' b _ z2;rw[e]at e1;cases e1;exact e2
      ·exact absurd z nb
    have tt:∀b,b∈ts.map (·.2)->∃more,s'.heap.get? b=some (tabObj more):=fun b hb'=>by
     obtain⟨q,hq,rfl⟩:=ZM.mp hb';obtain⟨more,e⟩:=un.tbls _ _ (hTs q hq);exact⟨_,hok' _ _ e⟩
    refine⟨rfl,⟨fun b o e=>?_,fun b o e=>?_⟩,os,bare⟩
    ·by_cases z:b∈ts.map (·.2)
     ·obtain⟨more,e2⟩:=tt b z;have e3:=tabO b z;rw[e]at e3;cases e3;obtain⟨q,hq,rfl⟩:=ZM.mp z;refine .inr (.inl ⟨((hT q hq).1.tab (hT q hq).2).isCodeTable,rfl,#[],more,rfl,by rw[e2];simp⟩)
     ·exact .inl (kk b o e z)
    ·by_cases z:b∈ts.map (·.2)
     ·obtain⟨more,e2⟩:=tt b z;exact⟨_,e2⟩
     ·exact⟨o,kk b o e z⟩
 have aT:a∉ts.map (·.2):=fun z=>by
  have e:=tabO a z;rw[ha]at e;cases e
 have tm:∀q∈ts,q.2∈ts.map (·.2):=fun q hq=>List.mem_map_of_mem hq
 cases hk:K.lookup a with
 | some o =>
  have e:=KX a o hk;rw[ha]at e;cases e;refine core (fun b=>if b∈ts.map (·.2) then some (.tbl #[]) else none) (fun b=>?_) (fun q hq=>if_pos (tm q hq)) (.inr ⟨_,vs.toArray,_,hk,rfl,rfl,rfl,by rw[ZI,lenV];exact hl,by simpa using rv⟩) (fun b u z=>?_) (fun b z=>?_) fun z=>absurd (if_neg aT) z
  ·by_cases z:b∈ts.map (·.2)
   ·exact .inr (.inr ⟨z,if_pos z⟩)
   ·exact .inl (if_neg z)
  ·by_cases y:b∈ts.map (·.2)
   ·have z':=(if_pos y).symm.trans z;cases z';exact tabO b y
   ·have z':=(if_neg y).symm.trans z;cases z'
  ·by_cases y:b∈ts.map (·.2)
   ·exact .inr y
   ·exact absurd (if_neg y) z
 | none =>
  refine core (fun b=>if b=a then some (.frz { cls:=.type "list",data:=.seq vs.toArray } (.lst (ns.map V.int))) else if b∈ts.map (·.2) then some (.tbl #[]) else none) (fun b=>?_) (fun q hq=>?_) (.inl (.inr ⟨{ cls:=.type "list",data:=.seq vs.toArray },if_pos rfl⟩)) (fun b u z=>?_) (fun b z=>?_) fun _=>hk
  ·by_cases hb:b=a
   ·exact .inr (.inl ⟨_,_,if_pos hb⟩)
   ·by_cases y:b∈ts.map (·.2)
    ·exact .inr (.inr ⟨y,(if_neg hb).trans (if_pos y)⟩)
    ·exact .inl ((if_neg hb).trans (if_neg y))
  ·have hb:q.2≠a:=fun z=>aT (z ▸ tm q hq)
   exact(if_neg hb).trans (if_pos (tm q hq))
  ·by_cases hb:b=a
   ·have z':=(if_pos hb).symm.trans z;cases z';subst hb;exact⟨ha,by rw[ZB];exact hl,vs,_,rv,ha⟩
   ·by_cases y:b∈ts.map (·.2)
    ·have z':=((if_neg hb).trans (if_pos y)).symm.trans z;cases z';exact tabO b y
    ·have z':=((if_neg hb).trans (if_neg y)).symm.trans z;cases z'
  ·by_cases hb:b=a
   ·exact .inl hb
   ·by_cases y:b∈ts.map (·.2)
    ·exact .inr y
    ·exact absurd ((if_neg hb).trans (if_neg y)) z
theorem walk_ofT {l:PySem.W.OpenLaw} {n k:Nat} {q:Program} {loose:List Str} {XP:(Str->Option Value)->Heap->Prop} {YP:World->Heap->Prop} {d:DefRec} {K:Params->W.Frag} {sp:World->List Addr->Sp} {x:Str}
 (hn:l.most=some n) (hn2:n<=sizeLine) (hdf:d.params.defaults=[]) (hr:Room k callerA)
 (hY:∀(w:World) (h:Heap),YP w h->(K w.params).In h)
 (F:∀(w:World) (mg:Str->Option Value) (fa:Addr) (h:Heap),YP w h->(K w.params).In h->h.Ns mainGlobals mg->mg d.name=some (.ref fa) ->
   ∃(fd:FuncData) (ts:List (Addr × Addr)),TabsAt ts h/\noTabs (K w.params)=true/\(∀(s:Shared) (u:Value),BindsTo s fd ⟨[u],[]⟩ [(x,u)]) /\
    ∀base:Heap,(K w.params).In base->base.Ns mainGlobals mg->BMn mg base->FnOk l.prog w (K w.params) mg base CX0 k fa fd [x] (sp w (ts.map (·.2))))
 (hsp:∀(w:World) (H:Hp) (a:Addr) (ns:List Int) (ts:List Addr),ns.length<=n->(∀Pt∈ts,H Pt=some (.tbl #[]))->Yw (K w.params) H a (ns.map V.int)->sp w ts [.ref a] H (fun v _=>v=.bl true) fun _ _ _=>False) :
 PySem.W.WalkO q loose XP YP l.row.toRowW d [] (fun f vs=>PySem.call f vs):=by
 refine Att.attach_call hn hdf fun w s₀ s₁ mg mb fa o pm cd doc a vs ns G Y ho hd hcd hmg hobj hints Ym hg=>?_
 have KX:=hY w _ Y;obtain⟨fd,ts,hT,hnt,hb,hF⟩:=F w mg fa _ Y KX G.T.g hmg
 exact Ri KX G.T.g G.T.b G.T.builtins G.T.nolimit hg hobj hints (Zj Ym hn2) hr G.T.bmain hT hnt hF hb (fun H hO hS=>hsp w H a ns _ Ym (fun Pt hP=>by
  obtain⟨q,hq,rfl⟩:=ZM.mp hP;exact hO q hq) hS) fun H e s' z=>z
theorem Fun.okC {P:Program} {w:World} {mg:Str->Option Value} {base:Heap} {x qual:Str} {st:Stmt} {f c:Addr} {fd:FuncData} {N ps:List Str} {k:Nat} {sp:Sp} (F:Fun K x qual st f fd) (hc:fd.code=.ref c) (S:FnScope N ps (AL st)) (len:∀vs H Q E,sp vs H Q E->vs.length=ps.length)
 (hbody:∀(A:Around) (outer:List Env) (s:Shared) (H:Hp) (vs:List V) (Q:VK) (E:XK),Room k (A.deeper (envOfC qual (AL st) s.heap.objs.size f (.ref c)))->sp vs H Q E ->
   ∃t,PSs (Db CX0 P w K mg base N qual (AL st) f (.ref c) A outer s H E).nox (BY st) t/\t { nx:=fun _ H'=>Q .non H',rt:=Q } (C9 N vs) H):FnOk P w K mg base CX0 (k+1) f fd ps sp:=by
 obtain⟨oc,od,kV,doc,pm,an,Yy,ct,osl,rfl,lk,hcd⟩:=F.ex;cases hc;refine OV lk hcd S len fun A outer s H vs Q E hr hsp=>?_
 obtain⟨t,h,q⟩:=hbody A outer s H vs Q E hr hsp;exact⟨t,h.nox,q⟩
end L2
namespace L2
open PySem
noncomputable def Gg(K:W.Frag)(ts:List Addr):Sp:=fun vs H Q _=>∃(a:Addr) (ns:List Int),vs=[.ref a]/\Yw K H a (ns.map V.int)/\ns.length<=63/\(∀Pt∈ts,H Pt=some (.tbl #[]))/\∀H',Q (.bl true) H'
theorem LR{Pt:Addr}{pos:Pos}{q:Str}{H:Hp}(h:H Pt=some (.tbl #[])):Yx Pt pos q H:=⟨#[],h,trivial,.inl rfl⟩
end L2
namespace L2
open PySem PySem.Spec PyProof.Rows
section
variable {X:Cx}{K:W.Frag}
noncomputable def OL(K:W.Frag):List V->Hp->VK->Prop:=fun xs H Q=>match xs with
 | [.ref l]=>∃bs:List Bool,Yw K H l (bs.map V.bl)/\Q (.bl (bs.any id)) H
 | _=>False
theorem Rz(hc:X.calm=true):CallR X (.builtin "any") (OL X.K):=by
 intro Ya s Z H xs us Q I r q
 match xs,q with
 | [.ref l],q =>
 obtain⟨bs,hl,q⟩:=q;obtain⟨u,rfl,ru⟩:=BN r;cases ru;obtain⟨Ye,rv,pl,hz⟩:=I.list hl;have Ym:=rv.length;rw[ZB]at Ym;obtain⟨o1,n1,g1,_⟩:=id pl;have Yq:=ZF g1;refine call_any_walk (wpAny_pyIter_list pl.isList ?_);have Yu:l≠s.heap.objs.size:=ZT Yq;refine⟨_,_,_,_,_,_,fun i=>bs.getD i false,rfl,Walks.list (A:=X.A.in1) (I.ok.hd hc) s.heap.objs.size l Yu Ye.toArray,?_,?_,fun h' tk hk=>?_⟩
 ·exact⟨⟨_,ZS _ rfl,rfl,rfl⟩,(show s.heap.IsList l Ye.toArray from pl.isList).at fun o e=>ZH _ e⟩
 ·intro i v s' Q' E' hv hq;have hv:Ye.toArray[i]? = some v:=hv
  have hi:i < Ye.length:=by
   have:=(Array.getElem?_eq_some_iff.mp hv).1
   simpa using this
  have hb:(bs.map V.bl)[i]? = some (.bl bs[i]):=by rw[ZR,ZE (by lia)];rfl
  obtain⟨w',q1,q2⟩:=rv.get hb;have e:v=w':=by simp at hv;rw[q1]at hv;exact(ZV hv).symm
  subst e;cases q2;refine ZBB ?_;have e2:bs.getD i false=bs[i]:=by rw[ZQ,ZE (by lia)];rfl
  have hq:Q' (bs.getD i false) s':=hq;rw[e2]at hq;exact hq
 ·refine⟨.bl _,H,I.kept (fun b o e=>hk b o ?_ (ZH _ e)),rfl,?_⟩
  ·simp only[ZO];exact ZT (ZF e)
  ·have e:(List.range Ye.toArray.size).any (fun i=>bs.getD i false)=bs.any id:=by
    rw[ZI,<- Ym];rw[Z2,ZBR,ZBR];constructor
    ·rintro⟨i,hi,e⟩;have hi':=Ze.mp hi;rw[ZQ,ZE hi']at e;exact⟨_,Zd hi',e⟩
    ·rintro⟨b,hb,e⟩;obtain⟨i,hi,rfl⟩:=List.mem_iff_getElem.mp hb;refine⟨i,Ze.mpr hi,?_⟩;rw[ZQ,ZE hi];exact e
   rw[e];exact q
theorem VR(hc:X.calm=true)(hK:X.K=K:=by rfl):CallR X (.builtin "any") (OL K):=hK ▸ Rz hc
end
end L2
namespace L2
theorem on1{α:Type}{P:List α->Prop}(h:∀a,P [a]):∀us:List α,us.length=1->P us
 | [a],_=>h a
theorem on2{α:Type}{P:List α->Prop}(h:∀a b,P [a,b]):∀us:List α,us.length=2->P us
 | [a,b],_=>h a b
theorem on3{α:Type}{P:List α->Prop}(h:∀a b c,P [a,b,c]):∀us:List α,us.length=3->P us
 | [a,b,c],_=>h a b c
theorem on4{α:Type}{P:List α->Prop}(h:∀a b c d,P [a,b,c,d]):∀us:List α,us.length=4->P us
 | [a,b,c,d],_=>h a b c d
open PySem in
theorem star_lst{xs es:List PySem.Expr}{p:Pos}{env:Env}:starEach (.List xs p::es) env=(false,eval (.List xs p) env)::starEach es env:=by rfl
end L2
namespace L2
open PySem
noncomputable def Ln:Expr->Bool
 | .ListComp ..=>true
 | .SetComp ..=>true
 | .DictComp ..=>true
 | _=>false
theorem Vg{e:Expr}{t:Option Expr}{l:Nat}{env:Env}(h:Ln e=false):swapsWith e t l env=pure false:=by
 cases e <;> first | rfl | cases h
theorem UP{X:Cx}{pos:Pos}{i:Nat}{x:Str}{e:Expr}{te:TE}{pos':Pos}(hN:X.N.Nodup)(hi:X.N[i]? = some x)(hx:Loc X.env.scope x)(he:PE X e te)(hs:Ln e=false)(hf:X.fn x=true\/X.env.scope.names.lookup x=some .local) :
 PS X (.Assign [.Name x pos'] e pos) (Eg te (AZ i)):=AN hN hi hx he (Vg hs) hf
end L2
namespace L2
open PySem PyProof.Rows
theorem XE:∀{ns:List Int} {us:List Value},IntsAre us ns->Yk (ns.map V.int) us:=by
 intro ns us h
 induction h with
 | nil=>exact .nil
 | cons _ _ _ ih=>exact .cons ⟨_,rfl⟩ ih
noncomputable def Fx:V->List V->Hp->VK->Prop:=fun x vs H Q=>match x,vs with
 | .ref l,[.int i,y]=>∃xs,H l=some (.lst xs)/\0<=i/\i<=xs.length/\xs.length < 1000/\Q .non (upd H l (.lst (xs.take i.toNat++y::xs.drop i.toNat)))
 | _,_=>False
theorem MT:∀{xs:List V} {us:List Value} {y:V} {u:Value} (k:Nat),Yk xs us->Yi y u->Yk (xs.take k++y::xs.drop k) (us.take k++u::us.drop k)
 | _,_,_,_,0,r,ry=>by simpa using Paired.cons ry r
 | _,_,_,_,k+1,.nil,ry=>by simpa using Paired.cons ry .nil
 | _,_,_,_,k+1,.cons r t,ry=>by simpa using Paired.cons r (MT k t ry)
section
variable {X:Cx}{K:W.Frag}{o e e2:Expr}{to:TE}{t:TA}{apos cpos:Pos}
theorem O8:MtR X "list.insert" Fx:=by
 intro Ya s Z H x vs v us Q I rx rv q
 match x,vs,q with
 | .ref l,[.int i,y],⟨xs,hH,h1,h2,h3,q⟩ =>
 cases rx;obtain⟨u1,u,rfl,⟨tk,rfl⟩,ru⟩:=Ea rv;obtain⟨z,Ye,n,r,hl,e⟩:=I.lstM hH;have hi63:i < 2 ^ 63:=by lia
 have hfit:¬(!Builtin.List.listFitsIndex i)=true:=by
  rw[fitsIndex_both (by lia) hi63];exact ZBE
 refine call_meets F.slot_list_insert ⟨_,e,rfl⟩ F.entry_list_insert (F.args_list_insert_3 _ _ _) (AutoListH.list_insert_list_int_val_1 l Ye.toArray n i tk u hfit (by rw[ZI];lia)) ⟨e,?_⟩;refine⟨.non,_,I.lset (its':=Ye.take i.toNat++u::Ye.drop i.toNat) hH e ?_ (MT i.toNat r ru) ?_,rfl,q⟩
 ·have hm:min i.toNat Ye.length=i.toNat:=by lia
  show(have k:=if i < 0 then (i+((Ye.toArray.size:Nat):Int)).toNat else min i.toNat Ye.toArray.size;(Ye.toArray.extract 0 k).push u++Ye.toArray.extract k)=_
  rw[if_neg (by lia),ZI,hm];apply Array.toList_inj.mp;simp;exact ZBQ (by rw[ZBG];exact ZD _)
 ·rw[ZN,Zn,Za,ZBG];exact DL (by lia)
theorem Ub (ho:PE X o to) (ha:PA X [e,e2] t) (hbase:attributeBase o "insert" X.env (eval o X.env)=eval o X.env:=by rfl)
 (hfew:((backTo cpos (starEach [e,e2] X.env)).all (fun x=>!x.1) && (backToKw cpos (keywordEach [] X.env)).all (fun x=>x.1.isSome)
   && decide ([e,e2].length+([]:List Keyword).length+(if ([]:List Keyword).isEmpty then 0 else 1) < 30))=true:=by rfl)
 (hline:(apos.endLine == cpos.line)=true:=by rfl) (hs:starEach [e,e2] X.env=(false,eval e X.env)::starEach [e2] X.env:=by rfl) (hplain:(backTo cpos (starEach [e2] X.env)).any (·.1)=false:=by rfl) (hK:X.K=K:=by rfl) :
 PE X (.Call (.Attribute o "insert" apos) [e,e2] [] cpos) (tBM K "list" Fx to t):=hK ▸ GE PySem.F.plainAttrs_list PySem.F.slot_list_insert PySem.F.type_list_insert O8 ho ha hbase hfew hline hs hplain
theorem Tg:FI Fx:=fun x xs H Q Q' h q=>by
 unfold Fx at *;split at q
 ·obtain⟨ys,a,b,c,d,q⟩:=q;exact⟨ys,a,b,c,d,h _ _ q⟩
 ·exact q.elim
end
end L2
namespace HT
open PySem PyProof.Rows
section
variable {prog:Program}{w:World}{A:Around}{E:Value->Shared->Prop}{s:Shared}
theorem getItem_tuple_whole {t sl:Addr} {items:Array Value} {vl vu:Value} {lo hi:Option Int} {Q:Value->Shared->Prop} (ht:IsTup s.heap t items) (hs:s.heap.IsSliceOf sl vl vu .none) (pl:IsPart vl lo) (pu:IsPart vu hi)
 (hw:sIx items.size 0 lo=0/\sIx items.size items.size hi=items.size)
 (h:Q (.ref t) s):wpAny (model prog w) A (getItem (.ref t) (.ref sl)) Q E s:=by
 obtain⟨os,hos,hcs,hds⟩:=id hs;have hTs:s.TypeIs (.ref sl) "slice":=⟨os,hos,hcs⟩;unfold getItem
 try with_reducible refine Zk ?_
 first | refine ZA (ZC ?_) | skip
 refine ZA (wpAny_sequenceKey ht.typeIs (by decide) ?_)
 refine ZA (wpAny_callSpecial?_slot (name:=Str.ofString "__getitem__") ht.typeIs PyProof.Rows.slot_tuple_getitem
  (Z1 PyProof.Rows.slot_tuple_getitem ht.typeIs entry_tuple_getitem ?_ (args_tuple_getitem _ _)))
 show wpAny _ _ (Builtin.Tuple.tupleItemsOf (.ref t) >>= _) _ _ s;refine ZA (tupleItemsOf_ ht ?_);refine ZA (wpAny_typeOf hTs ?_);rw[if_pos (by decide)];refine ZA (NQ hs pl pu ?_);rw[hw.1,hw.2];show wpAny _ _ (if (((0:Nat):Int) == 0 && (1:Int) == 1 && (items.size - 0) == items.size)=true then _ else _) _ _ s;have hyes:(((0:Nat):Int) == 0 && (1:Int) == 1 && (items.size - 0) == items.size)=true:=by simp
 rw[if_pos hyes];unfold Builtin.Tuple.tupleIsExact;refine ZA (ZA (wpAny_typeOf ht.typeIs (ZC ?_)));rw[if_pos (by decide)];refine ZA (wpAny_rule ?_)
 first
  | exact ZA (ZC ⟨_,rfl,ZC h⟩)
  | exact ZC ⟨_,rfl,ZC h⟩
  | exact ZA (ZC (ZC ⟨_,rfl,ZC h⟩))
  | exact ZA (ZA (ZC (ZC ⟨_,rfl,ZC h⟩)))
end
end HT
namespace L2
open PySem PySem.Spec PyProof.Rows
section
variable {X:Cx}{K:W.Frag}{e sx:Expr}{te ts:TE}{lo hi:Option Expr}{tl th:TO}{pos p2:Pos}
noncomputable def Iu(K:W.Frag):V->Option Int->Option Int->Hp->VK->Prop:=fun x lo hi H Q=>match x with
 | .ref a=>∃xs,Yo K H a xs/\∀p H',Yb H H'->Yo K H' p (BS xs lo hi)->Q (.ref p) H'
 | _=>False
theorem Tx:SlR X (Iu X.K):=by
 intro Ya s Z H x v vl vu lo hi sl Q I rx hs pl pu q;cases x with
 | ref a =>
  obtain⟨xs,hx,q⟩:=q
  by_cases hw:HT.sIx xs.length 0 lo=0/\HT.sIx xs.length xs.length hi=xs.length
  ·cases rx;obtain⟨Ye,r,ht,hz⟩:=I.tuple hx;have Ym:Ye.toArray.size=xs.length:=by rw[ZI];exact r.length.symm
   refine⟨"tuple",_,PyProof.Rows.slot_tuple_getitem.lookup,ht.typeIs,?_⟩;refine HT.getItem_tuple_whole ht hs pl pu (by rw[Ym];exact hw) ⟨.ref a,H,I,rfl,q a H (fun _ _ h=>h) ?_⟩
   have:BS xs lo hi=xs:=by
    unfold BS;rw[hw.1,hw.2,List.drop_zero,ZBQ (by lia)]
   rw[this];exact hx
  ·exact L8 Ya s Z H _ v vl vu lo hi sl Q I rx hs pl pu ⟨a,xs,rfl,hx,hw,fun p hp=>q p _ (Yb.upd hp) (.of AD)⟩
 | _=>exact False.elim q
theorem Kb(he:PE X e te)(hl:PO X lo tl)(hu:PO X hi th)(hK:X.K=K:=by rfl):PE X (.Subscript e (.Slice lo hi none p2) pos) (tSl (Iu K) te tl th):=hK ▸ K4 Tx he hl hu
theorem Rp(h:Af te)(h1:Fh tl)(h2:Fh th):Af (tSl (Iu K) te tl th):=fun Z H Q Q' k q=>h _ _ _ _ (fun v _ q=>h1 _ _ _ _ (fun _ _ q=>h2 _ _ _ _ (fun _ _ q=>by
 cases v <;> first | exact False.elim q | (obtain⟨xs,a,q⟩:=q;exact⟨xs,a,fun p H' s r=>k _ _ (q p H' s r)⟩)) q) q) q
end
end L2
namespace HT
open PySem PyProof.Rows
section
variable {prog:Program}{w:World}{A:Around}{E:Value->Shared->Prop}{s:Shared}
theorem cat_none{t b:Addr}{ws:List Value}{Q:Value->Shared->Prop}(ht:IsTup s.heap t #[])(hb:IsTup s.heap b ws.toArray)(h:Q (.ref b) s) :
 wpAny (model prog w) A (binaryOp .Add (.ref t) (.ref b)) Q E s:=by
 obtain⟨⟨cls,dd,data,sl⟩,ho,hc,n,hd⟩:=id ht;obtain⟨⟨cls2,dd2,data2,sl2⟩,ho2,hc2,n2,hd2⟩:=id hb;simp only at hc hd hc2 hd2;subst hc hd hc2 hd2
 exact concat_meets ⟨_,ho,rfl⟩ ⟨_,ho2,rfl⟩ noFill_tuple_add seq_tuple_add PySem.F.slot_tuple_add PySem.F.entry_tuple_add (PySem.F.args_tuple_add_2 _ _)
  (tuple_addW0 t b #[] ws.toArray n n2 dd dd2 sl sl2 rfl) ⟨ho,ho2,h⟩
end
end HT
namespace L2
open PySem PySem.Spec PyProof.Rows
section
variable {X:Cx}{K:W.Frag}
noncomputable def KL(K:W.Frag):R2:=fun x y H Q=>match x,y with
 | .int i,.int j=>Q (.int (i+j)) H
 | .ref a,.ref b=>Jf (.ref a) (.ref b) H Q\/∃xs ys,Yo K H a xs/\Yo K H b ys/\xs.length+ys.length<=sizeLine/\∀p H',Yb H H'->Yo K H' p (xs++ys)->Q (.ref p) H'
 | _,_=>False
theorem S9:Yv X (binaryOp .Add) (KL X.K):=by
 intro Ya s Z H x y v u Q I rx ry q
 cases x <;> cases y <;> first
  | exact False.elim q
  | exact K3 Ya s Z H _ _ v u Q I rx ry ⟨_,_,rfl,rfl,q⟩
  | skip
 rename_i a b
 rcases q with q | ⟨xs,ys,ha,hb,hz,q⟩
 ·exact Ko Ya s Z H _ _ v u Q I rx ry q
 by_cases hx:xs=[]
 ·subst hx;cases rx;cases ry;obtain⟨Ye,r1,p1,_⟩:=I.tuple ha;obtain⟨its2,r2,p2,_⟩:=I.tuple hb;cases r1;exact HT.cat_none p1 p2 ⟨.ref b,H,I,rfl,q b H (fun _ _ h=>h) hb⟩
 ·exact K7 Ya s Z H _ _ v u Q I rx ry ⟨a,b,xs,ys,rfl,rfl,ha,hb,hx,hz,fun e=>q a H (fun _ _ h=>h) (by rw[e,Zq];exact ha),fun _ p hp=>q p _ (Yb.upd hp) (.of AD)⟩
theorem Fv(hK:X.K=K:=by rfl):Yv X (binaryOp .Add) (KL K):=hK ▸ S9
theorem Rw:Bd (KL K):=fun x y H Q Q' m q=>by
 cases x <;> cases y <;> first
  | exact False.elim q
  | exact m _ _ q
  | skip
 rcases q with ⟨l,b,xs,zs,h1,h2,h3,h4,h5,q⟩ | ⟨xs,ys,ha,hb,hz,q⟩
 ·exact .inl ⟨l,b,xs,zs,h1,h2,h3,h4,h5,fun p hp=>m _ _ (q p hp)⟩
 ·exact .inr ⟨xs,ys,ha,hb,hz,fun p H' a b=>m _ _ (q p H' a b)⟩
end
section
variable {X:Cx}{K:W.Frag}
noncomputable def Mj(K:W.Frag):List V->Hp->VK->Prop:=fun xs H Q=>match xs with
 | [.ref l]=>∃ns:List Int,Yw K H l (ns.map V.int)/\0 < ns.length/\∀M,M∈ns->(∀a∈ns,M<=a)->Q (.int M) H
 | _=>False
theorem RP(hc:X.calm=true):CallR X (.builtin "min") (Mj X.K):=by
 intro Ya s Z H xs us Q I r q
 match xs,q with
 | [.ref l],q =>
 obtain⟨ns,hl,Yu,q⟩:=q;obtain⟨u,rfl,ru⟩:=BN r;cases ru;obtain⟨Ye,rv,pl,hz⟩:=I.list hl;have hi:IntsAre Ye ns:=by simpa using Dg rv
 obtain⟨zs,hzs⟩:=(hi.allInts).items;have pl':=pl.isList;rw[hzs]at pl'
 have hns:ns=zs.toList.map (·.1):=by
  rw[<- hi.numsOf,<- nums_intItems,<- hzs]
 have hsz:0 < zs.size:=by
  rw[hns,ZB,Zh]at Yu;exact Yu
 refine min_intList (I.ok.hd hc) pl' hsz fun v h' tk hv hk=>?_
 obtain⟨t,rfl⟩:=intItems_at hv;obtain⟨h1,h2⟩:=argBest_lt (numAt zs) (zs.size - 1);refine⟨.int _,H,I.kept hk,⟨t,rfl⟩,q _ ?_ fun a ha=>?_⟩
 ·rw[hns,numAt_eq];exact getD_mem (by rw[ZB,Zh];lia)
 ·rw[hns]at ha;obtain⟨j,hj,rfl⟩:=mem_getD ha;rw[ZB,Zh]at hj;rw[<- numAt_eq];exact h2 j (by lia)
theorem Ry(hc:X.calm=true)(hK:X.K=K:=by rfl):CallR X (.builtin "min") (Mj K):=hK ▸ RP hc
end
section
variable {X:Cx}{K:W.Frag}
noncomputable def GH(K:W.Frag):List V->Hp->VK->Prop:=fun xs H Q=>match xs with
 | [.ref l]=>∃ns:List Int,Yw K H l (ns.map V.int)/\0 < ns.length/\∀M,M∈ns->(∀a∈ns,a<=M)->Q (.int M) H
 | _=>False
theorem Xf(hc:X.calm=true):CallR X (.builtin "max") (GH X.K):=by
 intro Ya s Z H xs us Q I r q
 match xs,q with
 | [.ref l],q =>
 obtain⟨ns,hl,Yu,q⟩:=q;obtain⟨u,rfl,ru⟩:=BN r;cases ru;obtain⟨Ye,rv,pl,hz⟩:=I.list hl;have hi:IntsAre Ye ns:=by simpa using Dg rv
 obtain⟨zs,hzs⟩:=(hi.allInts).items;have pl':=pl.isList;rw[hzs]at pl'
 have hns:ns=zs.toList.map (·.1):=by
  rw[<- hi.numsOf,<- nums_intItems,<- hzs]
 have hsz:0 < zs.size:=by
  rw[hns,ZB,Zh]at Yu;exact Yu
 refine max_intList (I.ok.hd hc) pl' hsz fun v h' tk hv hk=>?_
 obtain⟨t,rfl⟩:=intItems_at hv;obtain⟨h1,h2⟩:=argBest_gt (numAt zs) (zs.size - 1);refine⟨.int _,H,I.kept hk,⟨t,rfl⟩,q _ ?_ fun a ha=>?_⟩
 ·rw[hns,numAt_eq];exact getD_mem (by rw[ZB,Zh];lia)
 ·rw[hns]at ha;obtain⟨j,hj,rfl⟩:=mem_getD ha;rw[ZB,Zh]at hj;rw[<- numAt_eq];exact h2 j (by lia)
theorem Vc(hc:X.calm=true)(hK:X.K=K:=by rfl):CallR X (.builtin "max") (GH K):=hK ▸ Xf hc
theorem O4:Cw (GH K):=fun xs H Q Q' h q=>by
 unfold GH at *;split at q
 ·obtain⟨ns,a,b,q⟩:=q;exact⟨ns,a,b,fun M x y=>h _ _ (q M x y)⟩
 ·exact q.elim
end
noncomputable def Hm(K:W.Frag)(neg:Bool):R2:=fun x y H Q=>match y with
 | .ref p=>∃(xs:List V) (ds:List Dv) (d:Dv),SqA K H p xs/\Yd K H ds xs/\Yh K H d x/\(∀e∈ds,Az e<=50)/\Q (.bl (neg ^^ ds.any fun e=>eqD e d)) H
 | _=>False
theorem W6{x y:V}{u:Value}(h1:Yi x u)(h2:Yi y u):x=y:=by
 cases x <;> cases y <;> simp only[Yi]at h1 h2 <;> (first | (obtain⟨t,rfl⟩:=h1) | subst h1) <;> (first | (obtain⟨t',e⟩:=h2;cases e;done) | (obtain⟨t',e⟩:=h2;cases e;rfl) | (cases h2;done) | (cases h2;rfl))
open Classical in
noncomputable def Cr(K:W.Frag)(H:Hp)(u:Value):Dv:=if h:∃d x,Yi x u/\Yh K H d x then h.choose else .non
section
variable {X:Cx}{K:W.Frag}{Ya:List (Addr × Obj)}{Z:St}{H:Hp}{s:Shared}
theorem Ma(I:Yg X Ya Z H s){d:Dv}{x:V}{u:Value}(r:Yi x u)(h:Yh X.K H d x):Cr X.K H u=d:=by
 have hx:∃d x,Yi x u/\Yh X.K H d x:=⟨d,x,r,h⟩;unfold Cr;rw[dif_pos hx];obtain⟨y,r',h'⟩:=hx.choose_spec;obtain rfl:=W6 r r';exact Fk I _ _ _ h' h
theorem KW(I:Yg X Ya Z H s){d:Dv}:∀{ds:List Dv} {xs:List V} {us:List Value},Yd X.K H ds xs->Yk xs us->us.any (fun u=>eqD (Cr X.K H u) d)=ds.any fun e=>eqD e d
 | [],_,_,h,r=>by
  unfold Yd at h;subst h;cases r;rfl
 | e::ds,xs,us,h,r=>by
  unfold Yd at h;obtain⟨x,l,rfl,h1,h2⟩:=h;cases r with
  | cons r1 r2=>rw[ZBx,ZBx,KW I h2 r2,Ma I r1 h1]
theorem M9{d:Dv}:∀{ds:List Dv} {xs:List V} {us:List Value},Yd K H ds xs->Yk xs us->∀u∈us,∃e∈ds,∃x,Yi x u/\Yh K H e x
 | [],_,_,h,r=>by
  unfold Yd at h;subst h;cases r;intro u hu;cases hu
 | e::ds,xs,us,h,r=>by
  unfold Yd at h;obtain⟨x,l,rfl,h1,h2⟩:=h;cases r with
  | cons r1 r2 =>
   intro u hu
   rcases ZG.mp hu with rfl | hu
   ·exact⟨e,Zb,x,r1,h1⟩
   ·obtain⟨e',h3,h4⟩:=M9 (d:=d) h2 r2 u hu;exact⟨e',ZX _ h3,h4⟩
theorem LL(hu:X.A.units+60 < cLine)(I:Yg X Ya Z H s){d:Dv}{x:V}{v:Value}{ds:List Dv}{xs:List V}{us:List Value}(rx:Yi x v)(hx:Yh X.K H d x)(hR:Yd X.K H ds xs)(r:Yk xs us)(hd:∀e∈ds,Az e<=50):∀y,y∈us->SeqAt.EqAt X.A.in1 s y v (eqD (Cr X.K H y) d):=by
 intro y hy;obtain⟨e,he,z,r1,h1⟩:=M9 (d:=d) hR r y hy;rw[Ma I r1 h1];exact(Jy I 50 X.A.in1 e d z x y v (hd e he) (by show X.A.units+1+50 < cLine;lia) h1 hx r1 rx).1
theorem QF(hu:X.A.units+60 < cLine):Yv X (compareOp .NotIn) (Hm X.K true):=by
 intro Ya s Z H x y v u Q I rx ry h;cases y <;> first | exact False.elim h | skip
 obtain⟨xs,ds,d,hq,hR,hx,hd,q⟩:=h;cases ry
 rcases hq with hq | hq
 ·obtain⟨Ye,r,pl,hz⟩:=I.list hq;refine SeqAt.notIn_listAt (fun y=>eqD (Cr X.K H y) d) pl.isList (fun w hw=>LL hu I rx hx hR r hd w (by simpa using hw)) ⟨.bl _,H,I,rfl,?_⟩;rw[show Ye.toArray.any (fun y=>eqD (Cr X.K H y) d)=Ye.any (fun y=>eqD (Cr X.K H y) d) by simp,KW I hR r];simpa using q
 ·obtain⟨Ye,r,pl,hz⟩:=I.tuple hq;refine SeqAt.notIn_tupleAt (fun y=>eqD (Cr X.K H y) d) pl (fun w hw=>LL hu I rx hx hR r hd w (by simpa using hw)) ⟨.bl _,H,I,rfl,?_⟩;rw[show Ye.toArray.any (fun y=>eqD (Cr X.K H y) d)=Ye.any (fun y=>eqD (Cr X.K H y) d) by simp,KW I hR r];simpa using q
theorem LG(hu:X.A.units+60 < cLine)(hK:X.K=K:=by rfl):Yv X (compareOp .NotIn) (Hm K true):=hK ▸ QF hu
theorem Tu{neg:Bool}:Bd (Hm K neg):=fun x y H Q Q' h q=>by
 cases y with
 | ref p=>obtain⟨xs,ds,d,h1,h2,h3,h4,q⟩:=q;exact⟨xs,ds,d,h1,h2,h3,h4,h _ _ q⟩
 | _=>exact False.elim q
end
structure GFd(H:Hp)(t l:Addr)(N:Nat):Prop where
 at_:∃(i g c:Int) (ns:List Int),0<=i/\0<=g/\0<=c/\c<=N/\H t=some (.lst [.ref l,.int i,.int g,.int c])/\l≠t/\H l=some (.lst (ns.map V.int))/\ns.length≠0
theorem GFeed.told{H:Hp}{t:Addr}{N:Nat}(F:GFeed H t N):∃l,GFd H t l N:=by
 obtain⟨l,i,g,c,ns,h⟩:=F.at_;exact⟨l,i,g,c,ns,h⟩
theorem GFd.feed{H:Hp}{t l:Addr}{N:Nat}(F:GFd H t l N):GFeed H t N:=by
 obtain⟨i,g,c,ns,h⟩:=F.at_;exact⟨l,i,g,c,ns,h⟩
theorem GFd.same{H H':Hp}{t l:Addr}{N:Nat}(F:GFd H t l N)(h:Yb H H'):GFd H' t l N:=by
 obtain⟨i,g,c,ns,h1,h2,h3,h4,h5,h6,h7,h8⟩:=F.at_;exact⟨i,g,c,ns,h1,h2,h3,h4,h _ _ h5,h6,h _ _ h7,h8⟩
theorem GFd.upd{H:Hp}{t l p:Addr}{o:HO}{N:Nat}(F:GFd H t l N)(h:H p=none):GFd (L2.upd H p o) t l N:=F.same (Yb.upd h)
theorem GFd.ne{H:Hp}{t l p:Addr}{N:Nat}(F:GFd H t l N)(h:H p=none):p≠t/\p≠l:=by
 obtain⟨i,g,c,ns,h1,h2,h3,h4,h5,h6,h7,h8⟩:=F.at_;exact⟨fun e=>(by rw[e,h5]at h;exact nomatch h),fun e=>(by rw[e,h7]at h;exact nomatch h)⟩
theorem GFd.put{H:Hp}{t l p:Addr}{o:HO}{N:Nat}(F:GFd H t l N)(h:p≠t/\p≠l):GFd (L2.upd H p o) t l N:=by
 obtain⟨i,g,c,ns,h1,h2,h3,h4,h5,h6,h7,h8⟩:=F.at_;exact⟨i,g,c,ns,h1,h2,h3,h4,by rw[AJ (Ne.symm h.1)];exact h5,h6,by rw[AJ (Ne.symm h.2)];exact h7,h8⟩
theorem GFeed.put{H:Hp}{t p:Addr}{o:HO}{N:Nat}{xs:List V}(F:GFeed H t N)(hp:p≠t)(hx:H p=some (.lst xs))(hn:∀ns:List Int,ns.length≠0->xs≠ns.map V.int):GFeed (L2.upd H p o) t N:=by
 obtain⟨l,i,g,c,ns,h1,h2,h3,h4,h5,h6,h7,h8⟩:=F.at_
 have:p≠l:=fun e=>by
  rw[e,h7]at hx;cases hx;exact hn ns h8 rfl
 exact⟨l,i,g,c,ns,h1,h2,h3,h4,by rw[AJ (Ne.symm hp)];exact h5,h6,by rw[AJ (Ne.symm this)];exact h7,h8⟩
noncomputable def D8:Sp:=fun vs H Q _=>match vs with
 | [.ref t,.int m]=>∃l N,GFd H t l N/\N<=1000000000/\okDiv m/\∀d H',0<=d->d < m->GFd H' t l (N+1)->(∀b,b≠t->H' b=H b)->Q (.int d) H'
 | _=>False
theorem Qv:AQ D8:=fun vs H Q Q' E h q=>by
 unfold D8 at *;split at q
 ·obtain⟨l,N,h1,h2,h3,q⟩:=q;exact⟨l,N,h1,h2,h3,fun d H' a b c e=>h _ _ (q d H' a b c e)⟩
 ·exact q.elim
theorem QR(vs:List V)(H:Hp)(Q:VK)(E:XK)(h:D4 vs H Q E):D8 vs H Q E:=by
 unfold D4 at h;unfold D8;split at h
 ·obtain⟨N,F,h2,h3,q⟩:=h;obtain⟨l,F⟩:=F.told;exact⟨l,N,F,h2,h3,fun d H' a b c e=>q d H' a b c.feed e⟩
 ·exact h.elim
inductive Dw where
 | non | bl (b:Bool) | int (i:Int) | str (x:Str) | tup (ds:List Dw) | lst (ds:List Dw) | emp
noncomputable def Mz(a:Addr)(xs:List V):Heap->Prop:=fun h=>a≠sysModules/\∃(Ye:List Value) (n:Nat),Yk xs Ye/\h.get? a=some { cls:=.type "list",data:=.seq Ye.toArray n }
mutual
noncomputable def Yj(K:W.Frag)(H:Hp):Dw->V->Prop
 | .non,v=>v=.non
 | .bl b,v=>v=.bl b
 | .int i,v=>v=.int i
 | .str x,v=>v=.str x
 | .tup ds,v=>∃a xs,v=.ref a/\Yo K H a xs/\Yf K H ds xs
 | .lst ds,v=>∃a xs,v=.ref a/\H a=some (.ext (Mz a xs))/\Yf K H ds xs
 | .emp,v=>∃a,v=.ref a/\H a=some (.dK [])
noncomputable def Yf(K:W.Frag)(H:Hp):List Dw->List V->Prop
 | [],xs=>xs=[]
 | d::ds,xs=>∃x r,xs=x::r/\Yj K H d x/\Yf K H ds r
end
theorem Yf.length{K:W.Frag}{H:Hp}:∀{ds:List Dw} {xs:List V},Yf K H ds xs->ds.length=xs.length
 | [],xs,h=>by unfold Yf at h;subst h;rfl
 | d::ds,xs,h=>by
  unfold Yf at h;obtain⟨x,r,rfl,_,h⟩:=h;rw[Zn,Zn,Yf.length h]
theorem Yf.get{K:W.Frag}{H:Hp}:∀{ds:List Dw} {xs:List V} {i:Nat} {d:Dw},Yf K H ds xs->ds[i]? = some d->∃x,xs[i]? = some x/\Yj K H d x
 | [],_,_,_,_,e=>by simp at e
 | d::ds,xs,0,_,h,e=>by
  unfold Yf at h;obtain⟨x,r,rfl,h1,_⟩:=h;simp at e;subst e;exact⟨x,rfl,h1⟩
 | d::ds,xs,i+1,_,h,e=>by
  unfold Yf at h;obtain⟨x,r,rfl,_,h⟩:=h;obtain⟨y,h1,h2⟩:=Yf.get (i:=i) h (by simpa using e);exact⟨y,by simpa using h1,h2⟩
theorem CN{K:W.Frag}{H:Hp}{ds:List Dw}{v:V}(h:Yj K H (.tup ds) v):∃a xs,v=.ref a/\Yo K H a xs/\Yf K H ds xs:=by unfold Yj at h;exact h
theorem Fj{K:W.Frag}{H:Hp}:Yf K H [] []:=by unfold Yf;rfl
theorem N6{K:W.Frag}{H:Hp}{d:Dw}{ds:List Dw}{x:V}{xs:List V}(h:Yj K H d x)(r:Yf K H ds xs):Yf K H (d::ds) (x::xs):=by unfold Yf;exact⟨x,xs,rfl,h,r⟩
theorem Yf.append{K:W.Frag}{H:Hp}:∀{ds es:List Dw} {xs ys:List V},Yf K H ds xs->Yf K H es ys->Yf K H (ds++es) (xs++ys)
 | [],es,xs,ys,h,h'=>by unfold Yf at h;subst h;exact h'
 | d::ds,es,xs,ys,h,h'=>by
  unfold Yf at h;obtain⟨x,r,rfl,h1,h2⟩:=h;exact N6 h1 (Yf.append h2 h')
theorem Yf.drop{K:W.Frag}{H:Hp}:∀(k:Nat) {ds:List Dw} {xs:List V},Yf K H ds xs->Yf K H (ds.drop k) (xs.drop k)
 | 0,_,_,h=>by simpa using h
 | k+1,[],xs,h=>by unfold Yf at h;subst h;simpa using Fj
 | k+1,d::ds,xs,h=>by
  unfold Yf at h;obtain⟨x,r,rfl,h1,h2⟩:=h;simpa using Yf.drop k h2
mutual
theorem Yj.same{K:W.Frag}{H H':Hp}(s:Yb H H'):∀(d:Dw) (v:V),Yj K H d v->Yj K H' d v
 | .non,v,h=>by unfold Yj at *;exact h
 | .bl b,v,h=>by unfold Yj at *;exact h
 | .int i,v,h=>by unfold Yj at *;exact h
 | .str x,v,h=>by unfold Yj at *;exact h
 | .emp,v,h=>by unfold Yj at *;obtain⟨a,e,h⟩:=h;exact⟨a,e,s _ _ h⟩
 | .tup ds,v,h=>by
  unfold Yj at *;obtain⟨a,xs,e,h1,h2⟩:=h;exact⟨a,xs,e,Lp h1 s,Yf.same s ds xs h2⟩
 | .lst ds,v,h=>by
  unfold Yj at *;obtain⟨a,xs,e,h1,h2⟩:=h;exact⟨a,xs,e,s _ _ h1,Yf.same s ds xs h2⟩
theorem Yf.same{K:W.Frag}{H H':Hp}(s:Yb H H'):∀(ds:List Dw) (xs:List V),Yf K H ds xs->Yf K H' ds xs
 | [],xs,h=>by unfold Yf at *;exact h
 | d::ds,xs,h=>by
  unfold Yf at *;obtain⟨x,r,e,h1,h2⟩:=h;exact⟨x,r,e,Yj.same s d x h1,Yf.same s ds r h2⟩
end
mutual
theorem Yj.frm{K:W.Frag}{H H':Hp}{t:Addr}(s:Yl t H H')(ht:∃zs,H t=some (.lst zs)):∀(d:Dw) (v:V),Yj K H d v->Yj K H' d v
 | .non,v,h=>by unfold Yj at *;exact h
 | .bl b,v,h=>by unfold Yj at *;exact h
 | .int i,v,h=>by unfold Yj at *;exact h
 | .str x,v,h=>by unfold Yj at *;exact h
 | .emp,v,h=>by
  unfold Yj at *;obtain⟨a,e,h⟩:=h;obtain⟨zs,hz⟩:=ht;exact⟨a,e,s a _ (fun q=>by rw[q,hz]at h;cases h) h⟩
 | .tup ds,v,h=>by
  unfold Yj at *;obtain⟨a,xs,e,h1,h2⟩:=h;refine⟨a,xs,e,?_,Yf.frm s ht ds xs h2⟩;obtain⟨zs,hz⟩:=ht
  rcases h1 with (h1 | ⟨o,h1⟩) | h1
  ·exact .inl (.inl (s a _ (fun q=>by rw[q,hz]at h1;cases h1) h1))
  ·exact .inl (.inr ⟨o,s a _ (fun q=>by rw[q,hz]at h1;cases h1) h1⟩)
  ·exact .inr h1
 | .lst ds,v,h=>by
  unfold Yj at *;obtain⟨a,xs,e,h1,h2⟩:=h;obtain⟨zs,hz⟩:=id ht;exact⟨a,xs,e,s a _ (fun q=>by rw[q,hz]at h1;cases h1) h1,Yf.frm s ht ds xs h2⟩
theorem Yf.frm{K:W.Frag}{H H':Hp}{t:Addr}(s:Yl t H H')(ht:∃zs,H t=some (.lst zs)):∀(ds:List Dw) (xs:List V),Yf K H ds xs->Yf K H' ds xs
 | [],xs,h=>by unfold Yf at *;exact h
 | d::ds,xs,h=>by
  unfold Yf at *;obtain⟨x,r,e,h1,h2⟩:=h;exact⟨x,r,e,Yj.frm s ht d x h1,Yf.frm s ht ds r h2⟩
end
mutual
noncomputable def upW:Dv->Dw
 | .non=>.non
 | .bl b=>.bl b
 | .int i=>.int i
 | .str x=>.str x
 | .tup ds=>.tup (Ca ds)
 | .lst ds=>.lst (Ca ds)
noncomputable def Ca:List Dv->List Dw
 | []=>[]
 | d::ds=>upW d::Ca ds
end
mutual
theorem E9{K:W.Frag}{H:Hp}:∀(d:Dv) (v:V),BF d=true->Yh K H d v->Yj K H (upW d) v
 | .non,v,_,h=>by unfold upW Yj;unfold Yh at h;exact h
 | .bl b,v,_,h=>by unfold upW Yj;unfold Yh at h;exact h
 | .int i,v,_,h=>by unfold upW Yj;unfold Yh at h;exact h
 | .str x,v,_,h=>by unfold upW Yj;unfold Yh at h;exact h
 | .tup ds,v,hd,h=>by
  unfold BF at hd;unfold Yh at h;obtain⟨a,xs,e,h1,h2⟩:=h;unfold upW Yj;exact⟨a,xs,e,h1,Kq ds xs hd h2⟩
 | .lst ds,v,hd,h=>by unfold BF at hd;cases hd
theorem Kq{K:W.Frag}{H:Hp}:∀(ds:List Dv) (xs:List V),Aj ds=true->Yd K H ds xs->Yf K H (Ca ds) xs
 | [],xs,_,h=>by unfold Ca Yf;unfold Yd at h;exact h
 | d::ds,xs,hd,h=>by
  unfold Aj at hd;rw[ZK]at hd;unfold Yd at h;obtain⟨x,r,e,h1,h2⟩:=h;unfold Ca Yf;exact⟨x,r,e,E9 d x hd.1 h1,Kq ds r hd.2 h2⟩
end
noncomputable def tyW:Dw->String
 | .non=>"NoneType"
 | .bl _=>"bool"
 | .int _=>"int"
 | .str _=>"str"
 | .tup _=>"tuple"
 | .lst _=>"list"
 | .emp=>"dict"
noncomputable def Gi(K:W.Frag):List V->Hp->VK->Prop:=fun xs H Q=>match xs with
 | [x,.ty T]=>T∈kinds/\∃d,Yj K H d x/\Q (.bl (B8 (tyW d) T)) H
 | _=>False
theorem RB{X:Cx}:CallR X (.builtin "isinstance") (Gi X.K):=by
 intro Ya s Z H xs us Q I r q
 match xs,q with
 | [x,.ty T],q =>
  obtain⟨hT,d,h,q⟩:=q;have hT':=hT;unfold kinds at hT';simp only[ZG,Z9,or_false]at hT';cases d with
  | non =>
   unfold Yj at h;subst h;exact GK Ya s Z H _ us Q I r ⟨hT,.non,by unfold Yh;rfl,q⟩
  | str z =>
   unfold Yj at h;subst h;exact GK Ya s Z H _ us Q I r ⟨hT,.str z,by unfold Yh;rfl,q⟩
  | bl b =>
   unfold Yj at h;subst h;exact GK Ya s Z H _ us Q I r ⟨hT,.bl b,by unfold Yh;rfl,q⟩
  | int i =>
   unfold Yj at h;subst h;exact GK Ya s Z H _ us Q I r ⟨hT,.int i,by unfold Yh;rfl,q⟩
  | tup ds =>
   unfold Yj at h;obtain⟨a,ys,rfl,hs,_⟩:=h;obtain⟨u,w',rfl,ru,rw'⟩:=Ea r;cases rw';obtain⟨ht,hn,Hh,k,hh⟩:=MY I ru (show TyS X.K H (.ref a) "tuple" from .inl ⟨rfl,ys,hs⟩);exact PySem.W.kia_one k I.kIn hh (Gy ht hT) hn fun tk=>⟨.bl (B8 "tuple" T),H,I.tok _,rfl,q⟩
  | lst ds =>
   unfold Yj at h;obtain⟨a,ys,rfl,hs,_⟩:=h;obtain⟨u,w',rfl,ru,rw'⟩:=Ea r;cases rw';cases ru;obtain⟨⟨_,Ye,n,_,h1⟩,_⟩:=(show ObjOk X.prog X.w H s.heap a (.ext (Mz a ys)) from I.hok a _ hs);exact PySem.W.kia_one PySem.W.kitx_list I.kIn ⟨_,h1,rfl⟩ (Gy (.inr (.inr (.inr rfl))) hT) (fun z=>nomatch z) fun tk=>⟨.bl (B8 "list" T),H,I.tok _,rfl,q⟩
  | emp =>
   unfold Yj at h;obtain⟨a,rfl,hs⟩:=h;refine HF Ya s Z H _ us Q I r ⟨hT,_,.inr (.inr (.inl ⟨⟨_,hs⟩,rfl⟩)),?_⟩;have e:(T == "dict")=B8 (tyW .emp) T:=by rcases hT' with rfl | rfl | rfl | rfl | rfl | rfl <;> rfl
   rw[e];exact q
theorem ER{X:Cx}{K:W.Frag}(hK:X.K=K:=by rfl):CallR X (.builtin "isinstance") (Gi K):=hK ▸ RB
theorem Uq{K:W.Frag}:Cw (Gi K):=fun xs H Q Q' h q=>by
 unfold Gi at *;split at q
 ·obtain⟨a,t,b,q⟩:=q;exact⟨a,t,b,h _ _ q⟩
 ·exact q.elim
section
variable {X:Cx}{K:W.Frag}
noncomputable def GQ(K:W.Frag):R2:=fun x y H Q=>match x,y with
 | .int a,.int b=>Q (.bl (!(a == b))) H
 | .ref a,.ref b=>∃xs,((Yo K H a xs/\Yo K H b [])\/(Yw K H a xs/\Yw K H b []))/\Q (.bl (!xs.isEmpty)) H
 | _,_=>False
theorem Sh(hu:X.A.units+60 < cLine):Yv X (compareOp .NotEq) (GQ X.K):=by
 intro Ya s Z H x y v u Q I rx ry q;have hu':X.A.units < cLine:=by lia
 cases x <;> cases y <;> first | exact False.elim q | skip
 ·rename_i a b;exact om_neAll hu Ya s Z H _ _ v u Q I rx ry ⟨.int a,.int b,by unfold Yh;rfl,by unfold Yh;rfl,by unfold Az;lia,by unfold eqD;exact q⟩
 rename_i a b;cases rx;cases ry;obtain⟨xs,hq,q⟩:=q
 rcases hq with ⟨ha,hb⟩ | ⟨ha,hb⟩
 ·obtain⟨Ye,r1,p1,_⟩:=I.tuple ha;obtain⟨its2,r2,p2,_⟩:=I.tuple hb;cases r2;have N:=SeqAt.RcNeAt.tuples (A:=X.A) (e:=fun _=>false) p1 p2 hu' (fun j h1 h2=>absurd h2 (by simp));refine N X.prog X.w _ _ ⟨.bl _,H,I,rfl,?_⟩;cases r1 <;> simpa using q
 ·obtain⟨Ye,r1,p1,_⟩:=I.list ha;obtain⟨its2,r2,p2,_⟩:=I.list hb;cases r2;cases r1 with
  | nil =>
   have N:=SeqAt.RcNeAt.lists (A:=X.A) (e:=fun _=>false) p1.isList p2.isList rfl hu' (fun j h1 h2=>absurd h2 (by simp));refine N X.prog X.w _ _ ⟨.bl _,H,I,rfl,?_⟩;simpa using q
  | cons r t =>
   have N:=SeqAt.RcNeAt.lists_lengths (A:=X.A) p1.isList p2.isList (by simp) hu';refine N X.prog X.w _ _ ⟨.bl _,H,I,rfl,?_⟩;simpa using q
theorem MQ(hu:X.A.units+60 < cLine)(hK:X.K=K:=by rfl):Yv X (compareOp .NotEq) (GQ K):=hK ▸ Sh hu
theorem VL:Bd (GQ K):=fun x y H Q Q' m q=>by
 cases x <;> cases y <;> first
  | exact False.elim q
  | exact m _ _ q
  | skip
 obtain⟨xs,h,q⟩:=q;exact⟨xs,h,m _ _ q⟩
end
theorem GT(val:Nat->Int):∀i,(firstMet val i).Nodup
 | 0=>by rw[firstMet_zero];exact List.nodup_nil
 | i+1=>by
  rw[firstMet_succ];unfold step_dedup;have ih:=GT val i;split
  ·exact ih
  ·rename_i h;rw[List.nodup_append];refine⟨ih,by simp,?_⟩;intro a ha b hb e;rw[ZO.mp hb]at e;exact h (ZBR.mpr ⟨a,ha,by rw[e];simp⟩)
theorem IE(ns:List Int)(k:Int):k∈firstMet (fun i=>ns.getD i 0) ns.length ↔ k∈ns:=by
 have h:=firstMet_any (fun i=>ns.getD i 0) ns.length k
 have e:(List.range ns.length).map (fun i=>ns.getD i 0)=ns:=by
  apply List.ext_getElem
  ·simp
  ·intro i h1 h2;simp;rw[ZE h2];rfl
 rw[e]at h;have a1:∀l:List Int,l.any (· == k)=true ↔ k∈l:=fun l=>by simp
 rw[<- a1,<- a1,h]
noncomputable def Ci(ds:List Int):HO:=.set (fun k=>ds.any (· == k)) ds.length
noncomputable def Ft(K:W.Frag):List V->Hp->VK->Prop:=fun xs H Q=>match xs with
 | [.ref p]=>∃ns:List Int,Yw K H p (ns.map V.int)/\ns.length<=1000/\∀(ds:List Int) q,ds.Nodup->(∀k,k∈ds ↔ k∈ns)->H q=none->Q (.ref q) (upd H q (Ci ds))
 | _=>False
section
variable {X:Cx}{K:W.Frag}
theorem Tw(hh:X.calm=true):CallR X (.type "set") (Ft X.K):=by
 intro Ya s Z H xs us Q I r h
 match xs,h with
 | [.ref p],h =>
 obtain⟨ns,hq,hn,q⟩:=h;obtain⟨u,rfl,rx⟩:=BN r;cases rx;obtain⟨Ye,rv,pl,hz⟩:=I.list hq;have hi:IntsAre Ye ns:=by simpa using Dg rv
 have Ym:Ye.length=ns.length:=by rw[<- rv.length,ZB]
 refine call_set_list (ns:=ns) (I.ok.hd hh) pl.isList (by simpa using hi) (by rw[ZI,Ym];show ns.length+1 < 4096;lia) fun h' tk hs hk=>?_
 have hsz:Ye.toArray.size=ns.length:=by rw[ZI,Ym]
 rw[hsz]at hs;refine⟨.ref s.heap.objs.size,_,I.laid (t':=tk) (o:=Ci (firstMet (fun i=>ns.getD i 0) ns.length)) (fun b o e=>hk b o (ZF e) e) (ZD _) hs,rfl,q _ _ (GT _ _) (IE ns) (I.hok.fresh (ZD _))⟩
theorem La(hh:X.calm=true)(hK:X.K=K:=by rfl):CallR X (.type "set") (Ft K):=hK ▸ Tw hh
theorem V4:Cw (Ft K):=fun xs H Q Q' h q=>by
 unfold Ft at *;split at q
 ·obtain⟨ns,a,b,q⟩:=q;exact⟨ns,a,b,fun ds p x1 x2 x3=>h _ _ (q ds p x1 x2 x3)⟩
 ·exact q.elim
noncomputable def JO:List V->Hp->VK->Prop:=fun xs H Q=>match xs with
 | [.ref p]=>∃ds:List Int,H p=some (Ci ds)/\Q (.int ds.length) H
 | _=>False
theorem HJ:CallR X (.builtin "len") JO:=by
 intro Ya s Z H xs us Q I r h
 match xs,h with
 | [.ref p],h =>
 obtain⟨ds,hq,q⟩:=h;obtain⟨u,rfl,rx⟩:=BN r;cases rx;obtain⟨o,es,ep,t,h1,h2,h3,_,_,h6,h7,h8⟩:=(show ObjOk X.prog X.w H s.heap p (Ci ds) from I.hok p _ hq);refine call_len_set h1 h2 h3 h7 (Int.lt_trans (Int.ofNat_lt.mpr h6) (by decide)) ⟨.int ds.length,H,I.tok _,⟨_,by rw[h8]⟩,q⟩
theorem XU:Cw JO:=fun xs H Q Q' h q=>by
 unfold JO at *;split at q
 ·obtain⟨ds,a,q⟩:=q;exact⟨ds,a,h _ _ q⟩
 ·exact q.elim
end
noncomputable def Ris(xs:Array Nat):Prop:=xs.toList.Pairwise (· < ·)
theorem Ris.lt{xs:Array Nat}(h:Ris xs){i k:Nat}(hik:i < k)(hk:k < xs.size)(j:Nat):xs.getD i j < xs.getD k j:=by
 have hi:i < xs.size:=ZBP hik hk
 have:=List.pairwise_iff_getElem.mp h i k (by simpa using hi) (by simpa using hk) hik
 simpa [Array.getD,hi,hk] using this
theorem HI{xs:Array Nat}{j:Nat}(h:Ris xs):∀(f lo hi:Nat),hi - lo<=f->lo<=hi->hi<=xs.size->(∀i,i < lo->xs.getD i j < j)->(∀i,hi<=i->i < xs.size->j<=xs.getD i j) ->
 SetTable.below.go xs j f lo hi<=xs.size/\(∀i,i < SetTable.below.go xs j f lo hi->xs.getD i j < j)/\∀i,SetTable.below.go xs j f lo hi<=i->i < xs.size->j<=xs.getD i j
 | 0,lo,hi,h1,h2,h3,h4,h5=>by
  have e:lo=hi:=by lia
  subst e;exact⟨h3,h4,h5⟩
 | f+1,lo,hi,h1,h2,h3,h4,h5=>by
  unfold SetTable.below.go
  by_cases hl:lo < hi
  ·rw[if_pos hl];dsimp only;have hm:(lo+hi) / 2 < xs.size:=by lia
   by_cases hx:xs.getD ((lo+hi) / 2) j < j
   ·rw[if_pos hx];refine HI h f _ _ (by lia) (by lia) h3 (fun i hi'=>?_) h5
    rcases Zr i ((lo+hi) / 2) with z | z
    ·exact ZBP (h.lt z hm j) hx
    ·have:i=(lo+hi) / 2:=by lia
     rw[this];exact hx
   ·rw[if_neg hx];refine HI h f _ _ (by lia) (by lia) (by lia) h4 (fun i hi' hs=>?_)
    rcases Zr ((lo+hi) / 2) i with z | z
    ·have:=h.lt z hs j;lia
    ·have:i=(lo+hi) / 2:=by lia
     rw[this];lia
  ·rw[if_neg hl];have e:lo=hi:=by lia
   subst e;exact⟨h3,h4,h5⟩
theorem Jm{xs:Array Nat}(h:Ris xs)(j:Nat):SetTable.below xs j<=xs.size/\(∀i,i < SetTable.below xs j->xs.getD i j < j)/\∀i,SetTable.below xs j<=i->i < xs.size->j<=xs.getD i j :=
 HI h _ _ _ (by lia) (by lia) (ZD _) (fun i z=>by lia) (fun i z y=>by lia)
theorem PL{xs:Array Nat}(h:Ris xs){k:Nat}(hk:k < xs.size):SetTable.below xs (xs.getD k 0+1)=k+1:=by
 obtain⟨a,b,c⟩:=Jm h (xs.getD k 0+1);generalize SetTable.below xs (xs.getD k 0+1)=r at a b c;have e0:∀i z,i < xs.size->xs.getD i z=xs.getD i 0:=fun i z hi=>by simp[Array.getD,hi]
 rcases ZBC r (k+1) with z | z | z
 ·have:=c k (by lia) hk
  rw[e0 k (xs.getD k 0+1) hk]at this;lia
 ·exact z
 ·have h1:=b (k+1) z;have hs:k+1 < xs.size:=by lia
  have h2:=h.lt (ZBM k) hs 0;rw[e0 (k+1) (xs.getD k 0+1) hs]at h1
  have:xs.getD k 0 < xs.getD (k+1) 0:=h2
  lia
theorem Wj{xs:Array Nat}(h:Ris xs):SetTable.below xs 0=0:=by
 obtain⟨a,b,c⟩:=Jm h 0
 rcases ZBy (SetTable.below xs 0) with z | z
 ·exact z
 ·have:=b 0 z;lia
theorem Ou{xs:Array Nat}(h:Ris xs){j:Nat}(hn:xs[SetTable.below xs j]? ≠ some j):Ris (SetTable.insertAt xs (SetTable.below xs j) j):=by
 obtain⟨a,b,c⟩:=Jm h j;generalize SetTable.below xs j=r at a b c hn;unfold Ris;rw[SetTable.toList_insertAt,List.pairwise_append,List.pairwise_cons];have g:∀i,i < xs.size->xs.toList[i]? = some (xs.getD i j):=fun i hi=>by simp[Array.getD,hi]
 have lo:∀x∈xs.toList.take r,x < j:=fun x hx=>by
  obtain⟨i,hi,e⟩:=Zs hx;rw[Za]at hi;rw[List.getElem_take]at e;have hi2:i < xs.size:=by have:=(Nat.lt_min.mp hi).2;simpa using this
  have:=g i hi2
  rw[ZE (by simpa using hi2),e]at this;cases this;exact b i (Nat.lt_min.mp hi).1
 have hi:∀x∈xs.toList.drop r,j < x:=fun x hx=>by
  obtain⟨i,hi,e⟩:=Zs hx;rw[ZBG]at hi;rw[List.getElem_drop]at e
  have hi2:r+i < xs.size:=by have:xs.toList.length=xs.size:=by simp
                             lia
  have e1:=g (r+i) hi2;rw[ZE (by simpa using hi2),e]at e1;have e2:=c (r+i) (Nat.le_add_right _ _) hi2;have e3:x=xs.getD (r+i) j:=ZV e1
  rcases ZBy i with z | z
  ·subst z
   have:x≠j:=fun q=>hn (by rw[<- ZBz,g r hi2];rw[<- q];exact congrArg some (by rw[e3]at q;rw[e3];exact(by rw[q]:xs.getD (r+0) j=xs.getD (r+0) j) ▸ (by simp[Array.getD,show r < xs.size from hi2])))
   lia
  ·have h1:=h.lt (show r < r+i by lia) hi2 j;have h2:=c r (ZD _) (by lia);lia
 refine⟨List.Pairwise.sublist (List.take_sublist _ _) h,⟨hi,List.Pairwise.sublist (List.drop_sublist _ _) h⟩,fun x hx y hy=>?_⟩
 rcases ZG.mp hy with rfl | hy2
 ·exact lo x hx
 ·exact ZBP (lo x hx) (hi y hy2)
theorem Mb(t:SetTable)(p:SetTable.Probe):(t.advance p).dummy=p.dummy:=by
 unfold SetTable.advance;split <;> rfl
noncomputable def FE(t:SetTable)(j:Nat):Prop:=t.place[SetTable.below t.place j]? ≠ some j
theorem Od{t:SetTable}{j:Nat}(h:∀i,t.slot j≠.live i):FE t j:=fun e=>h _ (by unfold SetTable.slot;dsimp only;rw[if_pos (by rw[e];exact beq_self_eq_true _)])
theorem probe_go{t:SetTable}{g:Nat->Int}{h:Int}{j:Nat}{d:Option Nat}:∀(f:Nat) (p:SetTable.Probe),(∀x,p.dummy=some x->FE t x)->SetTable.probe.go t g h f p=some (.empty j d)->FE t j/\∀x,d=some x->FE t x
 | 0,p,hp,e=>by unfold SetTable.probe.go at e;cases e
 | f+1,p,hp,e=>by
  unfold SetTable.probe.go at e;split at e
  ·rename_i hs;cases e;exact⟨Od (fun i z=>by rw[hs]at z;cases z),hp⟩
  ·rename_i hs;refine probe_go f _ (fun x hx=>?_) e;rw[Mb]at hx;cases hx;exact Od fun i z=>by rw[hs]at z;cases z
  ·split at e
   ·cases e
   ·exact probe_go f _ (fun x hx=>hp x (by rw[Mb]at hx;exact hx)) e
theorem Tn{t:SetTable}{h:Int}{j:Nat}{b:Bool}(e:t.freeSlot h=some (j,b)):FE t j:=by
 unfold SetTable.freeSlot at e;split at e
 ·rename_i j' d hm;cases e;obtain⟨a,c⟩:=probe_go _ _ (fun x hx=>by cases hx) (show SetTable.probe.go t _ h _ (t.probeStart h)=_ from hm);cases d with
  | none=>exact a
  | some x=>exact c x rfl
 ·cases e
structure TabG(w:World)(t:SetTable):Prop where
 led:t.led = !w.params.followText "set-order"
 ris:Ris t.place
theorem Tc(n:Nat):Ris (Array.range n):=by
 unfold Ris;rw[Array.toList_range];exact ZBo
theorem Tq(w:World):TabG w (.fresh 0 0 (!w.params.followText "set-order")):=⟨rfl,List.Pairwise.nil⟩
theorem FY{w:World}{t:SetTable}(g:TabG w t)(n:Nat):TabG w (t.standIn n):=⟨g.led,Tc n⟩
theorem tg_orStandIn{w:World}{t:SetTable}(g:TabG w t)(n:Nat):TabG w (t.orStandIn n):=by
 unfold SetTable.orStandIn;split
 ·exact g
 ·exact FY g n
theorem RC{w:World}{t:SetTable}(g:TabG w t)(es:Array (Int × Value))(h:Int)(x:Value):TabG w (layNew t es h x).2.1:=by
 unfold layNew;split
 ·rename_i j b e;exact tg_orStandIn (t:=(t.put j).1) ⟨g.led,Ou g.ris (Tn e)⟩ _
 ·exact FY g _
theorem Wf{w:World}{t t':SetTable}(g:TabG w t){hs:Array Int}{n:Nat}{o:Array Nat}(e:t.relaid hs n=some (t',o)):TabG w t':=by
 unfold SetTable.relaid SetTable.laid at e;cases q:SetTable.layClean (SetTable.sizeAbove n - 1) hs with
 | none=>rw[q]at e;cases e
 | some ow =>
  rw[q]at e;cases e;refine⟨g.led,?_⟩;unfold Ris;dsimp only;rw[ZB0,List.pairwise_filterMap];refine List.Pairwise.imp (fun {a b} hab x hx y hy=>?_) ZBo;cases h1:ow.getD a none with
  | none=>rw[h1]at hx;cases hx
  | some u =>
   cases h2:ow.getD b none with
   | none=>rw[h2]at hy;cases hy
   | some v =>
    rw[h1]at hx;rw[h2]at hy;cases hx;cases hy;exact hab
theorem W3{w:World}{t:SetTable}(g:TabG w t)(es:Array (Int × Value))(n:Nat):TabG w (relayAll t es n).2.1:=by
 unfold relayAll;split
 ·rename_i t' o e;dsimp only;split
  ·exact Wf g e
  ·exact FY g _
 ·exact FY g _
theorem QI{w:World}{t:SetTable}(g:TabG w t)(b:Bool):TabG w { t with plain:=b }:=⟨g.led,g.ris⟩
noncomputable def SetW(P:Program)(w:World)(h:Heap)(a:Addr)(S:Int->Bool)(n:Nat):Prop :=
 ∃o es ep t,h.get? a=some o/\o.ExactSet/\o.data=.set es ep t/\ElemsOf (intKind P w) es.toList/\(∀k,S k=true ↔ ∃e∈es.toList,(intKind P w).is k e.2=true)/\es.size < scanBound/\t.fits es.size=true/\es.size=n/\TabG w t
section
variable {P:Program}{w:World}{A:Around}{E:Value->Shared->Prop}{s:Shared}{a:Addr}
theorem SetW.at{h h':Heap}{S:Int->Bool}{n:Nat}(x:SetW P w h a S n)(k:∀o,h.get? a=some o->h'.get? a=some o):SetW P w h' a S n:=by
 obtain⟨o,es,ep,t,h1,r⟩:=x;exact⟨o,es,ep,t,k _ h1,r⟩
theorem SetW.of{h:Heap}{S:Int->Bool}{n:Nat}(x:SetW P w h a S n):h.SetOf (intKind P w) a S n:=by
 obtain⟨o,es,ep,t,h1,h2,h3,h4,h5,h6,h7,h8,_⟩:=x;exact⟨o,es,ep,t,h1,h2,h3,h4,h5,h6,h7,h8⟩
theorem LH {h:Heap} {o:Obj} {es es':Array (Int × Value)} {ep:Nat} {t t':SetTable} {S:Int->Bool} (h1:h.get? a=some o) (h2:o.ExactSet) (h3:o.data=.set es ep t) (h4:ElemsOf (intKind P w) es'.toList)
 (h5:∀k,S k=true ↔ ∃e∈es'.toList,(intKind P w).is k e.2=true) (h6:es'.size < scanBound) (h7:t'.fits es'.size=true) (g:TabG w t') :
 (h.update a (Obj.putSet es' t')).get? a=some { o with data:=.set es' (ep+1) t' } /\ SetW P w (h.update a (Obj.putSet es' t')) a S es'.size :=
 have q:=SetOf_store (knd:=intKind P w) h1 h2 h3 h4 h5 h6 h7
 ⟨q.1,_,es',ep+1,t',q.1,h2,rfl,h4,h5,h6,h7,rfl,g⟩
theorem Sq{b:Bool}{Q:Unit->Shared->Prop}{s₁:Shared}(q:Q () s₁):wpAny (model P w) A (match b with | true=>rule "set.scan.the-table-gave-way" | false=>pure ()) Q E s₁:=by
 cases b with
 | true=>exact wpAny_rule q
 | false=>exact ZC q
theorem Nq {g:Bool->Sem Unit} (hg:∀(b:Bool) (s₁:Shared) (Q:Unit->Shared->Prop),Q () s₁->wpAny (model P w) A (g b) Q E s₁) {o:Obj} {es es1:Array (Int × Value)} {ep:Nat} {t t2:SetTable} {S:Int->Bool} {wd:Bool} {R:Option Bool->Shared->Prop}
 (h1:s.heap.get? a=some o) (h2:o.ExactSet) (h3:o.data=.set es ep t) (h4:ElemsOf (intKind P w) es1.toList) (h5:∀k,S k=true ↔ ∃e∈es1.toList,(intKind P w).is k e.2=true) (h6:es1.size < scanBound) (h7:t2.fits es1.size=true) (gd:TabG w t2)
 (fin:∀h',Heap.SameBut a s.heap h'->SetW P w h' a S es1.size->R (some true) { s with heap:=h' }) :
 wpAny (model P w) A (do
  storeSet a es1 t2
  if (!wd && t2.tooFull)=true then do
   g (relayAll t2 es1 (SetTable.grown es1.size)).2.2;storeSet a (relayAll t2 es1 (SetTable.grown es1.size)).1 (relayAll t2 es1 (SetTable.grown es1.size)).2.1
   pure (some true)
   else
    pure (some true)) R E s:=by
 obtain⟨k1,k2⟩:=LH h1 h2 h3 h4 h5 h6 h7 gd;refine ZA (wpAny_storeSet_of h1 h3 ?_ (fits_of_scanBound h6));have sb:=ZBA s.heap a (Obj.putSet es1 t2);split
 ·have pm:=relayAll_perm t2 es1 (SetTable.grown es1.size);have ft:=relayAll_fits t2 es1 (SetTable.grown es1.size);have tg:=W3 gd es1 (SetTable.grown es1.size);generalize relayAll t2 es1 (SetTable.grown es1.size)=V at pm ft tg ⊢;obtain⟨e2,t3,gv⟩:=V;dsimp only at pm ft tg ⊢;have z:e2.size=es1.size:=by rw[<- Zh,pm.length_eq,Zh]
  obtain⟨_,k4⟩:=LH (S:=S) k1 h2 rfl (h4.perm pm) (fun k=>(h5 k).trans ⟨fun⟨e,x,y⟩=>⟨e,pm.mem_iff.mpr x,y⟩,fun⟨e,x,y⟩=>⟨e,pm.mem_iff.mp x,y⟩⟩) (by rw[z];exact h6) ft tg;rw[z]at k4;exact ZA (hg _ _ _ (ZA (wpAny_storeSet_of k1 rfl (ZC (fin _ (sb.trans (ZBA _ a _)) k4)) (fits_of_scanBound (by rw[z];exact h6)))))
 ·exact ZC (fin _ sb k2)
theorem O5 {S:Int->Bool} {n:Nat} {k:Int} {x:Value} {Q:Bool->Shared->Prop} (hk:(intKind P w).is k x=true) (hx:x.scannable=true) (hS:SetW P w s.heap a S n) (hn:n+1 < scanBound)
 (fin:∀h',Heap.SameBut a s.heap h'->SetW P w h' a (fun k'=>S k' || decide (k'=k)) (if S k then n else n+1)->Q (!S k) { s with heap:=h' }) :
 wpAny (model P w) A (setAddHashed a x ((intKind P w).hash k)) Q E s:=by
 obtain⟨o,es,ep,t,h1,h2,h3,h4,h5,h6,h7,h8,gd⟩:=hS;unfold setAddHashed setAddHashedIn;refine Zk (ZA (wpAny_setState_of h1 h3 h7 ?_));dsimp only;rw[byScan_of hx h6 h4];simp only[↓reduceIte];unfold setAddByScan;refine ZA (ZA (wpAny_rule (ZA (wpAny_setScan_of hk h1 h3 h7 h4 ?_))));cases hr:List.findIdx? (fun e=>(intKind P w).is k e.2) es.toList with
 | some j =>
  dsimp only;obtain⟨hj,hp,_⟩:=List.findIdx?_eq_some_iff_getElem.mp hr;have sk:S k=true:=(h5 k).mpr ⟨es.toList[j],Zd hj,hp⟩
  have q:=fin s.heap (Heap.SameBut.refl a s.heap) ⟨o,es,ep,t,h1,h2,h3,h4,(fun k'=>by
   rw[ZBw,decide_eq_true_eq,<- h5 k'];exact⟨fun z=>z.elim id (fun e=>e ▸ sk),.inl⟩),h6,h7,(by rw[sk];exact h8),gd⟩
  rw[sk]at q;exact ZC (ZC q)
 | none =>
  dsimp only
  have sk:S k=false:=by
   cases z:S k with
   | false=>rfl
   | true =>
    obtain⟨e,he,hp⟩:=(h5 k).mp z
    have:=List.findIdx?_eq_none_iff.mp hr e he;rw[hp]at this;cases this
  have pm:=layNew_perm t es ((intKind P w).hash k) x;have ft:=layNew_fits t es ((intKind P w).hash k) x;have tg:=RC gd es ((intKind P w).hash k) x;generalize layNew t es ((intKind P w).hash k) x=V at pm ft tg ⊢;obtain⟨e1,t1,wd,gv⟩:=V;dsimp only at pm ft tg ⊢;rw[Array.toList_push]at pm;have z1:e1.size=n+1:=by rw[<- Zh,pm.length_eq,ZN,Zh,h8];rfl
  have c1:ElemsOf (intKind P w) e1.toList:=(h4.push hk hx).perm pm;have c2:∀k',(S k' || decide (k'=k))=true ↔ ∃e∈e1.toList,(intKind P w).is k' e.2=true:=mem_push_iff hk h5 pm
  have en:∀h',Heap.SameBut a s.heap h'->SetW P w h' a (fun k'=>S k' || decide (k'=k)) e1.size->Q true { s with heap:=h' }:=fun h' sb q=>by
   have r:=fin h' sb;rw[sk]at r;rw[z1]at q;exact r q
  have gw:∀(b:Bool) (s₁:Shared) (Q':Unit->Shared->Prop),Q' () s₁->wpAny (model P w) A (match b with | true=>rule "set.scan.the-table-gave-way" | false=>pure ()) Q' E s₁:=fun b s₁ Q' q=>Sq q
  refine ZA (gw _ _ _ ?_);split
  ·refine ZA ?_;rw[hashByValue_scannable 8 hx];refine ZC (Nq gw h1 h2 h3 c1 c2 (by rw[z1];exact hn) ?_ ?_ fun h' sb q=>ZC (en h' sb q))
   ·split
    ·exact ft
    ·exact SetTable.fits_plain_off ft
   ·split
    ·exact tg
    ·exact QI tg _
  ·refine ZA (ZC ?_);simp only[↓reduceIte];exact Nq gw h1 h2 h3 c1 c2 (by rw[z1];exact hn) ft tg fun h' sb q=>ZC (en h' sb q)
end
section
variable {P:Program}{w:World}{A:Around}{E:Value->Shared->Prop}{s:Shared}{a:Addr}
theorem SetW.congr{h:Heap}{S S':Int->Bool}{n n':Nat}(x:SetW P w h a S n)(e:∀k,S k=S' k)(en:n=n'):SetW P w h a S' n':=by
 obtain rfl:S=S':=funext e;subst en;exact x
noncomputable def FJ(P:Program)(w:World)(h:Heap)(a:Addr)(f:Nat->Int)(i:Nat):Prop:=SetW P w h a (fun k=>(firstMet f i).any (· == k)) (firstMet f i).length
theorem Mm {R:Result->Shared->Prop} {I:Addr} {fp wr:List Addr} {G:Array GenState->Array GenState->Prop} {n:Nat} {Pv:Nat->Value->Prop} {St:Nat->Shared->Prop} (W:WalksS P w A.in1 I fp wr G n Pv St) (ha:a∉fp)
 (f:Nat->Int) (hf:∀i v,Pv i v->∃t,v=.int (f i) t) (hb:n+1 < scanBound):∀(k i:Nat) (s:Shared),n - i=k->i<=n->St i s->FJ P w s.heap a f i ->
  (∀s',Moved (a::wr) G s s'->FJ P w s'.heap a f n->R (.ok (.ret .none)) s')->codeAny (model P w) A (.builtin "set.update.loop" ⟨[.ref a,.ref I],[]⟩) R s
 | 0,i,s,hk,hi,st,hS,hR=>by
  obtain rfl:i=n:=by lia
  refine ZBH PyProof.Rows.F.entry_set_update_loop ?_;rw[ZBK PyProof.Rows.F.plain_set_update_loop _];show wpAny _ A.in1 (pyNext (.ref I) >>= _) _ _ s;refine ZA (W.done s _ _ st fun s' hm=>ZC (hR s' (hm.mono fun b hb=>ZX _ hb) (hS.at fun o e=>hm.heap a o (fun z=>ha (W.sub _ z)) e)))
 | k+1,i,s,hk,hi,st,hS,hR=>by
  have Yq:i < n:=by lia
  refine ZBH PyProof.Rows.F.entry_set_update_loop ?_;rw[ZBK PyProof.Rows.F.plain_set_update_loop _];show wpAny _ A.in1 (pyNext (.ref I) >>= _) _ _ s;refine ZA (W.item i s _ _ Yq st fun v s' hP st' hm=>?_);obtain⟨t,rfl⟩:=hf i v hP;have hS':FJ P w s'.heap a f i:=hS.at fun o e=>hm.heap a o (fun z=>ha (W.sub _ z)) e
  show wpAny _ A.in1 (holding [Value.int (f i) t] (setAdd a (.int (f i) t)) >>= _) _ _ s';refine ZA (Zk ?_);unfold setAdd;refine Zk (ZA ((intKind P w).pyHash (k:=f i) (intKind_is _ _ _ _) ?_));refine O5 (s:={ s' with toks:=s'.toks+1 }) (intKind_is _ _ _ _) rfl hS' (by have:=firstMet_length_le f i;lia) fun h' sb q=>?_
  refine ZC ⟨ZBD PyProof.Rows.F.plain_set_update_loop _,Mm W ha f hf hb k (i+1) _ (by lia) Yq (W.frame _ s' _ _ st' (ZBl _) fun b hb' o e=>?_)
   (q.congr (fun k'=>by rw[firstMet_succ,step_any]) (by rw[firstMet_succ,step_length])) fun s'' hm2 hS2=>?_⟩
  ·rw[sb.2 b (fun z:b=a=>ha (by rw[<- z];exact hb'))];exact e
  ·refine hR s'' (Moved.trans W.gtrans ((hm.mono fun b hb=>ZX _ hb).then_heap (ZBl _) fun b o hb' e=>?_) hm2) hS2;rw[sb.2 b (fun z:b=a=>hb' (by rw[z];exact Zb))];exact e
theorem UE:isSubtype (.type "tuple") (.type "set")=pure false:=by rw[isSubtype_type];kernel_rfl
theorem RT:isSubtype (.type "tuple") (.type "frozenset")=pure false:=by rw[isSubtype_type];kernel_rfl
theorem XN(v:Value){Q:Value->Shared->Prop}(h:Q (.ref s.heap.objs.size) { s with heap:=s.heap.push { cls:=.type "set",dict:=none,data:=.set #[] 0 (.fresh 0 0 (!w.params.followText "set-order")) } }) :
 codeAny (model P w) A (.call (.builtin "set.__new__") ⟨[.type "set",v],[]⟩) (wants Q E) s:=by
 refine codeAny_of_tree ?_;show wpAny _ A.in1 (do checkBuiltinCall "set.__new__" ⟨[.type "set",v],[]⟩;again (.builtin "set.__new__" ⟨[.type "set",v],[]⟩)) _ _ s;refine ZA (wpAny_of_eq (PySem.F.newCall_set_1 v) (ZC ⟨ZBD PySem.F.plain_set_new _,ZBH PySem.F.entry_set_new ?_⟩));rw[ZBK PySem.F.plain_set_new _];unfold Builtin.«set.__new__» Builtin.Frozenset.newClass;have hsub:=PySem.sub_set_self;obtain⟨hp,g,d,tk,os⟩:=s;dsimp only;wp_walk;refine wpAny_askSetting (ZC ?_);dsimp only;simp only[newObj];exact ZA (wpAny_alloc (ZC (ZC h)))
set_option maxHeartbeats 6400000 in
theorem LQ {l:Addr} {Ye:Array Value} {ns:List Int} {Q:Value->Shared->Prop} (hh:A.handled=none) (hl:s.heap.IsTuple l Ye) (hi:IntsAre Ye.toList ns) (hb:Ye.size+1 < scanBound)
 (fin:∀(h':Heap) (tk:Nat),FJ P w h' s.heap.objs.size (fun i=>ns.getD i 0) Ye.size->(∀b o,b < s.heap.objs.size->s.heap.get? b=some o->h'.get? b=some o)->Q (.ref s.heap.objs.size) { s with heap:=h',toks:=tk }) :
 wpAny (model P w) A (call (.type "set") [.ref l]) Q E s:=by
 obtain⟨c,tl,hmro⟩:=PySem.F.called_set.mro;have hmade:=PySem.F.called_set.made;have hsub:=PySem.F.called_set.sub;refine wpAny_call (codeAny_of_tree ?_);show wpAny _ _ (callAny (.type "set") _) _ _ _;refine ZC ⟨Code.quiet_builtin _ (by decide +kernel),ZBH PySem.F.entry_type_call ?_⟩;rw[Around.under_plain (weight_type_call_type "set" [.ref l] []) rfl];have k1:=PySem.F.called_set.notType;have k2:=PySem.F.called_set.canCreate;have k3:=PySem.F.typeCall_set_1 (.ref l)
 (repeat (any_goals (first | assumption | wp_step)));refine ZBN (XN (.ref l) (E:=E) (Q:=fun v s₁=>v=.ref s.heap.objs.size/\s₁ = { s with heap:=s.heap.push { cls:=.type "set",dict:=none,data:=.set #[] 0 (.fresh 0 0 (!w.params.followText "set-order")) } }) ⟨rfl,rfl⟩) fun r s₁ hr=>?_
 cases r with
 | error e=>exact hr
 | ok fl =>
  cases fl with
  | ret ob =>
   obtain⟨rfl,rfl⟩:=hr;generalize hled:(!w.params.followText "set-order")=led;have hS:(s.heap.push { cls:=.type "set",dict:=none,data:=.set #[] 0 (.fresh 0 0 led) }).get? s.heap.objs.size=some { cls:=.type "set",dict:=none,data:=.set #[] 0 (.fresh 0 0 led) }:=ZS _ rfl;have hT:Shared.TypeIs { s with heap:=s.heap.push { cls:=.type "set",dict:=none,data:=.set #[] 0 (.fresh 0 0 led) } } (.ref s.heap.objs.size) "set":=⟨_,hS,rfl⟩;have k4:=PySem.F.called_set.init.lookup;have k5:=PySem.F.called_set.init.bind (.ref s.heap.objs.size)
   (repeat (any_goals (first | assumption | wp_step)));refine ZBN (codeAny_call_builtin (R:=wants (fun r s₂=>r=.none/\∃h' tk,s₂ = { s with heap:=h',toks:=tk } /\ FJ P w h' s.heap.objs.size (fun i=>ns.getD i 0) Ye.size /\
    (∀b o,b < s.heap.objs.size->s.heap.get? b=some o->h'.get? b=some o)) E) PySem.F.called_set.init.plain PySem.F.entry_set_init (check_set_init_1 hT ?_)) fun r₂ s₂ hr₂=>?_
   ·obtain⟨ol,hol,hcl,nl,hdl⟩:=hl;obtain⟨ocls,odict,odata,oslots⟩:=ol;simp only at hcl hdl;subst hcl;subst hdl;have hol':(s.heap.push { cls:=.type "set",dict:=none,data:=.set #[] 0 (.fresh 0 0 led) }).get? l=some { cls:=.type "tuple",dict:=odict,data:=.seq Ye nl,slots:=oslots }:=ZH _ hol;have s1:=UE;have s2:=RT;have s3:(Value.type "tuple" == Value.type "dict")=false:=by decide
    have hl1:(s.heap.push { cls:=.type "set",dict:=none,data:=.set #[] 0 (.fresh 0 0 led) }).IsTuple l Ye:=⟨_,hol',rfl,nl,rfl⟩;unfold Builtin.«set.__init__» noKeywords Builtin.Frozenset.updateFrom;generalize hPI:pyIter=PI
    wp_walk
    subst hPI;refine wpAny_pyIter_tuple hl1 (ZA (wpAny_runValue ?_))
    have hlS:l < s.heap.objs.size:=ZF hol;have z1:l≠(s.heap.push { cls:=.type "set",dict:=none,data:=.set #[] 0 (.fresh 0 0 led) }).objs.size:=by
     rw[Z7];exact(ZT (Nat.lt_succ_of_lt hlS))
    have z2:s.heap.objs.size∉[(s.heap.push { cls:=.type "set",dict:=none,data:=.set #[] 0 (.fresh 0 0 led) }).objs.size,l]:=by
     rw[Z7];simp only[ZG,ZO,ZBp,or_false,not_or];exact⟨ZT (ZBM _),ZBU hlS⟩
    refine Mm ((Walks.tuple (A:=A.in1.in1.in1) (by simp[hh]) _ l z1 Ye).toS) z2 (fun i=>ns.getD i 0) (fun i v hv=>PyProof.Rows.IntsAre.int_at hi i v (by rw[ZBz];exact hv)) hb (Ye.size - 0) 0 _ (by lia) (ZU _)
     ⟨⟨_,ZS _ rfl,rfl,rfl⟩,(hl1.push _)⟩ ?b0 ?bR
    case b0 =>
     refine⟨_,#[],0,_,ZH _ hS,⟨rfl,rfl,rfl⟩,rfl,fun e he=>by simp at he,fun k=>by simp[firstMet],by decide,by rfl,rfl,?_⟩;rw[<- hled];exact Tq w
    case bR =>
     intro s' hm hS';obtain⟨h',g',d',tk',os'⟩:=s';obtain rfl:g'=s.gens:=hm.gens;obtain rfl:d'=s.drawn:=hm.drawn;obtain rfl:os'=s.os:=hm.os;refine ZC ?_;show wpAny _ _ (ret Value.none) _ _ _;refine ZC ⟨rfl,h',tk',rfl,hS',fun b o hb e=>hm.heap b o ?_ (ZH _ (ZH _ e))⟩;rw[Z7];simp only[ZG,ZO,ZBp,or_false,not_or];exact⟨ZT hb,ZT (Nat.lt_succ_of_lt hb)⟩
   ·cases r₂ with
    | error e=>exact hr₂
    | ok fl₂ =>
     cases fl₂ with
     | ret r =>
      obtain⟨rfl,h',tk,rfl,hS',hk'⟩:=hr₂;repeat (any_goals (first | assumption | wp_step))
      exact fin _ _ hS' hk'
     | _=>exact hr₂.elim
  | _=>exact hr.elim
end
namespace F
theorem slot_set_iterator_next:Slot "set_iterator" "__next__" "set_iterator.__next__" :=
 .of (owner:="set_iterator") (n:="__next__") (by rw[typeLookup_type,builtinLookup_eq_fast];kernel_rfl) (by decide +kernel) (by decide +kernel) (by decide +kernel) (by first | exact .inl (by decide +kernel) | exact .inr (by decide +kernel)) (by rw[isSubtype_type];kernel_rfl)
theorem slot_set_iterator_iter:Slot "set_iterator" "__iter__" "set_iterator.__iter__" :=
 .of (owner:="set_iterator") (n:="__iter__") (by rw[typeLookup_type,builtinLookup_eq_fast];kernel_rfl) (by decide +kernel) (by decide +kernel) (by decide +kernel) (by first | exact .inl (by decide +kernel) | exact .inr (by decide +kernel)) (by rw[isSubtype_type];kernel_rfl)
theorem entry_set_iterator_next:entryFor table "set_iterator.__next__" = some Builtin.«set_iterator.__next__»:=entryFor_of_tree (by kernel_rfl)
theorem entry_set_iterator_iter:entryFor table "set_iterator.__iter__" = some Builtin.«dict_keyiterator.__iter__»:=entryFor_alias (id':="dict_keyiterator.__iter__") (by kernel_rfl) (by first | rfl | decide +kernel | (unfold String.splitOn;simp +decide [String.splitOnAux])) (by decide +kernel) (by kernel_rfl)
theorem entry_set_iter:entryFor table "set.__iter__" = some Builtin.«frozenset.__iter__»:=entryFor_alias (id':="frozenset.__iter__") (by kernel_rfl) rfl (by decide +kernel) (by kernel_rfl)
theorem args_set_iterator_next(a:Value):argsOk "set_iterator.__next__" ⟨[a],[]⟩:=by unfold argsOk;kernel_rfl
theorem args_set_iterator_iter(a:Value):argsOk "set_iterator.__iter__" ⟨[a],[]⟩:=by unfold argsOk;kernel_rfl
end F
theorem WD{M:Model}{A:Around}{E:Value->Shared->Prop}{s:Shared}{src:Source}{n:Nat}{Q:Nat->Shared->Prop}(hn:n≠0)(h:∀i d,i < n->Q i { s with drawn:=d }):wpAny M A (choose src n) Q E s :=
 fun _ _ _=>⟨hn,h _ _ (Nat.mod_lt _ (Nat.pos_of_ne_zero hn))⟩
theorem K8{α:Type}{l:List α}{i:Nat}(h:i < l.length):(l[i]::l.eraseIdx i).Perm l:=by
 rw[List.eraseIdx_eq_take_drop_succ];have e:l=l.take i++l[i]::l.drop (i+1):=by rw[<- List.drop_eq_getElem_cons h,List.take_append_drop]
 exact List.perm_middle.symm.trans (e ▸ .rfl)
theorem Nr{M:Model}{A:Around}{E:Value->Shared->Prop}{α:Type}:∀(n:Nat) (xs:List α) (s:Shared) (Q:List α->Shared->Prop),xs.length=n->(∀ys d,ys.Perm xs->Q ys { s with drawn:=d })->wpAny M A (drawOrder n xs) Q E s
 | 0,xs,s,Q,hl,h=>by
  obtain rfl:xs=[]:=ZBY.mp hl;unfold drawOrder;exact ZC (h [] s.drawn .nil)
 | n+1,[],s,Q,hl,h=>by cases hl
 | n+1,x0::r,s,Q,hl,h=>by
  unfold drawOrder;refine ZA (WD (by simp) fun i d hi=>?_);obtain⟨x,hx⟩:∃x,(x0::r)[i]? = some x:=⟨_,ZE hi⟩;rw[hx];dsimp only;refine ZA (Nr n _ _ _ (by rw[List.length_eraseIdx];simp only[hi,if_true];lia) fun ys d2 hp=>ZC ?_);refine h _ d2 ?_;have e:(x0::r)[i]=x:=by rw[ZE hi]at hx;exact ZV hx
  exact(List.Perm.cons x hp).trans (e ▸ K8 hi)
theorem Nm{α:Type}(nx:Nat->Nat):∀(f k:Nat) (l:List α) (out:Array α),l.length=f->(pickOrder.go nx f k l out).toList.Perm (out.toList++l)
 | 0,k,l,out,hl=>by
  obtain rfl:l=[]:=ZBY.mp hl;unfold pickOrder.go;rw[Zq]
 | f+1,k,l,out,hl=>by
  unfold pickOrder.go;have hi:nx k % l.length < l.length:=Nat.mod_lt _ (by lia);rw[ZE hi];dsimp only;refine(Nm nx f (k+1) _ _ (by rw[List.length_eraseIdx];simp only[hi,if_true];lia)).trans ?_;rw[Array.toList_push,ZBv];exact List.Perm.append_left _ (K8 hi)
theorem Ic{α:Type}(nx:Nat->Nat)(xs:Array α):(pickOrder nx xs).toList.Perm xs.toList:=by
 have:=Nm nx xs.size 0 xs.toList #[] (by simp)
 rw[List.nil_append]at this;exact this
noncomputable def IsSetIter(h:Heap)(I:Addr)(f:Value)(i:Nat)(a:Addr)(n ep:Nat):Prop:=∃o,h.get? I=some o/\o.cls=.type "set_iterator" /\ o.data=.fields #[f,.int i 0,.ref a,.int n 0,.int ep 0]
theorem IsSetIter.typeIs{s:Shared}{I a:Addr}{f:Value}{i n ep:Nat}(x:IsSetIter s.heap I f i a n ep):s.TypeIs (.ref I) "set_iterator":=let ⟨o,ho,hc,_⟩:=x;⟨o,ho,hc⟩
theorem IsSetIter.at{h h':Heap}{I a:Addr}{f:Value}{i n ep:Nat}(x:IsSetIter h I f i a n ep)(e:∀o,h.get? I=some o->h'.get? I=some o):IsSetIter h' I f i a n ep:=let ⟨o,ho,r⟩:=x;⟨o,e _ ho,r⟩
section
variable {P:Program}{w:World}{A:Around}{E:Value->Shared->Prop}{s:Shared}{a I:Addr}
theorem Gc{h:Heap}{o:Obj}{vs:Array Value}(ho:h.get? I=some o)(hd:o.data=.fields vs)(k:Nat)(x:Value):∃o',(h.update I (Obj.mapFields (·.setIfInBounds k x))).get? I=some o'/\o'.cls=o.cls/\o'.data=.fields (vs.setIfInBounds k x) :=
 ⟨_,ZBh _ ho (Obj.isFreed_of_fields (Obj.data_mapFields hd _)),Obj.cls_mapFields ..,Obj.data_mapFields hd _⟩
theorem Ny {o:Obj} {es:Array (Int × Value)} {ep i slot nx:Nat} {t:SetTable} {x:Value} {Q:Option Value->Shared->Prop} (hit:IsSetIter s.heap I (.int slot 0) i a es.size ep) (h1:s.heap.get? a=some o) (h3:o.data=.set es ep t) (h7:t.fits es.size=true)
 (hn:∀(A:Around) (E:Value->Shared->Prop) (Q:Option (Value × Nat)->Shared->Prop),Q (some (x,nx)) s->wpAny (model P w) A (setNext a slot i ep) Q E s)
 (hQ:∀h',IsSetIter h' I (.int nx 0) (i+1) a es.size ep->Heap.SameBut I s.heap h'->Q (some x) { s with heap:=h' }):wpAny (model P w) A (pyNext (.ref I)) Q E s:=by
 obtain⟨oi,ho,hc,hd⟩:=id hit;unfold pyNext;refine ZA (wpAny_attempt (wpAny_callSpecial?_slot (name:=Str.ofString "__next__") hit.typeIs F.slot_set_iterator_next (Z1 F.slot_set_iterator_next hit.typeIs F.entry_set_iterator_next ?_ (F.args_set_iterator_next _))));show wpAny _ _ (fieldsOf (.ref I) >>= _) _ _ s;refine ZA (wpAny_fieldsOf ho hd ?_);dsimp only;refine ZA (wpAny_setEntries_of h1 h3 h7 ?_);refine Z3 (fun hab=>absurd hab (by simp)) (fun _=>?_);refine ZA (hn _ _ _ ?_);dsimp only;obtain⟨o1,ho1,hc1,hd1⟩:=Gc ho hd 0 (rawInt nx);refine ZA (ZBX ho hd (by simp) (ZA (ZBX ho1 hd1 (by simp) (ZC ⟨x,rfl,ZC (hQ _ ?_ ((ZBA ..).trans (ZBA ..)))⟩))));obtain⟨o2,ho2,hc2,hd2⟩:=Gc ho1 hd1 1 (rawInt (i+1));exact⟨o2,ho2,hc2.trans (hc1.trans hc),by rw[hd2];simp[rawInt]⟩
theorem Nc {o:Obj} {es:Array (Int × Value)} {ep i slot:Nat} {t:SetTable} {Q:Option Value->Shared->Prop} (hh:A.handled=none) (hit:IsSetIter s.heap I (.int slot 0) i a es.size ep) (h1:s.heap.get? a=some o) (h3:o.data=.set es ep t) (h7:t.fits es.size=true)
 (hn:∀(A:Around) (E:Value->Shared->Prop) (Q:Option (Value × Nat)->Shared->Prop),Q none s->wpAny (model P w) A (setNext a slot i ep) Q E s)
 (hQ:∀h',Heap.ExtBut I s.heap h'->Q none { s with heap:=h' }):wpAny (model P w) A (pyNext (.ref I)) Q E s:=by
 obtain⟨oi,ho,hc,hd⟩:=id hit;unfold pyNext;refine ZA (wpAny_attempt (wpAny_callSpecial?_slot (name:=Str.ofString "__next__") hit.typeIs F.slot_set_iterator_next (Z1 F.slot_set_iterator_next hit.typeIs F.entry_set_iterator_next ?_ (F.args_set_iterator_next _))));show wpAny _ _ (fieldsOf (.ref I) >>= _) _ _ s;refine ZA (wpAny_fieldsOf ho hd ?_);dsimp only;refine ZA (wpAny_setEntries_of h1 h3 h7 ?_);refine Z3 (fun hab=>absurd hab (by simp)) (fun _=>?_);refine ZA (hn _ _ _ ?_);dsimp only;refine ZA (ZBX ho hd (by simp) ?_);show wpAny _ _ (newExc (.type "StopIteration") [] >>= _) _ _ _;refine ZA ?_;simp only[newExc,newTuple];refine ZA (Zx (ZA (m:=firstArgMember _ _) (wpAny_of_eq (a:=Value.none) (by first | rfl | (simp only[firstArgMember];rfl)) (Zx ?_ (by size_fits)))) (by size_fits));simp only[raiseNew];refine ZA (wpAny_handled ?_);first | rw[show A.in1.handled=none from hh] | rw[hh]
 refine ZA (ZC (wpAny_throw ?st));refine ZA (wpAny_isInstance (T:="StopIteration") (b:=true) ⟨_,ZS _ rfl,rfl⟩ isSubtype_stop ?_);exact ZC (hQ _ ((((ZBA ..)).extBut.push _).push _))
theorem V0 {o ot:Obj} {es:Array (Int × Value)} {ep i tp nt:Nat} {t:SetTable} {ps:Array Value} {p:Nat} {x:Int × Value} {Q:Option Value->Shared->Prop} (hit:IsSetIter s.heap I (.ref tp) i a es.size ep) (h1:s.heap.get? a=some o) (h3:o.data=.set es ep t) (h7:t.fits es.size=true)
 (ht:s.heap.get? tp=some ot) (hdt:ot.data=.seq ps nt) (hp:ps[i]? = some (.int p 0)) (hx:es[p]? = some x)
 (hQ:∀h',IsSetIter h' I (.ref tp) (i+1) a es.size ep->Heap.SameBut I s.heap h'->Q (some x.2) { s with heap:=h' }):wpAny (model P w) A (pyNext (.ref I)) Q E s:=by
 obtain⟨oi,ho,hc,hd⟩:=id hit;unfold pyNext;refine ZA (wpAny_attempt (wpAny_callSpecial?_slot (name:=Str.ofString "__next__") hit.typeIs F.slot_set_iterator_next (Z1 F.slot_set_iterator_next hit.typeIs F.entry_set_iterator_next ?_ (F.args_set_iterator_next _))));show wpAny _ _ (fieldsOf (.ref I) >>= _) _ _ s;refine ZA (wpAny_fieldsOf ho hd ?_);dsimp only;refine ZA (wpAny_setEntries_of h1 h3 h7 ?_);refine Z3 (fun hab=>absurd hab (by simp)) (fun _=>?_);refine ZA (wpAny_seqItems ht hdt ?_);simp only[Zc,hp];unfold setNextDrawn;refine ZA (ZA (wpAny_setState_of h1 h3 h7 ?_));dsimp only;refine Z3 (fun hab=>absurd hab (by simp)) (fun _=>?_);rw[hx];refine ZC (ZA (ZBX ho hd (by simp) (ZC ⟨x.2,rfl,ZC (hQ _ ?_ (ZBA ..))⟩)));obtain⟨o2,ho2,hc2,hd2⟩:=Gc ho hd 1 (rawInt (i+1));exact⟨o2,ho2,hc2.trans hc,by rw[hd2];simp[rawInt]⟩
theorem Rg {o ot:Obj} {es:Array (Int × Value)} {ep i tp nt:Nat} {t:SetTable} {ps:Array Value} {Q:Option Value->Shared->Prop} (hh:A.handled=none) (hit:IsSetIter s.heap I (.ref tp) i a es.size ep) (h1:s.heap.get? a=some o) (h3:o.data=.set es ep t) (h7:t.fits es.size=true)
 (ht:s.heap.get? tp=some ot) (hdt:ot.data=.seq ps nt) (hp:ps[i]? = none)
 (hQ:∀h',Heap.ExtBut I s.heap h'->Q none { s with heap:=h' }):wpAny (model P w) A (pyNext (.ref I)) Q E s:=by
 obtain⟨oi,ho,hc,hd⟩:=id hit;unfold pyNext;refine ZA (wpAny_attempt (wpAny_callSpecial?_slot (name:=Str.ofString "__next__") hit.typeIs F.slot_set_iterator_next (Z1 F.slot_set_iterator_next hit.typeIs F.entry_set_iterator_next ?_ (F.args_set_iterator_next _))));show wpAny _ _ (fieldsOf (.ref I) >>= _) _ _ s;refine ZA (wpAny_fieldsOf ho hd ?_);dsimp only;refine ZA (wpAny_setEntries_of h1 h3 h7 ?_);refine Z3 (fun hab=>absurd hab (by simp)) (fun _=>?_);refine ZA (wpAny_seqItems ht hdt ?_);simp only[Zc,hp];obtain⟨o1,ho1,hc1,hd1⟩:=Gc ho hd 0 (rawInt 0);refine ZA (ZBX ho hd (by simp) (ZA (ZBX ho1 hd1 (by simp) ?_)));show wpAny _ _ (newExc (.type "StopIteration") [] >>= _) _ _ _;refine ZA ?_;simp only[newExc,newTuple];refine ZA (Zx (ZA (m:=firstArgMember _ _) (wpAny_of_eq (a:=Value.none) (by first | rfl | (simp only[firstArgMember];rfl)) (Zx ?_ (by size_fits)))) (by size_fits));simp only[raiseNew];refine ZA (wpAny_handled ?_);first | rw[show A.in1.handled=none from hh] | rw[hh]
 refine ZA (ZC (wpAny_throw ?st));refine ZA (wpAny_isInstance (T:="StopIteration") (b:=true) ⟨_,ZS _ rfl,rfl⟩ isSubtype_stop ?_);exact ZC (hQ _ ((((ZBA ..).trans (ZBA ..)).extBut.push _).push _))
theorem G9{f:Value}{i n ep:Nat}{Q:Value->Shared->Prop}(hit:IsSetIter s.heap I f i a n ep)(h:Q (.ref I) s):wpAny (model P w) A (pyIter (.ref I)) Q E s:=by
 refine wpAny_pyIter_slot hit.typeIs F.slot_set_iterator_iter (Z1 F.slot_set_iterator_iter hit.typeIs F.entry_set_iterator_iter ?_ (F.args_set_iterator_iter _));show wpAny _ _ (ret (.ref I)) _ _ s;exact ZC ⟨_,rfl,"set_iterator",_,hit.typeIs,F.slot_set_iterator_next.lookup,h⟩
end
section
variable {P:Program}{w:World}{A:Around}{E:Value->Shared->Prop}{s:Shared}{a I:Addr}
theorem Ks{l:List (Int × Value)}(h:ElemsOf (intKind P w) l){e:Int × Value}(he:e∈l):∃t,e.2=.int (numOf e.2) t:=by
 obtain⟨⟨k,hk,_⟩,_⟩:=h e he;obtain⟨t,et⟩:=Value.isInt_shape (show Value.isInt k e.2=true from hk);exact⟨t,by rw[et];rfl⟩
theorem JV{l:List (Int × Value)}(h:ElemsOf (intKind P w) l)(k:Int):k∈l.map (fun(e:Int × Value)=>numOf e.2) ↔ ∃e∈l,(intKind P w).is k e.2=true:=by
 rw[ZM];constructor
 ·rintro⟨e,he,rfl⟩;obtain⟨t,et⟩:=Ks h he;exact⟨e,he,by rw[et];exact intKind_is _ _ _ _⟩
 ·rintro⟨e,he,hk⟩;obtain⟨t,et⟩:=Value.isInt_shape (show Value.isInt k e.2=true from hk);exact⟨e,he,by rw[et];rfl⟩
theorem Gu{Q:Bool->Shared->Prop}(h:Q (w.params.followText "set-order") s):wpAny (model P w) A setsByText Q E s:=by
 unfold setsByText;exact ZA (wpAny_askSetting (ZC h))
theorem Ly {o:Obj} {es:Array (Int × Value)} {ep i:Nat} {t:SetTable} (hx:w.params.followText "set-order" = true) (h1:s.heap.get? a=some o) (h3:o.data=.set es ep t) (h7:t.fits es.size=true) {Q:Option (Value × Nat)->Shared->Prop}
 (h:Q (((pickOrder (w.params.setOrder a ep) es)[i]?).map fun e=>(e.2,0)) s):wpAny (model P w) A (setNext a 0 i ep) Q E s:=by
 unfold setNext;refine ZA (wpAny_setState_of h1 h3 h7 ?_);dsimp only;refine ZA (Gu ?_);rw[hx];simp only[↓reduceIte];refine Z3 (fun hab=>absurd hab (by simp)) (fun _=>?_);unfold setWalk;refine ZA (ZA (wpAny_setState_of h1 h3 h7 ?_));dsimp only;refine ZA (Gu ?_);rw[hx];simp only[↓reduceIte];exact ZA (wpAny_askSetting (ZC (ZC h)))
theorem OX {o:Obj} {es:Array (Int × Value)} {ep i sl:Nat} {t:SetTable} (hx:w.params.followText "set-order" = false) (h1:s.heap.get? a=some o) (h3:o.data=.set es ep t) (h7:t.fits es.size=true) (hl:t.led=true) (hd:(!t.plain && decide (es.size > 1))=false)
 {k:Nat} (hk:SetTable.below t.place sl=k) {Q:Option (Value × Nat)->Shared->Prop}
 (h:Q (match es[k]?,t.place[k]? with | some (_,x),some j=>some (x,j+1) | _,_=>none) s):wpAny (model P w) A (setNext a sl i ep) Q E s:=by
 unfold setNext;refine ZA (wpAny_setState_of h1 h3 h7 ?_);dsimp only;refine ZA (Gu ?_);rw[hx];refine Z3 (fun hab=>absurd hab (by simp)) (fun _=>?_);refine Z3 (fun hab=>absurd (show(!t.plain && decide (es.size > 1))=true from hab) (by rw[hd];simp)) (fun _=>?_);refine ZA ?_;show wpAny _ _ (if (!t.led && !es.isEmpty)=true then unsupported "set:maker-not-led" else pure ()) _ _ _;refine Z3 (fun hab=>absurd hab (by rw[hl];simp)) (fun _=>ZC ?_);subst hk;exact ZC h
noncomputable def Fa(L:List (Int × Value))(i:Nat)(v:Value):Prop:=∃t,v=.int ((L.map fun(e:Int × Value)=>numOf e.2).getD i 0) t
theorem KP{L:List (Int × Value)}(h:ElemsOf (intKind P w) L){i:Nat}{e:Int × Value}(he:L[i]? = some e):Fa L i e.2:=by
 obtain⟨t,et⟩:=Ks h (Zw he);refine⟨t,?_⟩;rw[ZQ,ZR,he];exact et
theorem XQ{o:Obj}{es:Array (Int × Value)}{ep:Nat}{t:SetTable}(hh:A.handled=none)(Yu:a≠I)(hx:w.params.followText "set-order" = true)(h3:o.data=.set es ep t)(h4:ElemsOf (intKind P w) es.toList)(h7:t.fits es.size=true) :
 Walks P w A I [I,a] [I] es.size (Fa (pickOrder (w.params.setOrder a ep) es).toList) (fun i h=>IsSetIter h I (.int 0 0) i a es.size ep/\h.get? a=some o) where
 sub:=fun b hb=>by simp at hb;simp[hb]
 frame:=fun _ _ _ st hk=>⟨st.1.at fun o e=>hk I (by simp) o e,hk a (by simp) _ st.2⟩
 item:=fun i s Q E hi st hQ=>by
  have pm:=Ic (w.params.setOrder a ep) es;have hl:i < (pickOrder (w.params.setOrder a ep) es).size:=by rw[<- Zh,pm.length_eq,Zh];exact hi
  refine Ny (slot:=0) (nx:=0) (x:=(pickOrder (w.params.setOrder a ep) es)[i].2) st.1 st.2 h3 h7 (fun A E Q q=>Ly hx st.2 h3 h7 (by rw[ZBZ hl];exact q)) fun h' hit' sb=>?_
  exact hQ _ h' s.toks (KP (h4.perm pm) (by rw[ZBz,ZBZ hl])) ⟨hit',(sb.2 a Yu).trans st.2⟩ fun b o hb e=>sb.extBut b o (fun h=>hb (by simp[h])) e
 done:=fun s Q E st hQ=>by
  have pm:=Ic (w.params.setOrder a ep) es;refine Nc (slot:=0) hh st.1 st.2 h3 h7 (fun A E Q q=>Ly hx st.2 h3 h7 ?_) fun h' he'=>hQ h' s.toks fun b o hb e=>he' b o (fun h=>hb (by simp[h])) e
  rw[Array.getElem?_eq_none (by rw[<- Zh,pm.length_eq,Zh];exact ZD _)];exact q
 self:=fun _ _ _ _ st hQ=>G9 st.1 hQ
noncomputable def GA(t:SetTable)(i:Nat):Nat:=match i with | 0=>0 | k+1=>t.place.getD k 0+1
theorem Kx{t:SetTable}(g:Ris t.place){i:Nat}(h:i<=t.place.size):SetTable.below t.place (GA t i)=i:=by
 cases i with
 | zero=>exact Wj g
 | succ k=>exact PL g h
theorem QZ{o:Obj}{es:Array (Int × Value)}{ep:Nat}{t:SetTable}(hh:A.handled=none)(Yu:a≠I)(hx:w.params.followText "set-order" = false)(hd:(!t.plain && decide (es.size > 1))=false)(h3:o.data=.set es ep t)(h4:ElemsOf (intKind P w) es.toList)(h7:t.fits es.size=true)(g:TabG w t) :
 Walks P w A I [I,a] [I] es.size (Fa es.toList) (fun i h=>IsSetIter h I (.int (GA t i) 0) i a es.size ep/\h.get? a=some o) where
 sub:=fun b hb=>by simp at hb;simp[hb]
 frame:=fun _ _ _ st hk=>⟨st.1.at fun o e=>hk I (by simp) o e,hk a (by simp) _ st.2⟩
 item:=fun i s Q E hi st hQ=>by
  have hz:t.place.size=es.size:=by have:=h7;unfold SetTable.fits at this;simp at this;exact this.1
  have hl:t.led=true:=by rw[g.led,hx];rfl
  refine Ny (nx:=GA t (i+1)) (x:=es[i].2) st.1 st.2 h3 h7 (fun A E Q q=>OX hx st.2 h3 h7 hl hd (Kx g.ris (by lia)) ?_) fun h' hit' sb=>?_
  ·rw[ZBZ hi,ZBZ (show i < t.place.size by lia)];have e:GA t (i+1)=t.place[i]+1:=by show t.place.getD i 0+1=_;simp[Array.getD,show i < t.place.size by lia]
   rw[e]at q;exact q
  ·exact hQ _ h' s.toks (KP h4 (by rw[ZBz,ZBZ hi])) ⟨hit',(sb.2 a Yu).trans st.2⟩ fun b o hb e=>sb.extBut b o (fun h=>hb (by simp[h])) e
 done:=fun s Q E st hQ=>by
  have hz:t.place.size=es.size:=by have:=h7;unfold SetTable.fits at this;simp at this;exact this.1
  have hl:t.led=true:=by rw[g.led,hx];rfl
  refine Nc hh st.1 st.2 h3 h7 (fun A E Q q=>OX hx st.2 h3 h7 hl hd (Kx g.ris (by lia)) ?_) fun h' he'=>hQ h' s.toks fun b o hb e=>he' b o (fun h=>hb (by simp[h])) e
  rw[Array.getElem?_eq_none (ZD _)];exact q
 self:=fun _ _ _ _ st hQ=>G9 st.1 hQ
theorem Lr{α:Type}(es:Array α):∀(l:List Nat),(∀x∈l,x < es.size)->∀i:Nat,(l.filterMap (es[·]?))[i]? = (l[i]?).bind (es[·]?)
 | [],_,i=>by simp
 | x::r,hx,i=>by
  have hx0:x < es.size:=hx x Zb;rw[ZBd,ZBZ hx0];cases i with
  | zero=>simp[hx0]
  | succ j=>simpa using Lr es r (fun y hy=>hx y (ZX _ hy)) j
theorem Sy {o ot:Obj} {es:Array (Int × Value)} {ep tp nt:Nat} {t:SetTable} {ps:List Nat} (hh:A.handled=none) (Yu:a≠I) (hnt:tp≠I) (h3:o.data=.set es ep t) (h4:ElemsOf (intKind P w) es.toList) (h7:t.fits es.size=true)
 (hdt:ot.data=.seq (ps.map fun(i:Nat)=>rawInt i).toArray nt) (hp:ps.Perm (List.range es.size)) :
 Walks P w A I [I,a,tp] [I] es.size (Fa (ps.filterMap (es[·]?))) (fun i h=>IsSetIter h I (.ref tp) i a es.size ep/\h.get? a=some o/\h.get? tp=some ot) where
 sub:=fun b hb=>by simp at hb;simp[hb]
 frame:=fun _ _ _ st hk=>⟨st.1.at fun o e=>hk I (by simp) o e,hk a (by simp) _ st.2.1,hk tp (by simp) _ st.2.2⟩
 item:=fun i s Q E hi st hQ=>by
  have hl:ps.length=es.size:=by rw[hp.length_eq,Zt]
  have hi':i < ps.length:=by lia
  have hpi:ps[i] < es.size:=Ze.mp (hp.mem_iff.mp (Zd hi'));have pm:(ps.filterMap (es[·]?)).Perm es.toList:=(hp.filterMap _).trans (by rw[filterMap_getElem?_range]);refine V0 (p:=ps[i]) (x:=es[ps[i]]) st.1 st.2.1 h3 h7 st.2.2 hdt (by simp[hi',rawInt]) (ZBZ hpi) fun h' hit' sb=>?_
  exact hQ _ h' s.toks (KP (h4.perm pm) (by rw[Lr es ps (fun x hx=>Ze.mp (hp.mem_iff.mp hx)) i,ZE hi'];exact ZBZ hpi)) ⟨hit',(sb.2 a Yu).trans st.2.1,(sb.2 tp hnt).trans st.2.2⟩ fun b o hb e=>sb.extBut b o (fun h=>hb (by simp[h])) e
 done:=fun s Q E st hQ=>by
  have hl:ps.length=es.size:=by rw[hp.length_eq,Zt]
  exact Rg hh st.1 st.2.1 h3 h7 st.2.2 hdt (by simp[hl]) fun h' he'=>hQ h' s.toks fun b o hb e=>he' b o (fun h=>hb (by simp[h])) e
 self:=fun _ _ _ _ st hQ=>G9 st.1 hQ
theorem Pp {S:Int->Bool} {n:Nat} {Q:Value->Shared->Prop} (hS:SetW P w s.heap a S n)
 (fin:∀(h':Heap) d (I:Addr) (fp:List Addr) (St:Nat->Heap->Prop) (ms:List Int),ms.length=n->(∀k,k∈ms ↔ S k=true)->(∀b o,s.heap.get? b=some o->h'.get? b=some o)->s.heap.objs.size<=I->(∀b∈fp,b=a\/s.heap.objs.size<=b) ->
   (∀A:Around,A.handled=none->Walks P w A I fp [I] n (fun i v=>∃t,v=.int (ms.getD i 0) t) St)->St 0 h'->Q (.ref I) { s with heap:=h',drawn:=d }):wpAny (model P w) A (pyIter (.ref a)) Q E s:=by
 obtain⟨o,es,ep,t,h1,h2,h3,h4,h5,h6,h7,h8,g⟩:=hS;have hT:s.TypeIs (.ref a) "set":=⟨o,h1,h2.1⟩;have Yq:=ZF h1;subst h8;refine wpAny_pyIter_slot hT PySem.F.slot_set_iter (Z1 PySem.F.slot_set_iter hT F.entry_set_iter ?_ (PySem.F.args_set_iter_1 _));show wpAny _ _ (Builtin.Frozenset.sizeOf a >>= _) _ _ s;refine ZA (ZA (wpAny_setEntries_of h1 h3 h7 (ZC ?_)));show wpAny _ _ (setDrawn a >>= _) _ _ s;unfold setDrawn;refine ZA (ZA (wpAny_setState_of h1 h3 h7 ?_));dsimp only;refine ZA (Gu (ZC ?_));cases hx:w.params.followText "set-order" with
 | true =>
  refine Z3 (fun hab=>absurd hab (by simp)) (fun _=>?_);refine ZA (ZC (ZA (wpAny_setEpoch_of h1 h3 h7 ?_)));have pm:=Ic (w.params.setOrder a ep) es;refine ZA (Zx (ZC ⟨_,rfl,"set_iterator",_,⟨_,ZS _ rfl,rfl⟩,F.slot_set_iterator_next.lookup,?_⟩))
  refine fin _ s.drawn s.heap.objs.size [s.heap.objs.size,a] _ ((pickOrder (w.params.setOrder a ep) es).toList.map fun(e:Int × Value)=>numOf e.2) (by rw[ZB,pm.length_eq,Zh]) (fun k=>by rw[JV (h4.perm pm),h5 k];exact⟨fun⟨e,x,y⟩=>⟨e,pm.mem_iff.mp x,y⟩,fun⟨e,x,y⟩=>⟨e,pm.mem_iff.mpr x,y⟩⟩) (fun b o e=>ZH _ e) (ZD _)
   (fun b hb=>by simp at hb;rcases hb with rfl | rfl <;> simp) (fun A hh=>XQ hh (ZT Yq) hx h3 h4 h7) ⟨⟨_,ZS _ rfl,rfl,rfl⟩,ZH _ h1⟩
 | false =>
  by_cases hd:(!t.plain && decide (es.size > 1))=true
  ·refine Z3 (fun _=>?_) (fun hab=>absurd (show(!false && (!t.plain && decide (es.size > 1)))=true by rw[hd];rfl) hab);refine ZA (Nr es.size (List.range es.size) _ _ (by simp) fun ps d hp=>?_);refine ZA (wpAny_newTuple ?_ (by rw[ZB,hp.length_eq,Zt];exact fits_of_scanBound h6));refine ZA (wpAny_setEpoch_of (ZH _ h1) h3 h7 ?_);have pm:(ps.filterMap (es[·]?)).Perm es.toList:=(hp.filterMap _).trans (by rw[filterMap_getElem?_range]);refine ZA (Zx (ZC ⟨_,rfl,"set_iterator",_,⟨_,ZS _ rfl,rfl⟩,F.slot_set_iterator_next.lookup,?_⟩))
   refine fin _ d (s.heap.push { cls:=.type "tuple",data:=.seq (ps.map fun(i:Nat)=>rawInt i).toArray }).objs.size [(s.heap.push { cls:=.type "tuple",data:=.seq (ps.map fun(i:Nat)=>rawInt i).toArray }).objs.size,a,s.heap.objs.size] _ ((ps.filterMap (es[·]?)).map fun(e:Int × Value)=>numOf e.2) (by rw[ZB,pm.length_eq,Zh])
    (fun k=>by rw[JV (h4.perm pm),h5 k];exact⟨fun⟨e,x,y⟩=>⟨e,pm.mem_iff.mp x,y⟩,fun⟨e,x,y⟩=>⟨e,pm.mem_iff.mpr x,y⟩⟩) (fun b o e=>ZH _ (ZH _ e)) (by rw[Z7];exact ZBl _)
    (fun b hb=>by rw[Z7]at hb;simp at hb;rcases hb with rfl | rfl | rfl <;> simp) (fun A hh=>Sy hh (by rw[Z7];exact ZT (Nat.lt_succ_of_lt Yq)) (by rw[Z7];exact ZT (ZBM _)) h3 h4 h7 rfl hp)
    ⟨⟨_,ZS _ rfl,rfl,rfl⟩,ZH _ (ZH _ h1),ZH _ (ZS _ rfl)⟩
  ·have hd':(!t.plain && decide (es.size > 1))=false:=by simpa using hd
   refine Z3 (fun hab=>absurd (show(!t.plain && decide (es.size > 1))=true from hab) (by rw[hd'];simp)) (fun _=>?_);refine ZA (ZC (ZA (wpAny_setEpoch_of h1 h3 h7 ?_)));refine ZA (Zx (ZC ⟨_,rfl,"set_iterator",_,⟨_,ZS _ rfl,rfl⟩,F.slot_set_iterator_next.lookup,?_⟩))
   refine fin _ s.drawn s.heap.objs.size [s.heap.objs.size,a] _ (es.toList.map fun(e:Int × Value)=>numOf e.2) (by rw[ZB,Zh]) (fun k=>by rw[JV h4,h5 k]) (fun b o e=>ZH _ e) (ZD _)
    (fun b hb=>by simp at hb;rcases hb with rfl | rfl <;> simp) (fun A hh=>QZ hh (ZT Yq) hx hd' h3 h4 h7 g) ⟨⟨_,ZS _ rfl,rfl,rfl⟩,ZH _ h1⟩
end
end L2
namespace L2
open PySem PySem.Spec PyProof.Rows PySem.W PySem.Calls
section
variable {P:Program}{w:World}{A:Around}{E:Value->Shared->Prop}{s:Shared}{a I:Addr}
theorem Oh{Q:Bool->Shared->Prop}(hT:s.TypeIs (.ref a) "set")(h:Q false s):wpAny (model P w) A (Builtin.List.listLengthHint (.ref a)) Q E s:=by
 unfold Builtin.List.listLengthHint;refine ZA (wpAny_specialOf hT PySem.F.slot_set_len.lookup ?_);generalize hid:("set.__len__" : String)=id0
 wp_delta
 rw[show splitId id0=some ("set","__len__") from by subst hid;decide +kernel];subst hid;refine ZA (wpAny_isInstance (T:="set") (b:=true) hT (by rw[isSubtype_type];kernel_rfl) ?_);refine Z3 (fun hab=>absurd hab (by decide)) (fun _=>Z3 (fun _=>ZA (wpAny_typeOf hT (ZC h))) (fun hab=>absurd (by decide +kernel) hab))
theorem TR {R:Result->Shared->Prop} {S:Int->Bool} {n:Nat} {l:Addr} {c0:Nat} (hh:A.handled=none) (hS:SetW P w s.heap a S n) (hn:n<=sizeLine) (hl:s.heap.get? l=some { cls:=.type "list",data:=.seq #[] c0 }) (res:Value)
 (fin:∀(h':Heap) d tk (Ys:Array Value) (c:Nat) (ms:List Int),ms.length=n->(∀k,k∈ms ↔ S k=true)->(∀b o,b≠l->s.heap.get? b=some o->h'.get? b=some o)->h'.get? l=some { cls:=.type "list",dict:=none,data:=.seq Ys c,slots:=#[] } ->
   ItemsOf (fun i v=>∃t,v=.int (ms.getD i 0) t) Ys n->R (.ok (.ret res)) { s with heap:=h',drawn:=d,toks:=tk }) :
 wpAny (model P w) A.in1 (Builtin.List.listExtendWith (.ref l) (.ref a) res)
  (fun fin s'=>match fin with | .done f=>R (.ok f) s' | .again c'=>c'.quiet=true/\codeAny (model P w) A c' R s') (fun e s'=>R (.error e) s') s:=by
 have hT:s.TypeIs (.ref a) "set":=hS.of.typeIs
 have hla:l≠a:=fun e=>by
  obtain⟨o,es,ep,t,h1,h2,_⟩:=hS;rw[<- e,hl]at h1;cases h1;exact absurd h2.1 (show ¬(Value.type "list" = Value.type "set") by decide)
 unfold Builtin.List.listExtendWith;refine ZA (wpAny_typeOf (T:="set") hT ?_);have e1:Builtin.List.listSameRef (.ref l) (.ref a)=false:=by simp[Builtin.List.listSameRef,hla]
 have e2:(Value.type "set" == Value.type "list")=false:=by decide
 have e3:(Value.type "set" == Value.type "tuple")=false:=by decide
 simp only[e1,e2,e3,Bool.or_false,ZB5,if_false];refine ZA (Pp hS fun h1 d I fp St ms hm1 hm2 hk hI hfp W st=>?_)
 have hlf:l∉fp:=fun z=>by
  rcases hfp l z with q | q
  ·exact hla q
  ·exact absurd (ZF hl) (Nat.not_lt.mpr q)
 have key:∀(h2:Heap) (c1 tk:Nat),St 0 h2->(∀b o,b≠l->s.heap.get? b=some o->h2.get? b=some o)->h2.get? l=some { cls:=.type "list",data:=.seq #[] c1 } ->
  codeAny (model P w) A (.builtin "list.extend.loop" ⟨[.ref l,.ref I,res],[]⟩) R { s with heap:=h2,drawn:=d,toks:=tk }:=fun h2 c1 tk st2 hk2 hl2=>by
  refine codeAny_extend_loopS (W A.in1 hh).toS hn l hlf res n 0 _ #[] c1 rfl (ZU _) st2 hl2 (ItemsOf.nil _) fun s' Ys c hm hs' hacc=>?_
  rw[Moved.eq_with hm];refine fin s'.heap d s'.toks Ys c ms hm1 hm2 (fun b o hb e=>hm.heap b o (fun z=>?_) (hk2 b o hb e)) hs' hacc
  rcases ZG.mp z with q | q
  ·exact hb q
  ·rw[ZO]at q;exact absurd (ZF e) (by rw[q];exact Nat.not_lt.mpr hI)
 have hl1:=hk _ _ hl;refine ZA (Zk (Oh (SetW.of (hS.at fun o e=>hk _ _ e)).typeIs ?_));refine Z3 (fun _=>?_) (fun _=>ZC ⟨ZBD PySem.F.plain_extend_loop _,key _ c0 _ st (fun b o _ e=>hk b o e) hl1⟩);refine ZA (wpAny_rule (ZA ?_));show wpAny _ _ (updateSeq l (·.push .none) >>= fun _=>updateSeq l (·.pop)) _ _ _;have g1:=ZBh (Obj.mapSeq (·.push Value.none)) hl1 rfl;have g2:=ZBh (Obj.mapSeq (·.pop)) g1 rfl;refine ZA (wpAny_updateSeq hl1 rfl (wpAny_updateSeq (hz:=by seq_fits) g1 rfl (ZC ⟨ZBD PySem.F.plain_extend_loop _,key _ _ _ ?_ (fun b o hb e=>?_) g2⟩)))
 ·refine(W A hh).frame 0 _ _ st fun b hb o e=>?_
  have hbl:b≠l:=fun h=>hlf (h ▸ hb)
  exact(ZBI _ _ (Ne.symm hbl)).trans ((ZBI _ _ (Ne.symm hbl)).trans e)
 ·exact(ZBI _ _ (Ne.symm hb)).trans ((ZBI _ _ (Ne.symm hb)).trans (hk b o e))
theorem Pr {S:Int->Bool} {n:Nat} {R:List Value->Shared->Prop} (hh:A.handled=none) (hS:SetW P w s.heap a S n) (hn:n<=sizeLine)
 (fin:∀(h':Heap) d tk (Ys:Array Value) (ms:List Int),ms.length=n->(∀k,k∈ms ↔ S k=true)->(∀b o,s.heap.get? b=some o->h'.get? b=some o)->s.heap.objs.size < h'.objs.size->ItemsOf (fun i v=>∃t,v=.int (ms.getD i 0) t) Ys n->R Ys.toList { s with heap:=h',drawn:=d,toks:=tk }) :
 wpAny (model P w) A (collect (.ref a)) R E s:=by
 unfold collect;refine ZA (wpAny_runValue (ZBH entry_proto_collect' ?_));rw[ZBK PySem.F.plain_proto_collect _];show wpAny _ A.in1 (newList [] >>= fun l=>again (.builtin "list.__iadd__" ⟨[l,.ref a],[]⟩)) _ _ s;refine ZA (Zx (ZC ⟨ZBD PySem.F.plain_list_iadd _,ZBH entry_list_iadd' ?_⟩));rw[ZBK PySem.F.plain_list_iadd _];have g1:(s.heap.push { cls:=.type "list",data:=.seq ([]:List Value).toArray }).get? s.heap.objs.size=some { cls:=.type "list",data:=.seq #[] }:=ZS _ rfl;show wpAny _ A.in1 (Builtin.List.listExtendWith (.ref s.heap.objs.size) (.ref a) (.ref s.heap.objs.size)) _ _ _
 refine Zp (TR (A:=A) (s:={ s with heap:=s.heap.push { cls:=.type "list",data:=.seq ([]:List Value).toArray } })
  (R:=fun(q:Result) (s':Shared)=>∃(h':Heap) (d:_) (tk:Nat) (Ys:Array Value) (c:Nat) (ms:List Int),q=.ok (.ret (.ref s.heap.objs.size))/\s' = { s with heap:=h',drawn:=d,toks:=tk } /\ ms.length=n/\(∀k,k∈ms ↔ S k=true) /\
    (∀b o,s.heap.get? b=some o->h'.get? b=some o)/\h'.get? s.heap.objs.size=some { cls:=.type "list",dict:=none,data:=.seq Ys c,slots:=#[] } /\ ItemsOf (fun i v=>∃t,v=.int (ms.getD i 0) t) Ys n)
  hh (hS.at fun o e=>ZH _ e) hn g1 (.ref s.heap.objs.size) fun h' d tk Ys c ms m1 m2 hk g2 hacc=>⟨h',d,tk,Ys,c,ms,rfl,rfl,m1,m2,fun b o e=>hk b o (ZT (ZF e)) (ZH _ e),g2,hacc⟩) (fun fn s' x=>?_) fun e s' x=>?_
 ·cases fn with
  | done f =>
   obtain⟨h',d,tk,Ys,c,ms,e,rfl,m1,m2,hk,g2,hacc⟩:=x;cases e;show wpAny _ A (load s.heap.objs.size >>= _) _ _ _;exact ZA (wpAny_load g2 (ZC (fin h' d tk Ys ms m1 m2 hk (ZF g2) hacc)))
  | again c₁ =>
   refine⟨x.1,ZBN x.2 fun q s₂ y=>?_⟩;obtain⟨h',d,tk,Ys,c,ms,rfl,rfl,m1,m2,hk,g2,hacc⟩:=y;show wpAny _ A (load s.heap.objs.size >>= _) _ _ _;exact ZA (wpAny_load g2 (ZC (fin h' d tk Ys ms m1 m2 hk (ZF g2) hacc)))
 ·obtain⟨_,_,_,_,_,_,e',_⟩:=x;cases e'
theorem UY{Ys:Array Value}{ms:List Int}(h:ItemsOf (fun i v=>∃t,v=.int (ms.getD i 0) t) Ys ms.length):IntsAre Ys.toList ms:=by
 have e:Ys.toList.map numOf=ms:=by
  apply List.ext_getElem
  ·rw[ZB,Zh,h.1]
  ·intro i h1 h2;rw[List.getElem_map];have h3:i < Ys.size:=by rw[h.1];exact h2
   obtain⟨t,et⟩:=h.2 i Ys[i] (by simp[h3]);rw[Array.getElem_toList,et];show ms.getD i 0=_;rw[ZQ,ZE h2];rfl
 have:=intsAre_map Ys.toList (fun v hv=>by
  obtain⟨i,hi,ei⟩:=Zs hv;obtain⟨t,et⟩:=h.2 i v (by rw[<- ZBz,ZE hi,ei]);exact⟨_,t,et⟩)
 rw[e]at this;exact this
theorem Rl {S:Int->Bool} {n:Nat} {Q:Value->Shared->Prop} (hh:A.handled=none) (hS:SetW P w s.heap a S n) (h64:n < 64)
 (fin:∀(h':Heap) d tk (p:Addr) (ms:List Int) (out:Array Value) (e:Nat),ms.length=n->(∀k,k∈ms ↔ S k=true)->ms.Pairwise (· <= ·)->IntsAre out.toList ms->h'.get? p=some (seqObj "list" out e)->s.heap.objs.size<=p->(∀b o,s.heap.get? b=some o->h'.get? b=some o)->Q (.ref p) { s with heap:=h',drawn:=d,toks:=tk }) :
 wpAny (model P w) A (call (.builtin "sorted") [.ref a]) Q E s:=by
 have hz:n<=sizeLine:=Zj (Zv h64) (by decide);refine call_function_entry kind_sorted plain_sorted entry_sorted (args_sorted1 _) ?_;unfold Builtin.«sorted»;refine ZA (m:=checkCount "sorted" 1 1 _) (ZC (ZA (Pr (A:=A.in1) hh hS hz fun h' d tk Ys ms m1 m2 hk Yq hacc=>?_)));subst m1;have hI:=UY hacc;have hl:Ys.toList.length=ms.length:=by rw[Zh,hacc.1]
 refine ZA (wpAny_newList ?_ (by rw[hl];exact hz));have hoL:(h'.push (seqObj "list" Ys.toList.toArray 0)).get? h'.objs.size=some (seqObj "list" Ys.toList.toArray 0):=ZS _ rfl;refine ZA (Zk (Z1 slot_list_sort ⟨_,hoL,rfl⟩ entry_list_sort (list_sort_tree hoL hI (by lia) fun out ns' a1 a2 a3=>⟨_,rfl,?_⟩) (args_list_sort _)));obtain⟨e,he⟩:=sortedHeap_at (out:=out) hoL;refine ZC ⟨_,rfl,fin _ d tk h'.objs.size ns' out e (a2.length_eq) (fun k=>by rw[a2.mem_iff];exact m2 k) a3 a1 he (Zv Yq) fun b o q=>?_⟩;have hb:=hk b o q;have hlt2:=ZF hb;rw[sortedHeap_old (ZT hlt2) (by rw[Z7];exact Nat.lt_succ_of_lt hlt2)];exact ZH _ hb
end
end L2
namespace L2
open PySem PySem.Spec PyProof.Rows
noncomputable def C4(P:Program)(w:World)(a:Addr)(ds:List Int):Heap->Prop:=fun h=>SetW P w h a (fun k=>ds.any (· == k)) ds.length
theorem Tl{P:Program}{w:World}{H:Hp}{h:Heap}{a:Addr}{ds:List Int}(x:C4 P w a ds h):ObjOk P w H h a (.ext (C4 P w a ds)) :=
 ⟨x,(by obtain⟨o,_,_,_,e,_⟩:=x;exact⟨o,e⟩),fun h1 h2 y k=>SetW.at y k⟩
noncomputable def LW(K:W.Frag)(P:Program)(w:World):List V->Hp->VK->Prop:=fun xs H Q=>match xs with
 | [.ref p]=>∃ns:List Int,Yo K H p (ns.map V.int)/\ns.length<=1000/\∀(ds:List Int) q,ds.Nodup->(∀k,k∈ds ↔ k∈ns)->H q=none->Q (.ref q) (upd H q (.ext (C4 P w q ds)))
 | _=>False
noncomputable def LA(P:Program)(w:World):List V->Hp->VK->Prop:=fun xs H Q=>match xs with
 | [.ref p]=>∃ds:List Int,H p=some (.ext (C4 P w p ds))/\ds.length < 64/\∀(ms:List Int) q,ms.length=ds.length->(∀k,k∈ms ↔ k∈ds)->ms.Pairwise (· <= ·)->H q=none->Q (.ref q) (upd H q (.lst (ms.map V.int)))
 | _=>False
section
variable {X:Cx}{K:W.Frag}{P:Program}{w:World}
theorem Yg.drew{Ya:List (Addr × Obj)}{Z:List (Option V)}{H:Hp}{s:Shared}(I:Yg X Ya Z H s)(d:Drawn):Yg X Ya Z H { s with drawn:=d }:=⟨I.ok,I.os,I.bare,I.base,I.loc,I.cell,I.free,I.freeC,I.pin,I.hok,I.len⟩
theorem Vw(hh:X.calm=true):CallR X (.type "set") (LW X.K X.prog X.w):=by
 intro Ya s Z H xs us Q I r h
 match xs,h with
 | [.ref p],h =>
 obtain⟨ns,hq,hn,q⟩:=h;obtain⟨u,rfl,rx⟩:=BN r;cases rx;obtain⟨Ye,rv,pl,hz⟩:=I.tuple hq;have hi:IntsAre Ye ns:=by simpa using Dg rv
 have Ym:Ye.length=ns.length:=by rw[<- rv.length,ZB]
 refine LQ (ns:=ns) (I.ok.hd hh) pl (by simpa using hi) (by rw[ZI,Ym];show ns.length+1 < 4096;lia) fun h' tk hs hk=>?_
 have hsz:Ye.toArray.size=ns.length:=by rw[ZI,Ym]
 rw[hsz]at hs;exact⟨.ref s.heap.objs.size,_,I.laid (t':=tk) (o:=.ext (C4 X.prog X.w s.heap.objs.size (firstMet (fun i=>ns.getD i 0) ns.length))) (fun b o e=>hk b o (ZF e) e) (ZD _) (Tl hs),rfl,q _ _ (GT _ _) (IE ns) (I.hok.fresh (ZD _))⟩
theorem TZ(hh:X.calm=true)(hK:X.K=K:=by rfl)(hP:X.prog=P:=by rfl)(hw:X.w=w:=by rfl):CallR X (.type "set") (LW K P w):=by subst hK hP hw;exact Vw hh
theorem QJ(hh:X.calm=true):CallR X (.builtin "sorted") (LA X.prog X.w):=by
 intro Ya s Z H xs us Q I r h
 match xs,h with
 | [.ref p],h =>
 obtain⟨ds,hq,hn,q⟩:=h;obtain⟨u,rfl,rx⟩:=BN r;cases rx;obtain⟨hs,_⟩:=(show ObjOk X.prog X.w H s.heap p (.ext (C4 X.prog X.w p ds)) from I.hok p _ hq);refine Rl (I.ok.hd hh) hs hn fun h' d tk b ms out e m1 m2 m3 hi hb hp hk=>?_
 refine⟨.ref b,_,(I.laid (t':=tk) (o:=.lst (ms.map V.int)) (fun b o e=>hk b o e) hp ?_).drew d,rfl,q ms _ m1 (fun k=>(m2 k).trans (by simp)) m3 (I.hok.fresh hp)⟩;exact⟨by rw[ZB,m1];exact Zj (Zv hn) (by decide),out.toList,e,XE hi,hb⟩
theorem Qz(hh:X.calm=true)(hP:X.prog=P:=by rfl)(hw:X.w=w:=by rfl):CallR X (.builtin "sorted") (LA P w):=by subst hP hw;exact QJ hh
noncomputable def OP(C:Addr)(ta:TE)(f:Str):TE:=fun Z H Q=>ta Z H fun x H1=>match x with
 | .ref a=>∃dx fs v,H1 a=some (.ins C dx fs)/\fs.lookup f=some v/\Q v H1
 | _=>False
noncomputable def RZ(C:Addr)(ta tv:TE)(f:Str):TS:=fun D Z H=>tv Z H fun y H1=>ta Z H1 fun x H2=>match x with
 | .ref a=>∃dx fs,H2 a=some (.ins C dx fs)/\fs.length < 1000/\D.nx Z (upd H2 a (.ins C dx (Ac f y fs)))
 | _=>False
variable {C:Addr}{f:Str}{e o value:Expr}{ta tv td ty:TE}{pos pos':Pos}
theorem BM(c:Cls K C)(n:NoAttr K C f)(he:PE X e ta)(hK:X.K=K:=by rfl)(hb:attributeBase e f X.env (eval e X.env)=eval e X.env:=by rfl):PE X (.Attribute e f pos) (OP C ta f):=by
 subst hK;intro Ya s Z H Q I h;refine TC hb (Yn (he Ya s Z H _ I h) fun u s1 ⟨x,H1,I1,rx,q⟩=>?_)
 match x,q with
 | .ref a,⟨dx,fs,v,ea,l,q⟩ =>
 obtain rfl:u=Value.ref a:=rx;exact U7 I1 ea c n l fun u' s2 I2 ru=>⟨v,H1,I2,ru,q⟩
theorem Dc(c:Cls K C)(n:NoAttr K C f)(ha:PE X o ta)(hv:PE X value tv)(hK:X.K=K:=by rfl)(hs:swapsWith value (some (.Attribute o f pos')) pos.line X.env=pure false:=by rfl):PS X (.Assign [.Attribute o f pos'] value pos) (RZ C ta tv f):=by
 subst hK;intro Ya s Z H D I h;refine plainObj_wpAny_Assign_Attribute (Yn (hv Ya s Z H _ I h) fun u s1 ⟨y,H1,I1,ry,q⟩=>Yn (ha Ya s1 Z H1 _ I1 q) fun ov s2 ⟨x,H2,I2,rx,q2⟩=>?_) hs
 match x,q2 with
 | .ref a,⟨dx,fs,ea,l,q2⟩ =>
 obtain rfl:ov=Value.ref a:=rx;exact Sm I2 ea c n l ry fun s3 I3=>⟨Z,_,I3,q2⟩
theorem Qw(h:Af ta):Af (OP C ta f):=fun Z H Q Q' k q=>h _ _ _ _ (fun v H1 q=>by
 cases v <;> first | exact q.elim | (obtain⟨dx,fs,v,a,b,q⟩:=q;exact⟨dx,fs,v,a,b,k _ _ q⟩)) q
theorem UT{m:Str}{sp:Sp}{dvs:List V}{E:XK}{t:TA}(hs:AQ sp)(h1:Af ta)(h2:CI t):Af (IX C m sp dvs E ta t):=fun Z H Q Q' h q =>
 h1 _ _ _ _ (fun v H1 ⟨a,dx,fs,e1,e2,e3,q⟩=>⟨a,dx,fs,e1,e2,e3,h2 _ _ _ _ (fun _ _ q=>hs _ _ _ _ _ h q) q⟩) q
noncomputable def JC(neg:Bool):R2:=fun y x H Q=>match x with
 | .ref a=>∃o,DGet H a y o/\Q (.bl (xor neg o.isSome)) H
 | _=>False
theorem Ka(hu:X.A.units+60 < cLine):Yv X (compareOp .NotIn) (JC true):=by
 intro Ya s Z H y x v u Q I ry rx q
 match x,q with
 | .ref a,⟨o,g,q⟩ =>
 obtain rfl:u=Value.ref a:=rx;exact Sb (C7 hu) I g ry fun s3 I3=>⟨.bl (!o.isSome),H,I3,rfl,(by cases o <;> exact q)⟩
theorem TJ{b:Bool}:Bd (JC b):=fun x y H Q Q' h q=>by
 unfold JC at *;split at q
 ·obtain⟨o,a,q⟩:=q;exact⟨o,a,h _ _ q⟩
 ·exact q.elim
end
end L2
namespace L2
open PySem PySem.Spec PyProof.Rows PySem.W
noncomputable def Fl(K:W.Frag)(base:Heap)(f:Addr):Prop:=PySem.W.keepIn K (.ref f)=true\/∃o fd,base.get? f=some o/\o.data=.func fd
noncomputable def My(f:Addr)(sp:Sp)(tn:TE)(t:TA):TE:=fun Z H Q=>tn Z H fun v H1=>v=.ref f/\t Z H1 fun vs H2=>sp vs H2 Q E0
section
variable {X:Cx}{k:Nat}{f:Addr}{fd:FuncData}{ps:List Str}{sp:Sp}{x:Str}{p pos:Pos}{e:Expr}{es:List Expr}{t:TA}{tn:TE}
theorem JD (hn:PE X (.Name x p) tn) (F:FnOk X.prog X.w X.K X.mg X.base CX0 k f fd ps sp) (hr:Room k X.A) (hf:Fl X.K X.base f) (hb:Binds X.K fd ps []) (ha:PA X (e::es) t)
 (he:starEach (e::es) X.env=(false,eval e X.env)::starEach es X.env:=by rfl) (hpl:(backTo pos (starEach es X.env)).any (·.1)=false:=by rfl) :
 PE X (.Call (.Name x p) (e::es) [] pos) (My f sp tn t):=by
 intro Ya s Z H Q I h;refine wpAny_Call_Name_kw (Yn (hn Ya s Z H _ I h) fun v s1 ⟨y,H1,I1,r1,q1⟩=>?_);obtain⟨rfl,q1⟩:=q1;cases r1
 have fin:∀(us:List Value) (s2:Shared),(∃vs H2,Yg X Ya Z H2 s2/\Yk vs us/\sp vs H2 Q E0)->wpAny (model X.prog X.w) X.A (call (.ref f) us) (EP X Ya Z Q) X.xe s2:=fun us s2 ⟨vs,H2,I2,r,q⟩ =>
  Ff F hr hb .nil AE I2 r (by rw[Zq];exact q)
 rcases hf with hk | ⟨o,fd',e1,e2⟩
 ·refine PySem.W.callWith_K (h₀:=X.base) I.ok.mod.kin hk (Yn (ha pos Ya s1 Z H1 _ I1 q1) fun us s2 ⟨vs,H2,I2,r,q⟩=>⟨I2.kIn,fin us s2 ⟨vs,H2,I2,r,q⟩⟩) he hpl
 ·have h0:=Yn (ha pos Ya s1 Z H1 _ I1 q1) fun us s2 ⟨vs,H2,I2,r,q⟩=>(show s2.heap.get? f=some o/\wpAny (model X.prog X.w) X.A (call (.ref f) ([]++us)) (EP X Ya Z Q) X.xe s2 from⟨I2.bk _ _ e1,fin us s2 ⟨vs,H2,I2,r,q⟩⟩)
  rw[he]at h0 ⊢;refine callWith_of (P:=fun h=>h.get? f=some o) (by show((false || (backTo pos (starEach es X.env)).any (·.1)) || false)=false;rw[hpl];rfl) (fun h hh=>⟨.frame,.inl rfl,(Looks.ld (part:=none) hh).andThen ?_⟩) (Calls.evalArgs_plain h0);rw[e2];exact .now
theorem Qy(h1:Af tn)(h2:CI t)(hs:AQ sp):Af (My f sp tn t):=fun Z H Q Q' k q=>h1 _ _ _ _ (fun v H1 q=>⟨q.1,h2 _ _ _ _ (fun vs H2 q=>hs vs H2 Q Q' E0 k q) q.2⟩) q
end
section
variable {X:Cx}{Ya:List (Addr × Obj)}{Z:St}{H:Hp}{s:Shared}
theorem Yg.pin1(I:Yg X Ya Z H s){a:Addr}{o:Obj}(ha:s.heap.get? a=some o)(n:H a=none)(h1:a≠X.env.locals)(h2:a∉X.fs)(h3:∀v,o.data≠.cell v):Yg X ((a,o)::Ya) Z H s:=by
 refine⟨I.ok,I.os,I.bare,I.base,I.loc,I.cell,I.free,I.freeC,fun p hp=>?_,I.hok,I.len⟩
 rcases Zf.mp hp with z | z
 ·exact I.pin p (Z5 _ z)
 ·rcases ZG.mp z with rfl | z
  ·exact⟨ha,n,h1,h2,h3⟩
  ·exact I.pin p (ZZ _ z)
theorem Yg.unpin1{q:Addr × Obj}(I:Yg X (q::Ya) Z H s):Yg X Ya Z H s:=by
 refine⟨I.ok,I.os,I.bare,I.base,I.loc,I.cell,I.free,I.freeC,fun p hp=>?_,I.hok,I.len⟩
 rcases Zf.mp hp with z | z
 ·exact I.pin p (Z5 _ z)
 ·exact I.pin p (ZZ _ (ZX _ z))
noncomputable def Hz(X:Cx)(H:Hp):Hp:=fun b=>if b∈frs X.stack then some (.tup []) else H b
noncomputable def Cp(X:Cx)(H:Hp)(s:Shared):Heap:=CZ s.heap (Hz X H)
theorem EF{b:Addr}{o:Obj}(e:s.heap.get? b=some o)(n:H b=none)(f:b∉frs X.stack):(Cp X H s).get? b=some o:=M5 e (by unfold Hz;rw[if_neg f];exact n)
theorem HX{b:Addr}{o:Obj}(e:(Cp X H s).get? b=some o):s.heap.get? b=some o/\H b=none/\b∉frs X.stack:=by
 obtain⟨h1,h2⟩:=OY e;unfold Hz at h2
 by_cases f:b∈frs X.stack
 ·rw[if_pos f]at h2;cases h2
 ·rw[if_neg f]at h2;exact⟨h1,h2,f⟩
theorem Nz{h base base':Heap}:∀{l:List Env},h.FunFrames base l->(∀b∈frs l,base'.get? b=none)->h.FunFrames base' l
 | [],_,_=>trivial
 | env::l,⟨a,⟨L,o,e1,_,e3,e4⟩,r⟩,hb=>by
  refine⟨a,⟨L,o,e1,hb L ?_,e3,e4⟩,Nz r fun b hb'=>hb b ?_⟩
  ·rw[frs,ZBd,e1];exact Zb ..
  ·rw[frs,ZBd,e1];exact ZX _ hb'
theorem KU(I:Yg X Ya Z H s):∀b o,X.base.get? b=some o->(Cp X H s).get? b=some o:=fun b o e =>
 EF (I.bs b o e).1 (I.bs b o e).2 fun z=>by
  have:=(I.stack.mem z).1
  rw[e]at this;cases this
theorem LV(I:Yg X Ya Z H s):Env0 X.prog X.w X.K X.mg (Cp X H s) X.A X.stack s H:=by
 have sub:=KU I;refine⟨I.ok.frames,⟨I.ok.mod.kin.keeps sub,I.ok.mod.glob.keeps sub,let ⟨mb,h1,h2⟩:=I.ok.mod.blt;⟨mb,h1.keeps sub,h2⟩,I.ok.mod.nolimit.keeps sub⟩,fun b o e=>⟨(HX e).1,(HX e).2.1⟩,ZBf (MM _ _),Nz I.stack fun b hb=>?_,I.stkFree,I.hok,I.bare⟩;cases e:(Cp X H s).get? b with
 | none=>rfl
 | some o=>exact absurd hb (HX e).2.2
theorem Wm {k:Nat} {f:Addr} {fd:FuncData} {ps:List Str} {sp:Sp} {us:List Value} {vs:List V} {Q:VK} (I:Yg X Ya Z H s) (F:FnOk X.prog X.w X.K X.mg (Cp X H s) CX0 k f fd ps sp) (hr:Room k X.A) (hb:Binds X.K fd ps [])
 (r:Yk vs us) (h:sp vs H Q E0):wpAny (model X.prog X.w) X.A (call (.ref f) us) (EP X Ya Z Q) X.xe s:=by
 have hl:(us++[]).length=ps.length:=by rw[Zq,<- r.length];exact F.len _ _ _ _ h
 have hbb:=hb s us I.kIn hl;rw[Zq]at hbb;refine wpAny_call (ZBN (F.run X.A X.stack s H ⟨us,[]⟩ us vs Q E0 hr (LV I) hbb r h) fun r s' hq=>?_);cases r with
 | error e=>exact False.elim hq
 | ok fl =>
  cases fl with
  | ret u=>exact I.after hq
  | next=>exact False.elim hq
  | brk=>exact False.elim hq
  | cont=>exact False.elim hq
end
section
variable {X:Cx}{Pt c f:Addr}{fd:FuncData}{ps:List Str}{k i:Nat}{kn a:Str}{kp pos lpos:Pos}{params:Arguments}{body:Expr}{scope:Scope}{e:Expr}{es:List Expr}{t:TA}{qual:Str}{spK:Addr->Addr->V->Sp}
noncomputable def Rm(Pt:Addr)(lpos:Pos)(qual:Str)(i:Nat)(spK:Addr->Addr->V->Sp)(t:TA):TE:=fun Z H Q=>∃vA,Z[i]? = some (some vA)/\Yx Pt lpos qual H /\
 ∀Yr c' H1,Yt Pt H H1->Yx Pt lpos qual H1->H1 c'=some (CdO c' qual)->H1 Yr=none->t Z H1 fun vs H2=>spK Yr c' vA (.ref Yr::vs) H2 Q E0
theorem P9 (hg:Gl X kn) (hm:X.mg kn=some (.ref f)) (hk:PySem.W.keepIn X.K (.ref f)=true) (hr:Room k X.A) (hb:Binds X.K fd ps []) (hcode:X.env.code=.ref c) (hcK:codeHdIn X.K c Pt=true) (hbm:BMn X.mg X.base)
 (hq:X.env.qual ++ "<lambda>" = qual) (hdef:defaultsOf params X.env=([],[])) (hN:X.N[i]? = some a) (hcl:∀cell,X.env.cells.lookup a=some cell->closureFor scope X.env=pure [(a,cell)]) (hka:X.env.kindOf a=some .cell) (hfn:X.fn a=true)
 (hF:∀(base':Heap) (Yr cell c':Addr) (pm ctv uA:Value) (vA:V),(∀b o,X.base.get? b=some o->base'.get? b=some o)->base'.get? Yr=some (kla_obj "<lambda>" qual params body scope [(a,cell)] pm c' ctv)->base'.IsCell cell (some uA)->Yi vA uA->FnOk X.prog X.w X.K X.mg base' CX0 k f fd ps (spK Yr c' vA))
 (ha:PA X (e::es) t) (hd:(kn == ("__debug__" : Str))=false:=by decide)
 (he:starEach (.Lambda params body scope lpos::e::es) X.env=(false,eval (.Lambda params body scope lpos) X.env)::starEach (e::es) X.env:=by rfl) (hpl:(backTo pos (starEach (e::es) X.env)).any (·.1)=false:=by rfl) :
 PE X (.Call (.Name kn kp) (.Lambda params body scope lpos::e::es) [] pos) (Rm Pt lpos qual i spK t):=by
 intro Ya s1 Z H1 Q I1 h;subst hq;obtain⟨vA,hv,hL,hQ⟩:=h;refine wpAny_Call_Name_kw (GP I1 hg hm ?_ hd);refine PySem.W.callWith_K (h₀:=X.base) I1.ok.mod.kin hk ?_ he hpl;rw[he];show wpAny _ _ (spliced ((false,eval (.Lambda params body scope lpos) X.env)::backTo pos (starEach (e::es) X.env))) _ _ s1;refine Calls.spliced_cons ?_;obtain⟨Pps,hP,htr,hcs⟩:=id hL
 have fin:∀(H2:Hp) (s2:Shared) (Yr c' cell:Addr) (pm ctv:Value),Yg X Ya Z H2 s2->X.env.cells.lookup a=some cell->s2.heap.get? Yr=some (kla_obj "<lambda>" (X.env.qual ++ "<lambda>") params body scope [(a,cell)] pm c' ctv) ->
  H2 Yr=none->Yr≠X.env.locals->Yr∉X.fs->Yt Pt H1 H2->Yx Pt lpos (X.env.qual ++ "<lambda>") H2->H2 c'=some (CdO c' (X.env.qual ++ "<lambda>")) ->
  wpAny (model X.prog X.w) X.A (spliced (backTo pos (starEach (e::es) X.env))) (fun us s3=>X.K.In s3.heap/\wpAny (model X.prog X.w) X.A (call (.ref f) ([]++Value.ref Yr::us)) (EP X Ya Z Q) X.xe s3) X.xe s2:=by
  intro H2 s2 Yr c' cell pm ctv I2 hcell hf hn hnl hnf hG hL2 hc';have J:=I2.pin1 hf hn hnl hnf (fun v z=>by cases z);refine Yn (ha pos _ s2 Z H2 _ J (hQ Yr c' H2 hG hL2 hc' hn)) fun us s3 ⟨vs,H3,I3,r3,q3⟩=>⟨I3.kIn,?_⟩
  have hl3:=(I3.pin (Yr,_) (ZZ _ (Zb ..)));obtain⟨m,hns,hloc⟩:=I3.loc;obtain⟨uA,rA,look⟩:=hloc i a vA hN hv (.inr (.inl hka))
  rcases look with ⟨z,_⟩ | ⟨_,cell',e1,e2⟩
  ·rw[hka]at z;cases z
  rw[hcell]at e1;cases e1;have I4:=I3.unpin1
  have lamS:Yr∉frs X.stack:=fun z=>by
   rcases ZG.mp (I3.stkSub _ z) with z | z
   ·exact hl3.2.2.1 z
   ·exact hl3.2.2.2.1 z
  have cellS:cell∉frs X.stack:=fun z=>by
   rcases ZG.mp (I3.stkSub _ z) with z | z
   ·exact I3.cne _ _ hcell z
   ·obtain⟨_,o,ho,_⟩:=I3.ok.funs.mem z;exact absurd (ZY (ZF ho) (I3.ok.cab a cell hfn hcell)) (ZW _)
  refine Wm I4 (hF _ Yr cell c' pm ctv uA vA (KU I4) (EF hl3.1 hl3.2.1 lamS) ?_ rA) hr hb (.cons (show Yi (.ref Yr) (.ref Yr) from rfl) r3) q3;obtain⟨o,ho,hd'⟩:=e2;exact⟨o,EF ho (I3.freeC _ _ hcell) cellS,hd'⟩
 obtain⟨cell,hcell⟩:=I1.ok.has a (.inl hka);have gl:∀{s:Shared} {H:Hp},Yg X Ya Z H s->s.heap.Ns mainGlobals X.mg:=fun J=>J.mod.glob.keeps J.bk
 have C:CodeHd s1.heap c Pt:=codeHd_of_K I1.kIn hcK;have hPt:s1.heap.get? Pt=some (tabObj Pps):=I1.hok _ _ hP
 have gP:mainGlobals≠Pt:=fun z=>by
  obtain⟨o,es,ep,e,hd,_⟩:=gl I1;rw[z,hPt]at e;cases e;cases hd
 have hB:s1.heap.BuiltinsAt X.mg Pt:=by
  obtain⟨bm,ob,b1,b2,b3,b4,b5,b6⟩:=hbm;have e:=I1.bk _ _ b3;refine⟨bm,ob,b1,b2,fun z=>?_,fun z=>?_,e,b4,b5,b6⟩
  ·obtain⟨o,es,ep,e',hd,_⟩:=gl I1;rw[z,e']at e;cases e;rw[hd]at b6;cases b6
  ·rw[z,hPt]at e;cases e;cases b4
 refine kla_eval hdef ?_
 rcases hcs with hnf | ⟨c',hf,hc'⟩
 ·refine kla_makeFunction (hcl cell hcell) I1.ok.glob (gl I1) hcode C hPt htr hnf gP hB fun c' ctv h' tk hx' hge Yq hrec htb=>?_
  have J:=I1.grow (t':=tk) hP hx' htb hge hrec;have J':=J.kept (h':=h'.push _) (t':=tk) fun b u e=>ZH (kla_obj "<lambda>" (X.env.qual ++ "<lambda>") params body scope [(a,cell)] ((X.mg "__name__").getD .none) c' ctv) e
  have hcn:H1 c'=none:=I1.hok.fresh hge;have hcP:c'≠Pt:=fun z=>by rw[z,hP]at hcn;cases hcn
  refine fin _ _ h'.objs.size c' cell _ ctv J' hcell (ZS _ rfl) (J.hok.fresh (ZD _)) (ZBU J.lt) (J.nofs (ZD _)) (fun b o n e=>?_) ⟨_,by rw[AJ (Ne.symm hcP),AD],?_,.inr ⟨c',?_,AD⟩⟩ AD
  ·have hbc:b≠c':=fun z=>by rw[z,hcn]at e;cases e
   rw[AJ hbc,AJ n];exact e
  ·rw[ZB6];exact TriplesOk_snoc _ _ _ _ htr
  ·rw[ZB6];exact codeAmong_snoc _ htr hnf
 ·refine kla_makeFunctionHit (hcl cell hcell) I1.ok.glob (gl I1) hcode C hPt htr hf hB fun ctv h' tk hk' hsz=>?_
  have J0:Yg X Ya Z H1 { s1 with heap:=h',toks:=tk }:=I1.kept hk';have J:=I1.kept (h':=h'.push _) (t':=tk) fun b u e=>ZH (kla_obj "<lambda>" (X.env.qual ++ "<lambda>") params body scope [(a,cell)] ((X.mg "__name__").getD .none) c' ctv) (hk' b u e)
  exact fin _ _ h'.objs.size c' cell _ ctv J hcell (ZS _ rfl) (J0.hok.fresh (ZD _)) (ZBU J0.lt) (J0.nofs (ZD _)) (Yt.refl _ _) hL hc'
end
noncomputable abbrev Gq(scope:Scope)(L:Addr)(a:Str)(cell:Addr)(qual:Str)(Yr c':Addr):Env:=newEnv scope L mainGlobals [(a,cell)] (qual ++ ".<locals>.") (some Yr) (.ref c') none builtinsNs
noncomputable def Iz(P:Program)(w:World)(K:W.Frag)(mg:Str->Option Value)(base:Heap)(scope:Scope)(a x:Str)(cell:Addr)(qual:Str)(Yr c':Addr)(A:Around)(outer:List Env)(s:Shared)(H:Hp):Cx where
 prog:=P
 w:=w
 K:=K
 mg:=mg
 base:=base
 A:=A.deeper (Gq scope s.heap.objs.size a cell qual Yr c')
 N:=[x,a]
 s₀:=s
 H₀:=H
 env:=Gq scope s.heap.objs.size a cell qual Yr c'
 outer:=outer
 stack:=Gq scope s.heap.objs.size a cell qual Yr c'::outer
 ex:=[]
 calm:=true
 fn:=fun _=>false
 pn:=[]
 xe:=fun _ _=>False
noncomputable def CH(c':Addr)(qual:Str)(spB:V->Hp->VK->Prop):Sp:=fun vs H Q _=>match vs with
 | [v]=>H c'=some (CdO c' qual)/\spB v H Q
 | _=>False
theorem UF{c':Addr}{qual:Str}{spB:V->Hp->VK->Prop}(h:∀v H Q Q',(∀y H',Q y H'->Q' y H')->spB v H Q->spB v H Q'):AQ (CH c' qual spB):=fun vs H Q Q' E k q=>by
 unfold CH at *;split at q
 ·exact⟨q.1,h _ _ _ _ k q.2⟩
 ·exact q.elim
theorem QG {P:Program} {w:World} {K:W.Frag} {mg:Str->Option Value} {base:Heap} {k:Nat} {Yr cell c':Addr} {qual a x:Str} {params:Arguments} {body:Expr} {scope:Scope} {pm ctv:Value} {spB:V->Hp->VK->Prop} {vA:V} {uA:Value}
 (hl:base.get? Yr=some (kla_obj "<lambda>" qual params body scope [(a,cell)] pm c' ctv)) (hc:base.IsCell cell (some uA)) (rA:Yi vA uA)
 (hx:scope.names.lookup x=some .local) (ha:scope.names.lookup a=some .free) (hfr:∀y,scope.names.lookup y=some .free->y=a) (hco:scope.isCoroutine=false) (hgen:scope.isGenerator=false) (hkind:scope.kind=.function)
 (hcell:∀y∈scope.names,y.2≠.cell)
 (hbody:∀(A:Around) (outer:List Env) (s:Shared) (H:Hp) (v:V) (Q:VK),Room k (A.deeper (Gq scope s.heap.objs.size a cell qual Yr c'))->spB v H Q ->
   ∃te,PE (Iz P w K mg base scope a x cell qual Yr c' A outer s H) body te/\te [some v,some vA] H Q) :
 FnOk P w K mg base CX0 (k+1) Yr (kla_fn "<lambda>" qual params body scope [(a,cell)] pm (.ref c') ctv) [x] (CH c' qual spB):=by
 refine⟨fun vs H Q E h=>by unfold CH at h;split at h;rfl;exact h.elim,fun A outer s H args us vs Q E hr e0 hbd r hsp=>?_⟩
 match vs,hsp,r with
 | [v],⟨hcd,hq⟩,r =>
 obtain⟨u,rfl,ru⟩:=BN r;have lim:s.heap.NoLimit:=e0.mod.nolimit.keeps fun b o e=>(e0.bs b o e).1
 obtain⟨hcr,_⟩:=e0.hok _ _ hcd;refine kla_callFunE hr.depth (e0.bs _ _ hl).1 rfl hco hgen rfl hcr (hbd _ _ _ _ ?_);refine wpAny_newFunctionEnv hcell (fun y hy=>by rw[ZO.mp hy];exact hx) (fun h₁ hns hsb=>⟨lim.fresh _ hsb,?_⟩) hkind;have hk₁:∀b o,s.heap.get? b=some o->h₁.get? b=some o:=fun b o e=>hsb.extBut b o (ZT (ZF e)) (ZH _ e)
 refine kla_codeExpr ?_;obtain⟨te,ht,hte⟩:=hbody A outer s H v Q (hr.deeper _) hq
 have hcell1:h₁.IsCell cell (some uA):=by
  obtain⟨o,e,d⟩:=hc;exact⟨o,hk₁ _ _ (e0.bs _ _ e).1,d⟩
 have hcH:H cell=none:=by
  obtain⟨o,e,d⟩:=hc;exact(e0.bs _ _ e).2
 have lk:∀y c,List.lookup y [(a,cell)]=some c->y=a/\c=cell:=fun y c e=>by
  rw[Z8]at e
  by_cases z:y=a
  ·subst z;simp at e;exact⟨rfl,e.symm⟩
  ·rw[beq_eq_false_iff_ne.mpr z]at e;cases e
 have noA:∀b:Addr,b∉(Iz P w K mg base scope a x cell qual Yr c' A outer s H).ex:=fun b z=>absurd (show b∈([]:List Addr) from z) (by simp)
 have kindc:∀y,scope.names.lookup y≠some .cell:=fun y z=>hcell _ (PySem.mem_of_lookup z) rfl
 have nax:a≠x:=fun z=>by rw[z,hx]at ha;cases ha
 have I:Yg (Iz P w K mg base scope a x cell qual Yr c' A outer s H) [] [some v,some vA] H { s with heap:=h₁,toks:=s.toks+[(x,u)].length }:=by
  refine⟨⟨e0.mod,hkind,rfl,rfl,ZD _,fun y z c h1 h2=>?_,fun y hy=>?_,fun y c hf _=>?_,fun _=>hr.hd,Around.frames_deeper e0.frames,.inr ⟨rfl,rfl⟩,fun b z=>absurd z (noA b),e0.bs,e0.bsz,fun b _ _=>noA b,fun b z=>absurd z (noA b),e0.funs,e0.frf⟩,
   rfl,e0.bare,Un.kept hk₁,⟨_,hns,fun i y z h1 h2 h3=>?_⟩,fun y c h=>?_,e0.hok.fresh (ZD _),fun y c h=>?_,fun p hp=>absurd (show p∈([]:List (Addr × Obj)) from hp) (by simp),e0.hok.kept hk₁,rfl⟩
  ·exact(lk _ _ h1).1.trans (lk _ _ h2).1.symm
  ·have hy:scope.names.lookup y=some .cell\/scope.names.lookup y=some .free:=hy
   rcases hy with hy | hy
   ·exact absurd hy (kindc y)
   ·rw[hfr y hy];exact⟨cell,by show List.lookup a [(a,cell)]=_;simp⟩
  ·cases hf
  ·match i,h1,h2 with
   | 0,h1,h2 =>
    cases h1;cases h2;exact⟨u,ru,.inl ⟨hx,by simp⟩⟩
   | 1,h1,h2 =>
    cases h1;cases h2;exact⟨uA,rA,.inr ⟨.inr ha,cell,by show List.lookup a [(a,cell)]=_;simp,hcell1⟩⟩
   | n+2,h1,h2=>cases h2
  ·obtain⟨_,rfl⟩:=lk y c h;exact⟨_,hcell1⟩
  ·obtain⟨_,rfl⟩:=lk y c h;exact hcH
 refine Zp (ht [] _ _ _ _ I hte) (fun u' s' hs=>?_) fun e s' hs=>False.elim hs
 obtain⟨v',H',J,rv,q⟩:=hs;exact⟨v',H',J.os,J.bare,J.base,J.hok,rv,q⟩
end L2
namespace L2
open PySem PyProof.Rows
noncomputable def FW(K:W.Frag):V->List V->Hp->VK->Prop:=fun x vs H Q=>match x,vs with
 | .ref l,[.ref b]=>∃xs ys,H l=some (.lst xs)/\Yo K H b ys/\xs.length+ys.length<=100000/\Q .non (upd H l (.lst (xs++ys)))
 | _,_=>False
section
variable {X:Cx}{K:W.Frag}{o e:Expr}{to:TE}{t:TA}{apos cpos:Pos}
theorem Vi:MtR X "list.extend" (FW X.K):=by
 intro Ya s Z H x vs v us Q I rx rv q
 match x,vs,q with
 | .ref l,[.ref b],⟨xs,ys,hH,hb,h3,q⟩ =>
 cases rx;obtain⟨u,rfl,ru⟩:=BN rv;cases ru;obtain⟨z,Ye,n,r,hl,e⟩:=I.lstM hH;obtain⟨its2,r2,⟨o2,e2,c2,n2,d2⟩,hz2⟩:=I.tuple hb;have l1:=r.length;have l2:=r2.length
 have hlb:l≠b:=fun q=>by
  rw[q,e2]at e;cases e;exact absurd c2 (by simp)
 refine Z1 F.slot_list_extend ⟨_,e,rfl⟩ F.entry_list_extend ?_ (F.args_list_extend_2 _ _);show wpAny _ _ (Builtin.List.listExtendWith (.ref l) (.ref b) .none) _ _ s;unfold Builtin.List.listExtendWith;refine ZA (wpAny_typeOf (T:="tuple") ⟨o2,e2,c2⟩ ?_);have h1:Builtin.List.listSameRef (.ref l) (.ref b)=false:=by simp[Builtin.List.listSameRef,hlb]
 have h2:(Value.type "tuple" == Value.type "list")=false:=by decide
 have h3':(Value.type "tuple" == Value.type "tuple")=true:=by decide
 simp only[h1,h2,h3',Bool.or_true,if_true];refine ZA (listItems_at e2 d2 (ZA (listItems_at e rfl ?_)))
 rw[if_neg (by
  rw[ZK];rintro⟨_,q⟩;unfold Builtin.List.listTooLong at q;simp[sizeLine_eq]at q;lia)]
 refine ZA (listUpdate_at e rfl ?_ (by rw[ZI,sizeLine_eq];lia) (by rw[Array.size_append,ZI,ZI,sizeLine_eq];lia));refine ZC ⟨_,rfl,?_⟩;exact⟨.non,_,I.lset (its':=Ye++its2) hH e (by simp) (r.append r2) (by rw[ZN,sizeLine_eq];lia),rfl,q⟩
theorem XS (ho:PE X o to) (ha:PA X [e] t) (hbase:attributeBase o "extend" X.env (eval o X.env)=eval o X.env:=by rfl)
 (hfew:((backTo cpos (starEach [e] X.env)).all (fun x=>!x.1) && (backToKw cpos (keywordEach [] X.env)).all (fun x=>x.1.isSome)
   && decide ([e].length+([]:List Keyword).length+(if ([]:List Keyword).isEmpty then 0 else 1) < 30))=true:=by rfl)
 (hline:(apos.endLine == cpos.line)=true:=by rfl) (hs:starEach [e] X.env=(false,eval e X.env)::starEach [] X.env:=by rfl) (hplain:(backTo cpos (starEach [] X.env)).any (·.1)=false:=by rfl) (hK:X.K=K:=by rfl) :
 PE X (.Call (.Attribute o "extend" apos) [e] [] cpos) (tBM K "list" (FW K) to t):=hK ▸ GE PySem.F.plainAttrs_list PySem.F.slot_list_extend PySem.F.type_list_extend Vi ho ha hbase hfew hline hs hplain
theorem WM:FI (FW K):=fun x xs H Q Q' h q=>by
 unfold FW at *;split at q
 ·obtain⟨a,b,c,d,e,q⟩:=q;exact⟨a,b,c,d,e,h _ _ q⟩
 ·exact q.elim
end
end L2
namespace L2
open PySem PySem.Spec PyProof.Rows PySem.SeqAt
theorem Mr:isSubtype (.type "str") (.type "dict")=pure false:=by rw[isSubtype_type];kernel_rfl
theorem WL(l:Addr)(es:Array DictEntry)(ep:Nat)(dd:Option Addr)(sl:Array (Option Value))(b:Str)(u:Tok) :
 Meets (Builtin.«dict.__eq__» ⟨[.ref l,.str b u],[]⟩) (fun _ R s=>s.heap.get? l=some { cls:=.type "dict",dict:=dd,data:=.dict es ep,slots:=sl } /\ R (.ok (.ret .notImplemented)) s) :=
 .of_wp fun prog w A R s h=>by obtain⟨hp,g,d,tk,os⟩:=s;obtain⟨hl,h⟩:=h;have f1:=Mr;wp_walk using AutoSeq1.wpAny_loadPart' hl;exact⟨_,rfl,h⟩
theorem U4(b:Str)(u:Tok)(l:Addr)(es:Array DictEntry)(ep:Nat)(dd:Option Addr)(sl:Array (Option Value)) :
 Meets (Builtin.«str.__eq__» ⟨[.str b u,.ref l],[]⟩) (fun _ R s=>s.heap.get? l=some { cls:=.type "dict",dict:=dd,data:=.dict es ep,slots:=sl } /\ R (.ok (.ret .notImplemented)) s) :=
 .of_wp fun prog w A R s h=>by obtain⟨hp,g,d,tk,os⟩:=s;obtain⟨hl,h⟩:=h;wp_walk using AutoSeq1.wpAny_loadPart' hl,wpAny_load hl;exact⟨_,rfl,h⟩
theorem QH{A:Around}{s:Shared}{l:Addr}{o:Obj}{es:Array DictEntry}{ep:Nat}(b:Str)(u:Tok)(ho:s.heap.get? l=some o)(hc:o.cls=.type "dict")(hd:o.data=.dict es ep)(hu:A.units < cLine):RcAt A s (.ref l) (.str b u) false:=fun prog w E Q h=>by
 obtain⟨cls,dd,data,sl⟩:=o;simp only at hc hd;subst hc hd
 exact rc_eq_decline_or (k:=false) ⟨_,ho,rfl⟩ (typeIs_str s b u) (by decide) Mr F.slot_dict_eq F.slot_str_eq_refl
  (fun _ hq=>call_meets F.slot_dict_eq ⟨_,ho,rfl⟩ F.entry_dict_eq (F.args_dict_eq_2 _ _) (WL l es ep dd sl b u) ⟨ho,hq⟩)
  (fun _ hq=>call_meets F.slot_str_eq_refl (typeIs_str s b u) F.entry_str_eq (F.args_str_eq_2 _ _) (U4 b u l es ep dd sl) ⟨ho,hq⟩)
  (fun _ hq=>wpAny_of_eq (rfl:isSame (.ref l) (.str b u)=pure false) hq) (.inr hu) h
noncomputable def A8(s:Str):Dw->Bool
 | .str x=>x == s
 | _=>false
noncomputable def Lj(K:W.Frag):R2:=fun x y H Q=>match y with
 | .str s=>∃d,Yj K H d x/\Q (.bl (A8 s d)) H
 | _=>False
section
variable {X:Cx}{K:W.Frag}
theorem Vd(hu:X.A.units+60 < cLine):Yv X (compareOp .Eq) (Lj X.K):=by
 intro Ya s Z H x y v u Q I rx ry q;have hu':X.A.units < cLine:=by lia
 cases y with
 | str b =>
  obtain⟨d,hd,q⟩:=q;obtain⟨t,rfl⟩:=ry;cases d with
  | non=>unfold Yj at hd;subst hd;cases rx;exact RcAt.none_str b t X.prog X.w _ _ ⟨.bl false,H,I,rfl,q⟩
  | bl c=>unfold Yj at hd;subst hd;cases rx;exact RcAt.bool_str c b t X.prog X.w _ _ ⟨.bl false,H,I,rfl,q⟩
  | int c=>unfold Yj at hd;subst hd;obtain⟨t',rfl⟩:=rx;exact RcAt.int_str c t' b t X.prog X.w _ _ ⟨.bl false,H,I,rfl,q⟩
  | str c=>unfold Yj at hd;subst hd;obtain⟨t',rfl⟩:=rx;exact RcAt.str_str c t' b t X.prog X.w _ _ ⟨.bl (c == b),H,I,rfl,q⟩
  | tup ds =>
   obtain⟨a,xs,rfl,ha,_⟩:=CN hd;cases rx;obtain⟨Ye,_,p,_⟩:=I.tuple ha;exact RcAt.tuple_str b t p hu' X.prog X.w _ _ ⟨.bl false,H,I,rfl,q⟩
  | lst ds =>
   unfold Yj at hd;obtain⟨a,xs,rfl,ha,_⟩:=hd;cases rx;obtain⟨⟨_,Ye,n,_,e⟩,_⟩:=I.hok _ _ ha;exact RcAt.list_str b t ⟨_,e,rfl,n,rfl⟩ hu' X.prog X.w _ _ ⟨.bl false,H,I,rfl,q⟩
  | emp =>
   unfold Yj at hd;obtain⟨a,rfl,ha⟩:=hd;cases rx;obtain⟨_,_,vs,_,dd⟩:=Lx I.hok ha;obtain⟨o,es,ep,e1,e2,e3,_⟩:=dd;exact QH b t e1 e2.1 e3 hu' X.prog X.w _ _ ⟨.bl false,H,I,rfl,q⟩
 | _=>exact False.elim q
theorem JK(hu:X.A.units+60 < cLine)(hK:X.K=K:=by rfl):Yv X (compareOp .Eq) (Lj K):=hK ▸ Vd hu
end
end L2
namespace L2
open PySem PySem.Spec PyProof.Rows
theorem Wa {prog:Program} {w:World} {A:Around} {R:Result->Shared->Prop} {I S:Addr} {fp wr:List Addr} {n:Nat} {P:Nat->Value->Prop} {St:Nat->Heap->Prop} {x0:Str} {d0:Value}
 (W:Walks prog w A.in1 I fp wr n P St) (val:Nat->Int) (hval:∀i v,P i v->∃t,v=.int (val i) t) (hSf:S∉fp) :
 ∀(k j:Nat) (s:Shared) (cur:Array Value) (c:Nat),n - j=k->j<=n->St j s.heap->s.heap.get? S=some { cls:=.type "list",dict:=none,data:=.seq cur c,slots:=#[] } ->
  ((j=0/\cur = #[])\/∃i v,i < j/\cur = #[v,v]/\P i v/\∀i',i' < j->val i'<=val i) ->
  (∀v h' tk,((n=0/\v=d0)\/∃i,i < n/\P i v/\∀i',i' < n->val i'<=val i)->(∀b o,b∉wr->b≠S->s.heap.get? b=some o->h'.get? b=some o)->R (.ok (.ret v)) { s with heap:=h',toks:=tk }) ->
  codeAny (model prog w) A (.builtin "max.loop" ⟨[.ref I,.none,.ref S],[(x0,d0)]⟩) R s:=by
 have hSw:S∉wr:=fun h=>hSf (W.sub _ h);have nm:(toString "max" ++ toString ".loop" : String) = "max.loop":=by decide
 intro k
 induction k with
 | zero =>
  intro j s cur c hk hj hst hS hcur hR;obtain rfl:j=n:=by lia
  refine ZBH F.entry_max_loop (by
   rw[ZBK F.plain_max_loop _];show wpAny _ _ (seqItems? (Value.ref S) >>= _) _ _ _;refine ZA (wpAny_seqItems hS rfl (show wpAny _ _ (tryCatch (pyNext (Value.ref I)) _ >>= _) _ _ _ from ZA (ZBS (W.done s _ _ hst fun h' tk hk'=>?_))))
   rcases hcur with ⟨z,rfl⟩ | ⟨i,v,hi,rfl,hP,hm⟩
   ·show wpAny _ _ (rule _ >>= _) _ _ _;exact ZA (wpAny_rule (ZC (hR d0 h' tk (.inl ⟨z,rfl⟩) fun b o hb _ e=>hk' b o hb e)))
   ·show wpAny _ _ (updateSeq S (fun _=>#[]) >>= _) _ _ _;exact ZA (wpAny_updateSeq (hk' S _ hSw hS) rfl (ZA (ZBa (ZC (hR v _ tk (.inr ⟨i,hi,hP,hm⟩) fun b o hb hbS e=>(ZBI _ _ (Ne.symm hbS)).trans (hk' b o hb e)))))))
 | succ k ih =>
  intro j s cur c hk hj hst hS hcur hR;have Yq:j < n:=by lia
  have hk1:n - (j+1)=k:=by rw[Nat.sub_add_eq,hk];rfl
  refine ZBH F.entry_max_loop (by
   rw[ZBK F.plain_max_loop _];show wpAny _ _ (seqItems? (Value.ref S) >>= _) _ _ _;refine ZA (wpAny_seqItems hS rfl (show wpAny _ _ (tryCatch (pyNext (Value.ref I)) _ >>= _) _ _ _ from ZA (ZBS (W.item j s _ _ Yq hst fun v h' tk hP hst' hk'=>?_))));have hS':=hk' S _ hSw hS
   have go:∀(h2:Heap) (cur':Array Value) (c':Nat),(∀b,b≠S->h2.get? b=h'.get? b)->h2.get? S=some { cls:=.type "list",dict:=none,data:=.seq cur' c',slots:=#[] } -> (∃i v,i < j+1/\cur' = #[v,v]/\P i v/\∀i',i' < j+1->val i'<=val i) ->
    codeAny (model prog w) A (.builtin "max.loop" ⟨[.ref I,.none,.ref S],[(x0,d0)]⟩) R { s with heap:=h2,toks:=tk }:=fun h2 cur' c' hx hS2 hc2 =>
    ih (j+1) { s with heap:=h2,toks:=tk } cur' c' hk1 Yq (W.frame _ _ _ hst' fun b hb o e=>(hx b fun z=>hSf (z ▸ hb)).trans e) hS2 (.inr hc2) fun v' h3 tk3 hv hk3=>hR v' h3 tk3 hv fun b o hb hbS e=>hk3 b o hb hbS ((hx b hbS).trans (hk' b o hb e))
   rcases hcur with ⟨z,rfl⟩ | ⟨i,u,hi,rfl,hPu,hm⟩
   ·subst z;show wpAny _ _ (updateSeq S (fun _=>#[v,v]) >>= _) _ _ _;refine ZA (wpAny_updateSeq hS' rfl ?_);rw[nm];exact ZC ⟨ZBD F.plain_max_loop _,go _ _ _ (fun b hb=>ZBI _ _ (Ne.symm hb)) (ZBh _ hS' rfl) ⟨0,v,by lia,rfl,hP,fun i' h=>by rw[show i'=0 by lia];exact Int.le_refl _⟩⟩
   ·show wpAny _ _ (tryCatch (holding [v,v] (richCompare .Gt v u >>= _)) _ >>= _) _ _ _;refine ZA (ZBS (Zk (ZA (CmpOf.ints_gt val hval j i v u _ _ _ hP hPu (ZA (Zk (ZBB (ZA (ZBa (ZC ?_))))))))));show wpAny _ _ (if decide (val j > val i)=true then _ else _) _ _ _
    by_cases hb:val j > val i
    ·rw[if_pos (ZL hb)];show wpAny _ _ (updateSeq S (fun _=>#[v,v]) >>= _) _ _ _;refine ZA (wpAny_updateSeq hS' rfl (ZA (ZBa ?_)));rw[nm]
     exact ZC ⟨ZBD F.plain_max_loop _,go _ _ _ (fun b hb=>ZBI _ _ (Ne.symm hb)) (ZBh _ hS' rfl) ⟨j,v,by lia,rfl,hP,fun i' h=>by
      rcases Zr i' j with z | z
      ·have:=hm i' z;lia
      ·rw[show i'=j by lia];exact Int.le_refl _⟩⟩
    ·rw[if_neg (fun z=>hb (ZP z))];show wpAny _ _ (letGo [v,v] >>= _) _ _ _;refine ZA (ZBa ?_);rw[nm]
     exact ZC ⟨ZBD F.plain_max_loop _,go h' _ _ (fun b _=>rfl) hS' ⟨i,u,by lia,rfl,hPu,fun i' h=>by
      rcases Zr i' j with z | z
      ·exact hm i' z
      ·rw[show i'=j by lia];lia⟩⟩)
theorem Wo(a d:Value):argsOk "max" ⟨[a],[(Str.ofString "default",d)]⟩:=by unfold argsOk;kernel_rfl
theorem SD {prog:Program} {w:World} {A:Around} {E:Value->Shared->Prop} {s:Shared} {l:Addr} {xs:Array (Int × Tok)} {d0:Value} {Q:Value->Shared->Prop} (hh:A.handled=none) (hl:s.heap.IsList l (intItems xs))
 (h:∀v h' tk,((xs.size=0/\v=d0)\/∃i,i < xs.size/\(intItems xs)[i]? = some v/\∀i',i' < xs.size->numAt xs i'<=numAt xs i)->(∀b o,s.heap.get? b=some o->h'.get? b=some o)->Q v { s with heap:=h',toks:=tk }) :
 wpAny (model prog w) A (call (.builtin "max") [.ref l] [(Str.ofString "default",d0)]) Q E s:=by
 refine kmk_tree F.kind_max F.plain_max F.entry_max (Wo _ _) (by
  show wpAny _ _ (Builtin.Builtins.bindParams "max" ["key","default"] 0 ⟨[],[(Str.ofString "default",d0)]⟩ >>= _) _ _ s;refine ZA (wpAny_of_eq (show Builtin.Builtins.bindParams "max" ["key","default"] 0 ⟨[],[(Str.ofString "default",d0)]⟩=pure [none,some d0] from rfl) (ZA (ZC (ZA (iter_intList hl fun s2 e st hfp hlI=>?_)))));subst e;have W:=Walks.list (prog:=prog) (w:=w) (A:=A.in1) hh s.heap.objs.size l hlI (intItems xs);refine ZA (Zx ?_);have sz:(intItems xs).size=xs.size:=by simp[intItems]
  refine ZC ⟨by rfl,Wa W (numAt xs) (fun _ _ z=>intItems_at z) (S:=(s.heap.push { cls:=.type "list_iterator",data:=.fields #[.ref l,.int 0 0] }).objs.size) (fun hm=>ZW _ (hfp _ hm)) _ 0 _ #[] _ rfl (ZU _) (W.frame _ _ _ st fun b _ o e=>ZH _ e) (ZS _ rfl) (.inl ⟨rfl,rfl⟩) fun v h' tk hv hk=>?_⟩;refine h v h' tk ?_ (old_kept (l:=l) fun b o hb e=>hk b o hb (ZT (ZF e)) (ZH _ e));rw[sz]at hv;exact hv)
section
variable {X:Cx}{K:W.Frag}{e:Expr}{te:TE}{p pos kpos cp:Pos}{kd:Nat}{i:Int}
noncomputable def Kf(K:W.Frag)(i:Int)(te:TE):TE:=fun Z H Q=>te Z H fun x H1=>∃l ns,x=.ref l/\Yw K H1 l (ns.map V.int)/\∀M:Int,(ns=[]->M=i)->(ns≠[]->M∈ns/\∀a∈ns,a<=M)->Q (.int M) H1
theorem Op(h:Af te):Af (Kf K i te):=fun Z H Q Q' j q=>h _ _ _ _ (fun x H1 ⟨l,ns,h1,h2,q⟩=>⟨l,ns,h1,h2,fun M a b=>j _ _ (q M a b)⟩) q
theorem Lv (he:PE X e te) (hm:X.mg "max" = none) (hc:X.calm=true) (hg:Gl X "max":=by rfl) (hK:X.K=K:=by rfl)
 (hst:starEach [e] X.env=(false,eval e X.env)::starEach [] X.env:=by rfl) :
 PE X (.Call (.Name "max" p) [e] [⟨some "default",.Constant (.int i) kd cp,kpos⟩] pos) (Kf K i te):=by
 intro Ya s Z H Q I h;subst hK;refine wpAny_Call_Name_kw (Cu I hg hm (show bootBuiltins "max" = some (.builtin "max") by kernel_rfl) ?_);refine callWith_kw (e:=e) (rest:=[]) (id:="max") ?_ (by rw[hst];rfl) (by rw[hst];rfl);refine Yn ((AA he AB hst) pos Ya s Z H (fun vs H1=>match vs with | [x]=>(∃l ns,x=.ref l/\Yw X.K H1 l (ns.map V.int)/\∀M:Int,(ns=[]->M=i)->(ns≠[]->M∈ns/\∀a∈ns,a<=M)->Q (.int M) H1) | _=>False) I h) fun us s1 ⟨vs,H1,I1,r1,q1⟩=>?_
 match vs,r1,q1 with
 | [_],.cons rx .nil,⟨l,ns,ex,hl,q⟩ =>
 subst ex;cases rx;show wpAny _ _ (evalAll ((do let v <- eval (.Constant (.int i) kd cp) X.env;standAt pos;pure v)::[])) _ _ s1;refine wpAny_evalAll_cons (ZA (wpAny_Constant_int (ZA (ZBe (ZC (wpAny_evalAll_nil ?_))))));obtain⟨Ye,rv,pl,hz⟩:=I1.list hl;have hi:IntsAre Ye ns:=by simpa using Dg rv
 obtain⟨zs,hzs⟩:=(hi.allInts).items;have pl':=pl.isList;rw[hzs]at pl'
 have hns:ns=zs.toList.map (·.1):=by
  rw[<- hi.numsOf,<- nums_intItems,<- hzs]
 have Ym:ns.length=zs.size:=by rw[hns,ZB,Zh]
 have hnum:∀j,j < zs.size->∃z,ns[j]? = some z/\numAt zs j=z:=fun j hj=>by
  rw[hns];exact⟨zs[j].1,by simp[hj],by simp[numAt,hj]⟩
 refine SD (I1.ok.hd hc) pl' fun v h' tk hv hk=>?_
 rcases hv with ⟨z,rfl⟩ | ⟨j,hj,ev,hm⟩
 ·have:ns=[]:=ZBY.mp (by lia)
  exact⟨.int i,H1,I1.kept (t':=tk) hk,⟨_,rfl⟩,q i (fun _=>rfl) (fun y=>absurd this y)⟩
 ·obtain⟨t,rfl⟩:=intItems_at ev;obtain⟨z,ez,e2⟩:=hnum j hj;refine⟨.int (numAt zs j),H1,I1.kept (t':=tk) hk,⟨_,rfl⟩,q _ (fun y=>?_) fun _=>⟨?_,fun a ha=>?_⟩⟩
  ·rw[y]at Ym;simp at Ym;lia
  ·rw[e2];exact Zw ez
  ·obtain⟨j',hj'⟩:=List.getElem?_of_mem ha;have Yq:j' < zs.size:=by rw[<- Ym];exact(Zg.mp hj').1
   obtain⟨z',ez',e2'⟩:=hnum j' Yq;rw[hj']at ez';cases ez';rw[<- e2'];exact hm j' Yq
end
end L2
namespace L2
open PySem PyProof.Rows
noncomputable def FP(K:W.Frag):V->List V->Hp->VK->Prop:=fun x vs H Q=>match x,vs with
 | .ref l,[.ref b]=>∃xs ys,H l=some (.lst xs)/\Yw K H b ys/\b≠l/\xs.length+ys.length<=16000000/\Q .non (upd H l (.lst (xs++ys)))
 | _,_=>False
section
variable {X:Cx}{K:W.Frag}{o e:Expr}{to:TE}{t:TA}{apos cpos:Pos}
theorem RV:MtR X "list.extend" (FP X.K):=by
 intro Ya s Z H x vs v us Q I rx rv q
 match x,vs,q with
 | .ref l,[.ref b],⟨xs,ys,hH,hb,Yu,h3,q⟩ =>
 cases rx;obtain⟨u,rfl,ru⟩:=BN rv;cases ru;obtain⟨z,Ye,n,r,hl,e⟩:=I.lstM hH;obtain⟨its2,r2,pl2,hz2⟩:=I.list hb;obtain⟨o2,e2,c2,n2,d2⟩:=pl2.isList;have l1:=r.length;have l2:=r2.length;have hlb:l≠b:=Ne.symm Yu;refine Z1 F.slot_list_extend ⟨_,e,rfl⟩ F.entry_list_extend ?_ (F.args_list_extend_2 _ _);show wpAny _ _ (Builtin.List.listExtendWith (.ref l) (.ref b) .none) _ _ s;unfold Builtin.List.listExtendWith;refine ZA (wpAny_typeOf (T:="list") ⟨o2,e2,c2⟩ ?_);have h1:Builtin.List.listSameRef (.ref l) (.ref b)=false:=by simp[Builtin.List.listSameRef,hlb]
 have h2:(Value.type "list" == Value.type "list")=true:=by decide
 simp only[h1,h2,Bool.true_or,if_true];refine ZA (listItems_at e2 d2 (ZA (listItems_at e rfl ?_)))
 rw[if_neg (by
  rw[ZK];rintro⟨_,q⟩;unfold Builtin.List.listTooLong at q;simp[sizeLine_eq]at q;lia)]
 refine ZA (listUpdate_at e rfl ?_ (by rw[ZI,sizeLine_eq];lia) (by rw[Array.size_append,ZI,ZI,sizeLine_eq];lia));refine ZC ⟨_,rfl,?_⟩;exact⟨.non,_,I.lset (its':=Ye++its2) hH e (by simp) (r.append r2) (by rw[ZN,sizeLine_eq];lia),rfl,q⟩
theorem Td (ho:PE X o to) (ha:PA X [e] t) (hbase:attributeBase o "extend" X.env (eval o X.env)=eval o X.env:=by rfl)
 (hfew:((backTo cpos (starEach [e] X.env)).all (fun x=>!x.1) && (backToKw cpos (keywordEach [] X.env)).all (fun x=>x.1.isSome)
   && decide ([e].length+([]:List Keyword).length+(if ([]:List Keyword).isEmpty then 0 else 1) < 30))=true:=by rfl)
 (hline:(apos.endLine == cpos.line)=true:=by rfl) (hs:starEach [e] X.env=(false,eval e X.env)::starEach [] X.env:=by rfl) (hplain:(backTo cpos (starEach [] X.env)).any (·.1)=false:=by rfl) (hK:X.K=K:=by rfl) :
 PE X (.Call (.Attribute o "extend" apos) [e] [] cpos) (tBM K "list" (FP K) to t):=hK ▸ GE PySem.F.plainAttrs_list PySem.F.slot_list_extend PySem.F.type_list_extend RV ho ha hbase hfew hline hs hplain
theorem P1:FI (FP K):=fun x xs H Q Q' h q=>by
 unfold FP at *;split at q
 ·obtain⟨a,b,c,d,n,e,q⟩:=q;exact⟨a,b,c,d,n,e,h _ _ q⟩
 ·exact q.elim
end
theorem MN {d:Addr} {o:Obj} {Yc:List (Key × V)} {g:TG} {tc:TT} {te:TE} {σc:St} {Q:VK} {H:Hp} (Pv:Nat->List V->Hp->Prop) (h0:Pv 0 [] H) (hl:∀i ys H,i<=Yc.length->Pv i ys H->H d=some (.frz o (.dK Yc))) (hz:∀i ys H,i < Yc.length->Pv i ys H->ys.length < sizeLine)
 (hs:∀i r p ys H,Yc[i]? = some r->Pv i ys H->H p=none->g (.ref p) σc (upd H p (.tup [kV r.1,r.2])) fun σ2 H2=>tc σ2 H2 fun b H3=>if b=true then te σ2 H3 fun y H4=>Pv (i+1) (ys++[y]) H4 else Pv (i+1) ys H3)
 (hd:∀ys H,Pv Yc.length ys H->∀p,H p=none->Q (.ref p) (upd H p (.lst ys))):DN (Itm d o) g tc te σc Q H:=by
 refine⟨fun i m ys H=>m=Yc.length - i/\i<=Yc.length/\Pv i ys H,⟨Yc.length,by simp,ZU _,h0⟩,?_⟩;rintro i m ys H ⟨rfl,hi,p⟩;have q:=hl i ys H hi p
 by_cases Yq:i < Yc.length
 ·refine .inr ⟨⟨Yc,Yc[i],q,by simp[Yq]⟩,hz i ys H Yq p,Pv (i+1),fun ys' H' p'=>⟨Yc.length - (i+1),by lia,rfl,Yq,p'⟩,fun x H' y=>?_⟩;obtain⟨pp,kvs',r,e1,e2,e3,rfl,rfl⟩:=y;rw[q]at e1;cases e1;exact hs i r pp ys H e2 p e3
 ·have e:i=Yc.length:=by lia
  subst e;exact .inl ⟨⟨Yc,q,ZD _⟩,hd ys H p⟩
end L2
namespace L2
open PySem PySem.Spec PyProof.Rows
noncomputable abbrev TX:=St->Hp->VK->XK->Prop
section
variable {prog:Program} {w:World} {A:Around} {E:Value->Shared->Prop} {h:Heap} {g:Array GenState} {d:Drawn} {t:Nat} {os:OsState}
 {nm q:Str} {C N:Addr} {bs bm bmB:List Value} {hdct:Bool} {sn:List Str} {sub:List Value} {ab:Bool} {col:Option Bool} {dd:Option Addr} {k0 k1 k2 k3 k5:Option Value} {B Bn newId nid initId inN:String} {bmN:List Value}
end
noncomputable abbrev XW:=Addr->Addr->Option Addr->St->Hp->Prop
noncomputable abbrev TSX:=XW->St->Hp->Prop
end L2
namespace L2
open PySem PySem.Spec PyProof.Rows PySem.W
section
variable {X:Cx}{Ya:List (Addr × Obj)}{Z:St}
structure MinSt(X:Cx)(Ya:List (Addr × Obj))(Z:St)(l I S:Addr)(xs:List V)(J:Nat->Hp->Prop)(kf:Nat->Int)(j i:Nat)(vb:Value)(H:Hp)(s:Shared):Prop where
 inv:Yg X Ya Z H s
 fI:BJ X Ya H I
 fS:BJ X Ya H S
 gS:∃tb c,s.heap.get? S=some (seqObj "list" #[vb,.int (kf i) tb] c)
 it:s.heap.IsListIter I l (j+1)
 rb:∃x,xs[i]? = some x/\Yi x vb
 at_:J (j+1) H
noncomputable abbrev Nx(X:Cx)(Ya:List (Addr × Obj))(Z:St)(q:Addr)(xs:List V)(J:Nat->Hp->Prop)(kf:Nat->Int):Prop :=
 ∀(n:Nat) (x:V) (u:Value) (H:Hp) (s:Shared) (pl:List (Addr × Obj)),xs[n]? = some x->Yi x u->J n H->Yg X (Ya++pl) Z H s ->
  wpAny (model X.prog X.w) X.A.in1 (call (.ref q) [u]) (fun y s'=>∃H' t,y=.int (kf n) t/\Yg X (Ya++pl) Z H' s'/\J (n+1) H') (fun _ _=>False) s
theorem Pw {q l I S:Addr} {xs:List V} {J:Nat->Hp->Prop} {kf:Nat->Int} {R:Result->Shared->Prop} (hc:X.calm=true) (hSI:S≠I) (hlI:l≠I)
 (hl:∀n H,J n H->Yw X.K H l xs) (turn:Nx X Ya Z q xs J kf)
 (hR:∀i x v H s,xs[i]? = some x->Yi x v->(∀j,j < xs.length->kf i<=kf j/\(j < i->kf i < kf j))->J xs.length H->Yg X Ya Z H s->R (.ok (.ret v)) s) :
 ∀(r j i:Nat) (vb:Value) (H:Hp) (s:Shared),xs.length - (j+1)=r->j+1<=xs.length->MinSt X Ya Z l I S xs J kf j i vb H s->i<=j->(∀j',j'<=j->kf i<=kf j'/\(j' < i->kf i < kf j')) ->
  codeAny (model X.prog X.w) X.A (.builtin "min.loop" ⟨[.ref I,.ref q,.ref S],[]⟩) R s:=by
 have hname:(toString "min" ++ toString ".loop" : String) = "min.loop":=by decide
 intro r
 induction r with
 | zero =>
  intro j i vb H s hr hj M hij hbest;obtain⟨tb,c,gS⟩:=M.gS;obtain⟨xb,hxb,rb⟩:=M.rb;have hh:=M.inv.ok.hd hc;obtain⟨Ye,rv,pl,hz⟩:=M.inv.list (hl _ _ M.at_);have Ym:=rv.length;have W:=Walks.list (prog:=X.prog) (w:=X.w) (A:=X.A.in1) hh I l hlI Ye.toArray;have hsz:Ye.toArray.size=Ye.length:=ZI ..;have hin:j+1=Ye.length:=by lia
  refine ZBH PySem.F.entry_min_loop ?_;rw[ZBK PySem.F.plain_min_loop _];show wpAny _ X.A.in1 (seqItems? (.ref S) >>= _) _ _ _;refine ZA (wpAny_seqItems gS rfl ?_);show wpAny _ X.A.in1 (tryCatch (pyNext (.ref I)) _ >>= _) _ _ _;refine ZA (ZBS (W.done _ _ _ ⟨by rw[hsz,<- hin];exact M.it,pl.isList⟩ fun h' tk' hk'=>?_));have I1:Yg X Ya Z H { s with heap:=h',toks:=tk' }:=M.inv.turned (fun b o n e=>hk' b o (by simpa using n) e) M.fI.1 M.fI.2.1 M.fI.2.2.2.1 M.fI.2.2.2.2.1 M.fI.2.2.2.2.2;have hS':=hk' S _ (by simpa using hSI) gS;have s1:=ZBA h' S (Obj.mapSeq fun _=>(#[]:Array Value));show wpAny _ X.A.in1 (updateSeq S (fun _=>#[]) >>= _) _ _ _;refine ZA ?_;refine wpAny_updateSeq hS' rfl (ZA (ZBa (ZC ?_)));have I2:=I1.turned (t':=tk') (h':=h'.update S (Obj.mapSeq fun _=>(#[]:Array Value))) (fun b o n e=>(s1.2 b n).trans e) M.fS.1 M.fS.2.1 M.fS.2.2.2.1 M.fS.2.2.2.2.1 M.fS.2.2.2.2.2;exact hR i xb vb H _ hxb rb (fun j' hj'=>hbest j' (by lia)) (by rw[show xs.length=j+1 by lia];exact M.at_) I2
 | succ r ih =>
  intro j i vb H s hr hj M hij hbest;obtain⟨tb,c,gS⟩:=M.gS;obtain⟨xb,hxb,rb⟩:=M.rb;have hh:=M.inv.ok.hd hc;obtain⟨Ye,rv,pl,hz⟩:=M.inv.list (hl _ _ M.at_);have Ym:=rv.length;have W:=Walks.list (prog:=X.prog) (w:=X.w) (A:=X.A.in1) hh I l hlI Ye.toArray;have hsz:Ye.toArray.size=Ye.length:=ZI ..;have Yq:j+1 < xs.length:=by lia
  refine ZBH PySem.F.entry_min_loop ?_;rw[ZBK PySem.F.plain_min_loop _];show wpAny _ X.A.in1 (seqItems? (.ref S) >>= _) _ _ _;refine ZA (wpAny_seqItems gS rfl ?_);show wpAny _ X.A.in1 (tryCatch (pyNext (.ref I)) _ >>= _) _ _ _;refine ZA (ZBS (W.item (j+1) _ _ _ (by rw[hsz];lia) ⟨M.it,pl.isList⟩ fun v h' tk' hP hst' hk'=>?_));have hv:Ye[j+1]? = some v:=by simpa using hP
  obtain⟨x,hx⟩:∃x,xs[j+1]? = some x:=⟨_,ZE Yq⟩;obtain⟨u,hu,ru⟩:=rv.get hx;rw[hv]at hu;cases hu;have I1:Yg X Ya Z H { s with heap:=h',toks:=tk' }:=M.inv.turned (fun b o n e=>hk' b o (by simpa using n) e) M.fI.1 M.fI.2.1 M.fI.2.2.2.1 M.fI.2.2.2.2.1 M.fI.2.2.2.2.2;have gS1:=hk' S _ (by simpa using hSI) gS;obtain⟨oI',hoI',hoc,hod⟩:=id hst'.1
  have I2:=I1.pinned (fp:=[I,S]) (fun b hb=>by
   rcases ZG.mp hb with rfl | hb
   ·exact M.fI
   ·rw[ZO.mp hb];exact M.fS) (fun b hb=>by
   rcases ZG.mp hb with rfl | hb
   ·exact⟨oI',hoI',fun v z=>by rw[hod]at z;cases z⟩
   ·rw[ZO.mp hb];exact⟨_,gS1,fun v z=>by cases z⟩)
  show wpAny _ X.A.in1 (tryCatch (holding [v] (call (.ref q) [v])) _ >>= _) _ _ _;refine ZA (ZBS (Zk (Zp (turn (j+1) x v H _ _ hx ru M.at_ I2) (fun y s2 he=>?_) fun _ _ hF=>hF.elim)));obtain⟨H2,t2,rfl,I3,hJ2⟩:=he;have pI:=I3.pin (I,oI') (ZZ _ (ZZ _ (Cf (by simp) hoI')));have pS:=I3.pin (S,_) (ZZ _ (ZZ _ (Cf (by simp) gS1)));have I4:=I3.unpinned;have fI2:BJ X Ya H2 I:=⟨pI.2.1,M.fI.2⟩;have fS2:BJ X Ya H2 S:=⟨pS.2.1,M.fS.2⟩;show wpAny _ X.A.in1 (tryCatch (holding [v,.int (kf (j+1)) t2] (richCompare .Lt (.int (kf (j+1)) t2) (.int (kf i) tb) >>= _)) _ >>= _) _ _ _;refine ZA (ZBS (Zk (ZA (CmpOf.ints_lt (prog:=X.prog) (w:=X.w) (A:=X.A.in1) (P:=fun i v=>∃t,v=.int (kf i) t) kf (fun i v h=>h) (j+1) i _ _ _ _ _ ⟨t2,rfl⟩ ⟨tb,rfl⟩ ?_))));refine ZA (Zk (ZBB ?_));refine ZA (ZBa (ZC ?_))
  by_cases hb':kf (j+1) < kf i
  ·have s1:=ZBA s2.heap S (Obj.mapSeq fun _=>#[v,.int (kf (j+1)) t2]);obtain⟨c2,hc2⟩:∃c2,(s2.heap.update S (Obj.mapSeq fun _=>#[v,.int (kf (j+1)) t2])).get? S=some (seqObj "list" #[v,.int (kf (j+1)) t2] c2):=⟨_,get?_update_seq pS.1 fun _=>#[v,.int (kf (j+1)) t2]⟩;simp only[hb',decide_true,if_true];refine ZA ?_;refine wpAny_updateSeq pS.1 rfl (ZA (ZBa ?_));rw[hname];have I5:=I4.turned (t':=s2.toks) (h':=s2.heap.update S (Obj.mapSeq fun _=>#[v,.int (kf (j+1)) t2])) (fun b o n e=>(s1.2 b n).trans e) fS2.1 fS2.2.1 fS2.2.2.2.1 fS2.2.2.2.2.1 fS2.2.2.2.2.2;refine ZC ⟨ZBD PySem.F.plain_min_loop _,ih (j+1) (j+1) v H2 _ (by lia) Yq ⟨I5,fI2,fS2,⟨t2,c2,hc2⟩,⟨oI',(s1.2 I hSI.symm).trans pI.1,hoc,hod⟩,⟨x,hx,ru⟩,hJ2⟩ (ZD _) fun j' hj'=>?_⟩
   by_cases e:j'=j+1
   ·subst e;exact⟨by lia,fun _=>by lia⟩
   ·have hb1:=hbest j' (by lia);have hb2:=hb1.1;exact⟨by lia,fun _=>by lia⟩
  ·simp only[hb',decide_false,ZB5,if_false];refine ZA (ZBa ?_);rw[hname];refine ZC ⟨ZBD PySem.F.plain_min_loop _,ih (j+1) i vb H2 _ (by lia) Yq ⟨I4,fI2,fS2,⟨tb,c,pS.1⟩,⟨oI',pI.1,hoc,hod⟩,⟨xb,hxb,rb⟩,hJ2⟩ (by lia) fun j' hj'=>?_⟩
   by_cases e:j'=j+1
   ·subst e;exact⟨by lia,fun _=>by lia⟩
   ·exact hbest j' (by lia)
theorem UU {q l:Addr} {xs:List V} {J:Nat->Hp->Prop} {kf:Nat->Int} {H:Hp} {s:Shared} {Q:VK} {E:Value->Shared->Prop} (hc:X.calm=true) (I0:Yg X Ya Z H s) (hpos:0 < xs.length) (h0:J 0 H)
 (hl:∀n H,J n H->Yw X.K H l xs) (turn:Nx X Ya Z q xs J kf)
 (hQ:∀i x H,xs[i]? = some x->(∀j,j < xs.length->kf i<=kf j/\(j < i->kf i < kf j))->J xs.length H->Q x H) :
 wpAny (model X.prog X.w) X.A (call (.builtin "min") [.ref l] [(Str.ofString "key",.ref q)]) (EP X Ya Z Q) E s:=by
 have hname:(toString "min" ++ toString ".loop" : String) = "min.loop":=by decide
 have hh:=I0.ok.hd hc;obtain⟨Ye,rv,pl,hz⟩:=I0.list (hl _ _ h0);have Ym:=rv.length;obtain⟨ol,_,hol,_⟩:=id pl;have hll:l < s.heap.objs.size:=ZF hol;refine kmk_tree PySem.F.kind_min PySem.F.plain_min PySem.F.entry_min (kmk_min_key _ _) ?_;show wpAny _ X.A.in1 (Builtin.Builtins.bindParams "min" ["key","default"] 0 ⟨[],[(Str.ofString "key",.ref q)]⟩ >>= _) _ _ s;refine ZA (wpAny_of_eq (show Builtin.Builtins.bindParams "min" ["key","default"] 0 ⟨[],[(Str.ofString "key",.ref q)]⟩=pure [some (.ref q),none] from rfl) ?_);refine ZA (ZC ?_);refine ZA (wpAny_pyIter_list pl.isList ?_);refine ZA (wpAny_newList ?_ (ZU _));rw[hname];refine ZC ⟨ZBD PySem.F.plain_min_loop _,?_⟩;generalize hI:s.heap.objs.size=I at *;generalize hh1:s.heap.push { cls:=.type "list_iterator",data:=.fields #[.ref l,.int 0 0] } = h1 at *;generalize hS:h1.objs.size=S at *;have hSI':S=I+1:=by rw[<- hS,<- hh1,<- hI];exact size_push' ..
 have hSI:S≠I:=by lia
 have hlI:l≠I:=ZT hll;have k1:∀b o,s.heap.get? b=some o->(h1.push (seqObj "list" #[] 0)).get? b=some o:=fun b o e=>ZH _ (by rw[<- hh1];exact ZH _ e)
 have gI:(h1.push (seqObj "list" #[] 0)).get? I=some { cls:=.type "list_iterator",data:=.fields #[.ref l,.int 0 0] }:=ZH _ (by rw[<- hh1,<- hI];exact ZS _ rfl);have gS:(h1.push (seqObj "list" #[] 0)).get? S=some (seqObj "list" #[] 0):=by rw[<- hS];exact ZS _ rfl
 have fI:BJ X Ya H I:=I0.fpOk (ZBf hI) (I0.hok.fresh (ZBf hI));have fS:BJ X Ya H S:=I0.fpOk (by lia) (I0.hok.fresh (by lia));have W:=Walks.list (prog:=X.prog) (w:=X.w) (A:=X.A.in1) hh I l hlI Ye.toArray;have hsz:Ye.toArray.size=Ye.length:=ZI ..;refine ZBH PySem.F.entry_min_loop ?_;rw[ZBK PySem.F.plain_min_loop _];show wpAny _ X.A.in1 (seqItems? (.ref S) >>= _) _ _ _;refine ZA (wpAny_seqItems gS rfl ?_);show wpAny _ X.A.in1 (tryCatch (pyNext (.ref I)) _ >>= _) _ _ _
 have pl1:(h1.push (seqObj "list" #[] 0)).IsList l Ye.toArray:=by
  obtain⟨o,k,e,z⟩:=pl;have pl':PlainL (h1.push (seqObj "list" #[] 0)) l Ye.toArray:=⟨o,k,k1 _ _ e,z⟩;exact pl'.isList
 refine ZA (ZBS (W.item 0 _ _ _ (by rw[hsz];lia) ⟨⟨_,gI,rfl,rfl⟩,pl1⟩ fun v h' tk' hP hst' hk'=>?_));have hv:Ye[0]? = some v:=by simpa using hP
 obtain⟨x,hx⟩:∃x,xs[0]? = some x:=⟨_,ZE hpos⟩;obtain⟨u,hu,ru⟩:=rv.get hx;rw[hv]at hu;cases hu;have I1:Yg X Ya Z H { s with heap:=h',toks:=tk' }:=(I0.kept (t':=tk') k1).turned (t':=tk') (fun b o n e=>hk' b o (by simpa using n) e) fI.1 fI.2.1 fI.2.2.2.1 fI.2.2.2.2.1 fI.2.2.2.2.2;have gS1:=hk' S _ (by simpa using hSI) gS;obtain⟨oI',hoI',hoc,hod⟩:=id hst'.1
 have I2:=I1.pinned (fp:=[I,S]) (fun b hb=>by
  rcases ZG.mp hb with rfl | hb
  ·exact fI
  ·rw[ZO.mp hb];exact fS) (fun b hb=>by
  rcases ZG.mp hb with rfl | hb
  ·exact⟨oI',hoI',fun v z=>by rw[hod]at z;cases z⟩
  ·rw[ZO.mp hb];exact⟨_,gS1,fun v z=>by cases z⟩)
 show wpAny _ X.A.in1 (tryCatch (holding [v] (call (.ref q) [v])) _ >>= _) _ _ _;refine ZA (ZBS (Zk (Zp (turn 0 x v H _ _ hx ru h0 I2) (fun y s2 he=>?_) fun _ _ hF=>hF.elim)));obtain⟨H2,t2,rfl,I3,hJ2⟩:=he;have pI:=I3.pin (I,oI') (ZZ _ (ZZ _ (Cf (by simp) hoI')));have pS:=I3.pin (S,_) (ZZ _ (ZZ _ (Cf (by simp) gS1)));have I4:=I3.unpinned;have fI2:BJ X Ya H2 I:=⟨pI.2.1,fI.2⟩;have fS2:BJ X Ya H2 S:=⟨pS.2.1,fS.2⟩;have s1:=ZBA s2.heap S (Obj.mapSeq fun _=>#[v,.int (kf 0) t2]);obtain⟨c2,hc2⟩:∃c2,(s2.heap.update S (Obj.mapSeq fun _=>#[v,.int (kf 0) t2])).get? S=some (seqObj "list" #[v,.int (kf 0) t2] c2):=⟨_,get?_update_seq pS.1 fun _=>#[v,.int (kf 0) t2]⟩;show wpAny _ X.A.in1 (updateSeq S (fun _=>#[v,.int (kf 0) t2]) >>= _) _ _ _;refine ZA ?_;refine wpAny_updateSeq pS.1 rfl ?_;rw[hname];have I5:=I4.turned (t':=s2.toks) (h':=s2.heap.update S (Obj.mapSeq fun _=>#[v,.int (kf 0) t2])) (fun b o n e=>(s1.2 b n).trans e) fS2.1 fS2.2.1 fS2.2.2.2.1 fS2.2.2.2.2.1 fS2.2.2.2.2.2;refine ZC ⟨ZBD PySem.F.plain_min_loop _,Pw hc hSI hlI hl turn (fun i x v H s hi hr hb hJ hI=>⟨x,H,hI,hr,hQ i x H hi hb hJ⟩) _ 0 0 v H2 _ rfl hpos ⟨I5,fI2,fS2,⟨t2,c2,hc2⟩,⟨oI',(s1.2 I hSI.symm).trans pI.1,hoc,hod⟩,⟨x,hx,ru⟩,hJ2⟩ (ZD _) fun j' hj'=>?_⟩;have e:j'=0:=by lia
 subst e;exact⟨by lia,fun h=>absurd h (ZW _)⟩
end
noncomputable abbrev GW(scope:Scope)(L:Addr)(a b:Str)(ca cb:Addr)(qual:Str)(Yr c':Addr):Env:=newEnv scope L mainGlobals [(a,ca),(b,cb)] (qual ++ ".<locals>.") (some Yr) (.ref c') none builtinsNs
noncomputable def JJ(P:Program)(w:World)(K:W.Frag)(mg:Str->Option Value)(base:Heap)(scope:Scope)(a b x:Str)(ca cb:Addr)(qual:Str)(Yr c':Addr)(A:Around)(outer:List Env)(s:Shared)(H:Hp):Cx where
 prog:=P
 w:=w
 K:=K
 mg:=mg
 base:=base
 A:=A.deeper (GW scope s.heap.objs.size a b ca cb qual Yr c')
 N:=[x,a,b]
 s₀:=s
 H₀:=H
 env:=GW scope s.heap.objs.size a b ca cb qual Yr c'
 outer:=outer
 stack:=GW scope s.heap.objs.size a b ca cb qual Yr c'::outer
 ex:=[]
 calm:=true
 fn:=fun _=>false
 pn:=[]
 xe:=fun _ _=>False
theorem look2{a b y:Str}{ca cb c:Addr}(e:List.lookup y [(a,ca),(b,cb)]=some c):(y=a/\c=ca)\/(y=b/\c=cb):=by
 rw[Z8]at e
 by_cases z:y=a
 ·subst z;simp at e;exact .inl ⟨rfl,e.symm⟩
 ·rw[beq_eq_false_iff_ne.mpr z]at e;have e:List.lookup y [(b,cb)]=some c:=e;rw[Z8]at e
  by_cases z:y=b
  ·subst z;simp at e;exact .inr ⟨rfl,e.symm⟩
  ·rw[beq_eq_false_iff_ne.mpr z]at e;cases e
theorem RH {P:Program} {w:World} {K:W.Frag} {mg:Str->Option Value} {base:Heap} {k:Nat} {Yr ca cb c':Addr} {qual a b x:Str} {params:Arguments} {body:Expr} {scope:Scope} {pm ctv:Value} {spB:V->Hp->VK->Prop} {vA vB:V} {uA uB:Value}
 (hl:base.get? Yr=some (kla_obj "<lambda>" qual params body scope [(a,ca),(b,cb)] pm c' ctv)) (hca:base.IsCell ca (some uA)) (rA:Yi vA uA) (hcb:base.IsCell cb (some uB)) (rB:Yi vB uB) (hab:a≠b) (hcab:ca≠cb)
 (hx:scope.names.lookup x=some .local) (ha:scope.names.lookup a=some .free) (hb:scope.names.lookup b=some .free) (hfr:∀y,scope.names.lookup y=some .free->y=a\/y=b) (hco:scope.isCoroutine=false) (hgen:scope.isGenerator=false) (hkind:scope.kind=.function)
 (hcell:∀y∈scope.names,y.2≠.cell)
 (hbody:∀(A:Around) (outer:List Env) (s:Shared) (H:Hp) (v:V) (Q:VK),Room k (A.deeper (GW scope s.heap.objs.size a b ca cb qual Yr c'))->spB v H Q ->
   ∃te,PE (JJ P w K mg base scope a b x ca cb qual Yr c' A outer s H) body te/\te [some v,some vA,some vB] H Q) :
 FnOk P w K mg base CX0 (k+1) Yr (kla_fn "<lambda>" qual params body scope [(a,ca),(b,cb)] pm (.ref c') ctv) [x] (CH c' qual spB):=by
 refine⟨fun vs H Q E h=>by unfold CH at h;split at h;rfl;exact h.elim,fun A outer s H args us vs Q E hr e0 hbd r hsp=>?_⟩
 match vs,hsp,r with
 | [v],⟨hcd,hq⟩,r =>
 obtain⟨u,rfl,ru⟩:=BN r;have lim:s.heap.NoLimit:=e0.mod.nolimit.keeps fun b o e=>(e0.bs b o e).1
 obtain⟨hcr,_⟩:=e0.hok _ _ hcd;refine kla_callFunE hr.depth (e0.bs _ _ hl).1 rfl hco hgen rfl hcr (hbd _ _ _ _ ?_);refine wpAny_newFunctionEnv hcell (fun y hy=>by rw[ZO.mp hy];exact hx) (fun h₁ hns hsb=>⟨lim.fresh _ hsb,?_⟩) hkind;have hk₁:∀b o,s.heap.get? b=some o->h₁.get? b=some o:=fun b o e=>hsb.extBut b o (ZT (ZF e)) (ZH _ e)
 refine kla_codeExpr ?_;obtain⟨te,ht,hte⟩:=hbody A outer s H v Q (hr.deeper _) hq
 have hca1:h₁.IsCell ca (some uA):=by
  obtain⟨o,e,d⟩:=hca;exact⟨o,hk₁ _ _ (e0.bs _ _ e).1,d⟩
 have hcb1:h₁.IsCell cb (some uB):=by
  obtain⟨o,e,d⟩:=hcb;exact⟨o,hk₁ _ _ (e0.bs _ _ e).1,d⟩
 have hcaH:H ca=none:=by
  obtain⟨o,e,d⟩:=hca;exact(e0.bs _ _ e).2
 have hcbH:H cb=none:=by
  obtain⟨o,e,d⟩:=hcb;exact(e0.bs _ _ e).2
 have noA:∀b':Addr,b'∉(JJ P w K mg base scope a b x ca cb qual Yr c' A outer s H).ex:=fun b z=>absurd (show b∈([]:List Addr) from z) (by simp)
 have kindc:∀y,scope.names.lookup y≠some .cell:=fun y z=>hcell _ (PySem.mem_of_lookup z) rfl
 have la:List.lookup a [(a,ca),(b,cb)]=some ca:=by simp
 have lb:List.lookup b [(a,ca),(b,cb)]=some cb:=by
  rw[Z8,beq_eq_false_iff_ne.mpr (Ne.symm hab)];simp
 have I:Yg (JJ P w K mg base scope a b x ca cb qual Yr c' A outer s H) [] [some v,some vA,some vB] H { s with heap:=h₁,toks:=s.toks+[(x,u)].length }:=by
  refine⟨⟨e0.mod,hkind,rfl,rfl,ZD _,fun y z c h1 h2=>?_,fun y hy=>?_,fun y c hf _=>?_,fun _=>hr.hd,Around.frames_deeper e0.frames,.inr ⟨rfl,rfl⟩,fun b z=>absurd z (noA b),e0.bs,e0.bsz,fun b _ _=>noA b,fun b z=>absurd z (noA b),e0.funs,e0.frf⟩,
   rfl,e0.bare,Un.kept hk₁,⟨_,hns,fun i y z h1 h2 h3=>?_⟩,fun y c h=>?_,e0.hok.fresh (ZD _),fun y c h=>?_,fun p hp=>absurd (show p∈([]:List (Addr × Obj)) from hp) (by simp),e0.hok.kept hk₁,rfl⟩
  ·rcases look2 h1 with ⟨e1,e2⟩ | ⟨e1,e2⟩ <;> rcases look2 h2 with ⟨e3,e4⟩ | ⟨e3,e4⟩
   ·rw[e1,e3]
   ·exact absurd (e2.symm.trans e4) hcab
   ·exact absurd (e4.symm.trans e2) hcab
   ·rw[e1,e3]
  ·have hy:scope.names.lookup y=some .cell\/scope.names.lookup y=some .free:=hy
   rcases hy with hy | hy
   ·exact absurd hy (kindc y)
   ·rcases hfr y hy with rfl | rfl
    ·exact⟨ca,la⟩
    ·exact⟨cb,lb⟩
  ·cases hf
  ·match i,h1,h2 with
   | 0,h1,h2 =>
    cases h1;cases h2;exact⟨u,ru,.inl ⟨hx,by simp⟩⟩
   | 1,h1,h2 =>
    cases h1;cases h2;exact⟨uA,rA,.inr ⟨.inr ha,ca,la,hca1⟩⟩
   | 2,h1,h2 =>
    cases h1;cases h2;exact⟨uB,rB,.inr ⟨.inr hb,cb,lb,hcb1⟩⟩
   | n+3,h1,h2=>cases h2
  ·rcases look2 h with ⟨_,rfl⟩ | ⟨_,rfl⟩
   ·exact⟨_,hca1⟩
   ·exact⟨_,hcb1⟩
  ·rcases look2 h with ⟨_,rfl⟩ | ⟨_,rfl⟩
   ·exact hcaH
   ·exact hcbH
 refine Zp (ht [] _ _ _ _ I hte) (fun u' s' hs=>?_) fun e s' hs=>False.elim hs
 obtain⟨v',H',J,rv,q⟩:=hs;exact⟨v',H',J.os,J.bare,J.base,J.hok,rv,q⟩
section
variable {X:Cx}{Ya:List (Addr × Obj)}{Z:St}{H:Hp}{s:Shared}
theorem T4 {k:Nat} {f:Addr} {fd:FuncData} {ps:List Str} {sp:Sp} {us:List Value} {vs:List V} {Q:VK} {E:Value->Shared->Prop} (I:Yg X Ya Z H s) (F:FnOk X.prog X.w X.K X.mg (Cp X H s) CX0 k f fd ps sp) (hr:Room k X.A.in1) (hb:BindsTo s fd ⟨us,[]⟩ (ps.zip us))
 (r:Yk vs us) (h:sp vs H Q E0):wpAny (model X.prog X.w) X.A.in1 (call (.ref f) us) (EP X Ya Z Q) E s:=by
 refine wpAny_call (ZBN (F.run X.A.in1 X.stack s H ⟨us,[]⟩ us vs Q E0 hr (LV I).in1 hb r h) fun r s' hq=>?_);cases r with
 | error e=>exact False.elim hq
 | ok fl =>
  cases fl with
  | ret u=>exact I.after hq
  | next=>exact False.elim hq
  | brk=>exact False.elim hq
  | cont=>exact False.elim hq
end
section
variable {X:Cx}{Pt c:Addr}{k i j:Nat}{a b x:Str}{p pos kpos lpos:Pos}{params:Arguments}{body:Expr}{scope:Scope}{e:Expr}{te:TE}{qual:Str}{spB:V->V->V->Hp->VK->Prop}
noncomputable def Om(K:W.Frag)(Pt:Addr)(lpos:Pos)(qual:Str)(i j:Nat)(spB:V->V->V->Hp->VK->Prop)(te:TE):TE:=fun Z H Q=>te Z H fun y H1=>∃l xs vA vB,y=.ref l/\0 < xs.length/\Z[i]? = some (some vA)/\Z[j]? = some (some vB)/\Yx Pt lpos qual H1 /\
 ∀c' H2,Yt Pt H1 H2->Yx Pt lpos qual H2->H2 c'=some (CdO c' qual)->∃(J:Nat->Hp->Prop) (kf:Nat->Int),J 0 H2/\(∀n H3,J n H3->Yw K H3 l xs/\H3 c'=some (CdO c' qual)) /\
  (∀n v H3,xs[n]? = some v->J n H3->spB vA vB v H3 fun y H4=>y=.int (kf n)/\J (n+1) H4) /\
  ∀n v H3,xs[n]? = some v->(∀m,m < xs.length->kf n<=kf m/\(m < n->kf n < kf m))->J xs.length H3->Q v H3
theorem Ru {K:W.Frag} (he:PE X e te) (hm:X.mg "min" = none) (hr:Room (k+1) X.A) (hc:X.calm=true) (hcode:X.env.code=.ref c) (hcK:codeHdIn X.K c Pt=true) (hbm:BMn X.mg X.base)
 (hq:X.env.qual ++ "<lambda>" = qual) (hdef:defaultsOf params X.env=([],[])) (hNi:X.N[i]? = some a) (hNj:X.N[j]? = some b)
 (hcl:∀ca cb,X.env.cells.lookup a=some ca->X.env.cells.lookup b=some cb->closureFor scope X.env=pure [(a,ca),(b,cb)]) (hka:X.env.kindOf a=some .cell) (hkb:X.env.kindOf b=some .cell) (hfa:X.fn a=true) (hfb:X.fn b=true) (hab:a≠b)
 (hbind:∀(u pm ctv:Value) (ca cb c':Addr),bindArgs (kla_fn "<lambda>" qual params body scope [(a,ca),(b,cb)] pm (.ref c') ctv) ⟨[u],[]⟩=pure [(x,u)])
 (hF:∀(base':Heap) (Yr ca cb c':Addr) (pm ctv uA uB:Value) (vA vB:V),(∀b o,X.base.get? b=some o->base'.get? b=some o)->base'.get? Yr=some (kla_obj "<lambda>" qual params body scope [(a,ca),(b,cb)] pm c' ctv)->ca≠cb ->
   base'.IsCell ca (some uA)->Yi vA uA->base'.IsCell cb (some uB)->Yi vB uB->FnOk X.prog X.w X.K X.mg base' CX0 k Yr (kla_fn "<lambda>" qual params body scope [(a,ca),(b,cb)] pm (.ref c') ctv) [x] (CH c' qual (spB vA vB)))
 (hg:Gl X "min":=by rfl) (hK:X.K=K:=by rfl)
 (hst:starEach [e] X.env=(false,eval e X.env)::starEach [] X.env:=by rfl) :
 PE X (.Call (.Name "min" p) [e] [⟨some "key",.Lambda params body scope lpos,kpos⟩] pos) (Om K Pt lpos qual i j spB te):=by
 intro Ya s Z H Q I h;subst hq hK;refine wpAny_Call_Name_kw (Cu I hg hm (show bootBuiltins "min" = some (.builtin "min") by kernel_rfl) ?_);refine callWith_kw (e:=e) (rest:=[]) (id:="min") ?_ (by rw[hst];rfl) (by rw[hst];rfl)
 refine Yn ((AA he AB hst) pos Ya s Z H (fun vs H1=>match vs with | [y]=>(∃l xs vA vB,y=.ref l/\0 < xs.length/\Z[i]? = some (some vA)/\Z[j]? = some (some vB)/\Yx Pt lpos (X.env.qual ++ "<lambda>") H1 /\
  ∀c' H2,Yt Pt H1 H2->Yx Pt lpos (X.env.qual ++ "<lambda>") H2->H2 c'=some (CdO c' (X.env.qual ++ "<lambda>"))->∃(J:Nat->Hp->Prop) (kf:Nat->Int),J 0 H2/\(∀n H3,J n H3->Yw X.K H3 l xs/\H3 c'=some (CdO c' (X.env.qual ++ "<lambda>"))) /\
   (∀n v H3,xs[n]? = some v->J n H3->spB vA vB v H3 fun y H4=>y=.int (kf n)/\J (n+1) H4) /\
   ∀n v H3,xs[n]? = some v->(∀m,m < xs.length->kf n<=kf m/\(m < n->kf n < kf m))->J xs.length H3->Q v H3) | _=>False) I h) fun us s1 ⟨vs,H1,I1,r1,q1⟩=>?_
 match vs,r1,q1 with
 | [_],.cons rx .nil,⟨l,xs,vA,vB,ex,hpos,hvA,hvB,hL,hQ⟩ =>
 subst ex;cases rx;obtain⟨ps,hP,htr,hcs⟩:=id hL
 have fin:∀(H2:Hp) (s2:Shared) (Yr c' ca cb:Addr) (pm ctv:Value),Yg X Ya Z H2 s2->X.env.cells.lookup a=some ca->X.env.cells.lookup b=some cb->s2.heap.get? Yr=some (kla_obj "<lambda>" (X.env.qual ++ "<lambda>") params body scope [(a,ca),(b,cb)] pm c' ctv) ->
  H2 Yr=none->Yr≠X.env.locals->Yr∉X.fs->Yt Pt H1 H2->Yx Pt lpos (X.env.qual ++ "<lambda>") H2->H2 c'=some (CdO c' (X.env.qual ++ "<lambda>")) ->
  wpAny (model X.prog X.w) X.A (call (.builtin "min") [.ref l] [(Str.ofString "key",.ref Yr)]) (EP X Ya Z Q) X.xe s2:=by
  intro H2 s2 Yr c' ca cb pm ctv I2 hla hlb hf hn hnl hnf hG hL2 hc';obtain⟨J,kf,h0,hJ,hturn,hend⟩:=hQ c' H2 hG hL2 hc';have I3:=I2.pin1 hf hn hnl hnf (fun v z=>by cases z);have hcab:ca≠cb:=fun z=>hab (I2.ok.inj a b ca hla (by rw[hlb,z]))
  refine Yn (UU (J:=J) (kf:=kf) (E:=X.xe) hc I3 hpos h0 (fun n H h=>(hJ n H h).1) (fun n y u H s pl hy ru hj I4=>?_) (fun n y H hy hb hj=>hend n y H hy hb hj)) fun u s3 ⟨y,H3,I5,r5,q5⟩=>⟨y,H3,I5.unpin1,r5,q5⟩
  have hl3:=(I4.pin (Yr,_) (ZZ _ (Z5 _ (Zb ..))));obtain⟨m,hns,hloc⟩:=I4.loc;obtain⟨uA,rA,lookA⟩:=hloc i a vA hNi hvA (.inr (.inl hka));obtain⟨uB,rB,lookB⟩:=hloc j b vB hNj hvB (.inr (.inl hkb))
  rcases lookA with ⟨z,_⟩ | ⟨_,ca',e1,e2⟩
  ·rw[hka]at z;cases z
  rcases lookB with ⟨z,_⟩ | ⟨_,cb',e3,e4⟩
  ·rw[hkb]at z;cases z
  rw[hla]at e1;cases e1;rw[hlb]at e3;cases e3
  have lamS:Yr∉frs X.stack:=fun z=>by
   rcases ZG.mp (I4.stkSub _ z) with z | z
   ·exact hl3.2.2.1 z
   ·exact hl3.2.2.2.1 z
  have cellS:∀y c,X.fn y=true->X.env.cells.lookup y=some c->c∉frs X.stack:=fun y c hy hc z=>by
   rcases ZG.mp (I4.stkSub _ z) with z | z
   ·exact I4.cne _ _ hc z
   ·obtain⟨_,o,ho,_⟩:=I4.ok.funs.mem z;exact absurd (ZY (ZF ho) (I4.ok.cab y c hy hc)) (ZW _)
  have cA:(Cp X H s).IsCell ca (some uA):=by
   obtain⟨o,ho,hd'⟩:=e2;exact⟨o,EF ho (I4.freeC _ _ hla) (cellS a ca hfa hla),hd'⟩
  have cB:(Cp X H s).IsCell cb (some uB):=by
   obtain⟨o,ho,hd'⟩:=e4;exact⟨o,EF ho (I4.freeC _ _ hlb) (cellS b cb hfb hlb),hd'⟩
  have F:=hF (Cp X H s) Yr ca cb c' pm ctv uA uB vA vB (KU I4) (EF hl3.1 hl3.2.1 lamS) hcab cA rA cB rB;refine Yn (T4 (vs:=[y]) (us:=[u]) (Q:=fun v H4=>v=.int (kf n)/\J (n+1) H4) I4 F hr.in1 (.of_eq (hbind u pm ctv ca cb c')) (.cons ru .nil) ⟨(hJ n H hj).2,hturn n y H hy hj⟩) fun y2 s2 h2=>?_
  obtain⟨y3,H4,I6,r6,q6,q7⟩:=h2;subst q6;obtain⟨t,rfl⟩:=r6;exact⟨H4,t,rfl,I6,q7⟩
 show wpAny _ _ (evalAll ((do let v <- eval (.Lambda params body scope lpos) X.env;standAt pos;pure v)::[])) _ _ s1;obtain⟨ca,hla⟩:=I1.ok.has a (.inl hka);obtain⟨cb,hlb⟩:=I1.ok.has b (.inl hkb);have hcl':=hcl ca cb hla hlb;have gl:∀{s:Shared} {H:Hp},Yg X Ya Z H s->s.heap.Ns mainGlobals X.mg:=fun J=>J.mod.glob.keeps J.bk
 have C:CodeHd s1.heap c Pt:=codeHd_of_K I1.kIn hcK;have hPt:s1.heap.get? Pt=some (tabObj ps):=I1.hok _ _ hP
 have gP:mainGlobals≠Pt:=fun z=>by
  obtain⟨o,es,ep,e,hd,_⟩:=gl I1;rw[z,hPt]at e;cases e;cases hd
 have hB:s1.heap.BuiltinsAt X.mg Pt:=by
  obtain⟨bm,ob,b1,b2,b3,b4,b5,b6⟩:=hbm;have e:=I1.bk _ _ b3;refine⟨bm,ob,b1,b2,fun z=>?_,fun z=>?_,e,b4,b5,b6⟩
  ·obtain⟨o,es,ep,e',hd,_⟩:=gl I1;rw[z,e']at e;cases e;rw[hd]at b6;cases b6
  ·rw[z,hPt]at e;cases e;cases b4
 refine wpAny_evalAll_cons (ZA (kla_eval hdef ?_))
 rcases hcs with hnf | ⟨c',hf,hc'⟩
 ·refine kla_makeFunction hcl' I1.ok.glob (gl I1) hcode C hPt htr hnf gP hB fun c' ctv h' tk hx' hge Yq hrec htb=>?_
  refine ZA (ZBe (ZC (wpAny_evalAll_nil ?_)));have J:=I1.grow (t':=tk) hP hx' htb hge hrec;have J':=J.kept (h':=h'.push _) (t':=tk) fun b' u e=>ZH (kla_obj "<lambda>" (X.env.qual ++ "<lambda>") params body scope [(a,ca),(b,cb)] ((X.mg "__name__").getD .none) c' ctv) e
  have hcn:H1 c'=none:=I1.hok.fresh hge;have hcP:c'≠Pt:=fun z=>by rw[z,hP]at hcn;cases hcn
  refine fin _ _ h'.objs.size c' ca cb _ ctv J' hla hlb (ZS _ rfl) (J.hok.fresh (ZD _)) (ZBU J.lt) (J.nofs (ZD _)) (fun b o n e=>?_) ⟨_,by rw[AJ (Ne.symm hcP),AD],?_,.inr ⟨c',?_,AD⟩⟩ AD
  ·have hbc:b≠c':=fun z=>by rw[z,hcn]at e;cases e
   rw[AJ hbc,AJ n];exact e
  ·rw[ZB6];exact TriplesOk_snoc _ _ _ _ htr
  ·rw[ZB6];exact codeAmong_snoc _ htr hnf
 ·refine kla_makeFunctionHit hcl' I1.ok.glob (gl I1) hcode C hPt htr hf hB fun ctv h' tk hk' hsz=>?_
  refine ZA (ZBe (ZC (wpAny_evalAll_nil ?_)));have J0:Yg X Ya Z H1 { s1 with heap:=h',toks:=tk }:=I1.kept hk';have J:=I1.kept (h':=h'.push _) (t':=tk) fun b' u e=>ZH (kla_obj "<lambda>" (X.env.qual ++ "<lambda>") params body scope [(a,ca),(b,cb)] ((X.mg "__name__").getD .none) c' ctv) (hk' b' u e)
  exact fin _ _ h'.objs.size c' ca cb _ ctv J hla hlb (ZS _ rfl) (J0.hok.fresh (ZD _)) (ZBU J0.lt) (J0.nofs (ZD _)) (Yt.refl _ _) hL hc'
end
end L2
namespace L2
open PySem PySem.Spec PyProof.Rows
noncomputable def Oe(K:W.Frag):List V->Hp->VK->Prop:=fun xs H Q=>match xs with
 | [.ref p]=>∃ns:List Int,Yo K H p (ns.map V.int)/\ns.length<=1000/\∀(ds:List Int) q,ds.Nodup->(∀k,k∈ds ↔ k∈ns)->H q=none->Q (.ref q) (upd H q (Ci ds))
 | _=>False
section
variable {X:Cx}{K:W.Frag}
theorem PX(hh:X.calm=true):CallR X (.type "set") (Oe X.K):=by
 intro Ya s Z H xs us Q I r h
 match xs,h with
 | [.ref p],h =>
 obtain⟨ns,hq,hn,q⟩:=h;obtain⟨u,rfl,rx⟩:=BN r;cases rx;obtain⟨Ye,rv,pl,hz⟩:=I.tuple hq;have hi:IntsAre Ye ns:=by simpa using Dg rv
 have Ym:Ye.length=ns.length:=by rw[<- rv.length,ZB]
 refine LQ (ns:=ns) (I.ok.hd hh) pl (by simpa using hi) (by rw[ZI,Ym];show ns.length+1 < 4096;lia) fun h' tk hs hk=>?_
 have hsz:Ye.toArray.size=ns.length:=by rw[ZI,Ym]
 rw[hsz]at hs;exact⟨.ref s.heap.objs.size,_,I.laid (t':=tk) (o:=Ci (firstMet (fun i=>ns.getD i 0) ns.length)) (fun b o e=>hk b o (ZF e) e) (ZD _) hs.of,rfl,q _ _ (GT _ _) (IE ns) (I.hok.fresh (ZD _))⟩
theorem Ve(hh:X.calm=true)(hK:X.K=K:=by rfl):CallR X (.type "set") (Oe K):=hK ▸ PX hh
end
end L2
namespace Mine
open PySem L2
variable {N S U i j k m n:Nat}{ts ys:List Nat}{ls:List Int}{Yc:List (Key × V)}{v:V}{K:W.Frag}{C Pt a b d nd p t:Addr}{H H':Hp}{xs:List V}{o:HO}{rs:List (List Bool)}{es:DF}{X:List Addr}{pos:Pos}{q:Str}
noncomputable def top(i:Nat):Stmt:=PySem.Challenge.pw_flips_k47_whole_fewest_shown.main.body.getD i (.Pass ⟨0,0,0,0⟩)
noncomputable abbrev HE:Stmt:=top 4
noncomputable abbrev HA:Stmt:=top 5
noncomputable abbrev JT:Stmt:=top 6
noncomputable abbrev Je:Stmt:=top 7
noncomputable abbrev HV:Stmt:=top 9
noncomputable abbrev Hr:Stmt:=top 10
noncomputable abbrev Ir:Stmt:=top 11
noncomputable abbrev J4:Stmt:=top 12
noncomputable abbrev HC:Stmt:=Be (top 14) 0
noncomputable abbrev Ii:Stmt:=Be (top 14) 1
noncomputable abbrev Kd:Stmt:=Be (top 14) 2
noncomputable abbrev HU:Stmt:=Be (top 14) 3
noncomputable abbrev KN:Stmt:=Be (top 14) 4
noncomputable abbrev IQ:Stmt:=Be (top 14) 5
noncomputable abbrev Ia:Stmt:=Be (top 14) 6
noncomputable abbrev Jl:Stmt:=Be (top 14) 7
noncomputable abbrev IJ:Stmt:=Be (top 14) 8
noncomputable abbrev Kc:Stmt:=Be (top 14) 9
noncomputable abbrev KC:Stmt:=Be (top 14) 10
noncomputable abbrev Cs:Stmt:=Be (top 14) 11
noncomputable abbrev HN:Stmt:=top 15
noncomputable abbrev Hs:Stmt:=top 17
noncomputable abbrev JA:Stmt:=top 19
noncomputable abbrev G6:Stmt:=top 20
noncomputable abbrev KA:Stmt:=top 21
noncomputable abbrev KQ:Stmt:=top 22
noncomputable abbrev HY:Stmt:=top 24
noncomputable abbrev HD:Stmt:=top 25
noncomputable abbrev G4:Stmt:=top 26
noncomputable abbrev IY:Stmt:=top 28
noncomputable abbrev KS:Stmt:=top 29
noncomputable abbrev JY:Stmt:=top 30
noncomputable abbrev KG:Stmt:=Be (top 31) 0
noncomputable abbrev KH:Stmt:=Be (top 31) 1
noncomputable abbrev Ho:Stmt:=Be (top 31) 2
noncomputable abbrev IT:Stmt:=Be (top 31) 3
noncomputable abbrev Ib:Stmt:=Be (top 31) 4
noncomputable abbrev HM:Stmt:=top 33
noncomputable abbrev C8:Stmt:=top 37
noncomputable abbrev IK:Stmt:=top 38
noncomputable abbrev Jt:Stmt:=top 39
noncomputable abbrev Jd:Stmt:=top 40
noncomputable abbrev KY:Stmt:=top 41
noncomputable abbrev JP:Stmt:=top 43
noncomputable abbrev Ik:Stmt:=top 44
noncomputable abbrev JF:Stmt:=top 46
noncomputable abbrev Gz:Stmt:=top 47
noncomputable abbrev IP:Stmt:=top 48
noncomputable abbrev JS:Stmt:=top 49
noncomputable abbrev IZ:Stmt:=top 50
noncomputable abbrev J5:Stmt:=top 51
noncomputable abbrev Ix:Stmt:=top 52
noncomputable abbrev IW:Stmt:=top 53
noncomputable abbrev HH:Stmt:=top 54
noncomputable abbrev JX:Stmt:=top 55
noncomputable abbrev Jo:Stmt:=top 56
noncomputable abbrev Gw:Stmt:=top 57
noncomputable abbrev Jp:Stmt:=top 58
noncomputable abbrev Is:Stmt:=top 59
noncomputable abbrev DB:Stmt:=top 60
local macro_rules | `(tactic| walk_at "f")=>`(tactic| exact⟨rfl,rfl,rfl,by decide +kernel,rfl,by decide +kernel,by decide +kernel⟩)
theorem RK:FnScope ["thing"] ["thing"] (AL HE):=by walk_at "f"
theorem SM:FnScope ["bound","thing"] ["bound","thing"] (AL HA):=by walk_at "f"
theorem Rx:FnScope ["n"] ["n"] (AL JT):=by walk_at "f"
theorem sc_z62:FnScope ["base","times","power","step"] ["base","times"] (AL Je):=by walk_at "f"
theorem PJ:FnScope ["place","switch"] ["place","switch"] (AL HV):=by walk_at "f"
theorem UA:FnScope ["subset","other"] ["subset","other"] (AL Hr):=by walk_at "f"
theorem Py:FnScope ["members"] ["members"] (AL Ir):=by walk_at "f"
theorem Ql:FnScope ["subset"] ["subset"] (AL J4):=by walk_at "f"
theorem Ug:FnScope ["self","game"] ["self","game"] (AL HC):=by walk_at "f"
theorem Wd:FnScope ["self"] ["self"] (AL Ii):=by walk_at "f"
theorem VC:FnScope ["self","things"] ["self","things"] (AL Kd):=by walk_at "f"
theorem Pl:FnScope ["self","things"] ["self","things"] (AL HU):=by walk_at "f"
theorem sc_z26:FnScope ["self","things","question","answer","yes"] ["self","things","question","answer"] (AL KN):=by walk_at "f"
theorem XC:FnScope ["self","things"] ["self","things"] (AL IQ):=by walk_at "f"
theorem QM:FnScope ["self","things"] ["self","things"] (AL Ia):=by walk_at "f"
theorem Wk:FnScope ["self","things"] ["self","things"] (AL Jl):=by walk_at "f"
theorem QU:FnScope ["self","things","question"] ["self","things","question"] (AL IJ):=by walk_at "f"
theorem sc_z20:FnScope ["self","things","question","no","yes"] ["self","things","question"] (AL Kc):=by walk_at "f"
theorem Wt:FnScope ["self","things"] ["self","things"] (AL KC):=by walk_at "f"
theorem Ti:FnScope ["self","things"] ["self","things"] (AL Cs):=by walk_at "f"
theorem Qo:FnScope ["wanted","values"] ["wanted","values"] (AL HN):=by walk_at "f"
theorem Xh:FnScope ["thing"] ["thing"] (AL Hs):=by walk_at "f"
theorem sc_z66:FnScope ["game","things","question","answer","row"] ["game","things","question","answer"] (AL JA):=by walk_at "f"
theorem sc_z27:FnScope ["game","found"] ["game"] (AL G6):=by walk_at "f"
theorem sc_z33:FnScope ["game","labels","answers","one","other"] ["game"] (AL KA):=by walk_at "f"
theorem Pg:FnScope ["game","things"] ["game","things"] (AL KQ):=by walk_at "f"
theorem sc_z69:FnScope ["game","reckoner","things"] ["game"] (AL HY):=by walk_at "f"
theorem sc_z51:FnScope ["reckoner","things","question","no","yes"] ["reckoner","things"] (AL HD):=by walk_at "f"
theorem sc_z46:FnScope ["reckoner","things","entries","level","below","each","number"] ["reckoner","things"] (AL G4):=by walk_at "f"
theorem PU:FnScope ["game","d","thing"] ["game","d","thing"] (AL IY):=by walk_at "f"
theorem Um:FnScope ["game","thing"] ["game","thing"] (AL KS):=by walk_at "f"
theorem sc_z45:FnScope ["many","thing","last","each"] ["many","thing"] (AL JY):=by walk_at "f"
theorem sc_z34:FnScope ["self","game","entries","entry","things"] ["self","game","entries"] (AL KG):=by walk_at "f"
theorem sc_z23:FnScope ["self","things","number"] ["self"] (AL KH):=by walk_at "f"
theorem sc_z32:FnScope ["self","things","number","yes","left_by_yes"] ["self","things","number","yes"] (AL Ho):=by walk_at "f"
theorem Rq:FnScope ["self","things","number"] ["self","things","number"] (AL IT):=by walk_at "f"
theorem sc_z14:FnScope ["self","things","inside"] ["self","things"] (AL Ib):=by walk_at "f"
theorem sc_z63:FnScope ["has_form","parts_within","is_beyond","thing","level","depth","many","below","part"] ["has_form","parts_within","is_beyond","thing"] (AL HM):=by walk_at "f"
theorem RY:FnScope ["game","thing"] ["game","thing"] (AL C8):=by walk_at "f"
theorem Pq:FnScope ["questions","thing"] ["questions","thing"] (AL IK):=by walk_at "f"
theorem Xe:FnScope ["tree"] ["tree"] (AL Jt):=by walk_at "f"
theorem SU:FnScope ["many","depth"] ["many","depth"] (AL Jd):=by walk_at "f"
theorem sc_z71:FnScope ["game","tree","thing","spot","asks"] ["game","tree","thing"] (AL KY):=by walk_at "f"
theorem Oy:FnScope ["game","d","thing"] ["game","d","thing"] (AL JP):=by walk_at "f"
theorem sc_z47:FnScope ["game","d","tree","hidden","found"] ["game","d","tree","hidden"] (AL Ik):=by walk_at "f"
theorem QB:FnScope ["_law_script"] ["_law_script"] (AL JF):=by walk_at "f"
theorem sc_z50:FnScope ["_law_feed_here","_law_many","_law_turn","_law_cell","_law_mixed","_law_digit"] ["_law_feed_here","_law_many"] (AL Gz):=by walk_at "f"
theorem sc_z41:FnScope ["_law_feed_here","_law_n","_law_many","_law_way","_law_place","_law_one","_law_answer"] ["_law_feed_here","_law_n"] (AL IP):=by walk_at "f"
theorem sc_z30:FnScope ["_law_table_here","_law_rows","_law_many"] ["_law_table_here"] (AL JS):=by walk_at "f"
theorem sc_z43:FnScope ["_law_feed_here","_law_n","_law_many","_law_tables","_law_at","_law_k","_law_table_here"] ["_law_feed_here","_law_n","_law_many"] (AL IZ):=by walk_at "f"
theorem sc_z31:FnScope ["_law_tables","_law_rows"] ["_law_tables"] (AL J5):=by walk_at "f"
theorem sc_z42:FnScope ["_law_feed_here","_law_many","_law_first","_law_labels","_law_rows"] ["_law_feed_here"] (AL Ix):=by walk_at "f"
theorem sc_z35:FnScope ["_law_feed_here","_law_many","_law_width","_law_names","_law_labels","_law_rows","_law_k"] ["_law_feed_here"] (AL IW):=by walk_at "f"
theorem sc_z54:FnScope ["_law_feed_here","_law_way"] ["_law_feed_here"] (AL HH):=by walk_at "f"
theorem sc_z52:FnScope ["_law_game_here","_law_answers","_law_one","_law_other"] ["_law_game_here"] (AL JX):=by walk_at "f"
theorem sc_z39:FnScope ["_law_game_here","_law_labels","_law_pair_here"] ["_law_game_here"] (AL Jo):=by walk_at "f"
theorem sc_z48:FnScope ["_law_game_here","_law_things","_law_question","_law_row"] ["_law_game_here","_law_things","_law_question"] (AL Gw):=by walk_at "f"
theorem sc_z53:FnScope ["_law_feed_here","_law_game_here","_law_things","_law_deep","_law_alike","_law_some","_law_question","_law_sides_here","_law_no_part"] ["_law_feed_here","_law_game_here","_law_things","_law_deep"] (AL Jp):=by walk_at "f"
theorem Qd:FnScope ["_law_game_here","_law_d","_law_tree_here","_law_paper"] ["_law_game_here","_law_d","_law_tree_here","_law_paper"] (AL Is):=by walk_at "f"
theorem sc_law:FnScope ["_law_script","_law_feed_here","_law_k","_law_game_here","_law_things","_law_d","_law_tree_here","_law_paper","_law_question","_law_sides_here","_law_turn","_law_other","_law_more"] ["_law_script"] (AL DB):=by walk_at "f"
noncomputable def CF:Str:=PySem.Str.ofString "Reckoner.first_question" ++ PySem.Str.ofString ".<locals>." ++ PySem.Str.ofString "<lambda>"
noncomputable def Ex:Pos:=⟨77,45,77,97⟩
noncomputable def CG:Str:=PySem.Str.ofString "is_tree" ++ PySem.Str.ofString ".<locals>." ++ PySem.Str.ofString "<lambda>"
noncomputable def Ek:Pos:=⟨193,20,193,66⟩
set_option genInjectivity false
set_option genSizeOf false
structure Fun1(K:W.Frag)(mg:Str->Option Value)(n:Str)(st:Stmt)(ps:List Str) where
 f:Addr
 d:FuncData
 F:Fun K n n st f d
 b:Binds K d ps []
 m:mg n=some (.ref f)
structure Meth1(K:W.Frag)(C:Addr)(n q:Str)(st:Stmt)(ps:List Str) where
 f:Addr
 d:FuncData
 F:Fun K n q st f d
 b:Binds K d ps []
 m:Meth K C n f
structure Txt(K:W.Frag)(mg:Str->Option Value) where
 C_Bearing:Addr
 mC_Bearing:mg "Bearing" = some (.ref C_Bearing)
 cl_Bearing:Cls K C_Bearing
 na_Bearing_yeses:NoAttr K C_Bearing "yeses"
 na_Bearing_numbers:NoAttr K C_Bearing "numbers"
 na_Bearing_found:NoAttr K C_Bearing "found"
 C_Reckoner:Addr
 mC_Reckoner:mg "Reckoner" = some (.ref C_Reckoner)
 cl_Reckoner:Cls K C_Reckoner
 na_Reckoner_labels:NoAttr K C_Reckoner "labels"
 na_Reckoner_yeses:NoAttr K C_Reckoner "yeses"
 na_Reckoner_alike:NoAttr K C_Reckoner "alike"
 na_Reckoner_known:NoAttr K C_Reckoner "known"
 z60:Fun1 K mg "is_whole" HE ["thing"]
 z61:Fun1 K mg "is_below" HA ["bound","thing"]
 z67:Fun1 K mg "two_to" JT ["n"]
 z62:Fun1 K mg "power_of" Je ["base","times"]
 z70:Fun1 K mg "is_on" HV ["place","switch"]
 z68:Fun1 K mg "within" Hr ["subset","other"]
 z40:Fun1 K mg "set_holding" Ir ["members"]
 z44:Fun1 K mg "members_of" J4 ["subset"]
 z29:Meth1 K C_Reckoner "__init__" "Reckoner.__init__" HC ["self","game"]
 mk_Reckoner:Mk K C_Reckoner z29.f
 z21:Meth1 K C_Reckoner "everything" "Reckoner.everything" Ii ["self"]
 z16:Meth1 K C_Reckoner "has_one_label" "Reckoner.has_one_label" Kd ["self","things"]
 z24:Meth1 K C_Reckoner "label_of" "Reckoner.label_of" HU ["self","things"]
 z26:Meth1 K C_Reckoner "left_of" "Reckoner.left_of" KN ["self","things","question","answer"]
 z17:Meth1 K C_Reckoner "fewest_among" "Reckoner.fewest_among" IQ ["self","things"]
 z13:Meth1 K C_Reckoner "fewest_reckoned" "Reckoner.fewest_reckoned" Ia ["self","things"]
 z25:Meth1 K C_Reckoner "parting" "Reckoner.parting" Jl ["self","things"]
 z18:Meth1 K C_Reckoner "worst_behind" "Reckoner.worst_behind" IJ ["self","things","question"]
 z20:Meth1 K C_Reckoner "harder_left" "Reckoner.harder_left" Kc ["self","things","question"]
 z19:Meth1 K C_Reckoner "harder_lefts" "Reckoner.harder_lefts" KC ["self","things"]
 z15:Meth1 K C_Reckoner "first_question" "Reckoner.first_question" Cs ["self","things"]
 z36:Fun1 K mg "members_where" HN ["wanted","values"]
 z65:Fun1 K mg "is_pair" Hs ["thing"]
 z66:Fun1 K mg "left_by" JA ["game","things","question","answer"]
 z27:Fun1 K mg "refuse_without_end" G6 ["game"]
 z33:Fun1 K mg "first_unparted" KA ["game"]
 z58:Fun1 K mg "fewest_of" KQ ["game","things"]
 z69:Fun1 K mg "fewest" HY ["game"]
 z51:Fun1 K mg "best_tree" HD ["reckoner","things"]
 z46:Fun1 K mg "hard_paper" G4 ["reckoner","things"]
 z57:Fun1 K mg "lets_hard" IY ["game","d","thing"]
 z59:Fun1 K mg "is_entry" KS ["game","thing"]
 z45:Fun1 K mg "are_things" JY ["many","thing"]
 z34:Meth1 K C_Bearing "__init__" "Bearing.__init__" KG ["self","game","entries"]
 mk_Bearing:Mk K C_Bearing z34.f
 z23:Meth1 K C_Bearing "bears_all" "Bearing.bears_all" KH ["self"]
 z32:Meth1 K C_Bearing "bears" "Bearing.bears" Ho ["self","things","number","yes"]
 z22:Meth1 K C_Bearing "has_within" "Bearing.has_within" IT ["self","things","number"]
 z14:Meth1 K C_Bearing "greatest_within" "Bearing.greatest_within" Ib ["self","things"]
 z63:Fun1 K mg "keeps_to" HM ["has_form","parts_within","is_beyond","thing"]
 z64:Fun1 K mg "is_tree" C8 ["game","thing"]
 z37:Fun1 K mg "has_tree_form" IK ["questions","thing"]
 z38:Fun1 K mg "trees_within" Jt ["tree"]
 z28:Fun1 K mg "is_too_large_tree" Jd ["many","depth"]
 z71:Fun1 K mg "asked" KY ["game","tree","thing"]
 z56:Fun1 K mg "lets_tree" JP ["game","d","thing"]
 z47:Fun1 K mg "comes_home" Ik ["game","d","tree","hidden"]
 z55:Fun1 K mg "_law_feed" JF ["_law_script"]
 z50:Fun1 K mg "_law_draw" Gz ["_law_feed_here","_law_many"]
 z41:Fun1 K mg "_law_table" IP ["_law_feed_here","_law_n"]
 z30:Fun1 K mg "_law_table_game" JS ["_law_table_here"]
 z43:Fun1 K mg "_law_class" IZ ["_law_feed_here","_law_n","_law_many"]
 z31:Fun1 K mg "_law_class_game" J5 ["_law_tables"]
 z42:Fun1 K mg "_law_picks" Ix ["_law_feed_here"]
 z35:Fun1 K mg "_law_any_game" IW ["_law_feed_here"]
 z54:Fun1 K mg "_law_game" HH ["_law_feed_here"]
 z52:Fun1 K mg "_law_pair" JX ["_law_game_here"]
 z39:Fun1 K mg "_law_ending" Jo ["_law_game_here"]
 z48:Fun1 K mg "_law_sides" Gw ["_law_game_here","_law_things","_law_question"]
 z53:Fun1 K mg "_law_tree" Jp ["_law_feed_here","_law_game_here","_law_things","_law_deep"]
 z49:Fun1 K mg "_law_shown" Is ["_law_game_here","_law_d","_law_tree_here","_law_paper"]
 f_law:Addr
 d_law:FuncData
 F_law:Fun K "law" "law" DB f_law d_law
 b_law:Binds K d_law ["_law_script"] []
 m_law:mg "law" = some (.ref f_law)
 g_z15:Addr
 p_z15:Addr
 gc_z15:z15.d.code=.ref g_z15
 gh_z15:W.codeHdIn K g_z15 p_z15=true
 g_z64:Addr
 p_z64:Addr
 gc_z64:z64.d.code=.ref g_z64
 gh_z64:W.codeHdIn K g_z64 p_z64=true
 np_0:p_z15≠p_z64
 z_all:mg "all" = none
 z_any:mg "any" = none
 z_bool:mg "bool" = none
 z_enumerate:mg "enumerate" = none
 z_int:mg "int" = none
 z_isinstance:mg "isinstance" = none
 z_len:mg "len" = none
 z_list:mg "list" = none
 z_max:mg "max" = none
 z_min:mg "min" = none
 z_range:mg "range" = none
 z_set:mg "set" = none
 z_sorted:mg "sorted" = none
 z_sum:mg "sum" = none
 z_tuple:mg "tuple" = none
 t_MOST_TREES:Tok
 c_MOST_TREES:mg "MOST_TREES" = some (.int 2000 t_MOST_TREES)
 t_MOST_WITHIN:Tok
 c_MOST_WITHIN:mg "MOST_WITHIN" = some (.int 16 t_MOST_WITHIN)
set_option genInjectivity true
set_option genSizeOf true
abbrev Xj(P:Program)(w:World)(base:Heap){K:W.Frag}{mg:Str->Option Value}{n:Str}{st:Stmt}{ps:List Str}(z:Fun1 K mg n st ps)(k:Nat)(sp:Sp):Prop:=FnOk P w K mg base CX0 k z.f z.d ps sp
abbrev Xk(P:Program)(w:World)(mg:Str->Option Value)(base:Heap){K:W.Frag}{C:Addr}{n q:Str}{st:Stmt}{ps:List Str}(z:Meth1 K C n q st ps)(k:Nat)(sp:Sp):Prop:=FnOk P w K mg base CX0 k z.f z.d ps sp
section
variable {P:Program}{w:World}{K:W.Frag}{mg:Str->Option Value}{base:Heap}(T:Txt K mg)
local macro_rules | `(tactic| walk_at "sm")=>`(tactic| repeat' with_reducible first | exact T3 | apply Qp | apply U3 | apply PC | apply RA | apply UX | apply UG | apply Oz | exact Wu | exact UM | apply SB | apply RU | apply RL | apply VG | apply Ro | apply Pc | apply UN | apply Tk | apply RF | exact Xg | exact Rw | exact VX | exact P7 | exact QS | exact SH | exact V9 | exact Pz | exact WK | exact VD | exact TD | exact VH | exact VP | apply Ow | apply UI | apply QW | apply WQ | exact PH | apply QE | exact VT | exact O4 | exact Vl | exact T5 | apply Wb | apply XJ | apply Uf | apply WI | exact BV | apply De | exact CA | exact S8 | exact Uz | exact Qv | exact UW | apply Rp | apply Op | apply SG | apply Ud | exact Tu | exact VL | exact Uq | exact V4 | exact XU | apply RG | exact Pj | exact WM | exact P1 | apply Qy | exact Tg | exact Rv | apply Qw | apply UT | exact TJ | apply Pd | exact QA | apply Rb | assumption)
set_option hygiene false in
local macro_rules | `(tactic| walk_at "q")=>`(tactic| (split at q;(revert q;repeat' first | exact h _ _ | exact newL_mono h | exact out_mono h | exact outT_mono h | walk_at "m");(exact q.elim)))
set_option hygiene false in
local macro_rules | `(tactic| walk_at "e")=>`(tactic| (split at h <;> first | rfl | exact h.elim))
set_option hygiene false in
local macro_rules | `(tactic| walk_at "f")=>`(tactic| (intro Yy A outer s H vs Q E hr h;have hu:=AS hr))
set_option hygiene false in
local macro_rules | `(tactic| walk_at "g")=>`(tactic| (split at h;rotate_left;(exact h.elim)))
theorem pa1{X:Cx}{e:PySem.Expr}{te:TE}(ha:PE X e te)(hs:starEach [e] X.env=[(false,eval e X.env)]):PA X [e] (Dm te Di):=AA ha AB hs
local macro_rules | `(tactic| left)=>`(tactic| exact⟨by rfl,by first | exact Or.inl rfl | exact Or.inr (Or.inl rfl) | exact Or.inr (Or.inr rfl),by decide,by decide⟩)
local macro_rules | `(tactic| walk_at "m")=>`(tactic| with_reducible first | refine Exists.imp fun _=>?_ | refine And.imp_right ?_ | refine forall_imp fun _=>?_)
local macro_rules | `(tactic| walk_at "o")=>`(tactic| first | exact Or.inl rfl | exact Or.inr (Or.inl rfl) | exact Or.inr (Or.inr rfl))
local macro_rules | `(tactic| walk_at "i")=>`(tactic| first | exact .inl rfl | exact .inr rfl | assumption)
local macro_rules | `(tactic| right)=>`(tactic| first | exact Or.inl rfl | exact Or.inr rfl)
local macro_rules | `(tactic| exfalso)=>`(tactic| first | exact Ip _ (by decide) (by decide) | rfl)
theorem Qs:Xj P w base T.z55 1 (Ie K):=by
 refine T.z55.F.ok QB (fun vs H Q E h=>by unfold Ie at h;walk_at "e") ?_;walk_at "f";unfold Ie at h;walk_at "g"
 rename_i a;obtain⟨ns,hs,q⟩:=h;refine⟨_,(@AH _ _ _ (@AK _ _ _ _ (@BX _ _ _ _ (AA (AO (BB (K:=K)) (Av (NC (K:=K)) rfl T.z_list (by rfl) (AA (T7 (K:=K) (vv 0) GU (Ge AC)) AB)) (AO Co (@BX _ _ _ _ (AA AC AB)) (Av Im rfl T.z_int (by rfl) (AA (A7 (kEq (K:=K) hu) (vv 0) (@BX _ _ _ _ AB)) AB)))) (AA AC (AA AC (AA AC AB))))))),?_⟩;refine⟨63,rfl,_,.inl ⟨hs,fun p hp=>?_⟩⟩
 have ecut:BS (ns.map V.int) none (some 63)=(ns.take (HT.sIx ns.length ns.length (some 63))).map V.int:=by
  unfold BS;rw[ZB];simp[HT.sIx,List.map_take]
 rw[ecut];generalize hns:ns.take (HT.sIx ns.length ns.length (some 63))=ms
 have hms:ns≠[]->ms≠[]:=by
  intro Yu;rw[<- hns];cases ns with
  | nil=>exact absurd rfl Yu
  | cons x xs =>
   have e:HT.sIx (x::xs).length (x::xs).length (some 63)=min 63 (xs.length+1):=HT.sIx_nat _ _ 63;rw[e,show min 63 (xs.length+1)=(min 62 xs.length)+1 by lia,List.take_succ_cons];exact fun z=>nomatch z
 have hml:ms.length<=63:=by
  rw[<- hns,Za];have e:HT.sIx ns.length ns.length (some 63)=min 63 ns.length:=HT.sIx_nat _ _ 63;lia
 refine⟨_,.inl (.of AD),fun p2 hp2=>?_⟩;have s2:Yb H (upd (upd H p (.lst (ms.map V.int))) p2 (.lst (ms.map V.int))):=(Yb.upd hp).trans (Yb.upd hp2);have g2:upd (upd H p (.lst (ms.map V.int))) p2 (.lst (ms.map V.int)) p2=some (.lst (ms.map V.int)):=AD;generalize upd (upd H p (.lst (ms.map V.int))) p2 (.lst (ms.map V.int))=H2 at *;refine⟨smq rfl,fun p3 hp3=>?_⟩;have s3:Yb H2 (upd H2 p3 (.lst [.int 0])):=Yb.upd hp3;have g3:upd H2 p3 (.lst [.int 0]) p3=some (.lst [.int 0]):=AD;generalize upd H2 p3 (.lst [.int 0])=H3 at *;refine⟨smq rfl,fun p4 hp4=>?_⟩;have s4:Yb H3 (upd H3 p4 (.lst [])):=Yb.upd hp4;have g4:upd H3 p4 (.lst []) p4=some (.lst []):=AD;generalize upd H3 p4 (.lst [])=H4 at *;have S4:=s2.trans (s3.trans s4);refine⟨.lst (ns.map Dv.int),.lst [],?_,?_,?_,?_⟩
 ·unfold Yh;exact⟨a,_,rfl,S4.sqL hs,G3 ns⟩
 ·unfold Yh;exact⟨p4,_,rfl,.of g4,Ag⟩
 ·unfold Az;rw[MP];lia
 have eb:eqD (.lst (ns.map Dv.int)) (.lst [])=decide (ns=[]):=by
  rw[Fp];cases ns with
  | nil=>rfl
  | cons x xs=>rfl
 rw[eb]
 have fin:∀(k:Nat),k<=1->(ns=[]->k=1)->∀H5 p5,Yb H4 H5->H5 p5=some (.lst (List.replicate k (V.int 0)))->∃l b xs zs,V.ref p2=.ref l/\V.ref p5=.ref b/\H5 l=some (.lst xs)/\H5 b=some (.lst zs)/\xs.length+zs.length<=sizeLine/\∀p6,H5 p6=none ->
  4<=sizeLine/\∀p7,upd H5 p6 (.lst (xs++zs)) p7=none->Q (.ref p7) (upd (upd H5 p6 (.lst (xs++zs))) p7 (.lst [.ref p6,.int 0,.int 0,.int 0])):=by
  intro k hk hk1 H5 p5 s5 g5;refine⟨p2,p5,_,_,rfl,rfl,s5 _ _ (s4 _ _ (s3 _ _ g2)),g5,DL (by rw[ZB,ZBt];lia),fun p6 hp6=>⟨DL (by decide),fun p7 hp7=>?_⟩⟩;have S5:=S4.trans s5;have S6:=S5.trans (Yb.upd (o:=.lst (ms.map V.int++List.replicate k (V.int 0))) hp6);refine q p7 _ (S6.free hp7) (S6.trans (Yb.upd hp7)) ⟨p6,0,0,0,ms++List.replicate k 0,by decide,by decide,by decide,by decide,AD,?_,?_,?_⟩
  ·exact fun e=>by rw[<- e,AD]at hp7;cases hp7
  ·rw[AJ (fun e=>by rw[<- e,AD]at hp7;cases hp7),AD];rw[ZJ,List.map_replicate]
  ·rw[ZN,ZBt]
   by_cases Yu:ns=[]
   ·rw[hk1 Yu];lia
   ·have:=hms Yu
    have:ms.length≠0:=fun z=>this (ZBY.mp z)
    lia
 by_cases Yu:ns=[]
 ·rw[ZL Yu];refine⟨p3,1,_,rfl,rfl,s4 _ _ g3,by decide,by decide,DL (by decide),fun p5 hp5=>.inl ?_⟩;exact fin 1 (by decide) (fun _=>rfl) _ p5 (Yb.upd hp5) AD
 ·rw[Zz Yu];refine⟨p3,0,_,rfl,rfl,s4 _ _ g3,by decide,by decide,DL (by decide),fun p5 hp5=>.inl ?_⟩;exact fin 0 (by decide) (fun z=>absurd z Yu) _ p5 (Yb.upd hp5) AD
theorem Kl:Xj P w base T.z50 1 D8:=by
 refine T.z50.F.ok sc_z50 (fun vs H Q E h=>by unfold D8 at h;walk_at "e") ?_;walk_at "f"
 match vs,h with
 | [.ref t,.int m],h =>
 obtain⟨l,N,F,hN,hm,k⟩:=h;obtain⟨i,g,c,ns,i0,g0,c0,cN,ht,lt,hl,nl⟩:=F.at_;have hm0:0 < m:=hm.1;refine⟨_,(@AF _ _ _ _ _ (@Dj _ _ _ _ _ _ (AO (BB (K:=K)) (Yp (K:=K) (vv 0) AC) AC) (EC (vv 0) AC EY) (by rfl) (by rfl) (by rfl)) (@AF _ _ _ _ _ (@AN _ _ 2 _ _ _ _ sc_z50.nd rfl (by right) (Yp (K:=K) (vv 0) AC) (by rfl) (by walk_at "i")) (@AF _ _ _ _ _ (@Ar _ _ _ _ _ _ _ _ (AW (kEq (K:=K) hu) (Yp (K:=K) (vv 0) AC) AC) (@AF _ _ _ _ _ (@AN _ _ 3 _ _ _ _ sc_z50.nd rfl (by right) (Yp (K:=K) (Yp (K:=K) (vv 0) AC) (AO DW (Yp (K:=K) (vv 0) AC) (Ab (Ay (K:=K)) rfl T.z_len (by rfl) (AA (Yp (K:=K) (vv 0) AC) AB)))) (by rfl) (by walk_at "i")) (@AF _ _ _ _ _ (@Dj _ _ _ _ _ _ (AO (BB (K:=K)) (Yp (K:=K) (vv 0) AC) AC) (EC (vv 0) AC EY) (by rfl) (by rfl) (by rfl)) (@AF _ _ _ _ _ (@Ar _ _ _ _ _ _ _ _ (AW Ck (vv 3) (AO OC AC AC)) (@AF _ _ _ _ _ (@AN _ _ 4 _ _ _ _ sc_z50.nd rfl (by right) (AO (BB (K:=K)) (AO (BB (K:=K)) (AO (BB (K:=K)) (AO DW (vv 3) AC) (AO Co (AO Co AC (vv 2)) (vv 2))) (AO Co AC (vv 2))) AC) (by rfl) (by walk_at "i")) (@AF _ _ _ _ _ (@AN _ _ 4 _ _ _ _ sc_z50.nd rfl (by right) (AO Co (AO Ez (AO DW (AO Co (vv 4) AC) AC) AC) AC) (by rfl) (by walk_at "i")) (@AH _ _ _ (@AK _ _ _ _ (AO DW (AO Ez (AO DW (vv 4) AC) AC) (vv 1)))))) Aq) (@AH _ _ _ (@Dj _ _ _ _ _ _ (vv 3) (EC (vv 0) AC EY) (by rfl) (by rfl) (by rfl)))))) Aq) (@AF _ _ _ _ _ (@AN _ _ 5 _ _ _ _ sc_z50.nd rfl (by right) (AO DW (Yp (K:=K) (vv 0) AC) (vv 1)) (by rfl) (by walk_at "i")) (@AF _ _ _ _ _ (@Dj _ _ _ _ _ _ (AO Ez (Yp (K:=K) (vv 0) AC) (vv 1)) (EC (vv 0) AC EY) (by rfl) (by rfl) (by rfl)) (@AH _ _ _ (@AK _ _ _ _ (vv 5)))))))),?_⟩;refine AY (fun σ' H1=>σ'=[some (.ref t),some (.int m),none,none,none,none]/\(∀b,b≠t->H1 b=H b)/\H1 t=some (.lst [.ref l,.int i,.int g,.int (c+1)])) ?_ ?_ (by walk_at "sm")
 ·exact⟨_,_,.inl (.of ht),rfl,_,_,ht,rfl,rfl,fun b n=>AJ n,AD⟩
 rintro σ' H1 ⟨rfl,f1,ht1⟩;refine⟨_,_,.inl (.of ht1),rfl,?_⟩;have hl1:H1 l=some (.lst (ns.map V.int)):=by rw[f1 l lt];exact hl
 have pos:(0:Int) < (ns.length:Int):=by lia
 dsimp only[AZ];refine AY (fun σ' H2=>∃(z3 z4:Option V) (i2 g2:Int),σ'=[some (.ref t),some (.int m),some (.int (c+1)),z3,z4,none]/\(∀b,b≠t->H2 b=H b)/\0<=i2/\0<=g2/\H2 t=some (.lst [.ref l,.int i2,.int g2,.int (c+1)])) ?_ ?_ (by walk_at "sm")
 ·refine⟨_,_,.inl (.of ht1),rfl,?_⟩;refine AT (fun e=>?_) (fun e=>⟨none,none,i,g,rfl,f1,i0,g0,ht1⟩);obtain⟨z,hz⟩:=Sv (ns:=ns) (Int.emod_nonneg i (show(ns.length:Int)≠0 by lia)) (Int.emod_lt_of_pos i pos);refine AY (fun σ' H2=>σ'=[some (.ref t),some (.int m),some (.int (c+1)),some (.int z),none,none]/\H1=H2) ?_ ?_ (by walk_at "sm")
  ·exact⟨_,_,.inl (.of ht1),rfl,_,_,.inl (.of ht1),rfl,_,_,.inl (.of ht1),rfl,ns.length,.inl ⟨_,.of hl1,by rw[ZB]⟩,pos,_,_,.inl (.of hl1),hz,rfl,rfl⟩
  rintro σ' _ ⟨rfl,rfl⟩;refine AY (fun σ' H2=>σ'=[some (.ref t),some (.int m),some (.int (c+1)),some (.int z),none,none]/\(∀b,b≠t->H2 b=H b)/\H2 t=some (.lst [.ref l,.int (i+1),.int g,.int (c+1)])) ?_ ?_ (by walk_at "sm")
  ·exact⟨_,_,.inl (.of ht1),rfl,_,_,ht1,rfl,rfl,fun b n=>by rw[AJ n];exact f1 b n,AD⟩
  rintro σ' H2 ⟨rfl,f2,ht2⟩;refine AY (fun σ' H3=>σ'=[some (.ref t),some (.int m),some (.int (c+1)),some (.int z),none,none]/\H2=H3/\¬z < 1000000000000000000) ?_ ?_ (by walk_at "sm")
  ·refine⟨⟨by decide,by decide,by decide⟩,?_⟩;refine AT (fun e=>?_) (fun e=>⟨rfl,rfl,?_⟩)
   ·refine⟨by decide,.inr (.inl ⟨by decide,by decide⟩),.inr (.inl ⟨by lia,by lia⟩),.inr (.inl ⟨by decide,by decide⟩),?_⟩;refine⟨.inr (.inr ⟨by decide,by decide⟩),by decide,Au (by decide) (by decide),.inr (.inr ⟨by decide,by decide⟩),?_⟩;refine⟨by decide,Au (by decide) (by decide),hm0,?_⟩;exact k _ _ (Int.emod_nonneg _ (by lia)) (Int.emod_lt_of_pos _ hm0) ⟨i+1,g,c+1,ns,by lia,g0,by lia,by lia,ht2,lt,by rw[f2 l lt];exact hl,nl⟩ f2
   ·intro z';exact e (ZL z')
  rintro σ' _ ⟨rfl,rfl,hz2⟩;exact⟨_,_,ht2,rfl,_,_,_,_,rfl,fun b n=>by rw[AJ n];exact f2 b n,show 0<=i+1 by lia,show 0<=z by lia,AD⟩
 rintro σ' H2 ⟨z3,z4,i2,g2,rfl,f2,i0',g0',ht2⟩;refine⟨_,_,.inl (.of ht2),rfl,hm0,?_⟩;dsimp only[AZ];refine⟨_,_,.inl (.of ht2),rfl,hm,_,_,ht2,rfl,?_⟩;refine k _ _ (Int.emod_nonneg _ (by lia)) (Int.emod_lt_of_pos _ hm0) ⟨i2,g2 / m,c+1,ns,i0',Int.ediv_nonneg g0' (by lia),by lia,by lia,AD,lt,?_,nl⟩ (fun b n=>by rw[AJ n];exact f2 b n);rw[AJ lt,f2 l lt];exact hl
theorem Dp:Xj P w base T.z50 1 D4:=(Kl T).imp QR
noncomputable def One(L:Nat->Int)(S:Nat->Bool):Prop:=∀i j,S i=true->S j=true->L i=L j
noncomputable def Can(L:Nat->Int)(Y:List (Nat->Bool)):Nat->(Nat->Bool)->Prop
 | 0,S=>One L S
 | n+1,S=>One L S\/∃y∈Y,Can L Y n (fun k=>S k && y k)/\Can L Y n (fun k=>S k && !y k)
section
variable {L L':Nat->Int}{Y Y':List (Nat->Bool)}{S S':Nat->Bool}{n m a b c:Nat}
theorem Oa(h:∀k,S' k=true->S k=true)(o:One L S):One L S':=fun i j x y=>o i j (h i x) (h j y)
theorem B6:∀{n:Nat} {S S':Nat->Bool},(∀k,S' k=true->S k=true)->Can L Y n S->Can L Y n S'
 | 0,_,_,h,o=>Oa h o
 | n+1,S,S',h,.inl o=>.inl (Oa h o)
 | n+1,S,S',h,.inr ⟨y,hy,p,q⟩=>.inr ⟨y,hy,B6 (fun k z=>by simp only[ZK]at z ⊢;exact⟨h k z.1,z.2⟩) p,B6 (fun k z=>by simp only[ZK]at z ⊢;exact⟨h k z.1,z.2⟩) q⟩
theorem Ig:∀{n:Nat} {S:Nat->Bool},Can L Y n S->Can L Y (n+1) S
 | 0,_,o=>.inl o
 | n+1,S,.inl o=>.inl o
 | n+1,S,.inr ⟨y,hy,p,q⟩=>.inr ⟨y,hy,Ig p,Ig q⟩
theorem EM(h:n<=m)(p:Can L Y n S):Can L Y m S:=by
 induction h with
 | refl=>exact p
 | step _ ih=>exact Ig ih
theorem GL(h:∀y∈Y,y∈Y'):∀{n:Nat} {S:Nat->Bool},Can L Y n S->Can L Y' n S
 | 0,_,o=>o
 | n+1,S,.inl o=>.inl o
 | n+1,S,.inr ⟨y,hy,p,q⟩=>.inr ⟨y,h y hy,GL h p,GL h q⟩
noncomputable def As(L:Nat->Int)(Y:List (Nat->Bool))(S:Nat->Bool)(m:Nat):Prop:=Can L Y m S/\∀n,Can L Y n S->m<=n
theorem Fe(x:As L Y S a)(y:As L Y S b):a=b:=Nat.le_antisymm (x.2 _ y.1) (y.2 _ x.1)
theorem HR(x:As L Y S a):a=0 ↔ One L S :=
 ⟨fun e=>by subst e;exact x.1,fun o=>Nat.le_zero.mp (x.2 0 o)⟩
theorem OW{y:Nat->Bool}(hy:y∈Y)(x:As L Y S a)(p:As L Y (fun k=>S k && y k) b)(q:As L Y (fun k=>S k && !y k) c):a<=1+max b c:=by
 rw[Nat.add_comm];exact x.2 (max b c+1) (.inr ⟨y,hy,EM (Nat.le_max_left ..) p.1,EM (Nat.le_max_right ..) q.1⟩)
noncomputable def Bq(S y:Nat->Bool):Prop:=(∃k,S k=true/\y k=true)/\∃k,S k=true/\y k=false
theorem not_parts{y:Nat->Bool}(h:¬Bq S y):(∀k,S k=true->(S k && y k)=true)\/∀k,S k=true->(S k && !y k)=true:=by
 by_cases z:∃k,S k=true/\y k=true
 ·refine .inl fun k hk=>?_
  rw[hk,ZBT];cases e:y k with
  | true=>rfl
  | false=>exact absurd ⟨z,k,hk,e⟩ h
 ·refine .inr fun k hk=>?_
  rw[hk,ZBT];cases e:y k with
  | false=>rfl
  | true=>exact absurd ⟨k,hk,e⟩ z
theorem Hj(ho:¬One L S):∀{n:Nat},Can L Y n S->∃y∈Y,Bq S y
 | 0,o=>absurd o ho
 | n+1,.inl o=>absurd o ho
 | n+1,.inr ⟨y,hy,p,q⟩=>by
  by_cases h:Bq S y
  ·exact⟨y,hy,h⟩
  ·rcases not_parts h with z | z
   ·exact Hj ho (B6 z p)
   ·exact Hj ho (B6 z q)
theorem NK (ho:¬One L S) (h1:∃y∈Y,Bq S y/\∃b c,As L Y (fun k=>S k && y k) b/\As L Y (fun k=>S k && !y k) c/\m=max b c)
 (h2:∀y∈Y,Bq S y->∃b c,As L Y (fun k=>S k && y k) b/\As L Y (fun k=>S k && !y k) c/\m<=max b c):As L Y S (1+m):=by
 constructor
 ·obtain⟨y,hy,hp,b,c,p,q,e⟩:=h1;rw[Nat.add_comm];exact .inr ⟨y,hy,EM (by rw[e];exact Nat.le_max_left ..) p.1,EM (by rw[e];exact Nat.le_max_right ..) q.1⟩
 ·intro n
  induction n with
  | zero=>exact fun o=>absurd o ho
  | succ n ih =>
   rintro(o | ⟨y,hy,p,q⟩)
   ·exact absurd o ho
   ·by_cases h:Bq S y
    ·obtain⟨b,c,p',q',hm⟩:=h2 y hy h;have x1:=p'.2 _ p;have x2:=q'.2 _ q;lia
    ·rcases not_parts h with z | z
     ·exact Nat.le_succ_of_le (ih (B6 z p))
     ·exact Nat.le_succ_of_le (ih (B6 z q))
theorem To:∀{n:Nat} {S:Nat->Bool} (ds:List Int),Can L Y n S->ds.Nodup->(∀d∈ds,∃k,S k=true/\L k=d)->ds.length<=2 ^ n:=by
 have one:∀{S:Nat->Bool} (ds:List Int),One L S->ds.Nodup->(∀d∈ds,∃k,S k=true/\L k=d)->ds.length<=1:=by
  intro S ds o nd h
  match ds,nd,h with
  | [],_,_=>exact ZU _
  | [_],_,_=>exact ZD _
  | x::y::r,nd,h =>
   obtain⟨i,hi,ei⟩:=h x (by simp);obtain⟨j,hj,ej⟩:=h y (by simp)
   have:=o i j hi hj
   rw[ei,ej]at this;simp[this]at nd
 intro n
 induction n with
 | zero=>exact fun ds o nd h=>one ds o nd h
 | succ n ih =>
  intro S ds c nd h
  rcases c with o | ⟨y,hy,p,q⟩
  ·exact Zj (one ds o nd h) Nat.one_le_two_pow
  ·classical
   have e:ds.length=(ds.filter fun d=>decide (∃k,(S k && y k)=true/\L k=d)).length+(ds.filter fun d=>!decide (∃k,(S k && y k)=true/\L k=d)).length:=by
    clear nd h
    induction ds with
    | nil=>rfl
    | cons x r ih2 =>
     rw[List.filter_cons,List.filter_cons];cases decide (∃k,(S k && y k)=true/\L k=x) <;> simp[ih2] <;> lia
   have a1:=ih (ds.filter fun d=>decide (∃k,(S k && y k)=true/\L k=d)) p (nd.filter _) fun d hd=>by
    have:=(Z0.mp hd).2
    exact ZP this
   have a2:=ih (ds.filter fun d=>!decide (∃k,(S k && y k)=true/\L k=d)) q (nd.filter _) fun d hd=>by
    obtain⟨h1,h2⟩:=Z0.mp hd;obtain⟨k,hk,ek⟩:=h d h1;refine⟨k,?_,ek⟩;cases z:y k with
    | false=>rw[hk];rfl
    | true =>
     have:decide (∃k,(S k && y k)=true/\L k=d)=true:=ZL ⟨k,by rw[hk,z];rfl,ek⟩
     rw[this]at h2;cases h2
   rw[Nat.pow_succ];lia
noncomputable def Ax(N:Nat)(S:Nat->Bool):Nat:=((List.range N).filter S).length
theorem FK(N:Nat)(S:Nat->Bool):Ax (N+1) S=Ax N S+if S N=true then 1 else 0:=by
 unfold Ax;rw[ZBJ,ZBq,ZN];cases h:S N <;> simp[h]
theorem Fd(N:Nat)(S y:Nat->Bool):Ax N S=Ax N (fun k=>S k && y k)+Ax N (fun k=>S k && !y k):=by
 induction N with
 | zero=>rfl
 | succ N ih =>
  rw[FK,FK,FK,ih];cases S N <;> cases y N <;> simp <;> lia
theorem ED{S:Nat->Bool}(hk:k < N)(hs:S k=true):1<=Ax N S:=List.length_pos_of_mem (Z0.mpr ⟨Ze.mpr hk,hs⟩)
theorem Si{S:Nat->Bool}(hi:i < N)(hj:j < N)(si:S i=true)(sj:S j=true)(ne:i≠j):2<=Ax N S:=by
 rw[Fd N S (fun k=>k == i)]
 have:=ED (S:=fun k=>S k && k == i) hi (by simp[si])
 have:=ED (S:=fun k=>S k && !(k == i)) hj (by simp[sj,Ne.symm ne])
 lia
theorem MS(hS:∀k,S k=true->k < N){y:Nat->Bool}(h:Bq S y):Ax N (fun k=>S k && y k) < Ax N S/\Ax N (fun k=>S k && !y k) < Ax N S:=by
 obtain⟨⟨i,hi,yi⟩,j,hj,yj⟩:=h
 have:=Fd N S y
 have:=ED (S:=fun k=>S k && y k) (hS i hi) (by simp[hi,yi])
 have:=ED (S:=fun k=>S k && !y k) (hS j hj) (by simp[hj,yj])
 lia
theorem V6(he:∀i j,i < N->j < N->(∀y∈Y,y i=y j)->L i=L j):∀(n:Nat) (S:Nat->Bool),(∀k,S k=true->k < N)->Ax N S<=n+1->Can L Y n S:=by
 intro n
 induction n with
 | zero =>
  intro S hS hc i j hi hj
  by_cases e:i=j
  ·rw[e]
  ·have:=Si (hS i hi) (hS j hj) hi hj e
   lia
 | succ n ih =>
  intro S hS hc
  by_cases o:One L S
  ·exact .inl o
  ·have:∃i j,S i=true/\S j=true/\L i≠L j:=by
    refine Classical.byContradiction fun z=>o fun i j hi hj=>Classical.byContradiction fun q=>z ⟨i,j,hi,hj,q⟩
   obtain⟨i,j,hi,hj,ne⟩:=this
   have:∃y∈Y,y i≠y j:=by
    refine Classical.byContradiction fun z=>ne (he i j (hS i hi) (hS j hj) fun y hy=>Classical.byContradiction fun q=>z ⟨y,hy,q⟩)
   obtain⟨y,hy,Yu⟩:=this
   have hp:Bq S y:=by
    cases yi:y i with
    | true =>
     refine⟨⟨i,hi,yi⟩,j,hj,?_⟩;cases yj:y j with
     | false=>rfl
     | true=>rw[yi,yj]at Yu;exact absurd rfl Yu
    | false =>
     refine⟨⟨j,hj,?_⟩,i,hi,yi⟩;cases yj:y j with
     | true=>rfl
     | false=>rw[yi,yj]at Yu;exact absurd rfl Yu
   obtain⟨c1,c2⟩:=MS hS hp;exact .inr ⟨y,hy,ih _ (fun k z=>hS k (by simp only[ZK]at z;exact z.1)) (by lia),ih _ (fun k z=>hS k (by simp only[ZK]at z;exact z.1)) (by lia)⟩
theorem Xi:∀{n:Nat} {S:Nat->Bool},Can L Y n S->∃m,As L Y S m:=by
 intro n S h
 induction n with
 | zero=>exact⟨0,h,fun _ _=>ZU _⟩
 | succ n ih =>
  by_cases z:Can L Y n S
  ·exact ih z
  ·exact⟨n+1,h,fun k hk=>by
    rcases Zr k (n+1) with q | q
    ·exact absurd (EM (by lia) hk) z
    ·exact q⟩
end
noncomputable def msk(ts:List Nat):Nat:=(ts.map (2 ^ ·)).sum
theorem Gs(t:Nat)(ts:List Nat):msk (t::ts)=2 ^ t+msk ts:=by unfold msk;rw[Zi,List.sum_cons]
theorem Qi(ts us:List Nat):msk (ts++us)=msk ts+msk us:=by unfold msk;rw[ZJ,List.sum_append]
theorem Kz:∀(ts:List Nat) (N:Nat),ts.Pairwise (fun a b=>b < a)->(∀t∈ts,t < N)->msk ts < 2 ^ N/\∀k,(msk ts).testBit k=decide (k∈ts)
 | [],N,_,_=>⟨ZBj N,fun k=>by simp[msk]⟩
 | t::ts,N,hp,hl=>by
  obtain⟨h1,h2⟩:=List.pairwise_cons.mp hp;obtain⟨i1,i2⟩:=Kz ts t h2 h1;rw[Gs];have ht:t < N:=hl t (by simp);have e2:2 ^ t+2 ^ t<=2 ^ N:=by rw[<- Nat.two_mul,Nat.mul_comm,<- Nat.pow_succ];exact Zl (by decide) ht
  refine⟨by lia,fun k=>?_⟩
  rcases ZBC k t with z | z | z
  ·rw[Nat.testBit_two_pow_add_gt z,i2 k];simp only[ZG,show k≠t by lia,false_or]
  ·subst z;rw[Nat.testBit_two_pow_add_eq,i2 k]
   have:k∉ts:=fun q=>ZW _ (h1 k q)
   simp[this]
  ·have:2 ^ t+msk ts < 2 ^ k:=by
    have:2 ^ (t+1)<=2 ^ k:=Zl (by decide) z
    rw[Nat.pow_succ]at this;lia
   rw[Nat.testBit_lt_two_pow this];have h3:k∉ts:=fun q=>ZW _ (ZBP z (h1 k q))
   simp[h3,show k≠t by lia]
theorem XV(ts:List Nat):msk ts.reverse=msk ts:=by
 induction ts with
 | nil=>rfl
 | cons t ts ih=>rw[List.reverse_cons,Qi,ih,Gs,Gs];simp[msk];lia
theorem EQ(hp:ts.Pairwise (· < ·))(hl:∀t∈ts,t < N):msk ts < 2 ^ N/\∀k,(msk ts).testBit k=decide (k∈ts):=by
 have:=Kz ts.reverse N (List.pairwise_reverse.mpr hp) (fun t ht=>hl t (List.mem_reverse.mp ht))
 rw[XV]at this;exact⟨this.1,fun k=>by rw[this.2 k];simp⟩
theorem Ew(x y k:Nat):(x - (x &&& y)).testBit k=(x.testBit k && !y.testBit k):=by
 have e:x - (x &&& y)=x ^^^ (x &&& y):=by
  have h:∀(n x y:Nat),x < 2 ^ n->(x ^^^ (x &&& y))+(x &&& y)=x:=by
   intro n
   induction n with
   | zero=>intro x y h;have:x=0:=by simpa using h
           subst this;simp
   | succ n ih =>
    intro x y h;have i:=ih (x / 2) (y / 2) (by rw[Nat.pow_succ]at h;lia);have d1:(x ^^^ (x &&& y)) / 2=x / 2 ^^^ (x / 2 &&& y / 2):=by rw[Nat.xor_div_two,Nat.and_div_two]
    have d2:(x &&& y) / 2=x / 2 &&& y / 2:=Nat.and_div_two
    have m1:(x ^^^ (x &&& y)) % 2+(x &&& y) % 2=x % 2:=by
     have g:∀z:Nat,z % 2=(z.testBit 0).toNat:=fun z=>by rw[Nat.toNat_testBit,Nat.pow_zero,Nat.div_one]
     rw[g,g (x &&& y),g x,Nat.testBit_xor,Z4];cases x.testBit 0 <;> cases y.testBit 0 <;> rfl
    lia
  have:=h x x y Nat.lt_two_pow_self
  lia
 rw[e,Nat.testBit_xor,Z4];cases x.testBit k <;> cases y.testBit k <;> rfl
theorem DT(S y:Nat):(S &&& y).testBit=fun k=>S.testBit k && y.testBit k:=funext fun k=>Z4 ..
theorem Cn(S y:Nat):(S - (S &&& y)).testBit=fun k=>S.testBit k && !y.testBit k:=funext fun k=>Ew ..
theorem Ds(h:S < 2 ^ n)(hk:S.testBit k=true):k < n:=by
 rcases Zr k n with z | z
 ·exact z
 ·rw[Nat.testBit_lt_two_pow (ZY h (Zl (by decide) z))]at hk;cases hk
noncomputable def He:Sp:=fun vs H Q _=>match vs with
 | [.int b,.int t]=>∃m:Nat,t=m/\m<=64/\((-(2 ^ 64) < b/\b < 2 ^ 64)\/(Nb b 100/\m<=12))/\Q (.int (b ^ m)) H
 | _=>False
theorem W9:Xj P w base T.z62 1 He:=by
 refine T.z62.F.ok sc_z62 (fun vs H Q E h=>by unfold He at h;walk_at "e") ?_;walk_at "f";unfold He at h;walk_at "g"
 rename_i b t;obtain⟨m,e1,h1,b1,q⟩:=h;subst e1;refine⟨_,(@AF _ _ _ _ _ (@AN _ _ 2 _ _ _ _ sc_z62.nd rfl (by right) AC (by rfl) (by walk_at "i")) (@AF _ _ _ _ _ (@Bu _ _ _ _ _ _ _ _ PassesOwn.never rfl (BA rfl T.z_range (AA (vv 1) AB)) (AR (i:=3) sc_z62.nd rfl (by right)) (@AH _ _ _ (@AN _ _ 2 _ _ _ _ sc_z62.nd rfl (by right) (AO Co (vv 2) (vv 0)) (by rfl) (by walk_at "i"))) (by intro _;rfl)) (@AH _ _ _ (@AK _ _ _ _ (vv 2))))),?_⟩;refine⟨m,rfl,by lia,by lia,?_⟩;refine Cg (fun i Z H'=>H'=H/\∃z:Option V,Z=[some (.int b),some (.int m),some (.int (b ^ i)),z]) ⟨rfl,none,by rw[Int.pow_zero];rfl⟩ ?_ ?_
 ·rintro i Z H' hi ⟨rfl,z,rfl⟩;have hi':i < m:=by lia
  have okm:okMul (b ^ i) b:=by
   rcases b1 with b1 | ⟨b1,b2⟩
   ·exact .inr (.inr b1)
   ·exact Nb.okMul ((b1.pow i).up (by lia)) (b1.up (by lia))
  refine⟨okm,rfl,some (.int (0+(i:Int))),?_⟩;rw[Int.pow_succ];rfl
 ·rintro Z H' ⟨rfl,z,rfl⟩
  have:(m:Int).toNat=m:=by lia
  rw[this];exact q
noncomputable def KZ:Sp:=fun vs H Q _=>match vs with
 | [.int n]=>∃m:Nat,n=m/\m<=64/\Q (.int (2 ^ m:Nat)) H
 | _=>False
theorem IL:Xj P w base T.z67 2 KZ:=by
 refine T.z67.F.ok Rx (fun vs H Q E h=>by unfold KZ at h;walk_at "e") ?_;walk_at "f";unfold KZ at h;walk_at "g"
 rename_i n;obtain⟨m,e1,h1,q⟩:=h;subst e1;refine⟨_,(@AH _ _ _ (@AK _ _ _ _ (AI (@W9 P w K mg base T) (hr.mono (show 1<=_ by decide)) rfl T.z62.m T.z62.F.kp T.z62.b .nil AE (AA AC (AA (vv 0) AB))))),?_⟩;refine⟨m,rfl,h1,.inl ⟨by decide,by decide⟩,?_⟩;have e:(2:Int) ^ m=((2 ^ m:Nat):Int):=by rw[Int.natCast_pow];rfl
 rw[e];exact q
noncomputable def EW:Sp:=fun vs H Q _=>match vs with
 | [.int x,.int y]=>∃a b:Nat,x=a/\y=b/\Q (.bl (decide (a &&& b=a))) H
 | _=>False
theorem XT:AQ EW:=fun vs H Q Q' E h q=>by
 unfold EW at *;walk_at "q"
theorem MW:Xj P w base T.z68 1 EW:=by
 refine T.z68.F.ok UA (fun vs H Q E h=>by unfold EW at h;walk_at "e") ?_;walk_at "f";unfold EW at h;walk_at "g"
 rename_i x y;obtain⟨a,b,e1,e2,q⟩:=h;subst e1 e2;refine⟨_,(@AH _ _ _ (@AK _ _ _ _ (A7 (kEq (K:=K) hu) (AO FS (vv 0) (vv 1)) (vv 0)))),?_⟩
 have e:(false ^^ (Builtin.bitAnd (a:Int) (b:Int) == (a:Int)))=decide (a &&& b=a):=by
  rw[Fo,Zo,Z2];simp only[beq_iff_eq,decide_eq_true_eq];lia
 show Q (.bl (false ^^ (Builtin.bitAnd (a:Int) (b:Int) == (a:Int)))) H;rw[e];exact q
noncomputable def whr(bs:List Bool)(n:Nat):List Nat:=(List.range n).filter (gB bs)
theorem Iw(bs:List Bool)(n:Nat):whr bs (n+1)=whr bs n++(if gB bs n=true then [n] else []):=by
 unfold whr;rw[ZBJ,ZBq];cases h:gB bs n <;> simp[h]
theorem Em(bs:List Bool)(n:Nat):(whr bs n).length<=n:=by
 have:=ZB1 (gB bs) (List.range n)
 rw[Zt]at this;exact this
theorem Jh(bs:List Bool)(n:Nat):(whr bs n).Pairwise (· < ·):=List.Pairwise.filter _ ZBo
theorem En{bs:List Bool}{t:Nat}(h:t∈whr bs n):t < n:=Ze.mp (Z0.mp h).1
theorem Lq{bs:List Bool}{t:Nat}:t∈whr bs n ↔ t < n/\gB bs t=true:=by unfold whr;rw[Z0,Ze]
noncomputable def Hv(K:W.Frag):Sp:=fun vs H Q _=>match vs with
 | [.bl b,.ref p]=>∃rb:List Bool,Yo K H p (rb.map V.bl)/\rb.length<=100/\Hf H Q (iL (whr (rb.map (· == b)) rb.length))
 | [.int z,.ref p]=>∃ls:List Int,Yo K H p (ls.map V.int)/\ls.length<=100/\Hf H Q (iL (whr (ls.map (· == z)) ls.length))
 | _=>False
theorem FN{α:Type}{f:α->Bool}{l:List α}{x:α}(h:l[i]? = some x):gB (l.map f) i=f x:=by
 unfold gB;rw[ZQ,ZR,h];rfl
theorem W4:Xj P w base T.z36 1 (Hv K):=by
 refine T.z36.F.ok Qo (fun vs H Q E h=>by unfold Hv at h;walk_at "e") ?_;walk_at "f";unfold Hv at h;split at h
 ·rename_i b p;obtain⟨rb,hp,hl,q⟩:=h;refine⟨_,(@AH _ _ _ (@AK _ _ _ _ (@An _ _ _ _ _ _ _ (["member","each","wanted"]) 2 [0] _ _ _ _ rfl (Jr (K:=K) rfl T.z_enumerate (AA (vv 1) AB)) (by kernel_rfl) rfl rfl (by kernel_rfl) (fun c=>Es (K:=K) (n:=2) rfl (Bg (AR (i:=0) (show(["member","each","wanted"]:List Str).Nodup by decide +kernel) rfl (by right)) (Bg (AR (i:=1) (show(["member","each","wanted"]:List Str).Nodup by decide +kernel) rfl (by right)) DG))) (EB (CO BV (De BV CA) (AX (by decide)) (CO BV CA (AX (by decide)) Ee))) (fun c=>C3 (AW (kEq (K:=K) hu) (vv 1) (vv 2))) (fun c=>(vv 0)) (by intro _;rfl)))),?_⟩;refine⟨⟨_,hp⟩,?_⟩
  refine IB (xs:=rb.map V.bl) (fun i zs H'=>Yb H H'/\zs=iL (whr (rb.map (· == b)) i)) ⟨Yb.refl _,rfl⟩ (fun i zs H' _ ⟨s,_⟩=>s.sqT hp) (fun i zs H' hi ⟨_,e⟩=>by
   rw[ZB]at hi
   have:=Em (rb.map (· == b)) i
   rw[e,Ai];exact Ad (by lia)) ?_ ?_
  ·rintro i x zs H2 pp hx ⟨s2,rfl⟩ hpp;rw[ZR]at hx;cases e0:rb[i]? with
   | none=>rw[e0]at hx;cases hx
   | some r =>
    rw[e0]at hx;cases hx;have eg:gB (rb.map (· == b)) i=(r == b):=FN e0;refine⟨pp,_,rfl,.of AD,rfl,_,_,rfl,_,_,rfl,rfl,?_⟩;rw[Iw,Bv,eg];refine AT (fun e=>?_) (fun e=>?_)
    ·have e':(r == b)=true:=by rw[<- Zo (r == b)];exact e
     rw[if_pos e'];exact⟨s2.trans (Yb.upd hpp),rfl⟩
    ·have e':¬(r == b)=true:=by rw[<- Zo (r == b)];exact e
     rw[if_neg e'];exact⟨s2.trans (Yb.upd hpp),by show _=_++[];rw[Zq]⟩
  ·rintro zs H2 ⟨s2,rfl⟩ l hl;rw[ZB];exact q l _ (s2.free hl) (s2.trans (Yb.upd hl)) AD
 ·rename_i b p;obtain⟨rb,hp,hl,q⟩:=h;refine⟨_,(@AH _ _ _ (@AK _ _ _ _ (@An _ _ _ _ _ _ _ (["member","each","wanted"]) 2 [0] _ _ _ _ rfl (Jr (K:=K) rfl T.z_enumerate (AA (vv 1) AB)) (by kernel_rfl) rfl rfl (by kernel_rfl) (fun c=>Es (K:=K) (n:=2) rfl (Bg (AR (i:=0) (show(["member","each","wanted"]:List Str).Nodup by decide +kernel) rfl (by right)) (Bg (AR (i:=1) (show(["member","each","wanted"]:List Str).Nodup by decide +kernel) rfl (by right)) DG))) (EB (CO BV (De BV CA) (AX (by decide)) (CO BV CA (AX (by decide)) Ee))) (fun c=>C3 (AW (kEq (K:=K) hu) (vv 1) (vv 2))) (fun c=>(vv 0)) (by intro _;rfl)))),?_⟩;refine⟨⟨_,hp⟩,?_⟩
  refine IB (xs:=rb.map V.int) (fun i zs H'=>Yb H H'/\zs=iL (whr (rb.map (· == b)) i)) ⟨Yb.refl _,rfl⟩ (fun i zs H' _ ⟨s,_⟩=>s.sqT hp) (fun i zs H' hi ⟨_,e⟩=>by
   rw[ZB]at hi
   have:=Em (rb.map (· == b)) i
   rw[e,Ai];exact Ad (by lia)) ?_ ?_
  ·rintro i x zs H2 pp hx ⟨s2,rfl⟩ hpp;rw[ZR]at hx;cases e0:rb[i]? with
   | none=>rw[e0]at hx;cases hx
   | some r =>
    rw[e0]at hx;cases hx;have eg:gB (rb.map (· == b)) i=(r == b):=FN e0;refine⟨pp,_,rfl,.of AD,rfl,_,_,rfl,_,_,rfl,rfl,?_⟩;rw[Iw,Bv,eg];refine AT (fun e=>?_) (fun e=>?_)
    ·have e':(r == b)=true:=by rw[<- Zo (r == b)];exact e
     rw[if_pos e'];exact⟨s2.trans (Yb.upd hpp),rfl⟩
    ·have e':¬(r == b)=true:=by rw[<- Zo (r == b)];exact e
     rw[if_neg e'];exact⟨s2.trans (Yb.upd hpp),by show _=_++[];rw[Zq]⟩
  ·rintro zs H2 ⟨s2,rfl⟩ l hl;rw[ZB];exact q l _ (s2.free hl) (s2.trans (Yb.upd hl)) AD
 ·exact h.elim
noncomputable def SqI(K:W.Frag)(H:Hp)(p:Addr)(ts:List Nat):Prop:=Yw K H p (iL ts)\/Yo K H p (iL ts)
noncomputable def D1(K:W.Frag):Sp:=fun vs H Q _=>match vs with
 | [.ref p]=>∃ts:List Nat,SqI K H p ts/\ts.length<=64/\(∀t∈ts,t<=60)/\∀H',Yb H H'->Q (.int (msk ts:Nat)) H'
 | _=>False
theorem US:AQ (D1 K):=fun vs H Q Q' E h q=>by
 unfold D1 at *;walk_at "q"
theorem Up(ts:List Nat):(ts.map fun t=>((2 ^ t:Nat):Int)).sum=(msk ts:Nat):=by
 induction ts with
 | nil=>rfl
 | cons t ts ih=>rw[Zi,List.sum_cons,ih,Gs];lia
theorem HB:Xj P w base T.z40 3 (D1 K):=by
 refine T.z40.F.ok Py (fun vs H Q E h=>by unfold D1 at h;walk_at "e") ?_;walk_at "f";unfold D1 at h;walk_at "g"
 rename_i p;obtain⟨ts,hp,hl,hb,q⟩:=h;refine⟨_,(@AH _ _ _ (@AK _ _ _ _ (Ab (SJ (K:=K) rfl) rfl T.z_sum (by rfl) (AA (@An _ _ _ _ _ _ _ ["member"] 1 [] _ _ _ _ rfl (BE (K:=K) (vv 0)) (by kernel_rfl) rfl rfl (by kernel_rfl) (fun c=>AR (i:=0) (show(["member"]:List Str).Nodup by decide +kernel) rfl (by right)) (AX (by decide)) (fun c=>Ao) (fun c=>(AI (@IL P w K mg base T) (hr.mono (show 2<=_ by decide)) rfl T.z67.m T.z67.F.kp T.z67.b .nil AE (AA (vv 0) AB))) (by intro _;rfl)) AB)))),?_⟩
 have turn:∀(k:Nat) (x:V) (ys:List V) (H':Hp),(iL ts)[k]? = some x->(Yb H H'/\ys=(ts.take k).map fun t=>V.int ((2 ^ t:Nat):Int))->∃t:Nat,x=.int (t:Nat)/\t<=60/\(ts.take (k+1)).map (fun t=>V.int ((2 ^ t:Nat):Int))=ys++[V.int ((2 ^ t:Nat):Int)]:=by
  rintro k x ys H' hx ⟨_,rfl⟩;obtain⟨t,ht,hmem,rfl⟩:=CK hx;refine⟨t,rfl,hb t hmem,?_⟩;rw[Zm,ht,ZJ];rfl
 have fin:∀(ys:List V) (H':Hp),(Yb H H'/\ys=(ts.take (iL ts).length).map fun t=>V.int ((2 ^ t:Nat):Int))->∀l,H' l=none->∃ns:List Int,Yw K (upd H' l (.lst ys)) l (ns.map V.int)/\Q (.int ns.sum) (upd H' l (.lst ys)):=by
  rintro ys H' ⟨s1,rfl⟩ l hl;refine⟨ts.map fun t=>((2 ^ t:Nat):Int),?_,?_⟩
  ·rw[ZBk,Ai,Zu];exact .of AD
  ·rw[Up];exact q _ (s1.trans (Yb.upd hl))
 rcases hp with hp | hp
 ·refine .inl ⟨⟨_,hp⟩,?_⟩
  refine Du (xs:=iL ts) (fun k ys H'=>Yb H H'/\ys=(ts.take k).map fun t=>V.int ((2 ^ t:Nat):Int)) ⟨Yb.refl _,rfl⟩ (fun k ys H' _ ⟨s,_⟩=>s.sqL hp) (fun k ys H' hk ⟨_,e⟩=>by
   rw[Ai]at hk;rw[e,ZB,Za];exact Ad (by lia)) ?_ ?_
  ·intro k x ys H' hx hP;obtain⟨t,rfl,t60,e⟩:=turn k x ys H' hx hP;refine⟨t,rfl,by lia,?_⟩;exact⟨hP.1,e.symm⟩
  ·exact fin
 ·refine .inr ⟨⟨_,hp⟩,?_⟩
  refine B3 (xs:=iL ts) (fun k ys H'=>Yb H H'/\ys=(ts.take k).map fun t=>V.int ((2 ^ t:Nat):Int)) ⟨Yb.refl _,rfl⟩ (fun k ys H' _ ⟨s,_⟩=>s.sqT hp) (fun k ys H' hk ⟨_,e⟩=>by
   rw[Ai]at hk;rw[e,ZB,Za];exact Ad (by lia)) ?_ ?_
  ·intro k x ys H' hx hP;obtain⟨t,rfl,t60,e⟩:=turn k x ys H' hx hP;refine⟨t,rfl,by lia,?_⟩;exact⟨hP.1,e.symm⟩
  ·exact fin
noncomputable def AG(ls:List Int)(k:Nat):Int:=ls.getD k 0
noncomputable def Aa(ys:List Nat):List (Nat->Bool):=ys.map Nat.testBit
noncomputable def Bc(a b c d:V):List (Str × V):=[("labels",a),("yeses",b),("alike",c),("known",d)]
theorem lk1(a b c d:V):(Bc a b c d).lookup ("labels" : Str)=some a:=by rfl
theorem lk2(a b c d:V):(Bc a b c d).lookup ("yeses" : Str)=some b:=by rfl
theorem lk3(a b c d:V):(Bc a b c d).lookup ("alike" : Str)=some c:=by rfl
theorem lk4(a b c d:V):(Bc a b c d).lookup ("known" : Str)=some d:=by rfl
theorem ln1(a b c d:V):(Bc a b c d).lookup ("fewest_among" : Str)=none:=by rfl
theorem ln2(a b c d:V):(Bc a b c d).lookup ("fewest_reckoned" : Str)=none:=by rfl
theorem ln3(a b c d:V):(Bc a b c d).lookup ("has_one_label" : Str)=none:=by rfl
theorem ln4(a b c d:V):(Bc a b c d).lookup ("worst_behind" : Str)=none:=by rfl
theorem ln5(a b c d:V):(Bc a b c d).lookup ("parting" : Str)=none:=by rfl
theorem ln6(a b c d:V):(Bc a b c d).lookup ("harder_left" : Str)=none:=by rfl
theorem ln7(a b c d:V):(Bc a b c d).lookup ("left_of" : Str)=none:=by rfl
theorem pf1(a:V):Ac "labels" a []=([("labels",a)]:List (Str × V)):=by rfl
theorem pf2(a b:V):Ac "yeses" b [("labels",a)]=([("labels",a),("yeses",b)]:List (Str × V)):=by rfl
theorem pf3(a b c:V):Ac "alike" c [("labels",a),("yeses",b)]=([("labels",a),("yeses",b),("alike",c)]:List (Str × V)):=by rfl
theorem pf4(a b c d:V):Ac "known" d [("labels",a),("yeses",b),("alike",c)]=Bc a b c d:=by rfl
structure Memo(ls:List Int)(ys:List Nat)(Yc:List (Key × V)):Prop where
 nd:(Yc.map (·.1)).Nodup
 ok:∀e∈Yc,∃S m:Nat,e=((Sum.inl (S:Int):Key),V.int (m:Int))/\S < 2 ^ ls.length/\As (AG ls) (Aa ys) S.testBit m
theorem Do:∀(N:Nat) (l:List Nat),l.Nodup->(∀x∈l,x < N)->l.length<=N
 | 0,l,_,h=>by
  cases l with
  | nil=>exact ZD _
  | cons x r=>exact absurd (h x (by simp)) (by lia)
 | N+1,l,nd,h=>by
  have:=Do N (l.erase N) (nd.erase N) (fun x hx=>by
   have h2:=(nd.mem_erase_iff).mp hx
   have:=h x h2.2
   have:=h2.1
   lia)
  by_cases z:N∈l
  ·have e:=List.length_erase_of_mem z;lia
  ·have e:=List.erase_of_not_mem z;rw[e]at this;lia
theorem Memo.len(h:Memo ls ys Yc)(h16:ls.length<=16):Yc.length < 2 ^ 24:=by
 have hl:Yc.length<=2 ^ ls.length:=by
  have e:(Yc.map fun e=>match e.1 with | Sum.inl z=>z.toNat | Sum.inr _=>0).length=Yc.length:=ZB ..;rw[<- e];apply Do
  ·refine ZB0.mpr ?_;have nd:=ZB0.mp h.nd;refine List.Pairwise.imp_of_mem ?_ nd;intro a b ha hb ne;obtain⟨S,m,ea,_⟩:=h.ok a ha;obtain⟨S',m',eb,_⟩:=h.ok b hb;subst ea eb;intro q;apply ne
   have:(S:Int).toNat=(S':Int).toNat:=q
   have:S=S':=by lia
   rw[this]
  ·intro x hx;obtain⟨a,ha,rfl⟩:=ZM.mp hx;obtain⟨S,m,ea,hs,_⟩:=h.ok a ha;subst ea
   show(S:Int).toNat < _
   rw[Zc];exact hs
 have:2 ^ ls.length<=2 ^ 16:=Zl (by decide) h16
 lia
theorem EJ{k:Key}(h:valV Yc k=some v):(k,v)∈Yc:=by
 unfold valV at h;cases e:Yc.find? fun kv=>decide (kv.1=k) with
 | none=>rw[e]at h;cases h
 | some x =>
  rw[e]at h;have h1:=List.find?_some e;have h2:=List.mem_of_find?_eq_some e;cases h
  have:x.1=k:=ZP h1
  rw[<- this];exact h2
theorem Memo.get(h:Memo ls ys Yc)(e:valV Yc (Sum.inl (S:Int):Key)=some v):∃m:Nat,v=.int m/\As (AG ls) (Aa ys) S.testBit m:=by
 obtain⟨S',m,ee,_,hf⟩:=h.ok _ (EJ e);have e1:(Sum.inl (S:Int):Key)=Sum.inl (S':Int):=congrArg Prod.fst ee;have e2:v=V.int m:=congrArg Prod.snd ee
 have:(S:Int)=S':=Sum.inl.inj e1
 have:S=S':=by lia
 subst this;exact⟨m,e2,hf⟩
theorem Memo.put(h:Memo ls ys Yc)(hs:S < 2 ^ ls.length)(hf:As (AG ls) (Aa ys) S.testBit m):Memo ls ys (At Yc (Sum.inl (S:Int):Key) (V.int m)):=by
 unfold At;split
 ·refine⟨?_,?_⟩
  ·have e:(Yc.map (fun kv=>if kv.1=(Sum.inl (S:Int):Key) then (kv.1,V.int m) else kv)).map (·.1)=Yc.map (·.1):=by
    rw[ZBk];apply ZB7;intro a _;simp only[Function.comp];split <;> rfl
   rw[e];exact h.nd
  ·intro e he;obtain⟨a,ha,rfl⟩:=ZM.mp he;split
   ·rename_i q;exact⟨S,m,by rw[q],hs,hf⟩
   ·exact h.ok a ha
 ·rename_i z;refine⟨?_,?_⟩
  ·rw[ZJ,List.nodup_append];refine⟨h.nd,by simp,?_⟩;intro a ha b hb q;have hb':b=(Sum.inl (S:Int):Key):=by simpa using hb
   obtain⟨x,hx,rfl⟩:=ZM.mp ha;exact z (ZBR.mpr ⟨x,hx,ZL (q.trans hb')⟩)
  ·intro e he
   rcases Zf.mp he with q | q
   ·exact h.ok e q
   ·rw[ZO]at q;exact⟨S,m,q,hs,hf⟩
noncomputable def NF(ls:List Int)(as:List Nat):Prop:=∀S,S < 2 ^ ls.length->(as.any (fun a=>decide (S &&& a=S))=true ↔ One (AG ls) S.testBit)
structure RkAt(K:W.Frag)(C:Addr)(ls:List Int)(ys:List Nat)(H:Hp)(p d:Addr):Prop where
 at_:∃dx tl yl al as Yc,H p=some (.ins C dx (Bc (.ref tl) (.ref yl) (.ref al) (.ref d)))/\Yo K H tl (ls.map V.int)/\H yl=some (.lst (iL ys))/\H al=some (.lst (iL as))/\H d=some (.dK Yc)/\as.length<=100/\NF ls as/\Memo ls ys Yc
 l16:ls.length<=16
 y16:ys.length<=16
theorem RkAt.same(r:RkAt K C ls ys H p d)(s:Yb H H'):RkAt K C ls ys H' p d:=by
 obtain⟨dx,tl,yl,al,as,Yc,h1,h2,h3,h4,h5,h6,h7,h8⟩:=r.at_;exact⟨⟨dx,tl,yl,al,as,Yc,s _ _ h1,s.sqT h2,s _ _ h3,s _ _ h4,s _ _ h5,h6,h7,h8⟩,r.l16,r.y16⟩
noncomputable def Ct(o:HO):Prop:=(∀xs,o≠.tup xs)/\∀ob u,o≠.frz ob u
theorem Cv(f:Yl d H H')(hd:H d=some o)(no:Ct o)(h:Yo K H a xs):Yo K H' a xs:=by
 by_cases e:a=d
 ·subst e
  rcases h with (h | ⟨ob,h⟩) | h
  ·rw[hd]at h;exact absurd (ZV h) (no.1 _)
  ·rw[hd]at h;exact absurd (ZV h) (no.2 _ _)
  ·exact .inr h
 ·exact Ga h fun o k=>f _ _ e k
theorem Gh:Ct (.dK Yc):=⟨(fun _ z=>nomatch z),(fun _ _ z=>nomatch z)⟩
theorem Dq{dx:Addr}{fs:List (Str × V)}:Ct (.ins C dx fs):=⟨(fun _ z=>nomatch z),(fun _ _ z=>nomatch z)⟩
theorem RkAt.put{kvs':List (Key × V)}(r:RkAt K C ls ys H p d)(f:Yl d H H')(hd:H' d=some (.dK kvs'))(m:Memo ls ys kvs'):RkAt K C ls ys H' p d:=by
 obtain⟨dx,tl,yl,al,as,Yc,h1,h2,h3,h4,h5,h6,h7,h8⟩:=r.at_;exact⟨⟨dx,tl,yl,al,as,kvs',f _ _ (Bm h1 h5 (by intro z;cases z)) h1,Cv f h5 Gh h2,f _ _ (Bm h3 h5 (by intro z;cases z)) h3,f _ _ (Bm h4 h5 (by intro z;cases z)) h4,hd,h6,h7,m⟩,r.l16,r.y16⟩
theorem Bh(s:Yb H H'):Yl t H H':=fun b o _ e=>s b o e
noncomputable def Iv(K:W.Frag)(C:Addr):Sp:=fun vs H Q _=>match vs with
 | [.ref p,.int z]=>∃ls ys d S,RkAt K C ls ys H p d/\z=(S:Nat)/\S < 2 ^ ls.length/\∀b H',(b=true ↔ One (AG ls) S.testBit)->Yb H H'->Q (.bl b) H'
 | _=>False
theorem Lf:Xk P w mg base T.z16 2 (Iv K T.C_Reckoner):=by
 refine T.z16.F.ok VC (fun vs H Q E h=>by unfold Iv at h;walk_at "e") ?_;walk_at "f";unfold Iv at h;walk_at "g"
 rename_i p z;obtain⟨ls,ys,d,S,R,e1,hS,q⟩:=h;subst e1;obtain⟨dx,tl,yl,al,as,Yc,h1,h2,h3,h4,h5,h6,h7,h8⟩:=R.at_;refine⟨_,(@AH _ _ _ (@AK _ _ _ _ (Ab (VR (K:=K) rfl) rfl T.z_any (by rfl) (AA (An (N':=["alike","things"]) (own:=1) (ix:=[1]) rfl (BE (K:=K) (BM T.cl_Reckoner T.na_Reckoner_alike (vv 0))) (by kernel_rfl) rfl rfl (by kernel_rfl) (fun c=>AR (i:=0) (show(["alike","things"]:List Str).Nodup by decide +kernel) rfl (by right)) (AX (by decide)) (fun c=>Ao) (fun c=>(AI (@MW P w K mg base T) (hr.mono (show 1<=_ by decide)) rfl T.z68.m T.z68.F.kp T.z68.b .nil AE (AA (vv 1) (AA (vv 0) AB))))) AB)))),?_⟩;refine⟨dx,_,_,h1,lk3 _ _ _ _,.inl ⟨⟨_,.of h4⟩,?_⟩⟩
 refine Du (xs:=iL as) (fun k zs H'=>Yb H H'/\zs=((as.take k).map fun a=>decide (S &&& a=S)).map V.bl) ⟨Yb.refl _,rfl⟩ (fun k zs H' _ ⟨s,_⟩=>s.sqL (.of h4)) (fun k zs H' hk ⟨_,e⟩=>by
  rw[Ai]at hk;rw[e,ZB,ZB,Za];exact Ad (by lia)) ?_ ?_
 ·rintro k x zs H' hx ⟨s1,rfl⟩;obtain⟨a,ha,_,rfl⟩:=CK hx;refine⟨S,a,rfl,rfl,s1,?_⟩;rw[Zm,ha,ZJ,ZJ];rfl
 ·rintro zs H' ⟨s1,rfl⟩ l hl;rw[Ai,Zu];refine⟨_,.of AD,q _ _ ?_ (s1.trans (Yb.upd hl))⟩;rw[List.any_map];exact h7 S hS
noncomputable def MH(K:W.Frag)(C:Addr):Sp:=fun vs H Q _=>match vs with
 | [.ref p,.int z,.int i,.bl ans]=>∃ls ys d S j y,RkAt K C ls ys H p d/\z=(S:Nat)/\i=(j:Nat)/\ys[j]? = some y/\Q (.int ((if ans=true then S &&& y else S - (S &&& y):Nat):Int)) H
 | _=>False
theorem Sk{y:Nat}(h:ys[j]? = some y):atI (iL ys) ((j:Nat):Int)=some (.int (y:Nat)):=Ah rfl (by unfold iL;rw[ZR,h];rfl)
theorem J7:Xk P w mg base T.z26 1 (MH K T.C_Reckoner):=by
 refine T.z26.F.ok sc_z26 (fun vs H Q E h=>by unfold MH at h;walk_at "e") ?_;walk_at "f"
 match vs,h with
 | [.ref p,.int z,.int i,.bl ans],⟨ls,ys,d,S,j,y,R,e1,e2,hj,q⟩ =>
 subst e1 e2;obtain⟨dx,tl,yl,al,as,Yc,h1,h2,h3,h4,h5,h6,h7,h8⟩:=R.at_;refine⟨_,(@AF _ _ _ _ _ (@AN _ _ 4 _ _ _ _ sc_z26.nd rfl (by right) (AO FS (vv 1) (Yp (K:=K) (BM T.cl_Reckoner T.na_Reckoner_yeses (vv 0)) (vv 2))) (by rfl) (by walk_at "i")) (@AH _ _ _ (@AK _ _ _ _ (DH (BL (vv 3)) (vv 4) (AO Cj (vv 1) (vv 4)))))),?_⟩;refine⟨dx,_,_,h1,lk2 _ _ _ _,_,.int (y:Nat),.inl (.of h3),Sk hj,?_⟩;dsimp only[AZ,Gp];rw[Fo];cases ans with
 | true=>exact q
 | false =>
  have e:((S:Int) - ((S &&& y:Nat):Int))=((S - (S &&& y):Nat):Int):=by
   have:=ZBr (n:=S) (m:=y)
   lia
  show Q (.int ((S:Int) - ((S &&& y:Nat):Int))) H;rw[e];exact q
noncomputable def CL(S y:Nat):Bool:=decide (0 < S &&& y) && decide (S &&& y < S)
noncomputable def BH(S:Nat)(ys:List Nat)(n:Nat):List Nat:=(List.range n).filter fun i=>CL S (ys.getD i 0)
theorem U2(S:Nat)(ys:List Nat)(n:Nat):BH S ys (n+1)=BH S ys n++(if CL S (ys.getD n 0)=true then [n] else []):=by
 unfold BH;rw[ZBJ,ZBq];cases h:CL S (ys.getD n 0) <;> simp only[List.filter_cons,List.filter_nil,h] <;> rfl
theorem Lh(S:Nat)(ys:List Nat)(n:Nat):(BH S ys n).length<=n:=by
 have:=ZB1 (fun i=>CL S (ys.getD i 0)) (List.range n)
 rw[Zt]at this;exact this
theorem Gd(S y:Nat):CL S y=true ↔ Bq S.testBit y.testBit:=by
 unfold CL Bq;rw[ZK,decide_eq_true_eq,decide_eq_true_eq]
 have h1:0 < S &&& y ↔ ∃k,S.testBit k=true/\y.testBit k=true:=by
  constructor
  ·intro h;obtain⟨k,hk⟩:=Nat.exists_testBit_of_ne_zero (Nat.pos_iff_ne_zero.mp h);rw[Z4,ZK]at hk;exact⟨k,hk⟩
  ·rintro⟨k,a,b⟩
   rcases ZBy (S &&& y) with z | z
   ·have:(S &&& y).testBit k=true:=by rw[Z4,a,b];rfl
    rw[z]at this;simp at this
   ·exact z
 have h2:S &&& y < S ↔ ∃k,S.testBit k=true/\y.testBit k=false:=by
  have hle:=ZBr (n:=S) (m:=y);constructor
  ·intro h;obtain⟨k,hk⟩:=Nat.exists_testBit_of_ne_zero (show S - (S &&& y)≠0 by lia);rw[Ew,ZK]at hk;exact⟨k,hk.1,by simpa using hk.2⟩
  ·rintro⟨k,a,b⟩
   rcases Zr (S &&& y) S with z | z
   ·exact z
   ·have e:S &&& y=S:=by lia
    have:(S &&& y).testBit k=true:=by rw[e];exact a
    rw[Z4,b]at this;simp at this
 rw[h1,h2]
noncomputable def KR(K:W.Frag)(C:Addr):Sp:=fun vs H Q _=>match vs with
 | [.ref p,.int z]=>∃ls ys d S,RkAt K C ls ys H p d/\z=(S:Nat)/\Hf H Q (iL (BH S ys ys.length))
 | _=>False
theorem Mw:Xk P w mg base T.z25 1 (KR K T.C_Reckoner):=by
 refine T.z25.F.ok Wk (fun vs H Q E h=>by unfold KR at h;walk_at "e") ?_;walk_at "f";unfold KR at h;walk_at "g"
 rename_i p z;obtain⟨ls,ys,d,S,R,e1,q⟩:=h;subst e1;obtain⟨dx,tl,yl,al,as,Yc,h1,h2,h3,h4,h5,h6,h7,h8⟩:=R.at_;have y16:=R.y16;refine⟨_,(@AH _ _ _ (@AK _ _ _ _ (@An _ _ _ _ _ _ _ (["question","yes","things"]) 2 [1] _ _ _ _ rfl (VO (K:=K) rfl T.z_enumerate (AA (BM T.cl_Reckoner T.na_Reckoner_yeses (vv 0)) AB)) (by kernel_rfl) rfl rfl (by kernel_rfl) (fun c=>Es (K:=K) (n:=2) rfl (Bg (AR (i:=0) (show(["question","yes","things"]:List Str).Nodup by decide +kernel) rfl (by right)) (Bg (AR (i:=1) (show(["question","yes","things"]:List Str).Nodup by decide +kernel) rfl (by right)) DG))) (EB (CO BV (De BV CA) (AX (by decide)) (CO BV CA (AX (by decide)) Ee))) (fun c=>C3 (Uo Ck Ck AC (AO FS (vv 2) (vv 1)) (vv 2))) (fun c=>(vv 0)) (by intro _;rfl)))),?_⟩;refine⟨dx,_,_,h1,lk2 _ _ _ _,⟨_,.of h3⟩,?_⟩
 refine Tp (xs:=iL ys) (fun i zs H'=>Yb H H'/\zs=iL (BH S ys i)) ⟨Yb.refl _,rfl⟩ (fun i zs H' _ ⟨s,_⟩=>s.sqL (.of h3)) (fun i zs H' hi ⟨_,e⟩=>by
  rw[Ai]at hi
  have:=Lh S ys i
  rw[e,Ai];exact Ad (by lia)) ?_ ?_
 ·rintro i x zs H2 pp hx ⟨s2,rfl⟩ hpp;obtain⟨y,hy,_,rfl⟩:=CK hx;refine⟨pp,_,rfl,.of AD,rfl,_,_,rfl,_,_,rfl,rfl,?_⟩;have eg:ys.getD i 0=y:=by rw[ZQ,hy];rfl
  rw[U2,Bv,eg];have s3:=s2.trans (Yb.upd (o:=.tup [.int (i:Nat),.int (y:Nat)]) hpp);have eb:Builtin.bitAnd (S:Int) (y:Int)=((S &&& y:Nat):Int):=Fo ..;refine AT (fun e=>?_) (fun e=>?_)
  ·rw[eb]at e;have e':0 < S &&& y:=by have:=ZP e;lia
   refine AT (fun f=>?_) (fun f=>?_)
   ·rw[eb]at f;have f':S &&& y < S:=by have:=ZP f;lia
    rw[if_pos (show CL S y=true by unfold CL;rw[ZL e',ZL f'];rfl)];exact⟨s3,rfl⟩
   ·rw[eb]at f;have f':¬S &&& y < S:=fun q=>f (ZL (by lia))
    rw[if_neg (show ¬CL S y=true by unfold CL;rw[Zz f',Bool.and_false];simp)];exact⟨s3,by show _=_++[];rw[Zq]⟩
  ·rw[eb]at e;have e':¬0 < S &&& y:=fun q=>e (ZL (by lia))
   rw[if_neg (show ¬CL S y=true by unfold CL;rw[Zz e',ZBL];simp)];exact⟨s3,by show _=_++[];rw[Zq]⟩
 ·rintro zs H2 ⟨s2,rfl⟩ l hl;rw[Ai];exact q l _ (s2.free hl) (s2.trans (Yb.upd hl)) AD
noncomputable def Bb(K:W.Frag)(C:Addr)(c:Nat):Sp:=fun vs H Q _=>match vs with
 | [.ref p,.int z]=>∃ls ys d S,RkAt K C ls ys H p d/\z=(S:Nat)/\S < 2 ^ ls.length/\(∃n,Can (AG ls) (Aa ys) n S.testBit)/\Ax ls.length S.testBit < c/\∀(m:Nat) H',As (AG ls) (Aa ys) S.testBit m->RkAt K C ls ys H' p d->Yl d H H'->Q (.int (m:Nat)) H'
 | _=>False
theorem M3{c:Nat}:AQ (Bb K C c):=fun vs H Q Q' E h q=>by
 unfold Bb at *;walk_at "q"
noncomputable def Jk(K:W.Frag)(C:Addr)(c:Nat):Sp:=fun vs H Q _=>match vs with
 | [.ref p,.int z,.int i]=>∃ls ys d S j y,RkAt K C ls ys H p d/\z=(S:Nat)/\S < 2 ^ ls.length/\(∃n,Can (AG ls) (Aa ys) n S.testBit)/\i=(j:Nat)/\ys[j]? = some y/\Bq S.testBit y.testBit/\Ax ls.length S.testBit < c+1 /\
  ∀(b e X:Nat) H',As (AG ls) (Aa ys) (S &&& y).testBit b->As (AG ls) (Aa ys) (S - (S &&& y)).testBit e->(X=S &&& y/\e < b\/X=S - (S &&& y)/\b<=e)->RkAt K C ls ys H' p d->Yl d H H'->Q (.int (X:Nat)) H'
 | _=>False
noncomputable def Dy(K:W.Frag)(C:Addr)(c:Nat):Sp:=fun vs H Q _=>match vs with
 | [.ref p,.int z,.int i]=>∃ls ys d S j y,RkAt K C ls ys H p d/\z=(S:Nat)/\S < 2 ^ ls.length/\(∃n,Can (AG ls) (Aa ys) n S.testBit)/\i=(j:Nat)/\ys[j]? = some y/\Bq S.testBit y.testBit/\Ax ls.length S.testBit < c+1 /\
  ∀(b e:Nat) H',As (AG ls) (Aa ys) (S &&& y).testBit b->As (AG ls) (Aa ys) (S - (S &&& y)).testBit e->RkAt K C ls ys H' p d->Yl d H H'->Q (.int (max b e:Nat)) H'
 | _=>False
theorem Gv{y c:Nat}(hS:S < 2 ^ ls.length)(hc:Can (AG ls) (Aa ys) n S.testBit)(hp:Bq S.testBit y.testBit)(hk:Ax ls.length S.testBit < c+1) :
 (S &&& y < 2 ^ ls.length/\Can (AG ls) (Aa ys) n (S &&& y).testBit/\Ax ls.length (S &&& y).testBit < c)/\S - (S &&& y) < 2 ^ ls.length/\Can (AG ls) (Aa ys) n (S - (S &&& y)).testBit/\Ax ls.length (S - (S &&& y)).testBit < c:=by
 obtain⟨c1,c2⟩:=MS (fun k hk=>Ds hS hk) hp;have hle:=ZBr (n:=S) (m:=y);rw[DT,Cn];exact⟨⟨by lia,B6 (fun k z=>by simp only[ZK]at z;exact z.1) hc,by lia⟩,by lia,B6 (fun k z=>by simp only[ZK]at z;exact z.1) hc,by lia⟩
theorem QQ(c:Nat)(G_z17:Xk P w mg base T.z17 (4 * c+4) (Bb K T.C_Reckoner c)) :
 Xk P w mg base T.z20 (4 * c+5) (Jk K T.C_Reckoner c):=by
 have G_z26:=@J7 P w K mg base T;refine T.z20.F.ok sc_z20 (fun vs H Q E h=>by unfold Jk at h;walk_at "e") ?_;walk_at "f";have hr_z26:=hr.mono (show 1<=4 * c+4 by lia);have hr_z17:=hr;unfold Jk at h;walk_at "g"
 rename_i p z i;obtain⟨ls,ys,d,S,j,y,R,e1,hS,⟨n,hc⟩,e2,hj,hp,hk,q⟩:=h;subst e1 e2;obtain⟨⟨a1,a2,a3⟩,b1,b2,b3⟩:=Gv hS hc hp hk;obtain⟨dx,tl,yl,al,as,Yc,h1,_⟩:=id R.at_;refine⟨_,(@AF _ _ _ _ _ (@AN _ _ 3 _ _ _ _ sc_z20.nd rfl (by right) (A3 (vv 0) T.cl_Reckoner T.z26.m G_z26 hr_z26 T.z26.b .nil AE (AA (vv 1) (AA (vv 2) (AA Am AB)))) (by rfl) (by walk_at "i")) (@AF _ _ _ _ _ (@AN _ _ 4 _ _ _ _ sc_z20.nd rfl (by right) (A3 (vv 0) T.cl_Reckoner T.z26.m G_z26 hr_z26 T.z26.b .nil AE (AA (vv 1) (AA (vv 2) (AA Am AB)))) (by rfl) (by walk_at "i")) (@AH _ _ _ (@AK _ _ _ _ (DH (AW Bp (A3 (vv 0) T.cl_Reckoner T.z17.m G_z17 hr_z17 T.z17.b .nil AE (AA (vv 4) AB)) (A3 (vv 0) T.cl_Reckoner T.z17.m G_z17 hr_z17 T.z17.b .nil AE (AA (vv 3) AB))) (vv 4) (vv 3)))))),?_⟩;refine⟨p,dx,_,rfl,h1,ln7 _ _ _ _,ls,ys,d,S,j,y,R,rfl,rfl,hj,?_⟩;dsimp only[AZ];refine⟨p,dx,_,rfl,h1,ln7 _ _ _ _,ls,ys,d,S,j,y,R,rfl,rfl,hj,?_⟩;dsimp only[AZ];refine⟨p,dx,_,rfl,h1,ln1 _ _ _ _,ls,ys,d,S &&& y,R,rfl,a1,⟨n,a2⟩,a3,fun b H1 f1 R1 fr1=>?_⟩;obtain⟨dx1,tl1,yl1,al1,as1,kvs1,k1,_⟩:=id R1.at_;refine⟨p,dx1,_,rfl,k1,ln1 _ _ _ _,ls,ys,d,S - (S &&& y),R1,rfl,b1,⟨n,b2⟩,b3,fun e H2 f2 R2 fr2=>?_⟩;refine AT (fun x=>?_) (fun x=>?_)
 ·have x':e < b:=by have:=ZP x;lia
  exact q b e _ H2 f1 f2 (.inl ⟨rfl,x'⟩) R2 (fr1.trans fr2)
 ·have x':¬e < b:=fun w=>x (ZL (by lia))
  exact q b e _ H2 f1 f2 (.inr ⟨rfl,by lia⟩) R2 (fr1.trans fr2)
theorem N5(c:Nat)(G_z17:Xk P w mg base T.z17 (4 * c+4) (Bb K T.C_Reckoner c)) :
 Xk P w mg base T.z18 (4 * c+6) (Dy K T.C_Reckoner c):=by
 have G_z20:=QQ T c G_z17;refine T.z18.F.ok QU (fun vs H Q E h=>by unfold Dy at h;walk_at "e") ?_;walk_at "f";have hr_z17:=hr.mono (show 4 * c+4<=4 * c+5 by lia);have hr_z20:=hr;unfold Dy at h;walk_at "g"
 rename_i p z i;obtain⟨ls,ys,d,S,j,y,R,e1,hS,⟨n,hc⟩,e2,hj,hp,hk,q⟩:=h;subst e1 e2;obtain⟨⟨a1,a2,a3⟩,b1,b2,b3⟩:=Gv hS hc hp hk;obtain⟨dx,tl,yl,al,as,Yc,h1,_⟩:=id R.at_;refine⟨_,(@AH _ _ _ (@AK _ _ _ _ (A3 (vv 0) T.cl_Reckoner T.z17.m G_z17 hr_z17 T.z17.b .nil AE (AA (A3 (vv 0) T.cl_Reckoner T.z20.m G_z20 hr_z20 T.z20.b .nil AE (AA (vv 1) (AA (vv 2) AB))) AB)))),?_⟩;refine⟨p,dx,_,rfl,h1,ln1 _ _ _ _,p,dx,_,rfl,h1,ln6 _ _ _ _,ls,ys,d,S,j,y,R,rfl,hS,⟨n,hc⟩,rfl,hj,hp,hk,fun b e X H1 f1 f2 hX R1 fr1=>?_⟩
 have X1:X < 2 ^ ls.length/\(∃n,Can (AG ls) (Aa ys) n X.testBit)/\Ax ls.length X.testBit < c/\∀m,As (AG ls) (Aa ys) X.testBit m->m=max b e:=by
  rcases hX with ⟨rfl,x⟩ | ⟨rfl,x⟩
  ·exact⟨a1,⟨n,a2⟩,a3,fun m hm=>by rw[Fe hm f1];lia⟩
  ·exact⟨b1,⟨n,b2⟩,b3,fun m hm=>by rw[Fe hm f2];lia⟩
 obtain⟨x1,x2,x3,x4⟩:=X1;refine⟨ls,ys,d,X,R1,rfl,x1,x2,x3,fun m H2 hm R2 fr2=>?_⟩;rw[x4 m hm];exact q b e H2 f1 f2 R2 (fr1.trans fr2)
noncomputable def Fb(ls:List Int)(ys:List Nat)(S:Nat)(qs ms:List Nat):Prop:=ms.length=qs.length/\∀(t i:Nat),qs[t]? = some i->∃b e,As (AG ls) (Aa ys) (S &&& ys.getD i 0).testBit b/\As (AG ls) (Aa ys) (S - (S &&& ys.getD i 0)).testBit e/\ms[t]? = some (max b e)
theorem SY{qs ms:List Nat}{b e:Nat}(h:Fb ls ys S qs ms)(f1:As (AG ls) (Aa ys) (S &&& ys.getD i 0).testBit b)(f2:As (AG ls) (Aa ys) (S - (S &&& ys.getD i 0)).testBit e):Fb ls ys S (qs++[i]) (ms++[max b e]):=by
 refine⟨by rw[ZN,ZN,h.1];rfl,fun t i' ht=>?_⟩
 rcases ZBC t qs.length with z | z | z
 ·rw[ZBF z]at ht;obtain⟨b',e',g1,g2,g3⟩:=h.2 t i' ht;exact⟨b',e',g1,g2,by rw[ZBF (by rw[h.1];exact z)];exact g3⟩
 ·subst z;rw[Z6 (ZD _),ZBb]at ht;cases ht;exact⟨b,e,f1,f2,by rw[<- h.1,Z6 (ZD _),ZBb];rfl⟩
 ·rw[Z6 (Zv z)]at ht;rw[ZBs (by simp;lia)]at ht;cases ht
theorem EK(h:i∈BH S ys ys.length):ys[i]? = some (ys.getD i 0)/\Bq S.testBit (ys.getD i 0).testBit:=by
 obtain⟨h1,h2⟩:=Z0.mp h;have h1:=Ze.mp h1;refine⟨?_,(Gd _ _).mp h2⟩;rw[ZQ,ZE h1];rfl
theorem WW{ms:List Nat}{M:Nat}(ho:¬One (AG ls) S.testBit)(h:Fb ls ys S (BH S ys ys.length) ms)(h1:M∈ms)(h2:∀a∈ms,M<=a):As (AG ls) (Aa ys) S.testBit (1+M):=by
 refine NK ho ?_ ?_
 ·obtain⟨t,ht,et⟩:=Zs h1;have ht':t < (BH S ys ys.length).length:=by rw[<- h.1];exact ht
  obtain⟨b,e,g1,g2,g3⟩:=h.2 t _ (ZE ht');obtain⟨y1,y2⟩:=EK (Zd ht');rw[DT]at g1;rw[Cn]at g2;refine⟨_,ZM.mpr ⟨_,Zw y1,rfl⟩,y2,b,e,g1,g2,?_⟩;rw[ZE ht,et]at g3;exact ZV g3
 ·intro f hf hp;obtain⟨y,hy,rfl⟩:=ZM.mp hf;obtain⟨i,hi,ei⟩:=Zs hy;have eg:ys.getD i 0=y:=by rw[ZQ,ZE hi,ei];rfl
  have him:i∈BH S ys ys.length:=Z0.mpr ⟨Ze.mpr hi,(Gd _ _).mpr (by rw[eg];exact hp)⟩;obtain⟨t,ht,et⟩:=Zs him;obtain⟨b,e,g1,g2,g3⟩:=h.2 t i (by rw[ZE ht,et]);rw[DT,eg]at g1;rw[Cn,eg]at g2;exact⟨b,e,g1,g2,h2 _ (Zw g3)⟩
theorem OZ(ho:¬One (AG ls) S.testBit)(hc:Can (AG ls) (Aa ys) n S.testBit):0 < (BH S ys ys.length).length:=by
 obtain⟨f,hf,hp⟩:=Hj ho hc;obtain⟨y,hy,rfl⟩:=ZM.mp hf;obtain⟨i,hi,ei⟩:=Zs hy;have eg:ys.getD i 0=y:=by rw[ZQ,ZE hi,ei];rfl
 exact List.length_pos_of_mem (Z0.mpr ⟨Ze.mpr hi,(Gd _ _).mpr (by rw[eg];exact hp)⟩)
theorem Sz(c:Nat)(G_z17:Xk P w mg base T.z17 (4 * c+4) (Bb K T.C_Reckoner c)) :
 Xk P w mg base T.z13 (4 * c+7) (Bb K T.C_Reckoner (c+1)):=by
 have G_z18:=N5 T c G_z17;refine T.z13.F.ok QM (fun vs H Q E h=>by unfold Bb at h;walk_at "e") ?_;walk_at "f";have hr_z18:=hr;have hr_z16:=hr.mono (show 2<=4 * c+6 by lia);have hr_z25:=hr.mono (show 1<=4 * c+6 by lia);unfold Bb at h;walk_at "g"
 rename_i p z;obtain⟨ls,ys,d,S,R,e1,hS,⟨n,hc⟩,hk,q⟩:=h;subst e1;obtain⟨dx,tl,yl,al,as,Yc,h1,_,_,_,hd,_⟩:=id R.at_;have l16:=R.l16;have y16:=R.y16;refine⟨_,(@AF _ _ _ _ _ (@Ar _ _ _ _ _ _ _ _ (BL (A3 (vv 0) T.cl_Reckoner T.z16.m (@Lf P w K mg base T) hr_z16 T.z16.b .nil AE (AA (vv 1) AB))) (@AH _ _ _ (@AK _ _ _ _ AC)) Aq) (@AH _ _ _ (@AK _ _ _ _ (AO (BB (K:=K)) AC (Ab (Ry (K:=K) rfl) rfl T.z_min (by rfl) (AA (An (N':=["question","self","things"]) (own:=1) (ix:=[0,1]) rfl (BE (K:=K) (A3 (vv 0) T.cl_Reckoner T.z25.m (@Mw P w K mg base T) hr_z25 T.z25.b .nil AE (AA (vv 1) AB))) (by kernel_rfl) rfl rfl (by kernel_rfl) (fun c=>AR (i:=0) (show(["question","self","things"]:List Str).Nodup by decide +kernel) rfl (by right)) (AX (by decide)) (fun c=>Ao) (fun c=>(A3 (vv 1) T.cl_Reckoner T.z18.m G_z18 hr_z18 T.z18.b .nil AE (AA (vv 2) (AA (vv 0) AB))))) AB)))))),?_⟩;refine⟨p,dx,_,rfl,h1,ln3 _ _ _ _,ls,ys,d,S,R,rfl,hS,fun b H1 hb s1=>?_⟩;have R1:=R.same s1;have hd1:=s1 _ _ hd;cases b with
 | true=>exact q 0 H1 ⟨hb.mp rfl,fun _ _=>ZU _⟩ R1 (Bh s1)
 | false =>
  have ho:¬One (AG ls) S.testBit:=fun o=>nomatch hb.mpr o
  refine⟨p,dx,_,rfl,s1 _ _ h1,ln5 _ _ _ _,ls,ys,d,S,R1,rfl,fun l H2 hl s2 g2=>.inl ⟨⟨_,.of g2⟩,?_⟩⟩;have R2:=R1.same s2;have hd2:=s2 _ _ hd1;have hld:l≠d:=Bm g2 hd2 (by intro z;cases z);have Ym:=Lh S ys ys.length
  refine Du (xs:=iL (BH S ys ys.length)) (fun k zs H'=>RkAt K T.C_Reckoner ls ys H' p d/\Yl d H2 H'/\∃ms,zs=iL ms/\Fb ls ys S ((BH S ys ys.length).take k) ms) ⟨R2,Yl.refl,[],rfl,rfl,fun t i ht=>by simp at ht⟩ (fun k zs H' _ ⟨_,f,_⟩=>.of (f _ _ hld g2)) (fun k zs H' hk' ⟨_,_,ms,e,hw⟩=>by
   rw[Ai]at hk';rw[e,Ai,hw.1,Za];exact Ad (by lia)) ?_ ?_
  ·rintro k x zs H' hx ⟨R',f',ms,rfl,hw⟩;obtain⟨i,hi,him,rfl⟩:=CK hx;obtain⟨y1,y2⟩:=EK him;obtain⟨dx',tl',yl',al',as',kvs',k1,_⟩:=id R'.at_;refine⟨p,dx',_,rfl,k1,ln4 _ _ _ _,ls,ys,d,S,i,_,R',rfl,hS,⟨n,hc⟩,rfl,y1,y2,hk,fun b e H3 g1 g2' R3 f3=>?_⟩;refine⟨R3,f'.trans f3,ms++[max b e],by rw[Bv];rfl,?_⟩;rw[Zm,hi];exact SY hw g1 g2'
  ·rintro zs H' ⟨R',f',ms,rfl,hw⟩ l2 hl2;rw[Ai,Zu]at hw;refine⟨ms.map fun m=>((m:Nat):Int),by rw[ZBk];exact .of AD,by rw[ZB,hw.1];exact OZ ho hc,fun M hM hle=>?_⟩;obtain⟨M',hM',rfl⟩:=ZM.mp hM;have fm:=WW ho hw hM' (fun a ha=>by have:=hle _ (ZM.mpr ⟨a,ha,rfl⟩);lia);have sl:Yb H' (upd H' l2 (.lst (iL ms))):=Yb.upd hl2;have e:(1:Int)+((M':Nat):Int)=((1+M':Nat):Int):=by lia
   show Q (.int (1+((M':Nat):Int))) _;rw[e];exact q (1+M') _ fm (R'.same sl) ((Bh s1).trans ((Bh s2).trans (f'.trans (Bh sl))))
theorem Qb(c:Nat)(G_z17:Xk P w mg base T.z17 (4 * c+4) (Bb K T.C_Reckoner c)) :
 FnOk P w K mg base CX0 (4 * (c+1)+4) T.z17.f T.z17.d ["self","things"] (Bb K T.C_Reckoner (c+1)):=by
 have G_z13:=Sz T c G_z17;refine T.z17.F.ok XC (fun vs H Q E h=>by unfold Bb at h;walk_at "e") ?_;walk_at "f";have hr_z13:=hr.mono (show 4 * c+7<=4 * (c+1)+3 by lia);unfold Bb at h;walk_at "g"
 rename_i p z;obtain⟨ls,ys,d,S,R,e1,hS,hc,hk,q⟩:=h;subst e1;obtain⟨dx,tl,yl,al,as,Yc,h1,h2,h3,h4,hd,h6,h7,h8⟩:=id R.at_;have mono1:AQ (Bb K T.C_Reckoner (c+1)):=M3;refine⟨_,(@AF _ _ _ _ _ (@Ar _ _ _ _ _ _ _ _ (AW (Ka hu) (vv 1) (BM T.cl_Reckoner T.na_Reckoner_known (vv 0))) (@AH _ _ _ (@Fu _ _ _ _ _ _ _ _ _ (C7 hu) (BM T.cl_Reckoner T.na_Reckoner_known (vv 0)) (vv 1) (A3 (vv 0) T.cl_Reckoner T.z13.m G_z13 hr_z13 T.z13.b .nil AE (AA (vv 1) AB)) (by rfl))) Aq) (@AH _ _ _ (@AK _ _ _ _ (Lu (C7 hu) (BM T.cl_Reckoner T.na_Reckoner_known (vv 0)) (vv 1) (by intro _ _;rfl))))),?_⟩;refine AY (fun Z H1=>Z=[some (.ref p),some (.int (S:Nat))]/\RkAt K T.C_Reckoner ls ys H1 p d/\Yl d H H1/\∃(kvs':List (Key × V)) (m:Nat),H1 d=some (.dK kvs')/\valV kvs' (Sum.inl (S:Int):Key)=some (.int m)/\As (AG ls) (Aa ys) S.testBit m) ?_ ?_ (by walk_at "sm")
 ·refine⟨dx,_,_,h1,lk4 _ _ _ _,valV Yc (Sum.inl (S:Int):Key),DGet.k (k:=Sum.inl (S:Int)) hd,?_⟩;cases e:valV Yc (Sum.inl (S:Int):Key) with
  | some v =>
   obtain⟨m,rfl,hm⟩:=h8.get e;exact⟨rfl,R,Yl.refl,Yc,m,hd,e,hm⟩
  | none =>
   refine⟨p,dx,_,rfl,h1,ln2 _ _ _ _,ls,ys,d,S,R,rfl,hS,hc,hk,fun m H1 hm R1 f1=>?_⟩;obtain⟨dx1,tl1,yl1,al1,as1,kvs1,k1,_,_,_,k5,_,_,k8⟩:=id R1.at_;refine⟨dx1,_,_,k1,lk4 _ _ _ _,d,_,rfl,DPut.k (k:=Sum.inl (S:Int)) k5 (k8.len R.l16),?_⟩;have fu:Yl d H1 (upd H1 d (.dK (At kvs1 (Sum.inl (S:Int):Key) (V.int m)))):=Yl.updT;exact⟨rfl,R1.put fu AD (k8.put hS hm),f1.trans fu,_,m,AD,by rw[Nt,if_pos rfl],hm⟩
 ·rintro Z H1 ⟨rfl,R1,f1,kvs',m,hd1,hv,hm⟩;obtain⟨dx1,tl1,yl1,al1,as1,kvs1,k1,_⟩:=id R1.at_;refine⟨dx1,_,_,k1,lk4 _ _ _ _,d,.int m,rfl,?_,q m H1 hm R1 f1⟩;rw[<- hv];exact DGet.k (k:=Sum.inl (S:Int)) hd1
theorem HP:∀c:Nat,Xk P w mg base T.z17 (4 * c+4) (Bb K T.C_Reckoner c)
 | 0=>by
  have no:∀vs H Q E,¬Bb K T.C_Reckoner 0 vs H Q E:=fun vs H Q E h=>by
   unfold Bb at h;split at h
   ·obtain⟨ls,ys,d,S,_,_,_,_,z,_⟩:=h;exact absurd z (ZBW _)
   ·exact h
  exact⟨fun vs H Q E h=>(no _ _ _ _ h).elim,fun A outer s H args us vs Q E _ _ _ _ h=>(no _ _ _ _ h).elim⟩
 | c+1=>Qb T c (HP c)
theorem Fg:Xk P w mg base T.z17 72 (Bb K T.C_Reckoner 17):=HP T 17
noncomputable def CS(a b c:V):List (Str × V):=[("yeses",a),("numbers",b),("found",c)]
theorem lb1(a b c:V):(CS a b c).lookup ("yeses" : Str)=some a:=by rfl
theorem lb2(a b c:V):(CS a b c).lookup ("numbers" : Str)=some b:=by rfl
theorem lb3(a b c:V):(CS a b c).lookup ("found" : Str)=some c:=by rfl
theorem nb1(a b c:V):(CS a b c).lookup ("bears" : Str)=none:=by rfl
theorem nb2(a b c:V):(CS a b c).lookup ("has_within" : Str)=none:=by rfl
theorem nb3(a b c:V):(CS a b c).lookup ("greatest_within" : Str)=none:=by rfl
theorem nb4(a b c:V):(CS a b c).lookup ("bears_all" : Str)=none:=by rfl
theorem pb1(a:V):Ac "yeses" a []=([("yeses",a)]:List (Str × V)):=by rfl
theorem pb2(a b:V):Ac "numbers" b [("yeses",a)]=([("yeses",a),("numbers",b)]:List (Str × V)):=by rfl
theorem pb3(a b c:V):Ac "found" c [("yeses",a),("numbers",b)]=CS a b c:=by rfl
noncomputable abbrev kN(S:Nat):Key:=Sum.inl (S:Int)
structure NumsOk(n:Nat)(Yc:List (Key × V)):Prop where
 nd:(Yc.map (·.1)).Nodup
 ok:∀e∈Yc,∃(S:Nat) (k:Int),e=(kN S,V.int k)/\S < 2 ^ n/\1<=k
noncomputable def BG(Yc:List (Key × V))(U:Nat)(m:Int):Prop:=∃(S:Nat) (k:Int),(kN S,V.int k)∈Yc/\S &&& U=S/\m<=k
noncomputable def Ed(Yc:List (Key × V))(U:Nat)(g:Int):Prop:=∀m:Int,1<=m->(m<=g ↔ BG Yc U m)
structure FMemo(n:Nat)(Yc fvs:List (Key × V)):Prop where
 nd:(fvs.map (·.1)).Nodup
 ok:∀e∈fvs,∃(U:Nat) (g:Int),e=(kN U,V.int g)/\U < 2 ^ n/\Ed Yc U g
theorem FMemo.get{fvs:List (Key × V)}(h:FMemo n Yc fvs)(e:valV fvs (kN U)=some v):∃g:Int,v=.int g/\Ed Yc U g:=by
 obtain⟨T',g,ee,_,hf⟩:=h.ok _ (EJ e);have e1:kN U=kN T':=congrArg Prod.fst ee;have e2:v=V.int g:=congrArg Prod.snd ee
 have:U=T':=by injection e1 with z;lia
 subst this;exact⟨g,e2,hf⟩
theorem Mx{k:Key}(nd:(Yc.map (·.1)).Nodup):((At Yc k v).map (·.1)).Nodup:=by
 unfold At;split
 ·have e:(Yc.map (fun kv=>if kv.1=k then (kv.1,v) else kv)).map (·.1)=Yc.map (·.1):=by
   rw[ZBk];apply ZB7;intro a _;simp only[Function.comp];split <;> rfl
  rw[e];exact nd
 ·rename_i z;rw[ZJ,List.nodup_append];refine⟨nd,by simp,?_⟩;intro a ha b hb q;have hb':b=k:=by simpa using hb
  obtain⟨x,hx,rfl⟩:=ZM.mp ha;exact z (ZBR.mpr ⟨x,hx,ZL (q.trans hb')⟩)
theorem put_mem{k:Key}{e:Key × V}(h:e∈At Yc k v):e=(k,v)\/(e∈Yc/\e.1≠k):=by
 unfold At at h;split at h
 ·obtain⟨a,ha,rfl⟩:=ZM.mp h;split
  ·rename_i q;exact .inl (by rw[q])
  ·rename_i q;exact .inr ⟨ha,q⟩
 ·rename_i z
  rcases Zf.mp h with q | q
  ·exact .inr ⟨q,fun y=>z (ZBR.mpr ⟨e,q,ZL y⟩)⟩
  ·rw[ZO]at q;exact .inl q
theorem Ki{k:Key}:(k,v)∈At Yc k v:=by
 unfold At;split
 ·rename_i z;obtain⟨x,hx,e⟩:=ZBR.mp z;have e:=ZP e;exact ZM.mpr ⟨x,hx,by rw[if_pos e,e]⟩
 ·exact ZZ _ (by simp)
theorem VQ{k:Key}{e:Key × V}(h:e∈Yc)(n:e.1≠k):e∈At Yc k v:=by
 unfold At;split
 ·exact ZM.mpr ⟨e,h,by rw[if_neg n]⟩
 ·exact Z5 _ h
theorem O1{k:Key}(nd:(Yc.map (·.1)).Nodup)(h:(k,v)∈Yc):valV Yc k=some v:=by
 induction Yc with
 | nil=>cases h
 | cons x r ih =>
  rw[Zi,ZBg]at nd
  rcases ZG.mp h with e | e
  ·subst e;exact CB rfl
  ·rw[B9 fun z=>nd.1 (by rw[z];exact ZM.mpr ⟨_,e,rfl⟩)];exact ih nd.2 e
theorem FMemo.put{fvs:List (Key × V)}(h:FMemo n Yc fvs){g:Int}(hT:U < 2 ^ n)(hg:Ed Yc U g):FMemo n Yc (At fvs (kN U) (V.int g)) :=
 ⟨Mx h.nd,fun e he=>by
  rcases put_mem he with rfl | ⟨q,_⟩
  ·exact⟨U,g,rfl,hT,hg⟩
  ·exact h.ok e q⟩
theorem JR{fvs:List (Key × V)}(nd:(fvs.map (·.1)).Nodup)(h:∀e∈fvs,∃(U:Nat) (v:V),e=(kN U,v)/\U < 2 ^ n)(n16:n<=16):fvs.length < 2 ^ 24:=by
 have hl:fvs.length<=2 ^ n:=by
  have e:(fvs.map fun e=>match e.1 with | Sum.inl z=>z.toNat | Sum.inr _=>0).length=fvs.length:=ZB ..;rw[<- e];apply Do
  ·refine ZB0.mpr (List.Pairwise.imp_of_mem ?_ (ZB0.mp nd));intro a b ha hb ne q;obtain⟨U,v,rfl,_⟩:=h a ha;obtain⟨U',v',rfl,_⟩:=h b hb;apply ne;have q':(U:Int).toNat=(U':Int).toNat:=q;rw[Zc,Zc]at q';rw[q']
  ·intro x hx;obtain⟨a,ha,rfl⟩:=ZM.mp hx;obtain⟨U,v,rfl,hU⟩:=h a ha
   show(U:Int).toNat < 2 ^ n
   rw[Zc];exact hU
 have:2 ^ n<=2 ^ 16:=Zl (by decide) n16
 lia
structure BrAt(K:W.Frag)(C:Addr)(n:Nat)(ys:List Nat)(Yc:List (Key × V))(H:Hp)(p nd fd:Addr):Prop where
 at_:∃dx yl fvs,H p=some (.ins C dx (CS (.ref yl) (.ref nd) (.ref fd)))/\H yl=some (.lst (iL ys))/\Rd H nd (.dK Yc)/\H fd=some (.dK fvs)/\FMemo n Yc fvs
 nums:NumsOk n Yc
 n16:n<=16
 y16:ys.length<=16
 ne:nd≠fd
 ylt:∀y∈ys,y < 2 ^ n
noncomputable def KpB(nd fd:Addr)(H H':Hp):Prop:=(∀b o,b≠nd->b≠fd->H b=some o->H' b=some o)/\∀o u,H nd=some (.frz o u)->H' nd=some (.frz o u)
theorem KpB.refl{fd:Addr}:KpB nd fd H H:=⟨fun _ _ _ _ e=>e,fun _ _ e=>e⟩
theorem KpB.trans{fd:Addr}{H1 H2:Hp}(a:KpB nd fd H H1)(b:KpB nd fd H1 H2):KpB nd fd H H2:=⟨fun c o x y e=>b.1 c o x y (a.1 c o x y e),fun o u e=>b.2 o u (a.2 o u e)⟩
theorem KpB.same{fd:Addr}(s:Yb H H'):KpB nd fd H H':=⟨fun b o _ _ e=>s b o e,fun o u e=>s _ _ e⟩
theorem BrAt.same{fd:Addr}(r:BrAt K C n ys Yc H p nd fd)(s:Yb H H'):BrAt K C n ys Yc H' p nd fd:=by
 obtain⟨dx,yl,fvs,h1,h2,h3,h4,h5⟩:=r.at_;refine⟨⟨dx,yl,fvs,s _ _ h1,s _ _ h2,?_,s _ _ h4,h5⟩,r.nums,r.n16,r.y16,r.ne,r.ylt⟩
 rcases h3 with h | ⟨o,h⟩
 ·exact .inl (s _ _ h)
 ·exact .inr ⟨o,s _ _ h⟩
theorem Lm{R:Addr->Obj->Hp->Prop}(hn:Rd H nd (.dK Yc))(h:∀o H1,H1 nd=some (.frz o (.dK Yc))->(∀b,b≠nd->H1 b=H b)->(∀o' u,H nd=some (.frz o' u)->H1 nd=some (.frz o' u))->R nd o H1):Et (.ref nd) H R:=by
 rcases hn with e | ⟨o,e⟩
 ·exact .inl ⟨Yc,e,fun o=>h o _ AD (fun b hb=>AJ hb) fun o' u z=>by rw[e]at z;cases z⟩
 ·exact .inr ⟨Yc,o,e,h o H e (fun _ _=>rfl) fun _ _ z=>z⟩
theorem BrAt.held{H1:Hp}{fd:Addr}{o:Obj}(r:BrAt K C n ys Yc H p nd fd)(h1:H1 nd=some (.frz o (.dK Yc)))(h2:∀b,b≠nd->H1 b=H b):BrAt K C n ys Yc H1 p nd fd:=by
 obtain⟨dx,yl,fvs,k1,k2,k3,k4,k5⟩:=r.at_
 have no:∀{b:Addr} {u:HO},H b=some u->(u≠.dK Yc/\∀o,u≠.frz o (.dK Yc))->b≠nd:=fun hb hu z=>by
  subst z
  rcases k3 with z | ⟨o,z⟩
  ·rw[hb]at z;exact hu.1 (ZV z)
  ·rw[hb]at z;exact hu.2 o (ZV z)
 exact⟨⟨dx,yl,fvs,by rw[h2 p (no k1 ⟨(fun z=>nomatch z),(fun _ z=>nomatch z)⟩)];exact k1,by rw[h2 yl (no k2 ⟨(fun z=>nomatch z),(fun _ z=>nomatch z)⟩)];exact k2,.inr ⟨o,h1⟩,by rw[h2 fd (Ne.symm r.ne)];exact k4,k5⟩,r.nums,r.n16,r.y16,r.ne,r.ylt⟩
theorem BrAt.put{fvs':List (Key × V)}{fd:Addr}(r:BrAt K C n ys Yc H p nd fd)(m:FMemo n Yc fvs'):BrAt K C n ys Yc (upd H fd (.dK fvs')) p nd fd:=by
 obtain⟨dx,yl,fvs,k1,k2,k3,k4,k5⟩:=r.at_;refine⟨⟨dx,yl,fvs',?_,?_,?_,AD,m⟩,r.nums,r.n16,r.y16,r.ne,r.ylt⟩
 ·rw[AJ (Bm k1 k4 (by intro z;cases z))];exact k1
 ·rw[AJ (Bm k2 k4 (by intro z;cases z))];exact k2
 ·rcases k3 with z | ⟨o,z⟩
  ·exact .inl (by rw[AJ r.ne];exact z)
  ·exact .inr ⟨o,by rw[AJ r.ne];exact z⟩
noncomputable def inF(U:Nat)(e:Key × V):Option Int:=match e with
 | (Sum.inl z,.int k)=>if z.toNat &&& U=z.toNat then some k else none
 | _=>none
theorem IG{k:Int}:inF U (kN S,.int k)=if S &&& U=S then some k else none:=by
 show(if (S:Int).toNat &&& U=(S:Int).toNat then some k else none)=_
 rw[Zc]
theorem Ot(h:NumsOk n Yc){m:Int}:BG Yc U m ↔ ∃k∈Yc.filterMap (inF U),m<=k:=by
 constructor
 ·rintro⟨S,k,h1,h2,h3⟩;exact⟨k,ZB2.mpr ⟨_,h1,by rw[IG,if_pos h2]⟩,h3⟩
 ·rintro⟨k,hk,h3⟩;obtain⟨e,he,hf⟩:=ZB2.mp hk;obtain⟨S,k',rfl,_,_⟩:=h.ok e he;rw[IG]at hf
  by_cases z:S &&& U=S
  ·rw[if_pos z]at hf;cases hf;exact⟨S,_,he,z,h3⟩
  ·rw[if_neg z]at hf;cases hf
theorem TV(h:NumsOk n Yc){M:Int}(h0:Yc.filterMap (inF U)=[]->M=0)(h1:Yc.filterMap (inF U)≠[]->M∈Yc.filterMap (inF U)/\∀a∈Yc.filterMap (inF U),a<=M):Ed Yc U M:=fun m hm=>by
 rw[Ot h]
 by_cases e:Yc.filterMap (inF U)=[]
 ·rw[e,h0 e];constructor
  ·intro;lia
  ·rintro⟨k,hk,_⟩;cases hk
 ·obtain⟨a1,a2⟩:=h1 e;exact⟨fun z=>⟨M,a1,z⟩,fun⟨k,hk,z⟩=>Int.le_trans z (a2 k hk)⟩
noncomputable def ES(K:W.Frag)(C:Addr):Sp:=fun vs H Q _=>match vs with
 | [.ref p,.int z]=>∃n ys Yc nd fd U,BrAt K C n ys Yc H p nd fd/\z=(U:Nat)/\U < 2 ^ n/\∀(g:Int) H',Ed Yc U g->KpB nd fd H H'->BrAt K C n ys Yc H' p nd fd->Q (.int g) H'
 | _=>False
theorem QL:AQ (ES K C):=fun vs H Q Q' E h q=>by
 unfold ES at *;walk_at "q"
theorem Pb:Xk P w mg base T.z14 2 (ES K T.C_Bearing):=by
 refine T.z14.F.ok sc_z14 (fun vs H Q E h=>by unfold ES at h;walk_at "e") ?_;walk_at "f";have mo1:AQ EW:=XT;unfold ES at h;walk_at "g"
 rename_i p z;obtain⟨n,ys,Yc,nd,fd,U,R,e1,hT,q⟩:=h;subst e1;obtain⟨dx,yl,fvs,h1,h2,h3,h4,h5⟩:=id R.at_;refine⟨_,(@AF _ _ _ _ _ (@Ar _ _ _ _ _ _ _ _ (AW (Ka hu) (vv 1) (BM T.cl_Bearing T.na_Bearing_found (vv 0))) (@AF _ _ _ _ _ (@C0 _ _ _ _ _ _ _ (["each","number","things"]) 2 [1] _ _ _ _ 2 _ _ _ rfl sc_z14.nd rfl rfl (J1 (BM T.cl_Bearing T.na_Bearing_numbers (vv 0))) (by kernel_rfl) rfl rfl (by kernel_rfl) (fun c=>Es (K:=K) (n:=2) rfl (Bg (AR (i:=0) (show(["each","number","things"]:List Str).Nodup by decide +kernel) rfl (by right)) (Bg (AR (i:=1) (show(["each","number","things"]:List Str).Nodup by decide +kernel) rfl (by right)) DG))) (EB (CO BV (De BV CA) (AX (by decide)) (CO BV CA (AX (by decide)) Ee))) (fun c=>C3 (BL (AI (@MW P w K mg base T) (hr.mono (show 1<=_ by decide)) rfl T.z68.m T.z68.F.kp T.z68.b .nil AE (AA (vv 0) (AA (vv 2) AB))))) (fun c=>(vv 1)) (by rfl) (by intro _;rfl)) (@AH _ _ _ (@Fu _ _ _ _ _ _ _ _ _ (C7 hu) (BM T.cl_Bearing T.na_Bearing_found (vv 0)) (vv 1) (Lv (K:=K) (vv 2) T.z_max rfl) (by rfl)))) Aq) (@AH _ _ _ (@AK _ _ _ _ (Lu (C7 hu) (BM T.cl_Bearing T.na_Bearing_found (vv 0)) (vv 1) (by intro _ _;rfl))))),?_⟩;refine AY (fun Z H'=>∃(z2:Option V) (fvs':List (Key × V)) (g:Int),Z=[some (.ref p),some (.int (U:Nat)),z2]/\BrAt K T.C_Bearing n ys Yc H' p nd fd/\KpB nd fd H H'/\H' fd=some (.dK fvs')/\valV fvs' (kN U)=some (.int g)/\Ed Yc U g) ?_ ?_ (by walk_at "sm")
 ·refine⟨dx,_,_,h1,lb3 _ _ _,valV fvs (kN U),DGet.k (k:=kN U) h4,?_⟩;cases e:valV fvs (kN U) with
  | some v =>
   obtain⟨g,rfl,hg⟩:=h5.get e;exact⟨none,fvs,g,rfl,R,KpB.refl,h4,e,hg⟩
  | none =>
   refine⟨dx,_,_,h1,lb2 _ _ _,Lm h3 fun o H1 a1 a2 a3=>?_⟩;have R1:=R.held a1 a2;have kp1:KpB nd fd H H1:=⟨fun b u hb _ e=>by rw[a2 b hb];exact e,a3⟩;refine MN (Yc:=Yc) (fun j zs H'=>Yb H1 H'/\zs=((Yc.take j).filterMap (inF U)).map V.int) ⟨Yb.refl _,rfl⟩ (fun j zs H' _ ⟨s1,_⟩=>s1 _ _ a1) (fun j zs H' hj ⟨_,e⟩=>?_) ?_ ?_
   ·have l1:=JR R.nums.nd (fun e he=>by obtain⟨S,k,h1,h2,_⟩:=R.nums.ok e he;exact⟨S,_,h1,h2⟩) R.n16;rw[e,ZB];refine Nat.lt_of_le_of_lt (List.length_filterMap_le _ _) ?_;rw[Za];have e:sizeLine=16777216:=by decide
    lia
   ·rintro j r pp zs H2 hr2 ⟨s2,rfl⟩ npp;obtain⟨S,k,rfl,hS,hk⟩:=R.nums.ok r (Zw hr2);refine⟨pp,_,rfl,.of AD,rfl,_,_,rfl,_,_,rfl,rfl,?_⟩;refine⟨S,U,rfl,rfl,?_⟩;have s3:=s2.trans (Yb.upd (o:=.tup [kV (kN S),V.int k]) npp)
    have et:(Yc.take (j+1)).filterMap (inF U)=(Yc.take j).filterMap (inF U)++(if S &&& U=S then [k] else []):=by
     rw[Zm,hr2,List.filterMap_append]
     congr 1
     show List.filterMap (inF U) [(kN S,.int k)]=_;rw[ZBd,IG]
     by_cases z:S &&& U=S
     ·rw[if_pos z,if_pos z];rfl
     ·rw[if_neg z,if_neg z];rfl
    rw[et]
    by_cases z:S &&& U=S
    ·rw[if_pos z];show if decide (S &&& U=S)=true then _ else _
     rw[if_pos (ZL z)];exact⟨s3,by rw[ZJ];rfl⟩
    ·rw[if_neg z];show if decide (S &&& U=S)=true then _ else _
     rw[if_neg (fun y=>z (ZP y))];exact⟨s3,by rw[Zq]⟩
   ·rintro zs H2 ⟨s2,rfl⟩ l nl;rw[Zu];have s3:=s2.trans (Yb.upd (o:=.lst ((Yc.filterMap (inF U)).map V.int)) nl);have g3:=AD (H:=H2) (a:=l) (o:=.lst ((Yc.filterMap (inF U)).map V.int));generalize upd H2 l (.lst ((Yc.filterMap (inF U)).map V.int))=H3 at *;have R3:=R1.same s3;obtain⟨dx3,yl3,fvs3,b1,b2,b3,b4,b5⟩:=id R3.at_;refine⟨l,_,rfl,.of g3,fun M m0 m1=>?_⟩;have hg:=TV R.nums m0 m1;have Ym:=JR b5.nd (fun e he=>by obtain⟨S,k,h1,h2,_⟩:=b5.ok e he;exact⟨S,_,h1,h2⟩) R.n16;refine⟨dx3,_,_,b1,lb3 _ _ _,fd,_,rfl,DPut.k (k:=kN U) b4 Ym,?_⟩;refine⟨_,_,M,rfl,R3.put (b5.put hT hg),kp1.trans ((KpB.same s3).trans ⟨fun b o x y e=>by rw[AJ y];exact e,fun o u e=>by rw[AJ R.ne];exact e⟩),AD,(Nt fvs3 (kN U) (kN U) _).trans (if_pos rfl),hg⟩
 ·rintro Z H1 ⟨z2,fvs',g,rfl,R1,k1,f1,v1,g1⟩;obtain⟨dx1,yl1,fvs1,b1,_⟩:=id R1.at_;refine⟨dx1,_,_,b1,lb3 _ _ _,fd,.int g,rfl,?_,q g H1 g1 k1 R1⟩;rw[<- v1];exact DGet.k (k:=kN U) f1
noncomputable def FL(K:W.Frag)(C:Addr):Sp:=fun vs H Q _=>match vs with
 | [.ref p,.int z,.int m]=>∃n ys Yc nd fd U,BrAt K C n ys Yc H p nd fd/\z=(U:Nat)/\U < 2 ^ n/\1<=m/\∀(b:Bool) H',(b=true ↔ BG Yc U m)->KpB nd fd H H'->BrAt K C n ys Yc H' p nd fd->Q (.bl b) H'
 | _=>False
theorem QV:AQ (FL K C):=fun vs H Q Q' E h q=>by
 unfold FL at *;walk_at "q"
theorem Nf(h:Rd H a (.dK Yc)):IsD H a:=.inl ⟨Yc,h⟩
theorem N7{k:Key}(h:Rd H a (.dK Yc)):DGet H a (kV k) (valV Yc k):=.inl ⟨Yc,k,h,rfl,rfl⟩
theorem Vm:Xk P w mg base T.z22 3 (FL K T.C_Bearing):=by
 refine T.z22.F.ok Rq (fun vs H Q E h=>by unfold FL at h;walk_at "e") ?_;walk_at "f";have mo1:AQ (ES K T.C_Bearing):=QL
 match vs,h with
 | [.ref p,.int z,.int m],⟨n,ys,Yc,nd,fd,U,R,e1,hT,hm,q⟩ =>
 subst e1;obtain⟨dx,yl,fvs,h1,h2,h3,h4,h5⟩:=id R.at_;refine⟨_,(@AH _ _ _ (@AK _ _ _ _ (IC (A7 F0 (K0 (C7 hu) (BM T.cl_Bearing T.na_Bearing_numbers (vv 0)) (vv 1) AC ⟨by rfl,by rfl,by rfl,by rfl⟩) (vv 2)) (CY (A7 F0 (A3 (vv 0) T.cl_Bearing T.z14.m (@Pb P w K mg base T) (hr.mono (show 2<=_ by decide)) T.z14.b .nil AE (AA (vv 1) AB)) (vv 2)))))),?_⟩;refine⟨dx,_,_,h1,lb2 _ _ _,nd,rfl,Nf h3,valV Yc (kN U),N7 (k:=kN U) h3,?_⟩;cases e:valV Yc (kN U) with
 | none =>
  have e0:¬decide (m<=(0:Int))=true:=fun z=>by have:=ZP z;lia
  show if decide (m<=(0:Int))=true then _ else _
  rw[if_neg e0];refine⟨p,dx,_,rfl,h1,nb3 _ _ _,n,ys,Yc,nd,fd,U,R,rfl,hT,fun g H1 hg kp R1=>q _ H1 ?_ kp R1⟩;rw[decide_eq_true_iff];exact hg m hm
 | some v =>
  obtain⟨S,k,ee,_,hk⟩:=R.nums.ok _ (EJ e);have e2:v=V.int k:=congrArg Prod.snd ee;subst e2;refine AT (fun z=>?_) (fun z=>?_)
  ·exact q true H ⟨fun _=>⟨U,k,EJ e,Nat.and_self U,ZP z⟩,fun _=>rfl⟩ KpB.refl R
  ·refine⟨p,dx,_,rfl,h1,nb3 _ _ _,n,ys,Yc,nd,fd,U,R,rfl,hT,fun g H1 hg kp R1=>q _ H1 ?_ kp R1⟩;rw[decide_eq_true_iff];exact hg m hm
noncomputable def EG(K:W.Frag)(C:Addr):Sp:=fun vs H Q _=>match vs with
 | [.ref p,.int z,.int m,.int v]=>∃n ys Yc nd fd U y,BrAt K C n ys Yc H p nd fd/\z=(U:Nat)/\U < 2 ^ n/\2<=m/\v=(y:Nat)/\∀(b:Bool) H',(b=true ↔ BG Yc (U &&& y) (m - 1)\/BG Yc (U - (U &&& y)) (m - 1))->KpB nd fd H H'->BrAt K C n ys Yc H' p nd fd->Q (.bl b) H'
 | _=>False
theorem Tt:AQ (EG K C):=fun vs H Q Q' E h q=>by
 unfold EG at *;walk_at "q"
theorem Ui:Xk P w mg base T.z32 4 (EG K T.C_Bearing):=by
 have G_z22:=@Vm P w K mg base T;refine T.z32.F.ok sc_z32 (fun vs H Q E h=>by unfold EG at h;walk_at "e") ?_;walk_at "f";have hr_z22:=hr.mono (show 3<=_ by decide);have mo1:AQ (FL K T.C_Bearing):=QV;unfold EG at h;walk_at "g"
 rename_i p z m v;obtain⟨n,ys,Yc,nd,fd,U,y,R,e1,hT,hm,e2,q⟩:=h;subst e1 e2;refine⟨_,(@AF _ _ _ _ _ (@AN _ _ 4 _ _ _ _ sc_z32.nd rfl (by right) (AO FS (vv 1) (vv 3)) (by rfl) (by walk_at "i")) (@AH _ _ _ (@AK _ _ _ _ (IC (A3 (vv 0) T.cl_Bearing T.z22.m G_z22 hr_z22 T.z22.b .nil AE (AA (vv 4) (AA (AO Cj (vv 2) AC) AB))) (CY (A3 (vv 0) T.cl_Bearing T.z22.m G_z22 hr_z22 T.z22.b .nil AE (AA (AO Cj (vv 1) (vv 4)) (AA (AO Cj (vv 2) AC) AB)))))))),?_⟩;obtain⟨dx,yl,fvs,h1,h2,h3,h4,h5⟩:=id R.at_;have hle:=ZBr (n:=U) (m:=y);refine AY (fun Z H'=>Z=[some (.ref p),some (.int (U:Nat)),some (.int m),some (.int (y:Nat)),some (.int ((U &&& y:Nat):Int))]/\H=H') ?_ ?_ (by walk_at "sm")
 ·refine⟨?_,rfl⟩;show [some (V.ref p),some (V.int (U:Nat)),some (V.int m),some (V.int (y:Nat)),some (V.int (Builtin.bitAnd (U:Int) (y:Int)))]=_;rw[Fo]
 rintro Z _ ⟨rfl,rfl⟩;refine⟨p,dx,_,rfl,h1,nb2 _ _ _,n,ys,Yc,nd,fd,U &&& y,R,rfl,by lia,by lia,fun b1 H1 hb1 kp1 R1=>?_⟩;refine AT (fun z=>?_) (fun z=>?_)
 ·exact q true H1 ⟨fun _=>.inl (hb1.mp z),fun _=>rfl⟩ kp1 R1
 ·obtain⟨dx1,yl1,fvs1,k1,_⟩:=id R1.at_;refine⟨p,dx1,_,rfl,k1,nb2 _ _ _,n,ys,Yc,nd,fd,U - (U &&& y),R1,by show(U:Int) - ((U &&& y:Nat):Int)=_;lia,by lia,by lia,fun b2 H2 hb2 kp2 R2=>q b2 H2 ?_ (kp1.trans kp2) R2⟩;rw[hb2];exact⟨.inr,fun h=>h.resolve_left fun x=>z (hb1.mpr x)⟩
noncomputable def Dx(K:W.Frag)(C:Addr):Sp:=fun vs H Q _=>match vs with
 | [.ref p]=>∃n ys Yc nd fd,BrAt K C n ys Yc H p nd fd/\∀(b:Bool) H',(b=true ↔ ∀(U:Nat) (m:Int),(kN U,V.int m)∈Yc->1 < m->∀y∈ys,BG Yc (U &&& y) (m - 1)\/BG Yc (U - (U &&& y)) (m - 1))->KpB nd fd H H'->Q (.bl b) H'
 | _=>False
theorem Pf:AQ (Dx K C):=fun vs H Q Q' E h q=>by
 unfold Dx at *;walk_at "q"
theorem VI:Xk P w mg base T.z23 5 (Dx K T.C_Bearing):=by
 refine T.z23.F.ok sc_z23 (fun vs H Q E h=>by unfold Dx at h;walk_at "e") ?_;walk_at "f";have mo1:AQ (EG K T.C_Bearing):=Tt;unfold Dx at h;walk_at "g"
 rename_i p;obtain⟨n,ys,Yc,nd,fd,R,q⟩:=h;obtain⟨dx,yl,fvs,h1,h2,h3,h4,h5⟩:=id R.at_;refine⟨_,(@AF _ _ _ _ _ (@Bu _ _ _ _ _ _ _ _ PassesOwn.never rfl (J1 (BM T.cl_Bearing T.na_Bearing_numbers (vv 0))) (Ml (K:=K) (n:=2) rfl (Bg (AR (i:=1) sc_z23.nd rfl (by right)) (Bg (AR (i:=2) sc_z23.nd rfl (by right)) DG))) (@AH _ _ _ (@Ar _ _ _ _ _ _ _ _ (PW.pt (C1 (AW Bp (vv 2) AC) (C5 (CP (BL (Ab (JG (K:=K) rfl) rfl T.z_all (by rfl) (AA (An (N':=["yes","self","things","number"]) (own:=1) (ix:=[0,1,2]) rfl (BE (K:=K) (BM T.cl_Bearing T.na_Bearing_yeses (vv 0))) (by kernel_rfl) rfl rfl (by kernel_rfl) (fun c=>AR (i:=0) (show(["yes","self","things","number"]:List Str).Nodup by decide +kernel) rfl (by right)) (AX (by decide)) (fun c=>Ao) (fun c=>(A3 (vv 1) T.cl_Bearing T.z32.m (@Ui P w K mg base T) (hr.mono (show 4<=_ by decide)) T.z32.b .nil AE (AA (vv 2) (AA (vv 3) (AA (vv 0) AB)))))) AB))))))) (@AH _ _ _ (@AK _ _ _ _ Am)) Aq)) (by intro _;rfl)) (@AH _ _ _ (@AK _ _ _ _ Am))),?_⟩;refine AY (fun Z H'=>KpB nd fd H H'/\∀(U:Nat) (m:Int),(kN U,V.int m)∈Yc->1 < m->∀y∈ys,BG Yc (U &&& y) (m - 1)\/BG Yc (U - (U &&& y)) (m - 1)) ?_ (fun Z H' ⟨kp,hall⟩=>q true H' ⟨fun _=>hall,fun _=>rfl⟩ kp) (by walk_at "sm");refine⟨dx,_,_,h1,lb2 _ _ _,Lm h3 fun o H1 a1 a2 a3=>?_⟩;have R1:=R.held a1 a2;have kp1:KpB nd fd H H1:=⟨fun b u hb _ e=>by rw[a2 b hb];exact e,a3⟩;refine Vf (Yc:=Yc) (fun j Z H'=>(∃z1 z2:Option V,Z=[some (.ref p),z1,z2])/\KpB nd fd H H'/\H' nd=some (.frz o (.dK Yc))/\BrAt K T.C_Bearing n ys Yc H' p nd fd/\∀(U:Nat) (m:Int),(kN U,V.int m)∈Yc.take j->1 < m->∀y∈ys,BG Yc (U &&& y) (m - 1)\/BG Yc (U - (U &&& y)) (m - 1)) ⟨⟨_,_,rfl⟩,kp1,a1,R1,fun U m hm=>by rw[List.take_zero]at hm;cases hm⟩ (fun j Z H' _ ⟨_,_,e,_⟩=>e) ?_ (fun Z H' ⟨_,kp,_,_,hall⟩=>⟨kp,by rw[Zu]at hall;exact hall⟩);rintro j r pp Z H2 hr2 ⟨⟨z1,z2,rfl⟩,kp2,f2,R2,hall⟩ npp;obtain⟨U,m,rfl,hU,hm1⟩:=R.nums.ok r (Zw hr2);have s3:=Yb.upd (o:=.tup [kV (kN U),V.int m]) npp;have hmem:(kN U,V.int m)∈Yc:=Zw hr2;have R3:=R2.same s3;have kp3:=kp2.trans (KpB.same s3);have f3:=s3 _ _ f2;refine⟨_,.inr (.of AD),rfl,_,_,rfl,_,_,rfl,rfl,?_⟩
 have hstep:∀H4,(1 < m->∀y∈ys,BG Yc (U &&& y) (m - 1)\/BG Yc (U - (U &&& y)) (m - 1))->KpB nd fd H H4->H4 nd=some (.frz o (.dK Yc))->BrAt K T.C_Bearing n ys Yc H4 p nd fd->(∃z1 z2:Option V,[some (V.ref p),some (V.int (U:Nat)),some (V.int m)]=[some (V.ref p),z1,z2])/\KpB nd fd H H4/\H4 nd=some (.frz o (.dK Yc))/\BrAt K T.C_Bearing n ys Yc H4 p nd fd/\∀(U:Nat) (m:Int),(kN U,V.int m)∈Yc.take (j+1)->1 < m->∀y∈ys,BG Yc (U &&& y) (m - 1)\/BG Yc (U - (U &&& y)) (m - 1):=by
  intro H4 hh kp4 f4 R4;refine⟨⟨_,_,rfl⟩,kp4,f4,R4,fun U' m' hm'=>?_⟩;rw[Zm,hr2]at hm'
  rcases Zf.mp hm' with x | x
  ·exact hall U' m' x
  ·have x':(kN U',V.int m')=(kN U,V.int m):=by simpa using x
   have e1:kN U'=kN U:=congrArg Prod.fst x';have e2:V.int m'=V.int m:=congrArg Prod.snd x';cases e2;have e3:U'=U:=by injection e1 with z;lia
   subst e3;exact hh
 generalize upd H2 pp (.tup [kV (kN U),V.int m])=H3 at *;refine AT (fun z=>?_) (fun z=>?_)
 ·have hm2:1 < m:=ZP z;obtain⟨dx3,yl3,fvs3,b1,b2,b3,b4,b5⟩:=id R3.at_;refine⟨dx3,_,_,b1,lb1 _ _ _,.inl ⟨⟨_,.of b2⟩,?_⟩⟩;have y16:=R.y16
  refine Du (xs:=iL ys) (fun i zs H'=>∃bs:List Bool,zs=bs.map V.bl/\bs.length=i/\KpB nd fd H3 H'/\H' yl3=some (.lst (iL ys))/\H' nd=some (.frz o (.dK Yc))/\BrAt K T.C_Bearing n ys Yc H' p nd fd/\∀(t:Nat) (y:Nat),t < i->ys[t]? = some y->(bs[t]? = some true ↔ BG Yc (U &&& y) (m - 1)\/BG Yc (U - (U &&& y)) (m - 1))) ⟨[],rfl,rfl,KpB.refl,b2,f3,R3,fun t y h=>absurd h (ZBW _)⟩ (fun i zs H' _ ⟨_,_,_,_,e,_⟩=>.of e) (fun i zs H' hi ⟨bs,e,e2,_⟩=>by
   rw[Ai]at hi;rw[e,ZB,e2];exact Ad (by lia)) ?_ ?_
  ·rintro i x zs H4 hx ⟨bs,rfl,hbl,kp4,y4,f4,R4,hh⟩;obtain⟨y,hy,_,rfl⟩:=CK hx;obtain⟨dx4,yl4,fvs4,c1,_⟩:=id R4.at_;refine⟨p,dx4,_,rfl,c1,nb1 _ _ _,n,ys,Yc,nd,fd,U,y,R4,rfl,hU,by lia,rfl,fun b H5 hb kp5 R5=>?_⟩;refine⟨bs++[b],by rw[ZJ];rfl,by rw[ZN,hbl];rfl,kp4.trans kp5,kp5.1 _ _ (fun z=>by rw[z,f4]at y4;cases y4) (fun z=>?_) y4,kp5.2 _ _ f4,R5,fun t y' ht hy'=>?_⟩
   ·obtain⟨_,_,fvs5,_,_,_,d4,_⟩:=R4.at_;rw[z,d4]at y4;cases y4
   ·rcases Zr t i with a | a
    ·rw[ZBF (by lia)];exact hh t y' a hy'
    ·have:t=i:=by lia
     subst this;rw[hy]at hy';cases hy';rw[Z6 (by lia),hbl,ZBb];rw[<- hb];simp
  ·rintro zs H4 ⟨bs,rfl,hbl,kp4,y4,f4,R4,hh⟩ l nl;rw[Ai]at hbl hh;refine⟨bs,.of AD,?_⟩;have s5:=Yb.upd (o:=.lst (bs.map V.bl)) nl
   have key:bs.all id=true ↔ ∀y∈ys,BG Yc (U &&& y) (m - 1)\/BG Yc (U - (U &&& y)) (m - 1):=by
    rw[Zy];constructor
    ·intro h y hy;obtain⟨t,ht,rfl⟩:=Zs hy;refine(hh t _ ht (ZE ht)).mp ?_
     have:=h _ (Zd (show t < bs.length by lia))
     rw[ZE (show t < bs.length by lia)];exact congrArg some this
    ·intro h b hb;obtain⟨t,ht,rfl⟩:=Zs hb
     have:=(hh t ys[t] (by lia) (ZE (by lia))).mpr (h _ (Zd (by lia)))
     rw[ZE ht]at this;exact ZV this
   cases hb:bs.all id with
   | true=>exact hstep _ (fun _=>key.mp hb) (kp3.trans (kp4.trans (KpB.same s5))) (s5 _ _ f4) (R4.same s5)
   | false =>
    refine q false _ ⟨(fun z=>nomatch z),fun h=>?_⟩ (kp3.trans (kp4.trans (KpB.same s5)));exact absurd (hb.symm.trans (key.mpr (h U m hmem hm2))) (by decide)
 ·exact hstep _ (fun h=>absurd (ZL h) z) kp3 f3 R3
noncomputable def Ey:Sp:=fun vs H Q _=>match vs with
 | [.ref t,.int n]=>∃m N:Nat,GFeed H t N/\N<=900000000/\n=m/\1<=m/\m<=4/\∀(bs:List Bool) p H',bs.length=2 ^ m->H p=none->H' p=some (.tup (bs.map V.bl))->GFeed H' t (N+18)->Yl t H H'->Q (.ref p) H'
 | _=>False
theorem VE:AQ Ey:=fun vs H Q Q' E h q=>by
 unfold Ey at *;walk_at "q"
theorem Ap(h:∀b,b≠t->H' b=H b):Yl t H H':=fun b o n e=>by rw[h b n];exact e
theorem OR:Xj P w base T.z41 2 Ey:=by
 have G_z50:=@Dp P w K mg base T;refine T.z41.F.ok sc_z41 (fun vs H Q E h=>by unfold Ey at h;walk_at "e") ?_;walk_at "f";have hr_z50:=hr.mono (show 1<=_ by decide);unfold Ey at h;walk_at "g"
 rename_i t n;obtain⟨m,N,F,hN,e1,m1,m4,q⟩:=h;subst e1;refine⟨_,(@AF _ _ _ _ _ (@AN _ _ 2 _ _ _ _ sc_z41.nd rfl (by right) (AO Nu AC (vv 1)) (by rfl) (by walk_at "i")) (@AF _ _ _ _ _ (@AN _ _ 3 _ _ _ _ sc_z41.nd rfl (by right) (AI G_z50 hr_z50 rfl T.z50.m T.z50.F.kp T.z50.b .nil AE (AA (vv 0) (AA AC AB))) (by rfl) (by walk_at "i")) (@AF _ _ _ _ _ (@Ar _ _ _ _ _ _ _ _ (AW Ck (vv 3) AC) (@AH _ _ _ (@AK _ _ _ _ (Av (BD (K:=K)) rfl T.z_tuple (by rfl) (AA (An (N':=["_law_k","_law_feed_here"]) (own:=1) (ix:=[0]) rfl (BA rfl T.z_range (AA (vv 2) AB)) (by kernel_rfl) rfl rfl (by kernel_rfl) (fun c=>AR (i:=0) (show(["_law_k","_law_feed_here"]:List Str).Nodup by decide +kernel) rfl (by right)) (AX (by decide)) (fun c=>Ao) (fun c=>(A7 (kEq (K:=K) hu) (AI G_z50 hr_z50 rfl T.z50.m T.z50.F.kp T.z50.b .nil AE (AA (vv 1) (AA AC AB))) AC))) AB)))) Aq) (@AF _ _ _ _ _ (@Ar _ _ _ _ _ _ _ _ (AW (kEq (K:=K) hu) (vv 3) AC) (@AF _ _ _ _ _ (@AN _ _ 4 _ _ _ _ sc_z41.nd rfl (by right) (AI G_z50 hr_z50 rfl T.z50.m T.z50.F.kp T.z50.b .nil AE (AA (vv 0) (AA (vv 2) AB))) (by rfl) (by walk_at "i")) (@AH _ _ _ (@AK _ _ _ _ (Av (BD (K:=K)) rfl T.z_tuple (by rfl) (AA (An (N':=["_law_k","_law_place"]) (own:=1) (ix:=[4]) rfl (BA rfl T.z_range (AA (vv 2) AB)) (by kernel_rfl) rfl rfl (by kernel_rfl) (fun c=>AR (i:=0) (show(["_law_k","_law_place"]:List Str).Nodup by decide +kernel) rfl (by right)) (AX (by decide)) (fun c=>Ao) (fun c=>(A7 (kEq (K:=K) hu) (vv 0) (vv 1)))) AB))))) Aq) (@AF _ _ _ _ _ (@Ar _ _ _ _ _ _ _ _ (AW (kEq (K:=K) hu) (vv 3) AC) (@AF _ _ _ _ _ (@AN _ _ 5 _ _ _ _ sc_z41.nd rfl (by right) (AI G_z50 hr_z50 rfl T.z50.m T.z50.F.kp T.z50.b .nil AE (AA (vv 0) (AA (vv 1) AB))) (by rfl) (by walk_at "i")) (@AH _ _ _ (@AK _ _ _ _ (Av (BD (K:=K)) rfl T.z_tuple (by rfl) (AA (An (N':=["_law_k","_law_one"]) (own:=1) (ix:=[5]) rfl (BA rfl T.z_range (AA (vv 2) AB)) (by kernel_rfl) rfl rfl (by kernel_rfl) (fun c=>AR (i:=0) (show(["_law_k","_law_one"]:List Str).Nodup by decide +kernel) rfl (by right)) (AX (by decide)) (fun c=>Ao) (fun c=>(A7 (kEq (K:=K) hu) (AO FS (AO TY (vv 0) (vv 1)) AC) AC))) AB))))) Aq) (@AF _ _ _ _ _ (@AN _ _ 6 _ _ _ _ sc_z41.nd rfl (by right) (A7 (kEq (K:=K) hu) (AI G_z50 hr_z50 rfl T.z50.m T.z50.F.kp T.z50.b .nil AE (AA (vv 0) (AA AC AB))) AC) (by rfl) (by walk_at "i")) (@AH _ _ _ (@AK _ _ _ _ (Av (BD (K:=K)) rfl T.z_tuple (by rfl) (AA (An (N':=["_law_k","_law_answer"]) (own:=1) (ix:=[6]) rfl (BA rfl T.z_range (AA (vv 2) AB)) (by kernel_rfl) rfl rfl (by kernel_rfl) (fun c=>AR (i:=0) (show(["_law_k","_law_answer"]:List Str).Nodup by decide +kernel) rfl (by right)) (AX (by decide)) (fun c=>Ao) (fun c=>(vv 1))) AB)))))))))),?_⟩;have e2:(1:Int) * 2 ^ ((m:Int).toNat)=((2 ^ m:Nat):Int):=by rw[Zc,Int.natCast_pow,Int.one_mul];rfl
 have h16:2 ^ m<=16:=Zl (n:=2) (by decide) m4;have h2:2<=2 ^ m:=Zl (n:=2) (i:=1) (by decide) m1;refine⟨⟨by lia,by lia,by decide⟩,?_⟩;rw[e2];generalize hM:2 ^ m=M at *;have hMd:okDiv (M:Int):=Au (by lia) (Int.le_trans (Int.ofNat_le.mpr h16) (by decide))
 have fin:∀(N':Nat) (H1:Hp) (bs:List Bool) (l:Addr),GFeed H1 t N'->N'<=N+18->Yl t H H1->bs.length=M->H1 l=none->∃ys,(Yw K (upd H1 l (.lst (bs.map V.bl))) l ys/\∀p,upd H1 l (.lst (bs.map V.bl)) p=none->Q (.ref p) (upd (upd H1 l (.lst (bs.map V.bl))) p (.tup ys)))\/(Yo K (upd H1 l (.lst (bs.map V.bl))) l ys/\Q (.ref l) (upd H1 l (.lst (bs.map V.bl)))):=by
  intro N' H1 bs l F1 hN' fr hb hl;refine⟨_,.inl ⟨.of AD,fun p hp=>?_⟩⟩;have f2:Yl t H (upd H1 l (.lst (bs.map V.bl))):=fr.trans (Yl.upd hl);have F2:=F1.upd (o:=.lst (bs.map V.bl)) hl;exact q bs p _ hb (F2.free f2 hp) AD ((F2.upd hp).mono (by lia)) (f2.trans (Yl.upd hp))
 refine⟨N,F,by lia,Au (by decide) (by decide),fun way H2 w0 w1 F2 f2=>?_⟩;dsimp only[AZ];refine AT (fun e=>?_) (fun e=>?_)
 ·refine⟨(M:Int),rfl,by lia,by lia,?_⟩
  refine BU (fun i ys H'=>GFeed H' t (N+1+i)/\Yl t H H'/\∃bs:List Bool,ys=bs.map V.bl/\bs.length=i) ⟨F2,Ap f2,[],rfl,rfl⟩ (fun i ys H' hi ⟨_,_,bs,e,el⟩=>by
   rw[e];exact Ad (by rw[ZB];lia)) ?_ ?_
  ·rintro i ys H' hi ⟨Fi,fi,bs,rfl,rfl⟩;refine⟨_,Fi,by lia,Au (by decide) (by decide),fun d H3 _ _ F3 f3=>?_⟩;exact⟨F3.mono (by lia),fi.trans (Ap f3),bs++[(false ^^ (d == 1))],by rw[ZJ];rfl,by rw[ZN];rfl⟩
  ·rintro ys H' ⟨Fi,fi,bs,rfl,hb⟩ l' hl;exact fin _ _ bs l' Fi (by lia) fi (by lia) hl
 dsimp only[Cc];refine AT (fun e=>?_) (fun e=>?_)
 ·refine⟨_,F2,by lia,hMd,fun pl H3 p0 p1 F3 f3=>?_⟩;dsimp only[AZ];refine⟨(M:Int),rfl,by lia,by lia,?_⟩
  refine BU (fun i ys H'=>H'=H3/\∃bs:List Bool,ys=bs.map V.bl/\bs.length=i) ⟨rfl,[],rfl,rfl⟩ (fun i ys H' hi ⟨_,bs,e,el⟩=>by
   rw[e];exact Ad (by rw[ZB];lia)) ?_ ?_
  ·rintro i ys H' hi ⟨rfl,bs,rfl,rfl⟩;exact⟨rfl,bs++[(false ^^ ((0+(bs.length:Int)) == pl))],by rw[ZJ];rfl,by rw[ZN];rfl⟩
  ·rintro ys H' ⟨rfl,bs,rfl,hb⟩ l' hl;exact fin _ _ bs l' F3 (by lia) ((Ap f2).trans (Ap f3)) (by lia) hl
 dsimp only[Cc];refine AT (fun e=>?_) (fun e=>?_)
 ·refine⟨_,F2,by lia,Au (by lia) (by lia),fun on H3 p0 p1 F3 f3=>?_⟩;dsimp only[AZ];refine⟨(M:Int),rfl,by lia,by lia,?_⟩
  refine BU (fun i ys H'=>H'=H3/\∃bs:List Bool,ys=bs.map V.bl/\bs.length=i) ⟨rfl,[],rfl,rfl⟩ (fun i ys H' hi ⟨_,bs,e,el⟩=>by
   rw[e];exact Ad (by rw[ZB];lia)) ?_ ?_
  ·rintro i ys H' hi ⟨rfl,bs,rfl,rfl⟩;refine⟨p0,?_⟩;exact⟨rfl,bs++[_],by rw[ZJ];rfl,by rw[ZN];rfl⟩
  ·rintro ys H' ⟨rfl,bs,rfl,hb⟩ l' hl;exact fin _ _ bs l' F3 (by lia) ((Ap f2).trans (Ap f3)) (by lia) hl
 dsimp only[Cc];refine⟨_,F2,by lia,Au (by decide) (by decide),fun an H3 p0 p1 F3 f3=>?_⟩;dsimp only[AZ,mEq];refine⟨(M:Int),rfl,by lia,by lia,?_⟩
 refine BU (fun i ys H'=>H'=H3/\∃bs:List Bool,ys=bs.map V.bl/\bs.length=i) ⟨rfl,[],rfl,rfl⟩ (fun i ys H' hi ⟨_,bs,e,el⟩=>by
  rw[e];exact Ad (by rw[ZB];lia)) ?_ ?_
 ·rintro i ys H' hi ⟨rfl,bs,rfl,rfl⟩;exact⟨rfl,bs++[_],by rw[ZJ];rfl,by rw[ZN];rfl⟩
 ·rintro ys H' ⟨rfl,bs,rfl,hb⟩ l' hl;exact fin _ _ bs l' F3 (by lia) ((Ap f2).trans (Ap f3)) (by lia) hl
noncomputable def CC(m i:Nat):List Bool:=(List.range (2 ^ m)).map fun p=>p / 2 ^ i % 2 == 1
noncomputable def Iy(bs:List Bool):List Dv:=bs.map fun b=>Dv.int (if b then 1 else 0)
noncomputable def Bz(bs:List Bool):List V:=bs.map fun b=>V.int (if b then 1 else 0)
noncomputable def CQ(m n:Nat):List Dv:=(List.range n).map fun i=>.tup ((CC m i).map Dv.bl)
noncomputable def Hg(bs:List Bool)(m:Nat):Dv:=.tup [.tup (Iy bs),.tup (CQ m m)]
theorem QT(m i:Nat):(CC m i).length=2 ^ m:=by unfold CC;simp
theorem ON(m n:Nat):CQ m (n+1)=CQ m n++[.tup ((CC m n).map Dv.bl)]:=by unfold CQ;rw[ZBJ,ZJ];rfl
theorem Ob(m n:Nat):(CQ m n).length=n:=by unfold CQ;simp
theorem Kp:∀bs:List Bool,Yd K H (Iy bs) (Bz bs)
 | []=>Ag
 | b::bs=>AU KF (Kp bs)
theorem VN(bs:List Bool):(Bz bs).length=bs.length:=by unfold Bz;simp
theorem Vu(bs cs:List Bool):Bz (bs++cs)=Bz bs++Bz cs:=by unfold Bz;simp
theorem L7(m:Nat):∀n,Aj (CQ m n)=true
 | 0=>rfl
 | n+1=>by
  rw[ON,MD,L7 m n];unfold Aj BF;rw[Jw];rfl
noncomputable def Ox(K:W.Frag)(H:Hp)(Q:VK)(d:Dv):Prop:=∀u H',Yb H H'->Yh K H' d u->Q u H'
noncomputable def Hu(K:W.Frag):Sp:=fun vs H Q _=>match vs with
 | [.ref p]=>∃(bs:List Bool) (m:Nat),Yo K H p (bs.map V.bl)/\bs.length=2 ^ m/\1<=m/\m<=4/\Ox K H Q (Hg bs m)
 | _=>False
theorem RM:Xj P w base T.z30 1 (Hu K):=by
 refine T.z30.F.ok sc_z30 (fun vs H Q E h=>by unfold Hu at h;walk_at "e") ?_;walk_at "f";unfold Hu at h;walk_at "g"
 rename_i p;obtain⟨bs,m,hp,hb,m1,m4,q⟩:=h;have h16:2 ^ m<=16:=Zl (n:=2) (by decide) m4;have hbl:(bs.map V.bl).length=2 ^ m:=by rw[ZB];exact hb
 refine⟨_,(@AF _ _ _ _ _ (@AN _ _ 1 _ _ _ _ sc_z30.nd rfl (by right) (@BX _ _ _ _ AB) (by rfl) (by walk_at "i")) (@AF _ _ _ _ _ (@AN _ _ 2 _ _ _ _ sc_z30.nd rfl (by right) AC (by rfl) (by walk_at "i")) (@AF _ _ _ _ _ (@FR _ _ _ _ _ _ PassesOwn.never (AW Ck (vv 2) (Ab (Ay (K:=K)) rfl T.z_len (by rfl) (AA (vv 0) AB))) (@AF _ _ _ _ _ (@Dt _ _ _ _ (JQ (K:=K) (vv 1) (AA (Av (BD (K:=K)) rfl T.z_tuple (by rfl) (AA (An (N':=["_law_k","_law_many"]) (own:=1) (ix:=[2]) rfl (BA rfl T.z_range (AA (Ab (Ay (K:=K)) rfl T.z_len (by rfl) (AA (vv 0) AB)) AB)) (by kernel_rfl) rfl rfl (by kernel_rfl) (fun c=>AR (i:=0) (show(["_law_k","_law_many"]:List Str).Nodup by decide +kernel) rfl (by right)) (AX (by decide)) (fun c=>Ao) (fun c=>(A7 (kEq (K:=K) hu) (AO DW (AO Ez (vv 0) (vv 1)) AC) AC))) AB)) AB)) (by rfl)) (@AH _ _ _ (@AN _ _ 2 _ _ _ _ sc_z30.nd rfl (by right) (AO Co AC (vv 2)) (by rfl) (by walk_at "i"))))) (@AH _ _ _ (@AK _ _ _ _ (BK (AA (Av (BD (K:=K)) rfl T.z_tuple (by rfl) (AA (@An _ _ _ _ _ _ _ ["_law_answer"] 1 [] _ _ _ _ rfl (BE (K:=K) (vv 0)) (by kernel_rfl) rfl rfl (by kernel_rfl) (fun c=>AR (i:=0) (show(["_law_answer"]:List Str).Nodup by decide +kernel) rfl (by right)) (AX (by decide)) (fun c=>Ao) (fun c=>(Av Im rfl T.z_int (by rfl) (AA (vv 0) AB))) (by intro _;rfl)) AB)) (AA (Av (BD (K:=K)) rfl T.z_tuple (by rfl) (AA (vv 1) AB)) AB)))))))),?_⟩;refine⟨smq rfl,fun l hl=>?_⟩;dsimp only[AZ];refine AY (fun Z H'=>Z=[some (.ref p),some (.ref l),some (.int 1)]/\upd H l (.lst [])=H') ⟨rfl,rfl⟩ ?_ (by walk_at "sm");rintro Z _ ⟨rfl,rfl⟩;refine AY (fun Z H'=>∃(z:Option V) (rs:List V),Z=[some (.ref p),some (.ref l),z]/\Yb H H'/\H' l=some (.lst rs)/\Yd K H' (CQ m m) rs) ?_ ?_ (by walk_at "sm")
 ·refine⟨fun μ Z H'=>∃(i:Nat) (rs:List V),μ=m - i/\i<=m/\Z=[some (.ref p),some (.ref l),some (.int (2 ^ i:Nat))]/\Yb H H'/\H' l=some (.lst rs)/\Yd K H' (CQ m i) rs,⟨m,0,[],by lia,by lia,rfl,Yb.upd hl,AD,Ag⟩,?_⟩;rintro μ Z H1 ⟨i,rs,rfl,hi,rfl,S1,g1,R1⟩;have hrl:rs.length=i:=by have:=R1.length;rw[Ob]at this;lia
  have hpi:(0:Nat) < 2 ^ i:=ZBj i;have hle:(2:Nat) ^ i<=2 ^ m:=Zl (by decide) hi;refine⟨2 ^ m,.inr ⟨_,S1.sqT hp,hbl.symm⟩,?_⟩;refine AT (fun e=>?_) (fun e=>?_)
  ·have him:i < m:=by
    have e':((2 ^ i:Nat):Int) < ((2 ^ m:Nat):Int):=ZP e
    rcases Zr i m with z | z
    ·exact z
    ·have:i=m:=by lia
     subst this;lia
   refine⟨.inl ⟨rfl,_,.of g1⟩,?_⟩;refine⟨2 ^ m,.inr ⟨_,S1.sqT hp,hbl.symm⟩,((2 ^ m:Nat):Int),rfl,by lia,by lia,?_⟩
   refine BU (fun k ys H'=>H'=H1/\ys=((List.range k).map (fun q=>q / 2 ^ i % 2 == 1)).map V.bl) ⟨rfl,rfl⟩ (fun k ys H' hk ⟨_,e⟩=>by
    rw[e,ZB,ZB,Zt];exact Ad (by lia)) ?_ ?_
   ·rintro k ys H' hk ⟨rfl,rfl⟩;refine⟨Au (by lia) (Int.le_trans (Int.ofNat_le.mpr (Zj hle h16)) (by decide)),by decide,rfl,?_⟩
    have ee:(false ^^ (((0:Int)+(k:Int)) / ((2 ^ i:Nat):Int) % 2 == 1))=(k / 2 ^ i % 2 == 1):=by
     rw[Zo,Int.zero_add,<- Int.natCast_ediv,Z2];simp only[beq_iff_eq];lia
    rw[Wx,<- ee]
   ·rintro ys H' ⟨rfl,rfl⟩ k hk;rw[Zc];refine⟨_,.inl ⟨.of AD,fun p3 hp3=>?_⟩⟩;have erow:((List.range (2 ^ m)).map (fun q=>q / 2 ^ i % 2 == 1)).map V.bl=(CC m i).map V.bl:=rfl;rw[erow];have s3:=(Yb.upd (o:=.lst ((CC m i).map V.bl)) hk).trans (Yb.upd (o:=.tup ((CC m i).map V.bl)) hp3);have g3p:=AD (H:=upd H' k (.lst ((CC m i).map V.bl))) (a:=p3) (o:=.tup ((CC m i).map V.bl));have nl:p3≠l:=Ne.symm (BZ (Yb.upd (o:=.lst ((CC m i).map V.bl)) hk _ _ g1) hp3);generalize upd (upd H' k (.lst ((CC m i).map V.bl))) p3 (.tup ((CC m i).map V.bl))=H3 at *;refine⟨_,s3 _ _ g1,Ad (by lia),?_⟩;dsimp only[Cc,Jn,AZ];refine⟨.inr (.inl ⟨by decide,by decide⟩),?_⟩;have R3:Yd K H3 (CQ m i) rs:=Yd.same s3 _ _ R1;have fr:Yl l H3 (upd H3 l (.lst (rs++[.ref p3]))):=Yl.updT
    have R4:Yd K (upd H3 l (.lst (rs++[.ref p3]))) (CQ m (i+1)) (rs++[.ref p3]):=by
     rw[ON];refine Yd.append (Yd.frm fr ⟨_,s3 _ _ g1⟩ _ _ (L7 m i) R3) (AU ?_ Ag);exact BO (by rw[AJ nl];exact g3p) (CV _)
    refine⟨m - (i+1),by lia,i+1,_,rfl,him,?_,JE (S1.trans s3) hl,AD,R4⟩
    have:(2:Int) * ((2 ^ i:Nat):Int)=((2 ^ (i+1):Nat):Int):=by rw[Nat.pow_succ];lia
    rw[<- this];rfl
  ·have him:i=m:=by
    rcases Zr i m with z | z
    ·exact absurd (ZL (show((2 ^ i:Nat):Int) < ((2 ^ m:Nat):Int) from Int.ofNat_lt.mpr (Nat.pow_lt_pow_right (by decide) z))) e
    ·lia
   subst him;exact⟨_,rs,rfl,S1,g1,R1⟩
 rintro Z H1 ⟨z,rs,rfl,S1,g1,R1⟩;have hrl:rs.length=m:=by have:=R1.length;rw[Ob]at this;lia
 refine .inr ⟨⟨_,S1.sqT hp⟩,?_⟩
 refine B3 (xs:=bs.map V.bl) (fun i ys H'=>H'=H1/\ys=Bz (bs.take i)) ⟨rfl,rfl⟩ (fun i ys H' _ ⟨e,_⟩=>by rw[e];exact S1.sqT hp) (fun i ys H' hi ⟨_,e⟩=>by
  rw[e,VN,Za];exact Ad (by lia)) ?_ ?_
 ·rintro i x ys H' hx ⟨rfl,rfl⟩
  have hi:i < bs.length:=by
   have:=(Zg.mp hx).1
   rwa [ZB]at this
  rw[ZR,ZE hi]at hx;cases hx;refine⟨rfl,?_⟩;rw[Zm,ZE hi,Vu];rfl
 ·rintro ys H' ⟨rfl,rfl⟩ k hk;rw[ZBQ (by rw[ZB];exact ZD _)];refine⟨_,.inl ⟨.of AD,fun p3 hp3=>?_⟩⟩;have s3:=(Yb.upd (o:=.lst (Bz bs)) hk).trans (Yb.upd (o:=.tup (Bz bs)) hp3);have g3p:=AD (H:=upd H' k (.lst (Bz bs))) (a:=p3) (o:=.tup (Bz bs));generalize upd (upd H' k (.lst (Bz bs))) p3 (.tup (Bz bs))=H3 at *;refine⟨_,.inl ⟨.of (s3 _ _ g1),fun p4 hp4=>?_⟩⟩;refine⟨smq rfl,fun p5 hp5=>?_⟩;have s5:=(Yb.upd (o:=.tup rs) hp4).trans (Yb.upd (o:=.tup [.ref p3,.ref p4]) hp5);refine q _ _ (S1.trans (s3.trans s5)) ?_;refine BO AD (AU (BO (s5 _ _ g3p) (Kp bs)) (AU (BO (Yb.upd hp5 _ _ AD) ?_) Ag));exact Yd.same (s3.trans s5) _ _ R1
noncomputable def Ae(ts:List (List Bool)):List Dv:=ts.map fun b=>.tup (b.map Dv.bl)
noncomputable def gmD(ls:List Int)(rs:List (List Bool)):Dv:=.tup [.tup (ls.map Dv.int),.tup (Ae rs)]
structure Gm(ls:List Int)(rs:List (List Bool)):Prop where
 l1:1<=ls.length
 l16:ls.length<=16
 r1:1<=rs.length
 r16:rs.length<=16
 row:∀r∈rs,r.length=ls.length
 sm:∀x∈ls,x.natAbs<=100000000000000000000
 few:ls.length<=12\/rs.length<=12
theorem Cy:∀ts:List (List Bool),Aj (Ae ts)=true
 | []=>rfl
 | b::ts=>by
  show Aj (Dv.tup (b.map Dv.bl)::Ae ts)=true;unfold Aj BF;rw[Jw,Cy ts];rfl
theorem FF(ts:List (List Bool)):(Ae ts).length=ts.length:=ZB ..
theorem LC:∀(k:Nat) {ds:List Dv} {xs:List V},Yd K H ds xs->Yd K H (ds.take k) (xs.take k)
 | 0,_,_,_=>by simpa using Ag
 | k+1,[],xs,h=>by unfold Yd at h;subst h;simpa using Ag
 | k+1,d::ds,xs,h=>by
  unfold Yd at h;obtain⟨x,r,rfl,h1,h2⟩:=h;simpa using AU h1 (LC k h2)
theorem Mq:∀(k:Nat) {ds:List Dv} {xs:List V},Yd K H ds xs->Yd K H (ds.drop k) (xs.drop k)
 | 0,_,_,h=>by simpa using h
 | k+1,[],xs,h=>by unfold Yd at h;subst h;simpa using Ag
 | k+1,d::ds,xs,h=>by
  unfold Yd at h;obtain⟨x,r,rfl,h1,h2⟩:=h;simpa using Mq k h2
theorem Vq(ts:List (List Bool))(b:List Bool)(k:Nat):Ae (ts.take k++b::ts.drop k)=(Ae ts).take k++.tup (b.map Dv.bl)::(Ae ts).drop k:=by
 unfold Ae;rw[ZJ,Zi,List.map_take,List.map_drop]
theorem FZ:∀bs:List Bool,Bl (bs.map Dv.bl)=0
 | []=>by simp[Bl]
 | b::bs=>by
  show Bl (Dv.bl b::bs.map Dv.bl)=_;unfold Bl;rw[FZ bs];rfl
theorem RD(ts:List (List Bool)):∀e∈Ae ts,Az e<=50:=by
 intro e he;obtain⟨b,_,rfl⟩:=ZM.mp he;unfold Az;rw[FZ];lia
theorem Rr(xs:List V)(a:Nat)(h:a<=xs.length):BS xs none (some (a:Int))=xs.take a:=by
 unfold BS;rw[HT.sIx_nat,HT.sIx_none,List.drop_zero,Nat.sub_zero,Nat.min_eq_left h]
theorem U5(xs:List V)(a:Nat)(h:a<=xs.length):BS xs (some (a:Int)) none=xs.drop a:=by
 unfold BS;rw[HT.sIx_nat,HT.sIx_none,Nat.min_eq_left h,ZBQ (by rw[ZBG];lia)]
theorem NT{ts:List (List Bool)}(h:Yd K H (Ae ts) xs):∀ns:List Int,ns.length≠0->xs≠ns.map V.int:=by
 intro ns hn e;cases ts with
 | nil =>
  have:xs=[]:=by simpa [Ae,Yd] using h
  subst this;cases ns with
  | nil=>exact hn rfl
  | cons _ _=>cases e
 | cons b ts =>
  have h':Yd K H (Dv.tup (b.map Dv.bl)::Ae ts) xs:=h;unfold Yd at h';obtain⟨x,r,rfl,h1,_⟩:=h';unfold Yh at h1;obtain⟨a,zs,rfl,_⟩:=h1;cases ns with
  | nil=>exact hn rfl
  | cons _ _=>cases e
theorem FX{H0:Hp}(f:Yl t H0 H)(hp:H0 p=none):Yl t H0 (upd H p o):=fun b u n e=>by
 rw[AJ (BZ e hp)];exact f b u n e
noncomputable def HS(K:W.Frag):Sp:=fun vs H Q _=>match vs with
 | [.ref t,.int n,.int y]=>∃m M N:Nat,GFeed H t N/\N<=850000000/\n=m/\1<=m/\m<=3/\y=M/\2<=M/\M<=6/\∀(ts:List (List Bool)) xs p H',2<=ts.length->ts.length<=M->(∀b∈ts,b.length=2 ^ m)->H p=none->H' p=some (.lst xs)->Yd K H' (Ae ts) xs->GFeed H' t (N+400)->Yl t H H'->Q (.ref p) H'
 | _=>False
theorem Vn:Xj P w base T.z43 3 (HS K):=by
 have G_z50:=@Dp P w K mg base T;have G_z41:=@OR P w K mg base T;refine T.z43.F.ok sc_z43 (fun vs H Q E h=>by unfold HS at h;walk_at "e") ?_;walk_at "f";have hr_z50:=hr.mono (show 1<=_ by decide);have hr_z41:=hr.mono (show 2<=_ by decide);unfold HS at h;walk_at "g"
 rename_i t n y;obtain⟨m,M,N,F,hN,e1,m1,m3,e2,M2,M6,q⟩:=h;subst e1 e2;refine⟨_,(@AF _ _ _ _ _ (@AN _ _ 3 _ _ _ _ sc_z43.nd rfl (by right) (@BX _ _ _ _ (AA (AI G_z41 hr_z41 rfl T.z41.m T.z41.F.kp T.z41.b .nil AE (AA (vv 0) (AA (vv 1) AB))) AB)) (by rfl) (by walk_at "i")) (@AF _ _ _ _ _ (@AN _ _ 4 _ _ _ _ sc_z43.nd rfl (by right) (AI G_z50 hr_z50 rfl T.z50.m T.z50.F.kp T.z50.b .nil AE (AA (vv 0) (AA (AO Nu AC (vv 1)) AB))) (by rfl) (by walk_at "i")) (@AF _ _ _ _ _ (@Dt _ _ _ _ (JQ (K:=K) (vv 3) (AA (AO (Fv (K:=K)) (AO (Fv (K:=K)) (Kb (K:=K) (Yp (K:=K) (vv 3) AC) GU (Ge (vv 4))) (BK (AA (Mg (Yp (K:=K) (Yp (K:=K) (vv 3) AC) (vv 4))) AB))) (Kb (K:=K) (Yp (K:=K) (vv 3) AC) (Ge (AO (Fv (K:=K)) (vv 4) AC)) GU)) AB)) (by rfl)) (@AF _ _ _ _ _ (@Bu _ _ _ _ _ _ _ _ PassesOwn.never rfl (BA rfl T.z_range (AA (AO Co AC (vv 2)) AB)) (AR (i:=5) sc_z43.nd rfl (by right)) (@AF _ _ _ _ _ (@AN _ _ 6 _ _ _ _ sc_z43.nd rfl (by right) (AI G_z41 hr_z41 rfl T.z41.m T.z41.F.kp T.z41.b .nil AE (AA (vv 0) (AA (vv 1) AB))) (by rfl) (by walk_at "i")) (@AH _ _ _ (@Ar _ _ _ _ _ _ _ _ (PW.pt (C1 (AW Ck (Ab (Ay (K:=K)) rfl T.z_len (by rfl) (AA (vv 3) AB)) (vv 2)) (C5 (AW (LG (K:=K) hu) (vv 6) (vv 3))))) (@AH _ _ _ (@Dt _ _ _ _ (Ub (K:=K) (vv 3) (AA (AI G_z50 hr_z50 rfl T.z50.m T.z50.F.kp T.z50.b .nil AE (AA (vv 0) (AA (AO (Fv (K:=K)) (Ab (Ay (K:=K)) rfl T.z_len (by rfl) (AA (vv 3) AB)) AC) AB))) (AA (vv 6) AB))) (by rfl))) Aq))) (by intro _;rfl)) (@AH _ _ _ (@AK _ _ _ _ (vv 3))))))),?_⟩;have hmo:=VE;have h2:2<=2 ^ m:=Zl (n:=2) (i:=1) (by decide) m1;have h8:2 ^ m<=8:=Zl (n:=2) (i:=m) (j:=3) (by decide) m3;have em:(1:Int) * 2 ^ ((m:Int).toNat)=((2 ^ m:Nat):Int):=by rw[Zc,Int.natCast_pow,Int.one_mul];rfl
 refine⟨m,N,F,by lia,rfl,m1,by lia,fun bs p1 H1 hb hp1 g1 F1 f1=>?_⟩;refine⟨smq rfl,fun l hl=>?_⟩;have hlH:H l=none:=F1.free f1 hl;have lt:l≠t:=F.neT hlH;dsimp only[AZ];refine AY (fun Z H'=>∃a:Nat,a < 2 ^ m/\Z=[some (.ref t),some (.int m),some (.int M),some (.ref l),some (.int a),none,none]/\GFeed H' t (N+19)/\Yl t H H'/\H' l=some (.lst [.ref p1])/\H' p1=some (.tup (bs.map V.bl))) ?_ ?_ (by walk_at "sm")
 ·refine⟨⟨by lia,by lia,by decide⟩,?_⟩;rw[em];have F2:=F1.upd (o:=.lst [.ref p1]) hl;refine⟨_,F2,by lia,Au (by lia) (by lia),fun a H3 a0 a1 F3 f3=>?_⟩;have f2:Yl t H1 (upd H1 l (.lst [.ref p1])):=Yl.upd hl;have n1:p1≠t:=F.neT hp1;have nl:p1≠l:=fun e=>by rw[e,hl]at g1;cases g1
  refine⟨a.toNat,by lia,?_,F3,f1.trans (f2.trans (Ap f3)),by rw[f3 l lt,AD],by rw[f3 p1 n1,AJ nl];exact g1⟩;rw[ZB8 a0];rfl
 rintro Z H2 ⟨a,ha,rfl,F2,f2,gl2,gp2⟩;have hbl:(bs.map V.bl).length=2 ^ m:=by rw[ZB];exact hb
 have hix:atI (bs.map V.bl) (a:Int)=some (.bl (bs.getD a false)):=Ah rfl (by rw[ZR,ZQ,ZE (show a < bs.length by lia)];rfl);refine AY (fun Z H'=>∃(ts:List (List Bool)) (xs:List V) (z5 z6:Option V),Z=[some (.ref t),some (.int m),some (.int M),some (.ref l),some (.int a),z5,z6]/\2<=ts.length/\ts.length<=M/\(∀b∈ts,b.length=2 ^ m)/\H' l=some (.lst xs)/\Yd K H' (Ae ts) xs/\GFeed H' t (N+19)/\Yl t H H') ?_ ?_ (by walk_at "sm")
 ·refine⟨.inl ⟨rfl,_,.of gl2⟩,?_⟩;refine⟨_,_,.inl (.of gl2),rfl,?_⟩;refine⟨(a:Int),rfl,_,.of gp2,fun q1 H3 S3 t3=>?_⟩;rw[Rr _ a (by lia)]at t3;refine⟨_,_,.inl (.of (S3 _ _ gl2)),rfl,_,_,.inr (.of (S3 _ _ gp2)),hix,?_⟩;refine⟨smq rfl,fun q2 hq2=>?_⟩;have S4:Yb H3 (upd H3 q2 (.tup [.bl (!bs.getD a false)])):=Yb.upd hq2;have t4:Yo K (upd H3 q2 (.tup [.bl (!bs.getD a false)])) q2 [.bl (!bs.getD a false)]:=.of AD;generalize upd H3 q2 (.tup [.bl (!bs.getD a false)])=H4 at *;refine .inr ⟨_,_,S4.sqT t3,t4,DL (by rw[Za];show _+1<=1000;lia),fun q3 H5 S5 t5=>?_⟩;have S25:=S3.trans (S4.trans S5);refine⟨_,_,.inl (.of (S25 _ _ gl2)),rfl,?_⟩;refine⟨(a+1:Nat),rfl,_,.of (S25 _ _ gp2),fun q4 H6 S6 t6=>?_⟩;rw[U5 _ (a+1) (by lia)]at t6;refine .inr ⟨_,_,S6.sqT t5,t6,DL (by rw[ZN,Za,ZBG];show _+1+_<=1000;lia),fun q5 H7 S7 t7=>?_⟩;have S27:=S25.trans (S6.trans S7);generalize hcs:bs.take a++(!bs.getD a false)::bs.drop (a+1)=cs
  have ecs:(bs.map V.bl).take a++[V.bl (!bs.getD a false)]++(bs.map V.bl).drop (a+1)=cs.map V.bl:=by
   rw[<- hcs,ZJ,Zi,List.map_take,List.map_drop,ZBv];rfl
  have hcl:cs.length=2 ^ m:=by
   rw[<- hcs,ZN,Zn,Za,ZBG];lia
  rw[ecs]at t7;refine⟨_,S27 _ _ gl2,Ad (show 1<=1000 by decide),?_⟩;have fr:Yl l H7 (upd H7 l (.lst ([.ref p1]++[.ref q5]))):=Yl.updT;have R7:Yd K H7 (Ae [bs,cs]) [.ref p1,.ref q5]:=AU (BO (S27 _ _ gp2) (CV bs)) (AU (by unfold Yh;exact⟨q5,_,rfl,t7,CV cs⟩) Ag);refine⟨[bs,cs],_,_,_,rfl,ZD 2,M2,?_,AD,Yd.frm fr ⟨_,S27 _ _ gl2⟩ _ _ (Cy _) R7,?_,?_⟩
  ·intro b hb'
   rcases ZG.mp hb' with rfl | hb'
   ·exact hb
   ·rcases ZG.mp hb' with rfl | hb'
    ·exact hcl
    ·cases hb'
  ·exact(F2.same S27).put lt (S27 _ _ gl2) fun ns hn e=>by
    cases ns with
    | nil=>exact hn rfl
    | cons _ _=>cases e
  ·exact FX (f2.trans fun b o _ e=>S27 b o e) hlH
 rintro Z H3 ⟨ts,xs,z5,z6,rfl,t2,tM,tb,gl3,R3,F3,f3⟩;refine AY (fun Z H'=>∃(ts:List (List Bool)) (xs:List V) (z5 z6:Option V),Z=[some (.ref t),some (.int m),some (.int M),some (.ref l),some (.int a),z5,z6]/\2<=ts.length/\ts.length<=M/\(∀b∈ts,b.length=2 ^ m)/\H' l=some (.lst xs)/\Yd K H' (Ae ts) xs/\GFeed H' t (N+400)/\Yl t H H') ?_ ?_ (by walk_at "sm")
 ·refine⟨.inr (.inl ⟨by decide,by decide⟩),2 * (M:Int),rfl,by lia,by lia,?_⟩;refine Cg (fun i Z H'=>∃(ts:List (List Bool)) (xs:List V) (z5 z6:Option V),Z=[some (.ref t),some (.int m),some (.int M),some (.ref l),some (.int a),z5,z6]/\2<=ts.length/\ts.length<=M/\(∀b∈ts,b.length=2 ^ m)/\H' l=some (.lst xs)/\Yd K H' (Ae ts) xs/\GFeed H' t (N+19+19 * i)/\Yl t H H') ⟨ts,xs,z5,z6,rfl,t2,tM,tb,gl3,R3,F3,f3⟩ ?_ ?_
  ·rintro i Z H4 hi ⟨ts,xs,z5,z6,rfl,t2,tM,tb,gl4,R4,F4,f4⟩;have hxl:xs.length=ts.length:=by rw[<- R4.length,FF]
   refine⟨m,_,F4,by lia,rfl,m1,by lia,fun bs2 p2 H5 hb2 hp2 g2 F5 f5=>?_⟩;have R5:Yd K H5 (Ae ts) xs:=Yd.frm f5 F4.lst _ _ (Cy _) R4;have gl5:H5 l=some (.lst xs):=f5 _ _ lt gl4;dsimp only[AZ]
   have stay:∃(ts:List (List Bool)) (xs:List V) (z5' z6':Option V),[some (V.ref t),some (.int m),some (.int M),some (.ref l),some (.int a),some (.int (0+i)),some (.ref p2)]=[some (.ref t),some (.int m),some (.int M),some (.ref l),some (.int a),z5',z6']/\2<=ts.length/\ts.length<=M/\(∀b∈ts,b.length=2 ^ m)/\H5 l=some (.lst xs)/\Yd K H5 (Ae ts) xs/\GFeed H5 t (N+19+19 * (i+1))/\Yl t H H5 :=
    ⟨ts,xs,_,_,rfl,t2,tM,tb,gl5,R5,F5.mono (by lia),f4.trans f5⟩
   have ep2:Yh K H5 (.tup (bs2.map Dv.bl)) (.ref p2):=BO g2 (CV bs2);refine⟨_,.inl ⟨_,.of gl5,rfl⟩,?_⟩;refine AT (fun e=>?_) (fun e=>stay);have e':(xs.length:Int) < (M:Int):=ZP e;refine⟨_,_,_,.inl (.of gl5),R5,ep2,RD ts,?_⟩;refine AT (fun e=>?_) (fun e=>stay);refine⟨.inl ⟨rfl,_,.of gl5⟩,?_⟩;refine⟨_,.inl ⟨_,.of gl5,rfl⟩,?_⟩;refine⟨_,F5,by lia,Au (by lia) (Int.le_trans (show(xs.length:Int)+1<=7 by lia) (by decide)),fun d H6 d0 d1 F6 f6=>?_⟩;have gl6:H6 l=some (.lst xs):=by rw[f6 l lt];exact gl5
   refine⟨xs,gl6,d0,by lia,by lia,?_⟩;have R6:Yd K H6 (Ae ts) xs:=Yd.frm (Ap f6) F5.lst _ _ (Cy _) R5;have ep6:Yd K H6 [.tup (bs2.map Dv.bl)] [.ref p2]:=AU (BO (by rw[f6 p2 (F4.neT hp2)];exact g2) (CV bs2)) Ag
   have R7:Yd K H6 (Ae (ts.take d.toNat++bs2::ts.drop d.toNat)) (xs.take d.toNat++.ref p2::xs.drop d.toNat):=by
    rw[Vq];exact Yd.append (LC _ R6) (Yd.append ep6 (Mq _ R6))
   refine⟨_,_,_,_,rfl,?_,?_,?_,AD,Yd.frm Yl.updT ⟨_,gl6⟩ _ _ (Cy _) R7,(F6.put lt gl6 (NT R6)).mono (by lia),FX (f4.trans (f5.trans (Ap f6))) hlH⟩
   ·rw[ZN,Zn,Za,ZBG];lia
   ·rw[ZN,Zn,Za,ZBG];lia
   ·intro b hb'
    rcases Zf.mp hb' with h | h
    ·exact tb b (List.mem_of_mem_take h)
    ·rcases ZG.mp h with rfl | h
     ·exact hb2
     ·exact tb b (List.mem_of_mem_drop h)
  ·rintro Z H4 ⟨ts,xs,z5,z6,rfl,t2,tM,tb,gl4,R4,F4,f4⟩;exact⟨ts,xs,z5,z6,rfl,t2,tM,tb,gl4,R4,F4.mono (by lia),f4⟩
 rintro Z H4 ⟨ts,xs,z5,z6,rfl,t2,tM,tb,gl4,R4,F4,f4⟩;exact q ts xs l H4 t2 tM tb hlH gl4 R4 F4 f4
theorem Me:∀(cs:List Bool) (zs:List V),Yd K H (cs.map Dv.bl) zs->zs=cs.map V.bl
 | [],zs,h=>by
  have h':Yd K H [] zs:=h;unfold Yd at h';exact h'
 | c::cs,zs,h=>by
  have h':Yd K H (Dv.bl c::cs.map Dv.bl) zs:=h;unfold Yd at h';obtain⟨x,r,rfl,h1,h2⟩:=h';unfold Yh at h1;rw[h1,Me cs r h2];rfl
theorem Fn:∀ns:List Int,Yd K H (ns.map Dv.int) (ns.map V.int)
 | []=>Ag
 | _::ns=>AU KF (Fn ns)
noncomputable def Jg(K:W.Frag):Sp:=fun vs H Q _=>match vs with
 | [.ref l]=>∃(ts:List (List Bool)) (xs:List V) (M:Nat),H l=some (.lst xs)/\Yd K H (Ae ts) xs/\2<=ts.length/\ts.length<=6/\(∀b∈ts,b.length=M)/\1<=M/\M<=8/\∀ls rs u H',Gm ls rs->Yb H H'->Yh K H' (gmD ls rs) u->Q u H'
 | _=>False
theorem XH:Xj P w base T.z31 1 (Jg K):=by
 refine T.z31.F.ok sc_z31 (fun vs H Q E h=>by unfold Jg at h;walk_at "e") ?_;walk_at "f";unfold Jg at h;walk_at "g"
 rename_i l;obtain⟨ts,xs,M,gl,R,t2,t6,tb,M1,M8,q⟩:=h;refine⟨_,(@AF _ _ _ _ _ (@C0 _ _ _ _ _ _ _ (["_law_k","_law_tables"]) 1 [0] _ _ _ _ 1 _ _ _ rfl sc_z31.nd rfl rfl (BA rfl T.z_range (AA (Ab (Ay (K:=K)) rfl T.z_len (by rfl) (AA (Yp (K:=K) (vv 0) AC) AB)) AB)) (by kernel_rfl) rfl rfl (by kernel_rfl) (fun c=>AR (i:=0) (show(["_law_k","_law_tables"]:List Str).Nodup by decide +kernel) rfl (by right)) (AX (by decide)) (fun c=>Ao) (fun c=>(Av (BD (K:=K)) rfl T.z_tuple (by rfl) (AA (An (N':=["_law_table_here","_law_k"]) (own:=1) (ix:=[0]) rfl (BE (K:=K) (vv 1)) (by kernel_rfl) rfl rfl (by kernel_rfl) (fun c=>AR (i:=0) (show(["_law_table_here","_law_k"]:List Str).Nodup by decide +kernel) rfl (by right)) (AX (by decide)) (fun c=>Ao) (fun c=>(Yp (K:=K) (vv 0) (vv 1)))) AB))) (by rfl) (by intro _;rfl)) (@AH _ _ _ (@AK _ _ _ _ (BK (AA (Av (BD (K:=K)) rfl T.z_tuple (by rfl) (AA (@An _ _ _ _ _ _ _ ["_law_k"] 1 [] _ _ _ _ rfl (BA rfl T.z_range (AA (Ab (Ay (K:=K)) rfl T.z_len (by rfl) (AA (vv 0) AB)) AB)) (by kernel_rfl) rfl rfl (by kernel_rfl) (fun c=>AR (i:=0) (show(["_law_k"]:List Str).Nodup by decide +kernel) rfl (by right)) (AX (by decide)) (fun c=>Ao) (fun c=>(vv 0)) (by intro _;rfl)) AB)) (AA (Av (BD (K:=K)) rfl T.z_tuple (by rfl) (AA (vv 1) AB)) AB)))))),?_⟩;have hxl:xs.length=ts.length:=by rw[<- R.length,FF]
 have at_:∀(j:Nat) (x:V),xs[j]? = some x->∃(a:Addr) (bs:List Bool),x=.ref a/\Yo K H a (bs.map V.bl)/\bs.length=M:=by
  intro j x hx;have hj:j < ts.length:=by have:=(Zg.mp hx).1;lia
  obtain⟨y,h1,h2⟩:=R.get (i:=j) (d:=.tup (ts[j].map Dv.bl)) (by unfold Ae;rw[ZR,ZE hj];rfl);rw[hx]at h1;cases h1;unfold Yh at h2;obtain⟨a,zs,rfl,h3,h4⟩:=h2;rw[Me _ _ h4]at h3;exact⟨a,ts[j],rfl,h3,tb _ (Zd hj)⟩
 obtain⟨x0,hx0⟩:∃x,xs[0]? = some x:=⟨_,ZE (show 0 < xs.length by lia)⟩;obtain⟨a0,bs0,rfl,q0,l0⟩:=at_ 0 _ hx0;refine⟨_,_,.inl (.of gl),Ah (n:=0) rfl hx0,_,.inr ⟨_,q0,rfl⟩,?_⟩;rw[ZB,l0];refine⟨(M:Int),rfl,by lia,by lia,?_⟩
 refine BU (fun i ys H'=>Yb H H'/\∃rs:List (List Bool),rs.length=i/\(∀r∈rs,r.length=ts.length)/\Yd K H' (Ae rs) ys) ⟨fun _ _ e=>e,[],rfl,nofun,Ag⟩ (fun i ys H' hi ⟨_,rs,e,_,R'⟩=>by
  rw[<- R'.length,FF];exact Ad (by lia)) ?_ ?_
 ·rintro i ys H1 hi ⟨S1,rs,rfl,hr1,R1⟩;refine .inl ⟨⟨_,.of (S1 _ _ gl)⟩,?_⟩
  refine Du (xs:=xs) (fun j zs H'=>H'=H1/\∃bs:List Bool,zs=bs.map V.bl/\bs.length=j) ⟨rfl,[],rfl,rfl⟩ (fun j zs H' _ ⟨e,_⟩=>by rw[e];exact .of (S1 _ _ gl)) (fun j zs H' hj ⟨_,bs,e,el⟩=>by
   rw[e,ZB,el];exact Ad (by lia)) ?_ ?_
  ·rintro j x zs H' hx ⟨rfl,bs,rfl,rfl⟩;obtain⟨a,cs,rfl,h1,h2⟩:=at_ _ _ hx;refine⟨_,_,.inr (S1.sqT h1),Ah (n:=rs.length) (by lia) (by rw[ZR,ZE (show rs.length < cs.length by lia)];rfl),?_⟩;exact⟨rfl,bs++[_],by rw[ZJ];rfl,by rw[ZN];rfl⟩
  ·rintro zs H' ⟨rfl,bs,rfl,hb⟩ k hk;refine⟨_,.inl ⟨.of AD,fun p hp=>?_⟩⟩;have s3:=(Yb.upd (o:=.lst (bs.map V.bl)) hk).trans (Yb.upd (o:=.tup (bs.map V.bl)) hp);refine⟨S1.trans s3,rs++[bs],by rw[ZN];rfl,?_,?_⟩
   ·intro r hr'
    rcases Zf.mp hr' with h | h
    ·exact hr1 r h
    ·rw[ZO.mp h];lia
   ·have e:Ae (rs++[bs])=Ae rs++[.tup (bs.map Dv.bl)]:=by unfold Ae;rw[ZJ];rfl
    rw[e];exact Yd.append (Yd.same s3 _ _ R1) (AU (BO AD (CV bs)) Ag)
 ·rintro ys H1 ⟨S1,rs,hrl,hr1,R1⟩ k hk;have s2:Yb H1 (upd H1 k (.lst ys)):=Yb.upd hk;have g2:upd H1 k (.lst ys) k=some (.lst ys):=AD;generalize upd H1 k (.lst ys)=H2 at *;dsimp only[AZ];refine⟨_,.inl ⟨_,.of (s2 _ _ (S1 _ _ gl)),rfl⟩,(xs.length:Int),rfl,by lia,by lia,?_⟩
  refine BU (fun i ys H'=>H'=H2/\∃ls:List Int,ys=ls.map V.int/\ls.length=i/\∀x∈ls,x.natAbs<=6) ⟨rfl,[],rfl,rfl,nofun⟩ (fun i ys H' hi ⟨_,ls,e,el,_⟩=>by
   rw[e,ZB,el];exact Ad (by lia)) ?_ ?_
  ·rintro i ys H' hi ⟨rfl,ls,rfl,el,hs⟩;refine⟨rfl,ls++[0+(i:Int)],by rw[ZJ];rfl,by rw[ZN,el];rfl,?_⟩;intro x hx
   rcases Zf.mp hx with h | h
   ·exact hs x h
   ·rw[ZO.mp h];lia
  ·rintro ys' H' ⟨rfl,ls,rfl,el,hs⟩ k3 hk3;refine⟨_,.inl ⟨.of AD,fun p hp=>?_⟩⟩;have s3:=(Yb.upd (o:=.lst (ls.map V.int)) hk3).trans (Yb.upd (o:=.tup (ls.map V.int)) hp);have g3:upd (upd H' k3 (.lst (ls.map V.int))) p (.tup (ls.map V.int)) p=some (.tup (ls.map V.int)):=AD;generalize upd (upd H' k3 (.lst (ls.map V.int))) p (.tup (ls.map V.int))=H3 at *;refine⟨_,.inl ⟨.of (s3 _ _ g2),fun p4 hp4=>?_⟩⟩;refine⟨smq rfl,fun p5 hp5=>?_⟩;have s5:=(Yb.upd (o:=.tup ys) hp4).trans (Yb.upd (o:=.tup [.ref p,.ref p4]) hp5);refine q ls rs _ _ ⟨by lia,by lia,by lia,by lia,fun r h=>by rw[hr1 r h];lia,fun x h=>Zj (hs x h) (by decide),.inl (by lia)⟩ (S1.trans (s2.trans (s3.trans s5))) ?_;exact BO AD (AU (BO (s5 _ _ g3) (Fn ls)) (AU (BO (Yb.upd hp5 _ _ AD) (Yd.same (s2.trans (s3.trans s5)) _ _ R1)) Ag))
noncomputable def CT(K:W.Frag)(n b:Nat):Sp:=fun vs H Q _=>match vs with
 | [.ref t]=>∃N:Nat,GFeed H t N/\N<=b/\∀ls rs u H',Gm ls rs->Yh K H' (gmD ls rs) u->GFeed H' t (N+n)->Yl t H H'->Q u H'
 | _=>False
theorem SO{b:Nat}:AQ (CT K n b):=fun vs H Q Q' E h q=>by
 unfold CT at *;walk_at "q"
theorem XR:Xj P w base T.z42 2 (CT K 10 850000000):=by
 have G_z50:=@Dp P w K mg base T;have G_z50:=@Kl P w K mg base T;refine T.z42.F.ok sc_z42 (fun vs H Q E h=>by unfold CT at h;walk_at "e") ?_;walk_at "f";have hr_z50:=hr.mono (show 1<=_ by decide);unfold CT at h;walk_at "g"
 rename_i t;obtain⟨N,F,hN,q⟩:=h;refine⟨_,(@AF _ _ _ _ _ (@AN _ _ 1 _ _ _ _ sc_z42.nd rfl (by right) (AO (BB (K:=K)) AC (AI G_z50 hr_z50 rfl T.z50.m T.z50.F.kp T.z50.b .nil AE (AA (vv 0) (AA AC AB)))) (by rfl) (by walk_at "i")) (@AF _ _ _ _ _ (@AN _ _ 2 _ _ _ _ sc_z42.nd rfl (by right) (AI G_z50 hr_z50 rfl T.z50.m T.z50.F.kp T.z50.b .nil AE (AA (vv 0) (AA AC AB))) (by rfl) (by walk_at "i")) (@AF _ _ _ _ _ (@C0 _ _ _ _ _ _ _ ["_law_k"] 1 [] _ _ _ _ 3 _ _ _ rfl sc_z42.nd rfl rfl (BA rfl T.z_range (AA (vv 1) AB)) (by kernel_rfl) rfl rfl (by kernel_rfl) (fun c=>AR (i:=0) (show(["_law_k"]:List Str).Nodup by decide +kernel) rfl (by right)) (AX (by decide)) (fun c=>Ao) (fun c=>(vv 0)) (by rfl) (by intro _;rfl)) (@AF _ _ _ _ _ (@Ar _ _ _ _ _ _ _ _ (AW (kEq (K:=K) hu) (AI G_z50 hr_z50 rfl T.z50.m T.z50.F.kp T.z50.b .nil AE (AA (vv 0) (AA AC AB))) AC) (@AH _ _ _ (@Dj _ _ _ _ _ _ (AI G_z50 hr_z50 rfl T.z50.m T.z50.F.kp T.z50.b .nil AE (AA (vv 0) (AA (vv 1) AB))) (EC (vv 3) (AI G_z50 hr_z50 rfl T.z50.m T.z50.F.kp T.z50.b .nil AE (AA (vv 0) (AA (vv 1) AB))) EY) (by rfl) (by rfl) (by rfl))) Aq) (@AF _ _ _ _ _ (@C0 _ _ _ _ _ _ _ (["_law_one","_law_many"]) 1 [1] _ _ _ _ 4 _ _ _ rfl sc_z42.nd rfl rfl (Hk rfl T.z_range (AA (vv 2) (AA (vv 1) AB))) (by kernel_rfl) rfl rfl (by kernel_rfl) (fun c=>AR (i:=0) (show(["_law_one","_law_many"]:List Str).Nodup by decide +kernel) rfl (by right)) (AX (by decide)) (fun c=>Ao) (fun c=>(Av (BD (K:=K)) rfl T.z_tuple (by rfl) (AA (An (N':=["_law_k","_law_one"]) (own:=1) (ix:=[0]) rfl (BA rfl T.z_range (AA (vv 1) AB)) (by kernel_rfl) rfl rfl (by kernel_rfl) (fun c=>AR (i:=0) (show(["_law_k","_law_one"]:List Str).Nodup by decide +kernel) rfl (by right)) (AX (by decide)) (fun c=>Ao) (fun c=>(A7 (kEq (K:=K) hu) (vv 0) (vv 1)))) AB))) (by rfl) (by intro _;rfl)) (@AH _ _ _ (@AK _ _ _ _ (BK (AA (Av (BD (K:=K)) rfl T.z_tuple (by rfl) (AA (vv 3) AB)) (AA (Av (BD (K:=K)) rfl T.z_tuple (by rfl) (AA (vv 4) AB)) AB)))))))))),?_⟩;obtain⟨c,F⟩:=F.told;refine⟨c,N,F,by lia,Au (by decide) (by decide),fun d1 H1 a0 a1 F1 f1=>?_⟩;dsimp only[AZ,Eb];obtain⟨M,rfl⟩:∃M:Nat,d1=M:=⟨d1.toNat,by lia⟩;refine⟨c,_,F1,by lia,Au (by decide) (by decide),fun d2 H2 b0 b1 F2 f2=>?_⟩;dsimp only[AZ];have f2':Yl t H H2:=(Ap f1).trans (Ap f2);refine AY (fun Z H'=>∃(l:Addr) (ls:List Int),Z=[some (.ref t),some (.int (2+M)),some (.int d2),some (.ref l),none]/\H l=none/\l≠t/\l≠c/\H' l=some (.lst (ls.map V.int))/\ls.length=M+2/\(∀x∈ls,x.natAbs<=10)/\GFd H' t c (N+2)/\Yl t H H') ?_ ?_ (by walk_at "sm")
 ·refine⟨(2+M:Int),rfl,by lia,by lia,?_⟩
  refine BU (fun i ys H'=>H'=H2/\∃ls:List Int,ys=ls.map V.int/\ls.length=i/\∀x∈ls,x.natAbs<=10) ⟨rfl,[],rfl,rfl,nofun⟩ (fun i ys H' hi ⟨_,ls,e,el,_⟩=>by
   rw[e,ZB,el];exact Ad (by lia)) ?_ ?_
  ·rintro i ys H' hi ⟨rfl,ls,rfl,el,hs⟩;refine⟨rfl,ls++[0+(i:Int)],by rw[ZJ];rfl,by rw[ZN,el];rfl,?_⟩;intro x hx
   rcases Zf.mp hx with h | h
   ·exact hs x h
   ·rw[ZO.mp h];lia
  ·rintro ys H' ⟨rfl,ls,rfl,el,hs⟩ l hl;have Yu:=F2.ne hl;exact⟨l,ls,rfl,F2.feed.free f2' hl,Yu.1,Yu.2,AD,by lia,hs,F2.upd hl,f2'.trans (Yl.upd hl)⟩
 rintro Z H3 ⟨l,ls,rfl,hl,lt,lc,gl3,ll,hs,F3,f3⟩;refine AY (fun Z H'=>∃(ls:List Int),Z=[some (.ref t),some (.int (2+M)),some (.int d2),some (.ref l),none]/\H' l=some (.lst (ls.map V.int))/\ls.length=M+2/\(∀x∈ls,x.natAbs<=10)/\GFeed H' t (N+10)/\Yl t H H') ?_ ?_ (by walk_at "sm")
 ·refine⟨c,_,F3,by lia,Au (by decide) (by decide),fun d3 H4 _ _ F4 f4=>?_⟩;have gl4:H4 l=some (.lst (ls.map V.int)):=by rw[f4 l lt];exact gl3
  refine AT (fun e=>?_) (fun e=>⟨ls,rfl,gl4,ll,hs,F4.feed.mono (by lia),f3.trans (Ap f4)⟩);refine⟨c,_,F4,by lia,Au (by lia) (by lia),fun d4 H5 p0 p1 F5 f5=>?_⟩;refine⟨c,_,F5,by lia,Au (by lia) (by lia),fun d5 H6 q0 q1 F6 f6=>?_⟩;have gl6:H6 l=some (.lst (ls.map V.int)):=by rw[f6 l lt,f5 l lt];exact gl4
  have hd5:ixN (ls.map V.int).length d5=some d5.toNat:=by
   rw[ZB];unfold ixN;rw[if_pos (by lia),if_pos (by lia)]
  refine⟨_,_,gl6,hd5,ls.set d5.toNat d4,rfl,by rw[AD,List.map_set],by rw[ZBO];exact ll,?_,(F6.put ⟨lt,lc⟩).feed.mono (by lia),FX (f3.trans ((Ap f4).trans ((Ap f5).trans (Ap f6)))) hl⟩;intro x hx
  rcases List.mem_or_eq_of_mem_set hx with h | h
  ·exact hs x h
  ·rw[h];lia
 rintro Z H4 ⟨ls,rfl,gl4,ll,hs,F4,f4⟩;have n0:(0:Int)<=2+M - d2:=by lia
 refine⟨d2,2+M,rfl,⟨by lia,by lia,by lia,by lia⟩,?_⟩;obtain⟨W,hW,w1,w7⟩:∃W:Nat,(2+(M:Int) - d2).toNat=W/\1<=W/\W<=7:=⟨_,rfl,by lia,by lia⟩;rw[hW]
 refine BU (fun i ys H'=>Yb H4 H'/\∃rs:List (List Bool),rs.length=i/\(∀r∈rs,r.length=M+2)/\Yd K H' (Ae rs) ys) ⟨fun _ _ e=>e,[],rfl,nofun,Ag⟩ (fun i ys H' hi ⟨_,rs,e,_,R'⟩=>by
  rw[<- R'.length,FF];exact Ad (by lia)) ?_ ?_
 ·rintro i ys H1 hi ⟨S1,rs,rfl,hr1,R1⟩;refine⟨(2+M:Int),rfl,by lia,by lia,?_⟩
  refine BU (fun j zs H'=>H'=H1/\∃bs:List Bool,zs=bs.map V.bl/\bs.length=j) ⟨rfl,[],rfl,rfl⟩ (fun j zs H' hj ⟨_,bs,e,el⟩=>by
   rw[e,ZB,el];exact Ad (by lia)) ?_ ?_
  ·rintro j zs H' hj ⟨rfl,bs,rfl,rfl⟩;exact⟨rfl,bs++[_],by rw[ZJ];rfl,by rw[ZN];rfl⟩
  ·rintro zs H' ⟨rfl,bs,rfl,hb⟩ k hk;refine⟨_,.inl ⟨.of AD,fun p hp=>?_⟩⟩;have s3:=(Yb.upd (o:=.lst (bs.map V.bl)) hk).trans (Yb.upd (o:=.tup (bs.map V.bl)) hp);refine⟨S1.trans s3,rs++[bs],by rw[ZN];rfl,?_,?_⟩
   ·intro r hr'
    rcases Zf.mp hr' with h | h
    ·exact hr1 r h
    ·rw[ZO.mp h];lia
   ·have e:Ae (rs++[bs])=Ae rs++[.tup (bs.map Dv.bl)]:=by unfold Ae;rw[ZJ];rfl
    rw[e];exact Yd.append (Yd.same s3 _ _ R1) (AU (BO AD (CV bs)) Ag)
 ·rintro ys H1 ⟨S1,rs,hrl,hr1,R1⟩ k hk;have s2:Yb H1 (upd H1 k (.lst ys)):=Yb.upd hk;have g2:upd H1 k (.lst ys) k=some (.lst ys):=AD;generalize upd H1 k (.lst ys)=H2' at *;dsimp only[AZ];refine⟨_,.inl ⟨.of (s2 _ _ (S1 _ _ gl4)),fun p hp=>?_⟩⟩;have s3:Yb H2' (upd H2' p (.tup (ls.map V.int))):=Yb.upd hp;have g3:upd H2' p (.tup (ls.map V.int)) p=some (.tup (ls.map V.int)):=AD;generalize upd H2' p (.tup (ls.map V.int))=H3' at *;refine⟨_,.inl ⟨.of (s3 _ _ g2),fun p4 hp4=>?_⟩⟩;refine⟨smq rfl,fun p5 hp5=>?_⟩;have s5:=(Yb.upd (o:=.tup ys) hp4).trans (Yb.upd (o:=.tup [.ref p,.ref p4]) hp5);have S5:=S1.trans (s2.trans (s3.trans s5));refine q ls rs _ _ ⟨by lia,by lia,by lia,by lia,fun r h=>by rw[hr1 r h];lia,fun x h=>Zj (hs x h) (by decide),.inl (by lia)⟩ ?_ (F4.same S5) (f4.trans fun b o _ e=>S5 b o e);exact BO AD (AU (BO (s5 _ _ g3) (Fn ls)) (AU (BO (Yb.upd hp5 _ _ AD) (Yd.same (s2.trans (s3.trans s5)) _ _ R1)) Ag))
theorem Nn{ns:List Int}{i lo hi:Int}(h0:0<=i)(h1:i < ns.length)(h:∀x∈ns,lo<=x/\x<=hi):∃z,atI (ns.map V.int) i=some (.int z)/\lo<=z/\z<=hi:=by
 have hi':i.toNat < ns.length:=by lia
 exact⟨ns[i.toNat],Ah (n:=i.toNat) (by lia) (by rw[ZR,ZE hi'];rfl),h _ (Zd hi')⟩
theorem Uj{a b c:V}{i:Int}(h0:0<=i)(h1:i < 3):∃z,atI [a,b,c] i=some z/\(z=a\/z=b\/z=c):=by
 obtain⟨n,rfl⟩:∃n:Nat,i=n:=⟨i.toNat,by lia⟩
 match n,h1 with
 | 0,_=>exact⟨a,rfl,.inl rfl⟩
 | 1,_=>exact⟨b,rfl,.inr (.inl rfl)⟩
 | 2,_=>exact⟨c,rfl,.inr (.inr rfl)⟩
 | n+3,h=>lia
theorem Ul:Xj P w base T.z35 2 (CT K 300 850000000):=by
 have G_z50:=@Dp P w K mg base T;refine T.z35.F.ok sc_z35 (fun vs H Q E h=>by unfold CT at h;walk_at "e") ?_;walk_at "f";have hr_z50:=hr.mono (show 1<=_ by decide);unfold CT at h;walk_at "g"
 rename_i t;obtain⟨N,F,hN,q⟩:=h;refine⟨_,(@AF _ _ _ _ _ (@AN _ _ 1 _ _ _ _ sc_z35.nd rfl (by right) (@BX _ _ _ _ (AA (AO (BB (K:=K)) AC (AI G_z50 hr_z50 rfl T.z50.m T.z50.F.kp T.z50.b .nil AE (AA (vv 0) (AA AC AB)))) (AA (AO (BB (K:=K)) AC (AI G_z50 hr_z50 rfl T.z50.m T.z50.F.kp T.z50.b .nil AE (AA (vv 0) (AA AC AB)))) (AA (AO (BB (K:=K)) AC (AI G_z50 hr_z50 rfl T.z50.m T.z50.F.kp T.z50.b .nil AE (AA (vv 0) (AA AC AB)))) (AA (AO (BB (K:=K)) AC (AI G_z50 hr_z50 rfl T.z50.m T.z50.F.kp T.z50.b .nil AE (AA (vv 0) (AA AC AB)))) AB))))) (by rfl) (by walk_at "i")) (@AF _ _ _ _ _ (@AN _ _ 1 _ _ _ _ sc_z35.nd rfl (by right) (Yp (K:=K) (vv 1) (AI G_z50 hr_z50 rfl T.z50.m T.z50.F.kp T.z50.b .nil AE (AA (vv 0) (AA AC AB)))) (by rfl) (by walk_at "i")) (@AF _ _ _ _ _ (@AN _ _ 2 _ _ _ _ sc_z35.nd rfl (by right) (Yp (K:=K) (@BX _ _ _ _ (AA (AO (BB (K:=K)) AC (AI G_z50 hr_z50 rfl T.z50.m T.z50.F.kp T.z50.b .nil AE (AA (vv 0) (AA AC AB)))) (AA (AO (BB (K:=K)) AC (AI G_z50 hr_z50 rfl T.z50.m T.z50.F.kp T.z50.b .nil AE (AA (vv 0) (AA AC AB)))) (AA (AO (BB (K:=K)) AC (AI G_z50 hr_z50 rfl T.z50.m T.z50.F.kp T.z50.b .nil AE (AA (vv 0) (AA AC AB)))) AB)))) (AI G_z50 hr_z50 rfl T.z50.m T.z50.F.kp T.z50.b .nil AE (AA (vv 0) (AA AC AB)))) (by rfl) (by walk_at "i")) (@AF _ _ _ _ _ (@UP _ _ 3 _ _ _ _ sc_z35.nd rfl (by right) (@Yp _ K _ _ _ _ _ (@BX _ _ _ _ (@AA _ _ _ _ _ (@BX _ _ _ _ (@AA _ _ _ _ _ AC (@pa1 _ _ _ AC (by rfl)) (by rfl))) (@AA _ _ _ _ _ (@BX _ _ _ _ (@AA _ _ _ _ _ (ML Le AC) (@AA _ _ _ _ _ (AO OC AC AC) (@pa1 _ _ _ AC (by rfl)) (by rfl)) (by rfl))) (@AA _ _ _ _ _ (@BX _ _ _ _ (@AA _ _ _ _ _ AC (@AA _ _ _ _ _ AC (@AA _ _ _ _ _ AC (@AA _ _ _ _ _ AC (@AA _ _ _ _ _ AC (@AA _ _ _ _ _ AC (@AA _ _ _ _ _ AC (@AA _ _ _ _ _ AC (@AA _ _ _ _ _ AC (@pa1 _ _ _ AC (by rfl)) (by rfl)) (by rfl)) (by rfl)) (by rfl)) (by rfl)) (by rfl)) (by rfl)) (by rfl)) (by rfl))) (@AB _) L2.star_lst) L2.star_lst) L2.star_lst)) (AI G_z50 hr_z50 rfl T.z50.m T.z50.F.kp T.z50.b .nil AE (AA (vv 0) (AA AC AB))) (by intro _ _;rfl) (by rfl)) rfl (by first | exact .inl rfl | exact .inr rfl)) (@AF _ _ _ _ _ (@C0 _ _ _ _ _ _ _ (["_law_k","_law_names","_law_feed_here"]) 1 ([3,0]) _ _ _ _ 4 _ _ _ rfl sc_z35.nd rfl rfl (BA rfl T.z_range (AA (vv 1) AB)) (by kernel_rfl) rfl rfl (by kernel_rfl) (fun c=>AR (i:=0) (show(["_law_k","_law_names","_law_feed_here"]:List Str).Nodup by decide +kernel) rfl (by right)) (AX (by decide)) (fun c=>Ao) (fun c=>(Yp (K:=K) (vv 1) (AI G_z50 hr_z50 rfl T.z50.m T.z50.F.kp T.z50.b .nil AE (AA (vv 2) (AA (Ab (Ay (K:=K)) rfl T.z_len (by rfl) (AA (vv 1) AB)) AB))))) (by rfl) (by intro _;rfl)) (@AF _ _ _ _ _ (@AN _ _ 5 _ _ _ _ sc_z35.nd rfl (by right) (@BX _ _ _ _ AB) (by rfl) (by walk_at "i")) (@AF _ _ _ _ _ (@Bu _ _ _ _ _ _ _ _ PassesOwn.never rfl (BA rfl T.z_range (AA (vv 2) AB)) (AR (i:=6) sc_z35.nd rfl (by right)) (@AH _ _ _ (@Dt _ _ _ _ (JQ (K:=K) (vv 5) (AA (Av (BD (K:=K)) rfl T.z_tuple (by rfl) (AA (An (N':=["_law_thing","_law_feed_here"]) (own:=1) (ix:=[0]) rfl (BA rfl T.z_range (AA (vv 1) AB)) (by kernel_rfl) rfl rfl (by kernel_rfl) (fun c=>AR (i:=0) (show(["_law_thing","_law_feed_here"]:List Str).Nodup by decide +kernel) rfl (by right)) (AX (by decide)) (fun c=>Ao) (fun c=>(A7 (kEq (K:=K) hu) (AI G_z50 hr_z50 rfl T.z50.m T.z50.F.kp T.z50.b .nil AE (AA (vv 1) (AA AC AB))) AC))) AB)) AB)) (by rfl))) (by intro _;rfl)) (@AH _ _ _ (@AK _ _ _ _ (BK (AA (Av (BD (K:=K)) rfl T.z_tuple (by rfl) (AA (vv 4) AB)) (AA (Av (BD (K:=K)) rfl T.z_tuple (by rfl) (AA (vv 5) AB)) AB)))))))))))),?_⟩;have d4:okDiv 4:=Au (by decide) (by decide);have d5:okDiv 5:=Au (by decide) (by decide);have d6:okDiv 6:=Au (by decide) (by decide);have d3:okDiv 3:=Au (by decide) (by decide);have d16:okDiv 16:=Au (by decide) (by decide);refine AY (fun Z H'=>∃(l:Addr) (a b c d:Int),Z=[some (.ref t),some (.ref l),none,none,none,none,none]/\H' l=some (.lst ([a,b,c,d].map V.int))/\l≠t/\(∀x∈[a,b,c,d],1<=x/\x<=10)/\GFeed H' t (N+4)/\Yl t H H') ?_ ?_ (by walk_at "sm")
 ·refine⟨_,F,by lia,d6,fun a H1 a0 a1 F1 f1=>?_⟩;refine⟨_,F1,by lia,d6,fun b H2 b0 b1 F2 f2=>?_⟩;refine⟨_,F2,by lia,d6,fun c H3 c0 c1 F3 f3=>?_⟩;refine⟨_,F3,by lia,d4,fun d H4 d0 d1 F4 f4=>?_⟩;refine⟨smq rfl,fun l hl=>?_⟩;refine⟨l,1+a,2+b,2+c,7+d,rfl,AD,F4.neT hl,?_,F4.upd hl,(((Ap f1).trans (Ap f2)).trans ((Ap f3).trans (Ap f4))).trans (Yl.upd hl)⟩;simp only[ZG,ZBp,or_false];lia
 rintro Z H1 ⟨l,a,b,c,d,rfl,gl,lt,hb,F1,f1⟩;refine AY (fun Z H'=>∃M:Nat,Z=[some (.ref t),some (.int M),none,none,none,none,none]/\1<=M/\M<=10/\GFeed H' t (N+5)/\Yl t H H') ?_ ?_ (by walk_at "sm")
 ·refine⟨_,F1,by lia,d4,fun i H2 i0 i1 F2 f2=>?_⟩;obtain⟨z,hz,z1,z2⟩:=Nn (ns:=[a,b,c,d]) i0 i1 hb;refine⟨_,_,.inl (.of (by rw[f2 l lt];exact gl)),hz,z.toNat,?_,by lia,by lia,F2,f1.trans (Ap f2)⟩;rw[ZB8 (by lia)];rfl
 clear gl lt hb F1 f1;rintro Z H1 ⟨M,rfl,M1,M10,F1,f1⟩;refine AY (fun Z H'=>∃W:Nat,Z=[some (.ref t),some (.int M),some (.int W),none,none,none,none]/\1<=W/\W<=16/\GFeed H' t (N+9)/\Yl t H H') ?_ ?_ (by walk_at "sm")
 ·refine⟨_,F1,by lia,d5,fun a H2 a0 a1 F2 f2=>?_⟩;refine⟨_,F2,by lia,d4,fun b H3 b0 b1 F3 f3=>?_⟩;refine⟨_,F3,by lia,d16,fun c H4 c0 c1 F4 f4=>?_⟩;refine⟨smq rfl,fun l hl=>?_⟩;have F5:=F4.upd (o:=.lst [.int (1+a),.int (2+b),.int (1+c)]) hl;refine⟨_,F5,by lia,d3,fun i H6 i0 i1 F6 f6=>?_⟩
  obtain⟨z,hz,z1,z2⟩:=Nn (ns:=[1+a,2+b,1+c]) (lo:=1) (hi:=16) i0 i1 (by
   simp only[ZG,ZBp,or_false];lia)
  refine⟨_,_,.inl (.of (by rw[f6 l (F4.neT hl)];exact AD)),hz,z.toNat,?_,by lia,by lia,F6.mono (by lia),f1.trans (((Ap f2).trans ((Ap f3).trans (Ap f4))).trans ((Yl.upd hl).trans (Ap f6)))⟩;rw[ZB8 (by lia)];rfl
 clear F1 f1;rintro Z H1 ⟨W,rfl,W1,W16,F1,f1⟩;refine AY (fun Z H'=>∃(l:Addr) (ns:List Int),Z=[some (.ref t),some (.int M),some (.int W),some (.ref l),none,none,none]/\H' l=some (.lst (ns.map V.int))/\l≠t/\1<=ns.length/\ns.length<=10/\(∀x∈ns,x.natAbs<=100000000000000000000)/\GFeed H' t (N+10)/\Yl t H H') ?_ ?_ (by walk_at "sm")
 ·have bound:∀(x:V) (l:Addr) (ns:List Int) (H':Hp),x=.ref l->H' l=some (.lst (ns.map V.int))->l≠t->1<=ns.length->ns.length<=10->(∀x∈ns,x.natAbs<=100000000000000000000)->GFeed H' t (N+10)->Yl t H H'->∃(l:Addr) (ns:List Int),[some (V.ref t),some (.int M),some (.int W),some x,none,none,none]=[some (.ref t),some (.int M),some (.int W),some (.ref l),none,none,none]/\H' l=some (.lst (ns.map V.int))/\l≠t/\1<=ns.length/\ns.length<=10/\(∀x∈ns,x.natAbs<=100000000000000000000)/\GFeed H' t (N+10)/\Yl t H H' :=
   fun x l ns H' e h1 h2 h3 h4 h5 h6 h7=>⟨l,ns,by rw[e],h1,h2,h3,h4,h5,h6,h7⟩
  refine⟨smq rfl,fun p hp=>?_⟩;have sa:Yb H1 (upd H1 p (.lst [.int 0,.int 1])):=Yb.upd hp;have ga:upd H1 p (.lst [.int 0,.int 1]) p=some (.lst [.int 0,.int 1]):=AD;generalize upd H1 p (.lst [.int 0,.int 1])=Ha at *;refine⟨⟨by decide,by decide,by decide⟩,?_⟩;refine⟨smq rfl,fun p2 hp2=>?_⟩;generalize hten:(10:Int) ^ Int.toNat 20=ten;have sb:Yb Ha (upd Ha p2 (.lst [.int (-7),.int ten,.int 3])):=Yb.upd hp2;have gb:upd Ha p2 (.lst [.int (-7),.int ten,.int 3]) p2=some (.lst [.int (-7),.int ten,.int 3]):=AD;generalize upd Ha p2 (.lst [.int (-7),.int ten,.int 3])=Hb at *;refine⟨smq rfl,fun p3 hp3=>?_⟩;have sc:Yb Hb (upd Hb p3 (.lst ([5,1,4,2,3,0,7,6,8,9].map V.int))):=Yb.upd hp3;have gc:upd Hb p3 (.lst ([5,1,4,2,3,0,7,6,8,9].map V.int)) p3=some (.lst ([5,1,4,2,3,0,7,6,8,9].map V.int)):=AD;refine(show ∀Hc,Yb Hb Hc->Hc p3=some (.lst ([5,1,4,2,3,0,7,6,8,9].map V.int))->_ from ?_) (upd Hb p3 (.lst ([5,1,4,2,3,0,7,6,8,9].map V.int))) sc gc;clear sc gc;intro Hc sc gc;refine⟨smq rfl,fun p4 hp4=>?_⟩;have sd:Yb Hc (upd Hc p4 (.lst [.ref p,.ref p2,.ref p3])):=Yb.upd hp4;have gd:upd Hc p4 (.lst [.ref p,.ref p2,.ref p3]) p4=some (.lst [.ref p,.ref p2,.ref p3]):=AD;have Fc:=F1.same (sa.trans (sb.trans sc));have pt:p≠t:=F1.neT hp;have pt2:p2≠t:=(F1.same sa).neT hp2;have pt3:p3≠t:=(F1.same (sa.trans sb)).neT hp3;have pt4:p4≠t:=Fc.neT hp4;generalize upd Hc p4 (.lst [.ref p,.ref p2,.ref p3])=Hd at *;have S:=sa.trans (sb.trans (sc.trans sd));refine⟨_,F1.same S,by lia,d3,fun i H5 i0 i1 F5 f5=>?_⟩;obtain⟨z,hz,hz3⟩:=Uj (a:=V.ref p) (b:=V.ref p2) (c:=V.ref p3) i0 i1;refine⟨_,_,.inl (.of (by rw[f5 p4 pt4];exact gd)),hz,?_⟩;have f:Yl t H H5:=f1.trans (Yl.trans (fun b o _ e=>S b o e) (Ap f5))
  rcases hz3 with e | e | e
  ·exact bound z p [0,1] H5 e (by rw[f5 p pt];exact(sb.trans (sc.trans sd)) _ _ ga) pt (by decide) (by decide) (by decide) F5 f
  ·refine bound z p2 [-7,ten,3] H5 e (by rw[f5 p2 pt2];exact(sc.trans sd) _ _ gb) pt2 (show 1<=3 by decide) (show 3<=10 by decide) ?_ F5 f;rw[<- hten];decide
  ·exact bound z p3 [5,1,4,2,3,0,7,6,8,9] H5 e (by rw[f5 p3 pt3];exact sd _ _ gc) pt3 (by decide) (by decide) (by decide) F5 f
 rintro Z H2 ⟨l,ns,rfl,gl,lt,n1,n10,hn,F2,f2⟩;refine AY (fun Z H'=>∃(z:V) (k:Addr) (ls:List Int),Z=[some (.ref t),some (.int M),some (.int W),z,some (.ref k),none,none]/\H' k=some (.lst (ls.map V.int))/\k≠t/\ls.length=M/\(∀x∈ls,x.natAbs<=100000000000000000000)/\GFeed H' t (N+10+M)/\Yl t H H') ?_ ?_ (by walk_at "sm")
 ·refine⟨(M:Int),rfl,by lia,by lia,?_⟩
  refine BU (fun i ys H'=>GFeed H' t (N+10+i)/\Yl t H H'/\H' l=some (.lst (ns.map V.int))/\∃ls:List Int,ys=ls.map V.int/\ls.length=i/\∀x∈ls,x.natAbs<=100000000000000000000) ⟨F2,f2,gl,[],rfl,rfl,nofun⟩ (fun i ys H' hi ⟨_,_,_,ls,e,el,_⟩=>by
   rw[e,ZB,el];exact Ad (by lia)) ?_ ?_
  ·rintro i ys H3 hi ⟨F3,f3,gl3,ls,rfl,el,hs⟩;refine⟨_,.inl ⟨_,.of gl3,rfl⟩,?_⟩;refine⟨_,F3,by lia,Au (by rw[ZB];lia) (by rw[ZB];lia),fun d H4 x0 x1 F4 f4=>?_⟩;rw[ZB]at x1;have hd:d.toNat < ns.length:=by lia
   refine⟨_,_,.inl (.of (by rw[f4 l lt];exact gl3)),Ah (n:=d.toNat) (by lia) (by rw[ZR,ZE hd];rfl),F4.mono (by lia),f3.trans (Ap f4),by rw[f4 l lt];exact gl3,ls++[ns[d.toNat]],by rw[ZJ];rfl,by rw[ZN,el];rfl,?_⟩;intro x hx
   rcases Zf.mp hx with h | h
   ·exact hs x h
   ·rw[ZO.mp h];exact hn _ (Zd hd)
  ·rintro ys H3 ⟨F3,f3,gl3,ls,rfl,el,hs⟩ k hk;rw[Zc]at el F3;exact⟨_,k,ls,rfl,AD,F3.neT hk,el,hs,F3.upd hk,f3.trans (Yl.upd hk)⟩
 clear F2 f2 gl;rintro Z H2 ⟨z,k,ls,rfl,gk,kt,ll,hs,F2,f2⟩;refine⟨smq rfl,fun r hr'=>?_⟩;have hrH:H r=none:=F2.free f2 hr';have rt:r≠t:=F2.neT hr';have rk:k≠r:=fun e=>by rw[e,hr']at gk;cases gk
 dsimp only[AZ];refine AY (fun Z H'=>∃(z6:Option V) (rs:List (List Bool)) (ys:List V),Z=[some (.ref t),some (.int M),some (.int W),z,some (.ref k),some (.ref r),z6]/\H' k=some (.lst (ls.map V.int))/\H' r=some (.lst ys)/\rs.length=W/\(∀b∈rs,b.length=M)/\Yd K H' (Ae rs) ys/\GFeed H' t (N+300)/\Yl t H H') ?_ ?_ (by walk_at "sm")
 ·refine⟨(W:Int),rfl,by lia,by lia,?_⟩;refine Cg (fun i Z H'=>∃(z6:Option V) (rs:List (List Bool)) (ys:List V),Z=[some (.ref t),some (.int M),some (.int W),z,some (.ref k),some (.ref r),z6]/\H' k=some (.lst (ls.map V.int))/\H' r=some (.lst ys)/\rs.length=i/\(∀b∈rs,b.length=M)/\Yd K H' (Ae rs) ys/\GFeed H' t (N+10+M+M * i)/\Yl t H H') ⟨none,[],[],rfl,by rw[AJ rk];exact gk,AD,rfl,nofun,Ag,F2.upd hr',f2.trans (Yl.upd hr')⟩ ?_ ?_
  ·rintro i Z H3 hi ⟨z6,rs,ys,rfl,gk3,gr3,rl,hb,R3,F3,f3⟩;have hMi:M * i<=160:=Zj (Nat.mul_le_mul M10 (show i<=16 by lia)) (by decide);have hyl:ys.length=i:=by rw[<- R3.length,FF,rl]
   refine⟨.inl ⟨rfl,_,.of gr3⟩,?_⟩;refine⟨(M:Int),rfl,by lia,by lia,?_⟩
   refine BU (fun j zs H'=>GFeed H' t (N+10+M+M * i+j)/\Yl t H3 H'/\∃bs:List Bool,zs=bs.map V.bl/\bs.length=j) ⟨F3,Yl.refl,[],rfl,rfl⟩ (fun j zs H' hj ⟨_,_,bs,e,el⟩=>by
    rw[e,ZB,el];exact Ad (by lia)) ?_ ?_
   ·rintro j zs H4 hj ⟨F4,f4,bs,rfl,rfl⟩;refine⟨_,F4,by lia,Au (by decide) (by decide),fun d H5 _ _ F5 f5=>?_⟩;exact⟨F5.mono (by lia),f4.trans (Ap f5),bs++[_],by rw[ZJ];rfl,by rw[ZN];rfl⟩
   ·rintro zs H4 ⟨F4,f4,bs,rfl,el⟩ k4 hk4;rw[Zc]at el F4;refine⟨_,.inl ⟨.of AD,fun p hp=>?_⟩⟩;have s5:=(Yb.upd (o:=.lst (bs.map V.bl)) hk4).trans (Yb.upd (o:=.tup (bs.map V.bl)) hp);have g5:=AD (H:=upd H4 k4 (.lst (bs.map V.bl))) (a:=p) (o:=.tup (bs.map V.bl));generalize upd (upd H4 k4 (.lst (bs.map V.bl))) p (.tup (bs.map V.bl))=H5 at *;have f35:Yl t H3 H5:=f4.trans fun b o _ e=>s5 b o e
    have gr5:H5 r=some (.lst ys):=f35 _ _ rt gr3
    have R5:Yd K H5 (Ae (rs++[bs])) (ys++[.ref p]):=by
     have e:Ae (rs++[bs])=Ae rs++[.tup (bs.map Dv.bl)]:=by unfold Ae;rw[ZJ];rfl
     rw[e];exact Yd.append (Yd.frm f35 F3.lst _ _ (Cy _) R3) (AU (BO g5 (CV bs)) Ag)
    refine⟨_,gr5,Ad (by lia),?_⟩;refine⟨_,rs++[bs],_,rfl,by rw[AJ rk];exact f35 _ _ kt gk3,AD,by rw[ZN,rl];rfl,?_,Yd.frm Yl.updT ⟨_,gr5⟩ _ _ (Cy _) R5,((F4.same s5).put rt gr5 (NT (Yd.frm f35 F3.lst _ _ (Cy _) R3))).mono (by rw[Nat.mul_succ];lia),FX (f3.trans f35) hrH⟩;intro b hb'
    rcases Zf.mp hb' with h | h
    ·exact hb b h
    ·rw[ZO.mp h];exact el
  ·rintro Z H3 ⟨z6,rs,ys,rfl,gk3,gr3,rl,hb,R3,F3,f3⟩;rw[Zc]at rl F3;have hMi:M * W<=160:=Zj (Nat.mul_le_mul M10 W16) (by decide);exact⟨z6,rs,ys,rfl,gk3,gr3,rl,hb,R3,F3.mono (by lia),f3⟩
 rintro Z H3 ⟨z6,rs,ys,rfl,gk3,gr3,rl,hb,R3,F3,f3⟩;refine⟨_,.inl ⟨.of gk3,fun p hp=>?_⟩⟩;have s4:Yb H3 (upd H3 p (.tup (ls.map V.int))):=Yb.upd hp;have g4:upd H3 p (.tup (ls.map V.int)) p=some (.tup (ls.map V.int)):=AD;generalize upd H3 p (.tup (ls.map V.int))=H4 at *;refine⟨_,.inl ⟨.of (s4 _ _ gr3),fun p4 hp4=>?_⟩⟩;refine⟨smq rfl,fun p5 hp5=>?_⟩;have s5:=(Yb.upd (o:=.tup ys) hp4).trans (Yb.upd (o:=.tup [.ref p,.ref p4]) hp5);have S5:=s4.trans s5;refine q ls rs _ _ ⟨by lia,by lia,by lia,by lia,fun r h=>by rw[hb r h];lia,hs,.inl (by lia)⟩ ?_ (F3.same S5) (f3.trans fun b o _ e=>S5 b o e);exact BO AD (AU (BO (s5 _ _ g4) (Fn ls)) (AU (BO (Yb.upd hp5 _ _ AD) (Yd.same S5 _ _ R3)) Ag))
theorem VS(bs:List Bool)(m:Nat)(h:bs.length=2 ^ m)(m1:1<=m)(m4:m<=4):∃ls rs,Hg bs m=gmD ls rs/\Gm ls rs:=by
 have h16:2 ^ m<=16:=Zl (n:=2) (j:=4) (by decide) m4;have h2:2<=2 ^ m:=Zl (n:=2) (i:=1) (by decide) m1;refine⟨bs.map fun b=>if b then 1 else 0,(List.range m).map (CC m),?_,?_⟩
 ·unfold Hg gmD Iy CQ Ae;rw[ZBk,ZBk];rfl
 ·refine⟨by rw[ZB];lia,by rw[ZB];lia,by rw[ZB,Zt];lia,by rw[ZB,Zt];lia,?_,?_,.inr (by rw[ZB,Zt];lia)⟩
  ·intro r hr;obtain⟨i,_,rfl⟩:=ZM.mp hr;rw[QT,ZB,h]
  ·intro x hx;obtain⟨b,_,rfl⟩:=ZM.mp hx;cases b <;> decide
theorem SV:Xj P w base T.z54 4 (CT K 500 800000000):=by
 have G_z50:=@Dp P w K mg base T;refine T.z54.F.ok sc_z54 (fun vs H Q E h=>by unfold CT at h;walk_at "e") ?_;walk_at "f";have hr_z50:=hr.mono (show 1<=_ by decide);unfold CT at h;walk_at "g"
 rename_i t;obtain⟨N,F,hN,q⟩:=h;refine⟨_,(@AF _ _ _ _ _ (@AN _ _ 1 _ _ _ _ sc_z54.nd rfl (by right) (AI G_z50 hr_z50 rfl T.z50.m T.z50.F.kp T.z50.b .nil AE (AA (vv 0) (AA AC AB))) (by rfl) (by walk_at "i")) (@AF _ _ _ _ _ (@Ar _ _ _ _ _ _ _ _ (AW (kEq (K:=K) hu) (vv 1) AC) (@AH _ _ _ (@AK _ _ _ _ (AI (@RM P w K mg base T) (hr.mono (show 1<=_ by decide)) rfl T.z30.m T.z30.F.kp T.z30.b .nil AE (AA (AI (@OR P w K mg base T) (hr.mono (show 2<=_ by decide)) rfl T.z41.m T.z41.F.kp T.z41.b .nil AE (AA (vv 0) (AA (AO (BB (K:=K)) AC (AI G_z50 hr_z50 rfl T.z50.m T.z50.F.kp T.z50.b .nil AE (AA (vv 0) (AA AC AB)))) AB))) AB)))) Aq) (@AF _ _ _ _ _ (@Ar _ _ _ _ _ _ _ _ (AW (kEq (K:=K) hu) (vv 1) AC) (@AH _ _ _ (@AK _ _ _ _ (AI (@XH P w K mg base T) (hr.mono (show 1<=_ by decide)) rfl T.z31.m T.z31.F.kp T.z31.b .nil AE (AA (AI (@Vn P w K mg base T) (hr.mono (show 3<=_ by decide)) rfl T.z43.m T.z43.F.kp T.z43.b .nil AE (AA (vv 0) (AA (AO (BB (K:=K)) AC (AI G_z50 hr_z50 rfl T.z50.m T.z50.F.kp T.z50.b .nil AE (AA (vv 0) (AA AC AB)))) (AA (AO (BB (K:=K)) AC (AI G_z50 hr_z50 rfl T.z50.m T.z50.F.kp T.z50.b .nil AE (AA (vv 0) (AA AC AB)))) AB)))) AB)))) Aq) (@AH _ _ _ (@AK _ _ _ _ (DH (AW (kEq (K:=K) hu) (vv 1) AC) (AI (@XR P w K mg base T) (hr.mono (show 2<=_ by decide)) rfl T.z42.m T.z42.F.kp T.z42.b .nil AE (AA (vv 0) AB)) (AI (@Ul P w K mg base T) (hr.mono (show 2<=_ by decide)) rfl T.z35.m T.z35.F.kp T.z35.b .nil AE (AA (vv 0) AB)))))))),?_⟩;have d4:okDiv 4:=Au (by decide) (by decide);have d5:okDiv 5:=Au (by decide) (by decide);have d6:okDiv 6:=Au (by decide) (by decide);have d3:okDiv 3:=Au (by decide) (by decide);refine⟨_,F,by lia,d6,fun way H1 w0 w1 F1 f1=>?_⟩;dsimp only[AZ];refine AT (fun e=>?_) (fun e=>?_)
 ·refine⟨_,F1,by lia,d4,fun a H2 a0 a1 F2 f2=>?_⟩;obtain⟨m,hm⟩:∃m:Nat,1+a=m:=⟨(1+a).toNat,by lia⟩;rw[show Eb K (V.int 1) (V.int a) H2=fun Q=>Q (.int (1+a)) H2 from rfl];rw[hm];refine⟨m,_,F2,by lia,rfl,by lia,by lia,fun bs p H3 hb hp g3 F3 f3=>?_⟩;refine⟨bs,m,.of g3,hb,by lia,by lia,fun u H4 s4 r4=>?_⟩;obtain⟨ls,rs,e,g⟩:=VS bs m hb (by lia) (by lia);rw[e]at r4;exact q ls rs u H4 g r4 ((F3.same s4).mono (by lia)) ((Ap f1).trans ((Ap f2).trans (f3.trans fun b o _ e=>s4 b o e)))
 dsimp only[Cc];refine AT (fun e=>?_) (fun e=>?_)
 ·refine⟨_,F1,by lia,d3,fun a H2 a0 a1 F2 f2=>?_⟩;refine⟨_,F2,by lia,d5,fun b H3 b0 b1 F3 f3=>?_⟩;obtain⟨m,hm⟩:∃m:Nat,1+a=m:=⟨(1+a).toNat,by lia⟩;obtain⟨M,hM⟩:∃M:Nat,2+b=M:=⟨(2+b).toNat,by lia⟩;refine⟨m,M,_,F3,by lia,hm,by lia,by lia,hM,by lia,by lia,fun ts xs p H4 t2 tM tb hp g4 R4 F4 f4=>?_⟩;have h8:2 ^ m<=8:=Zl (n:=2) (j:=3) (by decide) (by lia);refine⟨ts,xs,2 ^ m,g4,R4,t2,by lia,tb,ZBj m,h8,fun ls rs u H5 g s5 r5=>?_⟩;exact q ls rs u H5 g r5 ((F4.same s5).mono (by lia)) ((Ap f1).trans ((Ap f2).trans ((Ap f3).trans (f4.trans fun b o _ e=>s5 b o e))))
 dsimp only[Cc];refine AT (fun e=>?_) (fun e=>?_)
 ·exact⟨_,F1,by lia,fun ls rs u H2 g r2 F2 f2=>q ls rs u H2 g r2 (F2.mono (by lia)) ((Ap f1).trans f2)⟩
 ·exact⟨_,F1,by lia,fun ls rs u H2 g r2 F2 f2=>q ls rs u H2 g r2 (F2.mono (by lia)) ((Ap f1).trans f2)⟩
noncomputable def Aw(rb:List Bool)(ans:Bool)(ts:List Nat):List Nat:=ts.filter fun k=>gB rb k == ans
theorem NW{rb:List Bool}{ans:Bool}(h:ts[i]? = some k):Aw rb ans (ts.take (i+1))=Aw rb ans (ts.take i)++(if (gB rb k == ans)=true then [k] else []):=by
 unfold Aw;rw[Zm,h,ZBq]
 congr 1
 simp only[Option.toList_some,List.filter_cons,List.filter_nil]
theorem IS(rb:List Bool)(ans:Bool)(ts:List Nat):(Aw rb ans ts).length<=ts.length:=ZB1 _ _
noncomputable def D5(K:W.Frag):Sp:=fun vs H Q _=>match vs with
 | [v,.ref p,.int z,.bl ans]=>∃(dl:Dv) (rs:List Dv) (i:Nat) (rb:List Bool) (ts:List Nat),Yh K H (.tup [dl,.tup rs]) v/\z=i/\rs[i]? = some (.tup (rb.map Dv.bl))/\Yo K H p (iL ts)/\ts.length<=100/\(∀t∈ts,t < rb.length)/\∀p' H',Yb H H'->Yo K H' p' (iL (Aw rb ans ts))->Q (.ref p') H'
 | _=>False
theorem SA:AQ (D5 K):=fun vs H Q Q' E h q=>by
 unfold D5 at *;walk_at "q"
theorem JL{d1 d2:Dv}(h:Yh K H (.tup [d1,d2]) v):∃a x1 x2,v=.ref a/\Yo K H a [x1,x2]/\Yh K H d1 x1/\Yh K H d2 x2:=by
 obtain⟨a,xs,rfl,hs,hx⟩:=Ch h;obtain⟨x1,r1,rfl,hx1,hx'⟩:=(show ∃x r,xs=x::r/\Yh K H d1 x/\Yd K H [d2] r by unfold Yd at hx;exact hx);obtain⟨x2,r2,rfl,hx2,hx''⟩:=(show ∃x r,r1=x::r/\Yh K H d2 x/\Yd K H [] r by unfold Yd at hx';exact hx');obtain rfl:r2=[]:=by unfold Yd at hx'';exact hx''
 exact⟨a,x1,x2,rfl,hs,hx1,hx2⟩
theorem Ih:∀{bs:List Bool} {xs:List V},Yd K H (bs.map Dv.bl) xs->xs=bs.map V.bl
 | [],xs,h=>by unfold Yd at h;exact h
 | b::bs,xs,h=>by
  rw[Zi]at h;unfold Yd at h;obtain⟨x,r,rfl,h1,h2⟩:=h;unfold Yh at h1;rw[h1,Ih h2];rfl
theorem Ph:Xj P w base T.z66 1 (D5 K):=by
 refine T.z66.F.ok sc_z66 (fun vs H Q E h=>by unfold D5 at h;walk_at "e") ?_;walk_at "f";unfold D5 at h;walk_at "g"
 rename_i v p z ans;obtain⟨dl,rs,i,rb,ts,hv,e1,hi,hp,tl,tb,q⟩:=h;subst e1;obtain⟨a,x1,x2,rfl,hs,hx1,hx2⟩:=JL hv;obtain⟨a2,ys2,rfl,hs2,hy2⟩:=Ch hx2;obtain⟨x,hxi,hxr⟩:=hy2.get hi;obtain⟨ar,xr,rfl,hsr,hyr⟩:=Ch hxr;obtain rfl:=Ih hyr;refine⟨_,(@AF _ _ _ _ _ (@AN _ _ 4 _ _ _ _ sc_z66.nd rfl (by right) (Yp (K:=K) (Yp (K:=K) (vv 0) AC) (vv 2)) (by rfl) (by walk_at "i")) (@AH _ _ _ (@AK _ _ _ _ (Av (BD (K:=K)) rfl T.z_tuple (by rfl) (AA (An (N':=["thing","row","answer"]) (own:=1) (ix:=[4,3]) rfl (BE (K:=K) (vv 1)) (by kernel_rfl) rfl rfl (by kernel_rfl) (fun c=>AR (i:=0) (show(["thing","row","answer"]:List Str).Nodup by decide +kernel) rfl (by right)) (AX (by decide)) (fun c=>C3 (AW (kEq (K:=K) hu) (Yp (K:=K) (vv 1) (vv 0)) (vv 2))) (fun c=>(vv 0))) AB))))),?_⟩;refine⟨_,.ref a2,.inr hs,rfl,_,.ref ar,.inr hs2,Ah rfl hxi,?_⟩;dsimp only[AZ];refine .inr ⟨⟨_,hp⟩,?_⟩
 refine B3 (xs:=iL ts) (fun k ys H'=>H'=H/\ys=iL (Aw rb ans (ts.take k))) ⟨rfl,rfl⟩ (fun k ys H' _ ⟨e,_⟩=>by rw[e];exact hp) (fun k ys H' hk ⟨_,e⟩=>by
  have:=IS rb ans (ts.take k)
  rw[Za]at this;rw[e,Ai];exact Ad (by lia)) ?_ ?_
 ·rintro k x ys H' hx ⟨rfl,rfl⟩;obtain⟨t,ht,hmem,rfl⟩:=CK hx;refine⟨_,.bl (gB rb t),.inr hsr,Fm (tb t hmem),?_⟩;rw[NW ht,Bv];refine AT (fun e=>?_) (fun e=>?_)
  ·have e':(gB rb t == ans)=true:=by rw[<- Zo (gB rb t == ans)];exact e
   rw[if_pos e'];exact⟨rfl,rfl⟩
  ·have e':¬(gB rb t == ans)=true:=by rw[<- Zo (gB rb t == ans)];exact e
   rw[if_neg e'];exact⟨rfl,by show _=_++[];rw[Zq]⟩
 ·rintro ys H' ⟨rfl,rfl⟩ l hl;rw[ZBQ (by rw[Ai];exact ZD _)];refine⟨_,.inl ⟨.of AD,fun p' hp'=>?_⟩⟩;exact q p' _ ((Yb.upd hl).trans (Yb.upd hp')) (.of AD)
theorem KI:∀{bs:List Int} {xs:List V},Yd K H (bs.map Dv.int) xs->xs=bs.map V.int
 | [],xs,h=>by unfold Yd at h;exact h
 | b::bs,xs,h=>by
  rw[Zi]at h;unfold Yd at h;obtain⟨x,r,rfl,h1,h2⟩:=h;unfold Yh at h1;rw[h1,KI h2];rfl
structure GmAt(K:W.Frag)(H:Hp)(ls:List Int)(rs:List (List Bool))(a tl rl:Addr)(ps:List Addr):Prop where
 two:Yo K H a [.ref tl,.ref rl]
 lab:Yo K H tl (ls.map V.int)
 rows:Yo K H rl (ps.map V.ref)
 len:ps.length=rs.length
 row:∀(i:Nat) (q:Addr) (r:List Bool),ps[i]? = some q->rs[i]? = some r->Yo K H q (r.map V.bl)
theorem N3:∀{rs:List (List Bool)} {xs:List V},Yd K H (Ae rs) xs->∃ps:List Addr,xs=ps.map V.ref/\ps.length=rs.length/\∀(i:Nat) (q:Addr) (r:List Bool),ps[i]? = some q->rs[i]? = some r->Yo K H q (r.map V.bl)
 | [],xs,h=>by
  have:xs=[]:=by simpa [Ae,Yd] using h
  exact⟨[],this,rfl,fun i q r z=>by simp at z⟩
 | r::rs,xs,h=>by
  have h':Yd K H (Dv.tup (r.map Dv.bl)::Ae rs) xs:=h;unfold Yd at h';obtain⟨x,ys,rfl,h1,h2⟩:=h';obtain⟨a,zs,rfl,hs,hz⟩:=Ch h1;obtain rfl:=Ih hz;obtain⟨ps,rfl,hl,hr⟩:=N3 h2;refine⟨a::ps,rfl,by rw[Zn,Zn,hl],fun i q r' hi hr'=>?_⟩;cases i with
  | zero=>cases hi;cases hr';exact hs
  | succ i=>exact hr i q r' hi hr'
theorem BW(h:Yh K H (gmD ls rs) v):∃a tl rl ps,v=.ref a/\GmAt K H ls rs a tl rl ps:=by
 obtain⟨a,x1,x2,rfl,hs,h1,h2⟩:=JL h;obtain⟨tl,zs,rfl,hl,hz⟩:=Ch h1;obtain rfl:=KI hz;obtain⟨rl,ws,rfl,hr,hw⟩:=Ch h2;obtain⟨ps,rfl,e,hp⟩:=N3 hw;exact⟨a,tl,rl,ps,rfl,hs,hl,hr,e,hp⟩
theorem GmAt.same{tl rl:Addr}{ps:List Addr}(g:GmAt K H ls rs a tl rl ps)(s:Yb H H'):GmAt K H' ls rs a tl rl ps :=
 ⟨s.sqT g.two,s.sqT g.lab,s.sqT g.rows,g.len,fun i q r x y=>s.sqT (g.row i q r x y)⟩
theorem GmAt.frm{tl rl:Addr}{ps:List Addr}(g:GmAt K H ls rs a tl rl ps)(f:Yl t H H')(ht:H t=some o)(no:Ct o):GmAt K H' ls rs a tl rl ps :=
 ⟨Cv f ht no g.two,Cv f ht no g.lab,Cv f ht no g.rows,g.len,fun i q r x y=>Cv f ht no (g.row i q r x y)⟩
noncomputable def AM(r:List Bool):Nat:=msk (whr (r.map (· == true)) r.length)
noncomputable def DX(ls:List Int)(z:Int):Nat:=msk (whr (ls.map (· == z)) ls.length)
theorem mskR_bit(r:List Bool)(k:Nat):(AM r).testBit k=gB r k:=by
 unfold AM;rw[(EQ (Jh _ _) (fun t ht=>En ht)).2 k,Z2,decide_eq_true_eq,Lq]
 by_cases h:k < r.length
 ·have e:gB (r.map (· == true)) k=gB r k:=by
   rw[FN (x:=r[k]) (ZE h)];unfold gB;rw[ZQ,ZE h];simp
  rw[e];simp[h]
 ·have e:gB r k=false:=by unfold gB;rw[ZQ,ZBs (by lia)];rfl
  rw[e];simp[h]
theorem Np(ls:List Int)(z:Int)(k:Nat):(DX ls z).testBit k=(decide (k < ls.length) && decide (AG ls k=z)):=by
 unfold DX;rw[(EQ (Jh _ _) (fun t ht=>En ht)).2 k,Z2,decide_eq_true_eq,Lq]
 by_cases h:k < ls.length
 ·have e:gB (ls.map (· == z)) k=decide (AG ls k=z):=by
   rw[FN (x:=ls[k]) (ZE h)];unfold AG;rw[ZQ,ZE h];rfl
  rw[e];simp[h]
 ·simp[h]
theorem Dl(rs:List (List Bool)):Aa (rs.map AM)=rs.map gB:=by
 unfold Aa;rw[ZBk];apply ZB7;intro r _
 funext k
 exact mskR_bit r k
theorem sub_bits:S &&& m=S ↔ ∀k,S.testBit k=true->m.testBit k=true:=by
 constructor
 ·intro e k hk
  have:(S &&& m).testBit k=true:=by rw[e];exact hk
  rw[Z4,hk]at this;simpa using this
 ·intro h;apply Nat.eq_of_testBit_eq;intro k;rw[Z4];cases e:S.testBit k with
  | false=>rfl
  | true=>rw[h k e];rfl
theorem Qf{ms:List Int}(h1:1<=ls.length)(hm:∀z,z∈ms ↔ z∈ls):NF ls (ms.map (DX ls)):=by
 intro S hS;rw[List.any_map,ZBR];constructor
 ·rintro⟨z,hz,h⟩ i j hi hj;have h:=sub_bits.mp (ZP h);have a:=h i hi;have b:=h j hj;rw[Np,ZK,decide_eq_true_eq,decide_eq_true_eq]at a b;rw[a.2,b.2]
 ·intro o
  by_cases e:∃k,S.testBit k=true
  ·obtain⟨k,hk⟩:=e;have hkl:=Ds hS hk;refine⟨AG ls k,(hm _).mpr ?_,ZL (sub_bits.mpr fun i hi=>?_)⟩
   ·unfold AG;rw[ZQ,ZE hkl];exact Zd hkl
   ·rw[Np,ZL (Ds hS hi),ZL (o i k hi hk)];rfl
  ·cases ls with
   | nil=>simp at h1
   | cons x r=>exact⟨x,(hm _).mpr (by simp),ZL (sub_bits.mpr fun i hi=>absurd ⟨i,hi⟩ e)⟩
noncomputable def Ja(K:W.Frag)(C:Addr):Sp:=fun vs H Q _=>match vs with
 | [.ref p,v]=>∃ls rs dx,H p=some (.ins C dx [])/\Yh K H (gmD ls rs) v/\Gm ls rs/\∀d H',H d=none->RkAt K C ls (rs.map AM) H' p d->Yl p H H'->Q .non H'
 | _=>False
theorem NZ{α:Type}[DecidableEq α]:∀{ds ls:List α},ds.Nodup->(∀z∈ds,z∈ls)->ds.length<=ls.length
 | [],ls,_,_=>ZU _
 | z::ds,ls,nd,h=>by
  obtain⟨h1,h2⟩:=ZBg.mp nd;have hz:z∈ls:=h z (by simp)
  have:=NZ (ds:=ds) (ls:=ls.erase z) h2 (fun x hx=>(List.mem_erase_of_ne (fun e:x=z=>h1 (e ▸ hx))).mpr (h x (ZX _ hx)))
  have e:=List.length_erase_of_mem hz
  have:0 < ls.length:=List.length_pos_of_mem hz
  rw[Zn];lia
theorem W8(h1:ts.Pairwise (· < ·))(h2:∀t∈ts,t < n):ts.length<=n:=Do n ts (h1.imp fun h=>ZT h) h2
theorem Mi:Xk P w mg base T.z29 4 (Ja K T.C_Reckoner):=by
 have G_z40:=@HB P w K mg base T;have G_z36:=@W4 P w K mg base T;refine T.z29.F.ok Ug (fun vs H Q E h=>by unfold Ja at h;walk_at "e") ?_;walk_at "f";have hr_z40:=hr.mono (show 3<=_ by decide);have hr_z36:=hr.mono (show 1<=_ by decide);unfold Ja at h;walk_at "g"
 rename_i p v;obtain⟨ls,rs,dx,hp,hv,G,q⟩:=h;obtain⟨a,tl,rl,ps,rfl,g⟩:=BW hv;have l1:=G.l1;have l16:=G.l16;have r16:=G.r16;have hpl:=g.len;refine⟨_,(@AF _ _ _ _ _ (Dc T.cl_Reckoner T.na_Reckoner_labels (vv 0) (Av (BD (K:=K)) rfl T.z_tuple (by rfl) (AA (Yp (K:=K) (vv 1) AC) AB))) (@AF _ _ _ _ _ (Dc T.cl_Reckoner T.na_Reckoner_yeses (vv 0) (@An _ _ _ _ _ _ _ ["row"] 1 [] _ _ _ _ rfl (BE (K:=K) (Yp (K:=K) (vv 1) AC)) (by kernel_rfl) rfl rfl (by kernel_rfl) (fun c=>AR (i:=0) (show(["row"]:List Str).Nodup by decide +kernel) rfl (by right)) (AX (by decide)) (fun c=>Ao) (fun c=>(AI G_z40 hr_z40 rfl T.z40.m T.z40.F.kp T.z40.b .nil AE (AA (AI G_z36 hr_z36 rfl T.z36.m T.z36.F.kp T.z36.b .nil AE (AA Am (AA (vv 0) AB))) AB))) (by intro _;rfl))) (@AF _ _ _ _ _ (Dc T.cl_Reckoner T.na_Reckoner_alike (vv 0) (An (N':=["label","self"]) (own:=1) (ix:=[0]) rfl (BE (K:=K) (Ab (Qz (P:=P) (w:=w) rfl) rfl T.z_sorted (by rfl) (AA (Av (TZ (K:=K) (P:=P) (w:=w) rfl) rfl T.z_set (by rfl) (AA (BM T.cl_Reckoner T.na_Reckoner_labels (vv 0)) AB)) AB))) (by kernel_rfl) rfl rfl (by kernel_rfl) (fun c=>AR (i:=0) (show(["label","self"]:List Str).Nodup by decide +kernel) rfl (by right)) (AX (by decide)) (fun c=>Ao) (fun c=>(AI G_z40 hr_z40 rfl T.z40.m T.z40.F.kp T.z40.b .nil AE (AA (AI G_z36 hr_z36 rfl T.z36.m T.z36.F.kp T.z36.b .nil AE (AA (vv 0) (AA (BM T.cl_Reckoner T.na_Reckoner_labels (vv 1)) AB))) AB))))) (@AH _ _ _ (Dc T.cl_Reckoner T.na_Reckoner_known (vv 0) GJ))))),?_⟩;refine⟨_,.ref tl,.inr g.two,rfl,_,.inr ⟨g.lab,dx,_,hp,(show 0 < 1000 by decide),?_⟩⟩;have f1:Yl p H (upd H p (.ins T.C_Reckoner dx (Ac "labels" (.ref tl) []))):=Yl.updT;have hp1:upd H p (.ins T.C_Reckoner dx (Ac "labels" (.ref tl) [])) p=some (.ins T.C_Reckoner dx [("labels",.ref tl)]):=by rw[pf1];exact AD
 have g1:=g.frm f1 hp Dq;generalize upd H p (.ins T.C_Reckoner dx (Ac "labels" (.ref tl) []))=H1 at *
 -- the rows
 refine⟨_,.ref rl,.inr g1.two,rfl,.inr ⟨⟨_,g1.rows⟩,?_⟩⟩
 refine B3 (xs:=ps.map V.ref) (fun k zs H'=>Yb H1 H'/\zs=iL ((rs.take k).map AM)) ⟨Yb.refl _,rfl⟩ (fun k zs H' _ ⟨s,_⟩=>s.sqT g1.rows) (fun k zs H' hk ⟨_,e⟩=>by
  rw[ZB]at hk;rw[e,Ai,ZB,Za];exact Ad (by lia)) ?_ ?_
 ·rintro k x zs H' hx ⟨s1,rfl⟩;rw[ZR]at hx;cases e0:ps[k]? with
  | none=>rw[e0]at hx;cases hx
  | some b =>
   rw[e0]at hx;cases hx;have hk:k < rs.length:=by rw[<- hpl];exact(Zg.mp e0).1
   have er:rs[k]? = some rs[k]:=ZE hk;have hrow:=G.row _ (Zd hk);refine⟨rs[k],s1.sqT (g1.row k b _ e0 er),by lia,fun l H2 hl s2 g2=>?_⟩;refine⟨_,.inl (.of g2),by have:=Em (rs[k].map (· == true)) rs[k].length;lia,fun t ht=>by have:=En ht;lia,fun H3 s3=>?_⟩;refine⟨s1.trans (s2.trans s3),?_⟩;rw[Zm,er,ZJ,Bv];rfl
 rintro zs H2' ⟨s1,rfl⟩ yl hyl;rw[ZB,hpl,Zu];have s2:Yb H1 (upd H2' yl (.lst (iL (rs.map AM)))):=s1.trans (Yb.upd hyl);have gy2:upd H2' yl (.lst (iL (rs.map AM))) yl=some (.lst (iL (rs.map AM))):=AD;generalize upd H2' yl (.lst (iL (rs.map AM)))=H2 at *;have hp2:=s2 _ _ hp1;have ny:yl≠p:=Bm gy2 hp2 (by intro z;cases z);refine⟨dx,_,hp2,(show 1 < 1000 by decide),?_⟩;have f3:Yl p H2 (upd H2 p (.ins T.C_Reckoner dx (Ac "yeses" (.ref yl) [("labels",.ref tl)]))):=Yl.updT;have hp3:upd H2 p (.ins T.C_Reckoner dx (Ac "yeses" (.ref yl) [("labels",.ref tl)])) p=some (.ins T.C_Reckoner dx [("labels",.ref tl),("yeses",.ref yl)]):=by rw[pf2];exact AD
 have g3:=(g1.same s2).frm f3 hp2 Dq;have gy3:=f3 _ _ ny gy2;have F3:Yl p H (upd H2 p (.ins T.C_Reckoner dx (Ac "yeses" (.ref yl) [("labels",.ref tl)]))):=f1.trans ((Bh s2).trans f3);generalize upd H2 p (.ins T.C_Reckoner dx (Ac "yeses" (.ref yl) [("labels",.ref tl)]))=H3 at *
 -- the labels
 refine⟨dx,_,.ref tl,hp3,by rfl,ls,g3.lab,by lia,fun ds qs nd hmem hqs=>?_⟩;have hdl:ds.length<=ls.length:=NZ nd fun z hz=>(hmem z).mp hz
 refine⟨ds,AD,by lia,fun ms l2 hml hmm _ hl2=>.inl ⟨⟨_,.of AD⟩,?_⟩⟩;have s4:Yb H3 (upd (upd H3 qs (.ext (C4 P w qs ds))) l2 (.lst (ms.map V.int))):=(Yb.upd hqs).trans (Yb.upd hl2);have gl4:upd (upd H3 qs (.ext (C4 P w qs ds))) l2 (.lst (ms.map V.int)) l2=some (.lst (ms.map V.int)):=AD;generalize upd (upd H3 qs (.ext (C4 P w qs ds))) l2 (.lst (ms.map V.int))=H4 at *;have g4:=g3.same s4;have hp4:=s4 _ _ hp3
 refine Du (xs:=ms.map V.int) (fun k zs H'=>Yb H4 H'/\zs=iL ((ms.take k).map (DX ls))) ⟨Yb.refl _,rfl⟩ (fun k zs H' _ ⟨s,_⟩=>s.sqL (.of gl4)) (fun k zs H' hk ⟨_,e⟩=>by
  rw[ZB]at hk;rw[e,Ai,ZB,Za];exact Ad (by lia)) ?_ ?_
 ·rintro k x zs H' hx ⟨s5,rfl⟩;rw[ZR]at hx;cases e0:ms[k]? with
  | none=>rw[e0]at hx;cases hx
  | some z =>
   rw[e0]at hx;cases hx;refine⟨dx,_,.ref tl,s5 _ _ hp4,by rfl,ls,s5.sqT g4.lab,by lia,fun l H2 hl s6 g2=>?_⟩;refine⟨_,.inl (.of g2),by have:=Em (ls.map (· == z)) ls.length;lia,fun t ht=>by have:=En ht;lia,fun H3 s7=>?_⟩;refine⟨s5.trans (s6.trans s7),?_⟩;rw[Zm,e0,ZJ,Bv];rfl
 rintro zs H5' ⟨s5,rfl⟩ al hal;rw[ZB,Zu];have s6:Yb H4 (upd H5' al (.lst (iL (ms.map (DX ls))))):=s5.trans (Yb.upd hal);have ga6:upd H5' al (.lst (iL (ms.map (DX ls)))) al=some (.lst (iL (ms.map (DX ls)))):=AD;generalize upd H5' al (.lst (iL (ms.map (DX ls))))=H6 at *;have hp6:=s6 _ _ hp4;have na:al≠p:=Bm ga6 hp6 (by intro z;cases z);refine⟨dx,_,hp6,(show 2 < 1000 by decide),?_⟩;have f7:Yl p H6 (upd H6 p (.ins T.C_Reckoner dx (Ac "alike" (.ref al) [("labels",.ref tl),("yeses",.ref yl)]))):=Yl.updT;have hp7:upd H6 p (.ins T.C_Reckoner dx (Ac "alike" (.ref al) [("labels",.ref tl),("yeses",.ref yl)])) p=some (.ins T.C_Reckoner dx [("labels",.ref tl),("yeses",.ref yl),("alike",.ref al)]):=by rw[pf3];exact AD
 have g7:=(g4.same s6).frm f7 hp6 Dq;have gy7:=f7 _ _ ny (s6 _ _ (s4 _ _ gy3));have ga7:=f7 _ _ na ga6;have F7:Yl p H (upd H6 p (.ins T.C_Reckoner dx (Ac "alike" (.ref al) [("labels",.ref tl),("yeses",.ref yl)]))):=F3.trans ((Bh s4).trans ((Bh s6).trans f7));generalize upd H6 p (.ins T.C_Reckoner dx (Ac "alike" (.ref al) [("labels",.ref tl),("yeses",.ref yl)]))=H7 at *
 -- nothing known yet
 intro d hd;have s8:Yb H7 (upd H7 d (.dK [])):=Yb.upd hd;have nd8:d≠p:=fun e=>by rw[e,hp7]at hd;cases hd
 have gd8:upd H7 d (.dK []) d=some (.dK []):=AD
 have hd0:H d=none:=by
  cases e:H d with
  | none=>rfl
  | some o=>rw[F7 d o nd8 e]at hd;cases hd
 generalize upd H7 d (.dK [])=H8 at *;have hp8:=s8 _ _ hp7;refine⟨dx,_,hp8,(show 3 < 1000 by decide),?_⟩;have f9:Yl p H8 (upd H8 p (.ins T.C_Reckoner dx (Ac "known" (.ref d) [("labels",.ref tl),("yeses",.ref yl),("alike",.ref al)]))):=Yl.updT;have hp9:upd H8 p (.ins T.C_Reckoner dx (Ac "known" (.ref d) [("labels",.ref tl),("yeses",.ref yl),("alike",.ref al)])) p=some (.ins T.C_Reckoner dx (Bc (.ref tl) (.ref yl) (.ref al) (.ref d))):=by rw[pf4];exact AD
 refine q d _ hd0 ⟨⟨dx,tl,yl,al,_,[],hp9,((g7.same s8).frm f9 hp8 Dq).lab,f9 _ _ ny (s8 _ _ gy7),f9 _ _ na (s8 _ _ ga7),f9 _ _ nd8 gd8,by rw[ZB];lia,Qf l1 (fun z=>by rw[hmm z,hmem z]),⟨by simp,fun e he=>by simp at he⟩⟩,l16,by rw[ZB];exact r16⟩ (F7.trans ((Bh s8).trans f9))
noncomputable def Ei(K:W.Frag):Sp:=fun vs H Q _=>match vs with
 | [v,.ref p]=>∃ls rs ts,Yh K H (gmD ls rs) v/\Gm ls rs/\SqI K H p ts/\ts.Pairwise (· < ·)/\(∀t∈ts,t < ls.length)/\(∃n,Can (AG ls) (rs.map gB) n (fun k=>decide (k∈ts)))/\∀(m:Nat) H',Yb H H'->As (AG ls) (rs.map gB) (fun k=>decide (k∈ts)) m->Q (.int (m:Nat)) H'
 | _=>False
theorem Oo:AQ (Ei K):=fun vs H Q Q' E h q=>by
 unfold Ei at *;walk_at "q"
theorem SqI.same(h:SqI K H p ts)(s:Yb H H'):SqI K H' p ts:=by
 rcases h with h | h
 ·exact .inl (s.sqL h)
 ·exact .inr (s.sqT h)
theorem Df(N:Nat)(S:Nat->Bool):Ax N S<=N:=by
 unfold Ax
 have:=ZB1 S (List.range N)
 rw[Zt]at this;exact this
theorem Ta:Xj P w base T.z58 73 (Ei K):=by
 refine T.z58.F.ok Pg (fun vs H Q E h=>by unfold Ei at h;walk_at "e") ?_;walk_at "f";have hr_z29:=hr.mono (show 4<=_ by decide);have hr1_z29:=hr.mono (show 4+1<=_ by decide);unfold Ei at h;walk_at "g"
 rename_i v p;obtain⟨ls,rs,ts,hv,G,hp,hrise,Yq,⟨n,hc⟩,q⟩:=h;have hl:=W8 hrise Yq;have l16:=G.l16;obtain⟨m1,m2⟩:=EQ hrise Yq;have em:(msk ts).testBit=fun k=>decide (k∈ts):=funext m2
 refine⟨_,(@AH _ _ _ (@AK _ _ _ _ (A3 (JB T.mk_Reckoner (@Mi P w K mg base T) hr1_z29 rfl T.mC_Reckoner T.z29.b .nil AE (AA (vv 0) AB)) T.cl_Reckoner T.z17.m (@Fg P w K mg base T) (hr.mono (show 72<=_ by decide)) T.z17.b .nil AE (AA (AI (@HB P w K mg base T) (hr.mono (show 3<=_ by decide)) rfl T.z40.m T.z40.F.kp T.z40.b .nil AE (AA (vv 1) AB)) AB)))),?_⟩;intro x dx hx hdx Yu
 have s1:Yb H (upd (upd H dx (.own x)) x (.ins T.C_Reckoner dx [])):=(Yb.upd (o:=.own x) hdx).trans (fun b o e=>by
  have:b≠x:=fun z=>by
   rw[z,AJ (Ne.symm Yu),hx]at e;cases e
  rw[AJ this];exact e)
 have hx1:upd (upd H dx (.own x)) x (.ins T.C_Reckoner dx []) x=some (.ins T.C_Reckoner dx []):=AD;generalize upd (upd H dx (.own x)) x (.ins T.C_Reckoner dx [])=H1 at *;refine⟨ls,rs,dx,hx1,hv.same s1,G,fun d H2 hd R f2=>⟨rfl,?_⟩⟩;have hd0:H d=none:=s1.free hd;have s2:Yb H H2:=fun b o e=>f2 b o (BZ e hx) (s1 _ _ e)
 obtain⟨dx2,tl2,yl2,al2,as2,kvs2,k1,_⟩:=id R.at_;refine⟨x,dx2,_,rfl,k1,ln1 _ _ _ _,ts,hp.same s2,by lia,fun t ht=>by have:=Yq t ht;lia,fun H3 s3=>?_⟩;refine⟨ls,rs.map AM,d,msk ts,R.same s3,rfl,m1,⟨n,by rw[Dl,em];exact hc⟩,by have:=Df ls.length (msk ts).testBit;lia,fun m H4 hm R4 f4=>?_⟩;rw[Dl,em]at hm;exact q m H4 (fun b o e=>f4 b o (BZ e hd0) (s3 _ _ (s2 _ _ e))) hm
noncomputable abbrev DF:=List (List Nat × Int)
noncomputable def A9(e:List Nat × Int):Dw:=.tup [.tup (e.1.map fun(t:Nat)=>Dw.int (t:Int)),.int e.2]
structure EntOk(n:Nat)(e:List Nat × Int):Prop where
 up:e.1.Pairwise (· < ·)
 lt:∀t∈e.1,t < n
 one:1<=e.2
structure NumsOf(n:Nat)(es:DF)(Yc:List (Key × V)):Prop extends NumsOk n Yc where
 fro:∀(S:Nat) (k:Int),(kN S,V.int k)∈Yc->∃e∈es,S=msk e.1/\k=e.2
 to_:∀e∈es,∃k:Int,(kN (msk e.1),V.int k)∈Yc/\e.2<=k
theorem NumsOf.put(h:NumsOf n es Yc){e:List Nat × Int}(he:EntOk n e){k0:Int}(hk:(valV Yc (kN (msk e.1))=none/\k0=0)\/valV Yc (kN (msk e.1))=some (.int k0)) :
 NumsOf n (es++[e]) (At Yc (kN (msk e.1)) (.int (max k0 e.2))):=by
 obtain⟨hS,_⟩:=EQ he.up he.lt;have one:=he.one;refine⟨⟨Mx h.nd,fun x hx=>?_⟩,fun S k hx=>?_,fun x hx=>?_⟩
 ·rcases put_mem hx with rfl | ⟨q,_⟩
  ·exact⟨_,_,rfl,hS,by lia⟩
  ·exact h.ok x q
 ·rcases put_mem hx with q | ⟨q,_⟩
  ·have e1:kN S=kN (msk e.1):=congrArg Prod.fst q;have e2:V.int k=V.int (max k0 e.2):=congrArg Prod.snd q;have e3:S=msk e.1:=by injection e1 with z;lia
   cases e2
   by_cases z:k0<=e.2
   ·exact⟨e,by simp,e3,by lia⟩
   ·rcases hk with ⟨_,y⟩ | y
    ·lia
    ·obtain⟨x,hx1,hx2,hx3⟩:=h.fro _ _ (EJ y);exact⟨x,Z5 _ hx1,by lia,by lia⟩
  ·obtain⟨x,hx1,hx2⟩:=h.fro S k q;exact⟨x,Z5 _ hx1,hx2⟩
 ·rcases Zf.mp hx with q | q
  ·obtain⟨k,a,b⟩:=h.to_ x q
   by_cases z:kN (msk x.1)=kN (msk e.1)
   ·rw[z]at a ⊢;refine⟨_,Ki,?_⟩
    have:=O1 h.nd a
    rcases hk with ⟨y,_⟩ | y
    ·rw[y]at this;cases this
    ·rw[y]at this;cases this;lia
   ·exact⟨k,VQ a z,b⟩
  ·have:x=e:=by simpa using q
   subst this;exact⟨_,Ki,by lia⟩
noncomputable def LP(K:W.Frag)(H:Hp)(e:List Nat × Int)(x:V):Prop:=∃b c,x=.ref b/\Yo K H b [.ref c,.int e.2]/\Yo K H c (iL e.1)
structure EntsAt(K:W.Frag)(H:Hp)(es:DF)(ua:Addr)(xs:List V):Prop where
 sq:Yo K H ua xs
 len:xs.length=es.length
 at_:∀(i:Nat) (e:List Nat × Int),es[i]? = some e->∃x,xs[i]? = some x/\LP K H e x
theorem MK:∀{ts:List Nat} {xs:List V},Yf K H (ts.map fun(t:Nat)=>Dw.int (t:Int)) xs->xs=iL ts
 | [],xs,h=>by unfold Yf at h;exact h
 | t::ts,xs,h=>by
  rw[Zi]at h;unfold Yf at h;obtain⟨x,r,rfl,h1,h2⟩:=h;unfold Yj at h1;rw[h1,MK h2];rfl
theorem K6{e:List Nat × Int}{x:V}(h:Yj K H (A9 e) x):LP K H e x:=by
 obtain⟨b,xs,rfl,hb,hx⟩:=CN h;unfold Yf at hx;obtain⟨x0,l0,rfl,r0,hx⟩:=hx;unfold Yf at hx;obtain⟨x1,l1,rfl,r1,hx⟩:=hx;unfold Yf at hx;subst hx;obtain⟨c,zs,rfl,hc,hz⟩:=CN r0;unfold Yj at r1;subst r1;rw[MK hz]at hc;exact⟨b,c,rfl,hb,hc⟩
theorem MV{u:V}(h:Yj K H (.tup (es.map A9)) u):∃ua xs,u=.ref ua/\EntsAt K H es ua xs:=by
 obtain⟨ua,xs,rfl,hs,hx⟩:=CN h;refine⟨ua,xs,rfl,hs,by rw[<- hx.length,ZB],fun i e he=>?_⟩;obtain⟨x,h1,h2⟩:=hx.get (i:=i) (d:=A9 e) (by rw[ZR,he];rfl);exact⟨x,h1,K6 h2⟩
theorem EntsAt.same{ua:Addr}(h:EntsAt K H es ua xs)(s:Yb H H'):EntsAt K H' es ua xs:=⟨s.sqT h.sq,h.len,fun i e he=>by
 obtain⟨x,h1,b,c,h2,h3,h4⟩:=h.at_ i e he;exact⟨x,h1,b,c,h2,s.sqT h3,s.sqT h4⟩⟩
theorem EntsAt.frm{ua:Addr}(h:EntsAt K H es ua xs)(f:Yl d H H')(hd:H d=some o)(no:Ct o):EntsAt K H' es ua xs:=⟨Cv f hd no h.sq,h.len,fun i e he=>by
 obtain⟨x,h1,b,c,h2,h3,h4⟩:=h.at_ i e he;exact⟨x,h1,b,c,h2,Cv f hd no h3,Cv f hd no h4⟩⟩
noncomputable def EU(K:W.Frag)(C:Addr):Sp:=fun vs H Q _=>match vs with
 | [.ref p,v,u]=>∃ls rs dx es,H p=some (.ins C dx [])/\Yh K H (gmD ls rs) v/\Gm ls rs/\Yj K H (.tup (es.map A9)) u/\(∀e∈es,EntOk ls.length e)/\es.length<=100000/\∀Yc nd fd H',H nd=none->H fd=none->nd≠p->fd≠p->NumsOf ls.length es Yc->BrAt K C ls.length (rs.map AM) Yc H' p nd fd->Yl p H H'->Q .non H'
 | _=>False
theorem RJ:AQ (EU K C):=fun vs H Q Q' E h q=>by
 unfold EU at *;walk_at "q"
theorem Ts:Xk P w mg base T.z34 4 (EU K T.C_Bearing):=by
 have G_z40:=@HB P w K mg base T;refine T.z34.F.ok sc_z34 (fun vs H Q E h=>by unfold EU at h;walk_at "e") ?_;walk_at "f";have hr_z40:=hr.mono (show 3<=_ by decide);have mo1:AQ (D1 K):=US;unfold EU at h;walk_at "g"
 rename_i p v u;obtain⟨ls,rs,dx,es,hp,hv,G,hes,hok,hel,q⟩:=h;obtain⟨a,tl,rl,ps,rfl,g⟩:=BW hv;have l16:=G.l16;have r16:=G.r16;have hpl:=g.len;refine⟨_,(@AF _ _ _ _ _ (Dc T.cl_Bearing T.na_Bearing_yeses (vv 0) (An (N':=["row"]) (own:=1) (ix:=[]) rfl (BE (K:=K) (Yp (K:=K) (vv 1) AC)) (by kernel_rfl) rfl rfl (by kernel_rfl) (fun c=>AR (i:=0) (show(["row"]:List Str).Nodup by decide +kernel) rfl (by right)) (AX (by decide)) (fun c=>Ao) (fun c=>(AI G_z40 hr_z40 rfl T.z40.m T.z40.F.kp T.z40.b .nil AE (AA (An (N':=["each","answer"]) (own:=2) (ix:=[]) rfl (Jr (K:=K) rfl T.z_enumerate (AA (vv 0) AB)) (by kernel_rfl) rfl rfl (by kernel_rfl) (fun c=>Es (K:=K) (n:=2) rfl (Bg (AR (i:=0) (show(["each","answer"]:List Str).Nodup by decide +kernel) rfl (by right)) (Bg (AR (i:=1) (show(["each","answer"]:List Str).Nodup by decide +kernel) rfl (by right)) DG))) (EB (CO BV (De BV CA) (AX (by decide)) (CO BV CA (AX (by decide)) Ee))) (fun c=>C3 (BL (vv 1))) (fun c=>(vv 0))) AB))))) (@AF _ _ _ _ _ (Dc T.cl_Bearing T.na_Bearing_numbers (vv 0) GJ) (@AF _ _ _ _ _ (Dc T.cl_Bearing T.na_Bearing_found (vv 0) GJ) (@AH _ _ _ (@Bu _ _ _ _ _ _ _ _ PassesOwn.never rfl (BE (K:=K) (vv 2)) (AR (i:=3) sc_z34.nd rfl (by right)) (@AF _ _ _ _ _ (@AN _ _ 4 _ _ _ _ sc_z34.nd rfl (by right) (AI G_z40 hr_z40 rfl T.z40.m T.z40.F.kp T.z40.b .nil AE (AA (Yp (K:=K) (vv 3) AC) AB)) (by rfl) (by walk_at "i")) (@AH _ _ _ (@Fu _ _ _ _ _ _ _ _ _ (C7 hu) (BM T.cl_Bearing T.na_Bearing_numbers (vv 0)) (vv 4) (Ab (Rs rfl) rfl T.z_max (by rfl) (AA (K0 (C7 hu) (BM T.cl_Bearing T.na_Bearing_numbers (vv 0)) (vv 4) AC ⟨by rfl,by rfl,by rfl,by rfl⟩) (AA (Yp (K:=K) (vv 3) AC) AB))) (by rfl)))) (by intro _;rfl)))))),?_⟩;obtain⟨ua,xs,rfl,E0'⟩:=MV hes
 -- the rows
 refine⟨_,.ref rl,.inr g.two,rfl,.inr ⟨⟨_,g.rows⟩,?_⟩⟩
 refine B3 (xs:=ps.map V.ref) (fun k zs H'=>Yb H H'/\zs=iL ((rs.take k).map AM)) ⟨Yb.refl _,rfl⟩ (fun k zs H' _ ⟨s,_⟩=>s.sqT g.rows) (fun k zs H' hk ⟨_,e⟩=>by
  rw[ZB]at hk;rw[e,Ai,ZB,Za];exact Ad (by lia)) ?_ ?_
 ·rintro k x zs H' hx ⟨s1,rfl⟩;rw[ZR]at hx;cases e0:ps[k]? with
  | none=>rw[e0]at hx;cases hx
  | some b =>
   rw[e0]at hx;cases hx;have hk:k < rs.length:=by rw[<- hpl];exact(Zg.mp e0).1
   have er:rs[k]? = some rs[k]:=ZE hk;have hrow:=G.row _ (Zd hk);have hp0:=s1.sqT (g.row k b _ e0 er);generalize hrb:rs[k]=rb at *;refine⟨⟨_,hp0⟩,?_⟩
   refine IB (xs:=rb.map V.bl) (fun i zs H''=>Yb H' H''/\zs=iL (whr (rb.map (· == true)) i)) ⟨Yb.refl _,rfl⟩ (fun i zs H'' _ ⟨s,_⟩=>s.sqT hp0) (fun i zs H'' hi ⟨_,e⟩=>by
    rw[ZB]at hi
    have:=Em (rb.map (· == true)) i
    rw[e,Ai];exact Ad (by lia)) ?_ ?_
   ·rintro i x zs H2 pp hx ⟨s2,rfl⟩ hpp;rw[ZR]at hx;cases e0:rb[i]? with
    | none=>rw[e0]at hx;cases hx
    | some r =>
     rw[e0]at hx;cases hx;have eg:gB (rb.map (· == true)) i=(r == true):=FN e0;refine⟨pp,_,rfl,.of AD,rfl,_,_,rfl,_,_,rfl,rfl,?_⟩;rw[Iw,Bv,eg];cases r with
     | true=>exact⟨s2.trans (Yb.upd hpp),rfl⟩
     | false=>exact⟨s2.trans (Yb.upd hpp),by show _=_++[];rw[Zq]⟩
   ·rintro zs H2 ⟨s2,rfl⟩ l hl;rw[ZB];refine⟨_,.inl (.of AD),by have:=Em (rb.map (· == true)) rb.length;lia,fun t ht=>by have:=En ht;lia,fun H3 s3=>?_⟩;refine⟨s1.trans (s2.trans ((Yb.upd hl).trans s3)),?_⟩;rw[Zm,er,ZJ,Bv];rfl
 rintro zs H2' ⟨s1,rfl⟩ yl hyl;rw[ZB,hpl,Zu];have s2:Yb H (upd H2' yl (.lst (iL (rs.map AM)))):=s1.trans (Yb.upd hyl);have gy2:upd H2' yl (.lst (iL (rs.map AM))) yl=some (.lst (iL (rs.map AM))):=AD;generalize upd H2' yl (.lst (iL (rs.map AM)))=H2 at *;have hp2:=s2 _ _ hp;have ny:yl≠p:=Bm gy2 hp2 (by intro z;cases z);refine⟨dx,_,hp2,(show 0 < 1000 by decide),?_⟩;have f3:Yl p H2 (upd H2 p (.ins T.C_Bearing dx (Ac "yeses" (.ref yl) []))):=Yl.updT;have hp3:upd H2 p (.ins T.C_Bearing dx (Ac "yeses" (.ref yl) [])) p=some (.ins T.C_Bearing dx [("yeses",.ref yl)]):=by rw[pb1];exact AD
 have E3:=(E0'.same s2).frm f3 hp2 Dq;have gy3:=f3 _ _ ny gy2;have F3:Yl p H (upd H2 p (.ins T.C_Bearing dx (Ac "yeses" (.ref yl) []))):=(Bh s2).trans f3;generalize upd H2 p (.ins T.C_Bearing dx (Ac "yeses" (.ref yl) []))=H3 at *
 -- the dicts
 intro nd hnd;have s4:Yb H3 (upd H3 nd (.dK [])):=Yb.upd hnd;have nnp:nd≠p:=fun e=>by rw[e,hp3]at hnd;cases hnd
 have gn4:upd H3 nd (.dK []) nd=some (.dK []):=AD
 have hn0:H nd=none:=by
  cases e:H nd with
  | none=>rfl
  | some o=>rw[F3 nd o nnp e]at hnd;cases hnd
 generalize upd H3 nd (.dK [])=H4 at *;have hp4:=s4 _ _ hp3;refine⟨dx,_,hp4,(show 1 < 1000 by decide),?_⟩;have f5:Yl p H4 (upd H4 p (.ins T.C_Bearing dx (Ac "numbers" (.ref nd) [("yeses",.ref yl)]))):=Yl.updT;have hp5:upd H4 p (.ins T.C_Bearing dx (Ac "numbers" (.ref nd) [("yeses",.ref yl)])) p=some (.ins T.C_Bearing dx [("yeses",.ref yl),("numbers",.ref nd)]):=by rw[pb2];exact AD
 have E5:=(E3.same s4).frm f5 hp4 Dq;have gy5:=f5 _ _ ny (s4 _ _ gy3);have gn5:=f5 _ _ nnp gn4;have F5:Yl p H (upd H4 p (.ins T.C_Bearing dx (Ac "numbers" (.ref nd) [("yeses",.ref yl)]))):=F3.trans ((Bh s4).trans f5);generalize upd H4 p (.ins T.C_Bearing dx (Ac "numbers" (.ref nd) [("yeses",.ref yl)]))=H5 at *;intro fd hfd;have s6:Yb H5 (upd H5 fd (.dK [])):=Yb.upd hfd;have nfp:fd≠p:=fun e=>by rw[e,hp5]at hfd;cases hfd
 have nnf:nd≠fd:=fun e=>by rw[<- e,gn5]at hfd;cases hfd
 have gf6:upd H5 fd (.dK []) fd=some (.dK []):=AD
 have hf0:H fd=none:=by
  cases e:H fd with
  | none=>rfl
  | some o=>rw[F5 fd o nfp e]at hfd;cases hfd
 generalize upd H5 fd (.dK [])=H6 at *;have hp6:=s6 _ _ hp5;refine⟨dx,_,hp6,(show 2 < 1000 by decide),?_⟩;have f7:Yl p H6 (upd H6 p (.ins T.C_Bearing dx (Ac "found" (.ref fd) [("yeses",.ref yl),("numbers",.ref nd)]))):=Yl.updT;have hp7:upd H6 p (.ins T.C_Bearing dx (Ac "found" (.ref fd) [("yeses",.ref yl),("numbers",.ref nd)])) p=some (.ins T.C_Bearing dx (CS (.ref yl) (.ref nd) (.ref fd))):=by rw[pb3];exact AD
 have E7:=(E5.same s6).frm f7 hp6 Dq;have gy7:=f7 _ _ ny (s6 _ _ gy5);have gn7:=f7 _ _ nnp (s6 _ _ gn5);have gf7:=f7 _ _ nfp gf6;have F7:Yl p H (upd H6 p (.ins T.C_Bearing dx (Ac "found" (.ref fd) [("yeses",.ref yl),("numbers",.ref nd)]))):=F5.trans ((Bh s6).trans f7);generalize upd H6 p (.ins T.C_Bearing dx (Ac "found" (.ref fd) [("yeses",.ref yl),("numbers",.ref nd)]))=H7 at *;clear f3 f5 f7 s4 s6 hp2 hp3 hp4 hp5 hp6 gy2 gy3 gy5 gn4 gn5 gf6 F3 F5 E3 E5
 -- the entries
 refine .inr ⟨⟨_,E7.sq⟩,?_⟩;refine L6 (xs:=xs) (fun j Z H'=>∃(z3 z4:Option V) (Yc:List (Key × V)),Z=[some (.ref p),some (.ref a),some (.ref ua),z3,z4]/\EntsAt K H' es ua xs/\H' p=some (.ins T.C_Bearing dx (CS (.ref yl) (.ref nd) (.ref fd)))/\H' yl=some (.lst (iL (rs.map AM)))/\H' nd=some (.dK Yc)/\H' fd=some (.dK [])/\NumsOf ls.length (es.take j) Yc/\Yl p H H') ⟨none,none,[],rfl,E7,hp7,gy7,gn7,gf7,⟨⟨by simp,(fun e he=>by cases he)⟩,(fun S k he=>by cases he),(fun e he=>by rw[List.take_zero]at he;cases he)⟩,F7⟩ (fun j Z H' _ ⟨_,_,_,_,e,_⟩=>e.sq) ?_ ?_
 ·rintro j x Z H8 hx ⟨z3,z4,Yc,rfl,E8,hp8,gy8,gn8,gf8,N8,F8⟩;have hj:j < es.length:=by rw[<- E7.len];exact(Zg.mp hx).1
  have ee:es[j]? = some es[j]:=ZE hj;obtain⟨x',ex,b,c,rfl,hb,hc⟩:=E8.at_ j _ ee;rw[hx]at ex;cases ex;have he:=hok _ (Zd hj);generalize es[j]=e at *;have Ym:e.1.length<=ls.length:=Do ls.length e.1 (he.up.imp fun h=>ZT h) he.lt;refine⟨_,.ref c,.inr hb,rfl,e.1,.inr hc,by lia,fun t ht=>by have:=he.lt t ht;lia,fun H9 s9=>?_⟩;have hp9:=s9 _ _ hp8;have gn9:=s9 _ _ gn8;dsimp only[AZ];refine⟨dx,_,_,hp9,lb2 _ _ _,nd,rfl,Nf (.inl gn9),valV Yc (kN (msk e.1)),N7 (k:=kN (msk e.1)) (.inl gn9),?_⟩;have hb9:=s9.sqT hb;have hkl:=JR N8.nd (fun e he=>by obtain⟨S,k,h1,h2,_⟩:=N8.ok e he;exact⟨S,_,h1,h2⟩) l16
  have fin:∀(k0:Int),((valV Yc (kN (msk e.1))=none/\k0=0)\/valV Yc (kN (msk e.1))=some (.int k0))->∃(z3 z4:Option V) (kvs':List (Key × V)),[some (V.ref p),some (V.ref a),some (V.ref ua),some (V.ref b),some (V.int (msk e.1:Nat))]=[some (V.ref p),some (V.ref a),some (V.ref ua),z3,z4]/\EntsAt K (upd H9 nd (.dK (At Yc (kN (msk e.1)) (.int (max k0 e.2))))) es ua xs/\upd H9 nd (.dK (At Yc (kN (msk e.1)) (.int (max k0 e.2)))) p=some (.ins T.C_Bearing dx (CS (.ref yl) (.ref nd) (.ref fd)))/\upd H9 nd (.dK (At Yc (kN (msk e.1)) (.int (max k0 e.2)))) yl=some (.lst (iL (rs.map AM)))/\upd H9 nd (.dK (At Yc (kN (msk e.1)) (.int (max k0 e.2)))) nd=some (.dK kvs')/\upd H9 nd (.dK (At Yc (kN (msk e.1)) (.int (max k0 e.2)))) fd=some (.dK [])/\NumsOf ls.length (es.take (j+1)) kvs'/\Yl p H (upd H9 nd (.dK (At Yc (kN (msk e.1)) (.int (max k0 e.2))))):=by
   intro k0 hk0;have fu:Yl nd H9 (upd H9 nd (.dK (At Yc (kN (msk e.1)) (.int (max k0 e.2))))):=Yl.updT;refine⟨_,_,_,rfl,(E8.same s9).frm fu gn9 Gh,fu _ _ (Ne.symm nnp) hp9,fu _ _ (Bm (s9 _ _ gy8) gn9 (by intro z;cases z)) (s9 _ _ gy8),AD,fu _ _ (Ne.symm nnf) (s9 _ _ gf8),?_,fun b' o hb' e'=>?_⟩
   ·rw[Zm,ee];exact N8.put he hk0
   ·have h8:=F8 b' o hb' e';rw[AJ (fun z=>by rw[z,hn0]at e';cases e')];exact s9 _ _ h8
  cases ev:valV Yc (kN (msk e.1)) with
  | none =>
   refine⟨_,_,.inr hb9,Ah (n:=1) rfl rfl,?_⟩;refine⟨dx,_,_,hp9,lb2 _ _ _,nd,_,rfl,DPut.k (k:=kN (msk e.1)) gn9 hkl,?_⟩;exact fin 0 (.inl ⟨ev,rfl⟩)
  | some v =>
   obtain⟨S,k,e1,_,hk⟩:=N8.ok _ (EJ ev);have e2:v=V.int k:=congrArg Prod.snd e1;subst e2;refine⟨_,_,.inr hb9,Ah (n:=1) rfl rfl,?_⟩;refine⟨dx,_,_,hp9,lb2 _ _ _,nd,_,rfl,DPut.k (k:=kN (msk e.1)) gn9 hkl,?_⟩;exact fin k (.inr ev)
 ·rintro Z H8 ⟨z3,z4,Yc,rfl,E8,hp8,gy8,gn8,gf8,N8,F8⟩;rw[E7.len,Zu]at N8;refine q Yc nd fd H8 hn0 hf0 nnp nfp N8 ⟨⟨dx,yl,[],hp8,gy8,.inl gn8,gf8,⟨by simp,fun e he=>by cases he⟩⟩,N8.toNumsOk,l16,by rw[ZB];exact r16,nnf,fun y hy=>?_⟩ F8;obtain⟨r,hr',rfl⟩:=ZM.mp hy;have hrow:=G.row r hr';unfold AM
  have:=(EQ (N:=ls.length) (Jh (r.map (· == true)) r.length) (fun t ht=>by rw[<- hrow];exact En ht)).1
  exact this
noncomputable def Ec(rs:List (List Bool))(k:Nat):List Bool:=rs.map fun r=>gB r k
noncomputable def Cb(rs:List (List Bool))(n:Nat):List Dv:=(List.range n).map fun k=>.lst ((Ec rs k).map Dv.bl)
noncomputable def Bt(ls:List Int)(rs:List (List Bool))(i j:Nat):Prop:=i < j/\j < ls.length/\AG ls i≠AG ls j/\Ec rs i=Ec rs j
noncomputable def Gn(ls:List Int)(rs:List (List Bool))(i j:Nat):Prop:=Bt ls rs i j/\∀i' j',Bt ls rs i' j'->i < i'\/i=i'/\j<=j'
noncomputable def Bo(ls:List Int)(rs:List (List Bool)):Prop:=∀i j,¬Bt ls rs i j
theorem OT:∀as bs:List Bool,BQ (as.map Dv.bl) (bs.map Dv.bl)=true->as=bs
 | [],[],_=>rfl
 | [],u::us,h=>by simp[BQ]at h
 | t::ts,[],h=>by simp[BQ]at h
 | t::ts,u::us,h=>by
  rw[Zi,Zi,BQ,eqD,ZK,beq_iff_eq]at h;rw[h.1,OT ts us h.2]
theorem Nv(a b:List Bool):eqD (.lst (a.map Dv.bl)) (.lst (b.map Dv.bl))=decide (a=b):=by
 rw[Fp,Z2,decide_eq_true_eq];exact⟨OT a b,fun e=>by rw[e];exact GF _⟩
theorem N9(rs:List (List Bool))(n:Nat):Cb rs (n+1)=Cb rs n++[.lst ((Ec rs n).map Dv.bl)]:=by unfold Cb;rw[ZBJ,ZJ];rfl
theorem Fw(rs:List (List Bool))(n:Nat):(Cb rs n).length=n:=by unfold Cb;rw[ZB,Zt]
theorem Fq(rs:List (List Bool))(h:k < n):(Cb rs n)[k]? = some (.lst ((Ec rs k).map Dv.bl)):=by unfold Cb;rw[ZR,List.getElem?_range h];rfl
theorem DR(h:i < ls.length):atI (ls.map V.int) ((i:Nat):Int)=some (.int (AG ls i)):=by
 refine Ah rfl ?_;rw[ZR,ZE h];unfold AG;rw[ZQ,ZE h];rfl
noncomputable def C2(K:W.Frag):Sp:=fun vs H Q _=>match vs with
 | [v]=>∃ls rs,Yh K H (gmD ls rs) v/\Gm ls rs/\(∀H',Yb H H'->Bo ls rs->Q .non H')/\∀(i j:Nat) t H',Gn ls rs i j->H t=none->Yb H H'->H' t=some (.tup [.int (i:Nat),.int (j:Nat)])->Q (.ref t) H'
 | _=>False
theorem Rj:AQ (C2 K):=fun vs H Q Q' E h q=>by
 unfold C2 at *;split at q
 ·obtain⟨ls,rs,h1,h2,q1,q2⟩:=q;exact⟨ls,rs,h1,h2,fun H' x y=>h _ _ (q1 H' x y),fun i j t H' x1 x2 x3 x4=>h _ _ (q2 i j t H' x1 x2 x3 x4)⟩
 ·exact q.elim
theorem Lc{tl rl:Addr}{ps:List Addr}(g:GmAt K H ls rs a tl rl ps)(G:Gm ls rs)(hk:k < ls.length){q:Addr}(hj:ps[j]? = some q) :
 ∃r,rs[j]? = some r/\Yo K H q (r.map V.bl)/\atI (r.map V.bl) ((k:Nat):Int)=some (.bl (gB r k)):=by
 have hj':j < rs.length:=by rw[<- g.len];exact(Zg.mp hj).1
 have er:rs[j]? = some rs[j]:=ZE hj';exact⟨rs[j],er,g.row j q _ hj er,Fm (by rw[G.row _ (Zd hj')];exact hk)⟩
theorem NH{ps:List Addr}{x:V}(h:(ps.map V.ref)[k]? = some x):∃q,ps[k]? = some q/\x=.ref q:=by
 rw[ZR]at h;cases e:ps[k]? with
 | none=>rw[e]at h;cases h
 | some q=>rw[e]at h;cases h;exact⟨q,rfl,rfl⟩
theorem O9:Xj P w base T.z33 1 (C2 K):=by
 refine T.z33.F.ok sc_z33 (fun vs H Q E h=>by unfold C2 at h;walk_at "e") ?_;walk_at "f";unfold C2 at h;walk_at "g"
 rename_i v;obtain⟨ls,rs,hv,G,q1,q2⟩:=h;obtain⟨a,tl,rl,ps,rfl,g⟩:=BW hv;have l16:=G.l16;have r16:=G.r16;refine⟨_,(@AF _ _ _ _ _ (@AN _ _ 1 _ _ _ _ sc_z33.nd rfl (by right) (Yp (K:=K) (vv 0) AC) (by rfl) (by walk_at "i")) (@AF _ _ _ _ _ (@C0 _ _ _ _ _ _ _ (["thing","game"]) 1 [0] _ _ _ _ 2 _ _ _ rfl sc_z33.nd rfl rfl (BA rfl T.z_range (AA (Ab (Ay (K:=K)) rfl T.z_len (by rfl) (AA (vv 1) AB)) AB)) (by kernel_rfl) rfl rfl (by kernel_rfl) (fun c=>AR (i:=0) (show(["thing","game"]:List Str).Nodup by decide +kernel) rfl (by right)) (AX (by decide)) (fun c=>Ao) (fun c=>(@An _ _ _ _ _ _ _ (["row","thing"]) 1 [0] _ _ _ _ rfl (BE (K:=K) (Yp (K:=K) (vv 1) AC)) (by kernel_rfl) rfl rfl (by kernel_rfl) (fun c=>AR (i:=0) (show(["row","thing"]:List Str).Nodup by decide +kernel) rfl (by right)) (AX (by decide)) (fun c=>Ao) (fun c=>(Yp (K:=K) (vv 0) (vv 1))) (by intro _;rfl))) (by rfl) (by intro _;rfl)) (@AF _ _ _ _ _ (@Bu _ _ _ _ _ _ _ _ PassesOwn.never rfl (BA rfl T.z_range (AA (Ab (Ay (K:=K)) rfl T.z_len (by rfl) (AA (vv 1) AB)) AB)) (AR (i:=3) sc_z33.nd rfl (by right)) (@AH _ _ _ (@Bu _ _ _ _ _ _ _ _ PassesOwn.never rfl (Hk rfl T.z_range (AA (AO (BB (K:=K)) (vv 3) AC) (AA (Ab (Ay (K:=K)) rfl T.z_len (by rfl) (AA (vv 1) AB)) AB))) (AR (i:=4) sc_z33.nd rfl (by right)) (@AH _ _ _ (@Ar _ _ _ _ _ _ _ _ (PW.pt (C1 (AW (kNe (K:=K) hu) (Yp (K:=K) (vv 1) (vv 3)) (Yp (K:=K) (vv 1) (vv 4))) (C5 (AW (kEq (K:=K) hu) (Yp (K:=K) (vv 2) (vv 3)) (Yp (K:=K) (vv 2) (vv 4)))))) (@AH _ _ _ (@AK _ _ _ _ (BK (AA (vv 3) (AA (vv 4) AB))))) Aq)) (by intro _;rfl))) (by intro _;rfl)) (@AH _ _ _ (@AK _ _ _ _ Fz))))),?_⟩;refine⟨_,.ref tl,.inr g.two,rfl,?_⟩;dsimp only[AZ];refine AY (fun Z H'=>∃(l:Addr) (xs:List V),Z=[some (.ref a),some (.ref tl),some (.ref l),none,none]/\Yb H H'/\H' l=some (.lst xs)/\Yd K H' (Cb rs ls.length) xs) ?_ ?_ (by walk_at "sm")
 ·refine⟨ls.length,.inr ⟨_,g.lab,by rw[ZB]⟩,(ls.length:Int),rfl,by lia,by lia,?_⟩;rw[Zc];refine BU (fun k ys H'=>Yb H H'/\Yd K H' (Cb rs k) ys) ⟨Yb.refl _,Ag⟩ (fun k ys H' hk ⟨_,R⟩=>by rw[<- R.length,Fw];exact Ad (by lia)) ?_ ?_
  ·rintro k ys H1 hk ⟨s1,R1⟩;have g1:=g.same s1;have e0:(0:Int)+(k:Int)=((k:Nat):Int):=by lia
   rw[e0];refine⟨_,.ref rl,.inr g1.two,rfl,.inr ⟨⟨_,g1.rows⟩,?_⟩⟩
   refine B3 (xs:=ps.map V.ref) (fun j zs H'=>H'=H1/\zs=((rs.take j).map fun r=>gB r k).map V.bl) ⟨rfl,rfl⟩ (fun j zs H' _ ⟨e,_⟩=>by rw[e];exact g1.rows) (fun j zs H' hj ⟨_,e⟩=>by
    rw[ZB,g1.len]at hj;rw[e,ZB,ZB,Za];exact Ad (by lia)) ?_ ?_
   ·rintro j x zs H' hx ⟨rfl,rfl⟩;obtain⟨b,hb,rfl⟩:=NH hx;obtain⟨r,er,hs,ha⟩:=Lc g1 G hk hb;refine⟨_,.bl (gB r k),.inr hs,ha,rfl,?_⟩;rw[Zm,er,ZJ,ZJ];rfl
   ·rintro zs H' ⟨rfl,rfl⟩ l hl;rw[ZB,g1.len,Zu];have s2:Yb H' (upd H' l (.lst ((rs.map fun r=>gB r k).map V.bl))):=Yb.upd hl;refine⟨s1.trans s2,?_⟩;rw[N9];exact Yd.append (Yd.same s2 _ _ R1) (AU (by unfold Yh;exact⟨l,_,rfl,.of AD,CV _⟩) Ag)
  ·rintro ys H1 ⟨s1,R1⟩ l hl;have s2:Yb H1 (upd H1 l (.lst ys)):=Yb.upd hl;exact⟨l,ys,rfl,s1.trans s2,AD,Yd.same s2 _ _ R1⟩
 rintro Z H1 ⟨l,xs,rfl,s1,gl,R⟩;have g1:=g.same s1;refine AY (fun Z H'=>H'=H1/\(∃x y,Z=[some (.ref a),some (.ref tl),some (.ref l),x,y])/\Bo ls rs) ?_ ?_ (by walk_at "sm");rotate_left
 ·rintro Z H' ⟨rfl,⟨x,y,rfl⟩,he⟩;exact q1 _ s1 he
 refine⟨ls.length,.inr ⟨_,g1.lab,by rw[ZB]⟩,(ls.length:Int),rfl,by lia,by lia,?_⟩;rw[Zc];refine Cg (fun k Z H'=>H'=H1/\(∃x y,Z=[some (.ref a),some (.ref tl),some (.ref l),x,y])/\∀i' j',i' < k->¬Bt ls rs i' j') ⟨rfl,⟨none,none,rfl⟩,fun i' j' h=>absurd h (ZBW _)⟩ ?_ ?_;rotate_left
 ·rintro Z H' ⟨rfl,hσ,h⟩;exact⟨rfl,hσ,fun i j hb=>h i j (by have:=hb.1;have:=hb.2.1;lia) hb⟩
 rintro i Z H' hi ⟨rfl,⟨x,y,rfl⟩,hno⟩;have e0:(0:Int)+(i:Int)=((i:Nat):Int):=by lia
 rw[e0];refine⟨ls.length,.inr ⟨_,g1.lab,by rw[ZB]⟩,((i:Int)+1),(ls.length:Int),rfl,⟨by lia,by lia,by lia,by lia⟩,?_⟩;obtain⟨W,hW⟩:∃W:Nat,((ls.length:Int) - ((i:Int)+1)).toNat=W:=⟨_,rfl⟩;rw[hW];refine Cg (fun k Z H2=>H2=H'/\(∃y,Z=[some (.ref a),some (.ref tl),some (.ref l),some (.int (i:Nat)),y])/\∀j',j' < i+1+k->¬Bt ls rs i j') ⟨rfl,⟨y,rfl⟩,fun j' h hb=>by have:=hb.1;lia⟩ ?_ ?_;rotate_left
 ·rintro Z H2 ⟨rfl,⟨y,rfl⟩,h⟩;refine⟨rfl,⟨_,y,rfl⟩,fun i' j' hi' hb=>?_⟩
  rcases Zr i' i with z | z
  ·exact hno i' j' z hb
  ·have:i'=i:=by lia
   subst this;exact h j' (by have:=hb.2.1;lia) hb
 rintro k Z H2 hk ⟨rfl,⟨y,rfl⟩,hno2⟩;have e1:(i:Int)+1+(k:Int)=((i+1+k:Nat):Int):=by lia
 rw[e1];have hj:i+1+k < ls.length:=by lia
 have next:¬Bt ls rs i (i+1+k)->∀j',j' < i+1+(k+1)->¬Bt ls rs i j':=fun h j' hj'=>by
  rcases Zr j' (i+1+k) with z | z
  ·exact hno2 j' z
  ·have:j'=i+1+k:=by lia
   rw[this];exact h
 refine⟨_,.int (AG ls i),.inr g1.lab,DR hi,_,.int (AG ls (i+1+k)),.inr g1.lab,DR hj,?_⟩;refine AT (fun e=>?_) (fun e=>?_)
 ·have ne:AG ls i≠AG ls (i+1+k):=by simpa using e
  obtain⟨x1,hx1,r1⟩:=R.get (Fq rs hi);obtain⟨x2,hx2,r2⟩:=R.get (Fq rs hj);refine⟨_,x1,.inl (.of gl),Ah rfl hx1,_,x2,.inl (.of gl),Ah rfl hx2,?_⟩;have r1':=r1;have r2':=r2;unfold Yh at r1' r2';obtain⟨b1,_,rfl,_⟩:=r1';obtain⟨b2,_,rfl,_⟩:=r2';refine⟨_,_,r1,r2,by unfold Az;rw[FZ];lia,?_⟩;rw[Nv,Zo];refine AT (fun e2=>?_) (fun e2=>?_)
  ·have hb:Bt ls rs i (i+1+k):=⟨by lia,hj,ne,ZP e2⟩;refine⟨smq rfl,fun t ht=>?_⟩;refine q2 i (i+1+k) t _ ⟨hb,fun i' j' hb'=>?_⟩ (s1.free ht) (s1.trans (Yb.upd ht)) AD
   rcases ZBC i' i with z | z | z
   ·exact absurd hb' (hno i' j' z)
   ·subst z;exact .inr ⟨rfl,Nat.le_of_not_lt fun w=>hno2 j' w hb'⟩
   ·exact .inl z
  ·exact⟨rfl,⟨_,rfl⟩,next fun hb=>e2 (ZL hb.2.2.2)⟩
 ·have eq:AG ls i=AG ls (i+1+k):=by simpa using e
  exact⟨rfl,⟨_,rfl⟩,next fun hb=>hb.2.2.1 eq⟩
theorem VF:Xj P w base T.z52 1 (C2 K):=by
 refine T.z52.F.ok sc_z52 (fun vs H Q E h=>by unfold C2 at h;walk_at "e") ?_;walk_at "f";unfold C2 at h;walk_at "g"
 rename_i v;obtain⟨ls,rs,hv,G,q1,q2⟩:=h;obtain⟨a,tl,rl,ps,rfl,g⟩:=BW hv;have l16:=G.l16;have r16:=G.r16;refine⟨_,(@AF _ _ _ _ _ (@C0 _ _ _ _ _ _ _ (["_law_k","_law_game_here"]) 1 [0] _ _ _ _ 1 _ _ _ rfl sc_z52.nd rfl rfl (BA rfl T.z_range (AA (Ab (Ay (K:=K)) rfl T.z_len (by rfl) (AA (Yp (K:=K) (vv 0) AC) AB)) AB)) (by kernel_rfl) rfl rfl (by kernel_rfl) (fun c=>AR (i:=0) (show(["_law_k","_law_game_here"]:List Str).Nodup by decide +kernel) rfl (by right)) (AX (by decide)) (fun c=>Ao) (fun c=>(@An _ _ _ _ _ _ _ (["_law_row","_law_k"]) 1 [0] _ _ _ _ rfl (BE (K:=K) (Yp (K:=K) (vv 1) AC)) (by kernel_rfl) rfl rfl (by kernel_rfl) (fun c=>AR (i:=0) (show(["_law_row","_law_k"]:List Str).Nodup by decide +kernel) rfl (by right)) (AX (by decide)) (fun c=>Ao) (fun c=>(Yp (K:=K) (vv 0) (vv 1))) (by intro _;rfl))) (by rfl) (by intro _;rfl)) (@AF _ _ _ _ _ (@Bu _ _ _ _ _ _ _ _ PassesOwn.never rfl (BA rfl T.z_range (AA (Ab (Ay (K:=K)) rfl T.z_len (by rfl) (AA (vv 1) AB)) AB)) (AR (i:=2) sc_z52.nd rfl (by right)) (@AH _ _ _ (@Bu _ _ _ _ _ _ _ _ PassesOwn.never rfl (Hk rfl T.z_range (AA (AO (BB (K:=K)) (vv 2) AC) (AA (Ab (Ay (K:=K)) rfl T.z_len (by rfl) (AA (vv 1) AB)) AB))) (AR (i:=3) sc_z52.nd rfl (by right)) (@AH _ _ _ (@Ar _ _ _ _ _ _ _ _ (PW.pt (C1 (AW (kEq (K:=K) hu) (Yp (K:=K) (vv 1) (vv 2)) (Yp (K:=K) (vv 1) (vv 3))) (C5 (AW (kNe (K:=K) hu) (Yp (K:=K) (Yp (K:=K) (vv 0) AC) (vv 2)) (Yp (K:=K) (Yp (K:=K) (vv 0) AC) (vv 3)))))) (@AH _ _ _ (@AK _ _ _ _ (BK (AA (vv 2) (AA (vv 3) AB))))) Aq)) (by intro _;rfl))) (by intro _;rfl)) (@AH _ _ _ (@AK _ _ _ _ Fz)))),?_⟩;refine AY (fun Z H'=>∃(l:Addr) (xs:List V),Z=[some (.ref a),some (.ref l),none,none]/\Yb H H'/\H' l=some (.lst xs)/\Yd K H' (Cb rs ls.length) xs) ?_ ?_ (by walk_at "sm")
 ·refine⟨_,.ref tl,.inr g.two,rfl,ls.length,.inr ⟨_,g.lab,by rw[ZB]⟩,(ls.length:Int),rfl,by lia,by lia,?_⟩;rw[Zc];refine BU (fun k ys H'=>Yb H H'/\Yd K H' (Cb rs k) ys) ⟨Yb.refl _,Ag⟩ (fun k ys H' hk ⟨_,R⟩=>by rw[<- R.length,Fw];exact Ad (by lia)) ?_ ?_
  ·rintro k ys H1 hk ⟨s1,R1⟩;have g1:=g.same s1;have e0:(0:Int)+(k:Int)=((k:Nat):Int):=by lia
   rw[e0];refine⟨_,.ref rl,.inr g1.two,rfl,.inr ⟨⟨_,g1.rows⟩,?_⟩⟩
   refine B3 (xs:=ps.map V.ref) (fun j zs H'=>H'=H1/\zs=((rs.take j).map fun r=>gB r k).map V.bl) ⟨rfl,rfl⟩ (fun j zs H' _ ⟨e,_⟩=>by rw[e];exact g1.rows) (fun j zs H' hj ⟨_,e⟩=>by
    rw[ZB,g1.len]at hj;rw[e,ZB,ZB,Za];exact Ad (by lia)) ?_ ?_
   ·rintro j x zs H' hx ⟨rfl,rfl⟩;obtain⟨b,hb,rfl⟩:=NH hx;obtain⟨r,er,hs,ha⟩:=Lc g1 G hk hb;refine⟨_,.bl (gB r k),.inr hs,ha,rfl,?_⟩;rw[Zm,er,ZJ,ZJ];rfl
   ·rintro zs H' ⟨rfl,rfl⟩ l hl;rw[ZB,g1.len,Zu];have s2:Yb H' (upd H' l (.lst ((rs.map fun r=>gB r k).map V.bl))):=Yb.upd hl;refine⟨s1.trans s2,?_⟩;rw[N9];exact Yd.append (Yd.same s2 _ _ R1) (AU (by unfold Yh;exact⟨l,_,rfl,.of AD,CV _⟩) Ag)
  ·rintro ys H1 ⟨s1,R1⟩ l hl;have s2:Yb H1 (upd H1 l (.lst ys)):=Yb.upd hl;exact⟨l,ys,rfl,s1.trans s2,AD,Yd.same s2 _ _ R1⟩
 rintro Z H1 ⟨l,xs,rfl,s1,gl,R⟩;have g1:=g.same s1;refine AY (fun Z H'=>H'=H1/\(∃x y,Z=[some (.ref a),some (.ref l),x,y])/\Bo ls rs) ?_ ?_ (by walk_at "sm");rotate_left
 ·rintro Z H' ⟨rfl,⟨x,y,rfl⟩,he⟩;exact q1 _ s1 he
 refine⟨ls.length,.inl ⟨_,.of gl,by rw[<- R.length,Fw]⟩,(ls.length:Int),rfl,by lia,by lia,?_⟩;rw[Zc];refine Cg (fun k Z H'=>H'=H1/\(∃x y,Z=[some (.ref a),some (.ref l),x,y])/\∀i' j',i' < k->¬Bt ls rs i' j') ⟨rfl,⟨none,none,rfl⟩,fun i' j' h=>absurd h (ZBW _)⟩ ?_ ?_;rotate_left
 ·rintro Z H' ⟨rfl,hσ,h⟩;exact⟨rfl,hσ,fun i j hb=>h i j (by have:=hb.1;have:=hb.2.1;lia) hb⟩
 rintro i Z H' hi ⟨rfl,⟨x,y,rfl⟩,hno⟩;have e0:(0:Int)+(i:Int)=((i:Nat):Int):=by lia
 rw[e0];refine⟨ls.length,.inl ⟨_,.of gl,by rw[<- R.length,Fw]⟩,((i:Int)+1),(ls.length:Int),rfl,⟨by lia,by lia,by lia,by lia⟩,?_⟩;obtain⟨W,hW⟩:∃W:Nat,((ls.length:Int) - ((i:Int)+1)).toNat=W:=⟨_,rfl⟩;rw[hW];refine Cg (fun k Z H2=>H2=H'/\(∃y,Z=[some (.ref a),some (.ref l),some (.int (i:Nat)),y])/\∀j',j' < i+1+k->¬Bt ls rs i j') ⟨rfl,⟨y,rfl⟩,fun j' h hb=>by have:=hb.1;lia⟩ ?_ ?_;rotate_left
 ·rintro Z H2 ⟨rfl,⟨y,rfl⟩,h⟩;refine⟨rfl,⟨_,y,rfl⟩,fun i' j' hi' hb=>?_⟩
  rcases Zr i' i with z | z
  ·exact hno i' j' z hb
  ·have:i'=i:=by lia
   subst this;exact h j' (by have:=hb.2.1;lia) hb
 rintro k Z H2 hk ⟨rfl,⟨y,rfl⟩,hno2⟩;have e1:(i:Int)+1+(k:Int)=((i+1+k:Nat):Int):=by lia
 rw[e1];have hj:i+1+k < ls.length:=by lia
 have next:¬Bt ls rs i (i+1+k)->∀j',j' < i+1+(k+1)->¬Bt ls rs i j':=fun h j' hj'=>by
  rcases Zr j' (i+1+k) with z | z
  ·exact hno2 j' z
  ·have:j'=i+1+k:=by lia
   rw[this];exact h
 obtain⟨x1,hx1,r1⟩:=R.get (Fq rs hi);obtain⟨x2,hx2,r2⟩:=R.get (Fq rs hj);refine⟨_,x1,.inl (.of gl),Ah rfl hx1,_,x2,.inl (.of gl),Ah rfl hx2,?_⟩;have r1':=r1;have r2':=r2;unfold Yh at r1' r2';obtain⟨b1,_,rfl,_⟩:=r1';obtain⟨b2,_,rfl,_⟩:=r2';refine⟨_,_,r1,r2,by unfold Az;rw[FZ];lia,?_⟩;rw[Nv,Zo];refine AT (fun e2=>?_) (fun e2=>?_)
 ·refine⟨_,.ref tl,.inr g1.two,rfl,_,.int (AG ls i),.inr g1.lab,DR hi,_,.ref tl,.inr g1.two,rfl,_,.int (AG ls (i+1+k)),.inr g1.lab,DR hj,?_⟩;refine AT (fun e=>?_) (fun e=>?_)
  ·have ne:AG ls i≠AG ls (i+1+k):=by simpa using e
   have hb:Bt ls rs i (i+1+k):=⟨by lia,hj,ne,ZP e2⟩;refine⟨smq rfl,fun t ht=>?_⟩;refine q2 i (i+1+k) t _ ⟨hb,fun i' j' hb'=>?_⟩ (s1.free ht) (s1.trans (Yb.upd ht)) AD
   rcases ZBC i' i with z | z | z
   ·exact absurd hb' (hno i' j' z)
   ·subst z;exact .inr ⟨rfl,Nat.le_of_not_lt fun w=>hno2 j' w hb'⟩
   ·exact .inl z
  ·have eq:AG ls i=AG ls (i+1+k):=by simpa using e
   exact⟨rfl,⟨_,rfl⟩,next fun hb=>hb.2.2.1 eq⟩
 ·exact⟨rfl,⟨_,rfl⟩,next fun hb=>e2 (ZL hb.2.2.2)⟩
noncomputable def Cq(ls:List Int)(rs:List (List Bool)):Nat->Bool:=fun j=>by classical exact decide (∃i,Bt ls rs i j)
theorem badS_iff:Cq ls rs j=true ↔ ∃i,Bt ls rs i j:=by unfold Cq;simp
theorem Of{S S':Nat->Bool}(h:∀k,S' k=true->S k=true):Ax N S'<=Ax N S:=by
 induction N with
 | zero=>exact ZD _
 | succ N ih =>
  rw[FK,FK];cases e:S' N with
  | false=>simp;lia
  | true=>rw[h N e];simp;lia
theorem Wr(hj:j < ls.length)(x:Int)(k:Nat):AG (ls.set j x) k=if k=j then x else AG ls k:=by
 unfold AG;rw[ZQ,ZQ,List.getElem?_set]
 by_cases e:j=k
 ·subst e;simp[hj]
 ·simp[e,Ne.symm e]
theorem Uh(h:Gn ls rs i j):Ax ls.length (Cq (ls.set j (AG ls i)) rs) < Ax ls.length (Cq ls rs):=by
 obtain⟨⟨h1,h2,h3,h4⟩,h5⟩:=h;have hl:=Wr h2 (AG ls i);have len:(ls.set j (AG ls i)).length=ls.length:=ZBO
 have key:∀j',Cq (ls.set j (AG ls i)) rs j'=true->(Cq ls rs j' && !(j' == j))=true:=by
  intro j' hb;obtain⟨i',b1,b2,b3,b4⟩:=badS_iff.mp hb;rw[len]at b2;rw[hl,hl]at b3
  have Yu:j'≠j:=by
   intro e;subst e;rw[if_neg (show i'≠j' by lia),if_pos rfl]at b3
   rcases ZBC i' i with z | z | z
   ·rcases h5 i' i ⟨z,by lia,b3,b4.trans h4.symm⟩ with y | y
    ·lia
    ·lia
   ·subst z;exact b3 rfl
   ·rcases h5 i i' ⟨z,by lia,Ne.symm b3,h4.trans b4.symm⟩ with y | y
    ·lia
    ·lia
  rw[if_neg Yu]at b3
  have:Cq ls rs j'=true:=by
   by_cases e:i'=j
   ·subst e;rw[if_pos rfl]at b3;exact badS_iff.mpr ⟨i,by lia,b2,b3,h4.trans b4⟩
   ·rw[if_neg e]at b3;exact badS_iff.mpr ⟨i',b1,b2,b3,b4⟩
  rw[this];simpa using Yu
 have c1:=Of (N:=ls.length) key;have c2:=Fd ls.length (Cq ls rs) (fun k=>k == j);have c3:=ED (S:=fun k=>Cq ls rs k && k == j) h2 (by rw[badS_iff.mpr ⟨i,h1,h2,h3,h4⟩];simp);lia
theorem Gm.set(G:Gm ls rs)(j:Nat)(hi:i < ls.length):Gm (ls.set j (AG ls i)) rs:=by
 refine⟨by rw[ZBO];exact G.l1,by rw[ZBO];exact G.l16,G.r1,G.r16,fun r hr=>by rw[ZBO];exact G.row r hr,fun x hx=>?_,by rw[ZBO];exact G.few⟩
 rcases List.mem_or_eq_of_mem_set hx with h | h
 ·exact G.sm x h
 ·rw[h];unfold AG;rw[ZQ,ZE hi];exact G.sm _ (Zd hi)
noncomputable def EH(K:W.Frag):Sp:=fun vs H Q _=>match vs with
 | [v]=>∃ls rs,Yh K H (gmD ls rs) v/\Gm ls rs/\∀ls' u H',Yb H H'->Gm ls' rs->Bo ls' rs->Yh K H' (gmD ls' rs) u->Q u H'
 | _=>False
theorem U8:AQ (EH K):=fun vs H Q Q' E h q=>by
 unfold EH at *;walk_at "q"
theorem OJ{tl:Addr}{x2:V}(h:H t=some (.tup [.ref tl,x2]))(h1:Yo K H tl (ls.map V.int))(h2:Yh K H (.tup (Ae rs)) x2):Yh K H (gmD ls rs) (.ref t) :=
 Bf (.of h) (AU (Bf h1 (G3 ls)) (AU h2 Ag))
theorem O7:Xj P w base T.z39 2 (EH K):=by
 have G_z52:=@VF P w K mg base T;refine T.z39.F.ok sc_z39 (fun vs H Q E h=>by unfold EH at h;walk_at "e") ?_;walk_at "f";have hr_z52:=hr.mono (show 1<=_ by decide);unfold EH at h;walk_at "g"
 rename_i v;obtain⟨ls,rs,hv,G,q⟩:=h;obtain⟨a,x1,x2,rfl,hs2,hx1,hx2⟩:=JL hv;obtain⟨tl,zs,rfl,hlab,hz⟩:=Ch hx1;obtain rfl:=KI hz;have mono1:AQ (C2 K):=Rj;refine⟨_,(@AF _ _ _ _ _ (@AN _ _ 1 _ _ _ _ sc_z39.nd rfl (by right) (Av (NC (K:=K)) rfl T.z_list (by rfl) (AA (Yp (K:=K) (vv 0) AC) AB)) (by rfl) (by walk_at "i")) (@AF _ _ _ _ _ (@AN _ _ 2 _ _ _ _ sc_z39.nd rfl (by right) (AI G_z52 hr_z52 rfl T.z52.m T.z52.F.kp T.z52.b .nil AE (AA (vv 0) AB)) (by rfl) (by walk_at "i")) (@AF _ _ _ _ _ (@FR _ _ _ _ _ _ PassesOwn.never (AW DD (vv 2) Fz) (@AF _ _ _ _ _ (@Dj _ _ _ _ _ _ (Yp (K:=K) (vv 1) (Yp (K:=K) (vv 2) AC)) (EC (vv 1) (Yp (K:=K) (vv 2) AC) EY) (by rfl) (by rfl) (by rfl)) (@AH _ _ _ (@AN _ _ 2 _ _ _ _ sc_z39.nd rfl (by right) (AI G_z52 hr_z52 rfl T.z52.m T.z52.F.kp T.z52.b .nil AE (AA (BK (AA (Av (BD (K:=K)) rfl T.z_tuple (by rfl) (AA (vv 1) AB)) (AA (Yp (K:=K) (vv 0) AC) AB))) AB)) (by rfl) (by walk_at "i"))))) (@AH _ _ _ (@AK _ _ _ _ (BK (AA (Av (BD (K:=K)) rfl T.z_tuple (by rfl) (AA (vv 1) AB)) (AA (Yp (K:=K) (vv 0) AC) AB)))))))),?_⟩;refine⟨_,.ref tl,.inr hs2,rfl,_,.inr hlab,fun l hl=>?_⟩;dsimp only[AZ];have s1:Yb H (upd H l (.lst (ls.map V.int))):=Yb.upd hl;have gl1:upd H l (.lst (ls.map V.int)) l=some (.lst (ls.map V.int)):=AD;generalize upd H l (.lst (ls.map V.int))=H1 at *;refine AY (fun Z H2=>∃u0,Z=[some (.ref a),some (.ref l),some u0]/\Yb H H2/\H2 l=some (.lst (ls.map V.int))/\((u0=.non/\Bo ls rs)\/∃(i j:Nat) (t:Addr),u0=.ref t/\Gn ls rs i j/\H2 t=some (.tup [.int (i:Nat),.int (j:Nat)]))) ?_ ?_ (by walk_at "sm")
 ·exact⟨ls,rs,Yh.same s1 _ _ hv,G,fun H3 s3 he=>⟨_,rfl,s1.trans s3,s3 _ _ gl1,.inl ⟨rfl,he⟩⟩,fun i j t H3 hf ht s3 gt=>⟨_,rfl,s1.trans s3,s3 _ _ gl1,.inr ⟨i,j,t,rfl,hf,gt⟩⟩⟩
 rintro Z H2 ⟨u0,rfl,s2,gl2,hu2⟩;refine AY (fun Z H3=>∃(ls1:List Int) (u:V),Z=[some (.ref a),some (.ref l),some u]/\Yb H H3/\H3 l=some (.lst (ls1.map V.int))/\Gm ls1 rs/\Bo ls1 rs) ?_ ?_ (by walk_at "sm")
 ·refine⟨fun m Z H3=>∃(ls1:List Int) (u:V),Z=[some (.ref a),some (.ref l),some u]/\m=Ax ls.length (Cq ls1 rs)/\Yb H H3/\H3 l=some (.lst (ls1.map V.int))/\ls1.length=ls.length/\Gm ls1 rs /\
   ((u=.non/\Bo ls1 rs)\/∃(i j:Nat) (t:Addr),u=.ref t/\Gn ls1 rs i j/\H3 t=some (.tup [.int (i:Nat),.int (j:Nat)])),⟨_,ls,u0,rfl,rfl,s2,gl2,rfl,G,hu2⟩,?_⟩
  rintro m Z H3 ⟨ls1,u,rfl,rfl,s3,gl3,ll,G1,hu3⟩
  rcases hu3 with ⟨rfl,he⟩ | ⟨i,j,t,rfl,hf,gt⟩
  ·exact⟨ls1,_,rfl,s3,gl3,G1,he⟩
  ·obtain⟨⟨b1,b2,_⟩,_⟩:=id hf;refine⟨_,.int (i:Nat),.inr (.of gt),rfl,_,.int (AG ls1 i),.inl (.of gl3),DR (by lia),?_⟩;refine⟨_,.int (j:Nat),.inr (.of gt),rfl,_,j,gl3,by rw[ZB];unfold ixN;rw[if_pos (by lia),if_pos (by lia),Zc],?_⟩;rw[<- List.map_set]
   have s4:Yb H (upd H3 l (.lst ((ls1.set j (AG ls1 i)).map V.int))):=fun b o e=>by
    rw[AJ (BZ e hl)];exact s3 _ _ e
   have gl4:upd H3 l (.lst ((ls1.set j (AG ls1 i)).map V.int)) l=some (.lst ((ls1.set j (AG ls1 i)).map V.int)):=AD;generalize upd H3 l (.lst ((ls1.set j (AG ls1 i)).map V.int))=H4 at *;refine⟨_,.inl ⟨.of gl4,fun t1 ht1=>?_⟩⟩;have s5:Yb H4 (upd H4 t1 (.tup ((ls1.set j (AG ls1 i)).map V.int))):=Yb.upd ht1;have g5:upd H4 t1 (.tup ((ls1.set j (AG ls1 i)).map V.int)) t1=some (.tup ((ls1.set j (AG ls1 i)).map V.int)):=AD;generalize upd H4 t1 (.tup ((ls1.set j (AG ls1 i)).map V.int))=H5 at *;refine⟨_,x2,.inr ((s4.trans s5).sqT hs2),rfl,smq rfl,fun t2 ht2=>?_⟩;have s6:Yb H5 (upd H5 t2 (.tup [.ref t1,x2])):=Yb.upd ht2;have g6:upd H5 t2 (.tup [.ref t1,x2]) t2=some (.tup [.ref t1,x2]):=AD;generalize upd H5 t2 (.tup [.ref t1,x2])=H6 at *;have S6:=s4.trans (s5.trans s6);have G2:=G1.set j (show i < ls1.length by lia);have less:=Uh hf;rw[ll]at less
   exact⟨_,rs,OJ g6 (.of (s6 _ _ g5)) (Yh.same S6 _ _ hx2),G2,fun H7 s7 he=>⟨_,less,_,_,rfl,rfl,S6.trans s7,s7 _ _ (s6 _ _ (s5 _ _ gl4)),by rw[ZBO];exact ll,G2,.inl ⟨rfl,he⟩⟩,
    fun i' j' t' H7 hf' ht' s7 gt'=>⟨_,less,_,_,rfl,rfl,S6.trans s7,s7 _ _ (s6 _ _ (s5 _ _ gl4)),by rw[ZBO];exact ll,G2,.inr ⟨i',j',t',rfl,hf',gt'⟩⟩⟩
 ·rintro Z H3 ⟨ls1,u,rfl,s3,gl3,G1,he⟩;refine⟨_,.inl ⟨.of gl3,fun t1 ht1=>?_⟩⟩;have s5:Yb H3 (upd H3 t1 (.tup (ls1.map V.int))):=Yb.upd ht1;have g5:upd H3 t1 (.tup (ls1.map V.int)) t1=some (.tup (ls1.map V.int)):=AD;generalize upd H3 t1 (.tup (ls1.map V.int))=H5 at *;refine⟨_,x2,.inr ((s3.trans s5).sqT hs2),rfl,smq rfl,fun t2 ht2=>?_⟩;have s6:Yb H5 (upd H5 t2 (.tup [.ref t1,x2])):=Yb.upd ht2;have g6:upd H5 t2 (.tup [.ref t1,x2]) t2=some (.tup [.ref t1,x2]):=AD;generalize upd H5 t2 (.tup [.ref t1,x2])=H6 at *;have S6:=s3.trans (s5.trans s6);exact q ls1 _ H6 S6 G1 he (OJ g6 (.of (s6 _ _ g5)) (Yh.same S6 _ _ hx2))
noncomputable def FrX(X:List Addr)(H H':Hp):Prop:=∀b o,b∉X->H b=some o->H' b=some o
theorem FrX.trans{H1 H2:Hp}(a:FrX X H H1)(b:FrX X H1 H2):FrX X H H2:=fun c o n e=>b c o n (a c o n e)
theorem FrX.same(s:Yb H H'):FrX X H H':=fun b o _ e=>s b o e
theorem FrX.frm(f:Yl d H H')(h:d∈X):FrX X H H':=fun b o n e=>f b o (fun z=>n (z ▸ h)) e
theorem FrX.grow(f:Yt d H H')(h:d∈X):FrX X H H':=fun b o n e=>f b o (fun z=>n (z ▸ h)) e
noncomputable def Oth(X:List Addr)(H:Hp):Prop:=∀x∈X,∃o,H x=some o/\Ct o/\∀xs,o≠.lst xs
theorem FrX.sqT(f:FrX X H H')(O:Oth X H)(e:Yo K H b xs):Yo K H' b xs:=by
 rcases e with (e | ⟨ob,e⟩) | e
 ·exact .inl (.inl (f _ _ (fun z=>by obtain⟨o,h1,h2,_⟩:=O b z;rw[e]at h1;exact h2.1 xs (ZV h1).symm) e))
 ·exact .inl (.inr ⟨ob,f _ _ (fun z=>by obtain⟨o,h1,h2,_⟩:=O b z;rw[e]at h1;exact h2.2 _ _ (ZV h1).symm) e⟩)
 ·exact .inr e
mutual
theorem Yh.mv(s:∀a xs,Yo K H a xs->Yo K H' a xs):∀(d:Dv) (v:V),BF d=true->Yh K H d v->Yh K H' d v
 | .non,v,_,h=>by unfold Yh at *;exact h
 | .bl b,v,_,h=>by unfold Yh at *;exact h
 | .int i,v,_,h=>by unfold Yh at *;exact h
 | .str x,v,_,h=>by unfold Yh at *;exact h
 | .tup ds,v,hd,h=>by
  unfold BF at hd;unfold Yh at *;obtain⟨a,xs,e,h1,h2⟩:=h;exact⟨a,xs,e,s _ _ h1,Yd.mv s ds xs hd h2⟩
 | .lst ds,v,hd,h=>by unfold BF at hd;cases hd
theorem Yd.mv(s:∀a xs,Yo K H a xs->Yo K H' a xs):∀(ds:List Dv) (xs:List V),Aj ds=true->Yd K H ds xs->Yd K H' ds xs
 | [],xs,_,h=>by unfold Yd at *;exact h
 | d::ds,xs,hd,h=>by
  unfold Aj at hd;rw[ZK]at hd;unfold Yd at *;obtain⟨x,r,e,h1,h2⟩:=h;exact⟨x,r,e,Yh.mv s d x hd.1 h1,Yd.mv s ds r hd.2 h2⟩
end
theorem FrX.rep(f:FrX X H H')(O:Oth X H){d:Dv}(hd:BF d=true)(h:Yh K H d v):Yh K H' d v:=Yh.mv (fun _ _ e=>f.sqT O e) d v hd h
theorem T1(r:RkAt K C ls ys H p d):∃o,H d=some o/\Ct o/\∀xs,o≠.lst xs:=by
 obtain⟨dx,tl,yl,al,as,Yc,h1,h2,h3,h4,h5,h6,h7,h8⟩:=r.at_;exact⟨_,h5,Gh,fun _ z=>nomatch z⟩
theorem RO(l:Yx Pt pos q H):∃o,H Pt=some o/\Ct o/\∀xs,o≠.lst xs:=by
 obtain⟨ps,a,_⟩:=l;exact⟨_,a,⟨(fun _ z=>nomatch z),(fun _ _ z=>nomatch z)⟩,fun _ z=>nomatch z⟩
theorem Vb(h1:∃o,H a=some o/\Ct o/\∀xs,o≠.lst xs)(h2:∃o,H b=some o/\Ct o/\∀xs,o≠.lst xs):Oth [a,b] H:=fun x hx=>by
 rcases ZG.mp hx with rfl | hx
 ·exact h1
 ·rw[ZO.mp hx];exact h2
theorem Pi(l:Yx Pt pos q H)(f:∀b o,(∀ps,o≠.tbl ps)\/b=Pt->(∀xs,o≠.lst xs)->(∀xs,o≠.dK xs)->(∀c x fs,o≠.ins c x fs)->H b=some o->H' b=some o):Yx Pt pos q H':=by
 obtain⟨ps,a,b,c⟩:=l;refine⟨ps,f _ _ (.inr rfl) (fun _ z=>nomatch z) (fun _ z=>nomatch z) (fun _ _ _ z=>nomatch z) a,b,?_⟩
 rcases c with c | ⟨c',c,d⟩
 ·exact .inl c
 ·exact .inr ⟨c',c,f _ _ (.inl fun _ z=>nomatch z) (fun _ z=>nomatch z) (fun _ z=>nomatch z) (fun _ _ _ z=>nomatch z) d⟩
theorem JU(l:Yx Pt pos q H)(f:Yl t H H')(ht:H t=some o)(h1:(∃xs,o=.lst xs)\/(∃xs,o=.dK xs)\/∃c x fs,o=.ins c x fs):Yx Pt pos q H':=by
 refine Pi l fun b o' _ n1 n2 n3 e=>f b o' (fun z=>?_) e
 rw[z,ht]at e;cases e
 rcases h1 with ⟨xs,rfl⟩ | ⟨xs,rfl⟩ | ⟨c,x,fs,rfl⟩
 ·exact n1 _ rfl
 ·exact n2 _ rfl
 ·exact n3 _ _ _ rfl
theorem Rt{ps:Array Value}(r:RkAt K C ls ys H p d)(g:Yt Pt H H')(hz:H Pt=some (.tbl ps)):RkAt K C ls ys H' p d:=by
 obtain⟨dx,tl,yl,al,as,Yc,h1,h2,h3,h4,h5,h6,h7,h8⟩:=r.at_;have st:∀{b o},H b=some o->(∀ps,o≠.tbl ps)->H' b=some o:=fun {b o} e n=>g b o (fun z=>by rw[z,hz]at e;cases e;exact n _ rfl) e
 exact⟨⟨dx,tl,yl,al,as,Yc,st h1 (fun _ z=>nomatch z),Ev g hz h2,st h3 (fun _ z=>nomatch z),st h4 (fun _ z=>nomatch z),st h5 (fun _ z=>nomatch z),h6,h7,h8⟩,r.l16,r.y16⟩
noncomputable def IA:Sp:=fun vs H Q _=>match vs with
 | [.int x,.int y]=>∃p i:Nat,x=p/\y=i/\i<=64/\Q (.bl (p / 2 ^ i % 2 == 1)) H
 | _=>False
theorem WF:Xj P w base T.z70 3 IA:=by
 refine T.z70.F.ok PJ (fun vs H Q E h=>by unfold IA at h;walk_at "e") ?_;walk_at "f";unfold IA at h;walk_at "g"
 rename_i x y;obtain⟨p,i,e1,e2,hi,q⟩:=h;subst e1 e2;refine⟨_,(@AH _ _ _ (@AK _ _ _ _ (A7 (kEq (K:=K) hu) (AO DW (AO Ez (vv 0) (AI (@IL P w K mg base T) (hr.mono (show 2<=_ by decide)) rfl T.z67.m T.z67.F.kp T.z67.b .nil AE (AA (vv 1) AB))) AC) AC))),?_⟩;refine⟨i,rfl,hi,?_⟩;have hp:0 < 2 ^ i:=ZBj i;have hle:(2:Nat) ^ i<=2 ^ 64:=Zl (by decide) (by lia);refine⟨Au (by lia) (Int.le_trans (Int.ofNat_le.mpr hle) (by decide)),by decide,?_⟩;show Q (.bl (false ^^ (((p:Int) / ((2 ^ i:Nat):Int) % 2) == 1))) H
 have e:(false ^^ (((p:Int) / ((2 ^ i:Nat):Int) % 2) == 1))=(p / 2 ^ i % 2 == 1):=by
  rw[Zo,<- Int.natCast_ediv,Z2];simp only[beq_iff_eq];lia
 rw[e];exact q
noncomputable def BI(S:Nat):List Nat:=(List.range S).filter S.testBit
theorem mem_memS:k∈BI S ↔ S.testBit k=true:=by
 unfold BI;rw[Z0,Ze];refine⟨fun h=>h.2,fun h=>⟨?_,h⟩⟩;have h1:=Nat.ge_two_pow_of_testBit h;exact ZY Nat.lt_two_pow_self h1
theorem KD(S:Nat):∀(j n:Nat),S < 2 ^ n->(List.range (n+j)).filter S.testBit=(List.range n).filter S.testBit
 | 0,n,_=>rfl
 | j+1,n,h=>by
  rw[<- Nat.add_assoc,ZBJ,ZBq,KD S j n h]
  have:S.testBit (n+j)=false:=Nat.testBit_lt_two_pow (ZY h (Zl (by decide) (by lia)))
  simp[this]
theorem UC(h:S < 2 ^ n):(List.range n).filter S.testBit=BI S:=by
 unfold BI
 rcases Nat.le_total n S with z | z
 ·have:=KD S (S - n) n h
  rw[show n+(S - n)=S by lia]at this;exact this.symm
 ·have:=KD S (n - S) S Nat.lt_two_pow_self
  rw[show S+(n - S)=n by lia]at this;exact this
theorem Xb(S:Nat):(BI S).Pairwise (· < ·):=List.Pairwise.filter _ ZBo
theorem U9(S:Nat):S < 2 ^ Builtin.Int.intBits (S:Int):=by
 unfold Builtin.Int.intBits
 by_cases e:S=0
 ·subst e;decide
 ·rw[if_neg (by simpa using e),Int.natAbs_natCast];exact Nat.lt_log2_self
theorem Vh(h:S < 2 ^ n):Builtin.Int.intBits (S:Int)<=n:=by
 unfold Builtin.Int.intBits
 by_cases e:S=0
 ·subst e;simp
 ·rw[if_neg (by simpa using e),Int.natAbs_natCast];exact(Nat.log2_lt e).mpr h
noncomputable def Eh(K:W.Frag):Sp:=fun vs H Q _=>match vs with
 | [.int z]=>∃S:Nat,z=S/\S < 2 ^ 60/\∀p H',H p=none->Yb H H'->H' p=some (.tup (iL (BI S)))->Q (.ref p) H'
 | _=>False
theorem PP:AQ (Eh K):=fun vs H Q Q' E h q=>by
 unfold Eh at *;walk_at "q"
theorem MF:Xj P w base T.z44 4 (Eh K):=by
 refine T.z44.F.ok Ql (fun vs H Q E h=>by unfold Eh at h;walk_at "e") ?_;walk_at "f";unfold Eh at h;walk_at "g"
 rename_i z;obtain⟨S,e1,hS,q⟩:=h;subst e1;have hb:=Vh hS;have hb2:=U9 S;refine⟨_,(@AH _ _ _ (@AK _ _ _ _ (Av (BD (K:=K)) rfl T.z_tuple (by rfl) (AA (An (N':=["member","subset"]) (own:=1) (ix:=[0]) rfl (BA rfl T.z_range (AA (P0 (K:=K) (vv 0)) AB)) (by kernel_rfl) rfl rfl (by kernel_rfl) (fun c=>AR (i:=0) (show(["member","subset"]:List Str).Nodup by decide +kernel) rfl (by right)) (AX (by decide)) (fun c=>C3 (BL (AI (@WF P w K mg base T) (hr.mono (show 3<=_ by decide)) rfl T.z70.m T.z70.F.kp T.z70.b .nil AE (AA (vv 1) (AA (vv 0) AB))))) (fun c=>(vv 0))) AB)))),?_⟩;refine⟨rfl,((Builtin.Int.intBits (S:Int):Nat):Int),rfl,by lia,by lia,?_⟩;rw[Zc];generalize Builtin.Int.intBits (S:Int)=n at *
 refine BU (fun k zs H'=>H'=H/\zs=iL ((List.range k).filter S.testBit)) ⟨rfl,rfl⟩ (fun k zs H' hk ⟨_,e⟩=>by
  have:=ZB1 S.testBit (List.range k)
  rw[Zt]at this;rw[e,Ai];exact Ad (by lia)) ?_ ?_
 ·rintro k zs H' hk ⟨rfl,rfl⟩;have e0:(0:Int)+(k:Int)=((k:Nat):Int):=by lia
  rw[e0];refine⟨S,k,rfl,rfl,by lia,?_⟩;have eb:(S / 2 ^ k % 2 == 1)=S.testBit k:=by rw[Nat.testBit_eq_decide_div_mod_eq];rfl
  rw[eb,ZBJ,ZBq];cases e:S.testBit k with
  | true=>exact⟨rfl,by simp[e,Bv];rfl⟩
  | false=>exact⟨rfl,by simp[e]⟩
 ·rintro zs H' ⟨rfl,rfl⟩ l hl;rw[UC hb2];have s1:Yb H' (upd H' l (.lst (iL (BI S)))):=Yb.upd hl;refine⟨_,.inl ⟨.of AD,fun t ht=>?_⟩⟩;exact q t _ (s1.free ht) (s1.trans (Yb.upd ht)) AD
noncomputable def HZ(K:W.Frag)(C:Addr):Sp:=fun vs H Q _=>match vs with
 | [.ref p]=>∃ls ys d,RkAt K C ls ys H p d/\Q (.int ((2 ^ ls.length - 1:Nat):Int)) H
 | _=>False
theorem Wz:Xk P w mg base T.z21 3 (HZ K T.C_Reckoner):=by
 refine T.z21.F.ok Wd (fun vs H Q E h=>by unfold HZ at h;walk_at "e") ?_;walk_at "f";unfold HZ at h;walk_at "g"
 rename_i p;obtain⟨ls,ys,d,R,q⟩:=h;have l16:=R.l16;obtain⟨dx,tl,yl,al,as,Yc,h1,h2,h3,h4,h5,h6,h7,h8⟩:=id R.at_;refine⟨_,(@AH _ _ _ (@AK _ _ _ _ (AO Cj (AI (@IL P w K mg base T) (hr.mono (show 2<=_ by decide)) rfl T.z67.m T.z67.F.kp T.z67.b .nil AE (AA (Ab (Ay (K:=K)) rfl T.z_len (by rfl) (AA (BM T.cl_Reckoner T.na_Reckoner_labels (vv 0)) AB)) AB)) AC))),?_⟩;refine⟨dx,_,_,h1,lk1 _ _ _ _,ls.length,.inr ⟨_,h2,by rw[ZB]⟩,ls.length,rfl,by lia,?_⟩
 have e:(((2 ^ ls.length:Nat):Int) - 1)=((2 ^ ls.length - 1:Nat):Int):=by
  have:=ZBj ls.length
  lia
 show Q (.int (((2 ^ ls.length:Nat):Int) - 1)) H;rw[e];exact q
noncomputable def J9(K:W.Frag)(C:Addr):Sp:=fun vs H Q _=>match vs with
 | [.ref p,.int z]=>∃ls ys d S,RkAt K C ls ys H p d/\z=(S:Nat)/\S < 2 ^ ls.length/\S≠0/\∀k H',S.testBit k=true->Yb H H'->Q (.int (AG ls k)) H'
 | _=>False
theorem SN(h:S≠0):∃k,S.testBit k=true/\atI (iL (BI S)) 0=some (.int (k:Nat)):=by
 obtain⟨i,hi⟩:=Nat.exists_testBit_of_ne_zero h;have hm:=mem_memS.mpr hi;cases e:BI S with
 | nil=>rw[e]at hm;cases hm
 | cons k r=>exact⟨k,mem_memS.mp (by rw[e];exact Zb ..),Ah (n:=0) rfl rfl⟩
theorem Rc:Xk P w mg base T.z24 5 (J9 K T.C_Reckoner):=by
 refine T.z24.F.ok Pl (fun vs H Q E h=>by unfold J9 at h;walk_at "e") ?_;walk_at "f";unfold J9 at h;walk_at "g"
 rename_i p z;obtain⟨ls,ys,d,S,R,e1,hS,h0,q⟩:=h;subst e1;have l16:=R.l16;obtain⟨dx,tl,yl,al,as,Yc,h1,h2,h3,h4,h5,h6,h7,h8⟩:=id R.at_;have hle:2 ^ ls.length<=2 ^ 60:=Zl (by decide) (by lia);obtain⟨k,hk,ha⟩:=SN h0;refine⟨_,(@AH _ _ _ (@AK _ _ _ _ (Yp (K:=K) (BM T.cl_Reckoner T.na_Reckoner_labels (vv 0)) (Yp (K:=K) (AI (@MF P w K mg base T) (hr.mono (show 4<=_ by decide)) rfl T.z44.m T.z44.F.kp T.z44.b .nil AE (AA (vv 1) AB)) AC)))),?_⟩;exact⟨dx,_,_,h1,lk1 _ _ _ _,S,rfl,by lia,fun t H1 ht s1 g1=>⟨_,_,.inr (.of g1),ha,_,_,.inr (s1.sqT h2),DR (Ds hS hk),q k H1 hk s1⟩⟩
noncomputable def AV(ls:List Int)(ys:List Nat)(S:Nat):Nat:=by classical exact if h:∃m,As (AG ls) (Aa ys) S.testBit m then h.choose else 0
theorem DJ(h:As (AG ls) (Aa ys) S.testBit m):AV ls ys S=m:=by
 have z:∃m,As (AG ls) (Aa ys) S.testBit m:=⟨m,h⟩;unfold AV;rw[dif_pos z];exact Fe z.choose_spec h
theorem Bx(h:Can (AG ls) (Aa ys) n S.testBit):As (AG ls) (Aa ys) S.testBit (AV ls ys S):=by
 obtain⟨m,hm⟩:=Xi h;rw[DJ hm];exact hm
noncomputable def wst(ls:List Int)(ys:List Nat)(S j:Nat):Nat:=max (AV ls ys (S &&& ys.getD j 0)) (AV ls ys (S - (S &&& ys.getD j 0)))
structure FirstQ(ls:List Int)(ys:List Nat)(S j:Nat):Prop where
 mem:j∈BH S ys ys.length
 le:∀i∈BH S ys ys.length,wst ls ys S j<=wst ls ys S i
 lt:∀i∈BH S ys ys.length,i < j->wst ls ys S j < wst ls ys S i
theorem FT(y:Nat)(h:Can (AG ls) (Aa ys) n S.testBit):Can (AG ls) (Aa ys) n (S &&& y).testBit/\Can (AG ls) (Aa ys) n (S - (S &&& y)).testBit:=by
 rw[DT,Cn];exact⟨B6 (fun k z=>by simp only[ZK]at z;exact z.1) h,B6 (fun k z=>by simp only[ZK]at z;exact z.1) h⟩
theorem Qc(ho:¬One (AG ls) S.testBit)(hc:Can (AG ls) (Aa ys) n S.testBit)(h:FirstQ ls ys S j):As (AG ls) (Aa ys) S.testBit (1+wst ls ys S j):=by
 refine NK ho ?_ ?_
 ·obtain⟨y1,y2⟩:=EK h.mem;obtain⟨c1,c2⟩:=FT (ys.getD j 0) hc;have c1:=Bx c1;have c2:=Bx c2;unfold wst;generalize AV ls ys (S &&& ys.getD j 0)=b at *;generalize AV ls ys (S - (S &&& ys.getD j 0))=e at *;rw[DT]at c1;rw[Cn]at c2;exact⟨_,ZM.mpr ⟨_,Zw y1,rfl⟩,y2,_,_,c1,c2,rfl⟩
 ·intro f hf hp;obtain⟨y,hy,rfl⟩:=ZM.mp hf;obtain⟨i,hi,ei⟩:=Zs hy;have eg:ys.getD i 0=y:=by rw[ZQ,ZE hi,ei];rfl
  have him:i∈BH S ys ys.length:=Z0.mpr ⟨Ze.mpr hi,(Gd _ _).mpr (by rw[eg];exact hp)⟩;have hle:=h.le i him;obtain⟨c1,c2⟩:=FT (ys.getD i 0) hc;have c1:=Bx c1;have c2:=Bx c2;have hw:wst ls ys S i=max (AV ls ys (S &&& ys.getD i 0)) (AV ls ys (S - (S &&& ys.getD i 0))):=rfl;generalize AV ls ys (S &&& ys.getD i 0)=b at *;generalize AV ls ys (S - (S &&& ys.getD i 0))=e at *;rw[DT,eg]at c1;rw[Cn,eg]at c2;exact⟨b,e,c1,c2,by lia⟩
theorem Uw(ho:¬One (AG ls) S.testBit)(hc:Can (AG ls) (Aa ys) n S.testBit)(h:FirstQ ls ys S j):AV ls ys S=1+wst ls ys S j:=DJ (Qc ho hc h)
theorem Qn:Xk P w mg base T.z18 74 (Dy K T.C_Reckoner 17):=N5 T 17 (HP T 17)
noncomputable def Wn(b:List Stmt):Expr:=match b with
 | [.Return (some (.Call _ _ (k::_) _)) _]=>k.value
 | _=>.Name "" ⟨0,0,0,0⟩
noncomputable def Fs(e:Expr):Arguments:=match e with
 | .Lambda p _ _ _=>p
 | _=>{ posonlyargs:=[],args:=[],vararg:=none,kwonlyargs:=[],kw_defaults:=[],kwarg:=none,defaults:=[] }
noncomputable def GG(e:Expr):Expr:=match e with
 | .Lambda _ b _ _=>b
 | e=>e
noncomputable def D0(e:Expr):Scope:=match e with
 | .Lambda _ _ s _=>s
 | _=>{ kind:=.function,names:=[],isGenerator:=false,isCoroutine:=false }
noncomputable def By:Expr:=Wn (BY Cs)
noncomputable def Hi(K:W.Frag)(C:Addr)(vA vB v:V)(H:Hp)(Q:VK):Prop:=Dy K C 17 [vB,vA,v] H Q E0
theorem Tj (T:Txt K mg) {Yr ca cb c':Addr} {pm ctv uA uB:Value} {vA vB:V} (hl:base.get? Yr=some (W.kla_obj "<lambda>" CF (Fs By) (GG By) (D0 By) [("things",ca),("self",cb)] pm c' ctv)) (hcab:ca≠cb)
 (hca:base.IsCell ca (some uA)) (rA:Yi vA uA) (hcb:base.IsCell cb (some uB)) (rB:Yi vB uB) :
 FnOk P w K mg base CX0 75 Yr (W.kla_fn "<lambda>" CF (Fs By) (GG By) (D0 By) [("things",ca),("self",cb)] pm (.ref c') ctv) ["question"] (CH c' CF (Hi K T.C_Reckoner vA vB)):=by
 refine RH (k:=74) hl hca rA hcb rB (by decide) hcab rfl rfl rfl ?_ rfl rfl rfl ?_ fun A outer s H v Q hr h=>?_
 ·intro y hy;have h:=Zy.mp (show(D0 By).names.all (fun p=>p.2 != .free || p.1 == "things" || p.1 == "self")=true by decide +kernel) _ (PySem.mem_of_lookup hy);simpa [or_assoc] using h
 ·decide +kernel
 have hr_z18:=hr;unfold Hi Dy at h;walk_at "g"
 rename_i p z i ee;cases ee;obtain⟨ls,ys,d,S,j,y,R,e1,hS,hc,e2,hj,hp,hk,q⟩:=h;subst e1 e2;obtain⟨dx,tl,yl,al,as,Yc,h1,_⟩:=id R.at_;refine⟨_,(A3 (vv 2) T.cl_Reckoner T.z18.m (@Qn P w K mg base T) hr_z18 T.z18.b .nil AE (AA (vv 1) (AA (vv 0) AB))),?_⟩;exact⟨p,dx,_,rfl,h1,ln4 _ _ _ _,ls,ys,d,S,j,y,R,rfl,hS,hc,rfl,hj,hp,hk,q⟩
noncomputable def JM(K:W.Frag)(C Pt:Addr):Sp:=fun vs H Q _=>match vs with
 | [.ref p,.int z]=>∃ls ys d S,RkAt K C ls ys H p d/\z=(S:Nat)/\S < 2 ^ ls.length/\(∃n,Can (AG ls) (Aa ys) n S.testBit)/\¬One (AG ls) S.testBit/\Yx Pt Ex CF H /\
  ∀(j:Nat) H',FirstQ ls ys S j->RkAt K C ls ys H' p d->FrX [d,Pt] H H'->Yx Pt Ex CF H'->Q (.int (j:Nat)) H'
 | _=>False
theorem XY(B:BMn mg base):Xk P w mg base T.z15 77 (JM K T.C_Reckoner T.p_z15):=by
 refine T.z15.F.okC T.gc_z15 Ti (fun vs H Q E h=>by unfold JM at h;walk_at "e") (fun A outer s H vs Q E hr h=>?_);have hu:=AS hr;have hrL:=hr;unfold JM at h;walk_at "g"
 rename_i p z;obtain⟨ls,ys,d,S,R,e1,hS,⟨n,hc⟩,ho,hL,q⟩:=h;subst e1;obtain⟨dx,tl,yl,al,as,Yc,h1,_⟩:=id R.at_;have l16:=R.l16;let spB:V->V->V->Hp->VK->Prop:=Hi K T.C_Reckoner
 have hFL:∀(base':Heap) (Yr ca cb c':Addr) (pm ctv uA uB:Value) (vA vB:V),(∀b o,base.get? b=some o->base'.get? b=some o)->base'.get? Yr=some (W.kla_obj "<lambda>" CF (Fs By) (GG By) (D0 By) [("things",ca),("self",cb)] pm c' ctv)->ca≠cb->base'.IsCell ca (some uA)->Yi vA uA->base'.IsCell cb (some uB)->Yi vB uB ->
  FnOk P w K mg base' CX0 75 Yr (W.kla_fn "<lambda>" CF (Fs By) (GG By) (D0 By) [("things",ca),("self",cb)] pm (.ref c') ctv) ["question"] (CH c' CF (spB vA vB)) :=
  fun base' Yr ca cb c' pm ctv uA uB vA vB _ hl hab hca rA hcb rB=>Tj (base:=base') T hl hab hca rA hcb rB
 have hclL:∀ca cb,(PyProof.Rows.envOfC "Reckoner.first_question" (AL Cs) s.heap.objs.size T.z15.f (.ref T.g_z15)).cells.lookup (PySem.Str.ofString "things")=some ca->(PyProof.Rows.envOfC "Reckoner.first_question" (AL Cs) s.heap.objs.size T.z15.f (.ref T.g_z15)).cells.lookup (PySem.Str.ofString "self")=some cb ->
  closureFor (D0 By) (PyProof.Rows.envOfC "Reckoner.first_question" (AL Cs) s.heap.objs.size T.z15.f (.ref T.g_z15))=pure [((PySem.Str.ofString "things" : Str),ca),((PySem.Str.ofString "self" : Str),cb)]:=fun ca cb h1 h2=>by
  have e1:some (s.heap.objs.size+2)=some ca:=h1;have e2:some (s.heap.objs.size+1)=some cb:=h2;cases e1;cases e2;rfl
 refine⟨_,(@AH _ _ _ (@AK _ _ _ _ (Ru (c:=T.g_z15) (Pt:=T.p_z15) (qual:=CF) (i:=1) (j:=0) (a:="things") (b:="self") (spB:=spB) (A3 (vv 0) T.cl_Reckoner T.z25.m (@Mw P w K mg base T) (hr.mono (show 1<=_ by decide)) T.z25.b .nil AE (AA (vv 1) AB)) T.z_min hrL rfl rfl T.gh_z15 B rfl rfl rfl rfl hclL rfl rfl rfl rfl (by decide) (fun _ _ _ _ _ _=>rfl) hFL))),?_⟩;refine⟨p,dx,_,rfl,h1,ln5 _ _ _ _,ls,ys,d,S,R,rfl,fun l H1 nl s1 g1=>?_⟩;have L1:=hL.same s1;have R1:=R.same s1;refine⟨l,_,_,_,rfl,by rw[Ai];exact OZ ho hc,rfl,rfl,L1,fun c' H2 gr2 L2' hc2=>?_⟩;obtain⟨pz,hP,_⟩:=id L1;have R2:=Rt R1 gr2 hP;have g2:H2 l=_:=gr2 _ _ (fun z=>by rw[z,hP]at g1;cases g1) g1;obtain⟨dx2,tl2,yl2,al2,as2,kvs2,k1,_,_,_,k5,_⟩:=id R2.at_;have hld:l≠d:=Bm g2 k5 (by intro z;cases z);have hcd:c'≠d:=Bm hc2 k5 (by intro z;cases z);refine⟨fun _ H3=>RkAt K T.C_Reckoner ls ys H3 p d/\Yl d H2 H3,fun n=>(wst ls ys S ((BH S ys ys.length).getD n 0):Nat),⟨R2,Yl.refl⟩,fun n H3 ⟨_,f3⟩=>⟨.of (f3 _ _ hld g2),f3 _ _ hcd hc2⟩,?_,?_⟩
 ·rintro m v H3 hv ⟨R3,f3⟩;obtain⟨i,hi,him,rfl⟩:=CK hv;obtain⟨y1,y2⟩:=EK him;have eg:(BH S ys ys.length).getD m 0=i:=by rw[ZQ,hi];rfl
  refine⟨ls,ys,d,S,i,_,R3,rfl,hS,⟨n,hc⟩,rfl,y1,y2,by have:=Df ls.length S.testBit;lia,fun b e H4 f1 f2 R4 f4=>?_⟩;refine⟨?_,R4,f3.trans f4⟩;dsimp only;rw[eg];unfold wst;rw[DJ f1,DJ f2]
 ·rintro m v H3 hv hmin ⟨R3,f3⟩;obtain⟨i,hi,him,rfl⟩:=CK hv;have eg:(BH S ys ys.length).getD m 0=i:=by rw[ZQ,hi];rfl
  have fr:FrX [d,T.p_z15] H H3:=(FrX.same s1).trans ((FrX.grow gr2 (by simp)).trans (FrX.frm f3 (by simp)));refine q i H3 ⟨him,fun i' hi'=>?_,fun i' hi' Yq=>?_⟩ R3 fr (JU L2' f3 k5 (.inr (.inl ⟨_,rfl⟩)))
  ·obtain⟨m',hm',em'⟩:=Zs hi';have h3:=(hmin m' (by rw[Ai];exact hm')).1;have eg':(BH S ys ys.length).getD m' 0=i':=by rw[ZQ,ZE hm',em'];rfl
   dsimp only at h3;rw[eg,eg']at h3;lia
  ·obtain⟨m',hm',em'⟩:=Zs hi';have hmm:=(Zg.mp hi);obtain⟨hm,em⟩:=hmm;have hrise:(BH S ys ys.length).Pairwise (· < ·):=List.Pairwise.filter _ ZBo
   have hlt':m' < m:=by
    rcases ZBC m' m with z | z | z
    ·exact z
    ·subst z;lia
    ·have:=List.pairwise_iff_getElem.mp hrise m m' hm hm' z
     lia
   have h3:=(hmin m' (by rw[Ai];exact hm')).2 hlt';have eg':(BH S ys ys.length).getD m' 0=i':=by rw[ZQ,ZE hm',em'];rfl
   dsimp only at h3;rw[eg,eg']at h3;lia
theorem Tz{rb:List Bool}{ans:Bool}(h:ts.Pairwise (· < ·)):(Aw rb ans ts).Pairwise (· < ·):=h.filter _
theorem Mf(he:Bo ls rs):∀i j,i < ls.length->j < ls.length->(∀y∈rs.map gB,y i=y j)->AG ls i=AG ls j:=by
 have key:∀i j,i < j->j < ls.length->(∀y∈rs.map gB,y i=y j)->AG ls i=AG ls j:=fun i j hij hj h =>
  Classical.byContradiction fun ne=>he i j ⟨hij,hj,ne,by
   unfold Ec;apply ZB7;intro r hr;exact h _ (ZM.mpr ⟨r,hr,rfl⟩)⟩
 intro i j hi hj h
 rcases ZBC i j with z | z | z
 ·exact key i j z hj h
 ·rw[z]
 ·exact(key j i z hi fun y hy=>(h y hy).symm).symm
theorem Kh{ds:List Int}(nd:ds.Nodup)(hm:∀k,k∈ds ↔ k∈ts.map (AG ls)):ds.length < 2 ↔ One (AG ls) (fun k=>decide (k∈ts)):=by
 constructor
 ·intro h i j hi hj;have a1:=(hm _).mpr (ZM.mpr ⟨i,ZP hi,rfl⟩);have a2:=(hm _).mpr (ZM.mpr ⟨j,ZP hj,rfl⟩)
  match ds,h with
  | [],_=>simp at a1
  | [x],_=>rw[ZO.mp a1,ZO.mp a2]
  | x::y::r,h=>simp at h;lia
 ·intro o
  have:=To (Y:=[]) (n:=0) ds o nd fun d hd=>by
   obtain⟨k,hk,e⟩:=ZM.mp ((hm d).mp hd);exact⟨k,ZL hk,e⟩
  simp at this;lia
noncomputable def Ep(K:W.Frag):Sp:=fun vs H Q _=>match vs with
 | [v,.ref p,.int z]=>∃ls rs ts j r,Yh K H (gmD ls rs) v/\Gm ls rs/\Yo K H p (iL ts)/\ts.length<=100/\(∀t∈ts,t < ls.length)/\z=(j:Nat)/\rs[j]? = some r/\∀l pn py H',H l=none->Yb H H'->H' l=some (.lst [.ref pn,.ref py])->H' pn=some (.tup (iL (Aw r false ts)))->H' py=some (.tup (iL (Aw r true ts)))->Q (.ref l) H'
 | _=>False
theorem WZ:AQ (Ep K):=fun vs H Q Q' E h q=>by
 unfold Ep at *;walk_at "q"
theorem V7:Xj P w base T.z48 1 (Ep K):=by
 refine T.z48.F.ok sc_z48 (fun vs H Q E h=>by unfold Ep at h;walk_at "e") ?_;walk_at "f";unfold Ep at h;walk_at "g"
 rename_i v p z;obtain⟨ls,rs,ts,j,r,hv,G,hp,hl,Yq,e1,hj,q⟩:=h;subst e1;obtain⟨a,tl,rl,ps,rfl,g⟩:=BW hv;have hj':j < rs.length:=(Zg.mp hj).1;obtain⟨b,hb⟩:∃b,ps[j]? = some b:=⟨_,ZE (by rw[g.len];exact hj')⟩;have hrow:=g.row j b r hb hj;have hrl:r.length=ls.length:=G.row r (Zw hj);refine⟨_,(@AF _ _ _ _ _ (@AN _ _ 3 _ _ _ _ sc_z48.nd rfl (by right) (Yp (K:=K) (Yp (K:=K) (vv 0) AC) (vv 2)) (by rfl) (by walk_at "i")) (@AH _ _ _ (@AK _ _ _ _ (@An _ _ _ _ _ _ _ (["_law_answer","_law_things","_law_row"]) 1 ([1,3]) _ _ _ _ rfl (BE (K:=K) (BK (AA Am (AA Am AB)))) (by kernel_rfl) rfl rfl (by kernel_rfl) (fun c=>AR (i:=0) (show(["_law_answer","_law_things","_law_row"]:List Str).Nodup by decide +kernel) rfl (by right)) (AX (by decide)) (fun c=>Ao) (fun c=>(Av (BD (K:=K)) rfl T.z_tuple (by rfl) (AA (An (N':=["_law_k","_law_row","_law_answer"]) (own:=1) (ix:=[2,0]) rfl (BE (K:=K) (vv 1)) (by kernel_rfl) rfl rfl (by kernel_rfl) (fun c=>AR (i:=0) (show(["_law_k","_law_row","_law_answer"]:List Str).Nodup by decide +kernel) rfl (by right)) (AX (by decide)) (fun c=>C3 (AW (kEq (K:=K) hu) (Yp (K:=K) (vv 1) (vv 0)) (vv 2))) (fun c=>(vv 0))) AB))) (by intro _;rfl))))),?_⟩;refine⟨_,.ref rl,.inr g.two,rfl,_,.ref b,.inr g.rows,Ah rfl (by rw[ZR,hb];rfl),?_⟩;dsimp only[AZ];refine⟨smq rfl,fun t ht=>.inr ⟨⟨_,.of AD⟩,?_⟩⟩;have s1:Yb H (upd H t (.tup [.bl false,.bl true])):=Yb.upd ht;have gt1:upd H t (.tup [.bl false,.bl true]) t=some (.tup [.bl false,.bl true]):=AD;generalize upd H t (.tup [.bl false,.bl true])=H1 at *
 refine B3 (xs:=[.bl false,.bl true]) (fun k zs H'=>Yb H1 H'/\∃qs:List Addr,zs=qs.map V.ref/\qs.length=k/\∀(i:Nat) (c:Addr),qs[i]? = some c->H' c=some (.tup (iL (Aw r (i == 1) ts)))) ⟨Yb.refl _,[],rfl,rfl,fun i c hc=>by simp at hc⟩ (fun k zs H' _ ⟨s,_⟩=>s.sqT (.of gt1)) (fun k zs H' hk ⟨_,qs,e,hq,_⟩=>by
  rw[e,ZB,hq];exact Ad (by simp at hk;lia)) ?_ ?_
 ·rintro k x zs H2 hx ⟨s2,qs,rfl,hq,hall⟩
  obtain⟨ans,rfl,ea⟩:∃ans:Bool,x=.bl ans/\ans=(k == 1):=by
   match k,hx with
   | 0,hx=>cases hx;exact⟨false,rfl,rfl⟩
   | 1,hx=>cases hx;exact⟨true,rfl,rfl⟩
   | k+2,hx=>simp at hx
  have S2:=s1.trans s2;refine .inr ⟨⟨_,S2.sqT hp⟩,?_⟩
  refine B3 (xs:=iL ts) (fun k ys H'=>H'=H2/\ys=iL (Aw r ans (ts.take k))) ⟨rfl,rfl⟩ (fun k ys H' _ ⟨e,_⟩=>by rw[e];exact S2.sqT hp) (fun k ys H' hk ⟨_,e⟩=>by
   have:=IS r ans (ts.take k)
   rw[Za]at this;rw[e,Ai];exact Ad (by lia)) ?_ ?_
  ·rintro k' x ys H' hx ⟨rfl,rfl⟩;obtain⟨t,ht,hmem,rfl⟩:=CK hx;refine⟨_,.bl (gB r t),.inr (S2.sqT hrow),Fm (by rw[hrl];exact Yq t hmem),?_⟩;rw[NW ht,Bv];refine AT (fun e=>?_) (fun e=>?_)
   ·have e':(gB r t == ans)=true:=by rw[<- Zo (gB r t == ans)];exact e
    rw[if_pos e'];exact⟨rfl,rfl⟩
   ·have e':¬(gB r t == ans)=true:=by rw[<- Zo (gB r t == ans)];exact e
    rw[if_neg e'];exact⟨rfl,by show _=_++[];rw[Zq]⟩
  ·rintro ys H' ⟨rfl,rfl⟩ l hl2;rw[ZBQ (by rw[Ai];exact ZD _)];refine⟨_,.inl ⟨.of AD,fun c hc=>?_⟩⟩;have s3:=(Yb.upd (o:=.lst (iL (Aw r ans ts))) hl2).trans (Yb.upd (o:=.tup (iL (Aw r ans ts))) hc);refine⟨s2.trans s3,qs++[c],by rw[ZJ];rfl,by rw[ZN,hq];rfl,fun i d hd=>?_⟩
   rcases ZBC i qs.length with z | z | z
   ·rw[ZBF z]at hd;exact s3 _ _ (hall i d hd)
   ·subst z;rw[Z6 (ZD _),ZBb]at hd;cases hd;rw[hq,<- ea];exact AD
   ·rw[Z6 (Zv z),ZBs (by simp;lia)]at hd;cases hd
 ·rintro zs H' ⟨s2,qs,rfl,hq,hall⟩ l hl'
  match qs,hq,hall with
  | [b0,b1],_,hall =>
  have s3:Yb H' (upd H' l (.lst ([b0,b1].map V.ref))):=Yb.upd hl';exact q l b0 b1 _ ((s1.trans s2).free hl') (s1.trans (s2.trans s3)) AD (s3 _ _ (hall 0 b0 rfl)) (s3 _ _ (hall 1 b1 rfl))
noncomputable def Cm:Dw->Bool
 | .int _=>true
 | _=>false
noncomputable def Cz(K:W.Frag)(f:Dw->Bool):Sp:=fun vs H Q _=>match vs with
 | [v]=>∃d,Yj K H d v/\Q (.bl (f d)) H
 | _=>False
theorem NE{f:Dw->Bool}:AQ (Cz K f):=fun vs H Q Q' E h q=>by
 unfold Cz at *;walk_at "q"
theorem Hx:Xj P w base T.z60 1 (Cz K Cm):=by
 refine T.z60.F.ok RK (fun vs H Q E h=>by unfold Cz at h;walk_at "e") ?_;walk_at "f";unfold Cz at h;walk_at "g"
 rename_i v;obtain⟨d,hd,q⟩:=h;refine⟨_,(@AH _ _ _ (@AK _ _ _ _ (DA (Ab (ER (K:=K)) rfl T.z_isinstance (by rfl) (AA (vv 0) (AA (EL (v:=.ty "int") rfl T.z_int (by rfl) rfl) AB))) (CY (Mg (Ab (ER (K:=K)) rfl T.z_isinstance (by rfl) (AA (vv 0) (AA (EL (v:=.ty "bool") rfl T.z_bool (by rfl) rfl) AB)))))))),?_⟩;refine⟨by decide,d,hd,?_⟩;refine AT (fun e=>⟨by decide,d,hd,?_⟩) (fun e=>?_)
 ·have:Cm d = !B8 (tyW d) "bool":=by
   revert e;cases d <;> intro e <;> first | rfl | (simp[B8,tyW]at e;done)
  rw[this]at q;exact q
 ·have:Cm d=false:=by
   revert e;cases d <;> intro e <;> first | rfl | exact absurd (show B8 _ _=true by simp[B8,tyW]) e
  rw[this]at q;exact q
noncomputable def Dk(m:Nat):Dw->Bool
 | .int i=>decide (0<=i) && decide (i < (m:Int))
 | _=>false
noncomputable def FG(K:W.Frag):Sp:=fun vs H Q _=>match vs with
 | [.int z,v]=>∃(m:Nat) (d:Dw),z=m/\Yj K H d v/\Q (.bl (Dk m d)) H
 | _=>False
theorem UQ:AQ (FG K):=fun vs H Q Q' E h q=>by
 unfold FG at *;walk_at "q"
theorem NP:Xj P w base T.z61 2 (FG K):=by
 refine T.z61.F.ok SM (fun vs H Q E h=>by unfold FG at h;walk_at "e") ?_;walk_at "f";have hr_z60:=hr.mono (show 1<=_ by decide)
 match vs,h with
 | [.int n,v],⟨m,d,e1,hd,q⟩ =>
 subst e1;refine⟨_,(@AH _ _ _ (@AK _ _ _ _ (DA (AI (@Hx P w K mg base T) hr_z60 rfl T.z60.m T.z60.F.kp T.z60.b .nil AE (AA (vv 1) AB)) (CY (WB Jb Ck AC (vv 1) (vv 0)))))),?_⟩;refine⟨d,hd,?_⟩;cases d with
 | int i =>
  unfold Yj at hd;subst hd;have q:Q (.bl (decide (0<=i) && decide (i < (m:Int)))) H:=q;refine AT (fun e=>?_) (fun e=>?_)
  ·have e':0<=i:=ZP e;rw[ZL e',ZBT]at q;exact q
  ·rw[Zz (fun z=>e (ZL z)),ZBL]at q;exact q
 | _=>exact q
theorem ME{d:Dw}(h:Dk m d=true):∃q:Nat,d=.int (q:Int)/\q < m:=by
 cases d with
 | int i =>
  have h':(decide (0<=i) && decide (i < (m:Int)))=true:=h;rw[ZK,decide_eq_true_iff,decide_eq_true_iff]at h';exact⟨i.toNat,by rw[ZB8 h'.1],by lia⟩
 | _=>cases h
noncomputable def FC:Dw->Bool
 | .tup [_,_]=>true
 | _=>false
theorem Ux{d:Dw}(h:FC d=true):∃d0 d1,d=.tup [d0,d1]:=by
 match d,h with
 | .tup [d0,d1],_=>exact⟨d0,d1,rfl⟩
 | .tup [],h=>cases h
 | .tup [_],h=>cases h
 | .tup (_::_::_::_),h=>cases h
 | .non,h=>cases h
 | .bl _,h=>cases h
 | .int _,h=>cases h
 | .str _,h=>cases h
 | .lst _,h=>cases h
 | .emp,h=>cases h
theorem QY{d:Dw}(h:Cm d=true):∃i,d=.int i:=by
 cases d with
 | int i=>exact⟨i,rfl⟩
 | _=>cases h
theorem SL:Xj P w base T.z65 1 (Cz K FC):=by
 refine T.z65.F.ok Xh (fun vs H Q E h=>by unfold Cz at h;walk_at "e") ?_;walk_at "f"
 match vs,h with
 | [v],⟨d,hd,q⟩ =>
 refine⟨_,(@AH _ _ _ (@AK _ _ _ _ (DA (Ab (ER (K:=K)) rfl T.z_isinstance (by rfl) (AA (vv 0) (AA (EL (v:=.ty "tuple") rfl T.z_tuple (by rfl) rfl) AB))) (CY (A7 (kEq (K:=K) hu) (Ab (Ay (K:=K)) rfl T.z_len (by rfl) (AA (vv 0) AB)) AC))))),?_⟩;refine⟨by decide,d,hd,?_⟩;cases d with
 | tup ds =>
  obtain⟨p,xs,rfl,hp,hx⟩:=CN hd;refine⟨_,.inr ⟨_,hp,rfl⟩,?_⟩
  have e:FC (.tup ds)=(false ^^ ((xs.length:Int) == 2)):=by
   rw[<- hx.length]
   match ds with
   | []=>rfl
   | [_]=>rfl
   | [_,_]=>rfl
   | _::_::_::r =>
    show false=_;rw[Zo];symm;rw[beq_eq_false_iff_ne]
    show((r.length+1+1+1:Nat):Int)≠2
    lia
  rw[e]at q;exact q
 | _=>exact q
noncomputable def ThW(n:Nat)(d:Dw):Prop:=∃ts:List Nat,d=.tup (ts.map fun(t:Nat)=>Dw.int (t:Int))/\ts.Pairwise (· < ·)/\∀t∈ts,t < n
noncomputable def EZ(K:W.Frag):Sp:=fun vs H Q _=>match vs with
 | [.int z,v]=>∃(n:Nat) (d:Dw),z=n/\Yj K H d v/\∀b:Bool,(b=true ↔ ThW n d)->Q (.bl b) H
 | _=>False
theorem Qu:AQ (EZ K):=fun vs H Q Q' E h q=>by
 unfold EZ at *;walk_at "q"
theorem Pk(h:ts.Pairwise (· < ·))(hl:∀t∈ts,t < k):(ts++[k]).Pairwise (· < ·):=by
 rw[List.pairwise_append];exact⟨h,by simp,fun a ha b hb=>by rw[ZO]at hb;rw[hb];exact hl a ha⟩
theorem VU:Xj P w base T.z45 3 (EZ K):=by
 refine T.z45.F.ok sc_z45 (fun vs H Q E h=>by unfold EZ at h;walk_at "e") ?_;walk_at "f";have mo1:AQ (FG K):=UQ;unfold EZ at h;walk_at "g"
 rename_i z v;obtain⟨n,d,e1,hd,q⟩:=h;subst e1;refine⟨_,(@AF _ _ _ _ _ (@Ar _ _ _ _ _ _ _ _ (CP (BL (Ab (ER (K:=K)) rfl T.z_isinstance (by rfl) (AA (vv 1) (AA (EL (v:=.ty "tuple") rfl T.z_tuple (by rfl) rfl) AB))))) (@AH _ _ _ (@AK _ _ _ _ Am)) Aq) (@AF _ _ _ _ _ (@AN _ _ 2 _ _ _ _ sc_z45.nd rfl (by right) (ML Le AC) (by rfl) (by walk_at "i")) (@AF _ _ _ _ _ (@Bu _ _ _ _ _ _ _ _ PassesOwn.never rfl (BE (K:=K) (vv 1)) (AR (i:=3) sc_z45.nd rfl (by right)) (@AF _ _ _ _ _ (@Ar _ _ _ _ _ _ _ _ (PW.pt (Ce (CP (BL (AI (@NP P w K mg base T) (hr.mono (show 2<=_ by decide)) rfl T.z61.m T.z61.F.kp T.z61.b .nil AE (AA (vv 0) (AA (vv 3) AB))))) (C6 (AW Jb (vv 3) (vv 2))))) (@AH _ _ _ (@AK _ _ _ _ Am)) Aq) (@AH _ _ _ (@AN _ _ 2 _ _ _ _ sc_z45.nd rfl (by right) (vv 3) (by rfl) (by walk_at "i")))) (by intro _;rfl)) (@AH _ _ _ (@AK _ _ _ _ Am))))),?_⟩;refine AY (fun Z H'=>(∃z2 z3:Option V,Z=[some (.int (n:Nat)),some v,z2,z3])/\H=H'/\∃ds,d=.tup ds) ?_ ?_ (by walk_at "sm")
 ·refine⟨by decide,d,hd,?_⟩;cases d with
  | tup ds=>exact⟨⟨_,_,rfl⟩,rfl,ds,rfl⟩
  | _=>exact q false ⟨(fun z=>nomatch z),fun⟨ts,e,_⟩=>nomatch e⟩
 rintro Z _ ⟨⟨z2,z3,rfl⟩,rfl,ds,rfl⟩;obtain⟨p,xs,rfl,hp,hx⟩:=CN hd;have Ym:=hx.length;refine AY (fun Z H'=>Z=[some (.int (n:Nat)),some (.ref p),some (.int (-1)),z3]/\H=H') ⟨rfl,rfl⟩ ?_ (by walk_at "sm");rintro Z _ ⟨rfl,rfl⟩;refine AY (fun Z H'=>H=H'/\ThW n (.tup ds)) ?_ (fun Z H' ⟨e,h⟩=>by subst e;exact q true ⟨fun _=>h,fun _=>rfl⟩) (by walk_at "sm");refine .inr ⟨⟨_,hp⟩,?_⟩;refine L6 (xs:=xs) (fun j Z H'=>∃(ts:List Nat) (lst:Int) (z3:Option V),Z=[some (.int (n:Nat)),some (.ref p),some (.int lst),z3]/\H=H'/\ds.take j=(ts.map fun(t:Nat)=>Dw.int (t:Int))/\ts.length=j/\ts.Pairwise (· < ·)/\(∀t∈ts,t < n)/\(∀t∈ts,(t:Int)<=lst)/\(lst = -1\/∃t∈ts,lst=(t:Int))) ⟨[],-1,_,rfl,rfl,rfl,rfl,by simp,(fun t ht=>by cases ht),(fun t ht=>by cases ht),.inl rfl⟩ (fun j Z H' _ ⟨_,_,_,_,e,_⟩=>by subst e;exact hp) ?_ ?_
 ·rintro j x Z H1 hxj ⟨ts,lst,z3,rfl,rfl,htk,htl,hup,Yq,hle,hla⟩;have hj:j < ds.length:=by rw[Ym];exact(Zg.mp hxj).1
  have ed:ds[j]? = some ds[j]:=ZE hj;obtain⟨x',ex,rx⟩:=hx.get ed;rw[hxj]at ex;cases ex;have htk1:ds.take (j+1)=(ts.map fun(t:Nat)=>Dw.int (t:Int))++[ds[j]]:=by rw[Zm,ed,htk];rfl
  generalize ds[j]=dj at *;refine⟨n,dj,rfl,rx,?_⟩;cases hb:Dk n dj with
  | false =>
   refine q false ⟨(fun z=>nomatch z),fun⟨ts',e,h1,h2⟩=>?_⟩;cases e;rw[ZR]at ed;cases ek:ts'[j]? with
   | none=>rw[ek]at ed;cases ed
   | some k =>
    rw[ek]at ed;cases ed
    have:=h2 k (Zw ek)
    have hb':(decide (0<=(k:Int)) && decide ((k:Int) < (n:Int)))=false:=hb;rw[ZL (by lia),ZL (by lia)]at hb';cases hb'
  | true =>
   obtain⟨k,rfl,hk⟩:=ME hb;unfold Yj at rx;subst rx;refine AT (fun z=>?_) (fun z=>?_)
   ·have z:(k:Int)<=lst:=ZP z;refine q false ⟨(fun z=>nomatch z),fun⟨ts',e,h1,h2⟩=>?_⟩;cases e;rw[ZR]at ed;cases ek:ts'[j]? with
    | none=>rw[ek]at ed;cases ed
    | some k' =>
     rw[ek]at ed
     have:k'=k:=by
      have e:Dw.int (k':Int)=Dw.int (k:Int):=ZV ed;injection e with e
      lia
     subst this
     rcases hla with y | ⟨t,ht,y⟩
     ·lia
     ·obtain⟨i,hi,ei⟩:=Zs ht
      have e1:((ts'.map fun(t:Nat)=>Dw.int (t:Int)).take j)[i]? = some (Dw.int (t:Int)):=by
       rw[htk,ZR,ZE hi,ei];rfl
      rw[List.getElem?_take_of_lt (by lia),ZR]at e1;cases et:ts'[i]? with
      | none=>rw[et]at e1;cases e1
      | some t' =>
       rw[et]at e1
       have e2:t'=t:=by
        have e:Dw.int (t':Int)=Dw.int (t:Int):=ZV e1;injection e with e
        lia
       subst e2;obtain⟨i1,i2⟩:=Zg.mp et;obtain⟨j1,j2⟩:=Zg.mp ek
       have:=List.pairwise_iff_getElem.mp h1 i j i1 j1 (by lia)
       rw[i2,j2]at this;lia
   ·have z:¬(k:Int)<=lst:=fun y=>z (ZL y)
    refine⟨ts++[k],k,_,rfl,rfl,?_,by rw[ZN,htl];rfl,Pk hup fun t ht=>by have:=hle t ht;lia,fun t ht=>?_,fun t ht=>?_,.inr ⟨k,by simp,rfl⟩⟩
    ·rw[htk1,ZJ];rfl
    ·rcases Zf.mp ht with y | y
     ·exact Yq t y
     ·rw[ZO]at y;lia
    ·rcases Zf.mp ht with y | y
     ·have:=hle t y;lia
     ·rw[ZO]at y;lia
 ·rintro Z H1 ⟨ts,lst,z3,rfl,rfl,htk,htl,hup,Yq,hle,hla⟩;rw[<- Ym,Zu]at htk;exact⟨rfl,ts,by rw[htk],hup,Yq⟩
noncomputable def D3(ls:List Int)(e:List Nat × Int):Prop:=EntOk ls.length e/\¬One (AG ls) (fun k=>decide (k∈e.1))
noncomputable def D2(K:W.Frag):Sp:=fun vs H Q _=>match vs with
 | [u,v]=>∃ls rs d,Yh K H (gmD ls rs) u/\Gm ls rs/\Yj K H d v/\∀(b:Bool) H',(b=true ↔ ∃e,d=A9 e/\D3 ls e)->Yb H H'->Q (.bl b) H'
 | _=>False
theorem UO:AQ (D2 K):=fun vs H Q Q' E h q=>by
 unfold D2 at *;walk_at "q"
theorem PZ:Xj P w base T.z59 4 (D2 K):=by
 refine T.z59.F.ok Um (fun vs H Q E h=>by unfold D2 at h;walk_at "e") ?_;walk_at "f";have mo1:AQ (Cz K FC):=NE;have mo2:AQ (EZ K):=Qu;have mo3:AQ (Cz K Cm):=NE;unfold D2 at h;walk_at "g"
 rename_i u v;obtain⟨ls,rs,d,hg,G,hd,q⟩:=h;obtain⟨a,tl,rl,ps,rfl,g⟩:=BW hg;have l16:=G.l16;refine⟨_,(@AF _ _ _ _ _ (@Ar _ _ _ _ _ _ _ _ (PW.pt (Ce (CP (BL (AI (@SL P w K mg base T) (hr.mono (show 1<=_ by decide)) rfl T.z65.m T.z65.F.kp T.z65.b .nil AE (AA (vv 1) AB)))) (Ce (CP (BL (AI (@VU P w K mg base T) (hr.mono (show 3<=_ by decide)) rfl T.z45.m T.z45.F.kp T.z45.b .nil AE (AA (Ab (Ay (K:=K)) rfl T.z_len (by rfl) (AA (Yp (K:=K) (vv 0) AC) AB)) (AA (Yp (K:=K) (vv 1) AC) AB))))) (C6 (CP (BL (AI (@Hx P w K mg base T) (hr.mono (show 1<=_ by decide)) rfl T.z60.m T.z60.F.kp T.z60.b .nil AE (AA (Yp (K:=K) (vv 1) AC) AB)))))))) (@AH _ _ _ (@AK _ _ _ _ Am)) Aq) (@AH _ _ _ (@AK _ _ _ _ (DA (A7 F0 (Yp (K:=K) (vv 1) AC) AC) (CY (A7 Bp (Ab HJ rfl T.z_len (by rfl) (AA (Av (La (K:=K) rfl) rfl T.z_set (by rfl) (AA (An (N':=["each","game"]) (own:=1) (ix:=[0]) rfl (BE (K:=K) (Yp (K:=K) (vv 1) AC)) (by kernel_rfl) rfl rfl (by kernel_rfl) (fun c=>AR (i:=0) (show(["each","game"]:List Str).Nodup by decide +kernel) rfl (by right)) (AX (by decide)) (fun c=>Ao) (fun c=>(Yp (K:=K) (Yp (K:=K) (vv 1) AC) (vv 0)))) AB)) AB)) AC)))))),?_⟩;refine AY (fun Z H'=>Z=[some (.ref a),some v]/\H=H'/\∃(ts:List Nat) (k:Int),d=.tup [.tup (ts.map fun(t:Nat)=>Dw.int (t:Int)),.int k]/\ts.Pairwise (· < ·)/\∀t∈ts,t < ls.length) ?_ ?_ (by walk_at "sm")
 ·refine⟨d,hd,?_⟩;cases hb:FC d with
  | false=>exact q false H ⟨(fun z=>nomatch z),fun⟨e,he,_⟩=>by rw[he]at hb;cases hb⟩ (Yb.refl _)
  | true =>
   obtain⟨d0,d1,rfl⟩:=Ux hb;obtain⟨p,xs,rfl,hp,hx⟩:=CN hd;unfold Yf at hx;obtain⟨x0,l0,rfl,r0,hx⟩:=hx;unfold Yf at hx;obtain⟨x1,l1,rfl,r1,hx⟩:=hx;unfold Yf at hx;subst hx;refine⟨_,.ref tl,.inr g.two,rfl,ls.length,.inr ⟨_,g.lab,by rw[ZB]⟩,_,x0,.inr hp,Ah (n:=0) rfl rfl,ls.length,d0,rfl,r0,fun b hb1=>?_⟩;cases b with
   | false=>exact q false H ⟨(fun z=>nomatch z),fun⟨e,he,h⟩=>by
    unfold A9 at he;injection he with he
    injection he with h0 _
    exact nomatch hb1.mpr ⟨e.1,h0,h.1.up,h.1.lt⟩⟩ (Yb.refl _)
   | true =>
    refine⟨_,x1,.inr hp,Ah (n:=1) rfl rfl,d1,r1,?_⟩;cases hw:Cm d1 with
    | false=>exact q false H ⟨(fun z=>nomatch z),fun⟨e,he,h⟩=>by
     unfold A9 at he;injection he with he
     injection he with _ h1
     injection h1 with h1 _
     rw[h1]at hw;cases hw⟩ (Yb.refl _)
    | true =>
     obtain⟨k,rfl⟩:=QY hw;obtain⟨ts,rfl,h1,h2⟩:=hb1.mp rfl;exact⟨rfl,rfl,ts,k,rfl,h1,h2⟩
 rintro Z _ ⟨rfl,rfl,ts,k,rfl,hup,Yq⟩;obtain⟨b,c,rfl,hb,hc⟩:=K6 (e:=(ts,k)) hd;have hb:Yo K H b [.ref c,.int k]:=hb;have hc:Yo K H c (iL ts):=hc;have Ym:ts.length<=ls.length:=Do ls.length ts (hup.imp fun h=>ZT h) Yq
 have inj:∀e:List Nat × Int,Dw.tup [.tup (ts.map fun(t:Nat)=>Dw.int (t:Int)),.int k]=A9 e->e=(ts,k):=fun e he=>by
  unfold A9 at he;injection he with he
  injection he with h0 h1
  injection h1 with h1 _
  injection h0 with h0
  injection h1 with h1
  have:e.1=ts:=by
   have inj':∀a b:Nat,Dw.int (a:Int)=Dw.int (b:Int)->a=b:=fun a b h=>by injection h with h;lia
   exact((List.map_inj_right fun a b h=>inj' a b h).mp h0).symm
  exact Prod.ext this h1.symm
 refine⟨_,_,.inr hb,Ah (n:=1) rfl rfl,?_⟩;refine AT (fun z=>?_) (fun z=>?_)
 ·have z:1<=k:=ZP z;refine⟨_,_,.inr hb,Ah (n:=0) rfl rfl,.inr ⟨⟨_,hc⟩,?_⟩⟩
  refine B3 (xs:=iL ts) (fun k zs H'=>H'=H/\zs=((ts.take k).map (AG ls)).map V.int) ⟨rfl,rfl⟩ (fun k zs H' _ ⟨e,_⟩=>by rw[e];exact hc) (fun k zs H' hk ⟨_,e⟩=>by
   rw[Ai]at hk;rw[e,ZB,ZB,Za];exact Ad (by lia)) ?_ ?_
  ·rintro k x zs H' hx ⟨rfl,rfl⟩;obtain⟨t,ht,hmem,rfl⟩:=CK hx;refine⟨_,.ref tl,.inr g.two,rfl,_,.int (AG ls t),.inr g.lab,DR (Yq t hmem),rfl,?_⟩;rw[Zm,ht,ZJ,ZJ];rfl
  ·rintro zs H' ⟨rfl,rfl⟩ l hl';rw[Ai,Zu];refine⟨_,.of AD,by rw[ZB];lia,fun ds qs nd hmem hqs=>?_⟩;have S:=(Yb.upd (o:=.lst ((ts.map (AG ls)).map V.int)) hl').trans (Yb.upd (o:=Ci ds) hqs);have o1:=Kh (ls:=ls) nd hmem;refine⟨ds,AD,?_⟩;refine q _ _ ?_ S;rw[decide_eq_true_iff];constructor
   ·intro h;exact⟨(ts,k),rfl,⟨hup,Yq,z⟩,fun o=>by have:=o1.mpr o;lia⟩
   ·rintro⟨e,he,h1,h2⟩
    have:=inj e he
    subst this
    have:¬ds.length < 2:=fun y=>h2 (o1.mp y)
    lia
 ·refine q false H ⟨(fun z=>nomatch z),fun⟨e,he,h1,h2⟩=>?_⟩ (Yb.refl _)
  have:=inj e he
  subst this;exact absurd (ZL h1.one) z
noncomputable def Ht(rs:List (List Bool))(es:DF):Prop:=∀e∈es,1 < e.2->∀r∈rs,∃(ans:Bool),∃e'∈es,e.2 - 1<=e'.2/\∀t∈e'.1,t∈e.1/\gB r t=ans
noncomputable def GS(ls:List Int)(rs:List (List Bool))(z:Int)(d:Dw):Prop:=∃es:DF,d=.tup (es.map A9)/\(∀e∈es,D3 ls e)/\(z<=0\/∃e∈es,z<=e.2)/\Ht rs es
theorem sub_tb:S &&& U=S ↔ ∀k,S.testBit k=true->U.testBit k=true:=by
 constructor
 ·intro h k hk;rw[<- h,Z4,ZK]at hk;exact hk.2
 ·intro h;apply Nat.eq_of_testBit_eq;intro k;rw[Z4];cases e:S.testBit k with
  | false=>rfl
  | true=>rw[h k e];rfl
theorem Te(hok:∀e∈es,EntOk ls.length e)(N:NumsOf ls.length es Yc)(G:Gm ls rs) :
 (∀(U:Nat) (m:Int),(kN U,V.int m)∈Yc->1 < m->∀y∈rs.map AM,BG Yc (U &&& y) (m - 1)\/BG Yc (U - (U &&& y)) (m - 1)) ↔ Ht rs es:=by
 have bit:∀e∈es,∀k,(msk e.1).testBit k=decide (k∈e.1):=fun e he=>(EQ (hok e he).up (hok e he).lt).2
 have key:∀(e:List Nat × Int) (he:e∈es) (r:List Bool) (m:Int),(BG Yc (msk e.1 &&& AM r) m\/BG Yc (msk e.1 - (msk e.1 &&& AM r)) m) ↔ ∃(ans:Bool) (S:Nat) (k:Int),(kN S,V.int k)∈Yc/\m<=k/\∀t,S.testBit t=true->t∈e.1/\gB r t=ans:=by
  intro e he r m;constructor
  ·rintro(⟨S,k,h1,h2,h3⟩ | ⟨S,k,h1,h2,h3⟩)
   ·refine⟨true,S,k,h1,h3,fun t ht=>?_⟩
    have:=sub_tb.mp h2 t ht
    rw[Z4,ZK,bit e he,decide_eq_true_iff,mskR_bit]at this;exact this
   ·refine⟨false,S,k,h1,h3,fun t ht=>?_⟩
    have:=sub_tb.mp h2 t ht
    rw[Cn]at this;rw[ZK,bit e he,decide_eq_true_iff,mskR_bit,ZBc]at this;exact this
  ·rintro⟨ans,S,k,h1,h3,h⟩;cases ans with
   | true =>
    refine .inl ⟨S,k,h1,sub_tb.mpr fun t ht=>?_,h3⟩;rw[Z4,ZK,bit e he,decide_eq_true_iff,mskR_bit];exact h t ht
   | false =>
    refine .inr ⟨S,k,h1,sub_tb.mpr fun t ht=>?_,h3⟩;rw[Cn];rw[ZK,bit e he,decide_eq_true_iff,mskR_bit,ZBc];exact h t ht
 constructor
 ·intro h e he h1 r hr;obtain⟨k,hk,hle⟩:=N.to_ e he;obtain⟨ans,S,k',h2,h3,h4⟩:=(key e he r (k - 1)).mp (h _ k hk (by lia) _ (ZM.mpr ⟨r,hr,rfl⟩));obtain⟨e',he',rfl,rfl⟩:=N.fro S k' h2;exact⟨ans,e',he',by lia,fun t ht=>h4 t (by rw[bit e' he'];exact ZL ht)⟩
 ·intro h U m hm h1 y hy;obtain⟨r,hr,rfl⟩:=ZM.mp hy;obtain⟨e,he,rfl,rfl⟩:=N.fro U m hm;obtain⟨ans,e',he',h2,h3⟩:=h e he h1 r hr;obtain⟨k',hk',hle⟩:=N.to_ e' he';refine(key e he r _).mpr ⟨ans,_,k',hk',by lia,fun t ht=>h3 t ?_⟩;rw[bit e' he']at ht;exact ZP ht
theorem Mt{P':List Nat × Int->Prop}:∀{ds:List Dw},(∀d∈ds,∃e,d=A9 e/\P' e)->∃es:DF,ds=es.map A9/\∀e∈es,P' e
 | [],_=>⟨[],rfl,fun e he=>by cases he⟩
 | d::ds,h=>by
  obtain⟨e,rfl,h1⟩:=h d (Zb ..);obtain⟨es,rfl,h2⟩:=Mt (ds:=ds) fun x hx=>h x (ZX _ hx)
  exact⟨e::es,rfl,fun x hx=>by
   rcases ZG.mp hx with rfl | hx
   ·exact h1
   ·exact h2 x hx⟩
theorem OO{e e':List Nat × Int}(he:A9 e=A9 e'):e=e':=by
 unfold A9 at he;injection he with he
 injection he with h0 h1
 injection h1 with h1 _
 injection h0 with h0
 injection h1 with h1
 have inj':∀a b:Nat,Dw.int (a:Int)=Dw.int (b:Int)->a=b:=fun a b h=>by injection h with h;lia
 exact Prod.ext ((List.map_inj_right fun a b h=>inj' a b h).mp h0) h1
noncomputable def Dz(K:W.Frag):Sp:=fun vs H Q _=>match vs with
 | [u,.int z,v]=>∃ls rs d,Yh K H (gmD ls rs) u/\Gm ls rs/\Yj K H d v/\(∀ds,d=.tup ds->ds.length<=100000)/\∀(b:Bool) H',(b=true ↔ GS ls rs z d)->Yb H H'->Q (.bl b) H'
 | _=>False
theorem XF:AQ (Dz K):=fun vs H Q Q' E h q=>by
 unfold Dz at *;walk_at "q"
theorem T8:Xj P w base T.z57 6 (Dz K):=by
 refine T.z57.F.ok PU (fun vs H Q E h=>by unfold Dz at h;walk_at "e") ?_;walk_at "f";have hr_z34:=hr.mono (show 4<=_ by decide);have hr1_z34:=hr.mono (show 4+1<=_ by decide);have mo1:AQ (D2 K):=UO;have mo2:AQ (EU K T.C_Bearing):=RJ;have mo3:AQ (Dx K T.C_Bearing):=Pf;unfold Dz at h;walk_at "g"
 rename_i u z v;obtain⟨ls,rs,d,hg,G,hd,hbk,q⟩:=h;refine⟨_,(@AF _ _ _ _ _ (@Ar _ _ _ _ _ _ _ _ (PW.pt (Ce (CP (BL (Ab (ER (K:=K)) rfl T.z_isinstance (by rfl) (AA (vv 2) (AA (EL (v:=.ty "tuple") rfl T.z_tuple (by rfl) rfl) AB))))) (C6 (CP (BL (Ab (JG (K:=K) rfl) rfl T.z_all (by rfl) (AA (An (N':=["entry","game"]) (own:=1) (ix:=[0]) rfl (BE (K:=K) (vv 2)) (by kernel_rfl) rfl rfl (by kernel_rfl) (fun c=>AR (i:=0) (show(["entry","game"]:List Str).Nodup by decide +kernel) rfl (by right)) (AX (by decide)) (fun c=>Ao) (fun c=>(AI (@PZ P w K mg base T) (hr.mono (show 4<=_ by decide)) rfl T.z59.m T.z59.F.kp T.z59.b .nil AE (AA (vv 1) (AA (vv 0) AB))))) AB))))))) (@AH _ _ _ (@AK _ _ _ _ Am)) Aq) (@AH _ _ _ (@AK _ _ _ _ (DA (A7 F0 (Lv (K:=K) (@An _ _ _ _ _ _ _ ["entry"] 1 [] _ _ _ _ rfl (BE (K:=K) (vv 2)) (by kernel_rfl) rfl rfl (by kernel_rfl) (fun c=>AR (i:=0) (show(["entry"]:List Str).Nodup by decide +kernel) rfl (by right)) (AX (by decide)) (fun c=>Ao) (fun c=>(Yp (K:=K) (vv 0) AC)) (by intro _;rfl)) T.z_max rfl) (vv 1)) (CY (OF (JB T.mk_Bearing (@Ts P w K mg base T) hr1_z34 rfl T.mC_Bearing T.z34.b .nil AE (AA (vv 0) (AA (vv 2) AB))) T.cl_Bearing T.z23.m (@VI P w K mg base T) (hr.mono (show 5<=_ by decide)) T.z23.b .nil AE)))))),?_⟩;refine AY (fun Z H'=>Z=[some u,some (.int z),some v]/\Yb H H'/\∃es:DF,d=.tup (es.map A9)/\∀e∈es,D3 ls e) ?_ ?_ (by walk_at "sm")
 ·refine⟨by decide,d,hd,?_⟩;cases d with
  | tup ds =>
   obtain⟨p,xs,rfl,hp,hx⟩:=CN hd;have Ym:=hx.length;have hdl:=hbk ds rfl;have hsl:sizeLine=16777216:=by decide
   refine .inr ⟨⟨_,hp⟩,?_⟩;refine B3 (xs:=xs) (fun j zs H'=>∃bs:List Bool,zs=bs.map V.bl/\bs.length=j/\Yb H H'/\∀(t:Nat) (dj:Dw),t < j->ds[t]? = some dj->(bs[t]? = some true ↔ ∃e,dj=A9 e/\D3 ls e)) ⟨[],rfl,rfl,Yb.refl _,fun t dj h=>absurd h (ZBW _)⟩ (fun j zs H' _ ⟨_,_,_,s1,_⟩=>s1.sqT hp) (fun j zs H' hj ⟨bs,e,e2,_⟩=>by rw[e,ZB,e2];lia) ?_ ?_
   ·rintro j x zs H1 hxj ⟨bs,rfl,hbl,s1,hh⟩;have hj:j < ds.length:=by rw[Ym];exact(Zg.mp hxj).1
    have ed:ds[j]? = some ds[j]:=ZE hj;obtain⟨x',ex,rx⟩:=hx.get ed;rw[hxj]at ex;cases ex;refine⟨ls,rs,ds[j],hg.same s1,G,Yj.same s1 _ _ rx,fun b H2 hb s2=>?_⟩;refine⟨bs++[b],by rw[ZJ];rfl,by rw[ZN,hbl];rfl,s1.trans s2,fun t dj ht hdj=>?_⟩
    rcases Zr t j with a | a
    ·rw[ZBF (by lia)];exact hh t dj a hdj
    ·have:t=j:=by lia
     subst this;rw[ed]at hdj;cases hdj;rw[Z6 (by lia),hbl,ZBb];rw[<- hb];simp
   ·rintro zs H1 ⟨bs,rfl,hbl,s1,hh⟩ l nl;have s2:=s1.trans (Yb.upd (o:=.lst (bs.map V.bl)) nl);refine⟨bs,.of AD,?_⟩;cases hb:bs.all id with
    | true =>
     have hall:=Zy.mp hb
     obtain⟨es,h1,h2⟩:=Mt (P':=D3 ls) (ds:=ds) fun dj hdj=>by
      obtain⟨t,ht,rfl⟩:=Zs hdj;refine(hh t _ (by lia) (ZE ht)).mp ?_;rw[ZE (show t < bs.length by lia)];exact congrArg some (hall _ (Zd _))
     exact⟨rfl,s2,es,by rw[h1],h2⟩
    | false =>
     refine q false _ ⟨(fun z=>nomatch z),fun⟨es,e,h1,_⟩=>?_⟩ s2
     have:bs.all id=true:=by
      rw[Zy];intro b hb';obtain⟨t,ht,rfl⟩:=Zs hb';have htd:t < ds.length:=by lia
      have hds:ds=es.map A9:=by injection e
      have hte:t < es.length:=by rw[hds,ZB]at htd;exact htd
      have:=(hh t ds[t] (by lia) (ZE htd)).mpr ⟨es[t],by simp only[hds,List.getElem_map],h1 _ (Zd _)⟩
      rw[ZE ht]at this;exact ZV this
     rw[hb]at this;cases this
  | _=>exact q false H ⟨(fun z=>nomatch z),fun⟨es,e,_⟩=>nomatch e⟩ (Yb.refl _)
 rintro Z H1 ⟨rfl,s1,es,rfl,hes⟩;obtain⟨ua,xs,rfl,E1⟩:=MV (Yj.same s1 _ _ hd)
 have hel:es.length<=100000:=by
  have h1:=hbk _ rfl;rw[ZB]at h1;lia
 have hsl:sizeLine=16777216:=by decide
 have hxl:=E1.len
 have hz:∀M:Int,(es.map (·.2)=[]->M=0)->(es.map (·.2)≠[]->M∈es.map (·.2)/\∀a∈es.map (·.2),a<=M)->(z<=M ↔ z<=0\/∃e∈es,z<=e.2):=by
  intro M m0 m1
  by_cases e:es.map (·.2)=[]
  ·rw[m0 e]
   have:es=[]:=List.map_eq_nil_iff.mp e
   subst this;simp
  ·obtain⟨a1,a2⟩:=m1 e;obtain⟨x,hx,rfl⟩:=ZM.mp a1;constructor
   ·intro h;exact .inr ⟨x,hx,h⟩
   ·rintro(h | ⟨y,hy,h⟩)
    ·have:=(hes x hx).1.one;lia
    ·have:=a2 _ (ZM.mpr ⟨y,hy,rfl⟩);lia
 refine .inr ⟨⟨_,E1.sq⟩,?_⟩;refine B3 (xs:=xs) (fun j zs H'=>H'=H1/\zs=((es.take j).map (·.2)).map V.int) ⟨rfl,rfl⟩ (fun j zs H' _ ⟨e,_⟩=>by rw[e];exact E1.sq) (fun j zs H' hj ⟨_,e⟩=>by rw[e,ZB,ZB,Za];lia) ?_ ?_
 ·rintro j x zs H2 hxj ⟨rfl,rfl⟩;have hj:j < es.length:=by rw[<- hxl];exact(Zg.mp hxj).1
  have ee:es[j]? = some es[j]:=ZE hj;obtain⟨x',ex,b,c,rfl,hb,hc⟩:=E1.at_ j _ ee;rw[hxj]at ex;cases ex;refine⟨_,_,.inr hb,Ah (n:=1) rfl rfl,rfl,?_⟩;rw[Zm,ee,ZJ,ZJ];rfl
 rintro zs H2 ⟨rfl,rfl⟩ l nl;rw[hxl,Zu];have s2:=Yb.upd (o:=.lst ((es.map (·.2)).map V.int)) nl;have g2:=AD (H:=H2) (a:=l) (o:=.lst ((es.map (·.2)).map V.int));generalize upd H2 l (.lst ((es.map (·.2)).map V.int))=H3 at *;refine⟨l,_,rfl,.of g2,fun M m0 m1=>?_⟩;have hzM:=hz M m0 m1;have S3:=s1.trans s2;refine AT (fun y=>?_) (fun y=>?_)
 ·have y:z<=M:=ZP y;intro x dx hx hdx Yu
  have s4:Yb H3 (upd (upd H3 dx (.own x)) x (.ins T.C_Bearing dx [])):=(Yb.upd (o:=.own x) hdx).trans (fun b o e=>by
   have:b≠x:=fun z=>by
    rw[z,AJ (Ne.symm Yu),hx]at e;cases e
   rw[AJ this];exact e)
  have hx4:upd (upd H3 dx (.own x)) x (.ins T.C_Bearing dx []) x=some (.ins T.C_Bearing dx []):=AD;generalize upd (upd H3 dx (.own x)) x (.ins T.C_Bearing dx [])=H4 at *;have S4:=S3.trans s4;refine⟨ls,rs,dx,es,hx4,hg.same S4,G,Yj.same S4 _ _ hd,fun e he=>(hes e he).1,hel,fun Yc nd fd H5 hn hf nnp nfp N R f5=>⟨rfl,?_⟩⟩;obtain⟨dx5,yl5,fvs5,k1,_⟩:=id R.at_;have hb:=Te (fun e he=>(hes e he).1) N G;refine⟨x,dx5,_,rfl,k1,nb4 _ _ _,ls.length,rs.map AM,Yc,nd,fd,R,fun b H6 hb6 kp6=>q b H6 ?_ ?_⟩
  ·rw[hb6,hb];constructor
   ·intro h;exact⟨es,rfl,hes,hzM.mp y,h⟩
   ·rintro⟨es',e,_,_,h⟩;have e:es.map A9=es'.map A9:=by injection e
    have:es=es':=(List.map_inj_right fun a b h=>OO h).mp e
    rw[this];exact h
  ·intro b o e;have e4:=S4 b o e;have e5:=f5 b o (fun z=>by rw[z]at e;have:=S3 _ _ e;rw[hx]at this;cases this) e4;refine kp6.1 b o (fun z=>?_) (fun z=>?_) e5
   ·rw[z,hn]at e4;cases e4
   ·rw[z,hf]at e4;cases e4
 ·refine q false _ ⟨(fun z=>nomatch z),fun⟨es',e,_,h,_⟩=>?_⟩ S3;have e:es.map A9=es'.map A9:=by injection e
  have:es=es':=(List.map_inj_right fun a b h=>OO h).mp e
  subst this;exact absurd (ZL (hzM.mpr h)) y
noncomputable def Ba:Str:=Str.ofString "say"
noncomputable def DO:Str:=Str.ofString "ask"
noncomputable def Ak(m:Nat):Dw->Bool
 | .tup (d0::d1::ds)=>if A8 Ba d0=true then (ds.length == 0) && Cm d1 else A8 DO d0 && ((ds.length == 2) && Dk m d1)
 | _=>false
noncomputable def Nk(K:W.Frag):Sp:=fun vs H Q _=>match vs with
 | [.int z,v]=>∃(m:Nat) (d:Dw),z=m/\Yj K H d v/\Q (.bl (Ak m d)) H
 | _=>False
theorem UZ:Xj P w base T.z37 3 (Nk K):=by
 refine T.z37.F.ok Pq (fun vs H Q E h=>by unfold Nk at h;walk_at "e") ?_;walk_at "f";have hr_z60:=hr.mono (show 1<=_ by decide)
 match vs,h with
 | [.int z,v],⟨m,d,e1,hv,q⟩ =>
 subst e1;refine⟨_,(@AF _ _ _ _ _ (@Ar _ _ _ _ _ _ _ _ (PW.pt (Ce (CP (BL (Ab (ER (K:=K)) rfl T.z_isinstance (by rfl) (AA (vv 1) (AA (EL (v:=.ty "tuple") rfl T.z_tuple (by rfl) rfl) AB))))) (C6 (AW Ck (Ab (Ay (K:=K)) rfl T.z_len (by rfl) (AA (vv 1) AB)) AC)))) (@AH _ _ _ (@AK _ _ _ _ Am)) Aq) (@AF _ _ _ _ _ (@Ar _ _ _ _ _ _ _ _ (AW (JK (K:=K) hu) (Yp (K:=K) (vv 1) AC) DC) (@AH _ _ _ (@AK _ _ _ _ (DA (A7 (kEq (K:=K) hu) (Ab (Ay (K:=K)) rfl T.z_len (by rfl) (AA (vv 1) AB)) AC) (CY (AI (@Hx P w K mg base T) hr_z60 rfl T.z60.m T.z60.F.kp T.z60.b .nil AE (AA (Yp (K:=K) (vv 1) AC) AB)))))) Aq) (@AH _ _ _ (@AK _ _ _ _ (DA (A7 (JK (K:=K) hu) (Yp (K:=K) (vv 1) AC) DC) (DA (A7 (kEq (K:=K) hu) (Ab (Ay (K:=K)) rfl T.z_len (by rfl) (AA (vv 1) AB)) AC) (CY (AI (@NP P w K mg base T) (hr.mono (show 2<=_ by decide)) rfl T.z61.m T.z61.F.kp T.z61.b .nil AE (AA (vv 0) (AA (Yp (K:=K) (vv 1) AC) AB)))))))))),?_⟩;refine⟨by decide,d,hv,?_⟩;cases d with
 | tup ds =>
  obtain⟨p,xs,rfl,hp,hx⟩:=CN hv;have hxl:=hx.length;refine⟨xs.length,.inr ⟨_,hp,rfl⟩,?_⟩
  match ds,hxl with
  | [],hxl =>
   refine AT (fun e=>q) (fun e=>absurd (ZL (show((xs.length:Nat):Int) < 2 by rw[<- hxl];decide)) e)
  | [d0],hxl =>
   refine AT (fun e=>q) (fun e=>absurd (ZL (show((xs.length:Nat):Int) < 2 by rw[<- hxl];show(1:Int) < 2;decide)) e)
  | d0::d1::ds',hxl =>
   have hl2:xs.length=ds'.length+2:=hxl.symm;refine AT (fun e=>absurd (ZP e:((xs.length:Nat):Int) < 2) (by lia)) (fun e=>?_);obtain⟨x0,e0,r0⟩:=hx.get (i:=0) rfl;obtain⟨x1,e1,r1⟩:=hx.get (i:=1) rfl;have q:Q (.bl (if A8 Ba d0=true then (ds'.length == 0) && Cm d1 else A8 DO d0 && ((ds'.length == 2) && Dk m d1))) H:=q;refine⟨_,x0,.inr hp,Ah (n:=0) rfl e0,d0,r0,?_⟩
   have len_eq:∀c:Nat,(false ^^ (((xs.length:Nat):Int) == ((c+2:Nat):Int)))=(ds'.length == c):=fun c=>by
    rw[Zo,Z2];simp only[beq_iff_eq];lia
   refine AT (fun e2=>?_) (fun e2=>?_)
   ·rw[if_pos (show A8 Ba d0=true from e2)]at q;refine⟨xs.length,.inr ⟨_,hp,rfl⟩,?_⟩;have l0:(false ^^ (((xs.length:Nat):Int) == 2))=(ds'.length == 0):=len_eq 0;refine AT (fun e3=>?_) (fun e3=>?_)
    ·rw[show(ds'.length == 0)=true from l0.symm.trans e3,ZBT]at q;exact⟨_,x1,.inr hp,Ah (n:=1) rfl e1,d1,r1,q⟩
    ·have e4:(ds'.length == 0)=false:=by
      rw[<- l0];simpa using e3
     rw[e4,ZBL]at q;exact q
   ·rw[if_neg (show ¬A8 Ba d0=true from e2)]at q;refine⟨_,x0,.inr hp,Ah (n:=0) rfl e0,d0,r0,?_⟩;refine AT (fun e3=>?_) (fun e3=>?_)
    ·rw[show A8 DO d0=true from e3,ZBT]at q;refine⟨xs.length,.inr ⟨_,hp,rfl⟩,?_⟩;have l0:(false ^^ (((xs.length:Nat):Int) == 4))=(ds'.length == 2):=len_eq 2;refine AT (fun e5=>?_) (fun e5=>?_)
     ·rw[show(ds'.length == 2)=true from l0.symm.trans e5,ZBT]at q;exact⟨_,x1,.inr hp,Ah (n:=1) rfl e1,m,d1,rfl,r1,q⟩
     ·have e4:(ds'.length == 2)=false:=by
       rw[<- l0];simpa using e5
      rw[e4,ZBL]at q;exact q
    ·have e4:A8 DO d0=false:=by
      have:¬A8 DO d0=true:=e3
      simpa using this
     rw[e4,ZBL]at q;exact q
 | _=>exact q
noncomputable def Al:Dw->List Dw
 | .tup (d0::ds)=>if A8 Ba d0=true then [] else ds.drop 1
 | _=>[]
noncomputable def EI(K:W.Frag):Sp:=fun vs H Q _=>match vs with
 | [v]=>∃(m:Nat) (d:Dw),Yj K H d v/\Ak m d=true/\∀p xs H',Yb H H'->Yo K H' p xs->Yf K H (Al d) xs->Q (.ref p) H'
 | _=>False
theorem Sf:AQ (EI K):=fun vs H Q Q' E h q=>by
 unfold EI at *;walk_at "q"
theorem No{d:Dw}(h:Ak m d=true):∃d0 d1 ds,d=.tup (d0::d1::ds)/\ds.length<=2:=by
 unfold Ak at h;split at h
 ·rename_i d0 d1 ds;refine⟨d0,d1,ds,rfl,?_⟩
  by_cases e:A8 Ba d0=true
  ·rw[if_pos e,ZK]at h
   have:ds.length=0:=by simpa using h.1
   lia
  ·rw[if_neg e,ZK,ZK]at h
   have:ds.length=2:=by simpa using h.2.1
   lia
 ·cases h
theorem Pn:Xj P w base T.z38 1 (EI K):=by
 refine T.z38.F.ok Xe (fun vs H Q E h=>by unfold EI at h;walk_at "e") ?_;walk_at "f";unfold EI at h;walk_at "g"
 rename_i v;obtain⟨m,d,hv,hf,q⟩:=h;refine⟨_,(@AH _ _ _ (@AK _ _ _ _ (DH (AW (JK (K:=K) hu) (Yp (K:=K) (vv 0) AC) DC) (BK AB) (Kb (K:=K) (vv 0) (Ge AC) GU)))),?_⟩;obtain⟨d0,d1,ds,rfl,hl⟩:=No hf;obtain⟨p,xs,rfl,hp,hx⟩:=CN hv;obtain⟨x0,e0,r0⟩:=hx.get (i:=0) rfl;have ek:Al (.tup (d0::d1::ds))=if A8 Ba d0=true then [] else ds:=rfl
 refine⟨_,x0,.inr hp,Ah (n:=0) rfl e0,d0,r0,?_⟩;refine AT (fun e=>?_) (fun e=>?_)
 ·rw[ek,if_pos (show A8 Ba d0=true from e)]at q;exact⟨ZU _,fun p1 n1=>q p1 [] _ (Yb.upd n1) (.of AD) Fj⟩
 ·rw[ek,if_neg (show ¬A8 Ba d0=true from e)]at q;refine⟨2,rfl,_,hp,fun p1 H' s' h'=>q p1 _ H' s' h' ?_⟩;have hd:=Yf.drop 2 hx;have hxl:=hx.length;have hxl2:xs.length=ds.length+2:=hxl.symm
  have ec:BS xs (some 2) none=xs.drop 2:=by
   unfold BS
   have e2:HT.sIx xs.length 0 (some 2)=2:=by
    have:=HT.sIx_nat xs.length 0 2
    rw[show min 2 xs.length=2 by lia]at this;exact this
   rw[e2,HT.sIx_none,ZBQ (by rw[ZBG];lia)]
  rw[ec];exact hd
noncomputable def EN:Sp:=fun vs H Q _=>match vs with
 | [.int m,.int d]=>Q (.bl (decide (2000 < m) || decide (16 < d))) H
 | _=>False
theorem WV:AQ EN:=fun vs H Q Q' E h q=>by
 unfold EN at *;split at q
 ·exact h _ _ q
 ·exact q.elim
theorem Wc:Xj P w base T.z28 1 EN:=by
 refine T.z28.F.ok SU (fun vs H Q E h=>by unfold EN at h;walk_at "e") ?_;walk_at "f";unfold EN at h;walk_at "g"
 rename_i m d;have q:=h;have q:Q (.bl (decide (2000 < m) || decide (16 < d))) H:=q;refine⟨_,(@AH _ _ _ (@AK _ _ _ _ (IC (A7 Bp (vv 0) (GI (v:=.int 2000) rfl T.c_MOST_TREES ⟨_,rfl⟩)) (CY (A7 Bp (vv 1) (GI (v:=.int 16) rfl T.c_MOST_WITHIN ⟨_,rfl⟩)))))),?_⟩;refine AT (fun e=>?_) (fun e=>?_)
 ·have e':(2000:Int) < m:=ZP e;rw[ZL e',Bool.true_or]at q
  first | exact q | (rw[<- ZL e']at q;exact q)
 ·have e':¬(2000:Int) < m:=fun z=>e (ZL z)
  rw[Zz e',Bool.false_or]at q;exact q
section
variable {α:Type}(f:α->Bool)(kids:α->List α)
noncomputable def lvB(bound:Nat):Nat->List α->Nat->Bool
 | _,[],_=>true
 | 0,_::_,_=>false
 | k+1,d::L,m=>decide (m<=bound) && ((d::L).all f && lvB bound k ((d::L).flatMap kids) (m+((d::L).flatMap kids).length))
noncomputable def Bj(g:α->Nat)(L:List α):Nat:=(L.map g).sum
noncomputable def cnt:Nat->α->Nat
 | 0,_=>0
 | k+1,d=>if f d=true/\(∀e∈kids d,0 < cnt k e) then 1+Bj (cnt k) (kids d) else 0
theorem On(g:α->Nat)(L M:List α):Bj g (L++M)=Bj g L+Bj g M:=by unfold Bj;rw[ZJ,List.sum_append]
theorem LS{g:α->Nat}:∀{L:List α},(∀d∈L,0 < g d)->L.length<=Bj g L
 | [],_=>ZD _
 | d::L,h=>by
  have h1:=LS (g:=g) (L:=L) fun e he=>h e (ZX _ he)
  have h2:=h d (Zb ..);show L.length+1<=g d+Bj g L;lia
theorem E4{d:α}:0 < cnt f kids (k+1) d ↔ f d=true/\∀e∈kids d,0 < cnt f kids k e:=by
 show 0 < (if f d=true/\(∀e∈kids d,0 < cnt f kids k e) then 1+Bj (cnt f kids k) (kids d) else 0) ↔ _
 by_cases h:f d=true/\∀e∈kids d,0 < cnt f kids k e
 ·rw[if_pos h];exact⟨fun _=>h,fun _=>by lia⟩
 ·rw[if_neg h];exact⟨fun z=>absurd z (ZW _),fun z=>absurd z h⟩
theorem Og{d:α}(h:0 < cnt f kids (k+1) d):cnt f kids (k+1) d=1+Bj (cnt f kids k) (kids d):=by
 have h':=(E4 f kids).mp h
 show(if f d=true/\(∀e∈kids d,0 < cnt f kids k e) then _ else _)=_
 rw[if_pos h']
theorem J3{k:Nat}:∀{L:List α},(∀d∈L,0 < cnt f kids (k+1) d)->Bj (cnt f kids (k+1)) L=L.length+Bj (cnt f kids k) (L.flatMap kids)
 | [],_=>rfl
 | d::L,h=>by
  have h1:=J3 (k:=k) (L:=L) fun e he=>h e (ZX _ he)
  have h2:=Og f kids (h d (Zb ..));show cnt f kids (k+1) d+Bj (cnt f kids (k+1)) L=(L.length+1)+Bj (cnt f kids k) (kids d++L.flatMap kids);rw[On,h1,h2];lia
theorem GN(bound:Nat):∀(k:Nat) (L:List α) (c:Nat),c<=bound->(lvB f kids bound k L (c+L.length)=true ↔ (∀d∈L,0 < cnt f kids k d)/\c+Bj (cnt f kids k) L<=bound)
 | k,[],c,hc=>by
  have e:lvB f kids bound k ([]:List α) (c+0)=true:=by cases k <;> rfl
  exact⟨fun _=>⟨nofun,hc⟩,fun _=>e⟩
 | 0,d::L,c,hc=>by
  refine⟨(fun h=>by cases h),fun h=>?_⟩;exact absurd (h.1 d (Zb ..)) (ZW _)
 | k+1,d::L,c,hc=>by
  have e:lvB f kids bound (k+1) (d::L) (c+(d::L).length)=(decide (c+(d::L).length<=bound) && ((d::L).all f && lvB f kids bound k ((d::L).flatMap kids) (c+(d::L).length+((d::L).flatMap kids).length))):=rfl;rw[e,ZK,ZK,decide_eq_true_iff,Zy];generalize d::L=M;constructor
  ·rintro⟨h1,h2,h3⟩;obtain⟨h4,h5⟩:=(GN bound k (M.flatMap kids) (c+M.length) h1).mp h3;have hall:∀x∈M,0 < cnt f kids (k+1) x:=fun x hx=>(E4 f kids).mpr ⟨h2 x hx,fun y hy=>h4 y (List.mem_flatMap.mpr ⟨x,hx,hy⟩)⟩
   refine⟨hall,?_⟩;rw[J3 f kids hall];lia
  ·rintro⟨h1,h2⟩;have h3:=J3 f kids h1;have h4:=LS h1;refine⟨by lia,fun x hx=>((E4 f kids).mp (h1 x hx)).1,(GN bound k (M.flatMap kids) (c+M.length) (by lia)).mpr ⟨fun y hy=>?_,by lia⟩⟩;obtain⟨x,hx,hy⟩:=List.mem_flatMap.mp hy;exact((E4 f kids).mp (h1 x hx)).2 y hy
end
noncomputable def Eu(K:W.Frag)(vA:V):V->Hp->VK->Prop:=fun v H Q=>∃ls rs d,Yh K H (gmD ls rs) vA/\Gm ls rs/\Yj K H d v/\Q (.bl (Ak rs.length d)) H
theorem WJ{vA:V}:∀v H Q Q',(∀y H',Q y H'->Q' y H')->Eu K vA v H Q->Eu K vA v H Q':=fun v H Q Q' k q=>by
 obtain⟨ls,rs,d,h1,h2,h3,q⟩:=q;exact⟨ls,rs,d,h1,h2,h3,k _ _ q⟩
noncomputable def Br(m:Nat)(d:Dw):Bool:=lvB (Ak m) Al 2000 16 [d] 1
noncomputable def HL(K:W.Frag)(ftw fil Yr c':Addr)(qual:Str)(vA:V):Sp:=fun vs H Q _=>match vs with
 | [.ref a,.ref b,.ref c,v]=>a=Yr/\b=ftw/\c=fil/\H c'=some (CdO c' qual)/\∃ls rs d,Yh K H (gmD ls rs) vA/\Gm ls rs/\Yj K H d v/\∀H',Yb H H'->Q (.bl (Br rs.length d)) H'
 | _=>False
theorem NR{d:Dw}(h:Ak m d=true):(Al d).length<=2:=by
 obtain⟨d0,d1,ds,rfl,hl⟩:=No h
 show(if A8 Ba d0=true then [] else ds).length<=2
 by_cases e:A8 Ba d0=true
 ·rw[if_pos e];exact ZU _
 ·rw[if_neg e];exact hl
theorem Nd:∀{L:List Dw},(∀d∈L,Ak m d=true)->(L.flatMap Al).length<=2 * L.length
 | [],_=>ZD _
 | d::L,h=>by
  have h1:=Nd (L:=L) fun e he=>h e (ZX _ he)
  have h2:=NR (h d (Zb ..));rw[List.flatMap_cons,ZN,Zn];lia
theorem Kw:∀{ds:List Dw} {xs:List V} {i:Nat} {x:V},Yf K H ds xs->xs[i]? = some x->∃d,ds[i]? = some d/\Yj K H d x
 | [],xs,i,x,h,e=>by unfold Yf at h;subst h;cases e
 | d::ds,xs,i,x,h,e=>by
  unfold Yf at h;obtain⟨y,l,rfl,r,h⟩:=h;cases i with
  | zero=>cases e;exact⟨d,rfl,r⟩
  | succ i=>exact Kw (ds:=ds) (i:=i) h (by simpa using e)
theorem Qm{mn:Nat}{L:List Dw}{d:Dw}(hd:d∈L)(h:Ak m d=false):lvB (Ak m) Al 2000 k L mn=false:=by
 cases L with
 | nil=>cases hd
 | cons x L =>
  cases k with
  | zero=>rfl
  | succ k =>
   show(decide (mn<=2000) && ((x::L).all (Ak m) && _))=false
   have:(x::L).all (Ak m)=false:=by
    cases e:(x::L).all (Ak m) with
    | false=>rfl
    | true=>rw[Zy.mp e d hd]at h;cases h
   rw[this,ZBL,Bool.and_false]
theorem P6{Yr c':Addr}{vA:V}{qual x:Str}{fdl:FuncData}(FV_has_form:FnOk P w K mg base CX0 6 Yr fdl [x] (CH c' qual (Eu K vA)))(KV_has_form:Fl K base Yr)(BV_has_form:Binds K fdl [x] []) :
 Xj P w base T.z63 8 (HL K T.z38.f T.z28.f Yr c' qual vA):=by
 have FV_parts_within:=@Pn P w K mg base T;have FV_is_beyond:=@Wc P w K mg base T;have KV_parts_within:Fl K base T.z38.f:=.inl T.z38.F.kp;have KV_is_beyond:Fl K base T.z28.f:=.inl T.z28.F.kp;have BV_parts_within:=T.z38.b;have BV_is_beyond:=T.z28.b;refine T.z63.F.ok sc_z63 (fun vs H Q E h=>by unfold HL at h;walk_at "e") ?_;walk_at "f";have mo1:AQ (CH c' qual (Eu K vA)):=UF WJ;have mo2:AQ (EI K):=Sf;have mo3:AQ EN:=WV;have RV_has_form:=hr.mono (show 6<=_ by decide);have RV_parts_within:=hr.mono (show 1<=_ by decide);have RV_is_beyond:=hr.mono (show 1<=_ by decide)
 match vs,h with
 | [.ref a,.ref b,.ref c,v],h =>
 obtain⟨e1,e2,e3,hcd,ls,rs,d0,hg,G,hv,q⟩:=h;subst e1 e2 e3;refine⟨_,(@AF _ _ _ _ _ (@AN _ _ 4 _ _ _ _ sc_z63.nd rfl (by right) (@BX _ _ _ _ (AA (vv 3) AB)) (by rfl) (by walk_at "i")) (@AF _ _ _ _ _ (@AN _ _ 5 _ _ _ _ sc_z63.nd rfl (by right) AC (by rfl) (by walk_at "i")) (@AF _ _ _ _ _ (@AN _ _ 6 _ _ _ _ sc_z63.nd rfl (by right) AC (by rfl) (by walk_at "i")) (@AF _ _ _ _ _ (@FR _ _ _ _ _ _ PassesOwn.never (AW Bp (Ab (Ay (K:=K)) rfl T.z_len (by rfl) (AA (vv 4) AB)) AC) (@AF _ _ _ _ _ (@Ar _ _ _ _ _ _ _ _ (BL (JD (vv 2) FV_is_beyond RV_is_beyond KV_is_beyond BV_is_beyond (AA (vv 6) (AA (vv 5) AB)))) (@AH _ _ _ (@AK _ _ _ _ Am)) Aq) (@AF _ _ _ _ _ (@AN _ _ 7 _ _ _ _ sc_z63.nd rfl (by right) (@BX _ _ _ _ AB) (by rfl) (by walk_at "i")) (@AF _ _ _ _ _ (@Bu _ _ _ _ _ _ _ _ PassesOwn.never rfl (BE (K:=K) (vv 4)) (AR (i:=8) sc_z63.nd rfl (by right)) (@AF _ _ _ _ _ (@Ar _ _ _ _ _ _ _ _ (CP (BL (JD (vv 0) FV_has_form RV_has_form KV_has_form BV_has_form (AA (vv 8) AB)))) (@AH _ _ _ (@AK _ _ _ _ Am)) Aq) (@AH _ _ _ (@Dt _ _ _ _ (XS (K:=K) (vv 7) (AA (JD (vv 1) FV_parts_within RV_parts_within KV_parts_within BV_parts_within (AA (vv 8) AB)) AB)) (by rfl)))) (by intro _;rfl)) (@AF _ _ _ _ _ (@AN _ _ 4 _ _ _ _ sc_z63.nd rfl (by right) (vv 7) (by rfl) (by walk_at "i")) (@AF _ _ _ _ _ (@AN _ _ 5 _ _ _ _ sc_z63.nd rfl (by right) (AO (BB (K:=K)) (vv 5) AC) (by rfl) (by walk_at "i")) (@AH _ _ _ (@AN _ _ 6 _ _ _ _ sc_z63.nd rfl (by right) (AO (BB (K:=K)) (vv 6) (Ab (Ay (K:=K)) rfl T.z_len (by rfl) (AA (vv 4) AB))) (by rfl) (by walk_at "i"))))))))) (@AH _ _ _ (@AK _ _ _ _ Am)))))),?_⟩;refine⟨smq rfl,fun l nl=>?_⟩;dsimp only[AZ]
 refine⟨fun mm Z H'=>∃(l:Addr) (L:List Dw) (xs:List V) (d mn:Nat) (z7 z8:Option V),mm=18 - d/\Z=[some (.ref a),some (.ref T.z38.f),some (.ref T.z28.f),some v,some (.ref l),some (.int d),some (.int mn),z7,z8]/\Yb H H'/\H l=none/\H' l=some (.lst xs)/\Yf K H' L xs /\
  Br rs.length d0=lvB (Ak rs.length) Al 2000 (17 - d) L mn/\L.length<=mn/\1<=d/\d<=17,⟨18 - 1,l,[d0],[v],1,1,none,none,rfl,rfl,Yb.upd nl,nl,AD,N6 (Yj.same (Yb.upd nl) _ _ hv) Fj,rfl,ZD _,ZD _,by decide⟩,?_⟩
 rintro mm Z H1 ⟨l1,L,xs,d,mn,z7,z8,rfl,rfl,s1,nl1,g1,hx,het,hLm,hd1,hd17⟩;have hxl:=hx.length;refine⟨xs.length,.inl ⟨xs,.of g1,rfl⟩,?_⟩;refine AT (fun e=>?_) (fun e=>?_)
 ·have hpos:0 < L.length:=by
   have:(0:Int) < (xs.length:Int):=ZP e
   lia
  obtain⟨u0,L',rfl⟩:∃u0 L',L=u0::L':=by
   cases L with
   | nil=>exact absurd hpos (ZW _)
   | cons u0 L'=>exact⟨u0,L',rfl⟩
  refine⟨rfl,?_⟩
  show(if (decide ((2000:Int) < (mn:Int)) || decide ((16:Int) < (d:Int)))=true then _ else _)
  refine AT (fun e2=>?_) (fun e2=>?_)
  ·have e0:Br rs.length d0=false:=by
    rw[het];rw[ZBw,decide_eq_true_iff,decide_eq_true_iff]at e2
    by_cases hd:d=17
    ·subst hd;rfl
    ·obtain⟨k,hk⟩:∃k,17 - d=k+1:=⟨16 - d,by lia⟩;rw[hk]
     show(decide (mn<=2000) && _)=false
     rw[Zz (by lia),ZBL]
   rw[e0]at q;exact q H1 s1
  have e2':¬((2000:Int) < (mn:Int))/\¬((16:Int) < (d:Int)):=by
   rw[ZBw,decide_eq_true_iff,decide_eq_true_iff]at e2;exact⟨fun z=>e2 (.inl z),fun z=>e2 (.inr z)⟩
  obtain⟨k,hk⟩:∃k,17 - d=k+1:=⟨16 - d,by lia⟩;have hk2:17 - (d+1)=k:=by lia
  rw[hk]at het;have het':Br rs.length d0=(decide (mn<=2000) && ((u0::L').all (Ak rs.length) && lvB (Ak rs.length) Al 2000 k ((u0::L').flatMap Al) (mn+((u0::L').flatMap Al).length))):=het;rw[ZL (by lia),ZBT]at het';have hno:∀y∈u0::L',Ak rs.length y=false->Br rs.length d0=false:=fun y hy hf=>het.trans (Qm hy hf)
  generalize u0::L'=L at *;dsimp only[Cc];refine⟨ZU _,fun b nb=>?_⟩;dsimp only[AZ];have nb0:H b=none:=s1.free nb;have hbl:b≠l1:=fun z=>by rw[z,g1]at nb;cases nb
  refine AY (fun Z H'=>∃(ys:List V) (z8:Option V),Z=[some (.ref a),some (.ref T.z38.f),some (.ref T.z28.f),some v,some (.ref l1),some (.int d),some (.int mn),some (.ref b),z8]/\Yb H H'/\H' b=some (.lst ys)/\Yf K H' (L.flatMap Al) ys/\∀y∈L,Ak rs.length y=true) ?_ ?_ (by walk_at "sm")
  ·refine .inl ⟨⟨_,.inl (.of (by rw[AJ (Ne.symm hbl)];exact g1))⟩,?_⟩;refine OK (xs:=xs) (fun j Z H'=>∃(ys:List V) (z8:Option V),Z=[some (.ref a),some (.ref T.z38.f),some (.ref T.z28.f),some v,some (.ref l1),some (.int d),some (.int mn),some (.ref b),z8]/\Yb H H'/\H' l1=some (.lst xs)/\H' b=some (.lst ys)/\Yf K H' ((L.take j).flatMap Al) ys/\Yf K H' L xs/\∀y∈L.take j,Ak rs.length y=true) ⟨[],z8,rfl,JE s1 nb0,by rw[AJ (Ne.symm hbl)];exact g1,AD,Fj,Yf.same (Yb.upd nb) _ _ hx,nofun⟩ (fun j Z H' _ ⟨_,_,_,_,g,_⟩=>.inl (.of g)) ?_ ?_
   ·rintro j xv Z H2 hxj ⟨ys,z8',rfl,s2,g2,gb2,hy,hx2,hall⟩;obtain⟨u,hu',rdd⟩:=Kw hx2 hxj;have hum:=Zw hu';refine⟨rfl,s2 _ _ hcd,ls,rs,u,Yh.same s2 _ _ hg,G,rdd,?_⟩;cases hf:Ak rs.length u with
    | false =>
     rw[hno u hum hf]at q;exact q H2 s2
    | true =>
    refine⟨.inl ⟨rfl,_,.of gb2⟩,rfl,rs.length,u,rdd,hf,fun p zs H3 s3 hp3 hz3=>?_⟩;have hyl:=hy.length;have hkl:=Nd hall;rw[Za]at hkl;have hzl:=hz3.length;have hul:=NR hf;have f3:Yl b H3 (upd H3 b (.lst (ys++zs))):=fun b' o n e=>by rw[AJ n];exact e
    have lb:∃ws,H3 b=some (.lst ws):=⟨_,s3 _ _ gb2⟩;have fz:=fun(M:List Dw) (ws:List V) (r:Yf K H2 M ws)=>Yf.frm f3 lb _ _ (Yf.same s3 _ _ r)
    refine⟨ys,zs,s3 _ _ gb2,hp3,by lia,ys++zs,_,rfl,JE (s2.trans s3) nb0,by rw[AJ (Ne.symm hbl)];exact s3 _ _ g2,AD,?_,fz L xs hx2,?_⟩
    ·rw[Zm,hu',List.flatMap_append];refine(fz _ _ hy).append ?_;have e0:((some u).toList.flatMap Al)=Al u:=by simp
     rw[e0];exact fz _ _ hz3
    ·intro y hy';rw[Zm,hu']at hy'
     rcases Zf.mp hy' with h | h
     ·exact hall y h
     ·have:y=u:=by simpa using h
      rw[this];exact hf
   ·rintro Z H2 ⟨ys,z8',rfl,s2,g2,gb2,hy,_,hall⟩;rw[<- hxl,Zu]at hy hall;exact⟨ys,_,rfl,s2,gb2,hy,hall⟩
  rintro Z H2 ⟨ys,z8',rfl,s2,gb2,hy,hall⟩;have hyl:=hy.length;rw[Zy.mpr hall,ZBT]at het';refine⟨ys.length,.inl ⟨ys,.of gb2,rfl⟩,?_⟩;refine⟨18 - (d+1),by lia,b,L.flatMap Al,ys,d+1,mn+ys.length,_,_,rfl,rfl,s2,nb0,gb2,hy,?_,by lia,by lia,by lia⟩;rw[hk2,<- hyl];exact het'
 ·have hz:L=[]:=by
   have:¬(0:Int) < (xs.length:Int):=fun z=>e (ZL z)
   exact ZBY.mp (by lia)
  subst hz
  have e0:Br rs.length d0=true:=by
   rw[het];cases 17 - d <;> rfl
  rw[e0]at q;exact q H1 s1
noncomputable def QK(b:List Stmt):Expr:=match b with
 | [.Return (some (.Call _ (l::_) _ _)) _]=>l
 | _=>.Name "" ⟨0,0,0,0⟩
noncomputable def J6(e:Expr):Arguments:=match e with
 | .Lambda p _ _ _=>p
 | _=>{ posonlyargs:=[],args:=[],vararg:=none,kwonlyargs:=[],kw_defaults:=[],kwarg:=none,defaults:=[] }
noncomputable def Jj(e:Expr):Expr:=match e with
 | .Lambda _ b _ _=>b
 | e=>e
noncomputable def FO(e:Expr):Scope:=match e with
 | .Lambda _ _ s _=>s
 | _=>{ kind:=.function,names:=[],isGenerator:=false,isCoroutine:=false }
noncomputable def CU:Expr:=QK (BY C8)
theorem Wi(T:Txt K mg){Yr cell c':Addr}{pm ctv uA:Value}{vA:V}(hl:base.get? Yr=some (W.kla_obj "<lambda>" CG (J6 CU) (Jj CU) (FO CU) [("game",cell)] pm c' ctv))(hc:base.IsCell cell (some uA))(rA:Yi vA uA) :
 FnOk P w K mg base CX0 6 Yr (W.kla_fn "<lambda>" CG (J6 CU) (Jj CU) (FO CU) [("game",cell)] pm (.ref c') ctv) ["part"] (CH c' CG (Eu K vA)):=by
 refine QG (k:=5) hl hc rA rfl rfl ?_ rfl rfl rfl ?_ fun A outer s H v Q hr h=>?_
 ·intro y hy;have h:=Zy.mp (show(FO CU).names.all (fun p=>p.2 != .free || p.1 == "game")=true by decide +kernel) _ (PySem.mem_of_lookup hy);simpa using h
 ·decide +kernel
 obtain⟨ls,rs,d,hg,G,hv,q⟩:=h;obtain⟨a,tl,rl,ps,rfl,g⟩:=BW hg;refine⟨_,(AI (@UZ P w K mg base T) (hr.mono (show 3<=_ by decide)) rfl T.z37.m T.z37.F.kp T.z37.b .nil AE (AA (Ab (Ay (K:=K)) rfl T.z_len (by rfl) (AA (Yp (K:=K) (vv 1) AC) AB)) (AA (vv 0) AB))),?_⟩;exact⟨_,_,.inr g.two,Ah (n:=1) rfl rfl,rs.length,.inr ⟨_,g.rows,by rw[ZB,g.len]⟩,rs.length,d,rfl,hv,q⟩
mutual
theorem Yj.tab{ps:Array Value}(s:Yt Pt H H')(hz:H Pt=some (.tbl ps)):∀(d:Dw) (v:V),Yj K H d v->Yj K H' d v
 | .non,v,h=>by unfold Yj at *;exact h
 | .bl b,v,h=>by unfold Yj at *;exact h
 | .int i,v,h=>by unfold Yj at *;exact h
 | .str x,v,h=>by unfold Yj at *;exact h
 | .tup ds,v,h=>by
  unfold Yj at *;obtain⟨a,xs,e,h1,h2⟩:=h;exact⟨a,xs,e,Ev s hz h1,Yf.tab s hz ds xs h2⟩
 | .lst ds,v,h=>by
  unfold Yj at *;obtain⟨a,xs,e,h1,h2⟩:=h;exact⟨a,xs,e,s _ _ (fun z=>by rw[z,hz]at h1;cases h1) h1,Yf.tab s hz ds xs h2⟩
 | .emp,v,h=>by
  unfold Yj at *;obtain⟨a,e,h1⟩:=h;exact⟨a,e,s _ _ (fun z=>by rw[z,hz]at h1;cases h1) h1⟩
theorem Yf.tab{ps:Array Value}(s:Yt Pt H H')(hz:H Pt=some (.tbl ps)):∀(ds:List Dw) (xs:List V),Yf K H ds xs->Yf K H' ds xs
 | [],xs,h=>by unfold Yf at *;exact h
 | d::ds,xs,h=>by
  unfold Yf at *;obtain⟨x,r,e,h1,h2⟩:=h;exact⟨x,r,e,Yj.tab s hz d x h1,Yf.tab s hz ds r h2⟩
end
noncomputable def EV(K:W.Frag)(Pt:Addr):Sp:=fun vs H Q _=>match vs with
 | [u,v]=>∃ls rs d,Yh K H (gmD ls rs) u/\Gm ls rs/\Yj K H d v/\Yx Pt Ek CG H/\∀H',Yt Pt H H'->Yx Pt Ek CG H'->Q (.bl (Br rs.length d)) H'
 | _=>False
theorem WA:AQ (EV K Pt):=fun vs H Q Q' E h q=>by
 unfold EV at *;walk_at "q"
theorem Qk(B:BMn mg base):Xj P w base T.z64 9 (EV K T.p_z64):=by
 refine T.z64.F.okC T.gc_z64 RY (fun vs H Q E h=>by unfold EV at h;walk_at "e") (fun A outer s H vs Q E hr h=>?_);have hu:=AS hr;unfold EV at h;walk_at "g"
 rename_i u v;obtain⟨ls,rs,d,hg,G,hv,hL,q⟩:=h;let spK:Addr->Addr->V->Sp:=fun Yr c' vA=>HL K T.z38.f T.z28.f Yr c' CG vA
 have hFL:∀(base':Heap) (Yr cell c':Addr) (pm ctv uA:Value) (vA:V),(∀b o,base.get? b=some o->base'.get? b=some o)->base'.get? Yr=some (W.kla_obj "<lambda>" CG (J6 CU) (Jj CU) (FO CU) [("game",cell)] pm c' ctv)->base'.IsCell cell (some uA)->Yi vA uA->FnOk P w K mg base' CX0 8 T.z63.f T.z63.d ["has_form","parts_within","is_beyond","thing"] (spK Yr c' vA) :=
  fun base' Yr cell c' pm ctv uA vA _ hl hc rA=>P6 (base:=base') T (Wi (base:=base') T hl hc rA) (.inr ⟨_,_,hl,rfl⟩) (.all fun us hl=>match us,hl with | [_],_=>rfl)
 have hclL:∀cell,(PyProof.Rows.envOfC "is_tree" (AL C8) s.heap.objs.size T.z64.f (.ref T.g_z64)).cells.lookup (PySem.Str.ofString "game")=some cell->closureFor (FO CU) (PyProof.Rows.envOfC "is_tree" (AL C8) s.heap.objs.size T.z64.f (.ref T.g_z64))=pure [((PySem.Str.ofString "game" : Str),cell)]:=fun cell h=>by
  have e:some (s.heap.objs.size+1)=some cell:=h;cases e;rfl
 refine⟨_,(@AH _ _ _ (@AK _ _ _ _ (P9 (c:=T.g_z64) (Pt:=T.p_z64) (qual:=CG) (i:=0) (a:="game") (spK:=spK) rfl T.z63.m T.z63.F.kp (hr.mono (show 8<=_ by decide)) T.z63.b rfl T.gh_z64 B rfl rfl rfl hclL rfl rfl hFL (AA (GI (v:=.ref T.z38.f) rfl T.z38.m rfl) (AA (GI (v:=.ref T.z28.f) rfl T.z28.m rfl) (AA (vv 1) AB)))))),?_⟩;refine⟨u,rfl,hL,fun Yr c' H1 g1 l1 hc1 hn1=>?_⟩;obtain⟨pz,hP,_⟩:=id hL;exact⟨rfl,rfl,rfl,hc1,ls,rs,d,Yh.tab g1 hP _ _ hg,G,Yj.tab g1 hP _ _ hv,fun H' s'=>q H' (g1.trans (Yt.same s')) (l1.same s')⟩
theorem Ej{d:Dv}{ds:List Dv}(h:Yd K H (d::ds) xs):∃x l,xs=x::l/\Yh K H d x/\Yd K H ds l:=by unfold Yd at h;exact h
inductive Tr where
 | say (i:Int)
 | ask (q:Nat) (n y:Tr)
noncomputable def Tr.dv:Tr->Dv
 | .say i=>.tup [.str (Str.ofString "say"),.int i]
 | .ask q n y=>.tup [.str (Str.ofString "ask"),.int (q:Int),n.dv,y.dv]
noncomputable def Tr.ok(m:Nat):Tr->Prop
 | .say _=>True
 | .ask q n y=>q < m/\n.ok m/\y.ok m
noncomputable def Tr.size:Tr->Nat
 | .say _=>1
 | .ask _ n y=>1+n.size+y.size
noncomputable def Tr.deep:Tr->Nat
 | .say _=>1
 | .ask _ n y=>1+max n.deep y.deep
noncomputable def Tr.kids:Tr->List Tr
 | .say _=>[]
 | .ask _ n y=>[n,y]
theorem Tr.deep_pos(t:Tr):1<=t.deep:=by cases t <;> (unfold Tr.deep;lia)
theorem Tr.size_pos(t:Tr):1<=t.size:=by cases t <;> (unfold Tr.size;lia)
theorem Tr.tups:∀t:Tr,BF t.dv=true
 | .say i=>rfl
 | .ask q n y=>by
  unfold Tr.dv BF Aj Aj Aj Aj Aj;rw[Tr.tups n,Tr.tups y];rfl
theorem Vk{i:Int}(h:Yh K H (Tr.say i).dv v):∃p,v=.ref p/\Yo K H p [.str (Str.ofString "say"),.int i]:=by
 obtain⟨a,xs,rfl,hs,hx⟩:=Ch h;obtain⟨x0,l0,rfl,r0,hx⟩:=Ej hx;obtain⟨x1,l1,rfl,r1,hx⟩:=Ej hx;unfold Yd at hx;subst hx;unfold Yh at r0 r1;subst r0 r1;exact⟨a,rfl,hs⟩
theorem RE{q:Nat}{n y:Tr}(h:Yh K H (Tr.ask q n y).dv v):∃p x2 x3,v=.ref p/\Yo K H p [.str (Str.ofString "ask"),.int (q:Int),x2,x3]/\Yh K H n.dv x2/\Yh K H y.dv x3:=by
 obtain⟨a,xs,rfl,hs,hx⟩:=Ch h;obtain⟨x0,l0,rfl,r0,hx⟩:=Ej hx;obtain⟨x1,l1,rfl,r1,hx⟩:=Ej hx;obtain⟨x2,l2,rfl,r2,hx⟩:=Ej hx;obtain⟨x3,l3,rfl,r3,hx⟩:=Ej hx;unfold Yd at hx;subst hx;unfold Yh at r0 r1;subst r0 r1;exact⟨a,x2,x3,rfl,hs,r2,r3⟩
theorem N4(ls:List Int)(rs:List (List Bool)):BF (gmD ls rs)=true:=by
 have e1:∀ls:List Int,Aj (ls.map Dv.int)=true:=by
  intro ls
  induction ls with
  | nil=>rfl
  | cons x r ih=>show(true && Aj (r.map Dv.int))=true;rw[ih];rfl
 unfold gmD;simp[BF,Aj,e1,Cy]
theorem Iq(f:Yl t H H')(ht:∃zs,H t=some (.lst zs))(h:Yo K H p xs):Yo K H' p xs:=by
 obtain⟨zs,hz⟩:=ht
 rcases h with (h1 | ⟨o,h1⟩) | h1
 ·exact .inl (.inl (f p _ (fun q=>by rw[q,hz]at h1;cases h1) h1))
 ·exact .inl (.inr ⟨o,f p _ (fun q=>by rw[q,hz]at h1;cases h1) h1⟩)
 ·exact .inr h1
noncomputable def Tr.sm:Tr->Prop
 | .say i=>i.natAbs<=100000000000000000000
 | .ask _ n y=>n.sm/\y.sm
noncomputable def cst:Nat->Nat
 | 0=>4
 | d+1=>4+2 * cst d
theorem Rh:∀d,4<=cst d
 | 0=>ZD _
 | d+1=>by show 4<=4+2 * cst d;lia
theorem N0(h:k < ls.length):atI (ls.map V.int) (k:Int)=some (.int (ls.getD k 0)):=by
 refine Ah rfl ?_;rw[ZR,ZE h,ZQ,ZE h];rfl
theorem TW(G:Gm ls rs)(h:k < ls.length):(ls.getD k 0).natAbs<=100000000000000000000:=by
 refine G.sm _ ?_;rw[ZQ,ZE h];exact Zd h
structure TS_(K:W.Frag)(H:Hp)(t p:Addr)(N:Nat)(u:V)(ls:List Int)(rs:List (List Bool))(ts:List Nat):Prop where
 F:GFeed H t N
 r:Yh K H (gmD ls rs) u
 s:Yo K H p (iL ts)
section
variable {H H':Hp}{t p:Addr}{N N':Nat}{u:V}{ls:List Int}{rs:List (List Bool)}{ts:List Nat}
theorem TS_.same(n:TS_ K H t p N u ls rs ts)(s:Yb H H'):TS_ K H' t p N u ls rs ts:=⟨n.F.same s,Yh.same s _ _ n.r,s.sqT n.s⟩
theorem TS_.mono(n:TS_ K H t p N u ls rs ts)(h:N<=N'):TS_ K H t p N' u ls rs ts:=⟨n.F.mono h,n.r,n.s⟩
theorem TS_.frm(n:TS_ K H t p N u ls rs ts)(F:GFeed H' t N')(f:Yl t H H'):TS_ K H' t p N' u ls rs ts:=⟨F,Yh.frm f n.F.lst _ _ (N4 ls rs) n.r,Iq f n.F.lst n.s⟩
end
noncomputable def spT(K:W.Frag)(D:Nat):Sp:=fun vs H Q _=>match vs with
 | [.ref t,u,.ref p,.int z]=>∃(N d:Nat) (ls:List Int) (rs:List (List Bool)) (ts:List Nat),TS_ K H t p N u ls rs ts/\N+cst d<=900000000/\Gm ls rs/\(∀x∈ts,x < ls.length)/\ts.length<=16/\z=(d:Nat)/\d < D /\
  ∀(tr:Tr) v H',Yh K H' tr.dv v->tr.ok rs.length->tr.deep<=d+1->tr.sm->GFeed H' t (N+cst d)->Yl t H H'->Q v H'
 | _=>False
theorem NU{D:Nat}:AQ (spT K D):=fun vs H Q Q' E h q=>by
 unfold spT at *;walk_at "q"
theorem Ju{r:List Bool}{b:Bool}{x:Nat}(h:x∈Aw r b ts):x∈ts:=by
 unfold Aw at h;exact(Z0.mp h).1
theorem CW(h:∀b,b≠t->H' b=H b):Yl t H H':=fun b o n e=>by rw[h b n];exact e
theorem Wh(D:Nat)(G_z53:Xj P w base T.z53 (D+3) (spT K D)):Xj P w base T.z53 (D+4) (spT K (D+1)):=by
 have G_z48:=@V7 P w K mg base T;have G_z50:=@Dp P w K mg base T;refine T.z53.F.ok sc_z53 (fun vs H Q E h=>by unfold spT at h;walk_at "e") ?_;walk_at "f";have hr_z53:=hr;have hr_z48:=hr.mono (show 1<=D+3 by lia);have hr_z50:=hr.mono (show 1<=D+3 by lia);have mo1:AQ (spT K D):=NU;have mo2:AQ (Ep K):=WZ
 match vs,h with
 | [.ref t,u,.ref p,.int z],h =>
 obtain⟨N,d,ls,rs,ts,n0,hN,G,Yq,hl16,e1,hD,q⟩:=h;subst e1;have l16:=G.l16;have r16:=G.r16;have r1:=G.r1;have hcp:=Rh d;obtain⟨a,tl,rl,ps,rfl,g⟩:=BW n0.r;refine⟨_,(@AF _ _ _ _ _ (@AN _ _ 4 _ _ _ _ sc_z53.nd rfl (by right) (A7 Ck (Ab HJ rfl T.z_len (by rfl) (AA (Av (La (K:=K) rfl) rfl T.z_set (by rfl) (AA (An (N':=["_law_k","_law_game_here"]) (own:=1) (ix:=[1]) rfl (BE (K:=K) (vv 2)) (by kernel_rfl) rfl rfl (by kernel_rfl) (fun c=>AR (i:=0) (show(["_law_k","_law_game_here"]:List Str).Nodup by decide +kernel) rfl (by right)) (AX (by decide)) (fun c=>Ao) (fun c=>(Yp (K:=K) (Yp (K:=K) (vv 1) AC) (vv 0)))) AB)) AB)) AC) (by rfl) (by walk_at "i")) (@AF _ _ _ _ _ (@Ar _ _ _ _ _ _ _ _ (PW.pt (Ce (AW (kEq (K:=K) hu) (vv 3) AC) (C6 (PW.pt (C1 (BL (vv 4)) (C5 (AW Bp (AI G_z50 hr_z50 rfl T.z50.m T.z50.F.kp T.z50.b .nil AE (AA (vv 0) (AA AC AB))) AC))))))) (@AH _ _ _ (@AK _ _ _ _ (BK (AA DC (AA (DH (AW (MQ (K:=K) hu) (vv 2) (BK AB)) (Yp (K:=K) (Yp (K:=K) (vv 1) AC) (Yp (K:=K) (vv 2) AC)) (AI G_z50 hr_z50 rfl T.z50.m T.z50.F.kp T.z50.b .nil AE (AA (vv 0) (AA AC AB)))) AB))))) Aq) (@AF _ _ _ _ _ (@C0 _ _ _ _ _ _ _ (["_law_k","_law_game_here","_law_things"]) 1 ([1,2]) _ _ _ _ 5 _ _ _ rfl sc_z53.nd rfl rfl (BA rfl T.z_range (AA (Ab (Ay (K:=K)) rfl T.z_len (by rfl) (AA (Yp (K:=K) (vv 1) AC) AB)) AB)) (by kernel_rfl) rfl rfl (by kernel_rfl) (fun c=>AR (i:=0) (show(["_law_k","_law_game_here","_law_things"]:List Str).Nodup by decide +kernel) rfl (by right)) (AX (by decide)) (fun c=>C3 (AW (LG (K:=K) hu) (BK AB) (AI G_z48 hr_z48 rfl T.z48.m T.z48.F.kp T.z48.b .nil AE (AA (vv 1) (AA (vv 2) (AA (vv 0) AB)))))) (fun c=>(vv 0)) (by rfl) (by intro _;rfl)) (@AF _ _ _ _ _ (@AN _ _ 6 _ _ _ _ sc_z53.nd rfl (by right) (AI G_z50 hr_z50 rfl T.z50.m T.z50.F.kp T.z50.b .nil AE (AA (vv 0) (AA (Ab (Ay (K:=K)) rfl T.z_len (by rfl) (AA (Yp (K:=K) (vv 1) AC) AB)) AB))) (by rfl) (by walk_at "i")) (@AF _ _ _ _ _ (@Ar _ _ _ _ _ _ _ _ (PW.pt (C1 (AW (MQ (K:=K) hu) (vv 5) (@BX _ _ _ _ AB)) (C5 (AW Bp (AI G_z50 hr_z50 rfl T.z50.m T.z50.F.kp T.z50.b .nil AE (AA (vv 0) (AA AC AB))) AC)))) (@AH _ _ _ (@AN _ _ 6 _ _ _ _ sc_z53.nd rfl (by right) (Yp (K:=K) (vv 5) (AI G_z50 hr_z50 rfl T.z50.m T.z50.F.kp T.z50.b .nil AE (AA (vv 0) (AA (Ab (Ay (K:=K)) rfl T.z_len (by rfl) (AA (vv 5) AB)) AB)))) (by rfl) (by walk_at "i"))) Aq) (@AF _ _ _ _ _ (@AN _ _ 7 _ _ _ _ sc_z53.nd rfl (by right) (AI G_z48 hr_z48 rfl T.z48.m T.z48.F.kp T.z48.b .nil AE (AA (vv 1) (AA (vv 2) (AA (vv 6) AB)))) (by rfl) (by walk_at "i")) (@AF _ _ _ _ _ (@AN _ _ 8 _ _ _ _ sc_z53.nd rfl (by right) (AI G_z53 hr_z53 rfl T.z53.m T.z53.F.kp T.z53.b .nil AE (AA (vv 0) (AA (vv 1) (AA (Yp (K:=K) (vv 7) AC) (AA (AO Cj (vv 3) AC) AB))))) (by rfl) (by walk_at "i")) (@AH _ _ _ (@AK _ _ _ _ (BK (AA DC (AA (vv 6) (AA (vv 8) (AA (AI G_z53 hr_z53 rfl T.z53.m T.z53.F.kp T.z53.b .nil AE (AA (vv 0) (AA (vv 1) (AA (Yp (K:=K) (vv 7) AC) (AA (AO Cj (vv 3) AC) AB))))) AB)))))))))))))),?_⟩;refine AY (fun Z H'=>∃b:Bool,Z=[some (.ref t),some (.ref a),some (.ref p),some (.int d),some (.bl b),none,none,none,none]/\Yb H H') ?_ ?_ (by walk_at "sm")
 ·refine .inr ⟨⟨_,n0.s⟩,?_⟩
  refine B3 (xs:=iL ts) (fun k zs H'=>H'=H/\zs=((ts.take k).map fun i=>ls.getD i 0).map V.int) ⟨rfl,rfl⟩ (fun k zs H' _ ⟨e,_⟩=>by rw[e];exact n0.s) (fun k zs H' hk ⟨_,e⟩=>by
   rw[Ai]at hk;rw[e,ZB,ZB,Za];exact Ad (by lia)) ?_ ?_
  ·rintro k x zs H' hx ⟨rfl,rfl⟩;obtain⟨i,hi,hmem,rfl⟩:=CK hx;refine⟨_,.ref tl,.inr g.two,rfl,_,.int (ls.getD i 0),.inr g.lab,N0 (Yq i hmem),rfl,?_⟩;rw[Zm,hi,ZJ,ZJ];rfl
  ·rintro zs H' ⟨rfl,rfl⟩ l hl';rw[Ai,Zu];refine⟨_,.of AD,by rw[ZB];lia,fun ds qs nd hmem hqs=>?_⟩;have S:=(Yb.upd (o:=.lst ((ts.map fun i=>ls.getD i 0).map V.int)) hl').trans (Yb.upd (o:=Ci ds) hqs);exact⟨ds,AD,_,rfl,S⟩
 rintro Z H1 ⟨b,rfl,s1⟩;have n1:=n0.same s1;have f1:Yl t H H1:=s1.frm
 have sayR:∀(b:Bool) (H2:Hp) (N2:Nat),TS_ K H2 t p N2 (.ref a) ls rs ts->N2+1<=N+cst d->Yl t H H2 ->
  GY (Dm (tC (V.str (Str.ofString "say"))) (Dm (tIf (uB (tOp (GQ K) (DV 2) (GY Di))) (tOp (mIx K) (tOp (mIx K) (DV 1) (tC (V.int 0))) (tOp (mIx K) (DV 2) (tC (V.int 0)))) (Hq D4 [] E0 (Dm (DV 0) (Dm (tC (V.int 3)) Di)))) Di)) [some (.ref t),some (.ref a),some (.ref p),some (.int d),some (.bl b),none,none,none,none] H2 Q:=by
  intro b H2 N2 n2 hN2 f2;refine⟨ZU _,fun r0 m0=>⟨iL ts,.inl ⟨(Yb.upd m0).sqT n2.s,.of AD⟩,?_⟩⟩;have n3:=n2.same (Yb.upd (o:=.tup []) m0);have f3:=f2.trans (Yb.upd (o:=.tup []) m0).frm;generalize upd H2 r0 (.tup [])=H3 at *;obtain⟨a',tl',rl',ps',ea,g'⟩:=BW n3.r;cases ea;refine AT (fun e=>?_) (fun e=>?_)
  ·have hpos:0 < ts.length:=by
    rcases ZBy ts.length with z | z
    ·rw[ZBY.mp z]at e;cases e
    ·exact z
   have h0:ts.getD 0 0 < ls.length:=Yq _ (by rw[ZQ,ZE hpos];exact Zd hpos)
   have ht0:(iL ts)[0]? = some (.int (ts.getD 0 0:Nat)):=by
    unfold iL;rw[ZR,ZE hpos,ZQ,ZE hpos];rfl
   have hsm:=TW G h0;have hat:=N0 h0;generalize ts.getD 0 0=t0 at *;generalize ls.getD t0 0=y at *;refine⟨_,.ref tl',.inr g'.two,rfl,_,.int (t0:Int),.inr n3.s,Ah (n:=0) rfl ht0,_,.int y,.inr g'.lab,hat,smq rfl,fun r m=>?_⟩;exact q (.say y) _ _ (Bf (.of AD) (AU (by unfold Yh;rfl) (AU (by unfold Yh;rfl) Ag))) trivial (by show 1<=d+1;lia) hsm ((n3.F.same (Yb.upd m)).mono (by lia)) (f3.trans (Yb.upd m).frm)
  ·refine⟨N2,n3.F,by lia,Au (by decide) (by decide),fun y H4 y0 y1 F4 f4=>⟨smq rfl,fun r m=>?_⟩⟩;exact q (.say y) _ _ (Bf (.of AD) (AU (by unfold Yh;rfl) (AU (by unfold Yh;rfl) Ag))) trivial (by show 1<=d+1;lia) (by show y.natAbs<=_;lia) ((F4.same (Yb.upd m)).mono (by lia)) (f3.trans ((CW f4).trans (Yb.upd m).frm))
 refine AY (fun Z H'=>Z=[some (.ref t),some (.ref a),some (.ref p),some (.int d),some (.bl b),none,none,none,none]/\TS_ K H' t p (N+1) (.ref a) ls rs ts/\Yl t H H'/\0 < d) ?_ ?_ (by walk_at "sm")
 ·refine AT (fun e=>sayR b H1 N n1 (by lia) f1) (fun e=>?_)
  have hd0:0 < d:=by
   rcases ZBy d with z | z
   ·subst z;exact absurd (by rfl) e
   ·exact z
  refine AT (fun e2=>?_) (fun e2=>⟨rfl,n1.mono (by lia),f1,hd0⟩);refine⟨N,n1.F,by lia,Au (by decide) (by decide),fun y H2 y0 y1 F2 f2=>?_⟩;have n2:=n1.frm F2 (CW f2);have fr2:=f1.trans (CW f2);exact AT (fun e3=>sayR b H2 (N+1) n2 (by lia) fr2) (fun e3=>⟨rfl,n2,fr2,hd0⟩)
 rintro Z H2 ⟨rfl,n2,f2,hd0⟩;clear s1 n1 f1 H1 g;obtain⟨e,rfl⟩:∃e,d=e+1:=⟨d - 1,by lia⟩;have hcst:cst (e+1)=4+2 * cst e:=rfl;obtain⟨a',tl',rl',ps',ea,g⟩:=BW n2.r;cases ea;have hrow:∀i,i < rs.length->rs[i]? = some (rs.getD i []):=fun i hi=>by simp[ZQ,hi]
 have hidep:∀xs:List Nat,Az (.tup (iD xs))<=50:=fun xs=>by unfold Az;rw[MA];lia
 refine AY (fun Z H'=>∃(lx:Addr) (zs:List Nat),Z=[some (.ref t),some (.ref a),some (.ref p),some (.int ((e+1:Nat):Int)),some (.bl b),some (.ref lx),none,none,none]/\TS_ K H' t p (N+1) (.ref a) ls rs ts/\Yl t H H'/\H' lx=some (.lst (iL zs))/\lx≠t/\(∀z∈zs,z < rs.length)/\zs.length<=16) ?_ ?_ (by walk_at "sm")
 ·refine⟨_,.ref rl',.inr g.two,rfl,rs.length,.inr ⟨_,g.rows,by rw[ZB,g.len]⟩,rs.length,rfl,by lia,by lia,?_⟩
  refine BU (fun i ys H'=>Yb H2 H'/\∃zs:List Nat,ys=iL zs/\(∀z∈zs,z < rs.length)/\zs.length<=i) ⟨Yb.refl _,[],rfl,nofun,ZD _⟩ (fun i ys H' hi ⟨_,zs,e',_,hz⟩=>by
   rw[e',Ai];exact Ad (by lia)) ?_ ?_
  ·rintro i ys H3 hi ⟨s3,zs,rfl,hz,hzl⟩;have hi':i < rs.length:=by lia
   rw[show(0:Int)+(i:Int)=(i:Int) from Int.zero_add _];have n3:=n2.same s3;refine⟨ZU _,fun r0 m0=>⟨ls,rs,ts,i,rs.getD i [],Yh.same (Yb.upd m0) _ _ n3.r,G,(Yb.upd m0).sqT n3.s,by lia,Yq,rfl,hrow i hi',fun l pn py H4 hl4 s4 g4 gn4 gy4=>?_⟩⟩;have S4:=s3.trans ((Yb.upd (o:=.tup []) m0).trans s4);refine⟨_,[.tup (iD (Aw (rs.getD i []) false ts)),.tup (iD (Aw (rs.getD i []) true ts))],.tup [],.inl (.of g4),AU (Bf (.of gn4) (Go _)) (AU (Bf (.of gy4) (Go _)) Ag),Bf (.of (s4 _ _ AD)) Ag,?_,?_⟩
   ·intro x hx;simp only[ZG,ZBp,or_false]at hx
    rcases hx with rfl | rfl
    ·exact hidep _
    ·exact hidep _
   ·refine AT (fun _=>⟨S4,zs++[i],?_,?_,by rw[ZN];show zs.length+1<=i+1;lia⟩) (fun _=>⟨S4,zs,rfl,hz,by lia⟩)
    ·rw[Bv];rfl
    ·intro z hz'
     rcases Zf.mp hz' with h | h
     ·exact hz z h
     ·rw[ZO.mp h];exact hi'
  ·rintro ys H3 ⟨s3,zs,rfl,hz,hzl⟩ lx hlx;have n3:=n2.same s3;exact⟨lx,zs,rfl,n3.same (Yb.upd hlx),f2.trans (s3.trans (Yb.upd hlx)).frm,AD,n3.F.neT hlx,hz,by lia⟩
 rintro Z H3 ⟨lx,zs,rfl,n3,f3,gx,nlx,hz,hzl⟩;clear g;obtain⟨a',tl',rl',ps',ea,g⟩:=BW n3.r;cases ea;refine⟨_,.ref rl',.inr g.two,rfl,rs.length,.inr ⟨_,g.rows,by rw[ZB,g.len]⟩,N+1,n3.F,by lia,Au (by lia) (by lia),fun y H4 y0 y1 F4 f4=>?_⟩;obtain⟨q0,rfl⟩:=Int.eq_ofNat_of_zero_le y0;have n4:=n3.frm F4 (CW f4);have fr4:=f3.trans (CW f4);have gx4:H4 lx=some (.lst (iL zs)):=by rw[f4 lx nlx];exact gx
 dsimp only[AZ];refine AY (fun Z H'=>∃q1:Nat,q1 < rs.length/\Z=[some (.ref t),some (.ref a),some (.ref p),some (.int ((e+1:Nat):Int)),some (.bl b),some (.ref lx),some (.int (q1:Int)),none,none]/\TS_ K H' t p (N+4) (.ref a) ls rs ts/\Yl t H H') ?_ ?_ (by walk_at "sm")
 ·refine⟨ZU _,fun r0 m0=>⟨iL zs,.inr ⟨.of (Yb.upd m0 _ _ gx4),.of AD⟩,?_⟩⟩;have n5:=n4.same (Yb.upd (o:=.lst []) m0);have fr5:=fr4.trans (Yb.upd (o:=.lst []) m0).frm;have gx5:=Yb.upd (o:=.lst []) m0 _ _ gx4;generalize upd H4 r0 (.lst [])=H5 at *;refine AT (fun e1=>?_) (fun e1=>⟨q0,by lia,rfl,n5.mono (by lia),fr5⟩)
  have hzp:0 < zs.length:=by
   cases zs with
   | nil=>cases e1
   | cons _ _=>exact Nat.succ_pos _
  refine⟨N+2,n5.F,by lia,Au (by decide) (by decide),fun y6 H6 y60 y61 F6 f6=>?_⟩;have n6:=n5.frm F6 (CW f6);have fr6:=fr5.trans (CW f6);have gx6:H6 lx=some (.lst (iL zs)):=by rw[f6 lx nlx];exact gx5
  refine AT (fun e2=>?_) (fun e2=>⟨q0,by lia,rfl,n6.mono (by lia),fr6⟩);refine⟨zs.length,.inl ⟨_,.of gx6,by rw[Ai]⟩,N+3,n6.F,by lia,Au (by lia) (by lia),fun y7 H7 y70 y71 F7 f7=>?_⟩;obtain⟨j7,rfl⟩:=Int.eq_ofNat_of_zero_le y70;have hj7:j7 < zs.length:=by lia
  have gx7:H7 lx=some (.lst (iL zs)):=by rw[f7 lx nlx];exact gx6
  refine⟨_,.int (zs[j7]:Nat),.inl (.of gx7),Ah rfl ?_,zs[j7],hz _ (Zd hj7),rfl,n6.frm F7 (CW f7),fr6.trans (CW f7)⟩;unfold iL;rw[ZR,ZE hj7];rfl
 rintro Z H5 ⟨q1,hq1,rfl,n5,f5⟩;refine⟨ls,rs,ts,q1,rs.getD q1 [],n5.r,G,n5.s,by lia,Yq,rfl,hrow q1 hq1,fun l pn py H6 hl6 s6 g6 gn6 gy6=>?_⟩;have n6:=n5.same s6;have f6:=f5.trans s6.frm;dsimp only[AZ];have hlm:∀b0 x,x∈Aw (rs.getD q1 []) b0 ts->x < ls.length:=fun b0 x hx=>Yq x (Ju hx)
 have hll:∀b0,(Aw (rs.getD q1 []) b0 ts).length<=16:=fun b0=>Zj (IS _ _ _) hl16
 have he1:((e+1:Nat):Int) - 1=(e:Int):=by lia
 refine⟨_,.ref pn,.inl (.of g6),rfl,?_⟩;refine⟨N+4,e,ls,rs,Aw (rs.getD q1 []) false ts,⟨n6.F,n6.r,.of gn6⟩,by lia,G,hlm false,hll false,he1,by lia,fun tr1 v1 H7 r1' o1 d1 m1 F7 fr7=>?_⟩;dsimp only[AZ];have nlt:l≠t:=n5.F.neT hl6;have g7:=fr7 _ _ nlt g6;have n7:=n6.frm F7 fr7;have gy7:Yo K H7 py (iL (Aw (rs.getD q1 []) true ts)):=Iq fr7 n6.F.lst (.of gy6);refine⟨_,.ref py,.inl (.of g7),rfl,?_⟩;refine⟨N+4+cst e,e,ls,rs,Aw (rs.getD q1 []) true ts,⟨F7,n7.r,gy7⟩,by lia,G,hlm true,hll true,he1,by lia,fun tr2 v2 H8 r2' o2 d2 m2 F8 fr8=>⟨smq rfl,fun r m=>?_⟩⟩;have r1'':=Yh.same (Yb.upd (o:=.tup [.str (Str.ofString "ask"),.int (q1:Int),v1,v2]) m) _ _ (Yh.frm fr8 F7.lst _ _ tr1.tups r1');have r2'':=Yh.same (Yb.upd (o:=.tup [.str (Str.ofString "ask"),.int (q1:Int),v1,v2]) m) _ _ r2';exact q (.ask q1 tr1 tr2) _ _ (Bf (.of AD) (AU (by unfold Yh;rfl) (AU (by unfold Yh;rfl) (AU r1'' (AU r2'' Ag))))) ⟨hq1,o1,o2⟩ (by show 1+max tr1.deep tr2.deep<=e+1+1;lia) ⟨m1,m2⟩ ((F8.same (Yb.upd m)).mono (by lia)) (f6.trans (fr7.trans (fr8.trans (Yb.upd m).frm)))
theorem LF:∀D:Nat,Xj P w base T.z53 (D+3) (spT K D)
 | 0=>by
  have no:∀vs H Q E,¬spT K 0 vs H Q E:=fun vs H Q E h=>by
   unfold spT at h;split at h
   ·obtain⟨_,_,_,_,_,_,_,_,_,_,_,z,_⟩:=h;exact absurd z (ZBW _)
   ·exact h
  exact⟨fun vs H Q E h=>(no _ _ _ _ h).elim,fun A outer s H args us vs Q E _ _ _ _ h=>(no _ _ _ _ h).elim⟩
 | c+1=>Wh T c (LF c)
theorem Sx:Xj P w base T.z53 14 (spT K 11):=LF T 11
theorem UR:∀t:Tr,t.ok m->Ak m (upW t.dv)=true
 | .say i,_=>by
  have e:Ak m (upW (Tr.say i).dv)=(if A8 Ba (.str (Str.ofString "say"))=true then ((0:Nat) == 0) && true else A8 DO (.str (Str.ofString "say")) && (((0:Nat) == 2) && Dk m (.int i))):=rfl;rw[e,if_pos (by decide)];rfl
 | .ask q n y,h=>by
  have hq:q < m:=h.1;have e:Ak m (upW (Tr.ask q n y).dv)=(if A8 Ba (.str (Str.ofString "ask"))=true then ((2:Nat) == 0) && true else A8 DO (.str (Str.ofString "ask")) && (((2:Nat) == 2) && (decide (0<=(q:Int)) && decide ((q:Int) < (m:Int))))):=rfl;rw[e,if_neg (by decide),ZL (show 0<=(q:Int) by lia),ZL (show(q:Int) < (m:Int) by lia)];decide
theorem Tb:∀t:Tr,Al (upW t.dv)=t.kids.map fun u=>upW u.dv
 | .say i=>by
  have e:Al (upW (Tr.say i).dv)=if A8 Ba (.str (Str.ofString "say"))=true then [] else []:=rfl
  rw[e,if_pos (by decide)];rfl
 | .ask q n y=>by
  have e:Al (upW (Tr.ask q n y).dv)=if A8 Ba (.str (Str.ofString "ask"))=true then [] else [upW n.dv,upW y.dv]:=rfl
  rw[e,if_neg (by decide)];rfl
theorem Ij:∀(k:Nat) (t:Tr),t.ok m->cnt (Ak m) Al k (upW t.dv)=if t.deep<=k then t.size else 0
 | 0,t,_=>by
  have:=t.deep_pos
  rw[if_neg (by lia)];rfl
 | k+1,t,h=>by
  have hf:=UR t h;have hk:=Tb t
  show(if Ak m (upW t.dv)=true/\(∀e∈Al (upW t.dv),0 < cnt (Ak m) Al k e) then 1+Bj (cnt (Ak m) Al k) (Al (upW t.dv)) else 0)=_
  rw[hk];cases t with
  | say i =>
   rw[if_pos ⟨hf,nofun⟩,if_pos (show(Tr.say i).deep<=k+1 by show 1<=k+1;lia)];rfl
  | ask q n y =>
   have hn:=Ij k n h.2.1;have hy:=Ij k y h.2.2;have pn:=n.size_pos;have py:=y.size_pos
   show(if Ak m (upW (Tr.ask q n y).dv)=true/\(∀e∈[upW n.dv,upW y.dv],0 < cnt (Ak m) Al k e) then 1+(cnt (Ak m) Al k (upW n.dv)+(cnt (Ak m) Al k (upW y.dv)+0)) else 0)=if 1+max n.deep y.deep<=k+1 then 1+n.size+y.size else 0
   by_cases c:1+max n.deep y.deep<=k+1
   ·rw[if_pos (show n.deep<=k by lia)]at hn;rw[if_pos (show y.deep<=k by lia)]at hy
    have hall:∀e∈[upW n.dv,upW y.dv],0 < cnt (Ak m) Al k e:=fun e he=>by
     simp only[ZG,ZBp,or_false]at he
     rcases he with rfl | rfl
     ·rw[hn];lia
     ·rw[hy];lia
    rw[if_pos c,if_pos ⟨hf,hall⟩,hn,hy];lia
   ·rw[if_neg c,if_neg fun z=>?_];have z1:=z.2 (upW n.dv) (by simp);have z2:=z.2 (upW y.dv) (by simp);rw[hn]at z1;rw[hy]at z2
    by_cases c1:n.deep<=k
    ·by_cases c2:y.deep<=k
     ·exact c (by lia)
     ·rw[if_neg c2]at z2;exact absurd z2 (ZW _)
    ·rw[if_neg c1]at z1;exact absurd z1 (ZW _)
theorem Gx{t:Tr}(h:t.ok m):Br m (upW t.dv)=decide (t.deep<=16/\t.size<=2000):=by
 have e:Br m (upW t.dv)=lvB (Ak m) Al 2000 16 [upW t.dv] (0+[upW t.dv].length):=rfl;rw[e,Z2,GN (Ak m) Al 2000 16 [upW t.dv] 0 (by decide),decide_eq_true_iff];have ec:Bj (cnt (Ak m) Al 16) [upW t.dv]=cnt (Ak m) Al 16 (upW t.dv)+0:=rfl;have hc:=Ij 16 t h;have hp:=t.size_pos;rw[ec];constructor
 ·rintro⟨h1,h2⟩;have h1':=h1 _ (Zb ..);rw[hc]at h1' h2
  by_cases c:t.deep<=16
  ·rw[if_pos c]at h2;exact⟨c,by lia⟩
  ·rw[if_neg c]at h1';exact absurd h1' (ZW _)
 ·rintro⟨h1,h2⟩;rw[if_pos h1]at hc;refine⟨fun x hx=>?_,by rw[hc];lia⟩
  have:x=upW t.dv:=by simpa using hx
  rw[this,hc];lia
theorem Gk(l:Yx Pt pos q H)(f:Yl t H H')(ht:∃zs,H t=some (.lst zs)):Yx Pt pos q H':=by
 obtain⟨ps,a,b,c⟩:=l;obtain⟨zs,hz⟩:=ht;refine⟨ps,f _ _ (fun z=>by rw[z,hz]at a;cases a) a,b,?_⟩
 rcases c with c | ⟨c',c,d⟩
 ·exact .inl c
 ·exact .inr ⟨c',c,f _ _ (fun z=>by rw[z,hz]at d;cases d) d⟩
theorem K9{ps:Array Value}(F:GFeed H t N)(g:Yt Pt H H')(hz:H Pt=some (.tbl ps)):GFeed H' t N:=by
 obtain⟨l,i,gg,c,ns,h1,h2,h3,h4,h5,h6,h7,h8⟩:=F.at_;exact⟨l,i,gg,c,ns,h1,h2,h3,h4,g _ _ (fun z=>by rw[z,hz]at h5;cases h5) h5,h6,g _ _ (fun z=>by rw[z,hz]at h7;cases h7) h7,h8⟩
noncomputable def BC(rs:List (List Bool))(q k:Nat):Bool:=gB (rs.getD q []) k
noncomputable def Tr.end_(rs:List (List Bool))(k:Nat):Tr->Int
 | .say i=>i
 | .ask q n y=>if BC rs q k=true then y.end_ rs k else n.end_ rs k
noncomputable def Tr.many(rs:List (List Bool))(k:Nat):Tr->Nat
 | .say _=>0
 | .ask q n y=>1+(if BC rs q k=true then y.many rs k else n.many rs k)
noncomputable def FB(K:W.Frag):Sp:=fun vs H Q _=>match vs with
 | [u,v,.int z]=>∃ls rs t k,Yh K H (gmD ls rs) u/\Gm ls rs/\Yh K H (Tr.dv t) v/\t.ok rs.length/\z=(k:Nat)/\k < ls.length/\∀p H',Yb H H'->H' p=some (.tup [.int (t.end_ rs k),.int (t.many rs k:Nat)])->Q (.ref p) H'
 | _=>False
theorem O2:AQ (FB K):=fun vs H Q Q' E h q=>by
 unfold FB at *;walk_at "q"
theorem QC:Xj P w base T.z71 1 (FB K):=by
 refine T.z71.F.ok sc_z71 (fun vs H Q E h=>by unfold FB at h;walk_at "e") ?_;walk_at "f"
 match vs,h with
 | [u,v,.int z],⟨ls,rs,t,k,hg,G,hv,hok,e1,hk,q⟩ =>
 subst e1;obtain⟨a,tl,rl,ps,rfl,g⟩:=BW hg;refine⟨_,(@AF _ _ _ _ _ (@AN _ _ 3 _ _ _ _ sc_z71.nd rfl (by right) (vv 1) (by rfl) (by walk_at "i")) (@AF _ _ _ _ _ (@AN _ _ 4 _ _ _ _ sc_z71.nd rfl (by right) AC (by rfl) (by walk_at "i")) (@AF _ _ _ _ _ (@FR _ _ _ _ _ _ PassesOwn.never (AW (kEq (K:=K) hu) (Yp (K:=K) (vv 3) AC) DC) (@AF _ _ _ _ _ (@AN _ _ 3 _ _ _ _ sc_z71.nd rfl (by right) (DH (BL (Yp (K:=K) (Yp (K:=K) (Yp (K:=K) (vv 0) AC) (Yp (K:=K) (vv 3) AC)) (vv 2))) (Yp (K:=K) (vv 3) AC) (Yp (K:=K) (vv 3) AC)) (by rfl) (by walk_at "i")) (@AH _ _ _ (@AN _ _ 4 _ _ _ _ sc_z71.nd rfl (by right) (AO (BB (K:=K)) (vv 4) AC) (by rfl) (by walk_at "i"))))) (@AH _ _ _ (@AK _ _ _ _ (BK (AA (Yp (K:=K) (vv 3) AC) (AA (vv 4) AB)))))))),?_⟩;refine⟨fun mm Z H'=>∃(t':Tr) (x:V) (c:Nat),mm=t'.size/\Z=[some (.ref a),some v,some (.int k),some x,some (.int c)]/\H'=H/\Yh K H t'.dv x/\t'.ok rs.length/\c+t'.many rs k=t.many rs k/\t'.end_ rs k=t.end_ rs k,⟨_,t,v,0,rfl,rfl,rfl,hv,hok,Nat.zero_add _,rfl⟩,?_⟩;rintro mm Z H1 ⟨t',x,c,rfl,rfl,rfl,hx,hok',hc,he⟩;cases t' with
 | say i =>
  obtain⟨p,rfl,hp⟩:=Vk hx;refine⟨_,_,.inr hp,Ah (n:=0) rfl rfl,?_⟩;refine⟨_,_,.inr hp,Ah (n:=1) rfl rfl,smq rfl,fun p1 n1=>q p1 _ (Yb.upd n1) ?_⟩;have e1:i=t.end_ rs k:=he;have e2:c+0=t.many rs k:=hc;rw[<- e1,<- e2];exact AD
 | ask q0 n y =>
  obtain⟨p,x2,x3,rfl,hp,r2,r3⟩:=RE hx;have hq:q0 < rs.length:=hok'.1;have hb:ps[q0]? = some (ps.getD q0 0):=by simp[ZQ,show q0 < ps.length by rw[g.len];exact hq]
  have hr0:rs[q0]? = some (rs.getD q0 []):=by simp[ZQ,hq]
  have hrow:=g.row q0 _ _ hb hr0;have hrl:(rs.getD q0 []).length=ls.length:=G.row _ (Zw hr0);refine⟨_,_,.inr hp,Ah (n:=0) rfl rfl,?_⟩;refine⟨_,.ref rl,.inr g.two,rfl,_,_,.inr hp,Ah (n:=1) rfl rfl,_,.ref (ps.getD q0 0),.inr g.rows,Ah rfl (by rw[ZR,hb];rfl),_,.bl (gB (rs.getD q0 []) k),.inr hrow,Fm (by rw[hrl];exact hk),?_⟩;have hm:(Tr.ask q0 n y).many rs k=1+(if BC rs q0 k=true then y.many rs k else n.many rs k):=rfl;have hE:(Tr.ask q0 n y).end_ rs k=(if BC rs q0 k=true then y.end_ rs k else n.end_ rs k):=rfl;rw[hm]at hc;rw[hE]at he;refine AT (fun e=>?_) (fun e=>?_)
  ·have e':BC rs q0 k=true:=e;rw[if_pos e']at hc he;exact⟨_,_,.inr hp,Ah (n:=3) rfl rfl,y.size,by show y.size < 1+n.size+y.size;lia,y,x3,c+1,rfl,rfl,rfl,r3,hok'.2.2,by lia,he⟩
  ·have e':¬BC rs q0 k=true:=e;rw[if_neg e']at hc he;exact⟨_,_,.inr hp,Ah (n:=2) rfl rfl,n.size,by show n.size < 1+n.size+y.size;lia,n,x2,c+1,rfl,rfl,rfl,r2,hok'.2.1,by lia,he⟩
theorem G5:∀(t:Tr) (v:V),Yj K H (upW t.dv) v->Yh K H t.dv v
 | .say i,v,h=>by
  obtain⟨a,xs,rfl,hs,hx⟩:=CN (show Yj K H (.tup [.str (Str.ofString "say"),.int i]) v from h);unfold Yf at hx;obtain⟨x0,l0,rfl,r0,hx⟩:=hx;unfold Yf at hx;obtain⟨x1,l1,rfl,r1,hx⟩:=hx;unfold Yf at hx;subst hx;unfold Yj at r0 r1;subst r0 r1;exact Bf hs (AU (by unfold Yh;rfl) (AU (by unfold Yh;rfl) Ag))
 | .ask q n y,v,h=>by
  obtain⟨a,xs,rfl,hs,hx⟩:=CN (show Yj K H (.tup [.str (Str.ofString "ask"),.int (q:Int),upW n.dv,upW y.dv]) v from h);unfold Yf at hx;obtain⟨x0,l0,rfl,r0,hx⟩:=hx;unfold Yf at hx;obtain⟨x1,l1,rfl,r1,hx⟩:=hx;unfold Yf at hx;obtain⟨x2,l2,rfl,r2,hx⟩:=hx;unfold Yf at hx;obtain⟨x3,l3,rfl,r3,hx⟩:=hx;unfold Yf at hx;subst hx;have r2':=G5 n x2 r2;have r3':=G5 y x3 r3;unfold Yj at r0 r1;subst r0 r1;exact Bf hs (AU (by unfold Yh;rfl) (AU (by unfold Yh;rfl) (AU r2' (AU r3' Ag))))
theorem NG{s:Str}{d:Dw}(h:A8 s d=true):d=.str s:=by
 cases d with
 | str x=>have:(x == s)=true:=h;rw[eq_of_beq this]
 | _=>cases h
theorem U6{d:Dw}(h:Cm d=true):∃i,d=.int i:=by
 cases d with
 | int i=>exact⟨i,rfl⟩
 | _=>cases h
theorem Hn:∀(k:Nat) (d:Dw),0 < cnt (Ak m) Al k d->∃t:Tr,d=upW t.dv/\t.ok m
 | 0,d,h=>absurd h (ZW _)
 | k+1,d,h=>by
  obtain⟨hf,hk⟩:=(E4 (Ak m) Al).mp h
  match d,hf,hk with
  | .tup (d0::d1::ds),hf,hk =>
   have hf':(if A8 Ba d0=true then (ds.length == 0) && Cm d1 else A8 DO d0 && ((ds.length == 2) && Dk m d1))=true:=hf
   by_cases e:A8 Ba d0=true
   ·rw[if_pos e,ZK]at hf';obtain⟨h1,h2⟩:=hf';obtain⟨i,rfl⟩:=U6 h2
    have:ds=[]:=ZBY.mp (by simpa using h1)
    subst this;rw[NG e];exact⟨.say i,rfl,trivial⟩
   ·rw[if_neg e,ZK,ZK]at hf';obtain⟨h0,h1,h2⟩:=hf';obtain⟨q,rfl,hq⟩:=ME h2;have h1':ds.length=2:=by simpa using h1
    match ds,h1' with
    | [d2,d3],_ =>
    have ek:Al (.tup (d0::.int (q:Int)::[d2,d3]))=[d2,d3]:=by
     have:Al (.tup (d0::.int (q:Int)::[d2,d3]))=if A8 Ba d0=true then [] else [d2,d3]:=rfl
     rw[this,if_neg e]
    rw[ek]at hk;obtain⟨t2,e2,o2⟩:=Hn k d2 (hk d2 (by simp));obtain⟨t3,e3,o3⟩:=Hn k d3 (hk d3 (by simp));rw[NG h0,e2,e3];exact⟨.ask q t2 t3,rfl,hq,o2,o3⟩
  | .tup [],hf,_=>cases hf
  | .tup [_],hf,_=>cases hf
  | .non,hf,_=>cases hf
  | .bl _,hf,_=>cases hf
  | .int _,hf,_=>cases hf
  | .str _,hf,_=>cases hf
  | .lst _,hf,_=>cases hf
  | .emp,hf,_=>cases hf
theorem Qt{d:Dw}(h:Br m d=true):∃t:Tr,d=upW t.dv/\t.ok m/\t.deep<=16/\t.size<=2000:=by
 have e:Br m d=lvB (Ak m) Al 2000 16 [d] (0+[d].length):=rfl;have h':=(GN (Ak m) Al 2000 16 [d] 0 (by decide)).mp (e ▸ h);obtain⟨t,rfl,o⟩:=Hn 16 d (h'.1 _ (Zb ..));rw[Gx o,decide_eq_true_iff]at h;exact⟨t,rfl,o,h.1,h.2⟩
noncomputable def Bi(ls:List Int)(rs:List (List Bool))(z:Int)(t:Tr)(k:Nat):Bool:=decide (t.end_ rs k=AG ls k) && decide ((t.many rs k:Int)<=z)
theorem II:∀(t:Tr) (d:Nat) (S:Nat->Bool),t.ok rs.length->(∀k,S k=true->t.end_ rs k=AG ls k/\t.many rs k<=d)->Can (AG ls) (rs.map gB) d S
 | .say i,d,S,_,h=>EM (ZU d) (show Can (AG ls) (rs.map gB) 0 S from fun a b ha hb=>by
  rw[<- (h a ha).1,<- (h b hb).1];rfl)
 | .ask q n y,0,S,_,h=>fun a b ha _=>by
  have:=(h a ha).2
  have e:(Tr.ask q n y).many rs a=1+(if BC rs q a=true then y.many rs a else n.many rs a):=rfl;lia
 | .ask q n y,d+1,S,ho,h=>by
  have hq:q < rs.length:=ho.1;have er:rs.getD q []=rs[q]:=by simp[ZQ,hq]
  refine .inr ⟨gB rs[q],ZM.mpr ⟨_,Zd hq,rfl⟩,II y d _ ho.2.2 fun k hk=>?_,II n d _ ho.2.1 fun k hk=>?_⟩
  ·rw[ZK]at hk;have e:BC rs q k=true:=by unfold BC;rw[er];exact hk.2
   have h1:=h k hk.1;have e1:(Tr.ask q n y).many rs k=1+(if BC rs q k=true then y.many rs k else n.many rs k):=rfl;have e2:(Tr.ask q n y).end_ rs k=(if BC rs q k=true then y.end_ rs k else n.end_ rs k):=rfl;rw[e1,e2,if_pos e,if_pos e]at h1;exact⟨h1.1,by lia⟩
  ·rw[ZK,ZBc]at hk;have e:¬BC rs q k=true:=by unfold BC;rw[er,hk.2];exact ZBE
   have h1:=h k hk.1;have e1:(Tr.ask q n y).many rs k=1+(if BC rs q k=true then y.many rs k else n.many rs k):=rfl;have e2:(Tr.ask q n y).end_ rs k=(if BC rs q k=true then y.end_ rs k else n.end_ rs k):=rfl;rw[e1,e2,if_neg e,if_neg e]at h1;exact⟨h1.1,by lia⟩
theorem tr_inj:∀t t':Tr,upW t.dv=upW t'.dv->t=t'
 | .say i,.say j,h=>by
  have h':Dw.tup [.str (Str.ofString "say"),.int i]=.tup [.str (Str.ofString "say"),.int j]:=h;simp only[Dw.tup.injEq,List.cons.injEq,Dw.int.injEq,and_true,true_and]at h';rw[h']
 | .say i,.ask q n y,h=>by
  have h':Dw.tup [.str (Str.ofString "say"),.int i]=.tup [.str (Str.ofString "ask"),.int (q:Int),upW n.dv,upW y.dv]:=h;simp at h'
 | .ask q n y,.say i,h=>by
  have h':Dw.tup [.str (Str.ofString "ask"),.int (q:Int),upW n.dv,upW y.dv]=Dw.tup [.str (Str.ofString "say"),.int i]:=h;simp at h'
 | .ask q n y,.ask q' n' y',h=>by
  have h':Dw.tup [.str (Str.ofString "ask"),.int (q:Int),upW n.dv,upW y.dv]=.tup [.str (Str.ofString "ask"),.int (q':Int),upW n'.dv,upW y'.dv]:=h;simp only[Dw.tup.injEq,List.cons.injEq,Dw.int.injEq,and_true,true_and]at h';obtain⟨h1,h2,h3⟩:=h';have e1:q=q':=by lia
  rw[e1,tr_inj n n' h2,tr_inj y y' h3]
noncomputable def EX(K:W.Frag):Sp:=fun vs H Q _=>match vs with
 | [u,.int z,v,.int h]=>∃ls rs t k,Yh K H (gmD ls rs) u/\Gm ls rs/\Yh K H (Tr.dv t) v/\t.ok rs.length/\h=(k:Nat)/\k < ls.length/\∀H',Yb H H'->Q (.bl (Bi ls rs z t k)) H'
 | _=>False
theorem VV:AQ (EX K):=fun vs H Q Q' E h q=>by
 unfold EX at *;walk_at "q"
theorem Vr:Xj P w base T.z47 2 (EX K):=by
 refine T.z47.F.ok sc_z47 (fun vs H Q E h=>by unfold EX at h;walk_at "e") ?_;walk_at "f";unfold EX at h;walk_at "g"
 rename_i u z v h0;obtain⟨ls,rs,t,k,hg,G,hv,hok,e1,hk,q⟩:=h;subst e1;have mo:AQ (FB K):=O2;refine⟨_,(@AF _ _ _ _ _ (@AN _ _ 4 _ _ _ _ sc_z47.nd rfl (by right) (AI (@QC P w K mg base T) (hr.mono (show 1<=_ by decide)) rfl T.z71.m T.z71.F.kp T.z71.b .nil AE (AA (vv 0) (AA (vv 2) (AA (vv 3) AB)))) (by rfl) (by walk_at "i")) (@AH _ _ _ (@AK _ _ _ _ (DA (A7 (kEq (K:=K) hu) (Yp (K:=K) (vv 4) AC) (Yp (K:=K) (Yp (K:=K) (vv 0) AC) (vv 3))) (CY (A7 Jb (Yp (K:=K) (vv 4) AC) (vv 1))))))),?_⟩;refine⟨ls,rs,t,k,hg,G,hv,hok,rfl,hk,fun p H1 s1 g1=>?_⟩;dsimp only[AZ];obtain⟨a,tl,rl,ps,rfl,g⟩:=BW (Yh.same s1 _ _ hg);refine⟨_,_,.inr (.of g1),Ah (n:=0) rfl rfl,_,.ref tl,.inr g.two,rfl,_,_,.inr g.lab,DR hk,?_⟩;have e:Bi ls rs z t k=(decide (t.end_ rs k=AG ls k) && decide ((t.many rs k:Int)<=z)):=rfl;have q':=q H1 s1;rw[e]at q';generalize t.end_ rs k=x at *;generalize AG ls k=y at *;generalize ((t.many rs k:Nat):Int)=m at *;have e2:(false ^^ (x == y))=decide (x=y):=by rw[Zo];rfl
 show if (false ^^ (x == y))=true then _ else _
 rw[e2];refine AT (fun h=>?_) (fun h=>?_)
 ·refine⟨_,_,.inr (.of g1),Ah (n:=1) rfl rfl,?_⟩;rw[h,ZBT]at q';exact q'
 ·have:decide (x=y)=false:=by simpa using h
  rw[this,ZBL]at q';exact q'
noncomputable def Eo(K:W.Frag)(Pt:Addr):Sp:=fun vs H Q _=>match vs with
 | [u,.int z,v]=>∃ls rs d,Yh K H (gmD ls rs) u/\Gm ls rs/\Yj K H d v/\Yx Pt Ek CG H/\(Br rs.length d=false->∀H',Yt Pt H H'->Yx Pt Ek CG H'->Q (.bl false) H')/\(∀t:Tr,d=upW t.dv->t.ok rs.length->Br rs.length d=true->∀H',Yt Pt H H'->Yx Pt Ek CG H'->Q (.bl ((List.range ls.length).all (Bi ls rs z t))) H')
 | _=>False
theorem Nh:AQ (Eo K Pt):=fun vs H Q Q' E h q=>by
 unfold Eo at *;split at q
 ·obtain⟨ls,rs,d,h1,h2,h3,h4,q1,q2⟩:=q;exact⟨ls,rs,d,h1,h2,h3,h4,fun x1 H' x2 x3=>h _ _ (q1 x1 H' x2 x3),fun t x1 x2 x3 H' x4 x5=>h _ _ (q2 t x1 x2 x3 H' x4 x5)⟩
 ·exact q.elim
theorem LD(B:BMn mg base):Xj P w base T.z56 10 (Eo K T.p_z64):=by
 refine T.z56.F.ok Oy (fun vs H Q E h=>by unfold Eo at h;walk_at "e") ?_;walk_at "f";have mo1:AQ (EV K T.p_z64):=WA;have mo2:AQ (EX K):=VV
 match vs,h with
 | [u,.int z,v],⟨ls,rs,d,hg,G,hd,hL,q1,q2⟩ =>
 refine⟨_,(@AF _ _ _ _ _ (@Ar _ _ _ _ _ _ _ _ (CP (BL (AI (@Qk P w K mg base T B) (hr.mono (show 9<=_ by decide)) rfl T.z64.m T.z64.F.kp T.z64.b .nil AE (AA (vv 0) (AA (vv 2) AB))))) (@AH _ _ _ (@AK _ _ _ _ Am)) Aq) (@AH _ _ _ (@AK _ _ _ _ (Ab (JG (K:=K) rfl) rfl T.z_all (by rfl) (AA (An (N':=["hidden","game","d","thing"]) (own:=1) (ix:=[0,1,2]) rfl (BA rfl T.z_range (AA (Ab (Ay (K:=K)) rfl T.z_len (by rfl) (AA (Yp (K:=K) (vv 0) AC) AB)) AB)) (by kernel_rfl) rfl rfl (by kernel_rfl) (fun c=>AR (i:=0) (show(["hidden","game","d","thing"]:List Str).Nodup by decide +kernel) rfl (by right)) (AX (by decide)) (fun c=>Ao) (fun c=>(AI (@Vr P w K mg base T) (hr.mono (show 2<=_ by decide)) rfl T.z47.m T.z47.F.kp T.z47.b .nil AE (AA (vv 1) (AA (vv 2) (AA (vv 3) (AA (vv 0) AB))))))) AB))))),?_⟩;obtain⟨pz,hP,_⟩:=id hL;refine⟨ls,rs,d,hg,G,hd,hL,fun H1 g1 L1=>?_⟩;have l16:=G.l16;have hg1:=Yh.tab g1 hP _ _ hg;have hd1:=Yj.tab g1 hP _ _ hd;cases hb:Br rs.length d with
 | false=>exact q1 hb H1 g1 L1
 | true =>
  obtain⟨t,rfl,hok,_,_⟩:=Qt hb;have hv:=G5 t v hd1;obtain⟨a,tl,rl,ps,rfl,g⟩:=BW hg1;refine⟨_,.ref tl,.inr g.two,rfl,ls.length,.inr ⟨_,g.lab,by rw[ZB]⟩,ls.length,rfl,by lia,by lia,?_⟩;refine BU (fun j ys H'=>Yb H1 H'/\ys=((List.range j).map (Bi ls rs z t)).map V.bl) ⟨Yb.refl _,rfl⟩ (fun j ys H' hj ⟨_,e⟩=>by rw[e,ZB,ZB,Zt];exact Ad (by lia)) ?_ ?_
  ·rintro j ys H2 hj ⟨s2,rfl⟩;rw[Zc]at hj;refine⟨ls,rs,t,j,Yh.same s2 _ _ hg1,G,Yh.same s2 _ _ hv,hok,by rw[Int.zero_add],hj,fun H3 s3=>⟨s2.trans s3,?_⟩⟩;rw[ZBJ,ZJ,ZJ];rfl
  ·rintro ys H2 ⟨s2,rfl⟩ l nl;rw[Zc];refine⟨(List.range ls.length).map (Bi ls rs z t),.of AD,?_⟩;have s3:=s2.trans (Yb.upd (o:=.lst (((List.range ls.length).map (Bi ls rs z t)).map V.bl)) nl);rw[show((List.range ls.length).map (Bi ls rs z t)).all id=(List.range ls.length).all (Bi ls rs z t) by rw[List.all_map];rfl];exact q2 t rfl hok hb _ (g1.trans (Yt.same s3)) (L1.same s3)
theorem ln8(a b c d:V):(Bc a b c d).lookup ("label_of" : Str)=none:=by rfl
theorem ln9(a b c d:V):(Bc a b c d).lookup ("first_question" : Str)=none:=by rfl
theorem lnA(a b c d:V):(Bc a b c d).lookup ("harder_lefts" : Str)=none:=by rfl
theorem lnB(a b c d:V):(Bc a b c d).lookup ("everything" : Str)=none:=by rfl
noncomputable def DS(ls:List Int)(ys:List Nat):Tr->Nat->Prop
 | .say i,S=>One (AG ls) S.testBit/\∃k,S.testBit k=true/\i=AG ls k
 | .ask q n y,S=>¬One (AG ls) S.testBit/\FirstQ ls ys S q/\DS ls ys n (S - (S &&& ys.getD q 0))/\DS ls ys y (S &&& ys.getD q 0)
noncomputable def DU(K:W.Frag)(C Pt:Addr)(c:Nat):Sp:=fun vs H Q _=>match vs with
 | [.ref p,.int z]=>∃ls ys d S,RkAt K C ls ys H p d/\z=(S:Nat)/\S < 2 ^ ls.length/\S≠0/\(∃n,Can (AG ls) (Aa ys) n S.testBit)/\Ax ls.length S.testBit < c/\Yx Pt Ex CF H /\
  ∀(t:Tr) v H',DS ls ys t S->Yh K H' t.dv v->RkAt K C ls ys H' p d->FrX [d,Pt] H H'->Yx Pt Ex CF H'->Q v H'
 | _=>False
theorem SS{y:Nat}(h:Bq S.testBit y.testBit):S &&& y≠0/\S - (S &&& y)≠0:=by
 obtain⟨⟨i,h1,h2⟩,j,h3,h4⟩:=h;constructor
 ·intro z
  have:(S &&& y).testBit i=true:=by rw[Z4,h1,h2];rfl
  rw[z]at this;simp at this
 ·intro z
  have:(S - (S &&& y)).testBit j=true:=by rw[Ew,h3,h4];rfl
  rw[z]at this;simp at this
theorem Oq(B:BMn mg base)(c:Nat)(G_z51:Xj P w base T.z51 (78+c) (DU K T.C_Reckoner T.p_z15 c)) :
 FnOk P w K mg base CX0 (78+(c+1)) T.z51.f T.z51.d ["reckoner","things"] (DU K T.C_Reckoner T.p_z15 (c+1)):=by
 have G_z26:=@J7 P w K mg base T;refine T.z51.F.ok sc_z51 (fun vs H Q E h=>by unfold DU at h;walk_at "e") ?_;walk_at "f";have hr_z16:=hr.mono (show 2<=78+c by lia);have hr_z24:=hr.mono (show 5<=78+c by lia);have hr_z26:=hr.mono (show 1<=78+c by lia);have hr_z15:=hr.mono (show 77<=78+c by lia);have hr_z51:=hr;unfold DU at h;walk_at "g"
 rename_i p z;obtain⟨ls,ys,d,S,R,e1,hS,h0,⟨n,hc⟩,hk,hL,q⟩:=h;subst e1;obtain⟨dx,tl,yl,al,as,Yc,h1,_⟩:=id R.at_;refine⟨_,(@AF _ _ _ _ _ (@Ar _ _ _ _ _ _ _ _ (BL (A3 (vv 0) T.cl_Reckoner T.z16.m (@Lf P w K mg base T) hr_z16 T.z16.b .nil AE (AA (vv 1) AB))) (@AH _ _ _ (@AK _ _ _ _ (BK (AA DC (AA (A3 (vv 0) T.cl_Reckoner T.z24.m (@Rc P w K mg base T) hr_z24 T.z24.b .nil AE (AA (vv 1) AB)) AB))))) Aq) (@AF _ _ _ _ _ (@AN _ _ 2 _ _ _ _ sc_z51.nd rfl (by right) (A3 (vv 0) T.cl_Reckoner T.z15.m (@XY P w K mg base T B) hr_z15 T.z15.b .nil AE (AA (vv 1) AB)) (by rfl) (by walk_at "i")) (@AF _ _ _ _ _ (@AN _ _ 3 _ _ _ _ sc_z51.nd rfl (by right) (AI G_z51 hr_z51 rfl T.z51.m T.z51.F.kp T.z51.b .nil AE (AA (vv 0) (AA (A3 (vv 0) T.cl_Reckoner T.z26.m G_z26 hr_z26 T.z26.b .nil AE (AA (vv 1) (AA (vv 2) (AA Am AB)))) AB))) (by rfl) (by walk_at "i")) (@AF _ _ _ _ _ (@AN _ _ 4 _ _ _ _ sc_z51.nd rfl (by right) (AI G_z51 hr_z51 rfl T.z51.m T.z51.F.kp T.z51.b .nil AE (AA (vv 0) (AA (A3 (vv 0) T.cl_Reckoner T.z26.m G_z26 hr_z26 T.z26.b .nil AE (AA (vv 1) (AA (vv 2) (AA Am AB)))) AB))) (by rfl) (by walk_at "i")) (@AH _ _ _ (@AK _ _ _ _ (BK (AA DC (AA (vv 2) (AA (vv 3) (AA (vv 4) AB))))))))))),?_⟩;refine⟨p,dx,_,rfl,h1,ln3 _ _ _ _,ls,ys,d,S,R,rfl,hS,fun b H1 hb s1=>?_⟩;have R1:=R.same s1;have h11:=s1 _ _ h1;have L1:=hL.same s1;cases b with
 | true =>
  refine⟨p,dx,_,rfl,h11,ln8 _ _ _ _,ls,ys,d,S,R1,rfl,hS,h0,fun k H2 hk2 s2=>⟨smq rfl,fun t ht=>?_⟩⟩;have s3:Yb H2 (upd H2 t (.tup [.str (Str.ofString "say"),.int (AG ls k)])):=Yb.upd ht;exact q (.say (AG ls k)) _ _ ⟨hb.mp rfl,k,hk2,rfl⟩ (Bf (.of AD) (AU (by unfold Yh;rfl) (AU (by unfold Yh;rfl) Ag))) ((R1.same s2).same s3) (.same (s1.trans (s2.trans s3))) ((L1.same s2).same s3)
 | false =>
  have ho:¬One (AG ls) S.testBit:=fun o=>nomatch hb.mpr o
  dsimp only[Cc];refine⟨p,dx,_,rfl,h11,ln9 _ _ _ _,ls,ys,d,S,R1,rfl,hS,⟨n,hc⟩,ho,L1,fun j H2 hj R2 f2 L2'=>?_⟩;dsimp only[AZ];obtain⟨y1,y2⟩:=EK hj.mem;obtain⟨⟨a1,a2,a3⟩,b1,b2,b3⟩:=Gv hS hc y2 hk;obtain⟨n1,n2⟩:=SS y2;obtain⟨dx2,tl2,yl2,al2,as2,kvs2,k2,_⟩:=id R2.at_;refine⟨p,dx2,_,rfl,k2,ln7 _ _ _ _,ls,ys,d,S,j,_,R2,rfl,rfl,y1,?_⟩;refine⟨ls,ys,d,_,R2,rfl,b1,n2,⟨n,b2⟩,b3,L2',fun tn vn H3 bt3 rp3 R3 f3 L3=>?_⟩;dsimp only[AZ];obtain⟨dx3,tl3,yl3,al3,as3,kvs3,k3,_⟩:=id R3.at_;refine⟨p,dx3,_,rfl,k3,ln7 _ _ _ _,ls,ys,d,S,j,_,R3,rfl,rfl,y1,?_⟩;refine⟨ls,ys,d,_,R3,rfl,a1,n1,⟨n,a2⟩,a3,L3,fun ty vy H4 bt4 rp4 R4 f4 L4=>⟨smq rfl,fun t ht=>?_⟩⟩;have O3:=Vb (T1 R3) (RO L3);have s5:Yb H4 (upd H4 t (.tup [.str (Str.ofString "ask"),.int (j:Nat),vn,vy])):=Yb.upd ht;refine q (.ask j tn ty) _ _ ⟨ho,hj,bt3,bt4⟩ ?_ (R4.same s5) ((FrX.same s1).trans (f2.trans (f3.trans (f4.trans (.same s5))))) (L4.same s5);exact Bf (.of AD) (AU (by unfold Yh;rfl) (AU (by unfold Yh;rfl) (AU (Yh.same s5 _ _ (f4.rep O3 tn.tups rp3)) (AU (Yh.same s5 _ _ rp4) Ag))))
theorem Md(B:BMn mg base):∀c:Nat,Xj P w base T.z51 (78+c) (DU K T.C_Reckoner T.p_z15 c)
 | 0=>by
  have no:∀vs H Q E,¬DU K T.C_Reckoner T.p_z15 0 vs H Q E:=fun vs H Q E h=>by
   unfold DU at h;split at h
   ·obtain⟨ls,ys,d,S,_,_,_,_,_,z,_⟩:=h;exact absurd z (ZBW _)
   ·exact h
  exact⟨fun vs H Q E h=>(no _ _ _ _ h).elim,fun A outer s H args us vs Q E _ _ _ _ h=>(no _ _ _ _ h).elim⟩
 | c+1=>Oq T B c (Md B c)
theorem So(B:BMn mg base):Xj P w base T.z51 95 (DU K T.C_Reckoner T.p_z15 17):=Md T B 17
noncomputable def CM(ls:List Int)(ys:List Nat)(S j X:Nat):Prop :=
 (X=S &&& ys.getD j 0/\AV ls ys (S - (S &&& ys.getD j 0)) < AV ls ys (S &&& ys.getD j 0))\/(X=S - (S &&& ys.getD j 0)/\AV ls ys (S &&& ys.getD j 0)<=AV ls ys (S - (S &&& ys.getD j 0)))
section
variable {ls:List Int}{ys:List Nat}{S X Y j n:Nat}
theorem PR(a:CM ls ys S j X)(b:CM ls ys S j Y):X=Y:=by
 rcases a with ⟨e,a⟩ | ⟨e,a⟩ <;> rcases b with ⟨f,b⟩ | ⟨f,b⟩ <;> lia
theorem OQ(h:CM ls ys S j X):AV ls ys X=wst ls ys S j:=by
 unfold wst
 rcases h with ⟨rfl,h⟩ | ⟨rfl,h⟩ <;> lia
theorem SI(h:CM ls ys S j X)(hS:S < 2 ^ n):X < 2 ^ n:=by
 have:=ZBr (n:=S) (m:=ys.getD j 0)
 rcases h with ⟨e,_⟩ | ⟨e,_⟩ <;> lia
theorem WU(h:CM ls ys S j X)(hc:Can (AG ls) (Aa ys) n S.testBit):Can (AG ls) (Aa ys) n X.testBit:=by
 obtain⟨c1,c2⟩:=FT (ys.getD j 0) hc
 rcases h with ⟨rfl,_⟩ | ⟨rfl,_⟩
 ·exact c1
 ·exact c2
theorem Ku(hj:j < ys.length)(hc:Can (AG ls) (Aa ys) n S.testBit):AV ls ys S<=1+wst ls ys S j:=by
 obtain⟨c1,c2⟩:=FT (ys.getD j 0) hc;have c0:=Bx hc;have c1:=Bx c1;have c2:=Bx c2;unfold wst;generalize AV ls ys (S &&& ys.getD j 0)=b at *;generalize AV ls ys (S - (S &&& ys.getD j 0))=e at *;rw[DT]at c1;rw[Cn]at c2;refine OW (y:=(ys.getD j 0).testBit) (ZM.mpr ⟨_,?_,rfl⟩) c0 c1 c2;rw[ZQ,ZE hj];exact Zd hj
end
noncomputable def Jx(K:W.Frag)(C:Addr):Sp:=fun vs H Q _=>match vs with
 | [.ref p,.int z,.int i]=>∃ls ys d S j,RkAt K C ls ys H p d/\z=(S:Nat)/\S < 2 ^ ls.length/\(∃n,Can (AG ls) (Aa ys) n S.testBit)/\i=(j:Nat)/\j < ys.length /\
  ∀(X:Nat) H',CM ls ys S j X->RkAt K C ls ys H' p d->Yl d H H'->Q (.int (X:Nat)) H'
 | _=>False
theorem Va:Xk P w mg base T.z20 73 (Jx K T.C_Reckoner):=by
 have G_z26:=@J7 P w K mg base T;have G_z17:=@Fg P w K mg base T;refine T.z20.F.ok sc_z20 (fun vs H Q E h=>by unfold Jx at h;walk_at "e") ?_;walk_at "f";have hr_z26:=hr.mono (show 1<=_ by decide);have hr_z17:=hr.mono (show 72<=_ by decide);unfold Jx at h;walk_at "g"
 rename_i p z i;obtain⟨ls,ys,d,S,j,R,e1,hS,⟨n,hc⟩,e2,hj,q⟩:=h;subst e1 e2;have l16:=R.l16;have hy:ys[j]? = some (ys.getD j 0):=by rw[ZQ,ZE hj];rfl
 obtain⟨c1,c2⟩:=FT (ys.getD j 0) hc;have hle:=ZBr (n:=S) (m:=ys.getD j 0);have cd:∀U:Nat,Ax ls.length U.testBit < 17:=fun U=>by have:=Df ls.length U.testBit;lia
 obtain⟨dx,tl,yl,al,as,Yc,h1,_⟩:=id R.at_;refine⟨_,(@AF _ _ _ _ _ (@AN _ _ 3 _ _ _ _ sc_z20.nd rfl (by right) (A3 (vv 0) T.cl_Reckoner T.z26.m G_z26 hr_z26 T.z26.b .nil AE (AA (vv 1) (AA (vv 2) (AA Am AB)))) (by rfl) (by walk_at "i")) (@AF _ _ _ _ _ (@AN _ _ 4 _ _ _ _ sc_z20.nd rfl (by right) (A3 (vv 0) T.cl_Reckoner T.z26.m G_z26 hr_z26 T.z26.b .nil AE (AA (vv 1) (AA (vv 2) (AA Am AB)))) (by rfl) (by walk_at "i")) (@AH _ _ _ (@AK _ _ _ _ (DH (AW Bp (A3 (vv 0) T.cl_Reckoner T.z17.m G_z17 hr_z17 T.z17.b .nil AE (AA (vv 4) AB)) (A3 (vv 0) T.cl_Reckoner T.z17.m G_z17 hr_z17 T.z17.b .nil AE (AA (vv 3) AB))) (vv 4) (vv 3)))))),?_⟩;refine⟨p,dx,_,rfl,h1,ln7 _ _ _ _,ls,ys,d,S,j,_,R,rfl,rfl,hy,?_⟩;dsimp only[AZ];refine⟨p,dx,_,rfl,h1,ln7 _ _ _ _,ls,ys,d,S,j,_,R,rfl,rfl,hy,?_⟩;dsimp only[AZ];refine⟨p,dx,_,rfl,h1,ln1 _ _ _ _,ls,ys,d,S &&& ys.getD j 0,R,rfl,by lia,⟨n,c1⟩,cd _,fun b H1 f1 R1 fr1=>?_⟩;obtain⟨dx1,tl1,yl1,al1,as1,kvs1,k1,_⟩:=id R1.at_;refine⟨p,dx1,_,rfl,k1,ln1 _ _ _ _,ls,ys,d,S - (S &&& ys.getD j 0),R1,rfl,by lia,⟨n,c2⟩,cd _,fun e H2 f2 R2 fr2=>?_⟩;have e1:=DJ f1;have e2:=DJ f2;refine AT (fun x=>?_) (fun x=>?_)
 ·have x':e < b:=by have:=ZP x;lia
  exact q _ H2 (.inl ⟨rfl,by lia⟩) R2 (fr1.trans fr2)
 ·have x':¬e < b:=fun w=>x (ZL (by lia))
  exact q _ H2 (.inr ⟨rfl,by lia⟩) R2 (fr1.trans fr2)
noncomputable def EE(K:W.Frag)(C:Addr):Sp:=fun vs H Q _=>match vs with
 | [.ref p,.int z]=>∃ls ys d S,RkAt K C ls ys H p d/\z=(S:Nat)/\S < 2 ^ ls.length/\(∃n,Can (AG ls) (Aa ys) n S.testBit) /\
  ∀(Xs:List Nat) l H',Xs.length=ys.length->(∀j X,Xs[j]? = some X->CM ls ys S j X)->RkAt K C ls ys H' p d->Yl d H H'->H l=none->H' l=some (.lst (iL Xs))->Q (.ref l) H'
 | _=>False
theorem Uc:AQ (EE K C):=fun vs H Q Q' E h q=>by
 unfold EE at *;walk_at "q"
theorem Mh{l:Addr}(f:Yl d H H')(hd:H' d=some o)(h:H' l=none):H l=none:=by
 cases e:H l with
 | none=>rfl
 | some u =>
  have hl:l≠d:=fun z=>by rw[z,hd]at h;cases h
  rw[f l u hl e]at h;cases h
theorem Qx:Xk P w mg base T.z19 74 (EE K T.C_Reckoner):=by
 refine T.z19.F.ok Wt (fun vs H Q E h=>by unfold EE at h;walk_at "e") ?_;walk_at "f";unfold EE at h;walk_at "g"
 rename_i p z;obtain⟨ls,ys,d,S,R,e1,hS,hc,q⟩:=h;subst e1;have y16:=R.y16;obtain⟨dx,tl,yl,al,as,Yc,h1,h2,h3,_⟩:=id R.at_;refine⟨_,(@AH _ _ _ (@AK _ _ _ _ (@An _ _ _ _ _ _ _ (["question","self","things"]) 1 ([0,1]) _ _ _ _ rfl (BA rfl T.z_range (AA (Ab (Ay (K:=K)) rfl T.z_len (by rfl) (AA (BM T.cl_Reckoner T.na_Reckoner_yeses (vv 0)) AB)) AB)) (by kernel_rfl) rfl rfl (by kernel_rfl) (fun c=>AR (i:=0) (show(["question","self","things"]:List Str).Nodup by decide +kernel) rfl (by right)) (AX (by decide)) (fun c=>Ao) (fun c=>(A3 (vv 1) T.cl_Reckoner T.z20.m (@Va P w K mg base T) (hr.mono (show 73<=_ by decide)) T.z20.b .nil AE (AA (vv 2) (AA (vv 0) AB)))) (by intro _;rfl)))),?_⟩;refine⟨dx,_,_,h1,lk2 _ _ _ _,ys.length,.inl ⟨_,.of h3,by rw[Ai]⟩,ys.length,rfl,by lia,by lia,?_⟩;rw[Zc];refine BU (fun k zs H'=>RkAt K T.C_Reckoner ls ys H' p d/\Yl d H H'/\∃Xs:List Nat,zs=iL Xs/\Xs.length=k/\∀j X,Xs[j]? = some X->CM ls ys S j X) ⟨R,Yl.refl,[],rfl,rfl,fun j X z=>by simp at z⟩ (fun k zs H' hk ⟨_,_,Xs,e,hl,_⟩=>by rw[e,Ai,hl];exact Ad (by lia)) ?_ ?_
 ·rintro k zs H1 hk ⟨R1,f1,Xs,rfl,hl,hX⟩;have e0:(0:Int)+(k:Int)=((k:Nat):Int):=by lia
  rw[e0];obtain⟨dx1,tl1,yl1,al1,as1,kvs1,k1,_⟩:=id R1.at_;refine⟨p,dx1,_,rfl,k1,ln6 _ _ _ _,ls,ys,d,S,k,R1,rfl,hS,hc,rfl,hk,fun X H2 hx R2 f2=>?_⟩;refine⟨R2,f1.trans f2,Xs++[X],by rw[Bv];rfl,by rw[ZN,hl];rfl,fun j Y hj=>?_⟩
  rcases ZBC j Xs.length with z | z | z
  ·rw[ZBF z]at hj;exact hX j Y hj
  ·subst z;rw[Z6 (ZD _),ZBb]at hj;cases hj;rw[hl];exact hx
  ·rw[ZBs (by rw[ZN];show Xs.length+1<=j;lia)]at hj;cases hj
 ·rintro zs H1 ⟨R1,f1,Xs,rfl,hl,hX⟩ l nl;obtain⟨dx1,tl1,yl1,al1,as1,kvs1,_,_,_,_,k5,_⟩:=id R1.at_;have s2:Yb H1 (upd H1 l (.lst (iL Xs))):=Yb.upd nl;exact q Xs l _ hl hX (R1.same s2) (f1.trans (Bh s2)) (Mh f1 k5 nl) AD
noncomputable def kvE(es:List (Nat × Nat)):List (Key × V):=es.map fun e=>((Sum.inl (e.1:Int):Key),V.int (e.2:Int))
theorem Li:∀(es:List (Nat × Nat)) (S:Nat),(valV (kvE es) (Sum.inl (S:Int):Key)).isSome=decide (S∈es.map (·.1))
 | [],S=>rfl
 | e::es,S=>by
  by_cases z:e.1=S
  ·have:valV (kvE (e::es)) (Sum.inl (S:Int):Key)=some (V.int (e.2:Int)):=CB (by rw[<- z])
   rw[this];simp[z]
  ·have:valV (kvE (e::es)) (Sum.inl (S:Int):Key)=valV (kvE es) (Sum.inl (S:Int):Key):=B9 (fun q=>z (by injection q with q;lia))
   rw[this,Li es S];simp[Ne.symm z]
theorem Po{es:List (Nat × Nat)}(h:S∉es.map (·.1)):At (kvE es) (Sum.inl (S:Int):Key) (V.int (m:Int))=kvE (es++[(S,m)]):=by
 unfold At;rw[if_neg]
 ·unfold kvE;rw[ZJ];rfl
 ·intro z;obtain⟨x,hx,e⟩:=ZBR.mp z;obtain⟨a,ha,rfl⟩:=ZM.mp hx;have e:(Sum.inl (a.1:Int):Key)=Sum.inl (S:Int):=ZP e;injection e with e
  exact h (ZM.mpr ⟨a,ha,by lia⟩)
structure PInv(ls:List Int)(ys:List Nat)(n S0:Nat)(es:List (Nat × Nat))(pd:List Nat):Prop where
 nd:(es.map (·.1)).Nodup
 ok:∀e∈es,e.1 < 2 ^ ls.length/\Can (AG ls) (Aa ys) n e.1.testBit/\0 < e.2/\e.2=AV ls ys e.1
 cl:∀e∈es,1 < e.2->∀j X,j < ys.length->CM ls ys e.1 j X->X∈es.map (·.1)\/X∈pd
 pe:∀X∈pd,X < 2 ^ ls.length/\Can (AG ls) (Aa ys) n X.testBit
 top:S0∈es.map (·.1)\/S0∈pd\/AV ls ys S0=0
section
variable {ls:List Int}{ys:List Nat}{n S0 X:Nat}{es:List (Nat × Nat)}{pd more:List Nat}
theorem PInv.skip(h:PInv ls ys n S0 es (X::pd))(hx:X∈es.map (·.1)\/AV ls ys X=0):PInv ls ys n S0 es pd:=by
 refine⟨h.nd,h.ok,fun e he h1 j Y hj hY=>?_,fun Y hY=>h.pe Y (ZX _ hY),?_⟩
 ·rcases h.cl e he h1 j Y hj hY with z | z
  ·exact .inl z
  ·rcases ZG.mp z with z | z
   ·subst z
    rcases hx with hx | hx
    ·exact .inl hx
    ·obtain⟨_,c2,_,c4⟩:=h.ok e he;have a1:=Ku hj c2;have a2:=OQ hY;lia
   ·exact .inr z
 ·rcases h.top with z | z | z
  ·exact .inl z
  ·rcases ZG.mp z with z | z
   ·subst z
    rcases hx with hx | hx
    ·exact .inl hx
    ·exact .inr (.inr hx)
   ·exact .inr (.inl z)
  ·exact .inr (.inr z)
theorem PInv.enter(h:PInv ls ys n S0 es (X::pd))(hx:X∉es.map (·.1))(h0:0 < AV ls ys X)(h1:1 < AV ls ys X->∀j Y,j < ys.length->CM ls ys X j Y->Y∈more)(h2:∀Y∈more,Y < 2 ^ ls.length/\Can (AG ls) (Aa ys) n Y.testBit):PInv ls ys n S0 (es++[(X,AV ls ys X)]) (pd++more):=by
 have hX:=h.pe X (Zb ..);have em:(es++[(X,AV ls ys X)]).map (·.1)=es.map (·.1)++[X]:=by rw[ZJ];rfl
 have old:∀{Y},Y∈es.map (·.1)\/Y∈X::pd->Y∈es.map (·.1)++[X]\/Y∈pd++more:=fun {Y} z=>by
  rcases z with z | z
  ·exact .inl (Z5 _ z)
  ·rcases ZG.mp z with z | z
   ·exact .inl (ZZ _ (by rw[z];exact ZO.mpr rfl))
   ·exact .inr (Z5 _ z)
 refine⟨?_,fun e he=>?_,fun e he e1 j Y hj hY=>?_,fun Y hY=>?_,?_⟩
 ·rw[em,List.nodup_append];refine⟨h.nd,by simp,fun a ha b hb q=>?_⟩;rw[ZO.mp hb]at q;exact hx (q ▸ ha)
 ·rcases Zf.mp he with z | z
  ·exact h.ok e z
  ·rw[ZO.mp z];exact⟨hX.1,hX.2,h0,rfl⟩
 ·rw[em]
  rcases Zf.mp he with z | z
  ·exact old (h.cl e z e1 j Y hj hY)
  ·rw[ZO.mp z]at e1 hY;exact .inr (ZZ _ (h1 e1 j Y hj hY))
 ·rcases Zf.mp hY with z | z
  ·exact h.pe Y (ZX _ z)
  ·exact h2 Y z
 ·rw[em]
  rcases h.top with z | z | z
  ·exact .inl (Z5 _ z)
  ·rcases old (.inr z) with z | z
   ·exact .inl z
   ·exact .inr (.inl z)
  ·exact .inr (.inr z)
theorem PInv.len(h:PInv ls ys n S0 es pd)(h16:ls.length<=16):es.length<=65536:=by
 have:=Do (2 ^ ls.length) (es.map (·.1)) h.nd (fun x hx=>by
  obtain⟨e,he,rfl⟩:=ZM.mp hx;exact(h.ok e he).1)
 rw[ZB]at this;have h2:2 ^ ls.length<=2 ^ 16:=Zl (by decide) h16;have h3:(2:Nat) ^ 16=65536:=by decide
 lia
end
theorem Mp{H2:Hp}(R:RkAt K C ls ys H p d)(R':RkAt K C ls ys H' p d)(f:Yl d H H')(nb:H b=none)(a:∀c,c≠b->H2 c=H' c):RkAt K C ls ys H2 p d:=by
 obtain⟨dx,tl,yl,al,as,Yc,h1,h2,h3,h4,h5,_⟩:=R.at_;obtain⟨dx',tl',yl',al',as',kvs',k1,k2,k3,k4,k5,k6,k7,k8⟩:=R'.at_;have e:=f _ _ (Bm h1 h5 (by intro z;cases z)) h1;rw[k1]at e;have e:=ZV e;injection e with _ e1 e2
 have g1:some (V.ref tl')=some (V.ref tl):=by rw[<- lk1 (.ref tl') (.ref yl') (.ref al') (.ref d),e2,lk1]
 have g2:some (V.ref yl')=some (V.ref yl):=by rw[<- lk2 (.ref tl') (.ref yl') (.ref al') (.ref d),e2,lk2]
 have g3:some (V.ref al')=some (V.ref al):=by rw[<- lk3 (.ref tl') (.ref yl') (.ref al') (.ref d),e2,lk3]
 cases g1;cases g2;cases g3
 have st:∀{c:Addr} {u v:HO},H c=some u->H' c=some v->H2 c=some v:=fun {c u v} e1 e2=>by
  rw[a c (BZ e1 nb)];exact e2
 refine⟨⟨dx',tl,yl,al,as',kvs',st h1 k1,?_,st h3 k3,st h4 k4,st h5 k5,k6,k7,k8⟩,R.l16,R.y16⟩
 have go:H tl≠none->Yo K H2 tl (ls.map V.int):=fun hn=>by
  have Yu:tl≠b:=fun z=>hn (by rw[z];exact nb)
  exact Ga k2 fun u e=>by rw[a _ Yu];exact e
 rcases h2 with (h2 | ⟨_,h2⟩) | h2
 ·exact go (by rw[h2];simp)
 ·exact go (by rw[h2];simp)
 ·exact .inr h2
theorem NA(R:RkAt K C ls ys H p d)(R':RkAt K C ls ys H' p d)(f:Yl d H H')(nb:H b=none):RkAt K C ls ys (upd H' b o) p d:=Mp R R' f nb fun c h=>AJ h
theorem Ms(f:Yl d H H')(nb:H b=none):Yl d H (upd H' b o):=fun c u n e=>by
 rw[AJ (BZ e nb)];exact f c u n e
noncomputable def Cd(e:Nat × Nat):Dv:=.tup [.tup (iD (BI e.1)),.int (e.2:Nat)]
noncomputable def DK(es:List (Nat × Nat)):Dv:=.tup (es.map Cd)
noncomputable def JH(K:W.Frag)(C:Addr):Sp:=fun vs H Q _=>match vs with
 | [.ref p,.int z]=>∃ls ys d S n,RkAt K C ls ys H p d/\z=(S:Nat)/\S < 2 ^ ls.length/\Can (AG ls) (Aa ys) n S.testBit /\
  ∀es v H',PInv ls ys n S es []->Yh K H' (DK es) v->RkAt K C ls ys H' p d->Yl d H H'->Q v H'
 | _=>False
theorem XA:Xj P w base T.z46 75 (JH K T.C_Reckoner):=by
 refine T.z46.F.ok sc_z46 (fun vs H Q E h=>by unfold JH at h;walk_at "e") ?_;walk_at "f";have mo1:AQ (Bb K T.C_Reckoner 17):=M3;have mo2:AQ (EE K T.C_Reckoner):=Uc;have mo3:AQ (Eh K):=PP;unfold JH at h;walk_at "g"
 rename_i p z;obtain⟨ls,ys,d,S,n,R,e1,hS,hc,q⟩:=h;subst e1;have l16:=R.l16;have y16:=R.y16;obtain⟨dx,tl,yl,al,as,Yc,h1,_,_,_,hd0,_⟩:=id R.at_;have h60:2 ^ ls.length<=2 ^ 60:=Zl (by decide) (by lia);have cd:∀U:Nat,Ax ls.length U.testBit < 17:=fun U=>by have:=Df ls.length U.testBit;lia
 refine⟨_,(@AF _ _ _ _ _ (@AN _ _ 2 _ _ _ _ sc_z46.nd rfl (by right) GJ (by rfl) (by walk_at "i")) (@AF _ _ _ _ _ (@AN _ _ 3 _ _ _ _ sc_z46.nd rfl (by right) (@BX _ _ _ _ (AA (vv 1) AB)) (by rfl) (by walk_at "i")) (@AF _ _ _ _ _ (@FR _ _ _ _ _ _ PassesOwn.never (AW Bp (Ab (Ay (K:=K)) rfl T.z_len (by rfl) (AA (vv 3) AB)) AC) (@AF _ _ _ _ _ (@AN _ _ 4 _ _ _ _ sc_z46.nd rfl (by right) (@BX _ _ _ _ AB) (by rfl) (by walk_at "i")) (@AF _ _ _ _ _ (@Bu _ _ _ _ _ _ _ _ PassesOwn.never rfl (BE (K:=K) (vv 3)) (AR (i:=5) sc_z46.nd rfl (by right)) (@AF _ _ _ _ _ (@AN _ _ 6 _ _ _ _ sc_z46.nd rfl (by right) (A3 (vv 0) T.cl_Reckoner T.z17.m (@Fg P w K mg base T) (hr.mono (show 72<=_ by decide)) T.z17.b .nil AE (AA (vv 5) AB)) (by rfl) (by walk_at "i")) (@AH _ _ _ (@Ar _ _ _ _ _ _ _ _ (PW.pt (C1 (AW Bp (vv 6) AC) (C5 (AW (Ka hu) (vv 5) (vv 2))))) (@AF _ _ _ _ _ (@Fu _ _ _ _ _ _ _ _ _ (C7 hu) (vv 2) (vv 5) (vv 6) (by rfl)) (@AH _ _ _ (@Dt _ _ _ _ (Td (K:=K) (vv 4) (AA (DH (AW Bp (vv 6) AC) (A3 (vv 0) T.cl_Reckoner T.z19.m (@Qx P w K mg base T) (hr.mono (show 74<=_ by decide)) T.z19.b .nil AE (AA (vv 5) AB)) (@BX _ _ _ _ AB)) AB)) (by rfl)))) Aq))) (by intro _;rfl)) (@AH _ _ _ (@AN _ _ 3 _ _ _ _ sc_z46.nd rfl (by right) (vv 4) (by rfl) (by walk_at "i")))))) (@AH _ _ _ (@AK _ _ _ _ (Av (BD (K:=K)) rfl T.z_tuple (by rfl) (AA (An (N':=["each","number"]) (own:=2) (ix:=[]) rfl (J1 (vv 2)) (by kernel_rfl) rfl rfl (by kernel_rfl) (fun c=>Es (K:=K) (n:=2) rfl (Bg (AR (i:=0) (show(["each","number"]:List Str).Nodup by decide +kernel) rfl (by right)) (Bg (AR (i:=1) (show(["each","number"]:List Str).Nodup by decide +kernel) rfl (by right)) DG))) (EB (CO BV (De BV CA) (AX (by decide)) (CO BV CA (AX (by decide)) Ee))) (fun c=>Ao) (fun c=>(BK (AA (AI (@MF P w K mg base T) (hr.mono (show 4<=_ by decide)) rfl T.z44.m T.z44.F.kp T.z44.b .nil AE (AA (vv 0) AB)) (AA (vv 1) AB))))) AB))))))),?_⟩;intro E' nE;dsimp only[AZ];have s1:Yb H (upd H E' (.dK [])):=Yb.upd nE;have gE1:upd H E' (.dK []) E'=some (.dK (kvE [])):=AD;generalize upd H E' (.dK [])=H1 at *;refine⟨smq rfl,fun l nl=>?_⟩;dsimp only[AZ];have nl0:H l=none:=s1.free nl;have s2:Yb H1 (upd H1 l (.lst [.int (S:Int)])):=Yb.upd nl;have gl2:upd H1 l (.lst [.int (S:Int)]) l=some (.lst (iL [S])):=AD;have gE2:=s2 _ _ gE1;have S2:=s1.trans s2;generalize upd H1 l (.lst [.int (S:Int)])=H2 at *;have P2:PInv ls ys n S [] [S]:=⟨List.nodup_nil,(fun e he=>by cases he),(fun e he=>by cases he),fun X hX=>by rw[ZO.mp hX];exact⟨hS,hc⟩,.inr (.inl (ZO.mpr rfl))⟩;have R2:=R.same S2;have neD:∀{b:Addr},H b=none->b≠d:=fun {b} nb z=>by rw[z,hd0]at nb;cases nb
 refine AY (fun Z H'=>∃(es:List (Nat × Nat)) (z3 z4 z5 z6:Option V),Z=[some (.ref p),some (.int (S:Nat)),some (.ref E'),z3,z4,z5,z6]/\RkAt K T.C_Reckoner ls ys H' p d/\Yl d H H'/\H' E'=some (.dK (kvE es))/\PInv ls ys n S es []) ?_ ?_ (by walk_at "sm")
 ·refine⟨fun mm Z H'=>∃(es:List (Nat × Nat)) (Ls:List Nat) (l:Addr) (z4 z5 z6:Option V),mm=(65536 - es.length) * 2+(if Ls=[] then 0 else 1)/\Z=[some (.ref p),some (.int (S:Nat)),some (.ref E'),some (.ref l),z4,z5,z6]/\RkAt K T.C_Reckoner ls ys H' p d/\Yl d H H'/\H' E'=some (.dK (kvE es))/\H l=none/\H' l=some (.lst (iL Ls))/\PInv ls ys n S es Ls,
   ⟨_,[],[S],l,none,none,none,rfl,rfl,R2,Bh S2,gE2,nl0,gl2,P2⟩,?_⟩
  rintro mm Z H3 ⟨es,Ls,l,z4,z5,z6,rfl,rfl,R3,f3,gE3,nl,gl3,P3⟩;have hE3:=P3.len l16;refine⟨Ls.length,.inl ⟨_,.of gl3,by rw[Ai]⟩,?_⟩;refine AT (fun e=>?_) (fun e=>?_);rotate_left
  ·have hz:Ls=[]:=by
    have:¬(0:Int) < (Ls.length:Int):=fun z=>e (ZL z)
    exact List.eq_nil_of_length_eq_zero (by lia)
   subst hz;exact⟨es,_,_,_,_,rfl,R3,f3,gE3,P3⟩
  have hpos:Ls≠[]:=fun z=>by
   have:(0:Int) < (Ls.length:Int):=ZP e
   rw[z]at this;simp at this
  refine⟨ZU _,fun b nb=>?_⟩;dsimp only[AZ];obtain⟨_,_,_,_,_,_,_,_,_,_,hd3,_⟩:=id R3.at_;have nb0:H b=none:=Mh f3 hd3 nb;have s4:Yb H3 (upd H3 b (.lst [])):=Yb.upd nb;have gb4:upd H3 b (.lst []) b=some (.lst (iL [])):=AD;have hbl:b≠l:=fun z=>by rw[z,gl3]at nb;cases nb
  have hbE:b≠E':=fun z=>by rw[z,gE3]at nb;cases nb
  have hlE:l≠E':=Bm gl3 gE3 (by intro z;cases z);have R4:=R3.same s4;have f4:Yl d H (upd H3 b (.lst [])):=f3.trans (Bh s4);have gE4:=s4 _ _ gE3;have gl4:=s4 _ _ gl3;generalize upd H3 b (.lst [])=H4 at *;refine AY (fun Z H'=>∃(es':List (Nat × Nat)) (Bs:List Nat) (z5 z6:Option V),Z=[some (.ref p),some (.int (S:Nat)),some (.ref E'),some (.ref l),some (.ref b),z5,z6]/\RkAt K T.C_Reckoner ls ys H' p d/\Yl d H H'/\H' E'=some (.dK (kvE es'))/\H' b=some (.lst (iL Bs))/\PInv ls ys n S es' Bs/\es.length<=es'.length/\(Bs≠[]->es.length < es'.length)) ?_ ?_ (by walk_at "sm");rotate_left
  ·rintro Z H5 ⟨es',Bs,z5',z6',rfl,R5,f5,gE5,gb5,P5,h5,h6⟩;have hE5:=P5.len l16;refine⟨_,?_,es',Bs,b,_,_,_,rfl,rfl,R5,f5,gE5,nb0,gb5,P5⟩;rw[if_neg hpos]
   by_cases zb:Bs=[]
   ·rw[if_pos zb];lia
   ·rw[if_neg zb];have:=h6 zb;lia
  refine .inl ⟨⟨_,.inl (.of gl4)⟩,?_⟩
  refine OK (xs:=iL Ls) (fun k Z H'=>∃(es':List (Nat × Nat)) (Bs:List Nat) (z5 z6:Option V),Z=[some (.ref p),some (.int (S:Nat)),some (.ref E'),some (.ref l),some (.ref b),z5,z6]/\RkAt K T.C_Reckoner ls ys H' p d/\Yl d H H'/\H' E'=some (.dK (kvE es'))/\H' l=some (.lst (iL Ls))/\H' b=some (.lst (iL Bs))/\PInv ls ys n S es' (Ls.drop k++Bs)/\es.length<=es'.length/\(Bs≠[]->es.length < es'.length)/\Bs.length<=16 * es'.length)
   ⟨es,[],_,_,rfl,R4,f4,gE4,gl4,gb4,by rw[List.drop_zero,Zq];exact P3,ZD _,fun z=>absurd rfl z,ZU _⟩ (fun k Z H' _ ⟨_,_,_,_,_,_,_,_,g,_⟩=>.inl (.of g)) ?_ ?_
  rotate_left
  ·rintro Z H5 ⟨es',Bs,z5',z6',rfl,R5,f5,gE5,_,gb5,P5,h5,h6,_⟩;rw[Ai,List.drop_length,List.nil_append]at P5;exact⟨es',Bs,_,_,rfl,R5,f5,gE5,gb5,P5,h5,h6⟩
  rintro k xv Z H5 hxk ⟨es',Bs,z5',z6',rfl,R5,f5,gE5,gl5,gb5,P5,h5,h6,h7⟩;obtain⟨X,hX,_,rfl⟩:=CK hxk;have hk:=(Zg.mp hX).1
  have ed:Ls.drop k++Bs=X::(Ls.drop (k+1)++Bs):=by
   rw[List.drop_eq_getElem_cons hk,(Zg.mp hX).2];rfl
  rw[ed]at P5;obtain⟨hX1,hX2⟩:=P5.pe X (Zb ..);obtain⟨dx5,tl5,yl5,al5,as5,kvs5,k1,_,_,_,k5,_⟩:=id R5.at_;dsimp only[AZ];refine⟨p,dx5,_,rfl,k1,ln1 _ _ _ _,ls,ys,d,X,R5,rfl,hX1,⟨n,hX2⟩,cd X,fun m H6 hm R6 fr6=>?_⟩;dsimp only[AZ];have em:=DJ hm;have f6:Yl d H H6:=f5.trans fr6;have gE6:=fr6 _ _ (neD nE) gE5;have gl6:=fr6 _ _ (neD nl) gl5;have gb6:=fr6 _ _ (neD nb0) gb5;clear k1 k5 fr6;refine AT (fun e1=>?_) (fun e1=>?_);rotate_left
  ·have m0:m=0:=by
    have:¬(0:Int) < (m:Int):=fun z=>e1 (ZL z)
    lia
   exact⟨es',Bs,_,_,rfl,R6,f6,gE6,gl6,gb6,P5.skip (.inr (by lia)),h5,h6,h7⟩
  have m0:0 < m:=by
   have:(0:Int) < (m:Int):=ZP e1
   lia
  have hsome:=Li es' X;refine⟨valV (kvE es') (Sum.inl (X:Int):Key),DGet.k (k:=Sum.inl (X:Int)) gE6,?_⟩;cases e2:valV (kvE es') (Sum.inl (X:Int):Key) with
  | some v =>
   rw[e2]at hsome;have hin:X∈es'.map (·.1):=ZP hsome.symm;exact⟨es',Bs,_,_,rfl,R6,f6,gE6,gl6,gb6,P5.skip (.inl hin),h5,h6,h7⟩
  | none =>
   rw[e2]at hsome;have hnin:X∉es'.map (·.1):=of_decide_eq_false hsome.symm;have hE6:=P5.len l16;refine⟨E',_,rfl,DPut.k (k:=Sum.inl (X:Int)) gE6 (by unfold kvE;rw[ZB,sizeLine_eq];lia),?_⟩;rw[Po hnin];have R7:=NA R R6 f6 nE (o:=.dK (kvE (es'++[(X,m)])));have f7:=Ms f6 nE (o:=.dK (kvE (es'++[(X,m)])));have gE7:upd H6 E' (.dK (kvE (es'++[(X,m)]))) E'=some (.dK (kvE (es'++[(X,m)]))):=AD;have gl7:upd H6 E' (.dK (kvE (es'++[(X,m)]))) l=_:=(AJ hlE).trans gl6;have gb7:upd H6 E' (.dK (kvE (es'++[(X,m)]))) b=_:=(AJ hbE).trans gb6;generalize upd H6 E' (.dK (kvE (es'++[(X,m)])))=H7 at *;have len1:(es'++[(X,m)]).length=es'.length+1:=by rw[ZN];rfl
   refine⟨.inl ⟨rfl,_,.of gb7⟩,?_⟩
   have fin:∀(Xs:List Nat) (l2:Addr) (H8:Hp),Xs.length<=16->(1 < m->∀j Y,j < ys.length->CM ls ys X j Y->Y∈Xs)->(∀Y∈Xs,Y < 2 ^ ls.length/\Can (AG ls) (Aa ys) n Y.testBit)->RkAt K T.C_Reckoner ls ys H8 p d->Yl d H7 H8->H7 l2=none->H8 l2=some (.lst (iL Xs)) ->
    FP K (.ref b) [.ref l2] H8 fun _ H9=>∃(es':List (Nat × Nat)) (Bs:List Nat) (z5 z6:Option V),[some (V.ref p),some (.int (S:Nat)),some (.ref E'),some (.ref l),some (.ref b),some (.int (X:Nat)),some (.int (m:Nat))]=[some (.ref p),some (.int (S:Nat)),some (.ref E'),some (.ref l),some (.ref b),z5,z6]/\RkAt K T.C_Reckoner ls ys H9 p d/\Yl d H H9/\H9 E'=some (.dK (kvE es'))/\H9 l=some (.lst (iL Ls))/\H9 b=some (.lst (iL Bs))/\PInv ls ys n S es' (Ls.drop (k+1)++Bs)/\es.length<=es'.length/\(Bs≠[]->es.length < es'.length)/\Bs.length<=16 * es'.length:=by
    intro Xs l2 H8 hl2 hx1 hx2 R8 fr8 n2 g2;have f8:Yl d H H8:=f7.trans fr8;have gE8:=fr8 _ _ (neD nE) gE7;have gl8:=fr8 _ _ (neD nl) gl7;have gb8:=fr8 _ _ (neD nb0) gb7;refine⟨iL Bs,iL Xs,gb8,.of g2,(fun z=>by rw[z,gb7]at n2;cases n2),by rw[Ai,Ai];lia,es'++[(X,m)],Bs++Xs,_,_,rfl,NA R R8 f8 nb0,Ms f8 nb0,?_,?_,?_,?_,by lia,fun _=>by lia,by rw[ZN];lia⟩
    ·rw[AJ (Ne.symm hbE)];exact gE8
    ·rw[AJ (Ne.symm hbl)];exact gl8
    ·rw[AD,Bv]
    ·rw[<- ZBv,<- em];exact P5.enter hnin (by lia) (by rw[em];exact hx1) hx2
   refine AT (fun e3=>?_) (fun e3=>?_)
   ·have m1:1 < m:=by
     have:(1:Int) < (m:Int):=ZP e3
     lia
    obtain⟨dx7,tl7,yl7,al7,as7,kvs7,k1,_⟩:=id R7.at_;refine⟨p,dx7,_,rfl,k1,lnA _ _ _ _,ls,ys,d,X,R7,rfl,hX1,⟨n,hX2⟩,fun Xs l2 H8 hl2 hXs R8 fr8 n2 g2=>?_⟩;refine fin Xs l2 H8 (by lia) (fun _ j Y hj hY=>?_) (fun Y hY=>?_) R8 fr8 n2 g2
    ·have hj':j < Xs.length:=by lia
     rw[PR hY (hXs j _ (ZE hj'))];exact Zd hj'
    ·obtain⟨j,hj,ej⟩:=Zs hY;have hh:=hXs j Y (by rw[ZE hj,ej]);exact⟨SI hh hX1,WU hh hX2⟩
   ·have m1:¬1 < m:=fun z=>e3 (ZL (by lia))
    refine⟨ZU _,fun l2 n2=>?_⟩;have s8:Yb H7 (upd H7 l2 (.lst [])):=Yb.upd n2;exact fin [] l2 _ (ZU _) (fun z=>absurd z m1) (fun Y hY=>by cases hY) (R7.same s8) (Bh s8) n2 AD
 rintro Z H3 ⟨es,z3,z4,z5,z6,rfl,R3,f3,gE3,P3⟩;have hE3:=P3.len l16;refine .inl ⟨kvE es,gE3,fun o=>?_⟩;have a1:upd H3 E' (.frz o (.dK (kvE es))) E'=some (.frz o (.dK (kvE es))):=AD;have a2:∀b,b≠E'->upd H3 E' (.frz o (.dK (kvE es))) b=H3 b:=fun b hb=>AJ hb
 generalize upd H3 E' (.frz o (.dK (kvE es)))=H4 at *;have f4:Yl d H H4:=fun c u n e=>by rw[a2 c (BZ e nE)];exact f3 c u n e
 have R4:=Mp R R3 f3 nE a2
 refine MN (Yc:=kvE es) (fun j zs H'=>Yb H4 H'/\Yd K H' ((es.take j).map Cd) zs) ⟨Yb.refl _,Ag⟩ (fun j zs H' _ ⟨s5,_⟩=>s5 _ _ a1) (fun j zs H' hj ⟨_,r⟩=>by
  unfold kvE at hj;rw[ZB]at hj;rw[<- r.length,ZB,Za,sizeLine_eq];lia) ?_ ?_
 ·rintro j r pp zs H5 hr5 ⟨s5,r5⟩ npp;unfold kvE at hr5;rw[ZR]at hr5;obtain⟨e,he,rfl⟩:=Option.map_eq_some_iff.mp hr5;have hb:=(P3.ok e (Zw he)).1;refine⟨pp,_,rfl,.of AD,rfl,_,_,rfl,_,_,rfl,rfl,?_⟩;refine⟨e.1,rfl,by lia,fun t H6 nt s6 g6=>⟨smq rfl,fun t2 n2=>?_⟩⟩;have s7:Yb H6 (upd H6 t2 (.tup [.ref t,.int (e.2:Nat)])):=Yb.upd n2;have s0:=Yb.upd (o:=.tup [kV (Sum.inl (e.1:Int):Key),V.int (e.2:Int)]) npp;have S7:=s0.trans (s6.trans s7);refine⟨s5.trans S7,?_⟩;rw[Zm,he,ZJ];exact Yd.append (Yd.same S7 _ _ r5) (AU (Bf (.of AD) (AU (Bf (.of (s7 _ _ g6)) (Go _)) (AU (by unfold Yh;rfl) Ag))) Ag)
 ·rintro zs H5 ⟨s5,r5⟩ l2 nl2;have s6:Yb H5 (upd H5 l2 (.lst zs)):=Yb.upd nl2;refine⟨_,.inl ⟨.of AD,fun t nt=>?_⟩⟩;have S7:=s6.trans (Yb.upd (o:=.tup zs) nt);rw[show(kvE es).length=es.length by unfold kvE;rw[ZB],Zu]at r5;exact q es _ _ P3 (Bf (.of AD) (Yd.same S7 _ _ r5)) (R4.same (s5.trans S7)) (f4.trans (Bh (s5.trans S7)))
noncomputable def JW(K:W.Frag):Sp:=fun vs H Q _=>match vs with
 | [v]=>∃ls rs,Yh K H (gmD ls rs) v/\Gm ls rs/\Bo ls rs/\∀H',Yb H H'->Q .non H'
 | _=>False
theorem XG:Xj P w base T.z27 2 (JW K):=by
 refine T.z27.F.ok sc_z27 (fun vs H Q E h=>by unfold JW at h;walk_at "e") ?_;walk_at "f";unfold JW at h;walk_at "g"
 rename_i v;obtain⟨ls,rs,hv,G,he,q⟩:=h;refine⟨_,(@AF _ _ _ _ _ (@AN _ _ 1 _ _ _ _ sc_z27.nd rfl (by right) (AI (@O9 P w K mg base T) (hr.mono (show 1<=_ by decide)) rfl T.z33.m T.z33.F.kp T.z33.b .nil AE (AA (vv 0) AB)) (by rfl) (by walk_at "i")) (@AH _ _ _ (@Ar _ _ _ _ _ _ _ _ (AW DD (vv 1) Fz) (@AH _ _ _ O0) Aq))),?_⟩;exact⟨ls,rs,hv,G,fun H1 s1 _=>q H1 s1,fun i j t H1 hf _ _ _=>absurd hf.1 (he i j)⟩
theorem GX(he:Bo ls rs):∀X,X < 2 ^ ls.length->Can (AG ls) (Aa (rs.map AM)) ls.length X.testBit:=fun X hX=>by
 rw[Dl];exact V6 (Mf he) _ _ (fun k hk=>Ds hX hk) (by have:=Df ls.length X.testBit;lia)
noncomputable abbrev FH(Pt:Addr)(H:Hp):Prop:=Yx Pt Ex CF H
noncomputable def EO(K:W.Frag)(Pt:Addr):Sp:=fun vs H Q _=>match vs with
 | [v]=>∃ls rs,Yh K H (gmD ls rs) v/\Gm ls rs/\Bo ls rs/\FH Pt H /\
  ∀t es u H',DS ls (rs.map AM) t (2 ^ ls.length - 1)->PInv ls (rs.map AM) ls.length (2 ^ ls.length - 1) es []->Yh K H' (.tup [.int (AV ls (rs.map AM) (2 ^ ls.length - 1):Nat),t.dv,DK es]) u->Yt Pt H H'->FH Pt H'->Q u H'
 | _=>False
theorem Pe:AQ (EO K Pt):=fun vs H Q Q' E h q=>by
 unfold EO at *;walk_at "q"
theorem OU:∀xs:List Nat,Aj (iD xs)=true
 | []=>by unfold iD;simp[Aj]
 | x::xs=>by
  show Aj (Dv.int (x:Nat)::iD xs)=true;unfold Aj;rw[OU xs];rfl
theorem Lb:∀es:List (Nat × Nat),Aj (es.map Cd)=true
 | []=>by simp[Aj]
 | e::es=>by
  rw[Zi];unfold Aj;rw[Lb es]
  have h:BF (Cd e)=true:=by
   unfold Cd BF Aj Aj Aj
   have:BF (.tup (iD (BI e.1)))=true:=by unfold BF;exact OU _
   rw[this];rfl
  rw[h];rfl
theorem P4(B:BMn mg base):Xj P w base T.z69 96 (EO K T.p_z15):=by
 refine T.z69.F.ok sc_z69 (fun vs H Q E h=>by unfold EO at h;walk_at "e") ?_;walk_at "f";have hr_z29:=hr.mono (show 4<=_ by decide);have hr1_z29:=hr.mono (show 4+1<=_ by decide);unfold EO at h;walk_at "g"
 rename_i v;obtain⟨ls,rs,hv,G,he,hL,q⟩:=h;have l1:=G.l1;have l16:=G.l16;have cd:∀U:Nat,Ax ls.length U.testBit < 17:=fun U=>by have:=Df ls.length U.testBit;lia
 have hp2:=ZBj ls.length;have hp3:2 ^ 1<=2 ^ ls.length:=Zl (by decide) l1;have hS:2 ^ ls.length - 1 < 2 ^ ls.length:=by lia
 have hc:=GX he _ hS;refine⟨_,(@AF _ _ _ _ _ (@Dt _ _ _ _ (AI (@XG P w K mg base T) (hr.mono (show 2<=_ by decide)) rfl T.z27.m T.z27.F.kp T.z27.b .nil AE (AA (vv 0) AB)) (by rfl)) (@AF _ _ _ _ _ (@AN _ _ 1 _ _ _ _ sc_z69.nd rfl (by right) (JB T.mk_Reckoner (@Mi P w K mg base T) hr1_z29 rfl T.mC_Reckoner T.z29.b .nil AE (AA (vv 0) AB)) (by rfl) (by walk_at "i")) (@AF _ _ _ _ _ (@AN _ _ 2 _ _ _ _ sc_z69.nd rfl (by right) (OF (vv 1) T.cl_Reckoner T.z21.m (@Wz P w K mg base T) (hr.mono (show 3<=_ by decide)) T.z21.b .nil AE) (by rfl) (by walk_at "i")) (@AH _ _ _ (@AK _ _ _ _ (BK (AA (A3 (vv 1) T.cl_Reckoner T.z17.m (@Fg P w K mg base T) (hr.mono (show 72<=_ by decide)) T.z17.b .nil AE (AA (vv 2) AB)) (AA (AI (@So P w K mg base T B) (hr.mono (show 95<=_ by decide)) rfl T.z51.m T.z51.F.kp T.z51.b .nil AE (AA (vv 1) (AA (vv 2) AB))) (AA (AI (@XA P w K mg base T) (hr.mono (show 75<=_ by decide)) rfl T.z46.m T.z46.F.kp T.z46.b .nil AE (AA (vv 1) (AA (vv 2) AB))) AB))))))))),?_⟩;refine⟨ls,rs,hv,G,he,fun H0 s0=>?_⟩;intro x dx hx hdx Yu
 have s1:Yb H0 (upd (upd H0 dx (.own x)) x (.ins T.C_Reckoner dx [])):=(Yb.upd (o:=.own x) hdx).trans (fun b o e=>by
  have:b≠x:=fun z=>by
   rw[z,AJ (Ne.symm Yu),hx]at e;cases e
  rw[AJ this];exact e)
 have hx1:upd (upd H0 dx (.own x)) x (.ins T.C_Reckoner dx []) x=some (.ins T.C_Reckoner dx []):=AD;generalize upd (upd H0 dx (.own x)) x (.ins T.C_Reckoner dx [])=H1 at *;have S1:=s0.trans s1;refine⟨ls,rs,dx,hx1,hv.same S1,G,fun d H2 hd R f2=>⟨rfl,?_⟩⟩;dsimp only[AZ];have hd0:H d=none:=S1.free hd;have nx0:H x=none:=s0.free hx;have s2:Yb H H2:=fun b o e=>f2 b o (BZ e nx0) (S1 _ _ e)
 have L2':=hL.same s2;generalize hys:rs.map AM=ys at *;obtain⟨dx2,tl2,yl2,al2,as2,kvs2,k1,_,_,_,k5,_⟩:=id R.at_;refine⟨x,dx2,_,rfl,k1,lnB _ _ _ _,ls,ys,d,R,?_⟩;dsimp only[AZ];generalize hSS:2 ^ ls.length - 1=S at *;have h0:S≠0:=by lia
 refine⟨x,dx2,_,rfl,k1,ln1 _ _ _ _,ls,ys,d,S,R,rfl,hS,⟨_,hc⟩,cd S,fun m H3 hm R3 f3=>?_⟩;have L3:=JU L2' f3 k5 (.inr (.inl ⟨_,rfl⟩));refine⟨ls,ys,d,S,R3,rfl,hS,h0,⟨_,hc⟩,cd S,L3,fun t vt H4 bt rp R4 f4 L4=>?_⟩;obtain⟨_,_,_,_,_,_,_,_,_,_,d4,_⟩:=id R4.at_;refine⟨ls,ys,d,S,_,R4,rfl,hS,hc,fun es ve H5 P5 r5 R5 f5=>⟨smq rfl,fun u nu=>?_⟩⟩;have L5:=JU L4 f5 d4 (.inr (.inl ⟨_,rfl⟩));have s6:Yb H5 (upd H5 u (.tup [.int (m:Nat),vt,ve])):=Yb.upd nu;have rp5:Yh K H5 t.dv vt:=Yh.mv (fun a xs h=>Cv f5 d4 Gh h) _ _ t.tups rp;rw[DJ hm]at q;refine q t es _ _ bt P5 (Bf (.of AD) (AU (by unfold Yh;rfl) (AU (Yh.same s6 _ _ rp5) (AU (Yh.same s6 _ _ r5) Ag)))) (fun b o hb e=>?_) (L5.same s6);have hbd:b≠d:=BZ e hd0;exact s6 _ _ (f5 _ _ hbd (f4 _ _ (by simp[hbd,hb]) (f3 _ _ hbd (s2 _ _ e))))
noncomputable def Dh(es:List (Nat × Nat)):DF:=es.map fun e=>(BI e.1,((e.2:Nat):Int))
theorem Na(hok:∀e∈es,D3 ls e)(hB:Ht rs es):∀(n:Nat),∀e∈es,Can (AG ls) (rs.map gB) n (fun k=>decide (k∈e.1))->e.2<=(n:Int)
 | 0,e,he,hc=>absurd hc (hok e he).2
 | n+1,e,he,hc=>by
  rcases hc with o | ⟨y,hy,h1,h2⟩
  ·exact absurd o (hok e he).2
  ·by_cases z:e.2<=1
   ·lia
   ·obtain⟨r,hr,rfl⟩:=ZM.mp hy;obtain⟨ans,e',he',h3,h4⟩:=hB e he (by lia) r hr;have ih:=Na hok hB n e' he'
    have:e'.2<=(n:Int):=by
     cases ans with
     | true=>exact ih (B6 (fun k hk=>by rw[ZK,decide_eq_true_iff];exact h4 k (ZP hk)) h1)
     | false=>exact ih (B6 (fun k hk=>by rw[ZK,decide_eq_true_iff,ZBc];exact h4 k (ZP hk)) h2)
    lia
theorem T6{z:Int}{d:Dw}(hm:Can (AG ls) (rs.map gB) m (fun k=>decide (k∈List.range ls.length)))(h:GS ls rs z d)(hz:(m:Int) < z):False:=by
 obtain⟨es,_,hok,h1,hB⟩:=h
 rcases h1 with h1 | ⟨e,he,h1⟩
 ·lia
 ·have hc:Can (AG ls) (rs.map gB) m (fun k=>decide (k∈e.1)):=B6 (fun k hk=>by
   have:=(hok e he).1
   rw[decide_eq_true_iff,Ze];have hk:=ZP hk;exact(hok e he).1.lt k hk) hm
  have:=Na hok hB m e he hc
  lia
theorem WH{es:List (Nat × Nat)}{S0:Nat}(I:PInv ls (rs.map AM) n S0 es []){e:Nat × Nat}(he:e∈es)(h1:1 < e.2){r:List Bool}(hj:rs[j]? = some r) :
 ∃ans:Bool,∃e'∈Dh es,((e.2:Nat):Int) - 1<=e'.2/\∀t∈e'.1,t∈BI e.1/\gB r t=ans:=by
 have hjl:j < (rs.map AM).length:=by rw[ZB];exact(Zg.mp hj).1
 have eyj:(rs.map AM).getD j 0=AM r:=by rw[ZQ,ZR,hj];rfl
 obtain⟨c1,c2,c3,c4⟩:=I.ok e he;have hle:=Ku hjl c2
 have fin:∀(X:Nat) (ans:Bool),CM ls (rs.map AM) e.1 j X->(∀t,X.testBit t=true->e.1.testBit t=true/\gB r t=ans)->∃ans:Bool,∃e'∈Dh es,((e.2:Nat):Int) - 1<=e'.2/\∀t∈e'.1,t∈BI e.1/\gB r t=ans:=by
  intro X ans hX hb;have hn:=OQ hX
  rcases I.cl e he h1 j X hjl hX with z | z
  ·obtain⟨e',he',ee⟩:=ZM.mp z;have d4:=(I.ok e' he').2.2.2;rw[ee,hn]at d4;refine⟨ans,(BI e'.1,((e'.2:Nat):Int)),ZM.mpr ⟨e',he',rfl⟩,by show((e.2:Nat):Int) - 1<=((e'.2:Nat):Int);lia,fun t ht=>?_⟩;have ht:t∈BI e'.1:=ht;rw[ee]at ht;obtain⟨b1,b2⟩:=hb t (mem_memS.mp ht);exact⟨mem_memS.mpr b1,b2⟩
  ·cases z
 rcases Zr (AV ls (rs.map AM) (e.1 - (e.1 &&& AM r))) (AV ls (rs.map AM) (e.1 &&& AM r)) with z | z
 ·refine fin _ true (.inl ⟨rfl,by rw[eyj];exact z⟩) fun t ht=>?_
  rw[eyj,Z4,mskR_bit,ZK]at ht;exact ht
 ·refine fin _ false (.inr ⟨rfl,by rw[eyj];exact z⟩) fun t ht=>?_
  rw[eyj,Ew,mskR_bit,ZK,ZBc]at ht;exact ht
section
variable {ls:List Int}{rs:List (List Bool)}{es:List (Nat × Nat)}{n S:Nat}
theorem Vx{q:Nat}(h:q < rs.length):(rs.map AM).getD q 0=AM rs[q]/\rs.getD q []=rs[q]:=by
 constructor
 ·rw[ZQ,ZR,ZE h];rfl
 ·rw[ZQ,ZE h];rfl
theorem J8:∀(t:Tr) (S:Nat),DS ls (rs.map AM) t S->S < 2 ^ ls.length->Can (AG ls) (Aa (rs.map AM)) n S.testBit ->
 t.ok rs.length/\(∀k,S.testBit k=true->t.end_ rs k=AG ls k/\t.many rs k<=AV ls (rs.map AM) S)/\t.deep<=AV ls (rs.map AM) S+1/\(∃k,S.testBit k=true/\t.many rs k=AV ls (rs.map AM) S)/\t.size+1<=2 * Ax ls.length S.testBit
 | .say i,S,⟨o,k,hk,e⟩,hS,hc=>by
  have z:AV ls (rs.map AM) S=0:=(HR (Bx hc)).mpr o;refine⟨trivial,fun a ha=>⟨?_,ZU _⟩,by rw[z];exact ZD _,⟨k,hk,by rw[z];rfl⟩,?_⟩
  ·show i=_;rw[e];exact o k a hk ha
  ·have:=ED (N:=ls.length) (S:=S.testBit) (Ds hS hk) hk
   show 1+1<=_;lia
 | .ask q tn ty,S,⟨o,hq,b1,b2⟩,hS,hc=>by
  obtain⟨y1,y2⟩:=EK hq.mem
  have hq':q < rs.length:=by
   have:=(Zg.mp y1).1
   rwa [ZB]at this
  obtain⟨e1,e2⟩:=Vx hq';have hN:=Uw o hc hq;have hw:wst ls (rs.map AM) S q=max (AV ls (rs.map AM) (S &&& (rs.map AM).getD q 0)) (AV ls (rs.map AM) (S - (S &&& (rs.map AM).getD q 0))):=rfl;have hsp:=Fd ls.length S.testBit ((rs.map AM).getD q 0).testBit;rw[<- DT,<- Cn]at hsp;obtain⟨⟨a1,a2,_⟩,c1,c2,_⟩:=Gv hS hc y2 (ZBM _);obtain⟨p1,p2,p3,⟨k1,p4,p5⟩,p6⟩:=J8 tn _ b1 c1 c2;obtain⟨r1,r2,r3,⟨k2,r4,r5⟩,r6⟩:=J8 ty _ b2 a1 a2;have ans:∀k,BC rs q k=gB rs[q] k:=fun k=>by unfold BC;rw[e2]
  have yes:∀k,(S &&& (rs.map AM).getD q 0).testBit k=true ↔ S.testBit k=true/\BC rs q k=true:=fun k=>by
   rw[Z4,ZK,e1,mskR_bit,ans]
  have no:∀k,(S - (S &&& (rs.map AM).getD q 0)).testBit k=true ↔ S.testBit k=true/\¬BC rs q k=true:=fun k=>by
   rw[Ew,ZK,e1,mskR_bit,ans,ZBc,Bool.not_eq_true]
  have em:∀k,(Tr.ask q tn ty).many rs k=1+(if BC rs q k=true then ty.many rs k else tn.many rs k):=fun _=>rfl
  have ee:∀k,(Tr.ask q tn ty).end_ rs k=(if BC rs q k=true then ty.end_ rs k else tn.end_ rs k):=fun _=>rfl
  have ed:(Tr.ask q tn ty).deep=1+max tn.deep ty.deep:=rfl;have es:(Tr.ask q tn ty).size=1+tn.size+ty.size:=rfl;generalize AV ls (rs.map AM) (S &&& (rs.map AM).getD q 0)=X at *;generalize AV ls (rs.map AM) (S - (S &&& (rs.map AM).getD q 0))=Y at *;generalize AV ls (rs.map AM) S=N at *;generalize wst ls (rs.map AM) S q=W at *;refine⟨⟨hq',p1,r1⟩,fun k hk=>?_,by lia,?_,by lia⟩
  ·rw[em,ee]
   by_cases z:BC rs q k=true
   ·rw[if_pos z,if_pos z]
    have:=r2 k ((yes k).mpr ⟨hk,z⟩)
    exact⟨this.1,by lia⟩
   ·rw[if_neg z,if_neg z]
    have:=p2 k ((no k).mpr ⟨hk,z⟩)
    exact⟨this.1,by lia⟩
  ·rcases Zr Y X with z | z
   ·obtain⟨u1,u2⟩:=(yes k2).mp r4;exact⟨k2,u1,by rw[em,if_pos u2];lia⟩
   ·obtain⟨u1,u2⟩:=(no k1).mp p4;exact⟨k1,u1,by rw[em,if_neg u2];lia⟩
theorem Lk:∀xs:List Nat,Ca (iD xs)=xs.map fun(t:Nat)=>Dw.int (t:Int)
 | []=>rfl
 | x::xs=>congrArg (Dw.int (x:Int) :: ·) (Lk xs)
theorem Px(e:Nat × Nat):upW (Cd e)=A9 (BI e.1,((e.2:Nat):Int)):=by
 show Dw.tup [.tup (Ca (iD (BI e.1))),.int ((e.2:Nat):Int)]=_;rw[Lk];rfl
theorem Ll:∀es:List (Nat × Nat),Ca (es.map Cd)=(Dh es).map A9
 | []=>rfl
 | e::es=>by
  show upW (Cd e)::Ca (es.map Cd)=A9 (BI e.1,((e.2:Nat):Int))::(Dh es).map A9;rw[Px,Ll es]
theorem OA(es:List (Nat × Nat)):upW (DK es)=.tup ((Dh es).map A9):=by
 show Dw.tup (Ca (es.map Cd))=_;rw[Ll]
theorem R0{S0:Nat}(I:PInv ls (rs.map AM) n S0 es []):GS ls rs (AV ls (rs.map AM) S0:Nat) (upW (DK es)):=by
 refine⟨Dh es,OA es,fun e he=>?_,?_,fun e he h1 r hr=>?_⟩
 ·obtain⟨e',he',rfl⟩:=ZM.mp he;obtain⟨c1,c2,c3,c4⟩:=I.ok e' he';refine⟨⟨Xb _,fun t ht=>Ds c1 (mem_memS.mp ht),by show(1:Int)<=((e'.2:Nat):Int);lia⟩,fun o=>?_⟩;have e3:(fun k=>decide (k∈BI e'.1))=e'.1.testBit:=by funext k;rw[Z2,decide_eq_true_eq];exact mem_memS
  have o:One (AG ls) (fun k=>decide (k∈BI e'.1)):=o;rw[e3]at o
  have:=(HR (Bx c2)).mpr o
  lia
 ·rcases I.top with z | z | z
  ·obtain⟨e',he',ee⟩:=ZM.mp z;refine .inr ⟨(BI e'.1,((e'.2:Nat):Int)),ZM.mpr ⟨e',he',rfl⟩,?_⟩
   have:=(I.ok e' he').2.2.2
   rw[ee]at this;show _<=((e'.2:Nat):Int);lia
  ·cases z
  ·exact .inl (by lia)
 ·obtain⟨e',he',rfl⟩:=ZM.mp he;obtain⟨j,hj,rfl⟩:=Zs hr;exact WH I he' (by have h1:(1:Int) < ((e'.2:Nat):Int):=h1;lia) (ZE hj)
theorem DZ(N k:Nat):(2 ^ N - 1).testBit k=decide (k < N):=Nat.testBit_two_pow_sub_one ..
theorem GM(N:Nat):2 ^ N - 1 < 2 ^ N:=by have:=ZBj N;lia
theorem Ra{t:Tr}{z:Int}(he:Bo ls rs)(ho:t.ok rs.length)(hz:z < (AV ls (rs.map AM) (2 ^ ls.length - 1):Nat))(h1:1<=ls.length):(List.range ls.length).all (Bi ls rs z t)=false:=by
 rw[<- Bool.not_eq_true];intro h;rw[Zy]at h
 have hom:∀k,k < ls.length->t.end_ rs k=AG ls k/\(t.many rs k:Int)<=z:=fun k hk=>by
  have:=h k (Ze.mpr hk)
  unfold Bi at this;rw[ZK,decide_eq_true_iff,decide_eq_true_iff]at this;exact this
 have h0:=(hom 0 h1).2
 have c:=II (ls:=ls) (rs:=rs) t z.toNat (2 ^ ls.length - 1).testBit ho fun k hk=>by
  rw[DZ,decide_eq_true_iff]at hk
  have:=hom k hk
  exact⟨this.1,by lia⟩
 rw[<- Dl]at c
 have:=(Bx c).2 _ c
 lia
theorem Io{L:Nat->Int}:∀(Y:List (Nat->Bool)) (S:Nat->Bool),(∀i j,S i=true->S j=true->(∀y∈Y,y i=y j)->L i=L j)->Can L Y Y.length S
 | [],S,h=>fun i j a b=>h i j a b (fun y hy=>by cases hy)
 | y::Y,S,h=>.inr ⟨y,Zb ..,GL (fun x hx=>ZX _ hx) (Io Y _ fun i j a b c=>by
  simp only[ZK]at a b;refine h i j a.1 b.1 fun x hx=>?_
  rcases ZG.mp hx with e | e
  ·rw[e,a.2,b.2]
  ·exact c x e),GL (fun x hx=>ZX _ hx) (Io Y _ fun i j a b c=>by
  simp only[ZK,ZBc]at a b;refine h i j a.1 b.1 fun x hx=>?_
  rcases ZG.mp hx with e | e
  ·rw[e,a.2,b.2]
  ·exact c x e)⟩
theorem TN(he:Bo ls rs):AV ls (rs.map AM) (2 ^ ls.length - 1)<=rs.length:=by
 have c:Can (AG ls) (rs.map gB) (rs.map gB).length (2 ^ ls.length - 1).testBit:=Io _ _ fun i j a b c=>by
  rw[DZ,decide_eq_true_iff]at a b;exact Mf he i j a b c
 rw[ZB,<- Dl]at c;exact(Bx c).2 _ c
structure Told(ls:List Int)(rs:List (List Bool))(t:Tr)(D:Nat):Prop where
 ok:t.ok rs.length
 home:∀k,k < ls.length->t.end_ rs k=AG ls k/\t.many rs k<=D
 one:∃k,k < ls.length/\t.many rs k=D
 tree:Br rs.length (upW t.dv)=true
theorem Told.all{t:Tr}{D:Nat}(h:Told ls rs t D):(List.range ls.length).all (Bi ls rs (D:Nat) t)=true:=by
 rw[Zy];intro k hk;obtain⟨h1,h2⟩:=h.home k (Ze.mp hk);unfold Bi;rw[ZK,decide_eq_true_iff,decide_eq_true_iff];exact⟨h1,by lia⟩
theorem Told.less{t:Tr}{D:Nat}{z:Int}(h:Told ls rs t D)(hz:z < (D:Nat)):(List.range ls.length).all (Bi ls rs z t)=false:=by
 obtain⟨k,hk,e⟩:=h.one;rw[<- Bool.not_eq_true];intro x;rw[Zy]at x
 have:=x k (Ze.mpr hk)
 unfold Bi at this;rw[ZK,decide_eq_true_iff,decide_eq_true_iff]at this;lia
theorem NL{t:Tr}(G:Gm ls rs)(he:Bo ls rs)(h:DS ls (rs.map AM) t (2 ^ ls.length - 1)):Told ls rs t (AV ls (rs.map AM) (2 ^ ls.length - 1))/\∀q,q < rs.length->Told ls rs (.ask q t t) (AV ls (rs.map AM) (2 ^ ls.length - 1)+1):=by
 have hc:=GX he _ (GM _);obtain⟨a1,a2,a3,⟨k,a4,a5⟩,a6⟩:=J8 t _ h (GM _) hc
 have:=Df ls.length (2 ^ ls.length - 1).testBit
 have:=G.l16
 have n1:=TN he;have n2:=(Bx hc).2 _ hc;have n3:=G.few;rw[DZ]at a4;have a4:=ZP a4;have a2:∀k,k < ls.length->_:=fun k hk=>a2 k (by rw[DZ];exact ZL hk)
 generalize AV ls (rs.map AM) (2 ^ ls.length - 1)=D at *;refine⟨⟨a1,a2,⟨k,a4,a5⟩,?_⟩,fun q hq=>⟨⟨hq,a1,a1⟩,fun k hk=>?_,⟨k,a4,?_⟩,?_⟩⟩
 ·rw[Gx a1];exact ZL ⟨by lia,by lia⟩
 ·have:=a2 k hk
  refine⟨?_,?_⟩
  ·show(if BC rs q k=true then t.end_ rs k else t.end_ rs k)=_
   rw[ite_self];exact this.1
  ·show 1+(if BC rs q k=true then t.many rs k else t.many rs k)<=_;rw[ite_self];lia
 ·show 1+(if BC rs q k=true then t.many rs k else t.many rs k)=_;rw[ite_self];lia
 ·have ed:(Tr.ask q t t).deep=1+max t.deep t.deep:=rfl;have es:(Tr.ask q t t).size=1+t.size+t.size:=rfl;rw[Gx (show(Tr.ask q t t).ok rs.length from⟨hq,a1,a1⟩)];exact ZL ⟨by lia,by lia⟩
end
noncomputable abbrev DE(Pt:Addr)(H:Hp):Prop:=Yx Pt Ek CG H
noncomputable def D9(K:W.Frag)(Pt:Addr):Sp:=fun vs H Q _=>match vs with
 | [u,.int z,v,x]=>∃ls rs t es,Yh K H (gmD ls rs) u/\Gm ls rs/\Bo ls rs/\z=(AV ls (rs.map AM) (2 ^ ls.length - 1):Nat)/\Yh K H t.dv v/\DS ls (rs.map AM) t (2 ^ ls.length - 1)/\Yh K H (DK es) x/\PInv ls (rs.map AM) ls.length (2 ^ ls.length - 1) es []/\DE Pt H/\∀H',Yt Pt H H'->DE Pt H'->Q (.bl true) H'
 | _=>False
theorem TF:AQ (D9 K Pt):=fun vs H Q Q' E h q=>by
 unfold D9 at *;walk_at "q"
theorem U1(B:BMn mg base):Xj P w base T.z49 11 (D9 K T.p_z64):=by
 have G_z56:=@LD P w K mg base T B;have G_z57:=@T8 P w K mg base T;refine T.z49.F.ok Qd (fun vs H Q E h=>by unfold D9 at h;walk_at "e") ?_;walk_at "f";have hr_z56:=hr.mono (show 10<=_ by decide);have hr_z57:=hr.mono (show 6<=_ by decide);have mo1:AQ (Eo K T.p_z64):=Nh;have mo2:AQ (Dz K):=XF;unfold D9 at h;walk_at "g"
 rename_i u z v x;obtain⟨ls,rs,t,es,hg,G,he,ez,hv,hb,hx,I,hL,q⟩:=h;subst ez;have l1:=G.l1;have l16:=G.l16;obtain⟨TO,_⟩:=NL G he hb;have hc:=GX he _ (GM _);have hN:=Bx hc;have hc':=hN.1;rw[Dl]at hc';have hard:=R0 I
 have hno:=fun d (h:GS ls rs ((AV ls (rs.map AM) (2 ^ ls.length - 1):Nat)+1) d)=>T6 (by
  rw[show(fun k=>decide (k∈List.range ls.length))=(2 ^ ls.length - 1).testBit by funext k;rw[DZ];simp only[Ze]];exact hc') h (by lia)
 have fz:=HR hN;have rv:=E9 _ _ t.tups hv;have rx:=E9 _ _ (by unfold DK BF;exact Lb es) hx
 have hel:∀ds,upW (DK es)=.tup ds->ds.length<=100000:=fun ds e=>by
  rw[OA]at e;injection e with e
  rw[<- e,ZB]
  have:=I.len l16
  unfold Dh;rw[ZB];lia
 generalize AV ls (rs.map AM) (2 ^ ls.length - 1)=D at *;refine⟨_,(@AF _ _ _ _ _ (@Ar _ _ _ _ _ _ _ _ (PW.pt (Ce (AW DD (AI G_z56 hr_z56 rfl T.z56.m T.z56.F.kp T.z56.b .nil AE (AA (vv 0) (AA (vv 1) (AA (vv 2) AB)))) Am) (C6 (PW.pt (C1 (AW Bp (vv 1) AC) (C5 (AW DD (AI G_z56 hr_z56 rfl T.z56.m T.z56.F.kp T.z56.b .nil AE (AA (vv 0) (AA (AO Cj (vv 1) AC) (AA (vv 2) AB)))) Am))))))) (@AH _ _ _ (@AK _ _ _ _ Am)) Aq) (@AF _ _ _ _ _ (@Ar _ _ _ _ _ _ _ _ (PW.pt (Ce (AW DD (AI G_z57 hr_z57 rfl T.z57.m T.z57.F.kp T.z57.b .nil AE (AA (vv 0) (AA (vv 1) (AA (vv 3) AB)))) Am) (C6 (AW DD (AI G_z57 hr_z57 rfl T.z57.m T.z57.F.kp T.z57.b .nil AE (AA (vv 0) (AA (AO (BB (K:=K)) (vv 1) AC) (AA (vv 3) AB)))) Am)))) (@AH _ _ _ (@AK _ _ _ _ Am)) Aq) (@AH _ _ _ (@AK _ _ _ _ (A7 (kEq (K:=K) hu) (A7 (kEq (K:=K) hu) (vv 1) AC) (A7 (kEq (K:=K) hu) (Ab HJ rfl T.z_len (by rfl) (AA (Av (Ve (K:=K) rfl) rfl T.z_set (by rfl) (AA (Yp (K:=K) (vv 0) AC) AB)) AB)) AC)))))),?_⟩;obtain⟨pz,hP,_⟩:=id hL;refine AY (fun Z H'=>Z=[some u,some (.int (D:Nat)),some v,some x]/\Yt T.p_z64 H H'/\DE T.p_z64 H') ?_ ?_ (by walk_at "sm")
 ·refine⟨ls,rs,_,hg,G,rv,hL,fun e=>(nomatch TO.tree.symm.trans e),fun t' e _ _ H1 g1 L1=>?_⟩;cases tr_inj _ _ e;rw[TO.all];refine AT (fun z=>?_) (fun z=>⟨rfl,g1,L1⟩);obtain⟨pz1,hP1,_⟩:=id L1;have z:(0:Int) < (D:Nat):=ZP z;refine⟨ls,rs,_,Yh.tab g1 hP _ _ hg,G,Yj.tab g1 hP _ _ rv,L1,fun e=>(nomatch TO.tree.symm.trans e),fun t' e _ _ H2 g2 L2'=>?_⟩;cases tr_inj _ _ e;rw[TO.less (by lia)];exact⟨rfl,g1.trans g2,L2'⟩
 rintro Z H1 ⟨rfl,g1,L1⟩;refine AY (fun Z H'=>Z=[some u,some (.int (D:Nat)),some v,some x]/\Yt T.p_z64 H H'/\DE T.p_z64 H') ?_ ?_ (by walk_at "sm")
 ·have hg1:=Yh.tab g1 hP _ _ hg;have rx1:=Yj.tab g1 hP _ _ rx;refine⟨ls,rs,_,hg1,G,rx1,hel,fun b H2 hb2 s2=>?_⟩;have e:=hb2.mpr hard;subst e;refine⟨ls,rs,_,Yh.same s2 _ _ hg1,G,Yj.same s2 _ _ rx1,hel,fun b H3 hb3 s3=>?_⟩;cases b with
  | true=>exact(hno _ (hb3.mp rfl)).elim
  | false=>exact⟨rfl,g1.trans (Yt.same (s2.trans s3)),(L1.same s2).same s3⟩
 rintro Z H2 ⟨rfl,g2,L2'⟩;obtain⟨a,tl,rl,ps,rfl,g⟩:=BW (Yh.tab g2 hP _ _ hg);refine⟨_,.ref tl,.inr g.two,rfl,ls,g.lab,by lia,fun ds qs nd hm hqs=>⟨ds,AD,?_⟩⟩;have s3:Yb H2 (upd H2 qs (Ci ds)):=Yb.upd hqs;generalize upd H2 qs (Ci ds)=H3 at *
 have el:(List.range ls.length).map (AG ls)=ls:=by
  apply List.ext_getElem
  ·rw[ZB,Zt]
  ·intro i h1 h2;rw[List.getElem_map,List.getElem_range];unfold AG;rw[ZQ,ZE h2];rfl
 have o:=Kh (ls:=ls) (ts:=List.range ls.length) nd (by rw[el];exact hm);rw[show(fun k=>decide (k∈List.range ls.length))=(2 ^ ls.length - 1).testBit by funext k;rw[DZ];simp only[Ze]]at o;rw[<- fz]at o
 have d1:ds.length≠0:=fun z=>by
  have:ls[0]∈ds:=(hm _).mpr (Zd l1)
  rw[ZBY.mp z]at this;cases this
 have e1:(false ^^ (((D:Nat):Int) == 0))=decide (D=0):=by
  rw[Zo,Z2,beq_iff_eq,decide_eq_true_iff];lia
 have e2:(false ^^ (((ds.length:Nat):Int) == 1))=decide (D=0):=by
  rw[Zo,Z2,beq_iff_eq,decide_eq_true_iff];lia
 have q':=q H3 (g2.trans (Yt.same s3)) (L2'.same s3);show mEq false K (V.bl (false ^^ (((D:Nat):Int) == 0))) (V.bl (false ^^ (((ds.length:Nat):Int) == 1))) H3 Q;rw[e1,e2];generalize decide (D=0)=b;cases b <;> exact q'
theorem M0{Pu:Addr}{pz:Array Value}(l:Yx Pt pos q H)(g:Yt Pu H H')(ne:Pt≠Pu)(hu:H Pu=some (.tbl pz)):Yx Pt pos q H':=by
 obtain⟨ps,a,b,c⟩:=l;refine⟨ps,g _ _ ne a,b,?_⟩
 rcases c with c | ⟨c',c,d⟩
 ·exact .inl c
 ·exact .inr ⟨c',c,g _ _ (fun z=>by rw[z,hu]at d;cases d) d⟩
theorem XZ{d:Nat}(h:d<=10):cst d<=8188:=by
 have m:∀d,cst d<=cst (d+1):=fun d=>by show cst d<=4+2 * cst d;lia
 have k:∀e,cst d<=cst (d+e):=fun e=>by
  induction e with
  | zero=>exact ZD _
  | succ e ih=>exact Zj ih (m _)
 have:=k (10 - d)
 rw[show d+(10 - d)=10 by lia]at this;exact Zj this (by decide)
structure G7(K:W.Frag)(PA PB:Addr)(H:Hp)(t:Addr)(N:Nat)(ga:Addr)(ls:List Int)(rs:List (List Bool))(tp:Addr)(tr:Tr)(v:V):Prop where
 F:GFeed H t N
 A:FH PA H
 B:DE PB H
 r:Yh K H (gmD ls rs) (.ref ga)
 s:Yo K H tp (iL (List.range ls.length))
 w:Yh K H tr.dv v
section
variable {PA PB:Addr}{H H':Hp}{t:Addr}{N N':Nat}{ga:Addr}{ls:List Int}{rs:List (List Bool)}{tp:Addr}{tr:Tr}{v:V}
theorem G7.same(n:G7 K PA PB H t N ga ls rs tp tr v)(s:Yb H H'):G7 K PA PB H' t N ga ls rs tp tr v:=⟨n.F.same s,n.A.same s,n.B.same s,Yh.same s _ _ n.r,s.sqT n.s,Yh.same s _ _ n.w⟩
theorem G7.mono(n:G7 K PA PB H t N ga ls rs tp tr v)(h:N<=N'):G7 K PA PB H t N' ga ls rs tp tr v:=⟨n.F.mono h,n.A,n.B,n.r,n.s,n.w⟩
theorem G7.frm(n:G7 K PA PB H t N ga ls rs tp tr v)(F:GFeed H' t N')(f:Yl t H H'):G7 K PA PB H' t N' ga ls rs tp tr v:=⟨F,Gk n.A f n.F.lst,Gk n.B f n.F.lst,Yh.frm f n.F.lst _ _ (N4 ls rs) n.r,Iq f n.F.lst n.s,Yh.frm f n.F.lst _ _ tr.tups n.w⟩
theorem G7.grow(n:G7 K PA PB H t N ga ls rs tp tr v)(ne:PA≠PB)(g:Yt PB H H')(l:DE PB H'):G7 K PA PB H' t N ga ls rs tp tr v:=by
 obtain⟨pz,hP,_⟩:=id n.B;exact⟨K9 n.F g hP,M0 n.A g ne hP,l,Yh.tab g hP _ _ n.r,Ev g hP n.s,Yh.tab g hP _ _ n.w⟩
theorem QO(n:Nat):(fun k=>decide (k∈List.range n))=(2 ^ n - 1).testBit:=by funext k;rw[DZ];simp only[Ze]
theorem WE(r:List Bool)(ts:List Nat):(fun k=>decide (k∈Aw r true ts))=fun k=>decide (k∈ts) && gB r k:=by
 funext k
 unfold Aw;rw[Z2,ZK,decide_eq_true_iff,decide_eq_true_iff,Z0,beq_iff_eq]
theorem VY(r:List Bool)(ts:List Nat):(fun k=>decide (k∈Aw r false ts))=fun k=>decide (k∈ts) && !gB r k:=by
 funext k
 unfold Aw;rw[Z2,ZK,decide_eq_true_iff,decide_eq_true_iff,Z0,beq_iff_eq,ZBc]
end
theorem Ue(B:BMn mg base):FnOk P w K mg base CX0 97 T.f_law T.d_law ["_law_script"] (Gg K [T.p_z15,T.p_z64]):=by
 have G_z50:=@Dp P w K mg base T;have G_z58:=@Ta P w K mg base T;have G_z56:=@LD P w K mg base T B;refine T.F_law.ok sc_law (fun vs H Q E h=>by obtain⟨a,ns,rfl,_⟩:=h;rfl) ?_;walk_at "f";have hr_z50:=hr.mono (show 1<=_ by decide);have hr_z58:=hr.mono (show 73<=_ by decide);have hr_z56:=hr.mono (show 10<=_ by decide);obtain⟨a,ns,rfl,hS,Ym,hPt,q⟩:=h;refine⟨_,(@AF _ _ _ _ _ (@AN _ _ 1 _ _ _ _ sc_law.nd rfl (by right) (AI (@Qs P w K mg base T) (hr.mono (show 1<=_ by decide)) rfl T.z55.m T.z55.F.kp T.z55.b .nil AE (AA (vv 0) AB)) (by rfl) (by walk_at "i")) (@AF _ _ _ _ _ (@Bu _ _ _ _ _ _ _ _ PassesOwn.never rfl (BA rfl T.z_range (AA AC AB)) (AR (i:=2) sc_law.nd rfl (by right)) (@AF _ _ _ _ _ (@AN _ _ 3 _ _ _ _ sc_law.nd rfl (by right) (AI (@O7 P w K mg base T) (hr.mono (show 2<=_ by decide)) rfl T.z39.m T.z39.F.kp T.z39.b .nil AE (AA (AI (@SV P w K mg base T) (hr.mono (show 4<=_ by decide)) rfl T.z54.m T.z54.F.kp T.z54.b .nil AE (AA (vv 1) AB)) AB)) (by rfl) (by walk_at "i")) (@AF _ _ _ _ _ (@AN _ _ 4 _ _ _ _ sc_law.nd rfl (by right) (Av (BD (K:=K)) rfl T.z_tuple (by rfl) (AA (@An _ _ _ _ _ _ _ ["_law_one"] 1 [] _ _ _ _ rfl (BA rfl T.z_range (AA (Ab (Ay (K:=K)) rfl T.z_len (by rfl) (AA (Yp (K:=K) (vv 3) AC) AB)) AB)) (by kernel_rfl) rfl rfl (by kernel_rfl) (fun c=>AR (i:=0) (show(["_law_one"]:List Str).Nodup by decide +kernel) rfl (by right)) (AX (by decide)) (fun c=>Ao) (fun c=>(vv 0)) (by intro _;rfl)) AB)) (by rfl) (by walk_at "i")) (@AF _ _ _ _ _ (@Dj _ _ _ _ _ _ (AI (@P4 P w K mg base T B) (hr.mono (show 96<=_ by decide)) rfl T.z69.m T.z69.F.kp T.z69.b .nil AE (AA (vv 3) AB)) (Ml (K:=K) (n:=3) rfl (Bg (AR (i:=5) sc_law.nd rfl (by right)) (Bg (AR (i:=6) sc_law.nd rfl (by right)) (Bg (AR (i:=7) sc_law.nd rfl (by right)) DG)))) (by rfl) (by rfl) (by rfl)) (@AF _ _ _ _ _ (@Ar _ _ _ _ _ _ _ _ (PW.pt (Ce (CP (BL (AI (@U1 P w K mg base T B) (hr.mono (show 11<=_ by decide)) rfl T.z49.m T.z49.F.kp T.z49.b .nil AE (AA (vv 3) (AA (vv 5) (AA (vv 6) (AA (vv 7) AB))))))) (C6 (AW (kNe (K:=K) hu) (AI G_z58 hr_z58 rfl T.z58.m T.z58.F.kp T.z58.b .nil AE (AA (vv 3) (AA (vv 4) AB))) (vv 5))))) (@AH _ _ _ (@AK _ _ _ _ Am)) Aq) (@AF _ _ _ _ _ (@Bu _ _ _ _ _ _ _ _ PassesOwn.never rfl (BA rfl T.z_range (AA (AO Co (Ab (Ay (K:=K)) rfl T.z_len (by rfl) (AA (Yp (K:=K) (vv 3) AC) AB)) (Av Im rfl T.z_int (by rfl) (AA (A7 Bp (vv 5) AC) AB))) AB)) (AR (i:=8) sc_law.nd rfl (by right)) (@AF _ _ _ _ _ (@C0 _ _ _ _ _ _ _ (["_law_answer","_law_game_here","_law_things","_law_question"]) 1 ([3,4,8]) _ _ _ _ 9 _ _ _ rfl sc_law.nd rfl rfl (BE (K:=K) (BK (AA Am (AA Am AB)))) (by kernel_rfl) rfl rfl (by kernel_rfl) (fun c=>AR (i:=0) (show(["_law_answer","_law_game_here","_law_things","_law_question"]:List Str).Nodup by decide +kernel) rfl (by right)) (AX (by decide)) (fun c=>Ao) (fun c=>(AI (@Ph P w K mg base T) (hr.mono (show 1<=_ by decide)) rfl T.z66.m T.z66.F.kp T.z66.b .nil AE (AA (vv 1) (AA (vv 2) (AA (vv 3) (AA (vv 0) AB)))))) (by rfl) (by intro _;rfl)) (@AH _ _ _ (@Ar _ _ _ _ _ _ _ _ (AW Ck (Ab (Vc (K:=K) rfl) rfl T.z_max (by rfl) (AA (An (N':=["_law_side","_law_game_here"]) (own:=1) (ix:=[3]) rfl (BE (K:=K) (vv 9)) (by kernel_rfl) rfl rfl (by kernel_rfl) (fun c=>AR (i:=0) (show(["_law_side","_law_game_here"]:List Str).Nodup by decide +kernel) rfl (by right)) (AX (by decide)) (fun c=>Ao) (fun c=>(AI G_z58 hr_z58 rfl T.z58.m T.z58.F.kp T.z58.b .nil AE (AA (vv 1) (AA (vv 0) AB))))) AB)) (AO Cj (vv 5) AC)) (@AH _ _ _ (@AK _ _ _ _ Am)) Aq))) (by intro _;rfl)) (@AF _ _ _ _ _ (@Bu _ _ _ _ _ _ _ _ PassesOwn.never rfl (BA rfl T.z_range (AA AC AB)) (AR (i:=10) sc_law.nd rfl (by right)) (@AF _ _ _ _ _ (@AN _ _ 11 _ _ _ _ sc_law.nd rfl (by right) (AI (@Sx P w K mg base T) (hr.mono (show 14<=_ by decide)) rfl T.z53.m T.z53.F.kp T.z53.b .nil AE (AA (vv 1) (AA (vv 3) (AA (vv 4) (AA (AO (BB (K:=K)) AC (AI G_z50 hr_z50 rfl T.z50.m T.z50.F.kp T.z50.b .nil AE (AA (vv 1) (AA AC AB)))) AB))))) (by rfl) (by walk_at "i")) (@AH _ _ _ (@Ar _ _ _ _ _ _ _ _ (PW.pt (C1 (AW Bp (vv 5) AC) (C5 (AW DD (AI G_z56 hr_z56 rfl T.z56.m T.z56.F.kp T.z56.b .nil AE (AA (vv 3) (AA (AO Cj (vv 5) AC) (AA (vv 11) AB)))) Am)))) (@AH _ _ _ (@AK _ _ _ _ Am)) Aq))) (by intro _;rfl)) (@AF _ _ _ _ _ (@AN _ _ 12 _ _ _ _ sc_law.nd rfl (by right) (BK (AA DC (AA (AI G_z50 hr_z50 rfl T.z50.m T.z50.F.kp T.z50.b .nil AE (AA (vv 1) (AA (Ab (Ay (K:=K)) rfl T.z_len (by rfl) (AA (Yp (K:=K) (vv 3) AC) AB)) AB))) (AA (vv 6) (AA (vv 6) AB))))) (by rfl) (by walk_at "i")) (@AH _ _ _ (@Ar _ _ _ _ _ _ _ _ (PW.pt (Ce (AW DD (AI G_z56 hr_z56 rfl T.z56.m T.z56.F.kp T.z56.b .nil AE (AA (vv 3) (AA (AO (BB (K:=K)) (vv 5) AC) (AA (vv 12) AB)))) Am) (C6 (AW DD (AI G_z56 hr_z56 rfl T.z56.m T.z56.F.kp T.z56.b .nil AE (AA (vv 3) (AA (vv 5) (AA (vv 12) AB)))) Am)))) (@AH _ _ _ (@AK _ _ _ _ Am)) Aq))))))))) (by intro _;rfl)) (@AH _ _ _ (@AK _ _ _ _ Am)))),?_⟩;have mo1:AQ (CT K 500 800000000):=SO;have mo2:AQ (EH K):=U8;have mo3:AQ (EO K T.p_z15):=Pe;have mo4:AQ (D9 K T.p_z64):=TF;have mo5:AQ (Ei K):=Oo;have mo6:AQ (D5 K):=SA;have mo7:AQ (spT K 11):=NU;have mo8:AQ (Eo K T.p_z64):=Nh;have np:=T.np_0;generalize hPA:T.p_z15=PA at *;generalize hPB:T.p_z64=PB at *;have A0:FH PA H:=LR (hPt _ (Zb ..));have B0:DE PB H:=LR (hPt _ (ZX _ (ZO.mpr rfl)));refine⟨ns,hS,fun t H1 ht s1 F1=>?_⟩;dsimp only[AZ];have A1:=A0.same s1;have B1:=B0.same s1;refine AY (fun Z H'=>∃z:List (Option V),Z=some (.ref a)::some (.ref t)::z) ?_ (fun Z H' _=>q H') (by walk_at "sm");refine⟨4,rfl,by decide,by decide,?_⟩;refine Cg (fun i Z H'=>(∃z2 z3 z4 z5 z6 z7 z8 z9 z10 z11 z12:Option V,Z=[some (.ref a),some (.ref t),z2,z3,z4,z5,z6,z7,z8,z9,z10,z11,z12])/\GFeed H' t (40000 * i)/\FH PA H'/\DE PB H') ⟨⟨none,none,none,none,none,none,none,none,none,none,none,rfl⟩,F1,A1,B1⟩ ?_ (fun Z H' ⟨⟨z2,z3,z4,z5,z6,z7,z8,z9,z10,z11,z12,e⟩,_⟩=>⟨_,e⟩);clear F1 A1 B1 A0 B0 s1 ht H1;rintro i Z H2 hi ⟨⟨z2,z3,z4,z5,z6,z7,z8,z9,z10,z11,z12,rfl⟩,F2,A2,B2⟩;have hi4:i < 4:=hi;refine⟨_,F2,by lia,fun ls0 rs u0 H3 G0 r3 F3 f3=>⟨ls0,rs,r3,G0,fun ls u H4 s4 G he r4=>?_⟩⟩;dsimp only[AZ];have F4:=F3.same s4;have A4:=(Gk A2 f3 F2.lst).same s4;have B4:=(Gk B2 f3 F2.lst).same s4;clear F2 F3 A2 B2 f3 r3 G0 s4 H2 H3 ls0 u0;have l1:=G.l1;have l16:=G.l16;have r1:=G.r1;have r16:=G.r16;obtain⟨ga,tl,rl,ps,rfl,g⟩:=BW r4;refine AY (fun Z H'=>∃(tp:Addr),Z=[some (.ref a),some (.ref t),some (.int (0+(i:Int))),some (.ref ga),some (.ref tp),z5,z6,z7,z8,z9,z10,z11,z12]/\Yb H4 H'/\H' tp=some (.tup (iL (List.range ls.length)))) ?_ ?_ (by walk_at "sm")
 ·refine⟨_,.ref tl,.inr g.two,rfl,ls.length,.inr ⟨_,g.lab,by rw[ZB]⟩,ls.length,rfl,by lia,by lia,?_⟩;refine BU (fun j ys H'=>H'=H4/\ys=iL (List.range j)) ⟨rfl,rfl⟩ (fun j ys H' hj ⟨_,e⟩=>by rw[e,Ai,Zt];exact Ad (by lia)) ?_ ?_
  ·rintro j ys H' hj ⟨rfl,rfl⟩;refine⟨rfl,?_⟩;rw[ZBJ,Bv,show(0:Int)+(j:Int)=(j:Int) from Int.zero_add _];rfl
  ·rintro ys H' ⟨rfl,rfl⟩ lt Yq;rw[Zc];have s4:=Yb.upd (o:=.lst (iL (List.range ls.length))) Yq;exact⟨_,.inl ⟨.of AD,fun tp ntp=>⟨tp,rfl,s4.trans (Yb.upd ntp),AD⟩⟩⟩
 rintro Z H5 ⟨tp,rfl,s5,gtp⟩;have F5:=F4.same s5;have A5:=A4.same s5;have B5:=B4.same s5;have r5:=Yh.same s5 _ _ r4;clear F4 A4 B4 r4 g s5 H4;refine AY (fun Z H'=>∃(t0:Tr) (es:List (Nat × Nat)) (v x:V),Z=[some (.ref a),some (.ref t),some (.int (0+(i:Int))),some (.ref ga),some (.ref tp),some (.int (AV ls (rs.map AM) (2 ^ ls.length - 1):Nat)),some v,some x,z8,z9,z10,z11,z12]/\G7 K PA PB H' t (40000 * i+500) ga ls rs tp t0 v/\DS ls (rs.map AM) t0 (2 ^ ls.length - 1)/\PInv ls (rs.map AM) ls.length (2 ^ ls.length - 1) es []/\Yh K H' (DK es) x) ?_ ?_ (by walk_at "sm")
 ·refine⟨ls,rs,r5,G,he,A5,fun t0 es u H6 bt I rp g6 A6=>?_⟩;obtain⟨p,xs,rfl,hp,hx⟩:=Ch rp;unfold Yd at hx;obtain⟨x0,l0,rfl,e0,hx⟩:=hx;unfold Yd at hx;obtain⟨x1,l1',rfl,e1,hx⟩:=hx;unfold Yd at hx;obtain⟨x2,l2,rfl,e2,hx⟩:=hx;unfold Yd at hx;subst hx;unfold Yh at e0;subst e0;obtain⟨pz,hP,_⟩:=id A5;exact⟨_,.inr hp,rfl,_,_,rfl,_,_,rfl,_,_,rfl,rfl,t0,es,x1,x2,rfl,⟨K9 F5 g6 hP,A6,M0 B5 g6 (Ne.symm np) hP,Yh.tab g6 hP _ _ r5,Ev g6 hP (.of gtp),e1⟩,bt,I,e2⟩
 clear F5 A5 B5 r5 gtp H5;rintro Z H6 ⟨t0,es,v,x,rfl,n6,bt,I,hx⟩
 have hN:As (AG ls) (rs.map gB) (fun k=>decide (k∈List.range ls.length)) (AV ls (rs.map AM) (2 ^ ls.length - 1)):=by
  rw[QO,<- Dl];exact Bx (GX he _ (GM ls.length))
 obtain⟨TO,TM⟩:=NL G he bt;have no:∀(t:Tr) (z:Int),t.ok rs.length->z < (AV ls (rs.map AM) (2 ^ ls.length - 1):Nat)->(List.range ls.length).all (Bi ls rs z t)=false:=fun t z ho hz=>Ra he ho hz l1
 have hrr:(List.range ls.length).Pairwise (· < ·):=ZBo;refine AY (fun Z H'=>Z=[some (.ref a),some (.ref t),some (.int (0+(i:Int))),some (.ref ga),some (.ref tp),some (.int (AV ls (rs.map AM) (2 ^ ls.length - 1):Nat)),some v,some x,z8,z9,z10,z11,z12]/\G7 K PA PB H' t (40000 * i+500) ga ls rs tp t0 v) ?_ ?_ (by walk_at "sm")
 ·refine⟨ls,rs,t0,es,n6.r,G,he,rfl,n6.w,bt,hx,I,n6.B,fun H7 g7 B7=>?_⟩;have n7:=n6.grow np g7 B7;refine⟨ls,rs,List.range ls.length,n7.r,G,.inr n7.s,hrr,fun t ht=>Ze.mp ht,⟨_,hN.1⟩,fun m H8 s8 hm=>?_⟩;rw[Fe hm hN];generalize ((AV ls (rs.map AM) (2 ^ ls.length - 1):Nat):Int)=y at *;have e0:(true ^^ (y == y))=false:=by simp
  show if (true ^^ (y == y))=true then _ else _
  rw[e0];exact⟨rfl,n7.same s8⟩
 clear bt I hx n6 H6 es;rintro Z H7 ⟨rfl,n7⟩;generalize AV ls (rs.map AM) (2 ^ ls.length - 1)=D at *;refine AY (fun Z H'=>(∃y8 y9:Option V,Z=[some (.ref a),some (.ref t),some (.int (0+(i:Int))),some (.ref ga),some (.ref tp),some (.int (D:Nat)),some v,some x,y8,y9,z10,z11,z12])/\G7 K PA PB H' t (40000 * i+500) ga ls rs tp t0 v) ?_ ?_ (by walk_at "sm")
 ·obtain⟨ga',tl,rl,ps,ea,g⟩:=BW n7.r;cases ea
  obtain⟨W,hW,hW1,hW2⟩:∃W:Nat,((rs.length:Nat):Int) * (if decide ((0:Int) < ((D:Nat):Int)) then 1 else 0)=(W:Int)/\W<=rs.length/\(0 < W->0 < D):=by
   by_cases z:0 < D
   ·exact⟨rs.length,by rw[if_pos (ZL (by lia))];lia,ZD _,fun _=>z⟩
   ·exact⟨0,by rw[if_neg (fun y=>z (by have:=ZP y;lia))];lia,ZU _,fun y=>absurd y (ZW _)⟩
  refine⟨_,.ref rl,.inr g.two,rfl,rs.length,.inr ⟨_,g.rows,by rw[ZB,g.len]⟩,?_⟩;refine⟨.inr (.inr (by split <;> decide)),(W:Int),?_,by lia,by lia,?_⟩
  ·show [V.int (((rs.length:Nat):Int) * (if decide ((0:Int) < ((D:Nat):Int)) then 1 else 0))]=_;rw[hW]
  rw[Zc];refine Cg (fun j Z H'=>(∃y8 y9:Option V,Z=[some (.ref a),some (.ref t),some (.int (0+(i:Int))),some (.ref ga),some (.ref tp),some (.int (D:Nat)),some v,some x,y8,y9,z10,z11,z12])/\G7 K PA PB H' t (40000 * i+500) ga ls rs tp t0 v) ⟨⟨_,_,rfl⟩,n7⟩ ?_ (fun Z H' h=>h);rintro j Z H8 hj ⟨⟨y8,y9,rfl⟩,n8⟩;have ez:(0:Int)+(j:Int)=((j:Nat):Int):=by lia
  rw[ez];have hjr:j < rs.length:=by lia
  have er:rs[j]? = some rs[j]:=ZE hjr;have hrl:rs[j].length=ls.length:=G.row rs[j] (Zd hjr);have hrm:rs[j]∈rs:=Zd hjr;generalize rs[j]=r at *;refine AY (fun Z H'=>∃(l p0 p1:Addr),Z=[some (.ref a),some (.ref t),some (.int (0+(i:Int))),some (.ref ga),some (.ref tp),some (.int (D:Nat)),some v,some x,some (.int (j:Nat)),some (.ref l),z10,z11,z12]/\Yb H8 H'/\H' l=some (.lst [.ref p0,.ref p1])/\Yo K H' p0 (iL (Aw r false (List.range ls.length)))/\Yo K H' p1 (iL (Aw r true (List.range ls.length)))) ?_ ?_ (by walk_at "sm")
  ·refine⟨smq rfl,fun tb hb=>.inr ⟨⟨_,.of AD⟩,?_⟩⟩;have s9:Yb H8 (upd H8 tb (.tup [.bl false,.bl true])):=Yb.upd hb;have gb:upd H8 tb (.tup [.bl false,.bl true]) tb=some (.tup [.bl false,.bl true]):=AD;generalize upd H8 tb (.tup [.bl false,.bl true])=H9 at *
   refine B3 (xs:=[.bl false,.bl true]) (fun k zs H'=>Yb H9 H'/\∃qs:List Addr,zs=qs.map V.ref/\qs.length=k/\∀(i:Nat) (c:Addr),qs[i]? = some c->Yo K H' c (iL (Aw r (i == 1) (List.range ls.length)))) ⟨Yb.refl _,[],rfl,rfl,fun i c hc=>by simp at hc⟩ (fun k zs H' _ ⟨s,_⟩=>s.sqT (.of gb)) (fun k zs H' hk ⟨_,qs,e,hq,_⟩=>by
    rw[e,ZB,hq];exact Ad (by simp at hk;lia)) ?_ ?_
   ·rintro k x zs H10 hx ⟨s10,qs,rfl,hq,hall⟩
    obtain⟨ans,rfl,ea⟩:∃ans:Bool,x=.bl ans/\ans=(k == 1):=by
     match k,hx with
     | 0,hx=>cases hx;exact⟨false,rfl,rfl⟩
     | 1,hx=>cases hx;exact⟨true,rfl,rfl⟩
     | k+2,hx=>simp at hx
    have n10:=(n8.same s9).same s10;refine⟨_,Ae rs,j,r,List.range ls.length,n10.r,rfl,by unfold Ae;rw[ZR,er];rfl,n10.s,by rw[Zt];lia,fun t ht=>by rw[hrl];exact Ze.mp ht,fun p' H11 s11 hp'=>⟨s10.trans s11,qs++[p'],by rw[ZJ];rfl,by rw[ZN,hq];rfl,fun i d hd=>?_⟩⟩
    rcases ZBC i qs.length with z | z | z
    ·rw[ZBF z]at hd;exact s11.sqT (hall i d hd)
    ·subst z;rw[Z6 (ZD _),ZBb]at hd;cases hd;rw[hq,<- ea];exact hp'
    ·rw[Z6 (Zv z),ZBs (by simp;lia)]at hd;cases hd
   ·rintro zs H10 ⟨s10,qs,rfl,hq,hall⟩ l hl
    match qs,hq,hall with
    | [b0,b1],_,hall =>
    have s11:=Yb.upd (o:=.lst ([b0,b1].map V.ref)) hl;exact⟨l,b0,b1,rfl,s9.trans (s10.trans s11),AD,s11.sqT (hall 0 b0 rfl),s11.sqT (hall 1 b1 rfl)⟩
  rintro Z H9 ⟨l,p0,p1,rfl,s9,gl,h0,h1⟩;refine .inl ⟨⟨_,.of gl⟩,?_⟩
  refine Du (xs:=[.ref p0,.ref p1]) (fun k zs H'=>Yb H9 H'/\∃ms:List Nat,zs=ms.map (fun(m:Nat)=>V.int (m:Int))/\ms.length=k/\∀(i:Nat) (m:Nat),ms[i]? = some m->As (AG ls) (rs.map gB) (fun k=>decide (k∈Aw r (i == 1) (List.range ls.length))) m) ⟨Yb.refl _,[],rfl,rfl,fun i c hc=>by simp at hc⟩ (fun k zs H' _ ⟨s,_⟩=>.of (s _ _ gl)) (fun k zs H' hk ⟨_,qs,e,hq,_⟩=>by
   rw[e,ZB,hq];exact Ad (by simp at hk;lia)) ?_ ?_
  ·rintro k x zs H10 hx ⟨s10,ms,rfl,hm,hall⟩
   obtain⟨p,rfl,hp⟩:∃p:Addr,x=.ref p/\Yo K H10 p (iL (Aw r (k == 1) (List.range ls.length))):=by
    match k,hx with
    | 0,hx=>cases hx;exact⟨p0,rfl,s10.sqT h0⟩
    | 1,hx=>cases hx;exact⟨p1,rfl,s10.sqT h1⟩
    | k+2,hx=>simp at hx
   have n10:=(n8.same s9).same s10;refine⟨ls,rs,Aw r (k == 1) (List.range ls.length),n10.r,G,.inr hp,Tz hrr,fun t ht=>Ze.mp (Ju ht),⟨_,B6 (fun k hk=>by rw[decide_eq_true_iff]at hk ⊢;exact Ju hk) hN.1⟩,fun m H11 s11 hf=>⟨s10.trans s11,ms++[m],by rw[ZJ];rfl,by rw[ZN,hm];rfl,fun i d hd=>?_⟩⟩
   rcases ZBC i ms.length with z | z | z
   ·rw[ZBF z]at hd;exact hall i d hd
   ·subst z;rw[Z6 (ZD _),ZBb]at hd;cases hd;rw[hm];exact hf
   ·rw[Z6 (Zv z),ZBs (by simp;lia)]at hd;cases hd
  ·rintro zs H10 ⟨s10,ms,rfl,hm,hall⟩ l' hl'
   match ms,hm,hall with
   | [m0,m1],_,hall =>
   have s11:=Yb.upd (o:=.lst ([m0,m1].map (fun(m:Nat)=>V.int (m:Int)))) hl';refine⟨[(m0:Int),(m1:Int)],.of AD,Nat.succ_pos _,fun M hM hle=>?_⟩;have f0:=hall 0 m0 rfl;have f1:=hall 1 m1 rfl;have f2:=OW (y:=gB r) (ZM.mpr ⟨_,hrm,rfl⟩) hN (by rw[<- WE];exact f1) (by rw[<- VY];exact f0);have a0:=hle m0 (by simp);have a1:=hle m1 (by simp);refine AT (fun e=>absurd (ZP e) (by lia)) (fun _=>⟨⟨_,_,rfl⟩,(n8.same s9).same (s10.trans s11)⟩)
 clear n7 H7;rintro Z H7 ⟨⟨y8,y9,rfl⟩,n7⟩;refine AY (fun Z H'=>(∃y10 y11:Option V,Z=[some (.ref a),some (.ref t),some (.int (0+(i:Int))),some (.ref ga),some (.ref tp),some (.int (D:Nat)),some v,some x,y8,y9,y10,y11,z12])/\G7 K PA PB H' t (40000 * i+500+8189 * 4) ga ls rs tp t0 v) ?_ ?_ (by walk_at "sm")
 ·refine⟨4,rfl,by decide,by decide,?_⟩;refine Cg (fun j Z H'=>(∃y10 y11:Option V,Z=[some (.ref a),some (.ref t),some (.int (0+(i:Int))),some (.ref ga),some (.ref tp),some (.int (D:Nat)),some v,some x,y8,y9,y10,y11,z12])/\G7 K PA PB H' t (40000 * i+500+8189 * j) ga ls rs tp t0 v) ⟨⟨_,_,rfl⟩,n7.mono (by lia)⟩ ?_ (fun Z H' h=>h);rintro j Z H8 hj ⟨⟨y10,y11,rfl⟩,n8⟩;have hj4:j < 4:=hj;refine AY (fun Z H'=>∃(tr:Tr) (ov:V),Z=[some (.ref a),some (.ref t),some (.int (0+(i:Int))),some (.ref ga),some (.ref tp),some (.int (D:Nat)),some v,some x,y8,y9,some (.int (0+(j:Int))),some ov,z12]/\Yh K H' tr.dv ov/\tr.ok rs.length/\G7 K PA PB H' t (40000 * i+500+8189 * (j+1)) ga ls rs tp t0 v) ?_ ?_ (by walk_at "sm")
  ·refine⟨_,n8.F,by lia,Au (by decide) (by decide),fun y H9 y0 y8' F9 f9=>?_⟩;have n9:=n8.frm F9 (CW f9);obtain⟨d,hd⟩:∃d:Nat,3+y=d:=⟨(3+y).toNat,by lia⟩;have hc:=XZ (d:=d) (by lia);exact⟨_,d,ls,rs,List.range ls.length,⟨n9.F,n9.r,n9.s⟩,by lia,G,fun x hx=>Ze.mp hx,by rw[Zt];lia,hd,by lia,fun tr ov H10 rp hok _ _ F10 f10=>⟨tr,ov,rfl,rp,hok,(n9.frm F10 f10).mono (by lia)⟩⟩
  rintro Z H9 ⟨tr,ov,rfl,rp,hok,n9⟩;refine AT (fun z=>?_) (fun z=>⟨⟨_,_,rfl⟩,n9⟩);have z:(0:Int) < (D:Nat):=ZP z;refine⟨ls,rs,_,n9.r,G,E9 _ _ tr.tups rp,n9.B,fun _ H10 g10 B10=>⟨⟨_,_,rfl⟩,n9.grow np g10 B10⟩,fun t' e _ _ H10 g10 B10=>?_⟩;cases tr_inj _ _ e;rw[no tr _ hok (by lia)];exact⟨⟨_,_,rfl⟩,n9.grow np g10 B10⟩
 clear n7 H7;rintro Z H8 ⟨⟨y10,y11,rfl⟩,n8⟩;refine AY (fun Z H'=>∃(q:Nat) (mv:V),Z=[some (.ref a),some (.ref t),some (.int (0+(i:Int))),some (.ref ga),some (.ref tp),some (.int (D:Nat)),some v,some x,y8,y9,y10,y11,some mv]/\q < rs.length/\Yh K H' (Tr.ask q t0 t0).dv mv/\G7 K PA PB H' t (40000 * i+500+8189 * 4+1) ga ls rs tp t0 v) ?_ ?_ (by walk_at "sm")
 ·obtain⟨ga',tl,rl,ps,ea,g⟩:=BW n8.r;cases ea;refine⟨_,.ref rl,.inr g.two,rfl,rs.length,.inr ⟨_,g.rows,by rw[ZB,g.len]⟩,_,n8.F,by lia,Au (by lia) (by lia),fun y H9 y0 y1 F9 f9=>?_⟩;have n9:=n8.frm F9 (CW f9);obtain⟨q,rfl⟩:∃q:Nat,y=q:=⟨y.toNat,by lia⟩;refine⟨smq rfl,fun mp hmp=>?_⟩;have s10:Yb H9 (upd H9 mp (.tup [.str (Str.ofString "ask"),.int (q:Nat),v,v])):=Yb.upd hmp;exact⟨q,_,rfl,by lia,Bf (.of AD) (AU (by unfold Yh;rfl) (AU (by unfold Yh;rfl) (AU (Yh.same s10 _ _ n9.w) (AU (Yh.same s10 _ _ n9.w) Ag)))),n9.same s10⟩
 rintro Z H9 ⟨q',mv,rfl,hq,rp,n9⟩;have TQ:=TM q' hq;have ha:(List.range ls.length).all (Bi ls rs (((D:Nat):Int)+1) (.ask q' t0 t0))=true:=TQ.all;have rw9:=E9 _ _ (Tr.tups _) rp;refine⟨ls,rs,_,n9.r,G,rw9,n9.B,fun e=>(nomatch TQ.tree.symm.trans e),fun t' e _ _ H10 g10 B10=>?_⟩;cases tr_inj _ _ e;rw[ha];have n10:=n9.grow np g10 B10;obtain⟨pz,hP,_⟩:=id n9.B;refine⟨ls,rs,_,n10.r,G,Yj.tab g10 hP _ _ rw9,n10.B,fun e=>(nomatch TQ.tree.symm.trans e),fun t' e _ _ H11 g11 B11=>?_⟩;cases tr_inj _ _ e;rw[TQ.less (by lia)];have n11:=n10.grow np g11 B11;exact⟨⟨_,_,_,_,_,_,_,_,_,_,_,rfl⟩,n11.F.mono (by lia),n11.A,n11.B⟩
end
noncomputable abbrev DI(K:W.Frag)(n:Str)(st:Stmt)(f:Addr):Prop:=∃(oc kV dc pm cd ct:Value) (od an:Option Addr) (sl:Array (Option Value)),W.nsIn K mainGlobals n=some (some (.ref f))/\K.lookup f=some ⟨oc,od,.func (W.fnOf n n (Bw st) (BY st) (AL st) .none kV dc pm an cd ct),sl⟩/\W.codeIn K cd n=true/\W.keepIn K (.ref f)=true
structure FD(K:W.Frag)(mg:Str->Option Value)(n:Str)(st:Stmt)(ps:List Str)(f:Addr) where
 d:FuncData
 F:Fun K n n st f d
 b:Binds K d ps []
 m:mg n=some (.ref f)
theorem DI.fd{h:Heap}{mg:Str->Option Value}{n:Str}{st:Stmt}{f:Addr}{ps:List Str}(i:DI K n st f)(X:K.In h)(G:h.Ns mainGlobals mg)(hb:∀(kV doc pm:Value) (an:Option Addr) (Yy ct:Value) (us:List Value),us.length=ps.length->bindArgs (W.fnOf n n (Bw st) (BY st) (AL st) .none kV doc pm an Yy ct) ⟨us,[]⟩=pure (ps.zip us)):Nonempty (FD K mg n st ps f):=by
 obtain⟨oc,kV,dc,pm,cd,ct,od,an,sl,a,l,c,k⟩:=i;exact⟨⟨_,Da l c k,(Da l c k).binds hb,W.mg_of X G a⟩⟩
noncomputable abbrev DM(K:W.Frag)(C:Addr)(n q:Str)(st:Stmt)(f:Addr):Prop:=∃(oc kV dc pm cd ct:Value) (od an:Option Addr) (sl:Array (Option Value)),W.findIn K (.ref C) n=some (some (.ref f))/\W.isFn K (.ref f)=true/\K.lookup f=some ⟨oc,od,.func (W.fnOf n q (Bw st) (BY st) (AL st) .none kV dc pm an cd ct),sl⟩/\W.codeIn K cd q=true/\W.keepIn K (.ref f)=true
structure FM(K:W.Frag)(C:Addr)(n q:Str)(st:Stmt)(ps:List Str)(f:Addr) where
 d:FuncData
 F:Fun K n q st f d
 b:Binds K d ps []
 m:Meth K C n f
theorem DM.fm{n:Str}{st:Stmt}{f:Addr}{ps:List Str}(i:DM K C n q st f)(hb:∀(kV doc pm:Value) (an:Option Addr) (Yy ct:Value) (us:List Value),us.length=ps.length->bindArgs (W.fnOf n q (Bw st) (BY st) (AL st) .none kV doc pm an Yy ct) ⟨us,[]⟩=pure (ps.zip us)):Nonempty (FM K C n q st ps f):=by
 obtain⟨oc,kV,dc,pm,cd,ct,od,an,sl,a,i,l,c,k⟩:=i;exact⟨⟨_,Da l c k,(Da l c k).binds hb,⟨a,i,k⟩⟩⟩
theorem all_di{n:Str}{st:Stmt}{f:Addr}{oc kV dc pm cd ct:Value}{od an:Option Addr}{sl:Array (Option Value)}(a:W.nsIn K mainGlobals n=some (some (.ref f)))(l:K.lookup f=some ⟨oc,od,.func (W.fnOf n n (Bw st) (BY st) (AL st) .none kV dc pm an cd ct),sl⟩)(c:W.codeIn K cd n=true)(k:W.keepIn K (.ref f)=true):DI K n st f:=⟨_,_,_,_,_,_,_,_,_,a,l,c,k⟩
theorem all_dm{n:Str}{st:Stmt}{f:Addr}{oc kV dc pm cd ct:Value}{od an:Option Addr}{sl:Array (Option Value)}(a:W.findIn K (.ref C) n=some (some (.ref f)))(i:W.isFn K (.ref f)=true)(l:K.lookup f=some ⟨oc,od,.func (W.fnOf n q (Bw st) (BY st) (AL st) .none kV dc pm an cd ct),sl⟩)(c:W.codeIn K cd q=true)(k:W.keepIn K (.ref f)=true):DM K C n q st f:=⟨_,_,_,_,_,_,_,_,_,a,i,l,c,k⟩
theorem all_mk {l:W.OpenLaw} {w:World} {h:Heap} {mg:Str->Option Value} {fa:Addr} (X:K.In h) (G:h.Ns mainGlobals mg) (hfa:mg "law" = some (.ref fa))
 {C_Bearing:Addr}
 {C_Reckoner:Addr}
 {f19:Addr} {oc19 kV19 dc19 pm19 ct19:Value} {od19 an19:Option Addr} {sl19:Array (Option Value)} {g19 p19:Addr} {cvs19:Array Value} {cod19:Option Addr} {csl19:Array (Option Value)}
 {f38:Addr} {oc38 kV38 dc38 pm38 ct38:Value} {od38 an38:Option Addr} {sl38:Array (Option Value)} {g38 p38:Addr} {cvs38:Array Value} {cod38:Option Addr} {csl38:Array (Option Value)}
 {f59:Addr} {oc59 kV59 dc59 pm59 cd59 ct59:Value} {od59 an59:Option Addr} {sl59:Array (Option Value)}
 {t_MOST_TREES:Tok}
 {t_MOST_WITHIN:Tok}
 {f0 f1 f2 f3 f4 f5 f6 f7 f8 f9 f10 f11 f12 f13 f14 f15 f16 f17 f18 f20 f21 f22 f23 f24 f25 f26 f27 f28 f29 f30 f31 f32 f33 f34 f35 f36 f37 f39 f40 f41 f42 f43 f44 f45 f46 f47 f48 f49 f50 f51 f52 f53 f54 f55 f56 f57 f58:Addr}
 (aC_Bearing:W.nsIn K mainGlobals "Bearing" = some (some (.ref C_Bearing)))
 (pg_Bearing:W.plainGet K C_Bearing Str.empty=true)
 (hd_Bearing:W.hasDictIn K C_Bearing=true)
 (po_Bearing:W.plainOver K C_Bearing=true)
 (sa_Bearing:W.findIn K (.ref C_Bearing) "__setattr__" = some (some (.builtin "object.__setattr__")))
 (mk_Bearing:W.makesIn K C_Bearing=true)
 (kc_Bearing:W.keepIn K (.ref C_Bearing)=true)
 (na_yeses_Bearing:W.findIn K (.ref C_Bearing) "yeses" = some none)
 (na_numbers_Bearing:W.findIn K (.ref C_Bearing) "numbers" = some none)
 (na_found_Bearing:W.findIn K (.ref C_Bearing) "found" = some none)
 (aC_Reckoner:W.nsIn K mainGlobals "Reckoner" = some (some (.ref C_Reckoner)))
 (pg_Reckoner:W.plainGet K C_Reckoner Str.empty=true)
 (hd_Reckoner:W.hasDictIn K C_Reckoner=true)
 (po_Reckoner:W.plainOver K C_Reckoner=true)
 (sa_Reckoner:W.findIn K (.ref C_Reckoner) "__setattr__" = some (some (.builtin "object.__setattr__")))
 (mk_Reckoner:W.makesIn K C_Reckoner=true)
 (kc_Reckoner:W.keepIn K (.ref C_Reckoner)=true)
 (na_labels_Reckoner:W.findIn K (.ref C_Reckoner) "labels" = some none)
 (na_yeses_Reckoner:W.findIn K (.ref C_Reckoner) "yeses" = some none)
 (na_alike_Reckoner:W.findIn K (.ref C_Reckoner) "alike" = some none)
 (na_known_Reckoner:W.findIn K (.ref C_Reckoner) "known" = some none)
 (i0:DI K "is_whole" HE f0)
 (i1:DI K "is_below" HA f1)
 (i2:DI K "two_to" JT f2)
 (i3:DI K "power_of" Je f3)
 (i4:DI K "is_on" HV f4)
 (i5:DI K "within" Hr f5)
 (i6:DI K "set_holding" Ir f6)
 (i7:DI K "members_of" J4 f7)
 (i8:DM K C_Reckoner "__init__" "Reckoner.__init__" HC f8)
 (i9:DM K C_Reckoner "everything" "Reckoner.everything" Ii f9)
 (i10:DM K C_Reckoner "has_one_label" "Reckoner.has_one_label" Kd f10)
 (i11:DM K C_Reckoner "label_of" "Reckoner.label_of" HU f11)
 (i12:DM K C_Reckoner "left_of" "Reckoner.left_of" KN f12)
 (i13:DM K C_Reckoner "fewest_among" "Reckoner.fewest_among" IQ f13)
 (i14:DM K C_Reckoner "fewest_reckoned" "Reckoner.fewest_reckoned" Ia f14)
 (i15:DM K C_Reckoner "parting" "Reckoner.parting" Jl f15)
 (i16:DM K C_Reckoner "worst_behind" "Reckoner.worst_behind" IJ f16)
 (i17:DM K C_Reckoner "harder_left" "Reckoner.harder_left" Kc f17)
 (i18:DM K C_Reckoner "harder_lefts" "Reckoner.harder_lefts" KC f18)
 (a19:W.findIn K (.ref C_Reckoner) "first_question" = some (some (.ref f19)))
 (i19:W.isFn K (.ref f19)=true)
 (l19:K.lookup f19=some ⟨oc19,od19,.func (W.fnOf "first_question" "Reckoner.first_question" (Bw Cs) (BY Cs) (AL Cs) .none kV19 dc19 pm19 an19 (.ref g19) ct19),sl19⟩)
 (c19:W.codeIn K (.ref g19) "Reckoner.first_question" = true)
 (k19:W.keepIn K (.ref f19)=true)
 (lc19:K.lookup g19=some ⟨.type "code",cod19,.fields cvs19,csl19⟩)
 (pv19:cvs19[11]? = some (.ref p19))
 (gh19:W.codeHdIn K g19 p19=true)
 (gt19:h.get? p19=some (W.tabObj #[]))
 (i20:DI K "members_where" HN f20)
 (i21:DI K "is_pair" Hs f21)
 (i22:DI K "left_by" JA f22)
 (i23:DI K "refuse_without_end" G6 f23)
 (i24:DI K "first_unparted" KA f24)
 (i25:DI K "fewest_of" KQ f25)
 (i26:DI K "fewest" HY f26)
 (i27:DI K "best_tree" HD f27)
 (i28:DI K "hard_paper" G4 f28)
 (i29:DI K "lets_hard" IY f29)
 (i30:DI K "is_entry" KS f30)
 (i31:DI K "are_things" JY f31)
 (i32:DM K C_Bearing "__init__" "Bearing.__init__" KG f32)
 (i33:DM K C_Bearing "bears_all" "Bearing.bears_all" KH f33)
 (i34:DM K C_Bearing "bears" "Bearing.bears" Ho f34)
 (i35:DM K C_Bearing "has_within" "Bearing.has_within" IT f35)
 (i36:DM K C_Bearing "greatest_within" "Bearing.greatest_within" Ib f36)
 (i37:DI K "keeps_to" HM f37)
 (a38:W.nsIn K mainGlobals "is_tree" = some (some (.ref f38)))
 (l38:K.lookup f38=some ⟨oc38,od38,.func (W.fnOf "is_tree" "is_tree" (Bw C8) (BY C8) (AL C8) .none kV38 dc38 pm38 an38 (.ref g38) ct38),sl38⟩)
 (c38:W.codeIn K (.ref g38) "is_tree" = true)
 (k38:W.keepIn K (.ref f38)=true)
 (lc38:K.lookup g38=some ⟨.type "code",cod38,.fields cvs38,csl38⟩)
 (pv38:cvs38[11]? = some (.ref p38))
 (gh38:W.codeHdIn K g38 p38=true)
 (gt38:h.get? p38=some (W.tabObj #[]))
 (i39:DI K "has_tree_form" IK f39)
 (i40:DI K "trees_within" Jt f40)
 (i41:DI K "is_too_large_tree" Jd f41)
 (i42:DI K "asked" KY f42)
 (i43:DI K "lets_tree" JP f43)
 (i44:DI K "comes_home" Ik f44)
 (i45:DI K "_law_feed" JF f45)
 (i46:DI K "_law_draw" Gz f46)
 (i47:DI K "_law_table" IP f47)
 (i48:DI K "_law_table_game" JS f48)
 (i49:DI K "_law_class" IZ f49)
 (i50:DI K "_law_class_game" J5 f50)
 (i51:DI K "_law_picks" Ix f51)
 (i52:DI K "_law_any_game" IW f52)
 (i53:DI K "_law_game" HH f53)
 (i54:DI K "_law_pair" JX f54)
 (i55:DI K "_law_ending" Jo f55)
 (i56:DI K "_law_sides" Gw f56)
 (i57:DI K "_law_tree" Jp f57)
 (i58:DI K "_law_shown" Is f58)
 (a59:W.nsIn K mainGlobals "law" = some (some (.ref f59)))
 (l59:K.lookup f59=some ⟨oc59,od59,.func (W.fnOf "law" "law" (Bw DB) (BY DB) (AL DB) .none kV59 dc59 pm59 an59 cd59 ct59),sl59⟩)
 (c59:W.codeIn K cd59 "law" = true)
 (k59:W.keepIn K (.ref f59)=true)
 (z_all:W.nsIn K mainGlobals "all" = some none)
 (z_any:W.nsIn K mainGlobals "any" = some none)
 (z_bool:W.nsIn K mainGlobals "bool" = some none)
 (z_enumerate:W.nsIn K mainGlobals "enumerate" = some none)
 (z_int:W.nsIn K mainGlobals "int" = some none)
 (z_isinstance:W.nsIn K mainGlobals "isinstance" = some none)
 (z_len:W.nsIn K mainGlobals "len" = some none)
 (z_list:W.nsIn K mainGlobals "list" = some none)
 (z_max:W.nsIn K mainGlobals "max" = some none)
 (z_min:W.nsIn K mainGlobals "min" = some none)
 (z_range:W.nsIn K mainGlobals "range" = some none)
 (z_set:W.nsIn K mainGlobals "set" = some none)
 (z_sorted:W.nsIn K mainGlobals "sorted" = some none)
 (z_sum:W.nsIn K mainGlobals "sum" = some none)
 (z_tuple:W.nsIn K mainGlobals "tuple" = some none)
 (c_MOST_TREES:W.nsIn K mainGlobals "MOST_TREES" = some (some (.int 2000 t_MOST_TREES)))
 (c_MOST_WITHIN:W.nsIn K mainGlobals "MOST_WITHIN" = some (some (.int 16 t_MOST_WITHIN)))
 (hnt:W.noTabs K=true)
 (np_0:p19≠p38) :
 ∃(fd:FuncData) (ts:List (Addr × Addr)),W.TabsAt ts h/\W.noTabs K=true/\(∀(s:Shared) (v:Value),BindsTo s fd ⟨[v],[]⟩ [("_law_script",v)])/\∀base:Heap,K.In base->base.Ns mainGlobals mg->BMn mg base->FnOk l.prog w K mg base CX0 97 fa fd ["_law_script"] (Gg K (ts.map (·.2))):=by
 have e:=hfa.symm.trans (W.mg_of X G a59);cases e;obtain⟨Q0⟩:=i0.fd X G (ps:=["thing"]) fun _ _ _ _ _ _=>L2.on1 (fun _=>rfl)
 obtain⟨Q1⟩:=i1.fd X G (ps:=["bound","thing"]) fun _ _ _ _ _ _=>L2.on2 (fun _ _=>rfl)
 obtain⟨Q2⟩:=i2.fd X G (ps:=["n"]) fun _ _ _ _ _ _=>L2.on1 (fun _=>rfl)
 obtain⟨Q3⟩:=i3.fd X G (ps:=["base","times"]) fun _ _ _ _ _ _=>L2.on2 (fun _ _=>rfl)
 obtain⟨Q4⟩:=i4.fd X G (ps:=["place","switch"]) fun _ _ _ _ _ _=>L2.on2 (fun _ _=>rfl)
 obtain⟨Q5⟩:=i5.fd X G (ps:=["subset","other"]) fun _ _ _ _ _ _=>L2.on2 (fun _ _=>rfl)
 obtain⟨Q6⟩:=i6.fd X G (ps:=["members"]) fun _ _ _ _ _ _=>L2.on1 (fun _=>rfl)
 obtain⟨Q7⟩:=i7.fd X G (ps:=["subset"]) fun _ _ _ _ _ _=>L2.on1 (fun _=>rfl)
 obtain⟨Q8⟩:=i8.fm (ps:=["self","game"]) fun _ _ _ _ _ _=>L2.on2 (fun _ _=>rfl)
 obtain⟨Q9⟩:=i9.fm (ps:=["self"]) fun _ _ _ _ _ _=>L2.on1 (fun _=>rfl)
 obtain⟨Q10⟩:=i10.fm (ps:=["self","things"]) fun _ _ _ _ _ _=>L2.on2 (fun _ _=>rfl)
 obtain⟨Q11⟩:=i11.fm (ps:=["self","things"]) fun _ _ _ _ _ _=>L2.on2 (fun _ _=>rfl)
 obtain⟨Q12⟩:=i12.fm (ps:=["self","things","question","answer"]) fun _ _ _ _ _ _=>L2.on4 (fun _ _ _ _=>rfl)
 obtain⟨Q13⟩:=i13.fm (ps:=["self","things"]) fun _ _ _ _ _ _=>L2.on2 (fun _ _=>rfl)
 obtain⟨Q14⟩:=i14.fm (ps:=["self","things"]) fun _ _ _ _ _ _=>L2.on2 (fun _ _=>rfl)
 obtain⟨Q15⟩:=i15.fm (ps:=["self","things"]) fun _ _ _ _ _ _=>L2.on2 (fun _ _=>rfl)
 obtain⟨Q16⟩:=i16.fm (ps:=["self","things","question"]) fun _ _ _ _ _ _=>L2.on3 (fun _ _ _=>rfl)
 obtain⟨Q17⟩:=i17.fm (ps:=["self","things","question"]) fun _ _ _ _ _ _=>L2.on3 (fun _ _ _=>rfl)
 obtain⟨Q18⟩:=i18.fm (ps:=["self","things"]) fun _ _ _ _ _ _=>L2.on2 (fun _ _=>rfl)
 have F19:=Da (st:=Cs) l19 c19 k19;have b19:=F19.binds (ps:=["self","things"]) fun _ _ _ _ _ _=>L2.on2 (fun _ _=>rfl)
 obtain⟨Q20⟩:=i20.fd X G (ps:=["wanted","values"]) fun _ _ _ _ _ _=>L2.on2 (fun _ _=>rfl)
 obtain⟨Q21⟩:=i21.fd X G (ps:=["thing"]) fun _ _ _ _ _ _=>L2.on1 (fun _=>rfl)
 obtain⟨Q22⟩:=i22.fd X G (ps:=["game","things","question","answer"]) fun _ _ _ _ _ _=>L2.on4 (fun _ _ _ _=>rfl)
 obtain⟨Q23⟩:=i23.fd X G (ps:=["game"]) fun _ _ _ _ _ _=>L2.on1 (fun _=>rfl)
 obtain⟨Q24⟩:=i24.fd X G (ps:=["game"]) fun _ _ _ _ _ _=>L2.on1 (fun _=>rfl)
 obtain⟨Q25⟩:=i25.fd X G (ps:=["game","things"]) fun _ _ _ _ _ _=>L2.on2 (fun _ _=>rfl)
 obtain⟨Q26⟩:=i26.fd X G (ps:=["game"]) fun _ _ _ _ _ _=>L2.on1 (fun _=>rfl)
 obtain⟨Q27⟩:=i27.fd X G (ps:=["reckoner","things"]) fun _ _ _ _ _ _=>L2.on2 (fun _ _=>rfl)
 obtain⟨Q28⟩:=i28.fd X G (ps:=["reckoner","things"]) fun _ _ _ _ _ _=>L2.on2 (fun _ _=>rfl)
 obtain⟨Q29⟩:=i29.fd X G (ps:=["game","d","thing"]) fun _ _ _ _ _ _=>L2.on3 (fun _ _ _=>rfl)
 obtain⟨Q30⟩:=i30.fd X G (ps:=["game","thing"]) fun _ _ _ _ _ _=>L2.on2 (fun _ _=>rfl)
 obtain⟨Q31⟩:=i31.fd X G (ps:=["many","thing"]) fun _ _ _ _ _ _=>L2.on2 (fun _ _=>rfl)
 obtain⟨Q32⟩:=i32.fm (ps:=["self","game","entries"]) fun _ _ _ _ _ _=>L2.on3 (fun _ _ _=>rfl)
 obtain⟨Q33⟩:=i33.fm (ps:=["self"]) fun _ _ _ _ _ _=>L2.on1 (fun _=>rfl)
 obtain⟨Q34⟩:=i34.fm (ps:=["self","things","number","yes"]) fun _ _ _ _ _ _=>L2.on4 (fun _ _ _ _=>rfl)
 obtain⟨Q35⟩:=i35.fm (ps:=["self","things","number"]) fun _ _ _ _ _ _=>L2.on3 (fun _ _ _=>rfl)
 obtain⟨Q36⟩:=i36.fm (ps:=["self","things"]) fun _ _ _ _ _ _=>L2.on2 (fun _ _=>rfl)
 obtain⟨Q37⟩:=i37.fd X G (ps:=["has_form","parts_within","is_beyond","thing"]) fun _ _ _ _ _ _=>L2.on4 (fun _ _ _ _=>rfl)
 have F38:=Da (st:=C8) l38 c38 k38;have b38:=F38.binds (ps:=["game","thing"]) fun _ _ _ _ _ _=>L2.on2 (fun _ _=>rfl)
 obtain⟨Q39⟩:=i39.fd X G (ps:=["questions","thing"]) fun _ _ _ _ _ _=>L2.on2 (fun _ _=>rfl)
 obtain⟨Q40⟩:=i40.fd X G (ps:=["tree"]) fun _ _ _ _ _ _=>L2.on1 (fun _=>rfl)
 obtain⟨Q41⟩:=i41.fd X G (ps:=["many","depth"]) fun _ _ _ _ _ _=>L2.on2 (fun _ _=>rfl)
 obtain⟨Q42⟩:=i42.fd X G (ps:=["game","tree","thing"]) fun _ _ _ _ _ _=>L2.on3 (fun _ _ _=>rfl)
 obtain⟨Q43⟩:=i43.fd X G (ps:=["game","d","thing"]) fun _ _ _ _ _ _=>L2.on3 (fun _ _ _=>rfl)
 obtain⟨Q44⟩:=i44.fd X G (ps:=["game","d","tree","hidden"]) fun _ _ _ _ _ _=>L2.on4 (fun _ _ _ _=>rfl)
 obtain⟨Q45⟩:=i45.fd X G (ps:=["_law_script"]) fun _ _ _ _ _ _=>L2.on1 (fun _=>rfl)
 obtain⟨Q46⟩:=i46.fd X G (ps:=["_law_feed_here","_law_many"]) fun _ _ _ _ _ _=>L2.on2 (fun _ _=>rfl)
 obtain⟨Q47⟩:=i47.fd X G (ps:=["_law_feed_here","_law_n"]) fun _ _ _ _ _ _=>L2.on2 (fun _ _=>rfl)
 obtain⟨Q48⟩:=i48.fd X G (ps:=["_law_table_here"]) fun _ _ _ _ _ _=>L2.on1 (fun _=>rfl)
 obtain⟨Q49⟩:=i49.fd X G (ps:=["_law_feed_here","_law_n","_law_many"]) fun _ _ _ _ _ _=>L2.on3 (fun _ _ _=>rfl)
 obtain⟨Q50⟩:=i50.fd X G (ps:=["_law_tables"]) fun _ _ _ _ _ _=>L2.on1 (fun _=>rfl)
 obtain⟨Q51⟩:=i51.fd X G (ps:=["_law_feed_here"]) fun _ _ _ _ _ _=>L2.on1 (fun _=>rfl)
 obtain⟨Q52⟩:=i52.fd X G (ps:=["_law_feed_here"]) fun _ _ _ _ _ _=>L2.on1 (fun _=>rfl)
 obtain⟨Q53⟩:=i53.fd X G (ps:=["_law_feed_here"]) fun _ _ _ _ _ _=>L2.on1 (fun _=>rfl)
 obtain⟨Q54⟩:=i54.fd X G (ps:=["_law_game_here"]) fun _ _ _ _ _ _=>L2.on1 (fun _=>rfl)
 obtain⟨Q55⟩:=i55.fd X G (ps:=["_law_game_here"]) fun _ _ _ _ _ _=>L2.on1 (fun _=>rfl)
 obtain⟨Q56⟩:=i56.fd X G (ps:=["_law_game_here","_law_things","_law_question"]) fun _ _ _ _ _ _=>L2.on3 (fun _ _ _=>rfl)
 obtain⟨Q57⟩:=i57.fd X G (ps:=["_law_feed_here","_law_game_here","_law_things","_law_deep"]) fun _ _ _ _ _ _=>L2.on4 (fun _ _ _ _=>rfl)
 obtain⟨Q58⟩:=i58.fd X G (ps:=["_law_game_here","_law_d","_law_tree_here","_law_paper"]) fun _ _ _ _ _ _=>L2.on4 (fun _ _ _ _=>rfl)
 have F59:=Da (st:=DB) l59 c59 k59;have b59:=F59.binds (ps:=["_law_script"]) fun _ _ _ _ _ _=>L2.on1 (fun _=>rfl)
 let T:Txt K mg:={ C_Bearing:=C_Bearing,mC_Bearing:=W.mg_of X G aC_Bearing,cl_Bearing:=⟨pg_Bearing,hd_Bearing,po_Bearing,sa_Bearing⟩,na_Bearing_yeses:=na_yeses_Bearing,na_Bearing_numbers:=na_numbers_Bearing,na_Bearing_found:=na_found_Bearing,C_Reckoner:=C_Reckoner,mC_Reckoner:=W.mg_of X G aC_Reckoner,cl_Reckoner:=⟨pg_Reckoner,hd_Reckoner,po_Reckoner,sa_Reckoner⟩,na_Reckoner_labels:=na_labels_Reckoner,na_Reckoner_yeses:=na_yeses_Reckoner,na_Reckoner_alike:=na_alike_Reckoner,na_Reckoner_known:=na_known_Reckoner,z60:=⟨f0,Q0.d,Q0.F,Q0.b,Q0.m⟩,z61:=⟨f1,Q1.d,Q1.F,Q1.b,Q1.m⟩,z67:=⟨f2,Q2.d,Q2.F,Q2.b,Q2.m⟩,z62:=⟨f3,Q3.d,Q3.F,Q3.b,Q3.m⟩,z70:=⟨f4,Q4.d,Q4.F,Q4.b,Q4.m⟩,z68:=⟨f5,Q5.d,Q5.F,Q5.b,Q5.m⟩,z40:=⟨f6,Q6.d,Q6.F,Q6.b,Q6.m⟩,z44:=⟨f7,Q7.d,Q7.F,Q7.b,Q7.m⟩,z29:=⟨f8,Q8.d,Q8.F,Q8.b,Q8.m⟩,mk_Reckoner:=⟨mk_Reckoner,Q8.m.at_,Q8.m.fn,kc_Reckoner⟩,z21:=⟨f9,Q9.d,Q9.F,Q9.b,Q9.m⟩,z16:=⟨f10,Q10.d,Q10.F,Q10.b,Q10.m⟩,z24:=⟨f11,Q11.d,Q11.F,Q11.b,Q11.m⟩,z26:=⟨f12,Q12.d,Q12.F,Q12.b,Q12.m⟩,z17:=⟨f13,Q13.d,Q13.F,Q13.b,Q13.m⟩,z13:=⟨f14,Q14.d,Q14.F,Q14.b,Q14.m⟩,z25:=⟨f15,Q15.d,Q15.F,Q15.b,Q15.m⟩,z18:=⟨f16,Q16.d,Q16.F,Q16.b,Q16.m⟩,z20:=⟨f17,Q17.d,Q17.F,Q17.b,Q17.m⟩,z19:=⟨f18,Q18.d,Q18.F,Q18.b,Q18.m⟩,g_z15:=g19,p_z15:=p19,gc_z15:=rfl,gh_z15:=gh19,z15:=⟨f19,_,F19,b19,⟨a19,i19,k19⟩⟩,z36:=⟨f20,Q20.d,Q20.F,Q20.b,Q20.m⟩,z65:=⟨f21,Q21.d,Q21.F,Q21.b,Q21.m⟩,z66:=⟨f22,Q22.d,Q22.F,Q22.b,Q22.m⟩,z27:=⟨f23,Q23.d,Q23.F,Q23.b,Q23.m⟩,z33:=⟨f24,Q24.d,Q24.F,Q24.b,Q24.m⟩,z58:=⟨f25,Q25.d,Q25.F,Q25.b,Q25.m⟩,z69:=⟨f26,Q26.d,Q26.F,Q26.b,Q26.m⟩,z51:=⟨f27,Q27.d,Q27.F,Q27.b,Q27.m⟩,z46:=⟨f28,Q28.d,Q28.F,Q28.b,Q28.m⟩,z57:=⟨f29,Q29.d,Q29.F,Q29.b,Q29.m⟩,z59:=⟨f30,Q30.d,Q30.F,Q30.b,Q30.m⟩,z45:=⟨f31,Q31.d,Q31.F,Q31.b,Q31.m⟩,z34:=⟨f32,Q32.d,Q32.F,Q32.b,Q32.m⟩,mk_Bearing:=⟨mk_Bearing,Q32.m.at_,Q32.m.fn,kc_Bearing⟩,z23:=⟨f33,Q33.d,Q33.F,Q33.b,Q33.m⟩,z32:=⟨f34,Q34.d,Q34.F,Q34.b,Q34.m⟩,z22:=⟨f35,Q35.d,Q35.F,Q35.b,Q35.m⟩,z14:=⟨f36,Q36.d,Q36.F,Q36.b,Q36.m⟩,z63:=⟨f37,Q37.d,Q37.F,Q37.b,Q37.m⟩,g_z64:=g38,p_z64:=p38,gc_z64:=rfl,gh_z64:=gh38,z64:=⟨f38,_,F38,b38,W.mg_of X G a38⟩,z37:=⟨f39,Q39.d,Q39.F,Q39.b,Q39.m⟩,z38:=⟨f40,Q40.d,Q40.F,Q40.b,Q40.m⟩,z28:=⟨f41,Q41.d,Q41.F,Q41.b,Q41.m⟩,z71:=⟨f42,Q42.d,Q42.F,Q42.b,Q42.m⟩,z56:=⟨f43,Q43.d,Q43.F,Q43.b,Q43.m⟩,z47:=⟨f44,Q44.d,Q44.F,Q44.b,Q44.m⟩,z55:=⟨f45,Q45.d,Q45.F,Q45.b,Q45.m⟩,z50:=⟨f46,Q46.d,Q46.F,Q46.b,Q46.m⟩,z41:=⟨f47,Q47.d,Q47.F,Q47.b,Q47.m⟩,z30:=⟨f48,Q48.d,Q48.F,Q48.b,Q48.m⟩,z43:=⟨f49,Q49.d,Q49.F,Q49.b,Q49.m⟩,z31:=⟨f50,Q50.d,Q50.F,Q50.b,Q50.m⟩,z42:=⟨f51,Q51.d,Q51.F,Q51.b,Q51.m⟩,z35:=⟨f52,Q52.d,Q52.F,Q52.b,Q52.m⟩,z54:=⟨f53,Q53.d,Q53.F,Q53.b,Q53.m⟩,z52:=⟨f54,Q54.d,Q54.F,Q54.b,Q54.m⟩,z39:=⟨f55,Q55.d,Q55.F,Q55.b,Q55.m⟩,z48:=⟨f56,Q56.d,Q56.F,Q56.b,Q56.m⟩,z53:=⟨f57,Q57.d,Q57.F,Q57.b,Q57.m⟩,z49:=⟨f58,Q58.d,Q58.F,Q58.b,Q58.m⟩,f_law:=fa,d_law:=_,F_law:=F59,b_law:=b59,m_law:=W.mg_of X G a59,z_all:=W.mg_none_of X G z_all,z_any:=W.mg_none_of X G z_any,z_bool:=W.mg_none_of X G z_bool,z_enumerate:=W.mg_none_of X G z_enumerate,z_int:=W.mg_none_of X G z_int,z_isinstance:=W.mg_none_of X G z_isinstance,z_len:=W.mg_none_of X G z_len,z_list:=W.mg_none_of X G z_list,z_max:=W.mg_none_of X G z_max,z_min:=W.mg_none_of X G z_min,z_range:=W.mg_none_of X G z_range,z_set:=W.mg_none_of X G z_set,z_sorted:=W.mg_none_of X G z_sorted,z_sum:=W.mg_none_of X G z_sum,z_tuple:=W.mg_none_of X G z_tuple,t_MOST_TREES:=t_MOST_TREES,c_MOST_TREES:=W.mg_of X G c_MOST_TREES,t_MOST_WITHIN:=t_MOST_WITHIN,c_MOST_WITHIN:=W.mg_of X G c_MOST_WITHIN,np_0:=np_0 };exact⟨W.fnOf "law" "law" (Bw DB) (BY DB) (AL DB) .none kV59 dc59 pm59 an59 cd59 ct59,[(g19,p19),(g38,p38)],List.forall_mem_cons.mpr ⟨⟨W.codeHd_of_K X gh19,gt19⟩,List.forall_mem_cons.mpr ⟨⟨W.codeHd_of_K X gh38,gt38⟩,fun _ z=>nomatch z⟩⟩,hnt,fun s v=>.of_eq rfl,fun base _ _ B=>Ue T B⟩
theorem walk {l:W.OpenLaw} {q:Program} {loose:List Str} {XP:(Str->Option Value)->Heap->Prop} {YP:World->Heap->Prop} {d:DefRec} {K:Params->W.Frag} (hn:l.most=some 63) (hdf:d.params.defaults=[])
 (hY:∀(w:World) (h:Heap),YP w h->(K w.params).In h)
 (F:∀(w:World) (mg:Str->Option Value) (fa:Addr) (h:Heap),YP w h->(K w.params).In h->h.Ns mainGlobals mg->mg d.name=some (.ref fa) ->
   ∃(fd:FuncData) (ts:List (Addr × Addr)),W.TabsAt ts h/\W.noTabs (K w.params)=true/\(∀(s:Shared) (u:Value),BindsTo s fd ⟨[u],[]⟩ [("_law_script",u)])/\∀base:Heap,(K w.params).In base->base.Ns mainGlobals mg->BMn mg base->FnOk l.prog w (K w.params) mg base CX0 97 fa fd ["_law_script"] (Gg (K w.params) (ts.map (·.2)))) :
 W.WalkO q loose XP YP l.row.toRowW d [] (fun f vs=>PySem.call f vs) :=
 L2.walk_ofT (n:=63) (k:=97) (x:="_law_script") (sp:=fun w ts=>Gg (K w.params) ts) hn (by decide) hdf ⟨rfl,by decide,by decide,rfl⟩ hY F (fun _ _ a ns ts hl hO hS=>⟨a,ns,rfl,hS,hl,hO,fun _=>rfl⟩)
end Mine
structure PySem.W.Fast:Prop where(tw6172713898290634157 tw3351066005302555635 tw2403090113205168747 tw18247814019144851826 tw359101404202522180 tw4282674018648068622 tw6819922311198051239 tw15163747667257968492 tw9291074503833066146 tw743570535519296619 tw3805569350575880297 tw2705263208975266420 tw6887771858651123120 tw12948239316201037203 tw16826932456156225630 tw16984606401045890288 tw1423557571242158681 tw12532744400840520211 tw6772404343470776334 tw545435664840594085 tw3465379481231058932 tw828548404738904829 tw1708235593185489000 tw11115939740138052899 tw12751341710031712101 tw2681889354479134822 tw13088822190362754542 tw13076763787161933534 tw16495214910646112988 tw13615396122331541679 tw3037751777882741043 tw11698258745694858967 tw9598902219790695938 tw6821013931458846435 tw639428553168598576 tw16785680832989418822 tw9740640323795307330 tw9407969046252898124 tw1764673946613010225 tw15853128522906138863 tw977924178663198928 tw17549549255996544526 tw6286569010096695955 tw18193228799752744065 tw3602347189266899323 tw2585457812514718199 tw9574460279177667853 tw5848337954388660021 tw14115993447120464499 tw5469304336342113374 tw9018941882454481830 tw12785581245626026502 tw5612898162383673694 tw2092298862938531568 tw16867126105826111588 tw6786407755894513941 tw2027304993511924675 tw11212299664875479631 tw7655733524978632319 tw9682162238176774448 tw1439199563931561742 tw69294478458194539 tw8574220899843291984 tw6180077382361373112 tw7890485342307846035 tw3803195010804604490 tw4043963998033703038 tw13188522668258879954 tw2926975545897709735 tw7110174332312573480 tw13336451276426084927 tw16718736390680507191 tw13899678241151511825 tw11536544984314721844 tw2571523144487478325 tw14703741066595405377 tw13295929296413719542 tw7657872657614752960 tw4071496594686133267 tw2524335093534872176 tw12117664365804534636 tw16618699318114798238 tw3400379826760383463 tw8819039154030981926 tw12744884303650008128 tw14194135589711068294 tw1874181018460891708 tw14326026897125826185 tw14587307841442813329 tw5303450441191097915 tw2641148562130216232 tw18283002649627377235 tw8617018847596779555 tw9410408571621924554 tw8948216920709244 tw18013492944081837734 tw17246992687146737133 tw4498701788110567733 tw10147111069555722648 tw7852261977487062393 tw10775390144871576259 tw14160439861301390500 tw12924198409217150700 tw16091549239478709365 tw13122566500102521121 tw3846325094649776854 tw1939069185215264261 tw1067293429795006098 tw14699358791013257277 tw9726281712163602538 tw6733347133126846069 tw9457388613485488977 tw15027370580021599088 tw6494607682193136756 tw12765806054572949190 tw9780203070473009263 tw7240189479294514979 tw4807972910348308052 tw506962546428662647 tw8141901023088201993 tw9542441712187321221 tw78478964761539670 tw1333924531672124319 tw2796718474959299916 tw15267155342906735171 tw12241741896258269322 tw9161376055634296590 tw16873510813103513211 tw274298906420913693 tw8855070121934671070 tw16681348873561273429 tw15825546094176494014 tw12204488879787907420 tw17859947895712604693 tw6577338218552030021 tw3072209423738639495 tw9539078063488348705:True)
open PySem PySem.W PyProof.Rows
local macro_rules | `(tactic| walk_at "k")=>`(tactic| (refine' Mine.all_di ?a ?b ?c ?d;(case a=>k_is);(case b=>k_is);(case c=>k_is);(case d=>k_is)))
local macro_rules | `(tactic| walk_at "l")=>`(tactic| (refine' Mine.all_dm ?a ?e ?b ?c ?d;(case a=>k_is);(case e=>k_is);(case b=>k_is);(case c=>k_is);(case d=>k_is)))
set_option maxRecDepth 100000 in
set_option maxHeartbeats 0 in
theorem PySem.Challenge.cw_flips_k47_whole_fewest_shown_holds : PySem.Challenge.rw_flips_k47_whole_fewest_shown.Holds := by
 w_on;o_law;k_head;(case hw=>w_witness2)
 k_fill
 refine Mine.walk (l:=PySem.Challenge.rw_flips_k47_whole_fewest_shown) rfl rfl (fun w h Y=>PySem.W.km_in_of Y) ?F
 case F =>
  intro w mg fa h Y KX G hmg
  refine' Mine.all_mk KX G hmg ?aC_Bearing ?pg_Bearing ?hd_Bearing ?po_Bearing ?sa_Bearing ?mk_Bearing ?kc_Bearing ?na_yeses_Bearing ?na_numbers_Bearing ?na_found_Bearing ?aC_Reckoner ?pg_Reckoner ?hd_Reckoner ?po_Reckoner ?sa_Reckoner ?mk_Reckoner ?kc_Reckoner ?na_labels_Reckoner ?na_yeses_Reckoner ?na_alike_Reckoner ?na_known_Reckoner ?i0 ?i1 ?i2 ?i3 ?i4 ?i5 ?i6 ?i7 ?i8 ?i9 ?i10 ?i11 ?i12 ?i13 ?i14 ?i15 ?i16 ?i17 ?i18 ?a19 ?i19 ?l19 ?c19 ?k19 ?lc19 ?pv19 ?gh19 ?gt19 ?i20 ?i21 ?i22 ?i23 ?i24 ?i25 ?i26 ?i27 ?i28 ?i29 ?i30 ?i31 ?i32 ?i33 ?i34 ?i35 ?i36 ?i37 ?a38 ?l38 ?c38 ?k38 ?lc38 ?pv38 ?gh38 ?gt38 ?i39 ?i40 ?i41 ?i42 ?i43 ?i44 ?i45 ?i46 ?i47 ?i48 ?i49 ?i50 ?i51 ?i52 ?i53 ?i54 ?i55 ?i56 ?i57 ?i58 ?a59 ?l59 ?c59 ?k59 ?z_all ?z_any ?z_bool ?z_enumerate ?z_int ?z_isinstance ?z_len ?z_list ?z_max ?z_min ?z_range ?z_set ?z_sorted ?z_sum ?z_tuple ?c_MOST_TREES ?c_MOST_WITHIN ?hnt ?np_0
  (case aC_Bearing | pg_Bearing | hd_Bearing | po_Bearing | sa_Bearing | mk_Bearing | kc_Bearing | na_yeses_Bearing | na_numbers_Bearing | na_found_Bearing | aC_Reckoner | pg_Reckoner | hd_Reckoner | po_Reckoner | sa_Reckoner | mk_Reckoner | kc_Reckoner | na_labels_Reckoner | na_yeses_Reckoner | na_alike_Reckoner | na_known_Reckoner | a19 | i19 | l19 | c19 | k19 | lc19 | a38 | l38 | c38 | k38 | lc38 | a59 | l59 | c59 | k59 | z_all | z_any | z_bool | z_enumerate | z_int | z_isinstance | z_len | z_list | z_max | z_min | z_range | z_set | z_sorted | z_sum | z_tuple | c_MOST_TREES | c_MOST_WITHIN=>k_is)
  (case i0=>walk_at "k")
  (case i1=>walk_at "k")
  (case i2=>walk_at "k")
  (case i3=>walk_at "k")
  (case i4=>walk_at "k")
  (case i5=>walk_at "k")
  (case i6=>walk_at "k")
  (case i7=>walk_at "k")
  (case i8=>walk_at "l")
  (case i9=>walk_at "l")
  (case i10=>walk_at "l")
  (case i11=>walk_at "l")
  (case i12=>walk_at "l")
  (case i13=>walk_at "l")
  (case i14=>walk_at "l")
  (case i15=>walk_at "l")
  (case i16=>walk_at "l")
  (case i17=>walk_at "l")
  (case i18=>walk_at "l")
  (case pv19=>rfl)
  (case gh19=>kernel_rfl)
  (case gt19=>exact PySem.W.km_tabs_of Y _ (by k_mem))
  (case i20=>walk_at "k")
  (case i21=>walk_at "k")
  (case i22=>walk_at "k")
  (case i23=>walk_at "k")
  (case i24=>walk_at "k")
  (case i25=>walk_at "k")
  (case i26=>walk_at "k")
  (case i27=>walk_at "k")
  (case i28=>walk_at "k")
  (case i29=>walk_at "k")
  (case i30=>walk_at "k")
  (case i31=>walk_at "k")
  (case i32=>walk_at "l")
  (case i33=>walk_at "l")
  (case i34=>walk_at "l")
  (case i35=>walk_at "l")
  (case i36=>walk_at "l")
  (case i37=>walk_at "k")
  (case pv38=>rfl)
  (case gh38=>kernel_rfl)
  (case gt38=>exact PySem.W.km_tabs_of Y _ (by k_mem))
  (case i39=>walk_at "k")
  (case i40=>walk_at "k")
  (case i41=>walk_at "k")
  (case i42=>walk_at "k")
  (case i43=>walk_at "k")
  (case i44=>walk_at "k")
  (case i45=>walk_at "k")
  (case i46=>walk_at "k")
  (case i47=>walk_at "k")
  (case i48=>walk_at "k")
  (case i49=>walk_at "k")
  (case i50=>walk_at "k")
  (case i51=>walk_at "k")
  (case i52=>walk_at "k")
  (case i53=>walk_at "k")
  (case i54=>walk_at "k")
  (case i55=>walk_at "k")
  (case i56=>walk_at "k")
  (case i57=>walk_at "k")
  (case i58=>walk_at "k")
  (case hnt=>kernel_rfl)
  (case np_0=>first | decide | exact fun z=>nomatch z)
