import PyProof.Rows.All
import Wide.All
import OpenK.AllK
import Wide.FinOn
import Lean
import PyProof.EqAt
import PyProof.EqKinds
import PyProof.TupleCall
import PyProof.NeKinds
import PyProof.ReprRoads
import PyProof.ReprBulk
import PyProof.Draws
import PyProof.EnumMake
import KE.BitLaws
import PyProof.ListIndex
import PyProof.AttrMissHeap
import PyProof.DictUpdate
import KE.KDictOf
import PyProof.FactsAll.enumerate_1
import PyProof.FactsAll.tuple_2
import PyProof.ListMulRoad
import PyProof.ListRange
import PyProof.FactsAll.list_3
import PyProof.Rows.SortWalk
import PyProof.Rows.MinMaxN
import KE.KEqDict
import KE.KDictSum
import PyProof.WalksMore
import PyProof.Rows.SetFrom
import PyProof.SetRoads
import PyProof.FactsAll.set_1
import KE.KItemsList
import KE.KSortTup
import KE.KLam
import PyProof.FactsAll.dict_1
import PyProof.StrBlockH
import PyProof.StrLawsTight
import PyProof.StrLawsOccR
import PyProof.StrLawsJoin
import PySem.Challenge.RW_flips_k44_hard_papers_judged
set_option Elab.async false
set_option linter.all false
set_option genInjectivity false
set_option genSizeOf false
set_option maxRecDepth 100000
set_option maxHeartbeats 0
section
open PySem PySem.Spec PyProof.Rows PySem.W
theorem ZA:type_of% @PySem.wpAny_bind:=@PySem.wpAny_bind
theorem ZB:type_of% @PySem.wpAny_pure:=@PySem.wpAny_pure
theorem ZC:type_of% @List.length_map:=@List.length_map
theorem ZD:type_of% @Nat.le_refl:=@Nat.le_refl
theorem ZE:type_of% @List.getElem?_eq_getElem:=@List.getElem?_eq_getElem
theorem ZF:type_of% @List.mem_cons:=@List.mem_cons
theorem ZG:type_of% @List.length_append:=@List.length_append
theorem ZH:type_of% @List.mem_append:=@List.mem_append
theorem ZI:type_of% @PySem.Heap.lt_size:=@PySem.Heap.lt_size
theorem ZJ:type_of% @PySem.Heap.get?_push_of_some:=@PySem.Heap.get?_push_of_some
theorem ZK:type_of% @List.map_append:=@List.map_append
theorem ZL:type_of% @List.size_toArray:=@List.size_toArray
theorem ZM:type_of% @decide_eq_true:=@decide_eq_true
theorem ZN:type_of% @of_decide_eq_true:=@of_decide_eq_true
theorem ZO:type_of% @List.mem_singleton:=@List.mem_singleton
theorem ZP:type_of% @Nat.le_trans:=@Nat.le_trans
theorem ZQ:type_of% @Nat.ne_of_lt:=@Nat.ne_of_lt
theorem ZR:type_of% @PySem.Heap.get?_push_size:=@PySem.Heap.get?_push_size
theorem ZT:type_of% @List.mem_map:=@List.mem_map
theorem ZU:type_of% @Nat.zero_le:=@Nat.zero_le
theorem ZV:type_of% @List.length_take:=@List.length_take
theorem ZW:type_of% @Option.some.inj:=@Option.some.inj
theorem ZX:type_of% @List.getElem?_map:=@List.getElem?_map
theorem ZY:type_of% @Int.toNat_natCast:=@Int.toNat_natCast
theorem ZZ:type_of% @Nat.lt_irrefl:=@Nat.lt_irrefl
theorem Za:type_of% @List.mem_cons_of_mem:=@List.mem_cons_of_mem
theorem Zb:type_of% @List.getElem?_eq_some_iff:=@List.getElem?_eq_some_iff
theorem Zc:type_of% @List.getElem_mem:=@List.getElem_mem
theorem Zd:type_of% @Nat.lt_of_lt_of_le:=@Nat.lt_of_lt_of_le
theorem Ze:type_of% @Bool.and_eq_true:=@Bool.and_eq_true
theorem Zf:type_of% @Array.length_toList:=@Array.length_toList
theorem Zg:type_of% @List.map_cons:=@List.map_cons
theorem Zh:type_of% @List.mem_append_right:=@List.mem_append_right
theorem Zi:type_of% @List.take_add_one:=@List.take_add_one
theorem Zj:type_of% @List.length_cons:=@List.length_cons
theorem Zk:type_of% @PySem.wpAny_newObj_type:=@PySem.wpAny_newObj_type
theorem Zl:type_of% @PySem.wpAny_holding:=@PySem.wpAny_holding
theorem Zm:type_of% @List.take_length:=@List.take_length
theorem Zn:type_of% @List.not_mem_nil:=@List.not_mem_nil
theorem Zo:type_of% @List.mem_cons_self:=@List.mem_cons_self
theorem Zp:type_of% @Nat.le_of_lt:=@Nat.le_of_lt
theorem Zq:type_of% @Bool.false_ne_true:=@Bool.false_ne_true
theorem Zr:type_of% @List.length_drop:=@List.length_drop
theorem Zs:type_of% @Nat.lt_or_ge:=@Nat.lt_or_ge
theorem Zt:type_of% @PySem.wpAny_ite_split:=@PySem.wpAny_ite_split
theorem Zu:type_of% @decide_eq_false:=@decide_eq_false
theorem Zv:type_of% @PySem.wpAny_mono:=@PySem.wpAny_mono
theorem Zw:type_of% @List.mem_of_getElem?:=@List.mem_of_getElem?
theorem Zx:type_of% @PySem.wpAny_call_entry:=@PySem.wpAny_call_entry
theorem Zy:type_of% @List.getD_eq_getElem?_getD:=@List.getD_eq_getElem?_getD
theorem Zz:type_of% @Nat.pow_le_pow_right:=@Nat.pow_le_pow_right
theorem Z0:type_of% @Int.le_trans:=@Int.le_trans
theorem Z1:type_of% @List.mem_append_left:=@List.mem_append_left
theorem Z2:type_of% @PySem.Heap.size_push:=@PySem.Heap.size_push
theorem Z3:type_of% @List.append_assoc:=@List.append_assoc
theorem Z4:type_of% @List.append_nil:=@List.append_nil
theorem Z5:type_of% @List.map_map:=@List.map_map
theorem Z6:type_of% @PySem.wpAny_field:=@PySem.wpAny_field
theorem Z7:type_of% @Nat.lt_trans:=@Nat.lt_trans
theorem Z8:type_of% @List.getElem_of_mem:=@List.getElem_of_mem
theorem Z9:type_of% @List.mem_filter:=@List.mem_filter
theorem ZBA:type_of% @List.getElem?_append_right:=@List.getElem?_append_right
theorem ZBB:type_of% @PySem.Heap.get?_update_other:=@PySem.Heap.get?_update_other
theorem ZBC:type_of% @List.all_eq_true:=@List.all_eq_true
theorem ZBD:type_of% @Bool.eq_iff_iff:=@Bool.eq_iff_iff
theorem ZBE:type_of% @PySem.Heap.SameBut.update:=@PySem.Heap.SameBut.update
theorem ZBF:type_of% @List.any_cons:=@List.any_cons
theorem ZBG:type_of% @List.lookup_cons:=@List.lookup_cons
theorem ZBH:type_of% @List.take_of_length_le:=@List.take_of_length_le
theorem ZBI:type_of% @List.filter_cons:=@List.filter_cons
theorem ZBJ:type_of% @List.mem_range:=@List.mem_range
theorem ZBK:type_of% @PySem.wpAny_truthy_bool:=@PySem.wpAny_truthy_bool
theorem ZBL:type_of% @List.length_set:=@List.length_set
theorem ZBM:type_of% @List.reverse_cons:=@List.reverse_cons
theorem ZBN:type_of% @Nat.not_lt_zero:=@Nat.not_lt_zero
theorem ZBO:type_of% @Int.eq_ofNat_of_zero_le:=@Int.eq_ofNat_of_zero_le
theorem ZBP:type_of% @Int.lt_of_le_of_lt:=@Int.lt_of_le_of_lt
theorem ZBQ:type_of% @PySem.wpAny_setField:=@PySem.wpAny_setField
theorem ZBR:type_of% @List.mem_nil_iff:=@List.mem_nil_iff
theorem ZBS:type_of% @PySem.codeAny_builtin:=@PySem.codeAny_builtin
theorem ZBT:type_of% @PySem.plainId_quiet:=@PySem.plainId_quiet
theorem ZBU:type_of% @Array.getElem?_eq_getElem:=@Array.getElem?_eq_getElem
theorem ZBV:type_of% @List.length_range:=@List.length_range
theorem ZBW:type_of% @List.mem_of_mem_take:=@List.mem_of_mem_take
theorem ZBX:type_of% @List.mem_reverse:=@List.mem_reverse
theorem ZBY:type_of% @Nat.lt_succ_self:=@Nat.lt_succ_self
theorem ZBZ:type_of% @PySem.codeAny_mono:=@PySem.codeAny_mono
theorem ZBa:type_of% @List.nodup_cons:=@List.nodup_cons
theorem ZBb:type_of% @List.getElem?_append_left:=@List.getElem?_append_left
theorem ZBc:type_of% @PySem.Heap.get?_update_self:=@PySem.Heap.get?_update_self
theorem ZBd:type_of% @Array.getElem?_toList:=@Array.getElem?_toList
theorem ZBe:type_of% @Nat.lt_of_le_of_lt:=@Nat.lt_of_le_of_lt
theorem ZBf:type_of% @Option.map_some:=@Option.map_some
theorem ZBg:type_of% @Bool.false_xor:=@Bool.false_xor
theorem ZBh:type_of% @List.take_append_drop:=@List.take_append_drop
theorem ZBi:type_of% @Nat.lt_trichotomy:=@Nat.lt_trichotomy
theorem ZBj:type_of% @List.pairwise_append:=@List.pairwise_append
theorem ZBk:type_of% @PySem.Around.under_plainId:=@PySem.Around.under_plainId
theorem ZBl:type_of% @List.length_eq_zero_iff:=@List.length_eq_zero_iff
theorem ZBm:type_of% @List.filterMap_cons:=@List.filterMap_cons
theorem ZBn:type_of% @Nat.le_of_eq:=@Nat.le_of_eq
theorem ZBo:type_of% @Nat.le_of_succ_le:=@Nat.le_of_succ_le
theorem ZBp:type_of% @List.find?_cons:=@List.find?_cons
theorem ZBq:type_of% @List.range_succ:=@List.range_succ
theorem ZBr:type_of% @List.Pairwise.sublist:=@List.Pairwise.sublist
theorem ZBs:type_of% @List.map_take:=@List.map_take
theorem ZBt:type_of% @Nat.testBit_and:=@Nat.testBit_and
theorem ZBu:type_of% @List.length_filter_le:=@List.length_filter_le
theorem ZBv:type_of% @List.mem_of_mem_drop:=@List.mem_of_mem_drop
theorem ZBw:type_of% @List.length_replicate:=@List.length_replicate
theorem ZBx:type_of% @List.replicate_succ:=@List.replicate_succ
theorem ZBy:type_of% @Bool.true_xor:=@Bool.true_xor
theorem ZBz:type_of% @List.any_eq_true:=@List.any_eq_true
theorem ZB0:type_of% @List.pairwise_map:=@List.pairwise_map
theorem ZB1:type_of% @List.filter_append:=@List.filter_append
theorem ZB2:type_of% @List.take_zero:=@List.take_zero
theorem ZB3:type_of% @List.map_drop:=@List.map_drop
theorem ZB4:type_of% @List.filter_nil:=@List.filter_nil
theorem ZB5:type_of% @Bool.not_eq_true':=@Bool.not_eq_true'
theorem ZB6:type_of% @List.mem_filterMap:=@List.mem_filterMap
theorem ZB7:type_of% @Int.natCast_nonneg:=@Int.natCast_nonneg
theorem ZB8:type_of% @List.getElem_toArray:=@List.getElem_toArray
theorem ZB9:type_of% @List.pairwise_iff_getElem:=@List.pairwise_iff_getElem
theorem ZCA:type_of% @List.pairwise_cons:=@List.pairwise_cons
theorem ZCB:type_of% @List.reverse_append:=@List.reverse_append
theorem ZCC:type_of% @List.reverse_reverse:=@List.reverse_reverse
theorem ZCD:type_of% @List.map_congr_left:=@List.map_congr_left
theorem ZCE:type_of% @Int.toNat_of_nonneg:=@Int.toNat_of_nonneg
end
-- CHANGE: your row's module here,as the last of these rows
namespace L2
open PySem PySem.Spec PyProof.Rows
abbrev Key:=Sum Int Str
def DL:Key->Value->Bool
 | .inl k,v=>Value.isInt k v
 | .inr x,v=>Value.isStrOf x v
def Pb(w:World):Key->Int
 | .inl k=>hashInt k
 | .inr x=>hashStr w x
theorem keyIs_shape:∀{k:Key} {v:Value},DL k v=true->(∃i t,k=Sum.inl i/\v=Value.int i t)\/(∃x t,k=Sum.inr x/\v=Value.str x t)
 | .inl i,v,h=>by
  obtain⟨t,e⟩:=Value.isInt_shape (k:=i) (v:=v) h;exact .inl ⟨i,t,rfl,e⟩
 | .inr x,v,h=>by
  obtain⟨t,e⟩:=Value.isStrOf_shape (x:=x) (v:=v) h;exact .inr ⟨x,t,rfl,e⟩
theorem Nr(i:Int)(t:Tok):DL (.inl i) (.int i t)=true:=by simp[DL,Value.isInt]
theorem Pu(x:Str)(t:Tok):DL (.inr x) (.str x t)=true:=by simp[DL,Value.isStrOf]
theorem QQ(a b:Int):decide ((Sum.inl a:Key)=Sum.inl b)=(a == b):=by
 by_cases e:a=b
 ·subst e;simp
 ·have h:¬(Sum.inl a:Key)=Sum.inl b:=fun q=>e (Sum.inl.inj q)
  rw[Zu h];exact(beq_eq_false_iff_ne.mpr e).symm
theorem NW(a b:Str):decide ((Sum.inr a:Key)=Sum.inr b)=decide (a=b):=by
 by_cases e:a=b
 ·subst e;simp
 ·have h:¬(Sum.inr a:Key)=Sum.inr b:=fun q=>e (Sum.inr.inj q)
  rw[Zu h,Zu e]
theorem NF(a:Int)(b:Str):decide ((Sum.inl a:Key)=Sum.inr b)=false:=Zu (fun q=>nomatch q)
theorem SI(a:Str)(b:Int):decide ((Sum.inr a:Key)=Sum.inl b)=false:=Zu (fun q=>nomatch q)
def BK(prog:Program)(w:World):PySem.KeyKind prog w Key where
 is:=DL
 hash:=Pb w
 inj:=fun v a b ha hb=>by
  rcases keyIs_shape ha with ⟨i,t,rfl,rfl⟩ | ⟨x,t,rfl,rfl⟩
  ·rcases keyIs_shape hb with ⟨j,u,rfl,e⟩ | ⟨y,u,rfl,e⟩
   ·injection e with e1 _;rw[e1]
   ·exact nomatch e
  ·rcases keyIs_shape hb with ⟨j,u,rfl,e⟩ | ⟨y,u,rfl,e⟩
   ·exact nomatch e
   ·injection e with e1 _;rw[e1]
 byValue:=fun k v h=>by
  rcases keyIs_shape h with ⟨i,t,rfl,rfl⟩ | ⟨x,t,rfl,rfl⟩ <;> rfl
 pyHash:=fun hv h=>by
  rcases keyIs_shape hv with ⟨i,t,rfl,rfl⟩ | ⟨x,t,rfl,rfl⟩
  ·exact wpAny_pyHash_int h
  ·exact wpAny_pyHash_str h
 eqBool:=fun hu hv h=>by
  rcases keyIs_shape hu with ⟨i,t,rfl,rfl⟩ | ⟨x,t,rfl,rfl⟩
  ·rcases keyIs_shape hv with ⟨j,u,rfl,rfl⟩ | ⟨y,u,rfl,rfl⟩
   ·rw[QQ]at h;exact wpAny_eqBool_int h
   ·rw[NF]at h;exact SeqAt.EqAt.int_str i t y u _ _ _ _ h
  ·rcases keyIs_shape hv with ⟨j,u,rfl,rfl⟩ | ⟨y,u,rfl,rfl⟩
   ·rw[SI]at h;exact SeqAt.EqAt.str_int x t j u _ _ _ _ h
   ·rw[NW]at h;exact wpAny_eqBool_str h
 «strs»:=fun k x t v h=>by
  rcases keyIs_shape h with ⟨i,u,rfl,e⟩ | ⟨y,u,rfl,e⟩
  ·exact nomatch e
  ·injection e with e1 _
   subst e1;cases v <;> rfl
theorem OS(prog:Program)(w:World)(i:Int)(t:Tok):(BK prog w).is (.inl i) (.int i t)=true:=Nr i t
theorem UM(prog:Program)(w:World)(x:Str)(t:Tok):(BK prog w).is (.inr x) (.str x t)=true:=Pu x t
inductive V where
 | non | bl (b:Bool) | int (i:Int) | str (x:Str) | byt (b:Array UInt8) | flt (b:UInt64) | ref (a:Addr) | ty (n:String)
 deriving DecidableEq
def RelV:V->Value->Prop
 | .non,u=>u=Value.none
 | .bl b,u=>u=Value.bool b
 | .int i,u=>∃t,u=Value.int i t
 | .str x,u=>∃t,u=Value.str x t
 | .byt b,u=>∃t,u=Value.bytes b t
 | .flt b,u=>∃t,u=Value.float b t
 | .ref a,u=>u=Value.ref a
 | .ty n,u=>u=Value.type n
abbrev Vals:List V->List Value->Prop:=Paired RelV
theorem Vals.length{xs:List V}{us:List Value}(r:Vals xs us):xs.length=us.length:=Paired.length r
theorem Vals.get:∀{xs:List V} {us:List Value} {i:Nat} {x:V},Vals xs us->xs[i]? = some x->∃u,us[i]? = some u/\RelV x u
 | _,_,_,_,.nil,e=>by simp at e
 | _,_,0,_,.cons r _,e=>by simp at e;subst e;exact⟨_,rfl,r⟩
 | _,_,i+1,x,.cons _ t,e=>by
  obtain⟨u,h1,h2⟩:=Vals.get (i:=i) (x:=x) t (by simpa using e);exact⟨u,by simpa using h1,h2⟩
theorem Vals.set{x:V}{u:Value}(r:RelV x u):∀{xs:List V} {us:List Value} (i:Nat),Vals xs us->Vals (xs.set i x) (us.set i u)
 | _,_,_,.nil=>.nil
 | _,_,0,.cons _ t=>.cons r t
 | _,_,i+1,.cons q t=>.cons q (Vals.set r i t)
theorem Vals.append:∀{xs ys:List V} {us ws:List Value},Vals xs us->Vals ys ws->Vals (xs++ys) (us++ws)
 | _,_,_,_,.nil,s=>s
 | _,_,_,_,.cons r t,s=>.cons r (Vals.append t s)
theorem Vals.take:∀{xs:List V} {us:List Value} (n:Nat),Vals xs us->Vals (xs.take n) (us.take n)
 | _,_,0,_=>.nil
 | _,_,_+1,.nil=>.nil
 | _,_,n+1,.cons r t=>.cons r (Vals.take n t)
theorem Vals.drop:∀{xs:List V} {us:List Value} (n:Nat),Vals xs us->Vals (xs.drop n) (us.drop n)
 | _,_,0,r=>r
 | _,_,_+1,.nil=>.nil
 | _,_,n+1,.cons _ t=>Vals.drop n t
def RelO:Option V->Option Value->Prop
 | some v,some u=>RelV v u
 | none,none=>True
 | _,_=>False
def KV{κ:Type}:List (κ × V)->List (κ × Value)->Prop:=Paired fun(p:κ × V) (q:κ × Value)=>p.1=q.1/\RelV p.2 q.2
def kV:Key->V
 | .inl i=>.int i
 | .inr x=>.str x
inductive HO where
 | lst (xs:List V)
 | tup (xs:List V)
 | dK (kvs:List (Key × V)) | dT (kvs:List (List Key × V))
 | set (S:Int->Bool) (n:Nat)
 | ins (C dx:Addr) (fs:List (Str × V))
 | own (x:Addr)
 | xd (fs:List (Str × V))
 | met (f x:Addr)
 | rng (lo hi:Int)
 | frz (o:Obj) (u:HO)
 | tbl (ps:Array Value)
 | ext (φ:Heap->Prop)
abbrev Hp:=Addr->Option HO
def upd(H:Hp)(a:Addr)(o:HO):Hp:=fun b=>if b=a then some o else H b
theorem AD{H:Hp}{a:Addr}{o:HO}:upd H a o a=some o:=by unfold upd;rw[if_pos rfl]
theorem AM{H:Hp}{a b:Addr}{o:HO}(h:b≠a):upd H a o b=H b:=by unfold upd;rw[if_neg h]
theorem CZ{H:Hp}{a b:Addr}{o u:HO}(h:H a=some o)(h':H b=some u)(d:o≠u):a≠b:=by
 intro e;subst e;rw[h]at h';exact d (ZW h')
theorem CI{H:Hp}{a b:Addr}{o:HO}(h:H a=some o)(h':H b=none):a≠b:=by
 intro e;subst e;rw[h]at h';cases h'
def IsTupN(h:Heap)(a:Addr)(items:Array Value):Prop:=∃o,h.get? a=some o/\o.cls=.type "tuple" /\ (∃n,o.data=.seq items n)/\o.dict=none
theorem IsTupN.tup{h:Heap}{a:Addr}{items:Array Value}(x:IsTupN h a items):PyProof.Rows.IsTup h a items:=by
 obtain⟨o,e,c,d,_⟩:=x;exact⟨o,e,c,d⟩
theorem IsTupN.new(h:Heap)(items:Array Value):IsTupN (h.push { cls:=.type "tuple",data:=.seq items }) h.objs.size items:=⟨_,ZR _ rfl,rfl,⟨_,rfl⟩,rfl⟩
section
variable (P:Program)(w:World)
def ObjOk(H:Hp)(h:Heap)(a:Addr):HO->Prop
 | .lst xs=>xs.length<=sizeLine/\∃(its:List Value) (n:Nat),Vals xs its/\h.get? a=some { cls:=.type "list",data:=.seq its.toArray n }
 | .tup xs=>xs.length<=sizeLine/\∃its:List Value,Vals xs its/\IsTupN h a its.toArray
 | .dK kvs=>kvs.length<=sizeLine/\(a == sysModules)=false/\∃vs,KV kvs vs/\h.DictOf (BK P w) a vs
 | .dT kvs=>kvs.length<=sizeLine/\(a == sysModules)=false/\∃xs:List (List Key × Addr × Value),
  Paired (fun(p:List Key × V) (q:List Key × Addr × Value)=>p.1=q.1/\H q.2.1=some (.tup (p.1.map kV))/\RelV p.2 q.2.2) kvs xs /\
  ∃o es ep,h.get? a=some o/\o.ExactDict/\o.data=.dict es ep/\es.toList=xs.map (entryOfKey (tupleKind (BK P w)))/\(xs.map (·.1)).Nodup
 | .set S n=>h.SetOf (intKind P w) a S n
 | .ins C dx fs=>H dx=some (.own a)/\fs.length<=1000/\dx≠a/\h.get? a=some (PySem.W.instObj C dx) /\
  ∃mA,h.Ns1 dx mA/\(∀f,RelO (fs.lookup f) (mA f))/\PySem.Within mA (fs.map (·.1))
 | .own _=>∃o,h.get? a=some o
 | .xd fs=>∃mA,h.Ns1 a mA/\∀f,RelO (fs.lookup f) (mA f)
 | .rng lo hi=>∃t u v,h.get? a=some { cls:=.type "range",data:=.fields #[.int lo t,.int hi u,.int 1 v] }
 | .frz o u=>h.get? a=some o/\ObjOk H h a u
 | .tbl ps=>h.get? a=some { cls:=.none,data:=.fields ps }
 | .met f x=>h.get? a=some (PySem.W.methodObj (.ref f) (.ref x))
 | .ext φ=>φ h/\(∃o,h.get? a=some o)/\∀h1 h2:Heap,φ h1->(∀o,h1.get? a=some o->h2.get? a=some o)->φ h2
def HOk(H:Hp)(h:Heap):Prop:=∀a o,H a=some o->ObjOk P w H h a o
end
section
variable {P:Program}{w:World}{H H':Hp}{h h':Heap}{a:Addr}{o:HO}
theorem ObjOk.lt(x:ObjOk P w H h a o):a < h.objs.size:=by
 cases o with
 | lst xs=>obtain⟨_,_,_,_,e⟩:=x;exact ZI e
 | tup xs=>obtain⟨_,_,_,p⟩:=x;exact p.tup.lt
 | dK kvs=>obtain⟨_,_,_,_,o,_,_,e,_⟩:=x;exact ZI e
 | dT kvs=>obtain⟨_,_,_,_,o,_,_,e,_⟩:=x;exact ZI e
 | set S n=>obtain⟨o,_,_,_,e,_⟩:=x;exact ZI e
 | ins C dx fs=>obtain⟨_,_,_,e,_⟩:=x;exact ZI e
 | own y=>obtain⟨_,e⟩:=x;exact ZI e
 | xd fs=>obtain⟨_,⟨_,_,_,e,_⟩,_⟩:=x;exact ZI e
 | rng lo hi=>obtain⟨_,_,_,e⟩:=x;exact ZI e
 | frz ob u=>obtain⟨e,_⟩:=x;exact ZI e
 | tbl ps=>exact ZI (show h.get? a=some _ from x)
 | met f y=>exact ZI (show h.get? a=some _ from x)
 | ext φ=>obtain⟨_,⟨_,e⟩,_⟩:=x;exact ZI e
theorem Paired.mapP{α β:Type}{F G:α->β->Prop}:∀{l₁:List α} {l₂:List β},Paired F l₁ l₂->(∀a b,F a b->G a b)->Paired G l₁ l₂
 | _,_,.nil,_=>.nil
 | _,_,.cons r t,f=>.cons (f _ _ r) (Paired.mapP t f)
theorem ObjOk.stay (x:ObjOk P w H h a o) (k:∀b u,(b=a\/H b=some (.own a))->h.get? b=some u->h'.get? b=some u)
 (ho:∀b,H b=some (.own a)->H' b=some (.own a)) (ht:∀b xs,H b=some (.tup xs)->H' b=some (.tup xs)):ObjOk P w H' h' a o:=by
 induction o with
 | lst xs=>obtain⟨z,its,n,r,e⟩:=x;exact⟨z,its,n,r,k _ _ (.inl rfl) e⟩
 | tup xs=>obtain⟨z,its,r,ob,e,c⟩:=x;exact⟨z,its,r,ob,k _ _ (.inl rfl) e,c⟩
 | dK kvs=>obtain⟨z,y,vs,r,ob,es,ep,e,c⟩:=x;exact⟨z,y,vs,r,ob,es,ep,k _ _ (.inl rfl) e,c⟩
 | dT kvs =>
  obtain⟨z,y,xs,r,ob,es,ep,e,c⟩:=x;exact⟨z,y,xs,Paired.mapP r fun p q z=>⟨z.1,ht _ _ z.2.1,z.2.2⟩,ob,es,ep,k _ _ (.inl rfl) e,c⟩
 | set S n=>obtain⟨ob,es,ep,t,e,c⟩:=x;exact⟨ob,es,ep,t,k _ _ (.inl rfl) e,c⟩
 | ins C dx fs =>
  obtain⟨d,z,ne,e,mA,⟨od,es,ep,e2,c⟩,r⟩:=x;exact⟨ho _ d,z,ne,k _ _ (.inl rfl) e,mA,⟨od,es,ep,k _ _ (.inr d) e2,c⟩,r⟩
 | own y=>obtain⟨ob,e⟩:=x;exact⟨ob,k _ _ (.inl rfl) e⟩
 | xd fs=>obtain⟨mA,⟨od,es,ep,e,c⟩,r⟩:=x;exact⟨mA,⟨od,es,ep,k _ _ (.inl rfl) e,c⟩,r⟩
 | rng lo hi=>obtain⟨t,u,v,e⟩:=x;exact⟨t,u,v,k _ _ (.inl rfl) e⟩
 | frz ob u ih=>obtain⟨e,q⟩:=x;exact⟨k _ _ (.inl rfl) e,ih q⟩
 | tbl ps =>
  have e:h.get? a=some { cls:=.none,data:=.fields ps }:=x;show h'.get? a=some { cls:=.none,data:=.fields ps };exact k a _ (.inl rfl) e
 | met f y =>
  have e:h.get? a=some (PySem.W.methodObj (.ref f) (.ref y)):=x;show h'.get? a=some (PySem.W.methodObj (.ref f) (.ref y));exact k a _ (.inl rfl) e
 | ext φ=>obtain⟨p,⟨o,e⟩,st⟩:=x;exact⟨st _ _ p fun o q=>k _ _ (.inl rfl) q,⟨o,k _ _ (.inl rfl) e⟩,st⟩
theorem HOk.lt(x:HOk P w H h)(e:H a=some o):a < h.objs.size:=(x a o e).lt
theorem HOk.fresh(x:HOk P w H h)(e:h.objs.size<=a):H a=none:=by
 cases q:H a with
 | none=>rfl
 | some u=>exact absurd (Zd (x.lt q) e) (ZZ _)
theorem HOk.kept(x:HOk P w H h)(k:∀b u,h.get? b=some u->h'.get? b=some u):HOk P w H h':=fun a o e =>
 (x a o e).stay (fun b u _ q=>k b u q) (fun _ q=>q) fun _ _ q=>q
theorem HOk.laid(x:HOk P w H h)(k:∀b u,h.get? b=some u->h'.get? b=some u)(hp:h.objs.size<=a)(new:ObjOk P w (upd H a o) h' a o):HOk P w (upd H a o) h':=fun b u e=>by
 have hn:=x.fresh hp
 by_cases hb:b=a
 ·subst hb;rw[AD]at e;cases e;exact new
 ·rw[AM hb]at e;exact(x b u e).stay (fun c v _ q=>k c v q) (fun c q=>by rw[AM (CI q hn)];exact q) fun c xs q=>by rw[AM (CI q hn)];exact q
end
def Rd(H:Hp)(a:Addr)(u:HO):Prop:=H a=some u\/∃o,H a=some (.frz o u)
theorem Rd.of{H:Hp}{a:Addr}{u:HO}(h:H a=some u):Rd H a u:=.inl h
theorem Rd.ok{P:Program}{w:World}{H:Hp}{h:Heap}{a:Addr}{u:HO}(r:Rd H a u)(x:HOk P w H h):ObjOk P w H h a u:=by
 rcases r with r | ⟨o,r⟩
 ·exact x a u r
 ·obtain⟨_,q⟩:=x a _ r;exact q
def Mut:Option HO->Prop
 | some (.lst _)=>True
 | some (.dK _)=>True
 | some (.dT _)=>True
 | some (.set _ _)=>True
 | some (.ins _ _ _)=>True
 | some (.ext _)=>True
 | _=>False
section
variable {P:Program}{w:World}{H:Hp}{h h':Heap}{x e:Addr}{o':HO}
theorem HOk.write (ok:HOk P w H h) (mu:Mut (H x)) (he:e=x\/H e=some (.own x)) (k:∀b u,b≠e->h.get? b=some u->h'.get? b=some u) (heo:∃u,h'.get? e=some u)
 (new:ObjOk P w (upd H x o') h' x o'):HOk P w (upd H x o') h':=fun b u q=>by
 have nown:∀c y,H c=some (.own y)->c≠x:=fun c y r z=>by subst z;rw[r]at mu;exact mu
 have ntup:∀c xs,H c=some (.tup xs)->c≠x:=fun c xs r z=>by subst z;rw[r]at mu;exact mu
 by_cases hb:b=x
 ·subst hb;rw[AD]at q;cases q;exact new
 ·rw[AM hb]at q
  by_cases hbe:b=e
  ·have q':H b=some (.own x):=by
    rcases he with z | z
    ·exact absurd (hbe.trans z) hb
    ·rw[hbe];exact z
   rw[q]at q';cases q';obtain⟨v,hv⟩:=heo;exact⟨v,by rw[hbe];exact hv⟩
  ·refine(ok b u q).stay (fun c v hc r=>k c v ?_ r) (fun c r=>by rw[AM (nown c b r)];exact r) fun c xs r=>by rw[AM (ntup c xs r)];exact r
   rcases hc with rfl | hc
   ·exact hbe
   ·rintro rfl
    rcases he with z | z
    ·exact nown c b hc z
    ·rw[hc]at z;cases z;exact hb rfl
end
structure Un(fs ex:List Addr)(H H':Hp)(h h':Heap):Prop where
 keep:∀b o,h.get? b=some o->H b=none->b∉fs->b∉ex->h'.get? b=some o
 slot:∀b o,h.get? b=some o->H b=none->b∈fs->b∉ex->∃sl,h'.get? b=some { o with slots:=sl }
 free:∀b o,h.get? b=some o->H b=none->b∉ex->H' b=none
 there:∀b o,h.get? b=some o->b∉ex->∃o',h'.get? b=some o'
 tups:∀b xs,H b=some (.tup xs)->H' b=some (.tup xs)
 frzs:∀b o u,H b=some (.frz o u)->H' b=some (.frz o u)
 tbls:∀b ps,H b=some (.tbl ps)->∃more,H' b=some (.tbl (ps++more))
section
variable {fs fs' ex ex':List Addr}{H H1 H2:Hp}{h h1 h2 h':Heap}{a x e:Addr}{o:HO}
theorem Un.any(u:Un fs ex H H1 h h1){b:Addr}{ob:Obj}(q:h.get? b=some ob)(n:H b=none)(hx:b∉ex):∃sl,h1.get? b=some { ob with slots:=sl }:=by
 by_cases hb:b∈fs
 ·exact u.slot b ob q n hb hx
 ·exact⟨ob.slots,u.keep b ob q n hb hx⟩
theorem Un.trans(a:Un fs ex H H1 h h1)(b:Un fs ex H1 H2 h1 h2):Un fs ex H H2 h h2 where
 keep:=fun c ob q n hc hx=>b.keep c ob (a.keep c ob q n hc hx) (a.free c ob q n hx) hc hx
 slot:=fun c ob q n hc hx=>by
  obtain⟨sl,e1⟩:=a.slot c ob q n hc hx;obtain⟨sl',e2⟩:=b.slot c _ e1 (a.free c ob q n hx) hc hx;exact⟨sl',e2⟩
 free:=fun c ob q n hx=>by
  obtain⟨o',e1⟩:=a.there c ob q hx;exact b.free c o' e1 (a.free c ob q n hx) hx
 there:=fun c ob q hx=>by
  obtain⟨o',e1⟩:=a.there c ob q hx;exact b.there c o' e1 hx
 tups:=fun c xs q=>b.tups c xs (a.tups c xs q)
 frzs:=fun c ob xs q=>b.frzs c ob xs (a.frzs c ob xs q)
 tbls:=fun c ps q=>by
  obtain⟨m1,e1⟩:=a.tbls c ps q;obtain⟨m2,e2⟩:=b.tbls c _ e1;exact⟨m1++m2,by rw[e2,Array.append_assoc]⟩
theorem Un.kept(k:∀b u,h.get? b=some u->h'.get? b=some u):Un fs ex H H h h' :=
 ⟨fun b ob q _ _ _=>k b ob q,fun b ob q _ _ _=>⟨ob.slots,k b ob q⟩,fun _ _ _ n _=>n,fun b ob q _=>⟨ob,k b ob q⟩,fun _ _ q=>q,fun _ _ _ q=>q,fun _ ps q=>⟨#[],by rw[q];simp⟩⟩
theorem Un.refl:Un fs ex H H h h:=Un.kept fun _ _ q=>q
theorem Un.laid(k:∀b u,h.get? b=some u->h'.get? b=some u)(hp:h.objs.size<=a)(hn:H a=none):Un fs ex H (upd H a o) h h' where
 keep:=fun b u q _ _ _=>k b u q
 slot:=fun b u q _ _ _=>⟨u.slots,k b u q⟩
 free:=fun b u q n _=>by rw[AM (ZQ (Zd (ZI q) hp))];exact n
 there:=fun b u q _=>⟨u,k b u q⟩
 tups:=fun b xs q=>by rw[AM (CI q hn)];exact q
 frzs:=fun b u xs q=>by rw[AM (CI q hn)];exact q
 tbls:=fun b ps q=>⟨#[],by rw[AM (CI q hn),q];simp⟩
theorem Un.write(mu:Mut (H x))(he:e=x\/H e=some (.own x))(k:∀b u,b≠e->h.get? b=some u->h'.get? b=some u)(heo:∃u,h'.get? e=some u):Un fs ex H (upd H x o) h h':=by
 have hx:∀b,H b=none->b≠x:=fun b n z=>by subst z;rw[n]at mu;exact mu
 have hb:∀b,H b=none->b≠e:=fun b n z=>by
  subst z
  rcases he with r | r
  ·exact hx b n r
  ·rw[n]at r;cases r
 have hm:∀b u,H b=some u->¬Mut (some u)->b≠x:=fun b u q nm z=>by subst z;rw[q]at mu;exact nm mu
 refine⟨fun b u q n _ _=>k b u (hb b n) q,fun b u q n _ _=>⟨u.slots,k b u (hb b n) q⟩,fun b u q n _=>by rw[AM (hx b n)];exact n,fun b u q _=>?_,
  fun b xs q=>by rw[AM (hm b _ q fun z=>z)];exact q,fun b u xs q=>by rw[AM (hm b _ q fun z=>z)];exact q,fun b ps q=>⟨#[],by rw[AM (hm b _ q fun z=>z),q];simp⟩⟩
 by_cases hbe:b=e
 ·subst hbe;exact heo
 ·exact⟨u,k b u hbe q⟩
end
def trk(h:Heap)(H:Hp):List Addr:=(List.range h.objs.size).filter fun a=>(H a).isSome
def Cb(h:Heap)(H:Hp):Heap:=PySem.W.hideAll h (trk h H)
theorem Ql(h:Heap)(H:Hp):(Cb h H).objs.size=h.objs.size:=PySem.W.hideAll_size _ _
theorem UT{h:Heap}{H:Hp}{b:Addr}{o:Obj}(e:h.get? b=some o)(n:H b=none):(Cb h H).get? b=some o :=
 PySem.W.hideAll_get _ e fun hm=>by
  have q:(H b).isSome=true:=(Z9.mp hm).2;rw[n]at q;simp at q
theorem Pq{h:Heap}{H:Hp}{b:Addr}{o:Obj}(e:(Cb h H).get? b=some o):h.get? b=some o/\H b=none:=by
 have e':h.get? b=some o:=PySem.W.of_hideAll (trk h H) e;refine⟨e',?_⟩;cases q:H b with
 | none=>rfl
 | some x =>
  have hm:b∈trk h H:=Z9.mpr ⟨ZBJ.mpr (ZI e'),by simp[q]⟩;have z:(Cb h H).get? b=none:=PySem.W.hideAll_none (trk h H) hm;rw[z]at e;cases e
def T4(g h:Heap)(L:Addr):List (Addr × Obj):=(List.range h.objs.size).filterMap fun a=>if a=L\/(g.get? a).isSome=true then none else (h.get? a).map fun o=>(a,o)
def rest(g h:Heap)(L d:Addr):List (Addr × Obj):=(T4 g h L).filter fun p=>decide (p.1≠d)
structure Mod(K:W.Frag)(mg:Str->Option Value)(base:Heap):Prop where
 kin:K.In base
 glob:base.Ns mainGlobals mg
 blt:∃mb,base.Ns builtinsNs mb/\∀x:Str,x ≠ "__name__" -> mb x=bootBuiltins x
 nolimit:base.NoLimit
structure Cx where
 prog:Program
 w:World
 K:W.Frag
 mg:Str->Option Value
 base:Heap
 A:Around
 N:List Str
 s₀:Shared
 H₀:Hp
 env:Env
 outer:List Env
 stack:List Env
 ex:List Addr
 fn:Str->Bool
 calm:Bool
 pn:List (Addr × Obj)
 xe:Value->Shared->Prop
def frs(l:List Env):List Addr:=l.filterMap (·.frame)
abbrev Cx.fs(X:Cx):List Addr:=frs X.outer
def Vis(sc:Scope)(x:Str):Prop:=sc.names.lookup x=some .local\/sc.names.lookup x=some .cell\/sc.names.lookup x=some .free
def Loc(sc:Scope)(x:Str):Prop:=sc.names.lookup x=some .local\/sc.names.lookup x=some .cell
def N2(env:Env)(h:Heap)(m:Str->Option Value)(x:Str)(u:Value):Prop :=
 (env.kindOf x=some .local/\m x=some u)\/((env.kindOf x=some .cell\/env.kindOf x=some .free)/\∃c,env.cells.lookup x=some c/\h.IsCell c (some u))
structure Cx.Ok(X:Cx):Prop where
 mod:Mod X.K X.mg X.base
 kind:X.env.scope.kind=.function
 glob:X.env.globals=mainGlobals
 blt:X.env.builtins=builtinsNs
 above:X.s₀.heap.objs.size<=X.env.locals
 inj:∀x y c,X.env.cells.lookup x=some c->X.env.cells.lookup y=some c->x=y
 has:∀x,(X.env.kindOf x=some .cell\/X.env.kindOf x=some .free)->∃c,X.env.cells.lookup x=some c
 cab:∀x c,X.fn x=true->X.env.cells.lookup x=some c->X.s₀.heap.objs.size<=c
 hd:X.calm=true->X.A.handled=none
 frames:X.A.frames=some X.stack
 stk:X.stack=X.outer\/(X.stack=X.env::X.outer/\X.env.frame=some X.env.locals)
 exf:∀b∈X.ex,b≠X.env.locals/\∀x c,X.env.cells.lookup x=some c->c≠b
 bs:∀b o,X.base.get? b=some o->X.s₀.heap.get? b=some o/\X.H₀ b=none
 bsz:X.base.objs.size<=X.s₀.heap.objs.size
 noex:∀b o,X.base.get? b=some o->b∉X.ex
 exfs:∀b∈X.ex,b∉X.fs
 funs:X.s₀.heap.FunFrames X.base X.outer
 frf:∀b∈X.fs,X.H₀ b=none
structure Inv(X:Cx)(pins:List (Addr × Obj))(σ:List (Option V))(H:Hp)(s:Shared):Prop where
 ok:X.Ok
 os:s.os=X.s₀.os
 bare:AllBare s.gens
 base:Un X.fs X.ex X.H₀ H X.s₀.heap s.heap
 loc:∃m,s.heap.Ns X.env.locals m/\∀(i:Nat) (x:Str) (v:V),X.N[i]? = some x->σ[i]? = some (some v)->Vis X.env.scope x->∃u,RelV v u/\N2 X.env s.heap m x u
 cell:∀x c,X.env.cells.lookup x=some c->∃v,s.heap.IsCell c v
 free:H X.env.locals=none
 freeC:∀x c,X.env.cells.lookup x=some c->H c=none
 pin:∀p∈X.pn++pins,s.heap.get? p.1=some p.2/\H p.1=none/\p.1≠X.env.locals/\p.1∉X.fs/\∀v,p.2.data≠.cell v
 hok:HOk X.prog X.w H s.heap
 len:σ.length=X.N.length
section
variable {X:Cx}{pins:List (Addr × Obj)}{σ:List (Option V)}{H H':Hp}{s:Shared}{h':Heap}
theorem Cx.Ok.nofr(ok:X.Ok){b:Addr}{o:Obj}(e:X.base.get? b=some o):b∉X.fs:=fun hb=>by
 have:=(ok.funs.mem hb).1
 rw[e]at this;cases this
theorem Inv.bs(I:Inv X pins σ H s):∀b o,X.base.get? b=some o->s.heap.get? b=some o/\H b=none:=fun b o e =>
 ⟨I.base.keep b o (I.ok.bs b o e).1 (I.ok.bs b o e).2 (I.ok.nofr e) (I.ok.noex b o e),I.base.free b o (I.ok.bs b o e).1 (I.ok.bs b o e).2 (I.ok.noex b o e)⟩
theorem Inv.bk(I:Inv X pins σ H s):∀b o,X.base.get? b=some o->s.heap.get? b=some o:=fun b o e=>(I.bs b o e).1
theorem Inv.mod(I:Inv X pins σ H s):Mod X.K X.mg X.base:=I.ok.mod
theorem Inv.kIn(I:Inv X pins σ H s):X.K.In s.heap:=I.ok.mod.kin.keeps I.bk
theorem Inv.lt(I:Inv X pins σ H s):X.env.locals < s.heap.objs.size:=let ⟨_,hn,_⟩:=I.loc;hn.lt
theorem Inv.sz(I:Inv X pins σ H s):X.s₀.heap.objs.size<=s.heap.objs.size:=ZP I.ok.above (Zp I.lt)
theorem Inv.nofs(I:Inv X pins σ H s){a:Addr}(h:s.heap.objs.size<=a):a∉X.fs:=fun hb=>by
 obtain⟨_,o,ho,_⟩:=I.ok.funs.mem hb;exact absurd (Zd (ZI ho) (ZP I.sz h)) (ZZ _)
theorem Inv.cne(I:Inv X pins σ H s):∀x c,X.env.cells.lookup x=some c->c≠X.env.locals:=fun x c e z=>by
 obtain⟨v,o,ho,hd⟩:=I.cell x c e;obtain⟨m,⟨o',es,ep,ho',hd',_⟩,_⟩:=I.loc;rw[z,ho']at ho;cases ho;rw[hd']at hd;cases hd
theorem Inv.funs(I:Inv X pins σ H s):s.heap.FunFrames X.base X.outer:=by
 have all:∀(l:List Env),(∀b∈frs l,b∈X.fs)->X.s₀.heap.FunFrames X.base l->s.heap.FunFrames X.base l:=by
  intro l
  induction l with
  | nil=>intro _ _;trivial
  | cons env r ih =>
   intro hs hl;obtain⟨hk,⟨L,o,hf,hn,ho,hd⟩,hr⟩:=hl;have hL:L∈X.fs:=hs L (by unfold frs;rw[ZBm,hf];exact Zo);obtain⟨sl,e⟩:=I.base.slot L o ho (I.ok.frf L hL) hL fun z=>I.ok.exfs L z hL
   exact⟨hk,⟨L,_,hf,hn,e,hd⟩,ih (fun b hb=>hs b (by unfold frs;rw[ZBm,hf];exact Za _ hb)) hr⟩
 exact all X.outer (fun _ hb=>hb) I.ok.funs
theorem Inv.stack(I:Inv X pins σ H s):s.heap.FunFrames X.base X.stack:=by
 rcases I.ok.stk with e | ⟨e,hf⟩
 ·rw[e];exact I.funs
 ·rw[e];obtain⟨m,hn,_⟩:=I.loc;refine .cons (by rw[I.ok.kind];decide) hf hn ?_ I.funs;exact Heap.get?_none_of_le (ZP I.ok.bsz I.ok.above)
theorem Inv.stkSub(I:Inv X pins σ H s):∀b∈frs X.stack,b∈X.env.locals::X.fs:=fun b hb=>by
 rcases I.ok.stk with e | ⟨e,hf⟩
 ·rw[e]at hb;exact Za _ hb
 ·rw[e]at hb;unfold frs at hb;rw[ZBm,hf]at hb;exact hb
theorem Inv.stkFree(I:Inv X pins σ H s):∀b∈frs X.stack,H b=none:=fun b hb=>by
 rcases ZF.mp (I.stkSub b hb) with e | hb
 ·rw[e];exact I.free
 ·obtain⟨_,o,ho,_⟩:=I.ok.funs.mem hb;exact I.base.free b o ho (I.ok.frf b hb) fun z=>I.ok.exfs b z hb
theorem Inv.step {g':Array GenState} {t':Nat} {d':Drawn} {ch:List Addr} (I:Inv X pins σ H s)
 (hch:∀b∈ch,(b∈X.ex\/X.s₀.heap.objs.size<=b)/\b≠X.env.locals/\(∀x c,X.env.cells.lookup x=some c->c≠b)/\∀p∈X.pn++pins,p.1≠b)
 (keep:∀b o,b≠X.env.locals->b∉X.fs->b∉ch->s.heap.get? b=some o->H b=none->h'.get? b=some o)
 (slot:∀b o,b≠X.env.locals->b∈X.fs->b∉ch->s.heap.get? b=some o->H b=none->∃sl,h'.get? b=some { o with slots:=sl }) (free:∀b o,b∉ch->s.heap.get? b=some o->H b=none->H' b=none)
 (there:∀b o,b∉ch->s.heap.get? b=some o->∃o',h'.get? b=some o')
 (tups:∀b xs,H b=some (.tup xs)->H' b=some (.tup xs)) (frzs:∀b o u,H b=some (.frz o u)->H' b=some (.frz o u)) (tbls:∀b ps,H b=some (.tbl ps)->∃more,H' b=some (.tbl (ps++more)))
 (ns:∀m,s.heap.Ns X.env.locals m->h'.Ns X.env.locals m) (hok:HOk X.prog X.w H' h') (hg:AllBare g') :
 Inv X pins σ H' { s with heap:=h',gens:=g',drawn:=d',toks:=t' }:=by
 have neL:∀b o,X.s₀.heap.get? b=some o->b≠X.env.locals:=fun b o e=>ZQ (Zd (ZI e) I.ok.above)
 have neC:∀b o,X.s₀.heap.get? b=some o->b∉X.ex->b∉ch:=fun b o e hx hb=>by
  rcases(hch b hb).1 with z | z
  ·exact hx z
  ·exact absurd (Zd (ZI e) z) (ZZ _)
 have cellK:∀x c,X.env.cells.lookup x=some c->∀v,s.heap.IsCell c v->h'.IsCell c v:=fun x c e v ⟨o,ho,hd⟩=>by
  have nch:c∉ch:=fun z=>(hch c z).2.2.1 x c e rfl
  by_cases hc:c∈X.fs
  ·obtain⟨sl,q⟩:=slot c o (I.cne x c e) hc nch ho (I.freeC x c e);exact⟨_,q,hd⟩
  ·exact⟨o,keep c o (I.cne x c e) hc nch ho (I.freeC x c e),hd⟩
 refine⟨I.ok,I.os,hg,⟨fun b o e n hb hx=>?_,fun b o e n hb hx=>?_,fun b o e n hx=>?_,fun b o e hx=>?_,fun b xs e=>tups b xs (I.base.tups b xs e),fun b o xs e=>frzs b o xs (I.base.frzs b o xs e),fun b ps e=>?_⟩,?_,fun x c e=>?_,?_,fun x c e=>?_,fun p hp=>?_,hok,I.len⟩
 ·exact keep b o (neL b o e) hb (neC b o e hx) (I.base.keep b o e n hb hx) (I.base.free b o e n hx)
 ·obtain⟨sl,e1⟩:=I.base.slot b o e n hb hx;obtain⟨sl',e2⟩:=slot b _ (neL b o e) hb (neC b o e hx) e1 (I.base.free b o e n hx);exact⟨sl',e2⟩
 ·obtain⟨o',e1⟩:=I.base.there b o e hx;exact free b o' (neC b o e hx) e1 (I.base.free b o e n hx)
 ·obtain⟨o',e1⟩:=I.base.there b o e hx;exact there b o' (neC b o e hx) e1
 ·obtain⟨m1,e1⟩:=I.base.tbls b ps e;obtain⟨m2,e2⟩:=tbls b _ e1;exact⟨m1++m2,by rw[e2,Array.append_assoc]⟩
 ·obtain⟨m,hn,hl⟩:=I.loc;refine⟨m,ns m hn,fun i x v e1 e2 e3=>?_⟩;obtain⟨u,r,l⟩:=hl i x v e1 e2 e3;refine⟨u,r,?_⟩
  rcases l with l | ⟨k,c,e,z⟩
  ·exact .inl l
  ·exact .inr ⟨k,c,e,cellK x c e _ z⟩
 ·obtain⟨v,z⟩:=I.cell x c e;exact⟨v,cellK x c e v z⟩
 ·obtain⟨m,⟨o,_,_,ho,_⟩,_⟩:=I.loc;exact free _ o (fun z=>(hch _ z).2.1 rfl) ho I.free
 ·obtain⟨v,o,ho,hd⟩:=I.cell x c e;exact free c o (fun z=>(hch c z).2.2.1 x c e rfl) ho (I.freeC x c e)
 ·obtain⟨e,n,ne,nf,d⟩:=I.pin p hp;have nch:p.1∉ch:=fun z=>(hch p.1 z).2.2.2 p hp rfl
  exact⟨keep p.1 p.2 ne nf nch e n,free p.1 p.2 nch e n,ne,nf,d⟩
theorem Inv.un{t':Nat}(I:Inv X pins σ H s)(u:Un X.fs [] H H' s.heap h')(hok:HOk X.prog X.w H' h'):Inv X pins σ H' { s with heap:=h',toks:=t' }:=by
 obtain⟨m,⟨o,es,ep,ho,r⟩,_⟩:=id I.loc;obtain⟨sl,hL⟩:=u.any ho I.free (by simp)
 exact I.step (g':=s.gens) (d':=s.drawn) (ch:=[]) (fun _ z=>nomatch z) (fun b o _ hb _ e n=>u.keep b o e n hb (by simp)) (fun b o _ hb _ e n=>u.slot b o e n hb (by simp)) (fun b o _ e n=>u.free b o e n (by simp)) (fun b o _ e=>u.there b o e (by simp)) u.tups u.frzs u.tbls (fun m' hm=>by
  obtain⟨o',es',ep',ho',r'⟩:=hm;rw[ho]at ho';cases ho';exact⟨_,es',ep',hL,r'⟩) hok I.bare
theorem Inv.call {g':Array GenState} {t':Nat} {d':Drawn} {ch:List Addr} (I:Inv X pins σ H s) (u:Un (frs X.stack) ch H H' s.heap h') (hok:HOk X.prog X.w H' h') (hg:AllBare g')
 (hch:∀b∈ch,(b∈X.ex\/X.s₀.heap.objs.size<=b)/\b≠X.env.locals/\(∀x c,X.env.cells.lookup x=some c->c≠b)/\∀p∈X.pn++pins,p.1≠b) :
 Inv X pins σ H' { s with heap:=h',gens:=g',drawn:=d',toks:=t' }:=by
 obtain⟨m,⟨o,es,ep,ho,r⟩,_⟩:=id I.loc;obtain⟨sl,hL⟩:=u.any ho I.free fun z=>(hch _ z).2.1 rfl
 exact I.step (ch:=ch) hch (fun b o hL hb hc e n=>u.keep b o e n (fun z=>(ZF.mp (I.stkSub b z)).elim hL hb) hc) (fun b o _ _ hc e n=>u.any e n hc) (fun b o hc e n=>u.free b o e n hc) (fun b o hc e=>u.there b o e hc) u.tups u.frzs u.tbls (fun m' hm=>by
  obtain⟨o',es',ep',ho',r'⟩:=hm;rw[ho]at ho';cases ho';exact⟨_,es',ep',hL,r'⟩) hok hg
theorem Inv.turned {t':Nat} {it:Addr} (I:Inv X pins σ H s) (k:∀b o,b≠it->s.heap.get? b=some o->h'.get? b=some o) (hn:H it=none) (hL:it≠X.env.locals)
 (h1:it∈X.ex\/X.s₀.heap.objs.size<=it) (h2:∀x c,X.env.cells.lookup x=some c->c≠it) (h3:∀p∈X.pn++pins,p.1≠it):Inv X pins σ H { s with heap:=h',toks:=t' }:=by
 have nit:∀b u,H b=some u->b≠it:=fun b u e z=>by rw[z,hn]at e;cases e
 refine I.step (g':=s.gens) (d':=s.drawn) (ch:=[it]) (fun b hb=>?_) (fun b o _ _ hc e _=>k b o (fun z=>hc (by simp[z])) e) (fun b o _ _ hc e _=>⟨o.slots,k b o (fun z=>hc (by simp[z])) e⟩) (fun _ _ _ _ n=>n)
  (fun b o hc e=>⟨o,k b o (fun z=>hc (by simp[z])) e⟩) (fun _ _ e=>e) (fun _ _ _ e=>e) (fun b ps e=>⟨#[],by rw[e];simp⟩) (fun m hm=>?_) (fun b u e=>?_) I.bare
 ·have e:b=it:=by simpa using hb
  subst e;exact⟨h1,hL,h2,h3⟩
 ·obtain⟨o,es,ep,ho,r⟩:=hm;exact⟨o,es,ep,k _ o (Ne.symm hL) ho,r⟩
 ·refine(I.hok b u e).stay (fun c v hc q=>k c v ?_ q) (fun _ q=>q) fun _ _ q=>q
  rcases hc with z | z
  ·rw[z];exact nit b u e
  ·exact nit c _ z
theorem Inv.tok(I:Inv X pins σ H s)(t:Nat):Inv X pins σ H { s with toks:=t }:=I.un (h':=s.heap) (t':=t) Un.refl I.hok
theorem Inv.kept{t':Nat}(I:Inv X pins σ H s)(k:∀b u,s.heap.get? b=some u->h'.get? b=some u):Inv X pins σ H { s with heap:=h',toks:=t' }:=I.un (Un.kept k) (I.hok.kept k)
theorem Inv.laid{a:Addr}{o:HO}{t':Nat}(I:Inv X pins σ H s)(k:∀b u,s.heap.get? b=some u->h'.get? b=some u)(hp:s.heap.objs.size<=a)(new:ObjOk X.prog X.w (upd H a o) h' a o) :
 Inv X pins σ (upd H a o) { s with heap:=h',toks:=t' }:=I.un (Un.laid k hp (I.hok.fresh hp)) (I.hok.laid k hp new)
theorem Inv.write {x e:Addr} {o:HO} {t':Nat} (I:Inv X pins σ H s) (mu:Mut (H x)) (he:e=x\/H e=some (.own x)) (k:∀b u,b≠e->s.heap.get? b=some u->h'.get? b=some u) (heo:∃u,h'.get? e=some u)
 (new:ObjOk X.prog X.w (upd H x o) h' x o):Inv X pins σ (upd H x o) { s with heap:=h',toks:=t' }:=I.un (Un.write mu he k heo) (I.hok.write mu he k heo new)
theorem Inv.weak{σ':List (Option V)}(I:Inv X pins σ H s)(hl:σ'.length=σ.length)(w:∀(i:Nat) v,σ'[i]? = some (some v)->σ[i]? = some (some v)):Inv X pins σ' H s :=
 ⟨I.ok,I.os,I.bare,I.base,let ⟨m,hn,hl'⟩:=I.loc;⟨m,hn,fun i x v e1 e2 e3=>hl' i x v e1 (w i v e2) e3⟩,I.cell,I.free,I.freeC,I.pin,I.hok,hl.trans I.len⟩
theorem Inv.pins_of{pins':List (Addr × Obj)}(I:Inv X pins σ H s)(h:∀p∈pins',s.heap.get? p.1=some p.2/\H p.1=none/\p.1≠X.env.locals/\p.1∉X.fs/\∀v,p.2.data≠.cell v):Inv X pins' σ H s :=
 ⟨I.ok,I.os,I.bare,I.base,I.loc,I.cell,I.free,I.freeC,fun p hp=>(ZH.mp hp).elim (fun z=>I.pin p (Z1 _ z)) (h p),I.hok,I.len⟩
theorem KZ{N:List Str}(hN:N.Nodup){i j:Nat}{x:Str}(a:N[i]? = some x)(b:N[j]? = some x):i=j:=by
 obtain⟨h1,e1⟩:=Zb.mp a;obtain⟨h2,e2⟩:=Zb.mp b;exact(List.getElem_inj hN).mp (e1.trans e2.symm)
theorem Kk {M:Model} {A:Around} {E:Value->Shared->Prop} {i:Nat} {x:Str} {v:V} {u:Value} {Q:Unit->Shared->Prop} (I:Inv X pins σ H s) (hN:X.N.Nodup) (hi:X.N[i]? = some x) (hx:Loc X.env.scope x) (r:RelV v u)
 (h:∀s',Inv X pins (σ.set i (some v)) H s'->(∃a,Heap.SameBut a s.heap s'.heap/\(a=X.env.locals\/X.env.cells.lookup x=some a))->Q () s') (hf:X.fn x=true\/X.env.scope.names.lookup x=some .local:=by first | exact .inl rfl | exact .inr rfl | assumption):wpAny M A (storeName X.env x u) Q E s:=by
 obtain⟨m,hn,hl⟩:=id I.loc;have hcls:(X.env.scope.kind == .class || (X.env.scope.kind == .module && X.env.locals != X.env.globals))=false:=by rw[I.ok.kind];rfl
 have hiσ:i < σ.length:=by rw[I.len];exact(Zb.mp hi).1
 have cne:=I.cne
 have tracked:∀{a:Addr} {h':Heap},(∃o,s.heap.get? a=some o/\H a=none)->Heap.SameBut a s.heap h'->HOk X.prog X.w H h':=fun {a h'} ha hs b ob e=>by
  obtain⟨_,_,hfree⟩:=ha;refine(I.hok b ob e).stay (fun c w' hc q=>(hs.2 c ?_).trans q) (fun _ q=>q) fun _ _ q=>q
  rintro rfl
  rcases hc with rfl | hc
  ·rw[hfree]at e;cases e
  ·rw[hfree]at hc;cases hc
 rcases hx with hk | hk
 ·refine wpAny_storeName_local hk hn (fun h' hn' hs=>?_) hcls;obtain⟨oL,_,_,hoL,_⟩:=id hn;refine h _ ⟨I.ok,I.os,I.bare,⟨fun b o e n hb hx=>?_,fun b o e n hb hx=>?_,I.base.free,fun b o e hx=>?_,I.base.tups,I.base.frzs,I.base.tbls⟩,⟨_,hn',fun j y v' e1 e2 e3=>?_⟩,fun y c e=>?_,I.free,I.freeC,fun p hp=>?_,tracked ⟨oL,hoL,I.free⟩ hs,by simpa using I.len⟩ ⟨_,hs,.inl rfl⟩
  ·exact(hs.2 b (ZQ (Zd (ZI e) I.ok.above))).trans (I.base.keep b o e n hb hx)
  ·obtain⟨sl,e1⟩:=I.base.slot b o e n hb hx;exact⟨sl,(hs.2 b (ZQ (Zd (ZI e) I.ok.above))).trans e1⟩
  ·obtain⟨o',e1⟩:=I.base.there b o e hx;exact⟨o',(hs.2 b (ZQ (Zd (ZI e) I.ok.above))).trans e1⟩
  ·by_cases hj:j=i
   ·subst hj;rw[hi]at e1;cases e1;rw[List.getElem?_set_self hiσ]at e2;cases e2;exact⟨u,r,.inl ⟨hk,by simp⟩⟩
   ·rw[List.getElem?_set_ne (Ne.symm hj)]at e2;obtain⟨u',r',q⟩:=hl j y v' e1 e2 e3;refine⟨u',r',?_⟩
    rcases q with ⟨k,e⟩ | ⟨k,c,e,z⟩
    ·refine .inl ⟨k,?_⟩
     have:y≠x:=fun e=>hj (KZ hN e1 (e ▸ hi))
     simp[this,e]
    ·exact .inr ⟨k,c,e,z.sameBut hs (cne y c e)⟩
  ·obtain⟨w',z⟩:=I.cell y c e;exact⟨w',z.sameBut hs (cne y c e)⟩
  ·obtain⟨e,n,ne,nf,d⟩:=I.pin p hp;exact⟨(hs.2 p.1 ne).trans e,n,ne,nf,d⟩
 ·have hfn:X.fn x=true:=by
   rcases hf with z | z
   ·exact z
   ·rw[z]at hk;cases hk
  obtain⟨c,hc⟩:=I.ok.has x (.inl hk);obtain⟨w',z⟩:=I.cell x c hc;refine wpAny_storeName_cell I.ok.kind hk hc z (fun h' hc' hs=>?_);obtain⟨oc,hoc,hocd⟩:=id z;refine h { s with heap:=h' } ⟨I.ok,I.os,I.bare,⟨fun b o e n hb hx=>?_,fun b o e n hb hx=>?_,I.base.free,fun b o e hx=>?_,I.base.tups,I.base.frzs,I.base.tbls⟩,⟨m,hn.sameBut hs (Ne.symm (cne x c hc)),fun j y v' e1 e2 e3=>?_⟩,fun y c' e=>?_,I.free,I.freeC,fun p hp=>?_,tracked ⟨oc,hoc,I.freeC x c hc⟩ hs,by simpa using I.len⟩ ⟨c,hs,.inr hc⟩
  ·exact(hs.2 b (ZQ (Zd (ZI e) (I.ok.cab x c hfn hc)))).trans (I.base.keep b o e n hb hx)
  ·obtain⟨sl,e1⟩:=I.base.slot b o e n hb hx;exact⟨sl,(hs.2 b (ZQ (Zd (ZI e) (I.ok.cab x c hfn hc)))).trans e1⟩
  ·obtain⟨o',e1⟩:=I.base.there b o e hx;exact⟨o',(hs.2 b (ZQ (Zd (ZI e) (I.ok.cab x c hfn hc)))).trans e1⟩
  ·by_cases hj:j=i
   ·subst hj;rw[hi]at e1;cases e1;rw[List.getElem?_set_self hiσ]at e2;cases e2;exact⟨u,r,.inr ⟨.inl hk,c,hc,hc'⟩⟩
   ·rw[List.getElem?_set_ne (Ne.symm hj)]at e2;obtain⟨u',r',q⟩:=hl j y v' e1 e2 e3;refine⟨u',r',?_⟩
    rcases q with q | ⟨k,c',e,z'⟩
    ·exact .inl q
    ·refine .inr ⟨k,c',e,z'.sameBut hs ?_⟩;rintro rfl;exact hj (KZ hN e1 (I.ok.inj _ _ _ e hc ▸ hi))
  ·by_cases hcc:c'=c
   ·subst hcc;exact⟨_,hc'⟩
   ·obtain⟨w2,z2⟩:=I.cell y c' e;exact⟨w2,z2.sameBut hs hcc⟩
  ·obtain⟨e,n,ne,nf,d⟩:=I.pin p hp;refine⟨(hs.2 p.1 ?_).trans e,n,ne,nf,d⟩;intro q;rw[q,hoc]at e;have q':oc=p.2:=ZW e;exact d w' (by rw[<- q'];exact hocd)
theorem ME {M:Model} {A:Around} {E:Value->Shared->Prop} {i:Nat} {x:Str} {v:V} {u:Value} {Q:Unit->Shared->Prop} (I:Inv X pins σ H s) (hN:X.N.Nodup) (hi:X.N[i]? = some x) (hx:Loc X.env.scope x) (r:RelV v u)
 (h:∀s',Inv X pins (σ.set i (some v)) H s'->Q () s') (hf:X.fn x=true\/X.env.scope.names.lookup x=some .local:=by first | exact .inl rfl | exact .inr rfl | assumption):wpAny M A (storeName X.env x u) Q E s :=
 Kk I hN hi hx r (fun s' I' _=>h s' I') hf
theorem Inv.call' {s':Shared} {ch:List Addr} (I:Inv X pins σ H s) (ho:s'.os=s.os) (u:Un (frs X.stack) ch H H' s.heap s'.heap) (hok:HOk X.prog X.w H' s'.heap) (hg:AllBare s'.gens)
 (hch:∀b∈ch,(b∈X.ex\/X.s₀.heap.objs.size<=b)/\b≠X.env.locals/\(∀x c,X.env.cells.lookup x=some c->c≠b)/\∀p∈X.pn++pins,p.1≠b):Inv X pins σ H' s':=by
 obtain⟨h',g',d',t',o'⟩:=s';have e:o'=s.os:=ho;subst e;exact I.call (g':=g') (t':=t') (d':=d') u hok hg hch
end
abbrev XK:=Value->Option Addr->Hp->Prop
abbrev St:=List (Option V)
abbrev VK:=V->Hp->Prop
abbrev TE:=St->Hp->VK->Prop
abbrev TT:=St->Hp->(Bool->Hp->Prop)->Prop
abbrev TA:=St->Hp->(List V->Hp->Prop)->Prop
structure Ends where
 nx:St->Hp->Prop
 rt:VK
 bk:St->Hp->Prop:=fun _ _=>False
 ct:St->Hp->Prop:=fun _ _=>False
abbrev TS:=Ends->St->Hp->Prop
def EP(X:Cx)(pins:List (Addr × Obj))(σ:St)(Q:VK)(u:Value)(s':Shared):Prop:=∃v H',Inv X pins σ H' s'/\RelV v u/\Q v H'
def TP(X:Cx)(pins:List (Addr × Obj))(σ:St)(Q:Bool->Hp->Prop)(b:Bool)(s':Shared):Prop:=∃H',Inv X pins σ H' s'/\Q b H'
def AP(X:Cx)(pins:List (Addr × Obj))(σ:St)(Q:List V->Hp->Prop)(us:List Value)(s':Shared):Prop:=∃vs H',Inv X pins σ H' s'/\Vals vs us/\Q vs H'
def SP(X:Cx)(pins:List (Addr × Obj))(D:Ends)(f:Flow)(s':Shared):Prop :=
 match f with
 | .next=>∃σ' H',Inv X pins σ' H' s'/\D.nx σ' H'
 | .brk=>∃σ' H',Inv X pins σ' H' s'/\D.bk σ' H'
 | .cont=>∃σ' H',Inv X pins σ' H' s'/\D.ct σ' H'
 | .ret u=>∃v σ' H',Inv X pins σ' H' s'/\RelV v u/\D.rt v H'
def PE(X:Cx)(e:Expr)(t:TE):Prop :=
 ∀(pins:List (Addr × Obj)) (s:Shared) (σ:St) (H:Hp) (Q:VK),Inv X pins σ H s->t σ H Q->wpAny (model X.prog X.w) X.A (eval e X.env) (EP X pins σ Q) X.xe s
def PT(X:Cx)(e:Expr)(t:TT):Prop :=
 ∀(pins:List (Addr × Obj)) (s:Shared) (σ:St) (H:Hp) (Q:Bool->Hp->Prop),Inv X pins σ H s->t σ H Q->wpAny (model X.prog X.w) X.A (isTrue e X.env (eval e X.env)) (TP X pins σ Q) X.xe s
def PW(X:Cx)(e:Expr)(t:TT):Prop :=
 ∀(whole:Sem Value) (pins:List (Addr × Obj)) (s:Shared) (σ:St) (H:Hp) (Q:Bool->Hp->Prop),Inv X pins σ H s->t σ H Q->wpAny (model X.prog X.w) X.A (isTrue e X.env whole) (TP X pins σ Q) X.xe s
theorem PW.pt{X:Cx}{e:Expr}{t:TT}(h:PW X e t):PT X e t:=h _
def PA(X:Cx)(es:List Expr)(t:TA):Prop :=
 ∀(pos:Pos) (pins:List (Addr × Obj)) (s:Shared) (σ:St) (H:Hp) (Q:List V->Hp->Prop),Inv X pins σ H s->t σ H Q->wpAny (model X.prog X.w) X.A (spliced (backTo pos (starEach es X.env))) (AP X pins σ Q) X.xe s
def PS(X:Cx)(st:Stmt)(t:TS):Prop :=
 ∀(pins:List (Addr × Obj)) (s:Shared) (σ:St) (H:Hp) (D:Ends),Inv X pins σ H s->t D σ H->wpAny (model X.prog X.w) X.A (exec st X.env) (SP X pins D) X.xe s
def PSs(X:Cx)(st:List Stmt)(t:TS):Prop :=
 ∀(pins:List (Addr × Obj)) (s:Shared) (σ:St) (H:Hp) (D:Ends),Inv X pins σ H s->t D σ H->wpAny (model X.prog X.w) X.A (execs st X.env) (SP X pins D) X.xe s
theorem thn{α:Type}{t:Sem α}{Q Q':α->Shared->Prop}{M:Model}{A:Around}{E:Value->Shared->Prop}{s:Shared}(h:wpAny M A t Q E s)(hQ:∀a s,Q a s->Q' a s):wpAny M A t Q' E s:=Zv h hQ fun _ _ x=>x
section
variable {X:Cx}
def US(i:Nat):TE:=fun σ H Q=>∃v,σ[i]? = some (some v)/\Q v H
def tC(v:V):TE:=fun _ H Q=>Q v H
theorem Pz{i:Nat}{x:Str}{pos:Pos}(hN:X.N[i]? = some x)(hv:Vis X.env.scope x)(hd:(x == ("__debug__" : Str))=false:=by decide)(hcd:(x == ("__classdict__" : Str))=false:=by decide):PE X (.Name x pos) (US i):=by
 intro pins s σ H Q I h;obtain⟨v,e,h⟩:=h;obtain⟨m,hn,hl⟩:=I.loc;obtain⟨u,r,l⟩:=hl i x v hN e hv;have fin:EP X pins σ Q u s:=⟨v,H,I,r,h⟩
 rcases l with ⟨hk,hm⟩ | ⟨hk,c,hc,hcell⟩
 ·exact wpAny_Name (wpAny_loadName_local I.ok.kind hk hn hm fin) hd
 ·rcases hk with hk | hk
  ·exact wpAny_Name (wpAny_loadName_cell I.ok.kind hk hc hcell fin) hd
  ·exact wpAny_Name (wpAny_loadName_free I.ok.kind hk hc hcell fin hcd) hd
theorem AC{i j pos}:PE X (.Constant (.int i) j pos) (tC (.int i)):=fun _ _ _ H _ I h=>wpAny_Constant_int ⟨.int i,H,I.tok _,⟨_,rfl⟩,h⟩
theorem A5{b j pos}:PE X (.Constant (.bool b) j pos) (tC (.bl b)):=fun _ _ _ H _ I h=>Constant_bool ⟨.bl b,H,I,rfl,h⟩
theorem C6{j pos}:PE X (.Constant .none j pos) (tC .non):=fun _ _ _ H _ I h=>Constant_none ⟨.non,H,I,rfl,h⟩
theorem FS{x j pos}:PE X (.Constant (.str x) j pos) (tC (.str x)):=fun _ _ _ H _ I h=>Calls.Constant_str ⟨.str x,H,I.tok _,⟨_,rfl⟩,h⟩
def Gl(X:Cx)(x:Str):Prop:=X.env.kindOf x=some .globalImplicit
theorem Lu {E:Value->Shared->Prop} {pins:List (Addr × Obj)} {s:Shared} {σ:St} {H:Hp} {x:Str} {u:Value} {pos:Pos} {Q:Value->Shared->Prop} (I:Inv X pins σ H s) (hg:Gl X x) (hm:X.mg x=some u) (h:Q u s)
 (hd:(x == ("__debug__" : Str))=false:=by decide):wpAny (model X.prog X.w) X.A (eval (.Name x pos) X.env) Q E s :=
 Calls.Name_function_global I.ok.kind hg (Calls.loadGlobal_global (by rw[I.ok.glob];exact I.mod.glob.keeps I.bk) hm h) hd
theorem DA {E:Value->Shared->Prop} {pins:List (Addr × Obj)} {s:Shared} {σ:St} {H:Hp} {x:Str} {u:Value} {pos:Pos} {Q:Value->Shared->Prop} (I:Inv X pins σ H s) (hg:Gl X x) (hm:X.mg x=none) (hv:bootBuiltins x=some u) (h:Q u s)
 (hn:x ≠ "__name__":=by decide) (hd:(x == ("__debug__" : Str))=false:=by decide):wpAny (model X.prog X.w) X.A (eval (.Name x pos) X.env) Q E s:=by
 obtain⟨mb,h1,h2⟩:=I.mod.blt;exact Calls.Name_function_global I.ok.kind hg (Calls.loadGlobal_builtin (by rw[I.ok.glob];exact I.mod.glob.keeps I.bk) hm (by rw[I.ok.blt];exact h1.keeps I.bk) ((h2 x hn).trans hv) h) hd
theorem BU{x:Str}{v:V}{u:Value}{pos:Pos}(hg:Gl X x)(hm:X.mg x=none)(hv:bootBuiltins x=some u)(r:RelV v u)(hn:x ≠ "__name__":=by decide)(hd:(x == ("__debug__" : Str))=false:=by decide):PE X (.Name x pos) (tC v) :=
 fun _ _ _ H _ I h=>DA I hg hm hv ⟨v,H,I,r,h⟩ hn hd
variable {a b:Expr}{ta tb:TE}{pos:Pos}
theorem JU(b:Expr){op:CmpOp}(h:op≠.In)(h2:op≠.NotIn):behindInMarks op b=false:=by
 have e1:(op == CmpOp.In)=false:=by cases op <;> first | rfl | exact absurd rfl h
 have e2:(op == CmpOp.NotIn)=false:=by cases op <;> first | rfl | exact absurd rfl h2
 cases b <;> simp[behindInMarks,e1,e2]
variable {tA tB':TT}{rest:List Expr}
def Lw(t u:TT):TT:=fun σ H Q=>t σ H fun c H1=>if c=true then u σ H1 Q else Q false H1
def tOr(t u:TT):TT:=fun σ H Q=>t σ H fun c H1=>if c=true then Q true H1 else u σ H1 Q
def Kw(t:TT):TT:=fun σ H Q=>t σ H fun c H1=>Q (!c) H1
theorem C2(ha:PT X a tA):PW X (.BoolOp .And [a] pos) tA:=by
 intro wh pins s σ H Q I h;refine isTrue_and (thn (ha pins s σ H Q I h) fun c s1 e=>?_);cases c with
 | true=>exact isTrue_and_nil e
 | false=>exact e
theorem Cz(ha:PT X a tA):PW X (.BoolOp .Or [a] pos) tA:=by
 intro wh pins s σ H Q I h;refine isTrue_or (thn (ha pins s σ H Q I h) fun c s1 e=>?_);cases c with
 | false=>exact isTrue_or_nil e
 | true=>exact e
theorem Ct(ha:PT X a tA)(hb:PW X (.BoolOp .And (b::rest) pos) tB'):PW X (.BoolOp .And (a::b::rest) pos) (Lw tA tB'):=by
 intro wh pins s σ H Q I h;refine isTrue_and (thn (ha pins s σ H _ I h) fun c s1 ⟨H1,I1,q1⟩=>?_);cases c with
 | true=>exact hb wh pins s1 σ H1 Q I1 q1
 | false=>exact⟨H1,I1,q1⟩
theorem Bz(ha:PT X a tA)(hb:PW X (.BoolOp .Or (b::rest) pos) tB'):PW X (.BoolOp .Or (a::b::rest) pos) (tOr tA tB'):=by
 intro wh pins s σ H Q I h;refine isTrue_or (thn (ha pins s σ H _ I h) fun c s1 ⟨H1,I1,q1⟩=>?_);cases c with
 | true=>exact⟨H1,I1,q1⟩
 | false=>exact hb wh pins s1 σ H1 Q I1 q1
theorem BQ(ha:PT X a tA):PT X (.UnaryOp .Not a pos) (Kw tA):=by
 intro pins s σ H Q I h;exact isTrue_not (ha pins s σ H (fun c H1=>Q (!c) H1) I h)
def TJ(ta tb:TE):TE:=fun σ H Q=>ta σ H fun x H1=>∃c,x=.bl c/\if c=true then tb σ H1 Q else Q (.bl false) H1
def NV(ta tb:TE):TE:=fun σ H Q=>ta σ H fun x H1=>∃c,x=.bl c/\if c=true then Q (.bl true) H1 else tb σ H1 Q
def So(ta:TE):TE:=fun σ H Q=>ta σ H fun x H1=>∃c,x=.bl c/\Q (.bl (!c)) H1
theorem CV{op}{t:TE}(h:PE X a t):PE X (.BoolOp op [a] pos) t:=fun pins s σ H Q I hw=>BoolOp_one (h pins s σ H Q I hw)
theorem RX(ha:PE X a ta)(hb:PE X (.BoolOp .And (b::rest) pos) tb):PE X (.BoolOp .And (a::b::rest) pos) (TJ ta tb):=by
 intro pins s σ H Q I h;refine BoolOp_and (thn (ha pins s σ H _ I h) fun v s1 ⟨x,H1,I1,r1,q1⟩=>?_);obtain⟨c,rfl,q1⟩:=q1;cases r1;refine ZBK ?_;cases c with
 | true=>exact hb pins s1 σ H1 Q I1 q1
 | false=>exact⟨.bl false,H1,I1,rfl,q1⟩
theorem Oo(ha:PE X a ta)(hb:PE X (.BoolOp .Or (b::rest) pos) tb):PE X (.BoolOp .Or (a::b::rest) pos) (NV ta tb):=by
 intro pins s σ H Q I h;refine BoolOp_or (thn (ha pins s σ H _ I h) fun v s1 ⟨x,H1,I1,r1,q1⟩=>?_);obtain⟨c,rfl,q1⟩:=q1;cases r1;refine ZBK ?_;cases c with
 | false=>exact hb pins s1 σ H1 Q I1 q1
 | true=>exact⟨.bl true,H1,I1,rfl,q1⟩
theorem Tk(ha:PE X a ta):PE X (.UnaryOp .Not a pos) (So ta):=by
 intro pins s σ H Q I h;refine UnaryOp_ (thn (ha pins s σ H _ I h) fun v s1 ⟨x,H1,I1,r1,q1⟩=>?_);obtain⟨c,rfl,q1⟩:=q1;cases r1;exact not_of (ZBK ⟨.bl (!c),H1,I1,rfl,q1⟩)
def tIf(t:TT)(ta tb:TE):TE:=fun σ H Q=>t σ H fun c H1=>if c=true then ta σ H1 Q else tb σ H1 Q
theorem Gq{c:Expr}(hc:PT X c tA)(ha:PE X a ta)(hb:PE X b tb):PE X (.IfExp c a b pos) (tIf tA ta tb):=by
 intro pins s σ H Q I h;refine wpAny_IfExp (thn (hc pins s σ H _ I h) fun d s1 ⟨H1,I1,q1⟩=>?_);cases d with
 | true=>exact ha pins s1 σ H1 Q I1 q1
 | false=>exact hb pins s1 σ H1 Q I1 q1
end
def SqL(K:W.Frag)(H:Hp)(a:Addr)(xs:List V):Prop :=
 Rd H a (.lst xs) \/
  ∃(o:Obj) (its:Array Value) (n:Nat),K.lookup a=some o/\o.cls=.type "list" /\ o.dict=none/\o.data=.seq its n/\its.size<=sizeLine/\Vals xs its.toList
def SqT(K:W.Frag)(H:Hp)(a:Addr)(xs:List V):Prop :=
 Rd H a (.tup xs) \/
  ∃(o:Obj) (its:Array Value) (n:Nat),K.lookup a=some o/\o.cls=.type "tuple" /\ o.dict=none/\o.data=.seq its n/\its.size<=sizeLine/\Vals xs its.toList
def Sb:Value->Option V
 | .none=>some .non
 | .bool b=>some (.bl b)
 | .int i _=>some (.int i)
 | .str x _=>some (.str x)
 | .bytes b _=>some (.byt b)
 | .float b _=>some (.flt b)
 | .ref a=>some (.ref a)
 | .type n=>some (.ty n)
 | _=>none
theorem RelV.abs{x:V}{u:Value}(r:RelV x u):Sb u=some x:=by
 cases x with
 | non=>cases r;rfl
 | bl _=>cases r;rfl
 | int _=>obtain⟨t,rfl⟩:=r;rfl
 | str _=>obtain⟨t,rfl⟩:=r;rfl
 | byt _=>obtain⟨t,rfl⟩:=r;rfl
 | flt _=>obtain⟨t,rfl⟩:=r;rfl
 | ref _=>cases r;rfl
 | ty _=>cases r;rfl
theorem RelV.inj{x y:V}{u:Value}(r:RelV x u)(q:RelV y u):x=y:=ZW (r.abs.symm.trans q.abs)
theorem Vals.inj:∀{xs ys:List V} {us:List Value},Vals xs us->Vals ys us->xs=ys
 | _,_,_,.nil,.nil=>rfl
 | _,_,_,.cons r t,.cons r' t'=>by rw[r.inj r',Vals.inj t t']
section
variable {X:Cx}{pins:List (Addr × Obj)}{σ:St}{H:Hp}{s:Shared}{a:Addr}{xs ys:List V}
theorem SqL.of{K:W.Frag}(h:H a=some (.lst xs)):SqL K H a xs:=.inl (.inl h)
theorem SqT.of{K:W.Frag}(h:H a=some (.tup xs)):SqT K H a xs:=.inl (.inl h)
theorem Inv.list(I:Inv X pins σ H s)(h:SqL X.K H a xs):∃its:List Value,Vals xs its/\PlainL s.heap a its.toArray/\xs.length<=sizeLine:=by
 rcases h with h | ⟨o,its,n,hk,hc,hd,hs,hz,r⟩
 ·obtain⟨z,its,n,r,e⟩:=h.ok I.hok;exact⟨its,r,⟨_,n,e,rfl,rfl,rfl⟩,z⟩
 ·refine⟨its.toList,r,⟨o,n,I.kIn a o hk,hc,hd,by simpa using hs⟩,?_⟩;have e:=r.length;simp only[Zf]at e;lia
theorem Inv.tuple(I:Inv X pins σ H s)(h:SqT X.K H a xs):∃its:List Value,Vals xs its/\IsTup s.heap a its.toArray/\xs.length<=sizeLine:=by
 rcases h with h | ⟨o,its,n,hk,hc,hdd,hs,hz,r⟩
 ·obtain⟨z,its,r,p⟩:=h.ok I.hok;exact⟨its,r,p.tup,z⟩
 ·refine⟨its.toList,r,⟨o,I.kIn a o hk,hc,n,by simpa using hs⟩,?_⟩;have e:=r.length;simp only[Zf]at e;lia
theorem Inv.list_inj(I:Inv X pins σ H s)(h:SqL X.K H a xs)(h':SqL X.K H a ys):xs=ys:=by
 obtain⟨its,r,⟨o,n,e,_,_,d⟩,_⟩:=I.list h;obtain⟨its',r',⟨o',n',e',_,_,d'⟩,_⟩:=I.list h';rw[e]at e';cases e';rw[d]at d';injection d' with d1 _
 have:its=its':=by simpa using congrArg Array.toList d1
 subst this;exact r.inj r'
theorem Inv.tuple_inj(I:Inv X pins σ H s)(h:SqT X.K H a xs)(h':SqT X.K H a ys):xs=ys:=by
 obtain⟨its,r,⟨o,e,_,n,d⟩,_⟩:=I.tuple h;obtain⟨its',r',⟨o',e',_,n',d'⟩,_⟩:=I.tuple h';rw[e]at e';cases e';rw[d]at d';injection d' with d1 _
 have:its=its':=by simpa using congrArg Array.toList d1
 subst this;exact r.inj r'
end
abbrev Cx.wish(X:Cx)(E:Value->Shared->Prop):Cx:={ X with xe:=E }
abbrev Cx.nox(X:Cx):Cx:=X.wish fun _ _=>False
theorem Cx.Ok.wish{X:Cx}(ok:X.Ok)(E:Value->Shared->Prop):(X.wish E).Ok :=
 ⟨ok.mod,ok.kind,ok.glob,ok.blt,ok.above,ok.inj,ok.has,ok.cab,ok.hd,ok.frames,ok.stk,ok.exf,ok.bs,ok.bsz,ok.noex,ok.exfs,ok.funs,ok.frf⟩
theorem Cx.Ok.unwish{X:Cx}{E:Value->Shared->Prop}(ok:(X.wish E).Ok):X.Ok :=
 ⟨ok.mod,ok.kind,ok.glob,ok.blt,ok.above,ok.inj,ok.has,ok.cab,ok.hd,ok.frames,ok.stk,ok.exf,ok.bs,ok.bsz,ok.noex,ok.exfs,ok.funs,ok.frf⟩
section
variable {X:Cx}{pins:List (Addr × Obj)}{σ:St}{H:Hp}{s:Shared}{E:Value->Shared->Prop}
theorem Inv.wish(I:Inv X pins σ H s)(E:Value->Shared->Prop):Inv (X.wish E) pins σ H s:=⟨I.ok.wish E,I.os,I.bare,I.base,I.loc,I.cell,I.free,I.freeC,I.pin,I.hok,I.len⟩
theorem Inv.unwish(I:Inv (X.wish E) pins σ H s):Inv X pins σ H s:=⟨I.ok.unwish,I.os,I.bare,I.base,I.loc,I.cell,I.free,I.freeC,I.pin,I.hok,I.len⟩
theorem SP.unwish{D:Ends}{f:Flow}{s':Shared}(h:SP (X.wish E) pins D f s'):SP X pins D f s':=by
 cases f with
 | next=>obtain⟨σ',H',I,q⟩:=h;exact⟨σ',H',I.unwish,q⟩
 | brk=>obtain⟨σ',H',I,q⟩:=h;exact⟨σ',H',I.unwish,q⟩
 | cont=>obtain⟨σ',H',I,q⟩:=h;exact⟨σ',H',I.unwish,q⟩
 | ret u=>obtain⟨v,σ',H',I,r,q⟩:=h;exact⟨v,σ',H',I.unwish,r,q⟩
theorem PSs.nox{st:List Stmt}{t:TS}(h:PSs X.nox st t):PSs X st t:=fun pins s σ H D I hw =>
 Zv (h pins s σ H D (I.wish _) hw) (fun _ _ q=>q.unwish) fun _ _ z=>False.elim z
end
section
variable {X:Cx}{st:Stmt}{rest:List Stmt}{t u:TS}{e:Expr}{te:TE}{pos:Pos}
def Cq:TS:=fun D σ H=>D.nx σ H
def IY(t u:TS):TS:=fun D σ H=>t { D with nx:=u D } σ H
theorem Ah:PSs X [] Cq:=fun _ _ σ H _ I h=>wpAny_execs_nil ⟨σ,H,I,h⟩
theorem AE(h1:PS X st t)(h2:PSs X rest u):PSs X (st::rest) (IY t u):=by
 intro pins s σ H D I h;refine wpAny_execs_cons (thn (h1 pins s σ H { D with nx:=u D } I h) fun f s1 q=>?_);cases f with
 | next =>
  obtain⟨σ',H',I',q⟩:=q;exact h2 pins s1 σ' H' D I' q
 | ret v=>exact q
 | brk=>exact q
 | cont=>exact q
theorem AF(h1:PS X st t):PSs X [st] t:=by
 intro pins s σ H D I h;refine wpAny_execs_cons (thn (h1 pins s σ H D I h) fun f s1 q=>?_);cases f with
 | next=>exact wpAny_execs_nil q
 | ret v=>exact q
 | brk=>exact q
 | cont=>exact q
theorem Inv.quiet{pins:List (Addr × Obj)}{σ:St}{H:Hp}{s:Shared}(I:Inv X pins σ H s):interactive X.env=false:=by simp[interactive,I.ok.kind]
def JG(te:TE):TS:=fun D σ H=>te σ H fun _ H1=>D.nx σ H1
theorem Cw(he:PE X e te)(hs:swapsWith e none pos.line X.env=pure false:=by rfl):PS X (.Expr e pos) (JG te):=by
 intro pins s σ H D I h;exact wpAny_Expr_any (thn (he pins s σ H _ I h) fun v s1 ⟨x,H1,I1,r1,q1⟩=>⟨σ,H1,I1,q1⟩) I.quiet hs
def J5(te:TE):TS:=fun D σ H=>te σ H D.rt
theorem AK(he:PE X e te):PS X (.Return (some e) pos) (J5 te):=by
 intro pins s σ H D I h;exact wpAny_Return_some (thn (he pins s σ H _ I h) fun v s1 ⟨x,H1,I1,r1,q1⟩=>⟨x,σ,H1,I1,r1,q1⟩)
def Ky(c:TT)(t u:TS):TS:=fun D σ H=>c σ H fun b H1=>if b=true then t D σ H1 else u D σ H1
theorem Ai{c:Expr}{a b:List Stmt}{tc:TT}(hc:PT X c tc)(ha:PSs X a t)(hb:PSs X b u):PS X (.If c a b pos) (Ky tc t u):=by
 intro pins s σ H D I h;refine wpAny_If (thn (hc pins s σ H _ I h) fun d s1 ⟨H1,I1,q1⟩=>?_);cases d with
 | true=>exact ha pins s1 σ H1 D I1 q1
 | false=>exact hb pins s1 σ H1 D I1 q1
def LC:TS:=fun _ _ _=>False
theorem Qq{sts:List Stmt}:PSs X sts LC:=fun _ _ _ _ _ _ h=>h.elim
end
abbrev TG:=V->St->Hp->(St->Hp->Prop)->Prop
abbrev TGs:=List V->St->Hp->(St->Hp->Prop)->Prop
def PG(X:Cx)(target:Expr)(t:TG):Prop :=
 ∀(pins:List (Addr × Obj)) (s:Shared) (σ:St) (H:Hp) (v:V) (u:Value) (Q:St->Hp->Prop),Inv X pins σ H s->RelV v u->t v σ H Q ->
  wpAny (model X.prog X.w) X.A (assign target X.env u) (fun _ s'=>∃σ' H',Inv X pins σ' H' s'/\Q σ' H') X.xe s
def PGs(X:Cx)(ts:List Expr)(t:TGs):Prop :=
 ∀(pins:List (Addr × Obj)) (s:Shared) (σ:St) (H:Hp) (vs:List V) (us:List Value) (Q:St->Hp->Prop),Inv X pins σ H s->Vals vs us->t vs σ H Q ->
  wpAny (model X.prog X.w) X.A (assignInOrder ((assignEach ts X.env).map (·.2)) us) (fun _ s'=>∃σ' H',Inv X pins σ' H' s'/\Q σ' H') X.xe s
abbrev D2:=V->V->V->Hp->(Hp->Prop)->Prop
def G3(X:Cx)(t:D2):Prop :=
 ∀(pins:List (Addr × Obj)) (s:Shared) (σ:St) (H:Hp) (o i v:V) (ov iv u:Value) (Q:Hp->Prop),Inv X pins σ H s->RelV o ov->RelV i iv->RelV v u->t o i v H Q ->
  wpAny (model X.prog X.w) X.A (setItem ov iv u) (fun _ s'=>∃H',Inv X pins σ H' s'/\Q H') X.xe s
section
variable {X:Cx}{pos:Pos}
def Ae(i:Nat):TG:=fun v σ H Q=>Q (σ.set i (some v)) H
theorem AN{i:Nat}{x:Str}(hN:X.N.Nodup)(hi:X.N[i]? = some x)(hx:Loc X.env.scope x)(hf:X.fn x=true\/X.env.scope.names.lookup x=some .local:=by first | exact .inl rfl | exact .inr rfl | assumption):PG X (.Name x pos) (Ae i):=by
 intro pins s σ H v u Q I r h;exact wpAny_assign_Name (ME I hN hi hx r (fun s' I'=>⟨_,H,I',h⟩) hf)
def HY:TGs:=fun vs σ H Q=>vs=[]/\Q σ H
def JF(t:TG)(u:TGs):TGs:=fun vs σ H Q=>∃v r,vs=v::r/\t v σ H fun σ' H'=>u r σ' H' Q
theorem Df:PGs X [] HY:=by
 intro pins s σ H vs us Q I r h;obtain⟨e,h⟩:=h;subst e;cases r;exact assignInOrder_nil ⟨σ,H,I,h⟩
theorem B2 {e:Expr} {es:List Expr} {t:TG} {u:TGs} (h1:PG X e t) (h2:PGs X es u)
 (hs:(assignEach (e::es) X.env).map (·.2)=assign e X.env::(assignEach es X.env).map (·.2):=by rfl):PGs X (e::es) (JF t u):=by
 intro pins s σ H vs us Q I r h;obtain⟨v,vr,e1,h⟩:=h;subst e1;cases r with
 | cons r rr =>
  rw[hs];refine assignInOrder_cons (thn (h1 pins s σ H _ _ _ I r h) fun _ s1 ⟨σ1,H1,I1,q1⟩=>?_);exact h2 pins s1 σ1 H1 _ _ Q I1 rr q1
def Im(K:W.Frag)(n:Nat)(t:TGs):TG:=fun v σ H Q=>∃a xs,v=.ref a/\SqT K H a xs/\xs.length=n/\t xs σ H Q
theorem LL {es:List Expr} {k:Nat} {t:TGs} {n:Nat} (hc:X.calm=true) (h:PGs X es t)
 (hn:(assignEach es X.env).length=n:=by rfl) (hst:(assignEach es X.env).findIdx? (·.1)=none:=by rfl):PG X (.Tuple es k pos) (Im X.K n t):=by
 intro pins s σ H v u Q I r hw;obtain⟨a,xs,e1,hq,hl,hw⟩:=hw;subst e1;cases r;obtain⟨its,rv,ht,hz⟩:=I.tuple hq;refine assign_Tuple_tuple (I.ok.hd hc) ht (by simp[hn,<- hl,rv.length]) hst fun h' hx=>?_
 have I1:Inv X pins σ H { s with heap:=h' }:=I.kept (t':=s.toks) fun b o e=>hx b o (ZQ (ZI e)) e
 exact h pins _ σ H xs _ Q I1 (by simpa using rv) hw
def KU(to ti:TE)(t:D2):TG:=fun v σ H Q=>to σ H fun o H1=>ti σ H1 fun i H2=>t o i v H2 fun H3=>Q σ H3
theorem D1 {o i:Expr} {to ti:TE} {t:D2} (ho:PE X o to) (hi:PE X i ti) (hs:G3 X t)
 (ha:∀v,assign (.Subscript o i pos) X.env v=(do
   let ov <- holding [v] (eval o X.env);let iv <- holding [v,ov] (eval i X.env)
   standAt pos
   holding [v,ov,iv] (setItem ov iv v)
   release [v,ov,iv] []):=by intro _;rfl):PG X (.Subscript o i pos) (KU to ti t):=by
 intro pins s σ H v u Q I r h;rw[ha];refine ZA (Zl (thn (ho pins s σ H _ I h) fun ov s1 ⟨x,H1,I1,r1,q1⟩=>?_));refine ZA (Zl (thn (hi pins s1 σ H1 _ I1 q1) fun iv s2 ⟨y,H2,I2,r2,q2⟩=>?_));refine ZA (wpAny_standAt (ZA (Zl (thn (hs pins s2 σ H2 x y v ov iv u _ I2 r1 r2 r q2) fun _ s3 ⟨H3,I3,q3⟩=>?_))));exact wpAny_release ⟨σ,H3,I3,q3⟩
def Dr(te:TE)(g:TG):TS:=fun D σ H=>te σ H fun x H1=>g x σ H1 D.nx
theorem C9 {tg e:Expr} {te:TE} {g:TG} (he:PE X e te) (hg:PG X tg g) (hs:swapsWithSole [tg] e pos.line X.env=pure false:=by rfl) (hw:swappedStores [tg] e X.env=pure none:=by rfl)
 (h1:(assignEach [tg] X.env).map (·.2)=[assign tg X.env]:=by rfl):PS X (.Assign [tg] e pos) (Dr te g):=by
 intro pins s σ H D I h;refine wpAny_Assign_stores (thn (he pins s σ H _ I h) fun v s1 ⟨x,H1,I1,r1,q1⟩=>?_) hs hw;rw[h1];exact thn (hg pins s1 σ H1 x v _ I1 r1 q1) fun _ s2 q=>q
theorem AS{i:Nat}{x:Str}{e:Expr}{te:TE}{pos':Pos}(hN:X.N.Nodup)(hi:X.N[i]? = some x)(hx:Loc X.env.scope x)(he:PE X e te)(hs:swapsWith e (some (.Name x pos')) pos.line X.env=pure false:=by rfl)(hf:X.fn x=true\/X.env.scope.names.lookup x=some .local:=by first | exact .inl rfl | exact .inr rfl | assumption) :
 PS X (.Assign [.Name x pos'] e pos) (Dr te (Ae i)):=by
 intro pins s σ H D I h;refine wpAny_Assign_Name (thn (he pins s σ H _ I h) fun v s1 ⟨y,H1,I1,r1,q1⟩=>?_) hs;exact ME I1 hN hi hx r1 (fun s2 I2=>⟨_,H1,I2,q1⟩) hf
end
section
variable {X:Cx}{pos:Pos}
end
structure It where
 go:Nat->Hp->Prop
 yld:Nat->Hp->V->Hp->Prop
 stop:Nat->Hp->Prop
def Bn(X:Cx)(pins:List (Addr × Obj))(H:Hp)(b:Addr):Prop :=
 H b=none/\b≠X.env.locals/\b∉X.fs/\(b∈X.ex\/X.s₀.heap.objs.size<=b)/\(∀x c,X.env.cells.lookup x=some c->c≠b)/\∀p∈X.pn++pins,p.1≠b
theorem Inv.fpOk{X:Cx}{pins:List (Addr × Obj)}{σ:St}{H H':Hp}{s:Shared}{b:Addr}(I:Inv X pins σ H s)(hb:s.heap.objs.size<=b)(hn:H' b=none):Bn X pins H' b:=by
 refine⟨hn,Nat.ne_of_gt (Zd I.lt hb),I.nofs hb,.inr (ZP I.sz hb),fun x c e z=>?_,fun p hp z=>?_⟩
 ·obtain⟨v,q⟩:=I.cell x c e;exact absurd (Zd q.lt (by rw[z];exact hb)) (ZZ _)
 ·exact absurd (Zd (ZI (I.pin p hp).1) (by rw[z];exact hb)) (ZZ _)
structure Turn(P:Program)(w:World)(K:W.Frag)(tg:Expr)(J:It)(fp:List Addr)(it:Addr)(tn:Nat->Heap->Prop):Prop where
 mem:it∈fp
 obj:∀i h,tn i h->∀b∈fp,∃o,h.get? b=some o/\∀v,o.data≠.cell v
 keep:∀i h h',tn i h->(∀b∈fp,∀o,h.get? b=some o->h'.get? b=some o)->tn i h'
 item:∀(X:Cx),X.prog=P->X.w=w->X.K=K->X.calm=true->∀(i:Nat) (pins:List (Addr × Obj)) (s:Shared) (σ:St) (H:Hp) (E:Value->Shared->Prop),Inv X pins σ H s->(∀b∈fp,Bn X pins H b)->tn i s.heap->J.go i H ->
  wpAny (model P w) X.A (pyNext (.ref it)) (fun r s1=>∃u,r=some u /\
   wpAny (model P w) X.A (letOwnedTupleGo tg (.ref it) u) (fun _ s2=>∃x H',Inv X pins σ H' s2/\RelV x u/\J.yld i H x H'/\tn (i+1) s2.heap/\∀b∈fp,H' b=none) E s1) E s
 done:∀(X:Cx),X.prog=P->X.w=w->X.K=K->X.calm=true->∀(i:Nat) (pins:List (Addr × Obj)) (s:Shared) (σ:St) (H:Hp) (E:Value->Shared->Prop),Inv X pins σ H s->(∀b∈fp,Bn X pins H b)->tn i s.heap->J.stop i H ->
  wpAny (model P w) X.A (pyNext (.ref it)) (fun r s1=>r=none/\Inv X pins σ H s1) E s
 self:∀(A:Around) (i:Nat) (s:Shared) (Q:Value->Shared->Prop) (E:Value->Shared->Prop),tn i s.heap->Q (.ref it) s->wpAny (model P w) A (pyIter (.ref it)) Q E s
abbrev TI:=St->Hp->(It->Hp->Prop)->Prop
def PIE(X:Cx)(pins:List (Addr × Obj))(σ:St)(tg:Expr)(R:It->Hp->Prop)(itv:Value)(s2:Shared):Prop :=
 ∃(it:Addr) (fp:List Addr) (tn:Nat->Heap->Prop) (J:It) (H':Hp),itv=.ref it/\Inv X pins σ H' s2/\Turn X.prog X.w X.K tg J fp it tn/\tn 0 s2.heap/\(∀b∈fp,Bn X pins H' b)/\R J H'
def PI(X:Cx)(tg iter:Expr)(wi:TI):Prop :=
 ∀(pins:List (Addr × Obj)) (s:Shared) (σ:St) (H:Hp) (R:It->Hp->Prop),Inv X pins σ H s->wi σ H R ->
  wpAny (model X.prog X.w) X.A (eval iter X.env) (fun v s1=>wpAny (model X.prog X.w) X.A (pyIter v) (PIE X pins σ tg R) X.xe s1) X.xe s
theorem IL {M:Model} {A:Around} {E:Value->Shared->Prop} {s:Shared} {tg:Expr} {it:Addr} {u:Value} {o:Obj} {n:String} {vs:Array Value} {Q:Unit->Shared->Prop} (ho:s.heap.get? it=some o) (hc:o.cls=.type n) (hd:o.data=.fields vs)
 (hn:["enumerate","zip","dict_itemiterator","dict_reverseitemiterator","odict_iterator","itertools.zip_longest","itertools.pairwise"].contains n=false) (hQ:Q () s):wpAny M A (letOwnedTupleGo tg (.ref it) u) Q E s:=by
 unfold letOwnedTupleGo
 cases tg <;> first
  | exact ZB hQ
  | (cases u <;> first
      | exact ZB hQ
      | (refine ZA (wpAny_load ho ?_)
         rw[hc,hd];show wpAny M A (if (["enumerate","zip","dict_itemiterator","dict_reverseitemiterator","odict_iterator","itertools.zip_longest","itertools.pairwise"].contains n && vs[0]? == some (rawInt _))=true then _ else _) Q E s;rw[if_neg (by intro h;rw[hn,Bool.false_and]at h;cases h)];exact ZB hQ))
def Itl(K:W.Frag)(a:Addr):It :=
 ⟨fun i H=>∃xs x,SqL K H a xs/\xs[i]? = some x,fun i H x H'=>H'=H/\∀xs,SqL K H a xs->xs[i]? = some x,fun i H=>∃xs,SqL K H a xs/\xs.length<=i⟩
def Itt(K:W.Frag)(a:Addr):It :=
 ⟨fun i H=>∃xs x,SqT K H a xs/\xs[i]? = some x,fun i H x H'=>H'=H/\∀xs,SqT K H a xs->xs[i]? = some x,fun i H=>∃xs,SqT K H a xs/\xs.length<=i⟩
def Itr(lo:Int)(n:Nat):It:=⟨fun i _=>i < n,fun i H x H'=>H'=H/\x=.int (lo+i),fun i _=>n<=i⟩
theorem UN{P:Program}{w:World}{K:W.Frag}{tg:Expr}(a it:Addr):Turn P w K tg (Itl K a) [it] it (fun i h=>h.IsListIter it a i) where
 mem:=by simp
 obj:=fun i h st b hb=>by
  have e:b=it:=by simpa using hb
  subst e;obtain⟨o,e,c,d⟩:=st;exact⟨o,e,fun v z=>by rw[d]at z;cases z⟩
 keep:=fun i h h' st k=>st.at fun o e=>k it (by simp) o e
 item:=by
  intro X hP hw hK hc i pins s σ H E I hf st hg;subst hP hw hK;obtain⟨xs,x,hq,hx⟩:=hg;obtain⟨its,rv,p,hz⟩:=I.list hq;obtain⟨u,hu,ru⟩:=rv.get hx;obtain⟨f0,f1,f2,f3,f4,f5⟩:=hf it (by simp);refine wpAny_pyNext_list_item st p.isList (x:=u) (by simpa using hu) fun h' st' sb=>?_
  have I1:Inv X pins σ H { s with heap:=h' }:=I.turned (t':=s.toks) (fun b o hb e=>(sb.2 b hb).trans e) f0 f1 f3 f4 f5;obtain⟨o,e,c,d⟩:=id st';exact⟨u,rfl,IL (s:={ s with heap:=h' }) e c d (by decide) ⟨x,H,I1,ru,⟨rfl,fun ys hy=>by rw[I.list_inj hy hq];exact hx⟩,st',fun b hb=>(hf b hb).1⟩⟩
 done:=by
  intro X hP hw hK hc i pins s σ H E I hf st hg;subst hP hw hK;obtain⟨xs,hq,hx⟩:=hg;obtain⟨its,rv,p,hz⟩:=I.list hq;obtain⟨f0,f1,f2,f3,f4,f5⟩:=hf it (by simp);have hl:=rv.length;exact wpAny_pyNext_list_end (I.ok.hd hc) st p.isList (by simp;lia) fun h' eb=>⟨rfl,I.turned (t':=s.toks) (fun b o hb e=>eb b o hb e) f0 f1 f3 f4 f5⟩
 self:=fun _ _ _ _ _ st h=>wpAny_pyIter_listiter st h
theorem SO{P:Program}{w:World}{K:W.Frag}{tg:Expr}(a it:Addr):Turn P w K tg (Itt K a) [it] it (fun i h=>h.IsTupleIter it a i) where
 mem:=by simp
 obj:=fun i h st b hb=>by
  have e:b=it:=by simpa using hb
  subst e;obtain⟨o,e,c,d⟩:=st;exact⟨o,e,fun v z=>by rw[d]at z;cases z⟩
 keep:=fun i h h' st k=>st.at fun o e=>k it (by simp) o e
 item:=by
  intro X hP hw hK hc i pins s σ H E I hf st hg;subst hP hw hK;obtain⟨xs,x,hq,hx⟩:=hg;obtain⟨its,rv,p,hz⟩:=I.tuple hq;obtain⟨u,hu,ru⟩:=rv.get hx;obtain⟨f0,f1,f2,f3,f4,f5⟩:=hf it (by simp);refine wpAny_pyNext_tuple_item st (show s.heap.IsTuple a its.toArray from p) (x:=u) (by simpa using hu) fun h' st' sb=>?_
  have I1:Inv X pins σ H { s with heap:=h' }:=I.turned (t':=s.toks) (fun b o hb e=>(sb.2 b hb).trans e) f0 f1 f3 f4 f5;obtain⟨o,e,c,d⟩:=id st';exact⟨u,rfl,IL (s:={ s with heap:=h' }) e c d (by decide) ⟨x,H,I1,ru,⟨rfl,fun ys hy=>by rw[I.tuple_inj hy hq];exact hx⟩,st',fun b hb=>(hf b hb).1⟩⟩
 done:=by
  intro X hP hw hK hc i pins s σ H E I hf st hg;subst hP hw hK;obtain⟨xs,hq,hx⟩:=hg;obtain⟨its,rv,p,hz⟩:=I.tuple hq;obtain⟨f0,f1,f2,f3,f4,f5⟩:=hf it (by simp);have hl:=rv.length;exact wpAny_pyNext_tuple_end (I.ok.hd hc) st (show s.heap.IsTuple a its.toArray from p) (by simp;lia) fun h' eb=>⟨rfl,I.turned (t':=s.toks) (fun b o hb e=>eb b o hb e) f0 f1 f3 f4 f5⟩
 self:=fun _ _ _ _ _ st h=>wpAny_pyIter_tupleiter st h
theorem UP{P:Program}{w:World}{K:W.Frag}{tg:Expr}(it:Addr)(lo:Int)(n:Nat):Turn P w K tg (Itr lo n) [it] it (fun i h=>IsRangeIter h it (lo+(i:Nat) * 1) ((n:Int) - (i:Nat)) 1) where
 mem:=by simp
 obj:=fun i h st b hb=>by
  have e:b=it:=by simpa using hb
  subst e
  exact⟨_,st,fun v z=>by
   have z':Data.fields _=Data.cell v:=z;cases z'⟩
 keep:=fun i h h' st k=>k it (by simp) _ st
 item:=by
  intro X hP hw hK hc i pins s σ H E I hf st hg;subst hP hw hK;obtain⟨f0,f1,f2,f3,f4,f5⟩:=hf it (by simp);have W:=Walks.range (prog:=X.prog) (w:=X.w) (I.ok.hd hc) it lo 1 n;refine W.item i s _ _ hg st fun v h' tk hv st' kk=>?_
  obtain⟨t,rfl⟩:=hv;have I1:Inv X pins σ H { s with heap:=h',toks:=tk }:=I.turned (fun b o hb e=>kk b o (by simpa using hb) e) f0 f1 f3 f4 f5;refine⟨_,rfl,IL (s:={ s with heap:=h',toks:=tk }) (n:="range_iterator") st' rfl rfl (by decide) ⟨.int (lo+i),H,I1,⟨t,?_⟩,⟨rfl,rfl⟩,st',fun b hb=>(hf b hb).1⟩⟩;rw[Int.mul_one]
 done:=by
  intro X hP hw hK hc i pins s σ H E I hf st hg;subst hP hw hK;obtain⟨f0,f1,f2,f3,f4,f5⟩:=hf it (by simp);exact wpAny_pyNext_range_end (I.ok.hd hc) st (by have:n<=i:=hg;lia) fun h' eb=>⟨rfl,I.turned (t':=s.toks) (fun b o hb e=>eb b o hb e) f0 f1 f3 f4 f5⟩
 self:=fun _ _ _ _ _ st h=>wpAny_pyIter_rangeiter st h
section
variable {X:Cx}{tg:Expr}
theorem Ln {pins:List (Addr × Obj)} {σ:St} {H:Hp} {s:Shared} {R:It->Hp->Prop} {E:Value->Shared->Prop} {lo hi:Int} {t u v:Tok} {tk:Nat} (I:Inv X pins σ H s) (h1 : -(2 ^ 62)<=lo) (h2:lo < 2 ^ 62) (h3 : -(2 ^ 62)<=hi) (h4:hi < 2 ^ 62)
 (q:R (Itr lo (hi - lo).toNat) H):wpAny (model X.prog X.w) X.A (pyIter (.ref s.heap.objs.size)) (PIE X pins σ tg R) E { s with heap:=s.heap.push { cls:=.type "range",data:=.fields #[.int lo t,.int hi u,.int 1 v] },toks:=tk }:=by
 refine wpAny_pyIter_range (IsRange.new ..) (small_one h1 h2 h3 h4) ?_;have I1:Inv X pins σ H { s with heap:=s.heap.push { cls:=.type "range",data:=.fields #[.int lo t,.int hi u,.int 1 v] },toks:=tk }:=I.kept fun b o e=>ZJ _ e
 refine⟨(s.heap.push { cls:=.type "range",data:=.fields #[.int lo t,.int hi u,.int 1 v] }).objs.size,[(s.heap.push { cls:=.type "range",data:=.fields #[.int lo t,.int hi u,.int 1 v] }).objs.size],_,_,H,rfl,
  I1.kept (t':=tk) fun b o e=>ZJ _ e,UP _ lo (hi - lo).toNat,?_,fun b hb=>?_,q⟩
 ·have e1:lo+((0:Nat):Int) * 1=lo:=by simp
  have e2:(((hi - lo).toNat:Nat):Int) - ((0:Nat):Int)=Builtin.Range.rangeSize lo hi 1:=by rw[rangeSize_one];split <;> lia
  show IsRangeIter _ _ (lo+((0:Nat):Int) * 1) ((((hi - lo).toNat:Nat):Int) - ((0:Nat):Int)) 1;rw[e1,e2];exact ZR _ rfl
 ·have e:b=(s.heap.push { cls:=.type "range",data:=.fields #[.int lo t,.int hi u,.int 1 v] }).objs.size:=by simpa using hb
  subst e;exact I1.fpOk (ZD _) (I1.hok.fresh (ZD _))
def Kr(ta:TA):TI:=fun σ H R=>ta σ H fun vs H1=>∃j:Int,vs=[.int j] /\ -(2 ^ 62)<=j/\j < 2 ^ 62/\R (Itr 0 j.toNat) H1
def KS(ta:TA):TI:=fun σ H R=>ta σ H fun vs H1=>∃i j:Int,vs=[.int i,.int j]/\(-(2 ^ 62)<=i/\i < 2 ^ 62 /\ -(2 ^ 62)<=j/\j < 2 ^ 62)/\R (Itr i (j - i).toNat) H1
theorem BA{a:Expr}{ta:TA}{p pos:Pos}(hg:Gl X "range")(hm:X.mg "range" = none)(ha:PA X [a] ta)(hs:starEach [a] X.env=[(false,eval a X.env)]:=by rfl):PI X tg (.Call (.Name "range" p) [a] [] pos) (Kr ta):=by
 intro pins s σ H R I h;refine Call_ (DA I hg hm boot_range (PyProof.Rows.callWith_type1 (thn (ha pos pins s σ H _ I h) fun us s1 ⟨vs,H1,I1,r1,q1⟩=>?_) hs rfl));obtain⟨j,e,q1,q2,q⟩:=q1;subst e;cases r1 with
 | cons r rr =>
  cases rr;obtain⟨t,rfl⟩:=r;exact call_range_1 (Ln I1 (by lia) (by lia) q1 q2 (by simpa using q))
theorem MJ{a b:Expr}{ta:TA}{p pos:Pos}(hg:Gl X "range")(hm:X.mg "range" = none)(ha:PA X [a,b] ta)(hs:starEach [a,b] X.env=[(false,eval a X.env),(false,eval b X.env)]:=by rfl)(hs2:starEach [b] X.env=[(false,eval b X.env)]:=by rfl) :
 PI X tg (.Call (.Name "range" p) [a,b] [] pos) (KS ta):=by
 intro pins s σ H R I h;refine Call_ (DA I hg hm boot_range (PyProof.Rows.callWith_type1 (thn (ha pos pins s σ H _ I h) fun us s1 ⟨vs,H1,I1,r1,q1⟩=>?_) (by rw[hs,hs2]) (by rw[hs2];rfl)));obtain⟨i,j,e,⟨q1,q2,q3,q4⟩,q⟩:=q1;subst e;cases r1 with
 | cons r rr =>
  cases rr with
  | cons r' rr =>
   cases rr;obtain⟨t,rfl⟩:=r;obtain⟨t',rfl⟩:=r';exact call_range_2 (Ln I1 q1 q2 q3 q4 q)
def Ll(wi:TI)(g:TG)(tb:TS):TS:=fun D σ H=>wi σ H fun J H1=>∃W:Nat->Nat->St->Hp->Prop,(∃m,W 0 m σ H1)/\∀i m σ H,W i m σ H ->
 (J.stop i H/\D.nx σ H)\/(J.go i H/\∃N:St->Hp->Prop,(∀σ' H',N σ' H'->∃m',m' < m/\W (i+1) m' σ' H')/\∀x H',J.yld i H x H'->g x σ H' fun σ2 H2=>tb { D with nx:=N,ct:=N,bk:=D.nx } σ2 H2)
def B5(fp:List Addr)(h:Heap):List (Addr × Obj):=fp.filterMap fun b=>(h.get? b).map fun o=>(b,o)
theorem Do{fp:List Addr}{h:Heap}{b:Addr}{o:Obj}(hb:b∈fp)(e:h.get? b=some o):(b,o)∈B5 fp h:=ZB6.mpr ⟨b,hb,by rw[e];rfl⟩
theorem GY{fp:List Addr}{h:Heap}{p:Addr × Obj}(hp:p∈B5 fp h):p.1∈fp/\h.get? p.1=some p.2:=by
 obtain⟨b,hb,e⟩:=ZB6.mp hp;cases q:h.get? b with
 | none=>rw[q]at e;cases e
 | some o =>
  rw[q]at e;have e':(b,o)=p:=ZW e;subst e';exact⟨hb,q⟩
theorem Inv.pinned{pins:List (Addr × Obj)}{σ:St}{H:Hp}{s:Shared}{fp:List Addr}(I:Inv X pins σ H s)(hf:∀b∈fp,Bn X pins H b)(ho:∀b∈fp,∃o,s.heap.get? b=some o/\∀v,o.data≠.cell v):Inv X (pins++B5 fp s.heap) σ H s :=
 I.pins_of fun p hp=>(ZH.mp hp).elim (fun z=>I.pin p (Zh _ z)) fun z=>by
  obtain⟨hb,e⟩:=GY z;obtain⟨f0,f1,f2,_⟩:=hf p.1 hb;obtain⟨o,e',d⟩:=ho p.1 hb;rw[e]at e';cases e';exact⟨e,f0,f1,f2,d⟩
theorem Inv.unpinned{pins pl:List (Addr × Obj)}{σ:St}{H:Hp}{s:Shared}(I:Inv X (pins++pl) σ H s):Inv X pins σ H s:=I.pins_of fun p hp=>I.pin p (Zh _ (Z1 _ hp))
theorem BF {iter:Expr} {body:List Stmt} {wi:TI} {g:TG} {tb:TS} {pos:Pos} (hp:PassesOwn (model X.prog X.w) X.A X.env X.xe) (hc:X.calm=true) (hi:PI X tg iter wi) (hg:PG X tg g) (hb:PSs X body tb)
 (hs:∀x,foldedSetIterable iter X.env x=pure x:=by intro _;rfl):PS X (.For tg iter body [] pos) (Ll wi g tb):=by
 intro pins s σ H D I h;refine wpAny_For (thn (hi pins s σ H _ I h) fun v s1 h1=>thn h1 fun itv s2 h2=>?_) hs;obtain⟨it,fp,tn,J,H2,e,I2,T,st2,f2,W,⟨m0,w0⟩,turn⟩:=h2;subst e
 -- what stays true of the iterator's objects through the loop
 have stat:∀{H':Hp},(∀b∈fp,H' b=none)->∀b∈fp,Bn X pins H' b:=fun hn b hb=>⟨hn b hb,(f2 b hb).2⟩
 refine codeAny_forLoop_any (fun n s'=>∃i σ' H',Inv X pins σ' H' s'/\tn i s'.heap/\(∀b∈fp,H' b=none)/\W i n σ' H') ?_ m0 ⟨0,σ,H2,I2,st2,fun b hb=>(f2 b hb).1,w0⟩;rintro n s3 ⟨i,σ3,H3,I3,st3,fr3,w3⟩
 rcases turn i n σ3 H3 w3 with ⟨stop,qn⟩ | ⟨go,N,hN,step⟩
 ·refine wpAny_passesOwn hp (thn (T.done X rfl rfl rfl hc i pins s3 σ3 H3 X.xe I3 (stat fr3) st3 stop) fun r s4 ⟨hr,I4⟩=>?_);subst hr;exact wpAny_execs_nil ⟨σ3,H3,I4,qn⟩
 ·refine wpAny_passesOwn hp (thn (T.item X rfl rfl rfl hc i pins s3 σ3 H3 X.xe I3 (stat fr3) st3 go) fun r s4 ⟨u,hr,h4⟩=>?_);subst hr;refine wpAny_passesOwn hp (thn h4 fun _ s5 ⟨x,H5,I5,r5,y5,st5,fr5⟩=>?_);have I5':=I5.pinned (stat fr5) (T.obj _ _ st5);refine wpAny_passesOwn hp (thn (hg _ s5 σ3 H5 x u _ I5' r5 (step x H5 y5)) fun _ s6 ⟨σ6,H6,I6,q6⟩=>?_);refine wpAny_passesOwn hp (thn (hb _ s6 σ6 H6 _ I6 q6) fun f s7 q7=>?_)
  have again:∀{σ7:St} {H7:Hp},Inv X (pins++B5 fp s5.heap) σ7 H7 s7->N σ7 H7->∃m,m < n/\∃i σ' H',Inv X pins σ' H' s7/\tn i s7.heap/\(∀b∈fp,H' b=none)/\W i m σ' H':=fun {σ7 H7} I7 n7=>by
   obtain⟨m',hm,w7⟩:=hN σ7 H7 n7;refine⟨m',hm,i+1,σ7,H7,I7.unpinned,T.keep _ _ _ st5 fun b hb o e=>(I7.pin (b,o) (Zh _ (Zh _ (Do hb e)))).1,fun b hb=>?_,w7⟩;obtain⟨o,e,d⟩:=T.obj _ _ st5 b hb;exact(I7.pin (b,o) (Zh _ (Zh _ (Do hb e)))).2.1
  cases f with
  | next=>obtain⟨σ7,H7,I7,n7⟩:=q7;exact again I7 n7
  | cont=>obtain⟨σ7,H7,I7,n7⟩:=q7;exact again I7 n7
  | brk=>obtain⟨σ7,H7,I7,q7⟩:=q7;exact⟨σ7,H7,I7.unpinned,q7⟩
  | ret v=>obtain⟨x7,σ7,H7,I7,r7,q7⟩:=q7;exact⟨x7,σ7,H7,I7.unpinned,r7,q7⟩
end
theorem Fp {K:W.Frag} {a:Addr} {xs:List V} {g:TG} {tb:TS} {D:Ends} {σ:St} {H:Hp} (Pv:Nat->St->Hp->Prop) (h0:Pv 0 σ H) (hl:∀i σ H,i<=xs.length->Pv i σ H->SqL K H a xs)
 (hs:∀i x σ H,xs[i]? = some x->Pv i σ H->g x σ H fun σ2 H2=>tb { D with nx:=Pv (i+1),ct:=Pv (i+1),bk:=D.nx } σ2 H2) (hd:∀σ H,Pv xs.length σ H->D.nx σ H) :
 ∃W:Nat->Nat->St->Hp->Prop,(∃m,W 0 m σ H)/\∀i m σ H,W i m σ H ->
  ((Itl K a).stop i H/\D.nx σ H)\/((Itl K a).go i H/\∃N:St->Hp->Prop,(∀σ' H',N σ' H'->∃m',m' < m/\W (i+1) m' σ' H')/\∀x H',(Itl K a).yld i H x H'->g x σ H' fun σ2 H2=>tb { D with nx:=N,ct:=N,bk:=D.nx } σ2 H2):=by
 refine⟨fun i m σ H=>m=xs.length - i/\i<=xs.length/\Pv i σ H,⟨xs.length,by simp,ZU _,h0⟩,?_⟩;rintro i m σ H ⟨rfl,hi,p⟩;have q:=hl i σ H hi p
 by_cases hlt:i < xs.length
 ·refine .inr ⟨⟨xs,xs[i],q,by simp[hlt]⟩,Pv (i+1),fun σ' H' p'=>⟨xs.length - (i+1),by lia,rfl,hlt,p'⟩,fun x H' y=>?_⟩;obtain⟨e,y⟩:=y;subst e;exact hs i x σ _ (y xs q) p
 ·have e:i=xs.length:=by lia
  subst e;exact .inl ⟨⟨xs,q,ZD _⟩,hd σ H p⟩
theorem D7 {K:W.Frag} {a:Addr} {xs:List V} {g:TG} {tb:TS} {D:Ends} {σ:St} {H:Hp} (Pv:Nat->St->Hp->Prop) (h0:Pv 0 σ H) (hl:∀i σ H,i<=xs.length->Pv i σ H->SqT K H a xs)
 (hs:∀i x σ H,xs[i]? = some x->Pv i σ H->g x σ H fun σ2 H2=>tb { D with nx:=Pv (i+1),ct:=Pv (i+1),bk:=D.nx } σ2 H2) (hd:∀σ H,Pv xs.length σ H->D.nx σ H) :
 ∃W:Nat->Nat->St->Hp->Prop,(∃m,W 0 m σ H)/\∀i m σ H,W i m σ H ->
  ((Itt K a).stop i H/\D.nx σ H)\/((Itt K a).go i H/\∃N:St->Hp->Prop,(∀σ' H',N σ' H'->∃m',m' < m/\W (i+1) m' σ' H')/\∀x H',(Itt K a).yld i H x H'->g x σ H' fun σ2 H2=>tb { D with nx:=N,ct:=N,bk:=D.nx } σ2 H2):=by
 refine⟨fun i m σ H=>m=xs.length - i/\i<=xs.length/\Pv i σ H,⟨xs.length,by simp,ZU _,h0⟩,?_⟩;rintro i m σ H ⟨rfl,hi,p⟩;have q:=hl i σ H hi p
 by_cases hlt:i < xs.length
 ·refine .inr ⟨⟨xs,xs[i],q,by simp[hlt]⟩,Pv (i+1),fun σ' H' p'=>⟨xs.length - (i+1),by lia,rfl,hlt,p'⟩,fun x H' y=>?_⟩;obtain⟨e,y⟩:=y;subst e;exact hs i x σ _ (y xs q) p
 ·have e:i=xs.length:=by lia
  subst e;exact .inl ⟨⟨xs,q,ZD _⟩,hd σ H p⟩
theorem B8 {lo:Int} {n:Nat} {g:TG} {tb:TS} {D:Ends} {σ:St} {H:Hp} (Pv:Nat->St->Hp->Prop) (h0:Pv 0 σ H)
 (hs:∀i σ H,i < n->Pv i σ H->g (.int (lo+i)) σ H fun σ2 H2=>tb { D with nx:=Pv (i+1),ct:=Pv (i+1),bk:=D.nx } σ2 H2) (hd:∀σ H,Pv n σ H->D.nx σ H) :
 ∃W:Nat->Nat->St->Hp->Prop,(∃m,W 0 m σ H)/\∀i m σ H,W i m σ H ->
  ((Itr lo n).stop i H/\D.nx σ H)\/((Itr lo n).go i H/\∃N:St->Hp->Prop,(∀σ' H',N σ' H'->∃m',m' < m/\W (i+1) m' σ' H')/\∀x H',(Itr lo n).yld i H x H'->g x σ H' fun σ2 H2=>tb { D with nx:=N,ct:=N,bk:=D.nx } σ2 H2):=by
 refine⟨fun i m σ H=>m=n - i/\i<=n/\Pv i σ H,⟨n,by simp,ZU _,h0⟩,?_⟩;rintro i m σ H ⟨rfl,hi,p⟩
 by_cases hlt:i < n
 ·refine .inr ⟨hlt,Pv (i+1),fun σ' H' p'=>⟨n - (i+1),by lia,rfl,hlt,p'⟩,fun x H' y=>?_⟩;obtain⟨e,y⟩:=y;subst e y;exact hs i σ _ hlt p
 ·have e:i=n:=by lia
  subst e;exact .inl ⟨ZD _,hd σ H p⟩
abbrev R2:=V->V->Hp->VK->Prop
def OpR(X:Cx)(f:Value->Value->Sem Value)(r:R2):Prop :=
 ∀(pins:List (Addr × Obj)) (s:Shared) (σ:St) (H:Hp) (x y:V) (v u:Value) (Q:VK),Inv X pins σ H s->RelV x v->RelV y u->r x y H Q ->
  wpAny (model X.prog X.w) X.A (f v u) (EP X pins σ Q) X.xe s
def UnR(X:Cx)(f:Value->Sem Value)(r:V->Hp->VK->Prop):Prop :=
 ∀(pins:List (Addr × Obj)) (s:Shared) (σ:St) (H:Hp) (x:V) (v:Value) (Q:VK),Inv X pins σ H s->RelV x v->r x H Q ->
  wpAny (model X.prog X.w) X.A (f v) (EP X pins σ Q) X.xe s
def CallR(X:Cx)(f:Value)(r:List V->Hp->VK->Prop):Prop :=
 ∀(pins:List (Addr × Obj)) (s:Shared) (σ:St) (H:Hp) (xs:List V) (us:List Value) (Q:VK),Inv X pins σ H s->Vals xs us->r xs H Q ->
  wpAny (model X.prog X.w) X.A (call f us) (EP X pins σ Q) X.xe s
def tOp(r:R2)(ta tb:TE):TE:=fun σ H Q=>ta σ H fun x H1=>tb σ H1 fun y H2=>r x y H2 Q
def tUn(r:V->Hp->VK->Prop)(ta:TE):TE:=fun σ H Q=>ta σ H fun x H1=>r x H1 Q
def rI(C:Int->Int->Prop)(g:Int->Int->V):R2:=fun x y H Q=>∃i j,x=.int i/\y=.int j/\C i j/\Q (g i j) H
def rI0(g:Int->Int->V):R2:=fun x y H Q=>∃i j,x=.int i/\y=.int j/\Q (g i j) H
def rU(g:Int->V):V->Hp->VK->Prop:=fun x H Q=>∃i,x=.int i/\Q (g i) H
section
variable {X:Cx}{a b c:Expr}{ta tb tc:TE}{pos:Pos}
theorem Ip (ha:PE X a ta) (hb:PE X b tb) {pins:List (Addr × Obj)} {s:Shared} {σ:St} {H:Hp} {R:V->V->Hp->Prop} (I:Inv X pins σ H s)
 (h:ta σ H fun x H1=>tb σ H1 fun y H2=>R x y H2) {Q:Value->Shared->Prop} {f:Value->Value->Sem Value}
 (hf:∀v u s2 x y H2,Inv X pins σ H2 s2->RelV x v->RelV y u->R x y H2->wpAny (model X.prog X.w) X.A (f v u) Q X.xe s2) :
 wpAny (model X.prog X.w) X.A (eval a X.env) (fun v s₁=>wpAny (model X.prog X.w) X.A (eval b X.env) (fun u s₂=>wpAny (model X.prog X.w) X.A (f v u) Q X.xe s₂) X.xe s₁) X.xe s:=by
 refine thn (ha pins s σ H _ I h) fun v s1 ⟨x,H1,I1,r1,q1⟩=>?_
 refine thn (hb pins s1 σ H1 _ I1 q1) fun u s2 ⟨y,H2,I2,r2,q2⟩=>?_
 exact hf v u s2 x y H2 I2 r1 r2 q2
theorem AI{op:Operator}{r:R2}(ho:OpR X (binaryOp op) r)(ha:PE X a ta)(hb:PE X b tb):PE X (.BinOp a op b pos) (tOp r ta tb):=by
 intro pins s σ H Q I h;exact wpAny_BinOp (Ip ha hb I h fun v u s2 x y H2 I2 rx ry q=>ho pins s2 σ H2 x y v u Q I2 rx ry q)
theorem CM{op:UnaryOp}{r:V->Hp->VK->Prop}(ho:UnR X (unaryOp op) r)(ha:PE X a ta):PE X (.UnaryOp op a pos) (tUn r ta):=by
 intro pins s σ H Q I h;exact UnaryOp_ (thn (ha pins s σ H _ I h) fun v s1 ⟨x,H1,I1,r1,q1⟩=>ho pins s1 σ H1 x v Q I1 r1 q1)
theorem opI {f:Value->Value->Sem Value} {C:Int->Int->Prop} {g:Int->Int->Int}
 (rule:∀(i j:Int) (t u:Tok) (s:Shared) (Q:Value->Shared->Prop) (E:Value->Shared->Prop),C i j->Q (.int (g i j) s.toks) { s with toks:=s.toks+1 } -> wpAny (model X.prog X.w) X.A (f (.int i t) (.int j u)) Q E s) :
 OpR X f (rI C fun i j=>.int (g i j)):=by
 intro pins s σ H x y v u Q I rx ry h;obtain⟨i,j,rfl,rfl,hc,q⟩:=h;obtain⟨t,rfl⟩:=rx;obtain⟨t',rfl⟩:=ry;exact rule i j t t' s _ _ hc ⟨.int (g i j),H,I.tok _,⟨_,rfl⟩,q⟩
theorem Hu {f:Value->Value->Sem Value} {g:Int->Int->Int}
 (rule:∀(i j:Int) (t u:Tok) (s:Shared) (Q:Value->Shared->Prop) (E:Value->Shared->Prop),Q (.int (g i j) s.toks) { s with toks:=s.toks+1 } -> wpAny (model X.prog X.w) X.A (f (.int i t) (.int j u)) Q E s) :
 OpR X f (rI0 fun i j=>.int (g i j)):=by
 intro pins s σ H x y v u Q I rx ry h;obtain⟨i,j,rfl,rfl,q⟩:=h;obtain⟨t,rfl⟩:=rx;obtain⟨t',rfl⟩:=ry;exact rule i j t t' s _ _ ⟨.int (g i j),H,I.tok _,⟨_,rfl⟩,q⟩
theorem E6 {f:Value->Value->Sem Value} {g:Int->Int->Bool}
 (rule:∀(i j:Int) (t u:Tok) (s:Shared) (Q:Value->Shared->Prop) (E:Value->Shared->Prop),Q (.bool (g i j)) s->wpAny (model X.prog X.w) X.A (f (.int i t) (.int j u)) Q E s) :
 OpR X f (rI0 fun i j=>.bl (g i j)):=by
 intro pins s σ H x y v u Q I rx ry h;obtain⟨i,j,rfl,rfl,q⟩:=h;obtain⟨t,rfl⟩:=rx;obtain⟨t',rfl⟩:=ry;exact rule i j t t' s _ _ ⟨.bl (g i j),H,I,rfl,q⟩
def Fn(i j:Int):Prop:=0<=j/\j<=1000000/\i.natAbs < 2 ^ 64
def CMul(i j:Int):Prop:=(-(2 ^ 64) < i/\i < 2 ^ 64)\/(-(2 ^ 64) < j/\j < 2 ^ 64)
theorem CMul.ok{i j:Int}(h:CMul i j):IntMulOk i j:=by
 rcases h with ⟨h1,h2⟩ | ⟨h1,h2⟩
 ·exact .of_left (intBits_le_64 h1 h2)
 ·exact .of_right (intBits_le_64 h1 h2)
theorem OF(k:Nat):(0:Int)<=2 ^ k:=by
 rw[two_pow_cast];exact ZB7 _
theorem Gg:OpR X (binaryOp .Add) (rI0 fun i j=>.int (i+j)):=Hu fun _ _ _ _ _ _ _ q=>add_int q
theorem Uu:OpR X (binaryOp .Sub) (rI0 fun i j=>.int (i - j)):=Hu fun _ _ _ _ _ _ _ q=>sub_int q
theorem N6:OpR X (binaryOp .Mod) (rI (fun _ j=>0 < j) fun i j=>.int (i % j)):=opI fun i j _ _ _ _ _ hc q=>by
 have h1:(0:Int) < j:=hc;exact mod_int' (by lia) (by rw[Int.fmod_eq_emod_of_nonneg i (by lia)];exact q)
theorem Sj:OpR X (binaryOp .Pow) (rI Fn fun i j=>.int (i ^ j.toNat)):=opI fun _ _ _ _ _ _ _ hc q=>pow_int_small hc.1 hc.2.1 hc.2.2 q
theorem PZ:OpR X (binaryOp .LShift) (rI Fn fun i j=>.int (i * 2 ^ j.toNat)):=opI fun _ _ _ _ _ _ _ hc q=>lshift_int_small hc.1 hc.2.1 hc.2.2 q
theorem Qe:OpR X (binaryOp .RShift) (rI (fun _ j=>0<=j) fun i j=>.int (i / 2 ^ j.toNat)):=opI fun i j _ _ _ _ _ hc q =>
 rshift_int hc (by rw[Int.fdiv_eq_ediv_of_nonneg i (OF _)];exact q)
theorem TK:OpR X (binaryOp .BitAnd) (rI0 fun i j=>.int (Builtin.bitAnd i j)):=Hu fun _ _ _ _ _ _ _ q=>and_int q
theorem unI {f:Value->Sem Value} {g:Int->Int}
 (rule:∀(i:Int) (t:Tok) (s:Shared) (Q:Value->Shared->Prop) (E:Value->Shared->Prop),Q (.int (g i) s.toks) { s with toks:=s.toks+1 } -> wpAny (model X.prog X.w) X.A (f (.int i t)) Q E s) :
 UnR X f (rU fun i=>.int (g i)):=by
 intro pins s σ H x v Q I rx h;obtain⟨i,rfl,q⟩:=h;obtain⟨t,rfl⟩:=rx;exact rule i t s _ _ ⟨.int (g i),H,I.tok _,⟨_,rfl⟩,q⟩
theorem SS:UnR X (unaryOp .USub) (rU fun i=>.int (-i)):=unI fun _ _ _ _ _ q=>neg_int q
end
section
variable {X:Cx}{a b c:Expr}{ta tb tc:TE}{pos:Pos}
theorem RK{pins:List (Addr × Obj)}{σ:St}{H:Hp}{s:Shared}{Q:VK}{k k':Bool}(I:Inv X pins σ H s)(q:Q (.bl k) H)(e:k=k'):EP X pins σ Q (.bool k') s:=by
 subst e;exact⟨.bl k,H,I,rfl,q⟩
theorem Tp:OpR X (compareOp .Lt) (rI0 fun i j=>.bl (decide (i < j))):=E6 fun _ _ _ _ _ _ _ q=>lt_int q
theorem OT:OpR X (compareOp .LtE) (rI0 fun i j=>.bl (decide (i<=j))):=E6 fun _ _ _ _ _ _ _ q=>le_int q
theorem Si:OpR X (compareOp .Gt) (rI0 fun i j=>.bl (decide (j < i))):=E6 fun _ _ _ _ _ _ _ q=>gt_int q
theorem Qr:OpR X (compareOp .GtE) (rI0 fun i j=>.bl (decide (j<=i))):=E6 fun _ _ _ _ _ _ _ q=>ge_int q
theorem QE:OpR X (compareOp .IsNot) (fun x y H Q=>y=.non/\Q (.bl (!decide (x=.non))) H):=by
 intro pins s σ H x y v u Q I rx ry h;obtain⟨rfl,q⟩:=h;cases ry;refine isnot_none_gen (RK I q ?_)
 cases x <;> first
  | (cases rx;rfl)
  | (obtain⟨t,rfl⟩:=rx;rfl)
theorem TV{op:CmpOp}{r:R2}(ho:OpR X (compareOp op) r)(ha:PE X a ta)(hb:PE X b tb)(hm:behindInMarks op b=false):PE X (.Compare a [op] [b] pos) (tOp r ta tb):=by
 intro pins s σ H Q I h;exact wpAny_Compare1 (Ip ha hb I h fun v u s2 x y H2 I2 rx ry q=>ho pins s2 σ H2 x y v u Q I2 rx ry q) hm
theorem EB:(sizeLine:Nat) < 2 ^ 63:=by rw[sizeLine_eq];decide
theorem Uz:OpR X (binaryOp .Add) (fun x y H Q=>∃i j,x=.str i/\y=.str j/\i.length+j.length<=sizeLine/\Q (.str (i++j)) H):=by
 intro pins s σ H x y v u Q I rx ry h;obtain⟨i,j,rfl,rfl,hz,q⟩:=h;obtain⟨t,rfl⟩:=rx;obtain⟨t',rfl⟩:=ry;exact add_str (fun t' tk=>⟨.str (i++j),H,I.tok _,⟨_,rfl⟩,q⟩) hz
theorem Bm{x:V}{us:List Value}(r:Vals [x] us):∃u,us=[u]/\RelV x u:=by
 cases r with
 | cons r1 r2=>cases r2;exact⟨_,rfl,r1⟩
theorem C1{x y:V}{us:List Value}(r:Vals [x,y] us):∃u w',us=[u,w']/\RelV x u/\RelV y w':=by
 cases r with
 | cons r1 r2 =>
  cases r2 with
  | cons r3 r4=>cases r4;exact⟨_,_,rfl,r1,r3⟩
theorem SC(hc:X.calm=true):CallR X (.builtin "max") (fun xs H Q=>∃i j,xs=[.int i,.int j]/\Q (.int (if j > i then j else i)) H):=by
 intro pins s σ H xs us Q I r h;obtain⟨i,j,rfl,q⟩:=h;obtain⟨u,w',rfl,⟨t,rfl⟩,⟨t',rfl⟩⟩:=C1 r;refine max_two_ints (I.ok.hd hc) fun h' tk k=>⟨_,H,I.kept k,?_,q⟩
 by_cases hj:j > i
 ·rw[if_pos hj,if_pos hj];exact⟨_,rfl⟩
 ·rw[if_neg hj,if_neg hj];exact⟨_,rfl⟩
theorem QM(hc:X.calm=true):CallR X (.builtin "min") (fun xs H Q=>∃i j,xs=[.int i,.int j]/\Q (.int (if j < i then j else i)) H):=by
 intro pins s σ H xs us Q I r h;obtain⟨i,j,rfl,q⟩:=h;obtain⟨u,w',rfl,⟨t,rfl⟩,⟨t',rfl⟩⟩:=C1 r;refine min_two_ints (I.ok.hd hc) fun h' tk k=>⟨_,H,I.kept k,?_,q⟩
 by_cases hj:j < i
 ·rw[if_pos hj,if_pos hj];exact⟨_,rfl⟩
 ·rw[if_neg hj,if_neg hj];exact⟨_,rfl⟩
theorem call_int1:CallR X (.type "int") (fun xs H Q=>(∃i,xs=[.int i]/\Q (.int i) H)\/∃k,xs=[.bl k]/\Q (.int (if k then 1 else 0)) H):=by
 intro pins s σ H xs us Q I r h
 rcases h with ⟨i,rfl,q⟩ | ⟨k,rfl,q⟩
 ·obtain⟨u,rfl,t,rfl⟩:=Bm r;exact call_int_int ⟨.int i,H,I,⟨_,rfl⟩,q⟩
 ·obtain⟨u,rfl,r1⟩:=Bm r;cases r1;exact call_int_bool ⟨.int (if k then 1 else 0),H,I.tok _,⟨_,rfl⟩,q⟩
theorem call_str_int:CallR X (.type "str") (fun xs H Q=>∃i,xs=[.int i]/\i.natAbs.log2 < 1920/\Q (.str (toString i)) H):=by
 intro pins s σ H xs us Q I r h;obtain⟨i,rfl,hz,q⟩:=h;obtain⟨u,rfl,t,rfl⟩:=Bm r;exact PySem.P.str_of_int hz ⟨.str _,H,I.tok _,⟨_,rfl⟩,q⟩
def Lf(K:W.Frag)(x:V)(H:Hp)(n:Nat):Prop :=
 match x with
 | .str y=>y.length<=sizeLine/\n=y.length
 | .byt y=>y.size<=sizeLine/\n=y.size
 | .ref p=>(∃xs,SqL K H p xs/\n=xs.length)\/∃xs,SqT K H p xs/\n=xs.length
 | _=>False
theorem call_len:CallR X (.builtin "len") (fun xs H Q=>∃x n,xs=[x]/\Lf X.K x H n/\Q (.int n) H):=by
 intro pins s σ H xs us Q I r h;obtain⟨x,n,rfl,e,q⟩:=h;obtain⟨u,rfl,rx⟩:=Bm r;have hl:=EB;have hs:sizeLine=16777216:=sizeLine_eq;cases x with
 | str y =>
  obtain⟨t,rfl⟩:=rx;obtain⟨hy,e'⟩:y.length<=sizeLine/\n=y.length:=e;subst e';exact len_str (by lia) ⟨.int _,H,I.tok _,⟨_,rfl⟩,q⟩
 | byt y =>
  obtain⟨t,rfl⟩:=rx;obtain⟨hy,e'⟩:y.size<=sizeLine/\n=y.size:=e;subst e';exact PySem.W.len_bytes (by lia) ⟨.int _,H,I.tok _,⟨_,rfl⟩,q⟩
 | ref p =>
  cases rx;have e':(∃xs,SqL X.K H p xs/\n=xs.length)\/∃xs,SqT X.K H p xs/\n=xs.length:=e
  rcases e' with ⟨xs,hx,e'⟩ | ⟨xs,hx,e'⟩
  ·subst e';obtain⟨its,r',pl,hz⟩:=I.list hx;have hlen:=r'.length;exact Calls.call_len_list pl.isList (by simp only[ZL];lia) ⟨.int xs.length,H,I.tok _,⟨_,by simp only[ZL];rw[hlen]⟩,q⟩
  ·subst e';obtain⟨its,r',pl,hz⟩:=I.tuple hx;have hlen:=r'.length;exact len_tuple pl (by simp only[ZL];lia) ⟨.int xs.length,H,I.tok _,⟨_,by simp only[ZL];rw[hlen]⟩,q⟩
 | _=>exact(show False from e).elim
end
structure ObjM(h:Heap)(x dx C:Addr)(mA:Str->Option Value):Prop where
 obj:h.get? x=some (PySem.W.instObj C dx)
 ns:h.Ns1 dx mA
 ne:dx≠x
theorem Ou{h:Heap}{dx:Addr}{mA:Str->Option Value}(n:h.Ns1 dx mA):∃od,h.get? dx=some od/\∀name,PySem.W.lookIn name od=some (mA name):=by
 obtain⟨o,es,ep,ho,hd,hk,_,hm⟩:=n;refine⟨o,ho,fun name=>?_⟩;have e:=hm name;unfold nsFind findBy at e;rw[<- Array.find?_toList]at e;unfold PySem.W.lookIn;rw[hd];dsimp only;split
 ·rename_i y q;rw[q]at e;exact congrArg some e
 ·rename_i q;rw[q]at e
  have a:es.toList.any (·.refKey)=false:=by
   rw[List.any_eq_false];intro y hy;obtain⟨z,t,hkey⟩:=hk y (Array.mem_toList_iff.mp hy);simp[DictEntry.refKey,hkey]
  have a':¬es.toList.any (·.refKey)=true:=by rw[a];exact Zq
  rw[if_neg a'];exact congrArg some e
theorem ObjM.look{h:Heap}{x dx C:Addr}{mA:Str->Option Value}(I:ObjM h x dx C mA):∃od,PySem.W.InstAt h x (PySem.W.instObj C dx) C (some od)/\∀name,PySem.W.lookIn name od=some (mA name) :=
 let ⟨od,ho,hl⟩:=Ou I.ns
 ⟨od,⟨I.obj,rfl,rfl,ho⟩,hl⟩
section
variable {prog:Program}{w:World}{A:Around}{E:Value->Shared->Prop}{s:Shared}{K:W.Frag}{x dx C f:Addr}{mA:Str->Option Value}{name:Str}{v:Value}
theorem Ug {expr:Bool} {Q:Value->Shared->Prop} (X:K.In s.heap) (I:ObjM s.heap x dx C mA) (hg:PySem.W.plainGet K C name=true) (hh:PySem.W.hasDictIn K C=true)
 (ha:PySem.W.findIn K (.ref C) name=some none) (hv:mA name=some v) (hv':PySem.W.handedIn v=true) (h:Q v { s with toks:=s.toks+1 }) :
 wpAny (model prog w) A (getAttr (.ref x) name expr) Q E s:=by
 obtain⟨od,J,hl⟩:=I.look;exact PySem.W.get_value X J (PySem.W.plainGet_of hg).1 (PySem.W.findObj_own hh ha rfl (by rw[hl,hv])) hv' h
theorem Of {pl:Sem Bool} {Q:Value × List Value->Shared->Prop} (X:K.In s.heap) (I:ObjM s.heap x dx C mA) (hg:PySem.W.plainGet K C name=true)
 (hf:PySem.W.findIn K (.ref C) name=some (some (.ref f))) (ht:PySem.W.isFn K (.ref f)=true) (hv:mA name=none) (h:Q (.ref f,[.ref x]) s) :
 wpAny (model prog w) A (getMethod (.ref x) name pl) Q E s:=by
 obtain⟨od,J,hl⟩:=I.look;exact PySem.W.method_fn X J (PySem.W.plainGet_of hg).1 (PySem.W.plainGet_of hg).2 hf (beq_iff_eq.mp ht) (by show(PySem.W.lookIn name od).map (·.isSome)=some false;rw[hl,hv];rfl) h
theorem Tz {ns:List Str} {Q:Unit->Shared->Prop} (X:K.In s.heap) (I:ObjM s.heap x dx C mA)
 (hs:PySem.W.findIn K (.ref C) "__setattr__" = some (some (.builtin "object.__setattr__"))) (hp:PySem.W.plainOver K C=true) (ht:PySem.W.takerIn K C name=some none) (hh:PySem.W.hasDictIn K C=true)
 (hw:PySem.Within mA ns) (hsz:ns.length<=sizeLine)
 (h:∀h',ObjM h' x dx C (fun y=>if y=name then some v else mA y)->Heap.SameBut dx s.heap h'->Q () { s with heap:=h',toks:=s.toks+2 }) :
 wpAny (model prog w) A (setAttr (.ref x) name v) Q E s:=by
 obtain⟨od,J,hl⟩:=I.look;refine PySem.W.set_plain X J hs (PySem.W.osa_open (s:={ s with toks:=s.toks+1 }) (r:=none) X J hp ht fun b=>?_);obtain⟨cd,hc,hd'⟩:=PySem.W.any_some hh;have hx:s.heap.get? x=some ⟨.ref C,some dx,.plain,#[]⟩:=I.obj;refine ZA (ZB (ZA (ZA (wpAny_loadPart hx (ZA (PySem.W.Looks.here (s:={ s with toks:=s.toks+1 }) (PySem.W.looks_clsIn X hc) ?_))))));rw[hd'];refine ZB (a:=some dx) (ZA (ZB (ZA ?_)));refine wpAny_nsSet1 (s:={ s with toks:=s.toks+1 }) I.ns fun h' hn2 hs2=>?_
 obtain⟨oD,esD,epD,hoD,hdD,hcD⟩:=hn2.count (PySem.Within.cons name v hw);refine ZA (wpAny_lookBehind hoD (by rw[hdD];exact pastItsLine_dict (ZP hcD (by rw[Zj];lia))) ?_);exact ZB (h _ ⟨(hs2.2 _ (Ne.symm I.ne)).trans I.obj,hn2,I.ne⟩ hs2)
theorem UC {R:Result->Shared->Prop} {vs:List Value} {kw:List (Str × Value)} (X:K.In s.heap) (hm:PySem.W.makesIn K C=true)
 (hi:PySem.W.findIn K (.ref C) "__init__" = some (some (.ref f))) (hf:PySem.W.typeIn K (.ref f)=some (.type "function"))
 (h:codeAny (model prog w) (A.under (.builtin "type.__call__" ⟨.ref C::vs,kw⟩)) (.call (.ref f) ⟨.ref (s.heap.objs.size+1)::vs,kw⟩) (PySem.W.InitBack (s.heap.objs.size+1) R)
   { s with heap:=(s.heap.push PySem.W.emptyDict).push (PySem.W.instObj C s.heap.objs.size) }) :
 codeAny (model prog w) A (.call (.ref C) ⟨vs,kw⟩) R s:=by
 obtain⟨hh,g,d,t,os⟩:=s;exact PySem.W.make_core (PySem.W.makes_of X hm) (PySem.W.looks_findIn X hi) (fun self=>PySem.W.bind_fn X self hf) (.inl rfl) h
end
def At(f:Str)(v:V):List (Str × V)->List (Str × V)
 | []=>[(f,v)]
 | (g,x)::r=>if g=f then (g,v)::r else (g,x)::At f v r
theorem J2(f g:Str)(v:V):∀fs:List (Str × V),(At f v fs).lookup g=if g=f then some v else fs.lookup g
 | []=>by
  show List.lookup g [(f,v)]=_
  by_cases h:g=f
  ·have hb:(g == f)=true:=beq_iff_eq.mpr h;simp only[List.lookup,hb,if_pos h]
  ·have hb:(g == f)=false:=beq_eq_false_iff_ne.mpr h;simp only[List.lookup,hb,if_neg h]
 | (k,x)::r=>by
  have ih:=J2 f g v r;rw[show At f v ((k,x)::r)=(if k=f then (k,v)::r else (k,x)::At f v r) from rfl]
  by_cases hk:k=f
  ·rw[if_pos hk]
   by_cases h:g=k
   ·have hb:(g == k)=true:=beq_iff_eq.mpr h;simp only[List.lookup,hb,if_pos (h.trans hk)]
   ·have hb:(g == k)=false:=beq_eq_false_iff_ne.mpr h;simp only[List.lookup,hb,if_neg (fun e:g=f=>h (e.trans hk.symm))]
  ·rw[if_neg hk]
   by_cases h:g=k
   ·have hb:(g == k)=true:=beq_iff_eq.mpr h;simp only[List.lookup,hb,if_neg (fun e:g=f=>hk (h.symm.trans e))]
   ·have hb:(g == k)=false:=beq_eq_false_iff_ne.mpr h;simp only[List.lookup,hb];exact ih
theorem Hy(f:Str)(v:V):∀fs:List (Str × V),f∈(At f v fs).map (·.1)/\∀g,g∈fs.map (·.1)->g∈(At f v fs).map (·.1)
 | []=>⟨by simp[At],fun g h=>by simp at h⟩
 | (k,x)::r=>by
  obtain⟨i1,i2⟩:=Hy f v r;rw[show At f v ((k,x)::r)=(if k=f then (k,v)::r else (k,x)::At f v r) from rfl]
  by_cases hk:k=f
  ·rw[if_pos hk];subst hk;exact⟨by simp,fun g h=>by simpa using h⟩
  ·rw[if_neg hk];refine⟨?_,fun g h=>?_⟩
   ·rw[Zg];exact Za _ i1
   ·rw[Zg]at h ⊢
    rcases ZF.mp h with e | e
    ·exact ZF.mpr (.inl e)
    ·exact Za _ (i2 g e)
theorem Lr(f:Str)(v:V):∀fs:List (Str × V),(At f v fs).length<=fs.length+1
 | []=>by simp[At]
 | (k,x)::r=>by
  have ih:=Lr f v r;rw[show At f v ((k,x)::r)=(if k=f then (k,v)::r else (k,x)::At f v r) from rfl]
  by_cases hk:k=f
  ·rw[if_pos hk,Zj,Zj];lia
  ·rw[if_neg hk,Zj,Zj];lia
theorem RelO.some_of{v:V}{o:Option Value}(r:RelO (some v) o):∃u,o=some u/\RelV v u:=by
 cases o with
 | none=>exact(show False from r).elim
 | some u=>exact⟨u,rfl,r⟩
theorem RelO.none_of{o:Option Value}(r:RelO none o):o=none:=by
 cases o with
 | none=>rfl
 | some u=>exact(show False from r).elim
theorem SX{v:V}{u:Value}(r:RelV v u):PySem.W.handedIn u=true:=by
 cases v with
 | non=>cases (show u=Value.none from r);rfl
 | bl b=>cases (show u=Value.bool b from r);rfl
 | int i=>obtain⟨t,e⟩:=(show ∃t,u=Value.int i t from r);cases e;rfl
 | str x=>obtain⟨t,e⟩:=(show ∃t,u=Value.str x t from r);cases e;rfl
 | byt b=>obtain⟨t,e⟩:=(show ∃t,u=Value.bytes b t from r);cases e;rfl
 | flt b=>obtain⟨t,e⟩:=(show ∃t,u=Value.float b t from r);cases e;rfl
 | ref a=>cases (show u=Value.ref a from r);rfl
 | ty n=>cases (show u=Value.type n from r);rfl
section
variable {P:Program}{w:World}{H H':Hp}{h h':Heap}{a C dx:Addr}{fs fs':List (Str × V)}
theorem Fj(hok:HOk P w H h)(e:H a=some (.ins C dx fs)):∃mA,ObjM h a dx C mA/\(∀f,RelO (fs.lookup f) (mA f))/\PySem.Within mA (fs.map (·.1))/\fs.length<=1000/\H dx=some (.own a):=by
 obtain⟨d,z,ne,ob,mA,n,r,q⟩:=(show ObjOk P w H h a (.ins C dx fs) from hok a _ e);exact⟨mA,⟨ob,n,ne⟩,r,q,z,d⟩
end
structure Cls(K:W.Frag)(C:Addr):Prop where
 pg:PySem.W.plainGet K C Str.empty=true
 hd:PySem.W.hasDictIn K C=true
 po:PySem.W.plainOver K C=true
 sa:PySem.W.findIn K (.ref C) "__setattr__" = some (some (.builtin "object.__setattr__"))
theorem Cls.get{K:W.Frag}{C:Addr}(c:Cls K C)(f:Str):PySem.W.plainGet K C f=true:=c.pg
def NoAttr(K:W.Frag)(C:Addr)(f:Str):Prop:=PySem.W.findIn K (.ref C) f=some none
theorem NoAttr.taker{K:W.Frag}{C:Addr}{f:Str}(n:NoAttr K C f):PySem.W.takerIn K C f=some none:=by
 unfold PySem.W.takerIn;rw[show PySem.W.findIn K (.ref C) f=some none from n];rfl
structure Con(K:W.Frag)(C:Addr)(f:Str)(v:V)(u:Value):Prop where
 at_:PySem.W.findIn K (.ref C) f=some (some u)
 rel:RelV v u
 get:PySem.W.specialIn K u "__get__" = some none
 cp:PySem.W.copiedNames.contains f=false
structure Meth(K:W.Frag)(C:Addr)(m:Str)(f:Addr):Prop where
 at_:PySem.W.findIn K (.ref C) m=some (some (.ref f))
 fn:PySem.W.isFn K (.ref f)=true
 kp:PySem.W.keepIn K (.ref f)=true
section
variable {X:Cx}{pins:List (Addr × Obj)}{σ:St}{H:Hp}{s:Shared}{a C dx:Addr}{fs:List (Str × V)}{f:Str}{v:V}{A:Around}{E:Value->Shared->Prop}
theorem QA {b:Bool} {Q:Value->Shared->Prop} (I:Inv X pins σ H s) (e:H a=some (.ins C dx fs)) (c:Cls X.K C) (n:NoAttr X.K C f) (l:fs.lookup f=some v)
 (h:∀u s',Inv X pins σ H s'->RelV v u->Q u s'):wpAny (model X.prog X.w) A (getAttr (.ref a) f b) Q E s:=by
 obtain⟨mA,O,r,_,_,_⟩:=Fj I.hok e;obtain⟨u,hu,ru⟩:=RelO.some_of (v:=v) (o:=mA f) (by rw[<- l];exact r f);exact Ug I.kIn O (c.get f) c.hd n hu (SX ru) (h u _ (I.tok _) ru)
theorem K4 {m:Str} {g:Addr} {pl:Sem Bool} {Q:Value × List Value->Shared->Prop} (I:Inv X pins σ H s) (e:H a=some (.ins C dx fs)) (c:Cls X.K C) (k:Meth X.K C m g) (l:fs.lookup m=none)
 (h:Q (.ref g,[.ref a]) s):wpAny (model X.prog X.w) A (getMethod (.ref a) m pl) Q E s:=by
 obtain⟨mA,O,r,_,_,_⟩:=Fj I.hok e;have hn:mA m=none:=RelO.none_of (by rw[<- l];exact r m);exact Of I.kIn O (c.get m) k.at_ k.fn hn h
theorem Qo {y:V} {u:Value} {Q:Unit->Shared->Prop} (I:Inv X pins σ H s) (e:H a=some (.ins C dx fs)) (c:Cls X.K C) (n:NoAttr X.K C f) (hl:fs.length < 1000) (ry:RelV y u)
 (h:∀s',Inv X pins σ (upd H a (.ins C dx (At f y fs))) s'->Q () s'):wpAny (model X.prog X.w) A (setAttr (.ref a) f u) Q E s:=by
 obtain⟨mA,O,r,wi,_,ho⟩:=Fj I.hok e;have hz:(fs.map (·.1)).length<=sizeLine:=by rw[ZC,sizeLine_eq];lia
 refine Tz I.kIn O c.sa c.po n.taker c.hd wi hz fun h' O' sb=>h _ ?_
 have hd:∃o,h'.get? dx=some o:=let ⟨o,_,_,e',_⟩:=O'.ns;⟨o,e'⟩;refine I.write (x:=a) (e:=dx) (by rw[e];exact True.intro) (.inr ho) (fun b q hb z=>(sb.2 b hb).trans z) hd ?_;refine⟨by rw[AM O.ne];exact ho,?_,O.ne,O'.obj,_,O'.ns,fun g=>?_,fun g hg=>?_⟩
 ·have:=Lr f y fs;lia
 ·show RelO ((At f y fs).lookup g) (if g=f then some u else mA g);rw[J2]
  by_cases q:g=f
  ·rw[if_pos q,if_pos q];exact ry
  ·rw[if_neg q,if_neg q];exact r g
 ·by_cases q:g=f
  ·rw[q];exact(Hy f y fs).1
  ·refine(Hy f y fs).2 g (wi g fun z=>hg ?_)
   show(if g=f then some u else mA g)=none
   rw[if_neg q];exact z
theorem Inv.made(I:Inv X pins σ H s):Inv X pins σ (upd (upd H s.heap.objs.size (.own (s.heap.objs.size+1))) (s.heap.objs.size+1) (.ins C s.heap.objs.size []))
 { s with heap:=(s.heap.push PySem.W.emptyDict).push (PySem.W.instObj C s.heap.objs.size) }:=by
 have e1:(s.heap.push PySem.W.emptyDict).get? s.heap.objs.size=some PySem.W.emptyDict:=ZR s.heap rfl
 have e2:((s.heap.push PySem.W.emptyDict).push (PySem.W.instObj C s.heap.objs.size)).get? (s.heap.objs.size+1)=some (PySem.W.instObj C s.heap.objs.size):=by
  have:=ZR (s.heap.push PySem.W.emptyDict) (o:=PySem.W.instObj C s.heap.objs.size) rfl
  rwa [Z2]at this
 have e3:(s.heap.push PySem.W.emptyDict).Ns s.heap.objs.size (fun _=>none):=⟨PySem.W.emptyDict,#[],_,e1,rfl,(fun e he=>absurd he (by simp)),fun _=>rfl⟩;have I1:=I.laid (a:=s.heap.objs.size) (o:=.own (s.heap.objs.size+1)) (h':=s.heap.push PySem.W.emptyDict) (t':=s.toks) (fun b u q=>ZJ _ q) (ZD _) ⟨_,e1⟩;refine I1.laid (a:=s.heap.objs.size+1) (o:=.ins C s.heap.objs.size []) (t':=s.toks) (fun b u q=>ZJ _ q) (ZBn (Z2 _ _)) ?_;have ne:s.heap.objs.size≠s.heap.objs.size+1:=ZQ (ZBY _);refine⟨by rw[AM ne,AD],ZU _,ne,e2,fun _=>none,(Heap.Ns1.of_empty e3).at fun o q=>ZJ _ q,fun _=>True.intro,fun y hy=>absurd rfl hy⟩
theorem O7 {prog:Program} {w:World} {env:Env} {e:Expr} {f:Str} {pos:Pos} {s:Shared} {Q:Value->Shared->Prop} (hb:attributeBase e f env (eval e env)=eval e env)
 (h:wpAny (model prog w) A (eval e env) (fun o s₁=>wpAny (model prog w) A (getAttr o f true) Q E s₁) E s):wpAny (model prog w) A (eval (.Attribute e f pos) env) Q E s :=
 Attribute_any_ h (by rw[arm_eval_Attribute,hb])
end
section
variable {X:Cx}{o e value:Expr}{f:Str}{pos pos' tpos:Pos}{ta tv:TE}
end
section
variable {X:Cx}{pins:List (Addr × Obj)}{σ:St}{H:Hp}{s:Shared}{A:Around}{E:Value->Shared->Prop}{Q:Value->Shared->Prop}{c:Value}{b:Bool}
inductive TyOf (K:W.Frag) (H:Hp):V->Value->Prop where
 | non:TyOf K H .non (.type "NoneType")
 | bl (x:Bool):TyOf K H (.bl x) (.type "bool")
 | int (i:Int):TyOf K H (.int i) (.type "int")
 | str (x:Str):TyOf K H (.str x) (.type "str")
 | flt (x:UInt64):TyOf K H (.flt x) (.type "float")
 | lst {a:Addr} {xs:List V} (e:H a=some (.lst xs)):TyOf K H (.ref a) (.type "list")
 | frz {a:Addr} {o:Obj} {xs:List V} (e:H a=some (.frz o (.lst xs))):TyOf K H (.ref a) (.type "list")
 | tup {a:Addr} {xs:List V} (e:H a=some (.tup xs)):TyOf K H (.ref a) (.type "tuple")
 | dK {a:Addr} {kvs:List (Key × V)} (e:H a=some (.dK kvs)):TyOf K H (.ref a) (.type "dict")
 | dT {a:Addr} {kvs:List (List Key × V)} (e:H a=some (.dT kvs)):TyOf K H (.ref a) (.type "dict")
 | ins {a C dx:Addr} {fs:List (Str × V)} (e:H a=some (.ins C dx fs)) (cl:Cls K C) (ha:PySem.W.findIn K (.ref C) "__class__" = some (some (.builtin "object.__class__")))
  (hn:PySem.W.specialIn K (.builtin "object.__class__") "__get__" = some (some (.builtin "getset_descriptor.__get__"))) (htk:PySem.W.takesIn K (.builtin "object.__class__")=some true)
  (hm:PySem.W.mroIn K C (.type "object")=some true):TyOf K H (.ref a) (.ref C)
theorem Tj{x:V}{u t:Value}(I:Inv X pins σ H s)(rx:RelV x u)(ty:TyOf X.K H x t)(e:PySem.W.kitOne X.K t c=some b)(h:∀tk,Q (.bool b) { s with toks:=tk }) :
 wpAny (model X.prog X.w) A (call (.builtin "isinstance") [u,c]) Q E s:=by
 cases ty with
 | non=>cases (show u=Value.none from rx);exact PySem.W.kia_one PySem.W.kitx_none I.kIn True.intro e (fun z=>nomatch z) h
 | bl y=>cases (show u=Value.bool y from rx);exact PySem.W.kia_one PySem.W.kitx_bool I.kIn True.intro e (fun z=>nomatch z) h
 | int i=>obtain⟨t,q⟩:=(show ∃t,u=Value.int i t from rx);cases q;exact PySem.W.kia_one PySem.W.kitx_int I.kIn True.intro e (fun z=>nomatch z) h
 | str y=>obtain⟨t,q⟩:=(show ∃t,u=Value.str y t from rx);cases q;exact PySem.W.kia_one PySem.W.kitx_str I.kIn True.intro e (fun z=>nomatch z) h
 | flt y=>obtain⟨t,q⟩:=(show ∃t,u=Value.float y t from rx);cases q;exact PySem.W.kia_one PySem.W.kitx_float I.kIn True.intro e (fun z=>nomatch z) h
 | @lst a xs ea =>
  cases (show u=Value.ref a from rx);obtain⟨_,_,n,_,h1⟩:=(show ObjOk X.prog X.w H s.heap a (.lst xs) from I.hok a _ ea);exact PySem.W.kia_one PySem.W.kitx_list I.kIn ⟨_,h1,rfl⟩ e (fun z=>nomatch z) h
 | @frz a ob xs ea =>
  cases (show u=Value.ref a from rx);obtain⟨_,_,_,n,_,h1⟩:=(show ObjOk X.prog X.w H s.heap a (.frz ob (.lst xs)) from I.hok a _ ea);exact PySem.W.kia_one PySem.W.kitx_list I.kIn ⟨_,h1,rfl⟩ e (fun z=>nomatch z) h
 | @tup a xs ea =>
  cases (show u=Value.ref a from rx);obtain⟨_,_,_,p⟩:=(show ObjOk X.prog X.w H s.heap a (.tup xs) from I.hok a _ ea);obtain⟨o,h1,h2,_⟩:=p;exact PySem.W.kia_one PySem.W.kitx_tuple I.kIn ⟨o,h1,h2⟩ e (fun z=>nomatch z) h
 | @dK a kvs ea =>
  cases (show u=Value.ref a from rx);obtain⟨_,_,vs,_,p⟩:=(show ObjOk X.prog X.w H s.heap a (.dK kvs) from I.hok a _ ea);obtain⟨o,es,ep,h1,h2,_⟩:=p;exact PySem.W.kia_one PySem.W.kitx_dict I.kIn ⟨o,h1,h2.1⟩ e (fun z=>nomatch z) h
 | @dT a kvs ea =>
  cases (show u=Value.ref a from rx);obtain⟨_,_,xs,_,o,es,ep,h1,h2,_⟩:=(show ObjOk X.prog X.w H s.heap a (.dT kvs) from I.hok a _ ea);exact PySem.W.kia_one PySem.W.kitx_dict I.kIn ⟨o,h1,h2.1⟩ e (fun z=>nomatch z) h
 | @ins a C dx fs ea cl ha hn htk hm =>
  cases (show u=Value.ref a from rx);obtain⟨mA,O,_⟩:=Fj I.hok ea;obtain⟨od,J,_⟩:=O.look;exact PySem.W.kia_one (PySem.W.kitx_own (cl.get _) cl.hd ha hn htk hm) I.kIn J e (fun z=>nomatch z) h
end
structure Room(k:Nat)(A:Around):Prop where
 hd:A.handled=none
 dp:A.depth+3 * k+5 < recursionLimit
 un:A.units+16 * k+200 < cLine
 gd:A.guards=some []
theorem Room.mono{j k:Nat}{A:Around}(r:Room k A)(h:j<=k):Room j A:=⟨r.hd,by have:=r.dp;lia,by have:=r.un;lia,r.gd⟩
theorem Room.deeper{k:Nat}{A:Around}(r:Room (k+1) A)(env:Env):Room k (A.deeper env) :=
 ⟨r.hd,by have:=r.dp;show A.depth+1+3 * k+5 < _;lia,by have:=r.un;show A.units+3+16 * k+200 < _;lia,r.gd⟩
theorem Sm{A:Around}{C:Addr}{us:List Value}{kw:List (Str × Value)}:(A.under (.builtin "type.__call__" ⟨.ref C::us,kw⟩)).depth=A.depth+1:=by
 first | rfl | simp[Around.under,Code.weight,Code.isCreation,Code.isGuard,Code.isCaller,Code.frames,Code.isFrame,guardIds]
theorem UV{A:Around}{C:Addr}{us:List Value}{kw:List (Str × Value)}:(A.under (.builtin "type.__call__" ⟨.ref C::us,kw⟩)).units=A.units+1:=by
 first | rfl | simp[Around.under,Code.cUnits,Code.frames,Code.isFrame]
theorem Room.make{k:Nat}{A:Around}(r:Room (k+1) A)(C:Addr)(us:List Value)(kw:List (Str × Value)):Room k (A.under (.builtin "type.__call__" ⟨.ref C::us,kw⟩)) :=
 ⟨r.hd,by have:=r.dp;rw[Sm];lia,by have:=r.un;rw[UV];lia,by first | exact r.gd | (simpa [Around.under,Code.guards,Code.isGuard,guardIds,pushGuards] using r.gd)⟩
theorem Room.depth{k:Nat}{A:Around}(r:Room k A):A.depth < recursionLimit:=by have:=r.dp;lia
def Ev:TA:=fun _ H Q=>Q [] H
def Hw(ta:TE)(tr:TA):TA:=fun σ H Q=>ta σ H fun x H1=>tr σ H1 fun xs H2=>Q (x::xs) H2
section
variable {X:Cx}{e:Expr}{es:List Expr}{te:TE}{t:TA}{pos:Pos}
theorem AB:PA X [] Ev:=fun _ _ _ _ H Q I h=>Calls.spliced_nil ⟨[],H,I,.nil,h⟩
theorem AA(ha:PE X e te)(hr:PA X es t)(hs:starEach (e::es) X.env=(false,eval e X.env)::starEach es X.env:=by rfl):PA X (e::es) (Hw te t):=by
 intro pos pins s σ H Q I h;rw[hs];show wpAny _ _ (spliced ((false,eval e X.env)::backTo pos (starEach es X.env))) _ _ s;refine Calls.spliced_cons (thn (ha pins s σ H _ I h) fun u s1 ⟨x,H1,I1,r1,q1⟩=>?_);exact thn (hr pos pins s1 σ H1 _ I1 q1) fun us s2 ⟨xs,H2,I2,r2,q2⟩=>⟨x::xs,H2,I2,.cons r1 r2,q2⟩
def KB(t:TA):TE:=fun σ H Q=>t σ H fun xs H1=>xs.length<=sizeLine/\∀p,H1 p=none->Q (.ref p) (upd H1 p (.tup xs))
def Kq(t:TA):TE:=fun σ H Q=>t σ H fun xs H1=>xs.length<=sizeLine/\∀p,H1 p=none->Q (.ref p) (upd H1 p (.lst xs))
theorem AW{x1}(h:PA X es t):PE X (.Tuple es x1 pos) (KB t):=by
 intro pins s σ H Q I hq;refine wpAny_Tuple_spliced (thn (h pos pins s σ H _ I hq) fun us s1 ⟨xs,H1,I1,r,z,q⟩=>⟨by rw[<- r.length];exact z,?_⟩);have hf:H1 s1.heap.objs.size=none:=I1.hok.fresh (ZD _);refine⟨.ref s1.heap.objs.size,upd H1 s1.heap.objs.size (.tup xs),I1.laid (t':=s1.toks) (fun b u e=>ZJ _ e) (ZD _) ?_,rfl,q _ hf⟩;exact⟨z,us,r,⟨_,ZR _ rfl,rfl,⟨_,rfl⟩,rfl⟩⟩
theorem A2(h:PA X es t):PE X (.List es pos) (Kq t):=by
 intro pins s σ H Q I hq;refine wpAny_List_spliced (thn (h pos pins s σ H _ I hq) fun us s1 ⟨xs,H1,I1,r,z,q⟩=>⟨by rw[<- r.length];exact z,?_⟩);have hf:H1 s1.heap.objs.size=none:=I1.hok.fresh (ZD _);refine⟨.ref s1.heap.objs.size,upd H1 s1.heap.objs.size (.lst xs),I1.laid (t':=s1.toks) (fun b u e=>ZJ _ e) (ZD _) ?_,rfl,q _ hf⟩;exact⟨z,us,0,r,ZR _ rfl⟩
end
abbrev Sp:=List V->Hp->VK->XK->Prop
abbrev CXT:=List Env->Hp->Shared->XK->Value->Shared->Prop
structure Env0(P:Program)(w:World)(K:W.Frag)(mg:Str->Option Value)(base:Heap)(A:Around)(outer:List Env)(s:Shared)(H:Hp):Prop where
 frames:A.frames=some outer
 mod:Mod K mg base
 bs:∀b o,base.get? b=some o->s.heap.get? b=some o/\H b=none
 bsz:base.objs.size<=s.heap.objs.size
 funs:s.heap.FunFrames base outer
 frf:∀b∈frs outer,H b=none
 hok:HOk P w H s.heap
 bare:AllBare s.gens
def CE(outer:List Env)(P:Program)(w:World)(H:Hp)(s:Shared)(Q:VK)(u:Value)(s':Shared):Prop :=
 ∃v H',s'.os=s.os/\AllBare s'.gens/\Un (frs outer) [] H H' s.heap s'.heap/\HOk P w H' s'.heap/\RelV v u/\Q v H'
def CR(CX:CXT)(outer:List Env)(P:Program)(w:World)(H:Hp)(s:Shared)(Q:VK)(E:XK)(r:Result)(s':Shared):Prop :=
 match r with
 | .ok (.ret u)=>CE outer P w H s Q u s'
 | .ok _=>False
 | .error e=>CX outer H s E e s'
structure FnOk(P:Program)(w:World)(K:W.Frag)(mg:Str->Option Value)(base:Heap)(CX:CXT)(k:Nat)(f:Addr)(fd:FuncData)(ps:List Str)(sp:Sp):Prop where
 len:∀vs H Q E,sp vs H Q E->vs.length=ps.length
 run:∀(A:Around) (outer:List Env) (s:Shared) (H:Hp) (args:Args) (us:List Value) (vs:List V) (Q:VK) (E:XK),Room k A->Env0 P w K mg base A outer s H->BindsTo s fd args (ps.zip us)->Vals vs us->sp vs H Q E ->
  codeAny (model P w) A (.call (.ref f) args) (CR CX outer P w H s Q E) s
theorem FnOk.imp {P:Program} {w:World} {K:W.Frag} {mg:Str->Option Value} {base:Heap} {CX:CXT} {k:Nat} {f:Addr} {fd:FuncData} {ps:List Str} {sp sp':Sp} (F:FnOk P w K mg base CX k f fd ps sp)
 (h:∀vs H Q E,sp' vs H Q E->sp vs H Q E):FnOk P w K mg base CX k f fd ps sp' :=
 ⟨fun vs H Q E q=>F.len vs H Q E (h _ _ _ _ q),fun A outer s H args us vs Q E hr he hb hv hs=>F.run A outer s H args us vs Q E hr he hb hv (h _ _ _ _ hs)⟩
theorem Env0.make{P:Program}{w:World}{K:W.Frag}{mg:Str->Option Value}{base:Heap}{A:Around}{outer:List Env}{s:Shared}{H:Hp}(e:Env0 P w K mg base A outer s H)(C:Addr)(us:List Value)(kw:List (Str × Value)) :
 Env0 P w K mg base (A.under (.builtin "type.__call__" ⟨.ref C::us,kw⟩)) outer s H:=⟨by first | exact e.frames | (simpa [Around.under,Code.envs,Code.isFrame,pushEnvs] using e.frames),e.mod,e.bs,e.bsz,e.funs,e.frf,e.hok,e.bare⟩
section
variable {X:Cx}{pins:List (Addr × Obj)}{σ:St}{H:Hp}{s s':Shared}
theorem Inv.env0(I:Inv X pins σ H s):Env0 X.prog X.w X.K X.mg X.base X.A X.stack s H :=
 ⟨I.ok.frames,I.ok.mod,I.bs,ZP I.ok.bsz I.sz,I.stack,I.stkFree,I.hok,I.bare⟩
theorem Inv.after{Q:VK}{u:Value}(I:Inv X pins σ H s)(h:CE X.stack X.prog X.w H s Q u s'):EP X pins σ Q u s':=by
 obtain⟨v,H',os,bare,un,hok,r,q⟩:=h;obtain⟨hh,g,d,t,os'⟩:=s';obtain rfl:os'=s.os:=os;exact⟨v,H',I.call (h':=hh) (g':=g) (d':=d) (t':=t) (ch:=[]) un hok bare (fun b z=>absurd z (by simp)),r,q⟩
end
def KH(sp:Sp)(dvs:List V)(E:XK)(t:TA):TE:=fun σ H Q=>t σ H fun vs H1=>sp (vs++dvs) H1 Q E
def LU(C:Addr)(m:Str)(sp:Sp)(dvs:List V)(E:XK)(ta:TE)(t:TA):TE:=fun σ H Q=>ta σ H fun x H1=>∃a dx fs,x=.ref a/\H1 a=some (.ins C dx fs)/\fs.lookup m=none /\
 t σ H1 fun vs H2=>sp (x::(vs++dvs)) H2 Q E
def Ux(C:Addr)(sp:Sp)(dvs:List V)(E:XK)(t:TA):TE:=fun σ H Q=>t σ H fun vs H1=>∀x dx,H1 x=none->H1 dx=none->dx≠x ->
 sp (.ref x::(vs++dvs)) (upd (upd H1 dx (.own x)) x (.ins C dx [])) (fun v H2=>v=.non/\Q (.ref x) H2) E
def Binds(K:W.Frag)(fd:FuncData)(ps:List Str)(ds:List Value):Prop :=
 ∀(s:Shared) (us:List Value),K.In s.heap->(us++ds).length=ps.length->BindsTo s fd ⟨us,[]⟩ (ps.zip (us++ds))
theorem Binds.all{K:W.Frag}{fd:FuncData}{ps:List Str}(h:∀us:List Value,us.length=ps.length->bindArgs fd ⟨us,[]⟩=pure (ps.zip us)):Binds K fd ps []:=fun s us _ hl=>by
 rw[Z4]at hl ⊢;exact .of_eq (h us hl)
def C8(CX:CXT)(X:Cx)(E:XK):Prop:=∀(pins:List (Addr × Obj)) (σ:St) (H:Hp) (s:Shared) (e:Value) (s':Shared),Inv X pins σ H s->CX X.stack H s E e s'->X.xe e s'
section
variable {X:Cx}{CX:CXT}{k:Nat}{f C:Addr}{fd:FuncData}{ps:List Str}{sp:Sp}{dvs:List V}{ds:List Value}{E:XK}{x m:Str}{p pos apos:Pos}{e o:Expr}{es:List Expr}{ta:TE}{t:TA}
theorem JE {pins:List (Addr × Obj)} {σ:St} {H:Hp} {s:Shared} {Q:VK} {us:List Value} {vs:List V} (F:FnOk X.prog X.w X.K X.mg X.base CX k f fd ps sp) (hr:Room k X.A) (hb:Binds X.K fd ps ds) (hd:Vals dvs ds) (hx:C8 CX X E)
 (I:Inv X pins σ H s) (r:Vals vs us) (h:sp (vs++dvs) H Q E):wpAny (model X.prog X.w) X.A (call (.ref f) us) (EP X pins σ Q) X.xe s:=by
 have r2:Vals (vs++dvs) (us++ds):=r.append hd;have hl:(us++ds).length=ps.length:=by rw[<- r2.length];exact F.len _ _ _ _ h
 refine wpAny_call (ZBZ (F.run X.A X.stack s H ⟨us,[]⟩ (us++ds) (vs++dvs) Q E hr I.env0 (hb s us I.kIn hl) r2 h) fun r s' hq=>?_);cases r with
 | error e=>exact hx pins σ H s e s' I hq
 | ok fl =>
  cases fl with
  | ret u=>exact I.after hq
  | next=>exact False.elim hq
  | brk=>exact False.elim hq
  | cont=>exact False.elim hq
theorem AH (F:FnOk X.prog X.w X.K X.mg X.base CX k f fd ps sp) (hr:Room k X.A) (hg:Gl X x) (hm:X.mg x=some (.ref f)) (hk:PySem.W.keepIn X.K (.ref f)=true) (hb:Binds X.K fd ps ds) (hd:Vals dvs ds) (hx:C8 CX X E)
 (ha:PA X (e::es) t) (hdb:(x == ("__debug__" : Str))=false:=by decide) (he:starEach (e::es) X.env=(false,eval e X.env)::starEach es X.env:=by rfl) (hpl:(backTo pos (starEach es X.env)).any (·.1)=false:=by rfl) :
 PE X (.Call (.Name x p) (e::es) [] pos) (KH sp dvs E t):=by
 intro pins s σ H Q I h;refine wpAny_Call_Name_kw (Lu I hg hm ?_ hdb);refine PySem.W.callWith_K (h₀:=X.base) I.ok.mod.kin hk (thn (ha pos pins s σ H _ I h) fun us s1 ⟨vs,H1,I1,r,q⟩=>⟨I1.kIn,?_⟩) he hpl;exact JE F hr hb hd hx I1 r q
theorem FU {pl:Sem Bool} (he:PE X o ta) (c:Cls X.K C) (hm:Meth X.K C m f) (F:FnOk X.prog X.w X.K X.mg X.base CX k f fd ps sp) (hr:Room k X.A) (hb:Binds X.K fd ps ds) (hd:Vals dvs ds) (hx:C8 CX X E) (ha:PA X (e::es) t)
 (hst:starEach (e::es) X.env=(false,eval e X.env)::starEach es X.env:=by rfl) (hpl:(backTo pos (starEach es X.env)).any (·.1)=false:=by rfl)
 (ht:eval (.Call (.Attribute o m apos) (e::es) [] pos) X.env=(do
   let ov <- eval o X.env
   standAt apos.atName
   let (f,first) <- holding [ov] (getMethod ov m pl)
   callWith pos f first (backTo pos (starEach (e::es) X.env)) (backToKw pos (keywordEach [] X.env))):=by rfl) :
 PE X (.Call (.Attribute o m apos) (e::es) [] pos) (LU C m sp dvs E ta t):=by
 intro pins s σ H Q I h;refine PySem.W.methodCall_KW (pl:=pl) (thn (he pins s σ H _ I h) fun u s1 ⟨x,H1,I1,rx,a,dx,fs,ex,ea,l,q⟩=>?_) ht;subst ex;obtain rfl:u=Value.ref a:=rx;refine K4 I1 ea c hm l ?_;refine PySem.W.callWith_K (first:=[.ref a]) (h₀:=X.base) I.ok.mod.kin hm.kp (thn (ha pos pins s1 σ H1 _ I1 q) fun us s2 ⟨vs,H2,I2,r,q2⟩=>⟨I2.kIn,?_⟩) hst hpl;exact JE (us:=.ref a::us) (vs:=.ref a::vs) F hr hb hd hx I2 (.cons rfl r) q2
theorem TH {pl:Sem Bool} (he:PE X o ta) (c:Cls X.K C) (hm:Meth X.K C m f) (F:FnOk X.prog X.w X.K X.mg X.base CX k f fd ps sp) (hr:Room k X.A) (hb:Binds X.K fd ps ds) (hd:Vals dvs ds) (hx:C8 CX X E)
 (ht:eval (.Call (.Attribute o m apos) [] [] pos) X.env=(do
   let ov <- eval o X.env
   standAt apos.atName
   let (f,first) <- holding [ov] (getMethod ov m pl)
   callWith pos f first (backTo pos (starEach [] X.env)) (backToKw pos (keywordEach [] X.env))):=by rfl) :
 PE X (.Call (.Attribute o m apos) [] [] pos) (LU C m sp dvs E ta Ev):=by
 intro pins s σ H Q I h;refine PySem.W.methodCall_KW (pl:=pl) (thn (he pins s σ H _ I h) fun u s1 ⟨x,H1,I1,rx,a,dx,fs,ex,ea,l,q⟩=>?_) ht;subst ex;obtain rfl:u=Value.ref a:=rx;refine K4 I1 ea c hm l ?_;exact PySem.W.callWith_K0 (first:=[.ref a]) I1.kIn hm.kp (JE (us:=[.ref a]) (vs:=[.ref a]) F hr hb hd hx I1 (.cons rfl .nil) q)
structure Mk(K:W.Frag)(C f:Addr):Prop where
 makes:PySem.W.makesIn K C=true
 init:PySem.W.findIn K (.ref C) "__init__" = some (some (.ref f))
 fn:PySem.W.isFn K (.ref f)=true
 kp:PySem.W.keepIn K (.ref C)=true
theorem Py {pins:List (Addr × Obj)} {σ:St} {H:Hp} {s:Shared} {Q:VK} {us:List Value} {vs:List V} (M:Mk X.K C f) (F:FnOk X.prog X.w X.K X.mg X.base CX k f fd ps sp) (hr:Room (k+1) X.A) (hb:Binds X.K fd ps ds) (hd:Vals dvs ds)
 (hx:C8 CX X E) (I:Inv X pins σ H s) (r:Vals vs us)
 (h:∀x dx,H x=none->H dx=none->dx≠x->sp (.ref x::(vs++dvs)) (upd (upd H dx (.own x)) x (.ins C dx [])) (fun v H2=>v=.non/\Q (.ref x) H2) E) :
 wpAny (model X.prog X.w) X.A (call (.ref C) us) (EP X pins σ Q) X.xe s:=by
 have hq:=h (s.heap.objs.size+1) s.heap.objs.size (I.hok.fresh (Nat.le_succ _)) (I.hok.fresh (ZD _)) (ZQ (ZBY _));have I2:=Inv.made (C:=C) I;have r2:Vals (V.ref (s.heap.objs.size+1)::(vs++dvs)) (Value.ref (s.heap.objs.size+1)::(us++ds)):=.cons rfl (r.append hd)
 have hl:(Value.ref (s.heap.objs.size+1)::us++ds).length=ps.length:=by
  have e:=r2.length;rw[F.len _ _ _ _ hq]at e;exact e.symm
 refine wpAny_call (UC (f:=f) I.kIn M.makes M.init (beq_iff_eq.mp M.fn) (ZBZ (F.run _ X.stack _ _ ⟨Value.ref (s.heap.objs.size+1)::us,[]⟩ (Value.ref (s.heap.objs.size+1)::(us++ds)) _ _ E (hr.make C us [])
  (I2.env0.make C us []) (hb _ (Value.ref (s.heap.objs.size+1)::us) I2.kIn hl) r2 hq) fun r s' hq'=>?_))
 cases r with
 | error e=>exact hx pins σ _ _ e s' I2 hq'
 | ok fl =>
  cases fl with
  | ret u =>
   obtain⟨v,H',I3,rv,ev,q3⟩:=I2.after hq';subst ev;exact⟨rv,⟨V.ref (s.heap.objs.size+1),H',I3,rfl,q3⟩⟩
  | next=>exact False.elim hq'
  | brk=>exact False.elim hq'
  | cont=>exact False.elim hq'
theorem U3 (M:Mk X.K C f) (F:FnOk X.prog X.w X.K X.mg X.base CX k f fd ps sp) (hr:Room (k+1) X.A) (hg:Gl X x) (hm:X.mg x=some (.ref C)) (hb:Binds X.K fd ps ds) (hd:Vals dvs ds) (hx:C8 CX X E)
 (ha:PA X (e::es) t) (hdb:(x == ("__debug__" : Str))=false:=by decide) (he:starEach (e::es) X.env=(false,eval e X.env)::starEach es X.env:=by rfl) (hpl:(backTo pos (starEach es X.env)).any (·.1)=false:=by rfl) :
 PE X (.Call (.Name x p) (e::es) [] pos) (Ux C sp dvs E t):=by
 intro pins s σ H Q I h;refine wpAny_Call_Name_kw (Lu I hg hm ?_ hdb);refine PySem.W.callWith_K (h₀:=X.base) I.ok.mod.kin M.kp (thn (ha pos pins s σ H _ I h) fun us s1 ⟨vs,H1,I1,r,q⟩=>⟨I1.kIn,?_⟩) he hpl;exact Py M F hr hb hd hx I1 r q
end
section
variable {X:Cx}{CX:CXT}{k:Nat}{f C:Addr}{fd:FuncData}{ps ks:List Str}{sp:Sp}{E:XK}{x m:Str}{p pos apos kpos:Pos}{e o:Expr}{es:List Expr}{kws:List Keyword}{te ta:TE}{t tk:TA}{nm:Option Str}
structure KBinds(K:W.Frag)(fd:FuncData)(ps ks:List Str)(g:List Value->List Value->List Value)(gV:List V->List V->List V):Prop where
 to:∀(s:Shared) (us ws:List Value),K.In s.heap->(g us ws).length=ps.length->BindsTo s fd ⟨us,ks.zip ws⟩ (ps.zip (g us ws))
 rel:∀{vs:List V} {us:List Value} {zs:List V} {ws:List Value},Vals vs us->Vals zs ws->Vals (gV vs zs) (g us ws)
variable {g:List Value->List Value->List Value}{gV:List V->List V->List V}
end
structure FnScope(N P:List Str)(sc:Scope):Prop where
 kind:sc.kind=.function
 co:sc.isCoroutine=false
 gen:sc.isGenerator=false
 nd:N.Nodup
 pre:N.take P.length=P
 par:∀x∈P,sc.names.lookup x=some .local\/sc.names.lookup x=some .cell
 nofree:∀y∈sc.names,y.2≠.free
theorem MQ{kindOf:Str->Option NameKind}{x:Str}:∀{binds:List (Str × Value)} {m:Str->Option Value},(∀v,(x,v)∉binds)->bindL kindOf binds m x=m x
 | [],_,_=>rfl
 | (n,v)::r,m,h=>by
  unfold bindL;rw[MQ fun w hw=>h w (Za _ hw)];split
  ·have:x≠n:=by rintro rfl;exact h v Zo
   simp[this]
  ·rfl
theorem MV{kindOf:Str->Option NameKind}{x:Str}:∀{binds:List (Str × Value)} {m:Str->Option Value},(∀v,(x,v)∉binds)->bindC kindOf binds m x=m x
 | [],_,_=>rfl
 | (n,v)::r,m,h=>by
  unfold bindC;rw[MV fun w hw=>h w (Za _ hw)];split
  ·rfl
  ·have:x≠n:=by rintro rfl;exact h v Zo
   simp[this]
theorem MA{kindOf:Str->Option NameKind}{x:Str}{v:Value}:∀{P:List Str} {vs:List Value} {i:Nat} {m:Str->Option Value},P.Nodup->P[i]? = some x->vs[i]? = some v->kindOf x=some .local ->
 bindL kindOf (P.zip vs) m x=some v
 | [],_,_,_,_,h,_,_=>by simp at h
 | _::_,[],_,_,_,_,h,_=>by simp at h
 | p::P,w::vs,0,m,nd,h1,h2,hk=>by
  simp at h1 h2;subst h1;subst h2;show bindL kindOf ((p,w)::P.zip vs) m p=_;unfold bindL;rw[MQ fun v hv=>(ZBa.mp nd).1 (List.of_mem_zip hv).1,if_pos hk];simp
 | p::P,w::vs,i+1,m,nd,h1,h2,hk=>by
  show bindL kindOf ((p,w)::P.zip vs) m x=_;unfold bindL;exact MA (i:=i) (ZBa.mp nd).2 (by simpa using h1) (by simpa using h2) hk
theorem Jh{kindOf:Str->Option NameKind}{x:Str}{v:Value}:∀{P:List Str} {vs:List Value} {i:Nat} {m:Str->Option Value},P.Nodup->P[i]? = some x->vs[i]? = some v->kindOf x≠some .local ->
 bindC kindOf (P.zip vs) m x=some v
 | [],_,_,_,_,h,_,_=>by simp at h
 | _::_,[],_,_,_,_,h,_=>by simp at h
 | p::P,w::vs,0,m,nd,h1,h2,hk=>by
  simp at h1 h2;subst h1;subst h2;show bindC kindOf ((p,w)::P.zip vs) m p=_;unfold bindC;rw[MV fun v hv=>(ZBa.mp nd).1 (List.of_mem_zip hv).1,if_neg hk];simp
 | p::P,w::vs,i+1,m,nd,h1,h2,hk=>by
  show bindC kindOf ((p,w)::P.zip vs) m x=_;unfold bindC;exact Jh (i:=i) (ZBa.mp nd).2 (by simpa using h1) (by simpa using h2) hk
def Cp(N:List Str)(vs:List V):St:=vs.map some++List.replicate (N.length - vs.length) none
def Da(CX:CXT)(P:Program)(w:World)(K:W.Frag)(mg:Str->Option Value)(base:Heap)(N:List Str)(qual:Str)(scope:Scope)(f:Addr)(cd:Value)(A:Around)(outer:List Env)(s:Shared)(H:Hp)(E:XK):Cx where
 prog:=P
 w:=w
 K:=K
 mg:=mg
 base:=base
 A:=A.deeper (envOfC qual scope s.heap.objs.size f cd)
 N:=N
 s₀:=s
 H₀:=H
 env:=envOfC qual scope s.heap.objs.size f cd
 outer:=outer
 stack:=envOfC qual scope s.heap.objs.size f cd::outer
 ex:=[]
 calm:=true
 fn:=fun _=>true
 pn:=[]
 xe:=fun e s'=>wpAny (model P w) (A.deeper (envOfC qual scope s.heap.objs.size f cd)) (leaving (envOfC qual scope s.heap.objs.size f cd) e) (fun _ s''=>CX outer H s E e s'') (fun e' s''=>CX outer H s E e' s'') s'
theorem Lz{sc:Scope}{n:Nat}{x:Str}(h:sc.names.lookup x=some .cell):∃c,(cellsFrom n sc.names []).lookup x=some c:=by
 have q:=PySem.W.cellsFrom_some sc.names n [] (.inl h);exact Option.isSome_iff_exists.mp q
theorem UX {CX:CXT} {P:Program} {w:World} {K:W.Frag} {mg:Str->Option Value} {base:Heap} {N ps:List Str} {qual:Str} {scope:Scope} {f:Addr} {cd:Value} {A:Around} {outer:List Env} {s s1:Shared} {H:Hp} {E:XK} {us:List Value} {vs:List V}
 (S:FnScope N ps scope) (hd:A.handled=none) (e0:Env0 P w K mg base A outer s H) (hl:vs.length=ps.length) (r:Vals vs us)
 (x:InCallC s s.heap.objs.size (bindL (envOfC qual scope s.heap.objs.size f cd).kindOf (ps.zip us) fun _=>none) (cellsFrom (s.heap.objs.size+1) scope.names []) (bindC (envOfC qual scope s.heap.objs.size f cd).kindOf (ps.zip us) fun _=>none) s1) :
 Inv (Da CX P w K mg base N qual scope f cd A outer s H E) [] (Cp N vs) H s1:=by
 have hpl:ps.length<=N.length:=by have:=congrArg List.length S.pre;rw[ZV]at this;lia
 obtain⟨h1,tk,rfl,hk⟩:=x.done;have noA:∀b:Addr,b∉(Da CX P w K mg base N qual scope f cd A outer s H E).ex:=fun b z=>absurd (show b∈([]:List Addr) from z) (by simp)
 refine⟨⟨e0.mod,S.kind,rfl,rfl,ZD _,fun y z c h1 h2=>?_,fun y hy=>?_,fun y c _ h=>?_,fun _=>hd,Around.frames_deeper e0.frames,.inr ⟨rfl,rfl⟩,fun b z=>absurd z (noA b),e0.bs,e0.bsz,fun b _ _=>noA b,fun b z=>absurd z (noA b),e0.funs,e0.frf⟩,
  rfl,e0.bare,Un.kept hk,⟨_,x.toInCall.ns,fun i y v h1 h2 h3=>?_⟩,fun y c h=>⟨_,x.cell y c h⟩,e0.hok.fresh (ZD _),fun y c h=>?_,fun p hp=>absurd (show p∈([]:List (Addr × Obj)) from hp) (by simp),e0.hok.kept hk,?_⟩
 ·exact name_of_addr x.apart (PySem.mem_of_lookup h1) (PySem.mem_of_lookup h2)
 ·have hy:scope.names.lookup y=some .cell\/scope.names.lookup y=some .free:=hy
  rcases hy with hy | hy
  ·exact Lz hy
  ·exact absurd rfl (S.nofree _ (PySem.mem_of_lookup hy))
 ·exact Zp (x.above y c (PySem.mem_of_lookup h))
 ·have hi:i < vs.length:=by
   unfold Cp at h2
   by_cases hi:i < vs.length
   ·exact hi
   ·rw[ZBA (by simpa using hi)]at h2;rw[List.getElem?_replicate]at h2;split at h2 <;> cases h2
  have ha:vs[i]? = some v:=by
   unfold Cp at h2;rw[ZBb (by simpa using hi),ZX]at h2;cases e:vs[i]? with
   | none=>rw[e]at h2;cases h2
   | some a=>rw[e]at h2;cases h2;rfl
  obtain⟨u,hu,rv⟩:=r.get ha
  have hp:ps[i]? = some y:=by
   rw[<- S.pre,List.getElem?_take_of_lt (by lia)];exact h1
  have ndP:ps.Nodup:=by rw[<- S.pre];exact S.nd.sublist (List.take_sublist _ _)
  refine⟨u,rv,?_⟩
  rcases S.par y (Zw hp) with k | k
  ·exact .inl ⟨k,MA ndP hp hu k⟩
  ·obtain⟨c,e⟩:=Lz (n:=s.heap.objs.size+1) k;refine .inr ⟨.inl k,c,e,?_⟩;have q:=x.cell y c e;rw[Jh ndP hp hu (by show scope.names.lookup y≠_;rw[k];decide)]at q;exact q
 ·exact e0.hok.fresh (Zp (x.above y c (PySem.mem_of_lookup h)))
 ·unfold Cp;show _=N.length;rw[ZG,ZC,ZBw];lia
theorem O5 {CX:CXT} {P:Program} {w:World} {K:W.Frag} {mg:Str->Option Value} {base:Heap} {k:Nat} {f:Addr} {name qual:Str} {params:Arguments} {body:List Stmt} {scope:Scope} {dV kV doc pm cdv ct oc:Value} {an od:Option Addr}
 {osl:Array (Option Value)} {N ps:List Str} {sp:Sp} (lk:K.lookup f=some ⟨oc,od,.func (PySem.W.fnOf name qual params body scope dV kV doc pm an cdv ct),osl⟩) (hcd:PySem.W.codeIn K cdv qual=true) (S:FnScope N ps scope)
 (len:∀vs H Q E,sp vs H Q E->vs.length=ps.length)
 (hbody:∀(A:Around) (outer:List Env) (s:Shared) (H:Hp) (vs:List V) (Q:VK) (E:XK),Room k (A.deeper (envOfC qual scope s.heap.objs.size f cdv))->sp vs H Q E ->
   ∃t,PSs (Da CX P w K mg base N qual scope f cdv A outer s H E) body t/\t { nx:=fun _ H'=>Q .non H',rt:=Q } (Cp N vs) H) :
 FnOk P w K mg base CX (k+1) f (PySem.W.fnOf name qual params body scope dV kV doc pm an cdv ct) ps sp:=by
 refine⟨len,fun A outer s H args us vs Q E hr e0 hb r hsp=>?_⟩;have hl:=len _ _ _ _ hsp;have KX:K.In s.heap:=e0.mod.kin.keeps fun b o e=>(e0.bs b o e).1
 have lim:s.heap.NoLimit:=e0.mod.nolimit.keeps fun b o e=>(e0.bs b o e).1
 have hkind:∀y∈ps.zip us,scope.names.lookup y.1=some .local\/(scope.names.lookup y.1=some .cell/\((cellsFrom (s.heap.objs.size+1) scope.names []).lookup y.1).isSome=true):=fun⟨n,v⟩ hy=>by
  rcases S.par n (List.of_mem_zip hy).1 with q | q
  ·exact .inl q
  ·exact .inr ⟨q,PySem.W.cellsFrom_some _ _ _ (.inl q)⟩
 refine codeAny_call_function hr.depth (KX _ _ lk) rfl S.co S.gen rfl (PySem.W.codeRec_of KX hcd) (hb _ _ _ _ ?_);refine wpAny_newFunctionEnv_cells S.kind hkind fun env he s1 x=>?_
 subst he;refine⟨lim.keeps x.toInCall.keep,codeAny_func ?_⟩;obtain⟨t,ht,hq⟩:=hbody A outer s H vs Q E (hr.deeper _) hsp;have I:Inv (Da CX P w K mg base N qual scope f cdv A outer s H E) [] (Cp N vs) H s1:=UX S hr.hd e0 hl r x;refine Zv (ht [] s1 (Cp N vs) H _ I hq) (fun fl s' hs=>?_) fun e s' hs=>hs
 have fin:∀{σ':St} {H':Hp} {v:V} {u:Value},Inv (Da CX P w K mg base N qual scope f cdv A outer s H E) [] σ' H' s'->RelV v u->Q v H'->CE outer P w H s Q u s' :=
  fun {σ' H' v u} J rv q=>⟨v,H',J.os,J.bare,J.base,J.hok,rv,q⟩
 cases fl with
 | ret u =>
  obtain⟨v,σ',H',J,rv,q⟩:=hs;exact fin J rv q
 | next =>
  obtain⟨σ',H',J,q⟩:=hs;exact fin (v:=V.non) (u:=Value.none) J rfl q
 | brk =>
  obtain⟨_,_,_,q⟩:=hs;exact False.elim q
 | cont =>
  obtain⟨_,_,_,q⟩:=hs;exact False.elim q
section
variable {X:Cx}{x:Str}{p pos:Pos}{e:Expr}{es:List Expr}{t:TA}{id T:String}{r:List V->Hp->VK->Prop}
def tCB(r:List V->Hp->VK->Prop)(t:TA):TE:=fun σ H Q=>t σ H fun vs H1=>r vs H1 Q
theorem AT (hc:CallR X (.builtin id) r) (hg:Gl X x) (hm:X.mg x=none) (hv:bootBuiltins x=some (.builtin id)) (ha:PA X (e::es) t) (hn:x ≠ "__name__":=by decide) (hdb:(x == ("__debug__" : Str))=false:=by decide)
 (he:starEach (e::es) X.env=(false,eval e X.env)::starEach es X.env:=by rfl) (hpl:(backTo pos (starEach es X.env)).any (·.1)=false:=by rfl):PE X (.Call (.Name x p) (e::es) [] pos) (tCB r t):=by
 intro pins s σ H Q I h;refine wpAny_Call_Name_kw (DA I hg hm hv ?_ hn hdb);exact PyProof.Rows.callWith_builtin1 (thn (ha pos pins s σ H _ I h) fun us s1 ⟨vs,H1,I1,r1,q1⟩=>hc pins s1 σ H1 vs us Q I1 r1 q1) he hpl
theorem Af (hc:CallR X (.type T) r) (hg:Gl X x) (hm:X.mg x=none) (hv:bootBuiltins x=some (.type T)) (ha:PA X (e::es) t) (hn:x ≠ "__name__":=by decide) (hdb:(x == ("__debug__" : Str))=false:=by decide)
 (he:starEach (e::es) X.env=(false,eval e X.env)::starEach es X.env:=by rfl) (hpl:(backTo pos (starEach es X.env)).any (·.1)=false:=by rfl):PE X (.Call (.Name x p) (e::es) [] pos) (tCB r t):=by
 intro pins s σ H Q I h;refine wpAny_Call_Name_kw (DA I hg hm hv ?_ hn hdb);exact PyProof.Rows.callWith_type1 (thn (ha pos pins s σ H _ I h) fun us s1 ⟨vs,H1,I1,r1,q1⟩=>hc pins s1 σ H1 vs us Q I1 r1 q1) he hpl
end
end L2
namespace HT
open PySem PyProof.Rows
section
open PySem.SeqAt
open PySem.AutoSeq1 (wpAny_loadPart')
open PySem.MeetsSeq PySem.MeetsSeq2 PySem.MeetsSeq3
end
section
variable {prog:Program}{w:World}{A:Around}{E:Value->Shared->Prop}{s:Shared}
theorem cat_tup {t b:Addr} {vs ws:List Value} {Q:Value->Shared->Prop} (ht:IsTup s.heap t vs.toArray) (hb:IsTup s.heap b ws.toArray) (hv:vs≠[])
 (h1:ws=[]->Q (.ref t) s) (h2:ws≠[]->Q (.ref s.heap.objs.size) { s with heap:=s.heap.push { cls:=.type "tuple",data:=.seq (vs++ws).toArray } })
 (hsz:vs.length+ws.length<=sizeLine):wpAny (model prog w) A (binaryOp .Add (.ref t) (.ref b)) Q E s:=by
 obtain⟨⟨cls,dd,data,sl⟩,ho,hc,n,hd⟩:=id ht;obtain⟨⟨cls2,dd2,data2,sl2⟩,ho2,hc2,n2,hd2⟩:=id hb;simp only at hc hd hc2 hd2;subst hc hd hc2 hd2;have e:vs.toArray++ws.toArray=(vs++ws).toArray:=by simp
 by_cases hw:ws=[]
 ·exact concat_meets ⟨_,ho,rfl⟩ ⟨_,ho2,rfl⟩ noFill_tuple_add seq_tuple_add PySem.F.slot_tuple_add PySem.F.entry_tuple_add (PySem.F.args_tuple_add_2 _ _)
   (tuple_addW1 t b vs.toArray ws.toArray n n2 dd dd2 sl sl2 (by simpa using hv) (by simp[hw])) ⟨ho,ho2,h1 hw⟩
 ·refine concat_meets ⟨_,ho,rfl⟩ ⟨_,ho2,rfl⟩ noFill_tuple_add seq_tuple_add PySem.F.slot_tuple_add PySem.F.entry_tuple_add (PySem.F.args_tuple_add_2 _ _)
   (tuple_addW2 t b vs.toArray ws.toArray n n2 dd dd2 sl sl2 (by simpa using hv) (by simpa using hw) (by rw[ZL,ZL];exact hsz)) ⟨ho,ho2,?_⟩
  rw[e];exact h2 hw
def sIx(n d:Nat):Option Int->Nat
 | none=>d
 | some v=>if v < 0 then (v+(n:Int)).toNat else min v.toNat n
theorem sIx_none(n d:Nat):sIx n d none=d:=rfl
theorem sIx_nat(n d k:Nat):sIx n d (some (k:Int))=min k n:=by
 show(if (k:Int) < 0 then ((k:Int)+(n:Int)).toNat else min (k:Int).toNat n)=min k n
 rw[if_neg (by lia),ZY]
theorem Sr(n d:Nat)(hd:d<=n)(o:Option Int):sIx n d o<=n:=by
 cases o with
 | none=>exact hd
 | some v =>
  show(if v < 0 then (v+(n:Int)).toNat else min v.toNat n)<=n
  by_cases hv:v < 0
  ·rw[if_pos hv];lia
  ·rw[if_neg hv];exact Nat.min_le_right _ _
theorem Jr(v:Int)(n d:Nat):(if v < 0 then max (v+(n:Int)) 0 else min v (n:Int))=((sIx n d (some v):Nat):Int):=by
 show(if v < 0 then max (v+(n:Int)) 0 else min v (n:Int))=(((if v < 0 then (v+(n:Int)).toNat else min v.toNat n):Nat):Int)
 by_cases hv:v < 0
 ·simp only[if_pos hv];lia
 ·simp only[if_neg hv];lia
theorem NK(lo hi:Option Int)(n:Nat):Builtin.Slice.sliceAdjust lo hi 1 (n:Int)=(((sIx n 0 lo:Nat):Int),((sIx n n hi:Nat):Int)):=by
 have h1:¬((1:Int) < 0):=by lia
 unfold Builtin.Slice.sliceAdjust;simp only[h1,if_false];refine Prod.ext ?_ ?_
 ·cases lo with
  | none=>rfl
  | some v=>exact Jr v n 0
 ·cases hi with
  | none=>rfl
  | some v=>exact Jr v n n
theorem ON(i j:Nat):Builtin.Slice.slicePlaces (i:Int) (j:Int) 1=j - i:=by
 unfold Builtin.Slice.slicePlaces;have h1:(1:Int) > 0:=by lia
 simp only[h1,if_true,Int.ediv_one];split <;> lia
theorem FG{v:Value}{o:Option Int}{Q:Option Int->Shared->Prop}(p:IsPart v o)(h:Q o s):wpAny (model prog w) A (Builtin.Slice.slicePartIndex v) Q E s:=by
 cases p with
 | none=>exact slicePart_none h
 | int i t=>exact slicePart_int h
theorem Lg {sl:Addr} {vl vu:Value} {lo hi:Option Int} {n:Nat} {Q:Int × Int × Nat->Shared->Prop} (hs:s.heap.IsSliceOf sl vl vu .none) (pl:IsPart vl lo) (pu:IsPart vu hi)
 (h:Q (((sIx n 0 lo:Nat):Int),1,sIx n n hi - sIx n 0 lo) s):wpAny (model prog w) A (Builtin.Slice.sliceApplied (.ref sl) (pure (n:Int))) Q E s:=by
 obtain⟨os,hos,hcs,hds⟩:=id hs;unfold Builtin.Slice.sliceApplied Builtin.Slice.sliceFields;refine ZA (ZA (Z6 hos hds (x:=vl) rfl (ZA (Z6 hos hds (x:=vu) rfl (ZA (Z6 hos hds (x:=.none) rfl (ZB ?_)))))));refine ZA (slicePart_none ?_);show wpAny _ _ (if ((1:Int) == 0)=true then _ else _) _ _ s;rw[if_neg (by decide)];refine ZA (FG pl (ZA (FG pu (ZA (ZB ?_)))));show wpAny _ _ (match Builtin.Slice.sliceAdjust lo hi 1 (n:Int) with | (lo,hi)=>pure (lo,(1:Int),Builtin.Slice.slicePlaces lo hi 1)) _ _ s;rw[NK lo hi n];show wpAny _ _ (pure (((sIx n 0 lo:Nat):Int),(1:Int),Builtin.Slice.slicePlaces ((sIx n 0 lo:Nat):Int) ((sIx n n hi:Nat):Int) 1)) _ _ s;rw[ON];exact ZB h
theorem Rf(xs:Array Value)(i k:Nat):((List.range k).filterMap fun(m:Nat)=>xs[((i:Int)+(m:Int) * 1).toNat]?).toArray=((xs.toList.drop i).take k).toArray:=by
 have e:(fun(m:Nat)=>xs[((i:Int)+(m:Int) * 1).toNat]?)=fun m=>xs[i+m]?:=by
  funext m
  have:((i:Int)+(m:Int) * 1).toNat=i+m:=by lia
  rw[this]
 rw[e]
 have:=pick_run xs i k
 rw[List.filterMap_map]at this;have e2:((fun x=>xs[x]?) ∘ fun x=>i+x)=fun m=>xs[i+m]?:=rfl
 rw[e2]at this;rw[this]
theorem getItem_tuple_cut {t sl:Addr} {items:Array Value} {vl vu:Value} {lo hi:Option Int} {Q:Value->Shared->Prop} (ht:IsTup s.heap t items) (hs:s.heap.IsSliceOf sl vl vu .none) (pl:IsPart vl lo) (pu:IsPart vu hi)
 (hw:¬(sIx items.size 0 lo=0/\sIx items.size items.size hi=items.size))
 (h:Q (.ref s.heap.objs.size) { s with heap:=s.heap.push { cls:=.type "tuple",data:=.seq ((items.toList.drop (sIx items.size 0 lo)).take (sIx items.size items.size hi - sIx items.size 0 lo)).toArray } })
 (hsz:items.size<=sizeLine):wpAny (model prog w) A (getItem (.ref t) (.ref sl)) Q E s:=by
 have htake:sizeOk (.seq ((items.toList.drop (sIx items.size 0 lo)).take (sIx items.size items.size hi - sIx items.size 0 lo)).toArray):=by
  show((items.toList.drop (sIx items.size 0 lo)).take (sIx items.size items.size hi - sIx items.size 0 lo)).toArray.size<=sizeLine
  rw[ZL,ZV,Zr,Zf];lia
 have hj:sIx items.size items.size hi<=items.size:=Sr _ _ (ZD _) hi;obtain⟨os,hos,hcs,hds⟩:=id hs;have hTs:s.TypeIs (.ref sl) "slice":=⟨os,hos,hcs⟩;unfold getItem
 try with_reducible refine Zl ?_
 first | refine ZA (ZB ?_) | skip
 refine ZA (wpAny_sequenceKey ht.typeIs (by decide) ?_)
 refine ZA (wpAny_callSpecial?_slot (name:=Str.ofString "__getitem__") ht.typeIs PyProof.Rows.slot_tuple_getitem
  (Zx PyProof.Rows.slot_tuple_getitem ht.typeIs entry_tuple_getitem ?_ (args_tuple_getitem _ _)))
 show wpAny _ _ (Builtin.Tuple.tupleItemsOf (.ref t) >>= _) _ _ s;refine ZA (tupleItemsOf_ ht ?_);refine ZA (wpAny_typeOf hTs ?_);rw[if_pos (by decide)];refine ZA (Lg hs pl pu ?_)
 have hno:¬((((sIx items.size 0 lo:Nat):Int) == 0 && (1:Int) == 1 && (sIx items.size items.size hi - sIx items.size 0 lo) == items.size)=true):=by
  intro q;rw[Ze,Ze]at q;have q1:((sIx items.size 0 lo:Nat):Int)=0:=eq_of_beq q.1.1;have q2:sIx items.size items.size hi - sIx items.size 0 lo=items.size:=eq_of_beq q.2;exact hw ⟨by lia,by lia⟩
 show wpAny _ _ (if (((sIx items.size 0 lo:Nat):Int) == 0 && (1:Int) == 1 && (sIx items.size items.size hi - sIx items.size 0 lo) == items.size)=true then _ else _) _ _ s;rw[if_neg hno,Rf]
 first
  | exact ZA (m:=Builtin.Tuple.tupleExact _) (Zk (ZB ⟨_,rfl,ZB h⟩) htake)
  | exact ZA (m:=Builtin.Tuple.tupleExact _) (Zk (ZA (ZB (ZB ⟨_,rfl,ZB h⟩))) htake)
  | exact ZA (ZA (m:=Builtin.Tuple.tupleExact _) (Zk (ZB (ZB ⟨_,rfl,ZB h⟩)) htake))
  | exact ZA (ZA (m:=Builtin.Tuple.tupleExact _) (Zk (ZB ⟨_,rfl,ZB h⟩) htake))
end
end HT
namespace L2
open PySem PySem.Spec PyProof.Rows
abbrev TO:=St->Hp->(Option Int->Hp->Prop)->Prop
def PO(X:Cx)(e:Option Expr)(t:TO):Prop :=
 ∀(pins:List (Addr × Obj)) (s:Shared) (σ:St) (H:Hp) (Q:Option Int->Hp->Prop),Inv X pins σ H s->t σ H Q ->
  wpAny (model X.prog X.w) X.A (evalPart e X.env) (fun u s'=>∃o H',Inv X pins σ H' s'/\IsPart u o/\Q o H') X.xe s
def Ma:TO:=fun _ H Q=>Q none H
def K3(t:TE):TO:=fun σ H Q=>t σ H fun x H1=>∃i,x=.int i/\Q (some i) H1
theorem EM{ns:List Int}:∀{us:List Value},Vals (ns.map V.int) us->IntsAre us ns:=by
 induction ns with
 | nil=>intro us r;rw[List.map_nil]at r;cases r;exact .nil
 | cons n ns ih =>
  intro us r;rw[Zg]at r;cases r with
  | cons r1 r2 =>
   obtain⟨t,e⟩:=r1;subst e;exact .cons n t (ih r2)
section
variable {X:Cx}{e:Expr}{te:TE}{lo hi:Option Expr}{tl th:TO}{pos p2:Pos}
theorem Ba:PO X none Ma:=by
 intro pins s σ H Q I h;rw[evalPart_none];exact ZB ⟨none,H,I,.none,h⟩
theorem Bf(h:PE X e te):PO X (some e) (K3 te):=by
 intro pins s σ H Q I hw;rw[evalPart_some];refine thn (h pins s σ H _ I hw) fun u s1 ⟨x,H1,I1,r1,q1⟩=>?_
 obtain⟨i,rfl,q⟩:=q1;obtain⟨t,rfl⟩:=r1;exact⟨some i,H1,I1,.int i t,q⟩
def SlR(X:Cx)(r:V->Option Int->Option Int->Hp->VK->Prop):Prop :=
 ∀(pins:List (Addr × Obj)) (s:Shared) (σ:St) (H:Hp) (x:V) (v vl vu:Value) (lo hi:Option Int) (sl:Addr) (Q:VK),Inv X pins σ H s->RelV x v->s.heap.IsSliceOf sl vl vu .none->IsPart vl lo->IsPart vu hi->r x lo hi H Q ->
  ∃T id,typeLookup (.type T) "__getitem__" = pure (some (.builtin id))/\s.TypeIs v T/\wpAny (model X.prog X.w) X.A (getItem v (.ref sl)) (EP X pins σ Q) X.xe s
def tSl(r:V->Option Int->Option Int->Hp->VK->Prop)(te:TE)(tl th:TO):TE:=fun σ H Q=>te σ H fun x H1=>tl σ H1 fun l H2=>th σ H2 fun u H3=>r x l u H3 Q
theorem Ib{r:V->Option Int->Option Int->Hp->VK->Prop}(hr:SlR X r)(he:PE X e te)(hl:PO X lo tl)(hu:PO X hi th):PE X (.Subscript e (.Slice lo hi none p2) pos) (tSl r te tl th):=by
 intro pins s σ H Q I h;refine Subscript_ (thn (he pins s σ H _ I h) fun v s1 ⟨x,H1,I1,r1,q1⟩=>?_);refine wpAny_Slice (thn (hl pins s1 σ H1 _ I1 q1) fun vl s2 ⟨l,H2,I2,pl,q2⟩=>thn (hu pins s2 σ H2 _ I2 q2) fun vu s3 ⟨u,H3,I3,pu,q3⟩=>?_);rw[evalPart_none];refine ZB ?_;have I4:Inv X pins σ H3 { s3 with heap:=s3.heap.push { cls:=.type "slice",data:=.fields #[vl,vu,.none] } }:=I3.kept (t':=s3.toks) fun b ob q=>ZJ _ q
 obtain⟨T,id,hT,ht,hg⟩:=hr pins { s3 with heap:=s3.heap.push { cls:=.type "slice",data:=.fields #[vl,vu,.none] } } σ H3 x v vl vu l u s3.heap.objs.size Q I4 r1 (Heap.IsSliceOf.new ..) pl pu q3;show wpAny (model X.prog X.w) X.A (subscriptTail e (.Slice lo hi none p2) v (.ref s3.heap.objs.size)) (EP X pins σ Q) X.xe { s3 with heap:=s3.heap.push { cls:=.type "slice",data:=.fields #[vl,vu,.none] } };exact tail_any (ops:=[.ref s3.heap.objs.size,v]) ht hT hg (by with_unfolding_all rfl)
def A1(xs:List V)(lo hi:Option Int):List V:=(xs.drop (HT.sIx xs.length 0 lo)).take (HT.sIx xs.length xs.length hi - HT.sIx xs.length 0 lo)
theorem IF(xs:List V)(lo hi:Option Int):(A1 xs lo hi).length<=xs.length:=by
 unfold A1;rw[ZV,Zr];lia
def Qu(K:W.Frag):V->Option Int->Option Int->Hp->VK->Prop:=fun x lo hi H Q=>∃a xs,x=.ref a/\SqT K H a xs /\
 ¬(HT.sIx xs.length 0 lo=0/\HT.sIx xs.length xs.length hi=xs.length)/\∀p,H p=none->Q (.ref p) (upd H p (.tup (A1 xs lo hi)))
theorem GN:SlR X (Qu X.K):=by
 intro pins s σ H x v vl vu lo hi sl Q I rx hs pl pu h;obtain⟨a,xs,rfl,hx,hw,q⟩:=h;cases rx;obtain⟨its,r,ht,hz⟩:=I.tuple hx;have hlen:its.toArray.size=xs.length:=by rw[ZL];exact r.length.symm
 refine⟨"tuple",_,PyProof.Rows.slot_tuple_getitem.lookup,ht.typeIs,?_⟩;refine HT.getItem_tuple_cut ht hs pl pu (by rw[hlen];exact hw) ?_ (by rw[hlen];exact hz);rw[hlen];refine⟨.ref s.heap.objs.size,_,I.laid (t':=s.toks) (o:=.tup (A1 xs lo hi)) (fun b ob q=>ZJ _ q) (ZD _) ?_,rfl,q _ (I.hok.fresh (ZD _))⟩;exact⟨ZP (IF xs lo hi) hz,_,(r.drop (HT.sIx xs.length 0 lo)).take (HT.sIx xs.length xs.length hi - HT.sIx xs.length 0 lo),IsTupN.new _ _⟩
def KM(K:W.Frag):R2:=fun x y H Q=>∃a b xs ys,x=.ref a/\y=.ref b/\SqT K H a xs/\SqT K H b ys/\xs≠[]/\xs.length+ys.length<=sizeLine /\
 (ys=[]->Q (.ref a) H)/\(ys≠[]->∀p,H p=none->Q (.ref p) (upd H p (.tup (xs++ys))))
theorem Vals.nil_iff{xs:List V}{us:List Value}(r:Vals xs us):us=[] ↔ xs=[]:=by
 cases r with
 | nil=>simp
 | cons _ _=>simp
theorem Iv:OpR X (binaryOp .Add) (KM X.K):=by
 intro pins s σ H x y v u Q I rx ry h;obtain⟨a,b,xs,ys,rfl,rfl,ha,hb,hx,hz,q1,q2⟩:=h;cases rx;cases ry;obtain⟨its,r1,p1,_⟩:=I.tuple ha;obtain⟨its2,r2,p2,_⟩:=I.tuple hb;refine HT.cat_tup p1 p2 (fun z=>hx (r1.nil_iff.mp z)) (fun z=>⟨.ref a,H,I,rfl,q1 (r2.nil_iff.mp z)⟩) (fun z=>?_) (by rw[<- r1.length,<- r2.length];exact hz);refine⟨.ref s.heap.objs.size,_,I.laid (t':=s.toks) (o:=.tup (xs++ys)) (fun b ob q=>ZJ _ q) (ZD _) ?_,rfl,q2 (fun w=>z (r2.nil_iff.mpr w)) _ (I.hok.fresh (ZD _))⟩;exact⟨by rw[ZG];exact hz,_,r1.append r2,IsTupN.new _ _⟩
end
def ixN(n:Nat)(i:Int):Option Nat:=if 0<=i then (if i < n then some i.toNat else none) else if -(n:Int)<=i then some (i+n).toNat else none
def atI{α:Type}(xs:List α)(i:Int):Option α:=(ixN xs.length i).bind fun j=>xs[j]?
theorem Ml{n:Nat}{i:Int}{j:Nat}(h:ixN n i=some j):seqIndex? i n=some j/\j < n /\ -(n:Int)<=i/\i < n:=by
 unfold ixN at h
 by_cases h0:0<=i
 ·rw[if_pos h0]at h
  by_cases h1:i < n
  ·rw[if_pos h1]at h;have e:i.toNat=j:=ZW h;exact⟨by rw[seqIndex_of h0 h1,e],by lia,by lia,h1⟩
  ·rw[if_neg h1]at h;cases h
 ·rw[if_neg h0]at h
  by_cases h1 : -(n:Int)<=i
  ·rw[if_pos h1]at h;have e:(i+n).toNat=j:=ZW h;exact⟨by rw[seqIndex_neg (by lia) h1,e],by lia,h1,by lia⟩
  ·rw[if_neg h1]at h;cases h
theorem JC{α:Type}{xs:List α}{i:Int}{v:α}(h:atI xs i=some v):∃j,seqIndex? i xs.length=some j/\xs[j]? = some v/\j < xs.length /\ -(xs.length:Int)<=i/\i < xs.length:=by
 unfold atI at h;cases e:ixN xs.length i with
 | none=>rw[e]at h;cases h
 | some j =>
  rw[e]at h;obtain⟨h1,h2,h3,h4⟩:=Ml e;exact⟨j,h1,h,h2,h3,h4⟩
theorem JA{α:Type}(xs:List α)(v:α):atI (xs++[v]) (-1)=some v:=by
 have hl:(xs++[v]).length=xs.length+1:=by simp
 have e:ixN (xs++[v]).length (-1)=some xs.length:=by
  unfold ixN;rw[hl,if_neg (by decide),if_pos (by lia)]
  congr 1
  lia
 unfold atI;rw[e]
 show(xs++[v])[xs.length]? = some v
 simp
def GA(b:Expr):Prop:=∀o i,subscripted b false o i=operate [o,i] (getItem o i)
def IxR(X:Cx)(r:R2):Prop :=
 ∀(value slice:Expr) (pins:List (Addr × Obj)) (s:Shared) (σ:St) (H:Hp) (x y:V) (v u:Value) (Q:VK),Inv X pins σ H s->RelV x v->RelV y u->r x y H Q ->
  subscripted slice false v u=operate [v,u] (getItem v u)->wpAny (model X.prog X.w) X.A (subscriptTail value slice v u) (EP X pins σ Q) X.xe s
def MtR(X:Cx)(id:String)(r:V->List V->Hp->VK->Prop):Prop :=
 ∀(pins:List (Addr × Obj)) (s:Shared) (σ:St) (H:Hp) (x:V) (xs:List V) (v:Value) (us:List Value) (Q:VK),Inv X pins σ H s->RelV x v->Vals xs us->r x xs H Q ->
  wpAny (model X.prog X.w) X.A (call (.builtin id) (v::us)) (EP X pins σ Q) X.xe s
section
variable {X:Cx}{a b:Expr}{ta tb:TE}{pos:Pos}
theorem IxR.or{r r':R2}(h:IxR X r)(h':IxR X r'):IxR X (fun x y H Q=>r x y H Q\/r' x y H Q):=by
 intro value slice pins s σ H x y v u Q I rx ry q hs
 rcases q with q | q
 ·exact h value slice pins s σ H x y v u Q I rx ry q hs
 ·exact h' value slice pins s σ H x y v u Q I rx ry q hs
theorem Tn{r:R2}(hr:IxR X r)(ha:PE X a ta)(hb:PE X b tb)(hs:GA b):PE X (.Subscript a b pos) (tOp r ta tb):=by
 intro pins s σ H Q I h;exact Subscript_ (Ip ha hb I h fun v u s2 x y H2 I2 rx ry q=>hr a b pins s2 σ H2 x y v u Q I2 rx ry q (hs _ _))
def Jg(K:W.Frag):R2:=fun x y H Q=>∃p xs i v,x=.ref p/\y=.int i/\SqL K H p xs/\atI xs i=some v/\Q v H
def L4(K:W.Frag):R2:=fun x y H Q=>∃p xs i v,x=.ref p/\y=.int i/\SqT K H p xs/\atI xs i=some v/\Q v H
def L7:R2:=fun x y H Q=>∃z i c,x=.str z/\y=.int i/\z.length<=sizeLine/\atI z.cps.toList i=some c/\Q (.str ⟨#[c]⟩) H
theorem ix_list:IxR X (Jg X.K):=by
 intro value slice pins s σ H x y v u Q I rx ry h hs;obtain⟨p,xs,i,z,rfl,rfl,hq,he,q⟩:=h;cases rx;obtain⟨t,rfl⟩:=ry;obtain⟨its,r,pl,hz⟩:=I.list hq;obtain⟨j,h1,h2,h3,h4,h5⟩:=JC he;obtain⟨w,ew,rw'⟩:=r.get h2;have hl:=r.length;have hn:=EB;have fin:EP X pins σ Q w s:=⟨z,H,I,rw',q⟩
 by_cases h0:0<=i
 ·have hj:i.toNat=j:=by
   rw[seqIndex_of h0 h5]at h1;exact ZW h1
  exact item_listR pl.isList h0 (by lia) (by rw[hj];simpa using ew) fin hs
 ·have hj:(i+(its.toArray.size:Int)).toNat=j:=by
   rw[seqIndex_neg (by lia) h4]at h1;rw[ZL,<- hl];exact ZW h1
  exact subscriptTail_builtinR (x:=w) pl.isList.typeIs slot_list_getitem.lookup
   (wpAny_getItem_list_neg (Q:=fun r s'=>r=w/\EP X pins σ Q r s') pl.isList (by lia) (by rw[ZL] <;> lia) (by lia) (by rw[hj];simpa using ew) ⟨rfl,fin⟩) hs
theorem ix_tup:IxR X (L4 X.K):=by
 intro value slice pins s σ H x y v u Q I rx ry h hs;obtain⟨p,xs,i,z,rfl,rfl,hq,he,q⟩:=h;cases rx;obtain⟨t,rfl⟩:=ry;obtain⟨its,r,pl,hz⟩:=I.tuple hq;obtain⟨j,h1,h2,h3,h4,h5⟩:=JC he;obtain⟨w,ew,rw'⟩:=r.get h2;have hl:=r.length;have hn:=EB;have fin:EP X pins σ Q w s:=⟨z,H,I,rw',q⟩
 exact subscriptTail_builtinR (x:=w) pl.typeIs slot_tuple_getitem.lookup
  (getItem_tuple (j:=j) (Q:=fun r s'=>r=w/\EP X pins σ Q r s') pl (by lia) (by lia) (by rw[ZL,<- hl];exact h1) (by simpa using ew) ⟨rfl,fin⟩) hs
theorem Ui:IxR X L7:=by
 intro value slice pins s σ H x y v u Q I rx ry h hs;obtain⟨z,i,c,rfl,rfl,hz,he,q⟩:=h;obtain⟨t,rfl⟩:=rx;obtain⟨t',rfl⟩:=ry;obtain⟨j,h1,h2,h3,h4,h5⟩:=JC he;have hl:z.cps.toList.length=z.length:=by simp[Str.length]
 rw[hl]at h1 h4 h5;have hn:=EB
 exact tail_any (typeIs_str s z t) slot_str_getitem.lookup (getItem_str (c:=c) (by
  have e1:decide (i < -(2 ^ 63:Int))=false:=Zu (by lia);have e2:decide (i ≥ 2 ^ 63)=false:=Zu (by lia);rw[e1,e2,Bool.or_false]) (by rw[h1];simpa using h2) ⟨.str ⟨#[c]⟩,H,I.tok _,⟨_,rfl⟩,q⟩) hs
def rIx(K:W.Frag):R2:=fun x y H Q=>Jg K x y H Q\/L4 K x y H Q\/L7 x y H Q
theorem ix_seq:IxR X (rIx X.K):=ix_list.or (ix_tup.or Ui)
theorem OC(its:List Value)(n j:Nat)(u:Value):Obj.mapSeq (·.setIfInBounds j u) { cls:=.type "list",data:=.seq its.toArray n } = { cls:=.type "list",data:=.seq (its.set j u).toArray n }:=by
 simp[Obj.mapSeq]
theorem Inv.lst{pins:List (Addr × Obj)}{σ:St}{H:Hp}{s:Shared}{p:Addr}{xs:List V}(I:Inv X pins σ H s)(h:H p=some (.lst xs)) :
 ∃(its:List Value) (n:Nat),Vals xs its/\s.heap.get? p=some { cls:=.type "list",data:=.seq its.toArray n } /\ xs.length<=sizeLine:=by
 obtain⟨z,its,n,r,e⟩:=I.hok p _ h;exact⟨its,n,r,e,z⟩
theorem Inv.lstUpd {pins:List (Addr × Obj)} {σ:St} {H:Hp} {s:Shared} {p:Addr} {xs ys:List V} {its its':List Value} {n n':Nat} {f:Obj->Obj} (I:Inv X pins σ H s) (h:H p=some (.lst xs))
 (ho:s.heap.get? p=some { cls:=.type "list",data:=.seq its.toArray n }) (hf:f { cls:=.type "list",data:=.seq its.toArray n } = { cls:=.type "list",data:=.seq its'.toArray n' }) (r:Vals ys its') (hz:ys.length<=sizeLine) (t:Nat) :
 Inv X pins σ (upd H p (.lst ys)) { s with heap:=s.heap.update p f,toks:=t }:=by
 have e:(s.heap.update p f).get? p=some { cls:=.type "list",data:=.seq its'.toArray n' }:=by
  rw[ZBc f ho (by rw[hf] <;> rfl),hf]
 refine I.write (x:=p) (e:=p) (by rw[h];trivial) (.inl rfl) (fun b u hb q=>(ZBB _ _ (Ne.symm hb)).trans q) ⟨_,e⟩ ?_;exact⟨hz,its',n',r,e⟩
def Nz:V->V->V->Hp->(Hp->Prop)->Prop:=fun o i v H Q=>∃p xs k j,o=.ref p/\i=.int k/\H p=some (.lst xs)/\ixN xs.length k=some j/\Q (upd H p (.lst (xs.set j v)))
theorem UB:G3 X Nz:=by
 intro pins s σ H o i v ov iv u Q I ro ri rv h;obtain⟨p,xs,k,j,rfl,rfl,hp,hj,q⟩:=h;cases ro;obtain⟨t,rfl⟩:=ri;obtain⟨its,n,r,ho,hz⟩:=I.lst hp;obtain⟨h1,h2,h3,h4⟩:=Ml hj;have hl:=r.length;have hn:=EB
 have I':Inv X pins σ (upd H p (.lst (xs.set j v))) { s with heap:=s.heap.update p (Obj.mapSeq (·.setIfInBounds j u)) } :=
  I.lstUpd hp ho (OC its n j u) (r.set rv j) (by rw[ZBL];exact hz) s.toks
 by_cases h0:0<=k
 ·have hk:k.toNat=j:=by
   rw[seqIndex_of h0 h4]at h1;exact ZW h1
  exact PySem.W.ki_setAt ho h0 (by lia) (by rw[ZL,<- hl];exact h4) (by rw[hk];exact⟨_,I',q⟩)
 ·have hk:(k+(its.toArray.size:Int)).toNat=j:=by
   rw[seqIndex_neg (by lia) h3]at h1;rw[ZL,<- hl];exact ZW h1
  exact PySem.W.ki_setBack ho (by lia) (by rw[ZL,<- hl];exact h3) (by lia) (by rw[hk];exact⟨_,I',q⟩)
theorem Qi(lo hi:Option Int)(n:Nat):(sliceBounds lo hi none n).1=((HT.sIx n 0 lo:Nat):Int)/\(sliceBounds lo hi none n).2.1=((HT.sIx n n hi:Nat):Int)/\(sliceBounds lo hi none n).2.2=1:=by
 refine⟨?_,?_,rfl⟩
 ·cases lo with
  | none=>simp[sliceBounds,HT.sIx]
  | some i =>
   simp only[sliceBounds,HT.sIx,Option.getD_none,show(1:Int) > 0 by decide,if_true]
   by_cases h:i < 0
   ·simp only[h,if_true] <;> lia
   ·simp only[h,if_false] <;> lia
 ·cases hi with
  | none=>simp[sliceBounds,HT.sIx]
  | some i =>
   simp only[sliceBounds,HT.sIx,Option.getD_none,show(1:Int) > 0 by decide,if_true]
   by_cases h:i < 0
   ·simp only[h,if_true] <;> lia
   ·simp only[h,if_false] <;> lia
theorem QP(its:List Value)(lo hi:Option Int):slicePick its.toArray lo hi none=((its.drop (HT.sIx its.length 0 lo)).take (HT.sIx its.length its.length hi - HT.sIx its.length 0 lo)).toArray:=by
 obtain⟨h1,h2,h3⟩:=Qi lo hi its.toArray.size;unfold slicePick;rw[h1,h2,h3];simp only[sliceRange_one,pick_run,ZL] <;> rfl
def PU(K:W.Frag):V->Option Int->Option Int->Hp->VK->Prop:=fun x lo hi H Q=>∃a xs,x=.ref a/\SqL K H a xs/\∀p,H p=none->Q (.ref p) (upd H p (.lst (A1 xs lo hi)))
theorem Ut:SlR X (PU X.K):=by
 intro pins s σ H x v vl vu lo hi sl Q I rx hs pl pu h;obtain⟨a,xs,rfl,hx,q⟩:=h;cases rx;obtain⟨its,r,ht,hz⟩:=I.list hx;have hlen:=r.length;refine⟨"list",_,slot_list_getitem.lookup,ht.isList.typeIs,?_⟩;refine wpAny_getItem_list_slice ht.isList hs pl pu .none (by simp) ?_ (by rw[ZL] <;> lia);rw[QP,<- hlen];refine⟨.ref s.heap.objs.size,_,I.laid (t':=s.toks) (o:=.lst (A1 xs lo hi)) (fun b ob q=>ZJ _ q) (ZD _) ?_,rfl,q _ (I.hok.fresh (ZD _))⟩;exact⟨ZP (IF xs lo hi) hz,_,0,(r.drop (HT.sIx xs.length 0 lo)).take (HT.sIx xs.length xs.length hi - HT.sIx xs.length 0 lo),ZR _ rfl⟩
def B6:V->Bool
 | .non=>true
 | .bl _=>true
 | .int _=>true
 | .str _=>true
 | _=>false
def eqV:V->V->Bool
 | .non,.non=>true
 | .bl a,.bl b=>a == b
 | .bl a,.int b=>(if a then 1 else 0) == b
 | .int a,.bl b=>a == (if b then 1 else 0)
 | .int a,.int b=>a == b
 | .str a,.str b=>a == b
 | _,_=>false
theorem QJ{A:Around}{s:Shared}{y x:V}{u v:Value}(ry:RelV y u)(rx:RelV x v)(fy:B6 y=true)(fx:B6 x=true):SeqAt.EqAt A s u v (eqV y x):=by
 cases y with
 | non =>
  cases ry;cases x with
  | non=>cases rx;exact SeqAt.EqAt.same _
  | bl b=>cases rx;exact SeqAt.EqAt.none_bool b
  | int b=>obtain⟨t,rfl⟩:=rx;exact SeqAt.EqAt.none_int b t
  | str b=>obtain⟨t,rfl⟩:=rx;exact SeqAt.EqAt.none_str b t
  | _=>exact absurd (show false=true from fx) Zq
 | bl a =>
  cases ry;cases x with
  | non=>cases rx;exact SeqAt.EqAt.bool_none a
  | bl b=>cases rx;exact SeqAt.EqAt.bool_bool a b
  | int b=>obtain⟨t,rfl⟩:=rx;exact SeqAt.EqAt.bool_int a b t
  | str b=>obtain⟨t,rfl⟩:=rx;exact SeqAt.EqAt.bool_str a b t
  | _=>exact absurd (show false=true from fx) Zq
 | int a =>
  obtain⟨t',rfl⟩:=ry;cases x with
  | non=>cases rx;exact SeqAt.EqAt.int_none a t'
  | bl b=>cases rx;exact SeqAt.EqAt.int_bool a t' b
  | int b=>obtain⟨t,rfl⟩:=rx;exact SeqAt.EqAt.int_int a t' b t
  | str b=>obtain⟨t,rfl⟩:=rx;exact SeqAt.EqAt.int_str a t' b t
  | _=>exact absurd (show false=true from fx) Zq
 | str a =>
  obtain⟨t',rfl⟩:=ry;cases x with
  | non=>cases rx;exact SeqAt.EqAt.str_none a t'
  | bl b=>cases rx;exact SeqAt.EqAt.str_bool a t' b
  | int b=>obtain⟨t,rfl⟩:=rx;exact SeqAt.EqAt.str_int a t' b t
  | str b=>obtain⟨t,rfl⟩:=rx;exact SeqAt.EqAt.str_str a t' b t
  | _=>exact absurd (show false=true from fx) Zq
 | _=>exact absurd (show false=true from fy) Zq
def eqU(x:V)(u:Value):Bool:=match u with
 | .none=>eqV .non x
 | .bool b=>eqV (.bl b) x
 | .int i _=>eqV (.int i) x
 | .str z _=>eqV (.str z) x
 | _=>false
theorem Kh{x y:V}{u:Value}(r:RelV y u)(f:B6 y=true):eqU x u=eqV y x:=by
 cases y with
 | non=>cases r;rfl
 | bl b=>cases r;rfl
 | int i=>obtain⟨t,rfl⟩:=r;rfl
 | str z=>obtain⟨t,rfl⟩:=r;rfl
 | _=>exact absurd (show false=true from f) Zq
theorem ED{x:V}:∀{xs:List V} {us:List Value},Vals xs us->xs.all B6=true->us.any (eqU x)=xs.any fun y=>eqV y x
 | _,_,.nil,_=>rfl
 | y::xs,u::us,.cons r t,f=>by
  rw[List.all_cons,Ze]at f;rw[ZBF,ZBF,Kh r f.1,ED t f.2]
theorem Ed{A:Around}{s:Shared}{x:V}{v:Value}(rx:RelV x v)(fx:B6 x=true):∀{xs:List V} {us:List Value},Vals xs us->xs.all B6=true->∀u∈us,SeqAt.EqAt A s u v (eqU x u)
 | _,_,.nil,_=>fun u hu=>by cases hu
 | y::xs,u::us,.cons r t,f=>fun u' hu=>by
  rw[List.all_cons,Ze]at f
  rcases ZF.mp hu with rfl | hu
  ·rw[Kh r f.1];exact QJ r rx f.1 fx
  ·exact Ed rx fx t f.2 u' hu
def inV(x:V)(xs:List V):Bool:=xs.any fun y=>eqV y x
def rIn(K:W.Frag)(neg:Bool):R2:=fun x y H Q=>∃p xs,y=.ref p/\(SqL K H p xs\/SqT K H p xs)/\B6 x=true/\xs.all B6=true/\Q (.bl (if neg then !inV x xs else inV x xs)) H
theorem Oc:OpR X (compareOp .In) (rIn X.K false):=by
 intro pins s σ H x y v u Q I rx ry h;obtain⟨p,xs,rfl,hq,fx,fs,q⟩:=h;cases ry
 rcases hq with hq | hq
 ·obtain⟨its,r,pl,hz⟩:=I.list hq;refine SeqAt.in_listAt (eqU x) pl.isList (fun w hw=>Ed rx fx r fs w (by simpa using hw)) ⟨.bl _,H,I,rfl,?_⟩;rw[show its.toArray.any (eqU x)=its.any (eqU x) by simp,ED r fs];exact q
 ·obtain⟨its,r,pl,hz⟩:=I.tuple hq;refine SeqAt.in_tupleAt (eqU x) pl (fun w hw=>Ed rx fx r fs w (by simpa using hw)) ⟨.bl _,H,I,rfl,?_⟩;rw[show its.toArray.any (eqU x)=its.any (eqU x) by simp,ED r fs];exact q
theorem Qa:OpR X (compareOp .NotIn) (rIn X.K true):=by
 intro pins s σ H x y v u Q I rx ry h;obtain⟨p,xs,rfl,hq,fx,fs,q⟩:=h;cases ry
 rcases hq with hq | hq
 ·obtain⟨its,r,pl,hz⟩:=I.list hq;refine SeqAt.notIn_listAt (eqU x) pl.isList (fun w hw=>Ed rx fx r fs w (by simpa using hw)) ⟨.bl _,H,I,rfl,?_⟩;rw[show its.toArray.any (eqU x)=its.any (eqU x) by simp,ED r fs];exact q
 ·obtain⟨its,r,pl,hz⟩:=I.tuple hq;refine SeqAt.notIn_tupleAt (eqU x) pl (fun w hw=>Ed rx fx r fs w (by simpa using hw)) ⟨.bl _,H,I,rfl,?_⟩;rw[show its.toArray.any (eqU x)=its.any (eqU x) by simp,ED r fs];exact q
theorem call_list_of:CallR X (.type "list") (fun xs H Q=>∃p ys,xs=[.ref p]/\(SqL X.K H p ys\/SqT X.K H p ys)/\∀l,H l=none->Q (.ref l) (upd H l (.lst ys))):=by
 intro pins s σ H xs us Q I r h;obtain⟨p,ys,rfl,hq,q⟩:=h;obtain⟨u,rfl,rx⟩:=Bm r;cases rx
 have fin:∀(its:List Value),Vals ys its->ys.length<=sizeLine->∀(h':Heap) (c':Nat),(∀b o',s.heap.get? b=some o'->h'.get? b=some o') ->
  h'.get? s.heap.objs.size=some { cls:=.type "list",dict:=none,data:=.seq its.toArray c',slots:=#[] } -> EP X pins σ Q (.ref s.heap.objs.size) { s with heap:=h' }:=fun its r' hz h' c' kp e =>
  ⟨.ref s.heap.objs.size,_,I.laid (t':=s.toks) kp (ZD _) (show ObjOk X.prog X.w _ h' _ (.lst ys) from⟨hz,its,c',r',e⟩),rfl,q _ (I.hok.fresh (ZD _))⟩
 rcases hq with hq | hq
 ·obtain⟨its,r',pl,hz⟩:=I.list hq;have hlen:=r'.length;obtain⟨o,ho,hc,n,hd⟩:=pl.isList;exact call_list_seq p (.inl rfl) ho hc hd (fun h' c' kp e=>fin its r' hz h' c' kp e) (by simp only[ZL] <;> lia)
 ·obtain⟨its,r',pl,hz⟩:=I.tuple hq;have hlen:=r'.length;obtain⟨o,ho,hc,n,hd⟩:=pl;exact call_list_seq p (.inr rfl) ho hc hd (fun h' c' kp e=>fin its r' hz h' c' kp e) (by simp only[ZL] <;> lia)
theorem call_tuple_of:CallR X (.type "tuple") (fun xs H Q=>∃p ys,xs=[.ref p]/\((SqL X.K H p ys/\∀l,H l=none->Q (.ref l) (upd H l (.tup ys)))\/(SqT X.K H p ys/\Q (.ref p) H))):=by
 intro pins s σ H xs us Q I r h;obtain⟨p,ys,rfl,h⟩:=h;obtain⟨u,rfl,rx⟩:=Bm r;cases rx
 rcases h with ⟨hq,q⟩ | ⟨hq,q⟩
 ·obtain⟨its,r',pl,hz⟩:=I.list hq;have hlen:=r'.length;refine call_tuple_list pl.isList (fun h' kp=>?_) (by simp only[ZL] <;> lia);have I1:Inv X pins σ H { s with heap:=h' }:=I.kept (t':=s.toks) kp
  have I2:Inv X pins σ (upd H h'.objs.size (.tup ys)) { s with heap:=h'.push { cls:=.type "tuple",data:=.seq its.toArray } } :=
   I1.laid (t':=s.toks) (fun b o e=>ZJ _ e) (ZD _) (show ObjOk X.prog X.w _ _ _ (.tup ys) from⟨hz,its,r',IsTupN.new _ _⟩)
  exact⟨.ref h'.objs.size,_,I2,rfl,q _ (I1.hok.fresh (ZD _))⟩
 ·obtain⟨its,r',pl,hz⟩:=I.tuple hq;exact call_tuple_same pl ⟨.ref p,H,I,rfl,q⟩
def tyV(K:W.Frag)(T:String)(x:V)(H:Hp):Prop:=match x with
 | .str _=>T = "str"
 | .int _=>T = "int"
 | .ref p=>(T = "list" /\ ∃xs,SqL K H p xs)\/(T = "tuple" /\ ∃o,K.lookup p=some o/\o.cls=.type "tuple" /\ o.dict=none) \/
  (T = "dict" /\ ((∃kvs,H p=some (.dK kvs))\/∃kvs,H p=some (.dT kvs)))\/(T = "set" /\ ∃S n,H p=some (.set S n))
 | _=>False
theorem Kz{pins:List (Addr × Obj)}{σ:St}{H:Hp}{s:Shared}{T:String}{x:V}{v:Value}(I:Inv X pins σ H s)(r:RelV x v)(ty:tyV X.K T x H) :
 s.TypeIs v T/\∀a,v=.ref a->∃ob,s.heap.get? a=some ob/\ob.dict=none:=by
 cases x with
 | str z =>
  obtain⟨t,rfl⟩:=r;cases (show T = "str" from ty);exact⟨typeIs_str s z t,fun _ e=>nomatch e⟩
 | int i =>
  obtain⟨t,rfl⟩:=r;cases (show T = "int" from ty);exact⟨typeIs_int s i t,fun _ e=>nomatch e⟩
 | ref p =>
  cases r
  rcases ty with ⟨rfl,xs,hq⟩ | ⟨rfl,o,hk,hc,hd⟩ | ⟨rfl,hk⟩ | ⟨rfl,S,n,hk⟩
  ·obtain⟨its,_,pl,_⟩:=I.list hq;refine⟨pl.isList.typeIs,fun a e=>?_⟩;cases e;obtain⟨o,n,e,c,hd,_⟩:=pl;exact⟨o,e,hd⟩
  ·refine⟨⟨o,I.kIn p o hk,hc⟩,fun a e=>?_⟩;cases e;exact⟨o,I.kIn _ o hk,hd⟩
  ·have z:∃o,s.heap.get? p=some o/\o.ExactDict:=by
    rcases hk with ⟨kvs,hk⟩ | ⟨kvs,hk⟩
    ·obtain⟨_,_,_,_,o,_,_,e,ex,_⟩:=I.hok p _ hk;exact⟨o,e,ex⟩
    ·obtain⟨_,_,_,_,o,_,_,e,ex,_⟩:=I.hok p _ hk;exact⟨o,e,ex⟩
   obtain⟨o,e,ex⟩:=z;refine⟨⟨o,e,ex.1⟩,fun a e2=>?_⟩;cases e2;exact⟨o,e,ex.2.1⟩
  ·obtain⟨o,_,_,_,e,ex,_⟩:=I.hok p _ hk;refine⟨⟨o,e,ex.1⟩,fun a e2=>?_⟩;cases e2;exact⟨o,e,ex.2.1⟩
 | _=>exact False.elim ty
def Ga(K:W.Frag)(T:String)(r:V->List V->Hp->VK->Prop)(to:TE):TE:=fun σ H Q=>to σ H fun x H1=>tyV K T x H1/\r x [] H1 Q
def tBM(K:W.Frag)(T:String)(r:V->List V->Hp->VK->Prop)(to:TE)(t:TA):TE:=fun σ H Q=>to σ H fun x H1=>tyV K T x H1/\t σ H1 fun xs H2=>r x xs H2 Q
variable {o e:Expr}{es:List Expr}{to:TE}{t:TA}{name:Str}{apos cpos:Pos}{T id:String}{r:V->List V->Hp->VK->Prop}
theorem P6 (pa:PlainAttrs T) (slot:Slot T name id) (hty:typeOf (.builtin id)=pure (.type "method_descriptor")) (hm:MtR X id r) (ho:PE X o to)
 (hbase:attributeBase o name X.env (eval o X.env)=eval o X.env:=by rfl) (hline:(apos.endLine == cpos.line)=true:=by rfl):PE X (.Call (.Attribute o name apos) [] [] cpos) (Ga X.K T r to):=by
 intro pins s σ H Q I h;refine wpAny_Call_method0_late hbase hline (thn (ho pins s σ H _ I h) fun v s1 ⟨x,H1,I1,r1,ty,q1⟩=>?_);obtain⟨h1,h2⟩:=Kz I1 r1 ty;exact⟨T,id,pa,slot,hty,h1,h2,Calls.callWith_builtin rfl (PySem.evalArgs_none (hm pins s1 σ H1 x [] v [] Q I1 r1 .nil q1))⟩
theorem Lx (pa:PlainAttrs T) (slot:Slot T name id) (hty:typeOf (.builtin id)=pure (.type "method_descriptor")) (hm:MtR X id r) (ho:PE X o to) (ha:PA X (e::es) t)
 (hbase:attributeBase o name X.env (eval o X.env)=eval o X.env:=by rfl)
 (hfew:((backTo cpos (starEach (e::es) X.env)).all (fun x=>!x.1) && (backToKw cpos (keywordEach [] X.env)).all (fun x=>x.1.isSome)
   && decide ((e::es).length+([]:List Keyword).length+(if ([]:List Keyword).isEmpty then 0 else 1) < 30))=true:=by rfl)
 (hline:(apos.endLine == cpos.line)=true:=by rfl) (hs:starEach (e::es) X.env=(false,eval e X.env)::starEach es X.env:=by rfl) (hplain:(backTo cpos (starEach es X.env)).any (·.1)=false:=by rfl) :
 PE X (.Call (.Attribute o name apos) (e::es) [] cpos) (tBM X.K T r to t):=by
 intro pins s σ H Q I h;refine wpAny_Call_method_late hbase hfew hline rfl (thn (ho pins s σ H _ I h) fun v s1 ⟨x,H1,I1,r1,ty,q1⟩=>?_);obtain⟨h1,h2⟩:=Kz I1 r1 ty;refine⟨T,id,pa,slot,hty,h1,h2,?_⟩;have hA:=ha cpos pins s1 σ H1 _ I1 q1;rw[hs]at hA ⊢;refine Calls.callWith_builtin (by show(false || (backTo cpos (starEach es X.env)).any (·.1))=false;rw[hplain] <;> rfl) (Calls.evalArgs_plain ?_);exact thn hA fun us s2 ⟨vs,H2,I2,r2,q2⟩=>hm pins s2 σ H2 x vs v us Q I2 r1 r2 q2
end
def MtM(X:Cx)(id:String)(r:V->List V->Hp->VK->Prop):Prop :=
 ∀(pins:List (Addr × Obj)) (s:Shared) (σ:St) (H:Hp) (x:V) (xs:List V) (v:Value) (us:List Value) (Q:VK),Inv X pins σ H s->RelV x v->Vals xs us->r x xs H Q ->
  wpAny (model X.prog X.w) X.A (call (.builtin id) (v::us)) (EP X pins σ Q) X.xe s
theorem Vals.one:∀{x:V} {us:List Value},Vals [x] us->∃u,us=[u]/\RelV x u
 | _,_,.cons r .nil=>⟨_,rfl,r⟩
theorem Vals.zero:∀{us:List Value},Vals [] us->us=[]
 | _,.nil=>rfl
theorem Vals.dropLast{xs:List V}{us:List Value}(h:Vals xs us):Vals xs.dropLast us.dropLast:=by
 induction h with
 | nil=>exact .nil
 | cons r t ih =>
  cases t with
  | nil=>exact .nil
  | cons q t'=>exact .cons r ih
theorem Vals.reverse{xs:List V}{us:List Value}(h:Vals xs us):Vals xs.reverse us.reverse:=by
 induction h with
 | nil=>exact .nil
 | cons r t ih=>rw[ZBM,ZBM];exact Vals.append ih (.cons r .nil)
theorem Vals.rep{xs:List V}{us:List Value}(h:Vals xs us):∀k:Nat,Vals (List.replicate k xs).flatten (List.replicate k us).flatten
 | 0=>.nil
 | k+1=>by
  rw[ZBx,ZBx,List.flatten_cons,List.flatten_cons];exact Vals.append h (Vals.rep h k)
theorem Pe{α:Type}(l:List α):l.eraseIdx (l.length - 1)=l.dropLast:=by
 induction l with
 | nil=>rfl
 | cons a r ih =>
  cases r with
  | nil=>rfl
  | cons b r =>
   have e:(a::b::r).length - 1=((b::r).length - 1)+1:=by
    have h1:(a::b::r).length=r.length+2:=rfl;have h2:(b::r).length=r.length+1:=rfl;lia
   rw[e,List.eraseIdx_cons_succ,ih]
   all_goals rfl
theorem Jo(its:List Value):∀(k:Nat) (acc:List Value),
 List.foldl (fun x1 x2=>x1++x2) acc.toArray (List.replicate k its.toArray)=(acc++(List.replicate k its).flatten).toArray
 | 0,acc=>by simp
 | k+1,acc=>by
  have e:acc.toArray++its.toArray=(acc++its).toArray:=by simp
  have e2:(acc++its)++(List.replicate k its).flatten=acc++(List.replicate (k+1) its).flatten:=by
   rw[ZBx,List.flatten_cons,Z3]
  rw[<- e2,<- Jo its k (acc++its),<- e,ZBx,List.foldl_cons]
section
variable {X:Cx}{pins:List (Addr × Obj)}{σ:St}{H:Hp}{s:Shared}{l b:Addr}{xs ys zs:List V}
theorem Inv.lset {its its':List Value} {n:Nat} {f:Array Value->Array Value} {t':Nat} (I:Inv X pins σ H s) (hH:H l=some (.lst xs))
 (e:s.heap.get? l=some { cls:=.type "list",data:=.seq its.toArray n }) (hf:f its.toArray=its'.toArray) (hv:Vals ys its') (hz:ys.length<=sizeLine) :
 Inv X pins σ (upd H l (.lst ys)) { s with heap:=s.heap.update l (Obj.mapSeq f),toks:=t' }:=by
 have q:=PySem.IsL.update e f;rw[hf]at q;refine I.write (x:=l) (e:=l) (by rw[hH];exact trivial) (.inl rfl) (fun b' u hb hu=>(ZBB s.heap (Obj.mapSeq f) (Ne.symm hb)).trans hu) ⟨_,q⟩ ?_;exact⟨hz,its',_,hv,q⟩
theorem Inv.lnew{its:List Value}{t':Nat}(I:Inv X pins σ H s)(hv:Vals ys its)(hz:ys.length<=sizeLine) :
 Inv X pins σ (upd H s.heap.objs.size (.lst ys)) { s with heap:=s.heap.push { cls:=.type "list",data:=.seq its.toArray },toks:=t' } :=
 I.laid (fun _ _ q=>ZJ _ q) (ZD _) ⟨hz,its,0,hv,ZR _ rfl⟩
theorem Inv.fresh(I:Inv X pins σ H s):H s.heap.objs.size=none:=I.hok.fresh (ZD _)
theorem Inv.lstM(I:Inv X pins σ H s)(hH:H l=some (.lst xs)):xs.length<=sizeLine/\∃(its:List Value) (n:Nat),Vals xs its/\xs.length=its.length/\s.heap.get? l=some { cls:=.type "list",data:=.seq its.toArray n }:=by
 obtain⟨z,its,n,r,e⟩:=I.hok l _ hH;exact⟨z,its,n,r,r.length,e⟩
theorem OD{n:Nat}(h:n<=sizeLine):Builtin.List.listTooLong n=false:=by
 unfold Builtin.List.listTooLong;exact Zu (by lia)
end
section
variable {X:Cx}
def RZ:V->List V->Hp->VK->Prop:=fun x vs H Q=>∃l xs y,x=.ref l/\vs=[y]/\H l=some (.lst xs)/\xs.length < sizeLine/\Q .non (upd H l (.lst (xs++[y])))
theorem Qj:MtM X "list.append" RZ:=by
 intro pins s σ H x vs v us Q I rx rv h;obtain⟨l,xs,y,rfl,rfl,hH,hz,q⟩:=h;cases rx;obtain⟨u,rfl,ru⟩:=rv.one;obtain⟨z,its,n,r,hl,e⟩:=I.lstM hH;refine call_meets F.slot_list_append ⟨_,e,rfl⟩ F.entry_list_append (F.args_list_append_2 _ _) (PySem.list_append l its.toArray n u (by rw[ZL];lia)) ⟨e,?_⟩;refine⟨.non,_,I.lset (its':=its++[u]) hH e (by simp) (r.append (.cons ru .nil)) ?_,rfl,q⟩;rw[ZG,List.length_singleton];lia
def NE:V->List V->Hp->VK->Prop:=fun x vs H Q=>∃l xs y,x=.ref l/\vs=[]/\H l=some (.lst xs)/\xs[xs.length - 1]? = some y/\Q y (upd H l (.lst xs.dropLast))
theorem NQ:MtM X "list.pop" NE:=by
 intro pins s σ H x vs v us Q I rx rv h;obtain⟨l,xs,y,rfl,rfl,hH,hy,q⟩:=h;cases rx;have hus:=rv.zero;subst hus;obtain⟨z,its,n,r,hl,e⟩:=I.lstM hH;obtain⟨u,hu,ru⟩:=r.get hy
 have hy':its.toArray[its.toArray.size - 1]? = some u:=by
  show its.toArray[its.length - 1]? = some u;rw[<- ZBd,<- hl];exact hu
 refine call_meets F.slot_list_pop ⟨_,e,rfl⟩ F.entry_list_pop (F.args_list_pop_1 _) (MeetsSeq.list_pop_last l its.toArray n u hy' (by rw[ZL];lia)) ⟨e,?_⟩;refine⟨y,_,I.lset (its':=its.dropLast) hH e ?_ r.dropLast ?_,ru,q⟩
 ·show its.toArray.eraseIdxIfInBounds (its.toArray.size - 1)=its.dropLast.toArray;rw[ZL,List.eraseIdxIfInBounds_toArray,Pe]
 ·rw[List.length_dropLast];lia
def E9:R2:=fun x y H Q=>∃l b xs zs,x=.ref l/\y=.ref b/\H l=some (.lst xs)/\H b=some (.lst zs)/\xs.length+zs.length<=sizeLine/\∀p,H p=none->Q (.ref p) (upd H p (.lst (xs++zs)))
theorem Hk:OpR X (binaryOp .Add) E9:=by
 intro pins s σ H x y v u Q I rx ry h;obtain⟨l,b,xs,zs,rfl,rfl,hH,hB,hz,q⟩:=h;cases rx;cases ry;obtain⟨z,its,n,r,hl,e⟩:=I.lstM hH;obtain⟨z2,its2,n2,r2,hl2,e2⟩:=I.lstM hB;refine PySem.P.add_list e e2 ?_ (by rw[ZL,ZL];lia);have ea:its.toArray++its2.toArray=(its++its2).toArray:=by simp
 rw[ea];exact⟨.ref _,_,I.lnew (t':=s.toks) (r.append r2) (by rw[ZG];lia),rfl,q _ I.fresh⟩
def KI:R2:=fun x y H Q=>∃l k xs,x=.ref l/\y=.int k/\H l=some (.lst xs) /\ -(2 ^ 63)<=k/\k < 2 ^ 63/\xs.length * k.toNat<=sizeLine /\
 ∀p,H p=none->Q (.ref p) (upd H p (.lst (List.replicate k.toNat xs).flatten))
theorem TW{α:Type}(xs:List α)(k:Nat):(List.replicate k xs).flatten.length=k * xs.length:=by
 induction k with
 | zero=>simp
 | succ k ih=>rw[ZBx,List.flatten_cons,ZG,ih,Nat.succ_mul,Nat.add_comm]
theorem On:OpR X (binaryOp .Mult) KI:=by
 intro pins s σ H x y v u Q I rx ry h;obtain⟨l,k,xs,rfl,rfl,hH,h1,h2,hz,q⟩:=h;cases rx;obtain⟨t,rfl⟩:=ry;obtain⟨z,its,n,r,hl,e⟩:=I.lstM hH;have hlen:its.toArray.size * k.toNat<=sizeLine:=by rw[ZL,<- hl];exact hz
 have hcap:¬its.toArray.size * k.toNat > (2 ^ 63 - 1) / 8:=by
  have:(sizeLine:Nat)<=(2 ^ 63 - 1) / 8:=by decide
  lia
 have hfit:¬(!Builtin.List.listFitsIndex k)=true:=by
  rw[fitsIndex_both h1 h2];exact Zq
 have hlong:¬Builtin.List.listTooLong (its.toArray.size * k.toNat)=true:=by
  rw[OD hlen];exact Zq
 have hnew:List.foldl (fun x1 x2=>x1++x2) #[] (List.replicate (if its.toArray.isEmpty=true then 0 else k.toNat) its.toArray)=(List.replicate k.toNat its).flatten.toArray:=by
  have f0:∀m:Nat,List.foldl (fun x1 x2=>x1++x2) #[] (List.replicate m its.toArray)=(List.replicate m its).flatten.toArray:=fun m=>by
   have:=Jo its m []
   rw[List.nil_append]at this;exact this
  rw[f0];cases its with
  | nil=>simp
  | cons a r'=>rw[if_neg (by simp)]
 refine wpAny_binaryOp_repeat_ref (T:="list") (U:="int") (by decide) ⟨_,e,rfl⟩ (fun s'=>typeIs_int s' k t) noFill_list_mul F.fills_int_mul F.slot_int_rmul repeat_list F.slot_int_index.lookup
  (call_meets F.slot_int_rmul (typeIs_int s k t) F.entry_int_rmul (F.args_int_rmul_2 _ _) (int___rmul___int_list k t l its.toArray n)
    ⟨e,rfl,⟨_,e,rfl⟩,call_meets F.slot_list_mul ⟨_,e,rfl⟩ F.entry_list_mul (F.args_list_mul_2 _ _) (AutoListH.list___mul___list_int_3 l its.toArray n k t hfit hcap hlong) ⟨e,?_⟩⟩)
 rw[hnew];exact⟨.ref _,_,I.lnew (t':=s.toks) (r.rep k.toNat) (by rw[TW,Nat.mul_comm];exact hz),rfl,q _ I.fresh⟩
end
section
variable {prog:Program}{w:World}{A:Around}{E:Value->Shared->Prop}{s:Shared}
end
section
variable {X:Cx}
end
end L2
namespace Att
open PySem PySem.W PySem.Calls PyProof.Rows
theorem Tv{P:Params}{h:Heap}:∀(ns:List Int) (vs:List Value),WellAll P h vs (ns.map WData.int)->IntsAre vs ns:=by
 intro ns
 induction ns with
 | nil =>
  intro vs w;rw[List.map_nil]at w;cases w;exact .nil
 | cons n ns ih =>
  intro vs w;rw[Zg]at w;cases w with
  | cons a b =>
   cases a;exact .cons _ _ (ih _ b)
theorem M4 {l:OpenLaw} {n:Nat} (hn:l.most=some n) {P:Params} {h:Heap} {args:List WData} {vals:List Value}
 (hpre:l.row.toRowW.claim.pre args=true) (hwl:WellAll P h vals args) :
 ∃a vs ns,vals=[Value.ref a]/\args=[WData.list (ns.map WData.int)]/\h.get? a=some { cls:=.type "list",data:=.seq vs.toArray } /\ IntsAre vs ns/\ns.length<=n:=by
 have hsh:WShape.hasAll [] args [.list .int]=true:=(pre_splitW hpre).1;have hc:l.pre.holds [] { args:=args } = true:=(pre_splitW hpre).2;obtain⟨d,r,rfl,h1,h2⟩:=hasAllW_cons hsh;obtain rfl:=hasAllW_nil h2;obtain⟨xs,rfl,h3⟩:=hasW_list h1;obtain⟨ns,rfl⟩:=items_int h3
 have hlen:ns.length<=n:=by
  unfold OpenLaw.pre at hc
  have h4:(WTm.not (.lt (.lit (.int (n:Int))) (.len (.arg 0)))).holds [] { args:=[.list (ns.map .int)] } = true:=by
   have h4:=(holds_andW hc).1;rw[hn]at h4;exact h4
  have h5:=condW_of h4 (w_not (w_lt w_lit (w_len_list (w_arg rfl))));rw[ZC]at h5;refine Nat.le_of_not_lt fun q=>?_
  have q':(n:Int) < ((ns.length:Nat):Int):=by lia
  first
   | (rw[ZM q']at h5;exact absurd h5 (by decide))
   | (simp at h5;lia)
 cases hwl with
 | cons w1 w2 =>
  cases w2;cases w1 with
  | list ho hall=>exact⟨_,_,ns,rfl,rfl,ho,Tv ns _ hall,hlen⟩
theorem Ot(l:OpenLaw)(args:List WData):l.row.toRowW.claim.post args (.bool true) args=true :=
 postW_of (r:=l.row.toRowW) (X:=(true == true))
  (show WShape.has [] (.bool true) .bool=true by first | rfl | decide | simp[WShape.has,WShape.arms,WShape.armsAll])
  (show(WTm.eq .res (.lit (.bool true))).value [] { args:=args,res:=some (.bool true),after:=args } = some (.bool (true == true)) from w_eq_bool (w_res rfl) w_lit) rfl
theorem attach_call {l:OpenLaw} {n:Nat} {q:Program} {loose:List Str} {XP:(Str->Option Value)->Heap->Prop} {YP:World->Heap->Prop} {d:DefRec}
 (hn:l.most=some n) (hdf:d.params.defaults=[])
 (call:∀(w:World) (s₀ s₁:Shared) (mg mb:Str->Option Value) (fa:Addr) (o:Obj) (pm cd doc:Value) (a:Addr) (vs:List Value) (ns:List Int),
   Ground q loose [] XP w s₀ mg mb s₁.heap->YP w s₁.heap ->
   s₁.heap.get? fa=some o->o.data=.func (docDef d.name d.params d.body d.scope pm cd doc)->s₁.heap.CodeRec cd d.name->mg d.name=some (.ref fa) ->
   s₁.heap.get? a=some { cls:=.type "list",data:=.seq vs.toArray } -> IntsAre vs ns->ns.length<=n->s₁.gens = #[] ->
   codeAny (model l.prog w) callerA (.call (.ref fa) ⟨[.ref a],[]⟩) (fun r s'=>r=.ok (.ret (.bool true))/\OldK s₁.heap s'.heap/\s'.os=s₁.os/\AllBare s'.gens) s₁) :
 WalkO q loose XP YP l.row.toRowW d [] (fun f vs=>PySem.call f vs):=by
 intro w s₀ s₁ mg mb G Y fa o pm cd doc dV kV ho hd hcd hD hmg hg args vals as hpre hlay hrd hwl hlo;obtain rfl:dV=.none:=Dflts.none hD hdf;obtain rfl:kV=.none:=Dflts.noKw hD;obtain⟨a,vs,ns,rfl,rfl,hobj,hints,hlen⟩:=M4 hn hpre hwl;refine enter_call (ZBZ (call w s₀ s₁ mg mb fa o pm cd doc a vs ns G Y ho (fd_plain hd) hcd hmg hobj hints hlen hg) fun r s' hq=>?_);obtain⟨rfl,h2,h3,h4⟩:=hq;exact⟨.inl ⟨.bool true,.bool true,[],rfl,fun _=>rfl,.bool true,Ot l _,fun _=>⟨List.Pairwise.nil,fun _ hm=>(nomatch hm)⟩⟩,h2,h3,h4⟩
section
variable {prog:Program}{w:World}{A:Around}{E:Value->Shared->Prop}{s:Shared}{K:Frag}
def Eu(h:Heap):Heap:={ h with objs:=#[] }
theorem LV(h:Heap)(b:Addr):(Eu h).get? b=none:=by
 cases e:(Eu h).get? b with
 | none=>rfl
 | some o=>exact absurd (ZI e) (ZBN _)
theorem NY{h:Heap}{L:Addr}{m:Str->Option Value}(n:h.Ns L m):Fr (Eu h) L h m :=
 ⟨n,fun b o e=>(by rw[LV]at e;cases e),ZU _⟩
end
end Att
namespace L2
open PySem PySem.Spec PyProof.Rows
theorem LA:∀{vs:List Value} {ns:List Int},IntsAre vs ns->Vals (ns.map V.int) vs
 | _,_,.nil=>.nil
 | _,_,.cons n t h=>.cons ⟨t,rfl⟩ (LA h)
def HA(H:Hp):Prop:=∀b,H b=none\/∃o xs,H b=some (.frz o (.lst xs))
theorem Qk {P:Program} {w:World} {K:W.Frag} {mg mb:Str->Option Value} {CX:CXT} {k:Nat} {fa a:Addr} {fd:FuncData} {x:Str} {sp:Sp} {s₁:Shared} {vs:List Value} {ns:List Int}
 (KX:K.In s₁.heap) (hns:s₁.heap.Ns mainGlobals mg) (hb:s₁.heap.Ns builtinsNs mb) (hbb:∀x:Str,x ≠ "__name__" -> mb x=bootBuiltins x) (hlim:s₁.heap.NoLimit) (hg:s₁.gens = #[])
 (ha:s₁.heap.get? a=some { cls:=.type "list",data:=.seq vs.toArray }) (hi:IntsAre vs ns) (hl:ns.length<=sizeLine) (hr:Room k callerA)
 (F:∀base:Heap,K.In base->base.Ns mainGlobals mg->FnOk P w K mg base CX k fa fd [x] sp) (hbind:∀(s:Shared) (u:Value),BindsTo s fd ⟨[u],[]⟩ [(x,u)])
 (hsp:∀H:Hp,HA H->SqL K H a (ns.map V.int)->sp [.ref a] H (fun v _=>v=.bl true) fun _ _ _=>False)
 (hCX:∀H e s',CX [] H s₁ (fun _ _ _=>False) e s'->False) :
 codeAny (model P w) callerA (.call (.ref fa) ⟨[.ref a],[]⟩) (fun r s'=>r=.ok (.ret (.bool true))/\OldK s₁.heap s'.heap/\s'.os=s₁.os/\AllBare s'.gens) s₁:=by
 have rv:=LA hi;have lenV:=hi.length
 -- from an abstract heap in which nothing but the script may be tracked
 have core:∀H:Hp,HA H->SqL K H a (ns.map V.int)->HOk P w H s₁.heap->(∀b,H b≠none->b=a)->(H a≠none->K.lookup a=none) ->
  codeAny (model P w) callerA (.call (.ref fa) ⟨[.ref a],[]⟩) (fun r s'=>r=.ok (.ret (.bool true))/\OldK s₁.heap s'.heap/\s'.os=s₁.os/\AllBare s'.gens) s₁:=by
  intro H hO hS hok hA hK;have base_of:∀{b:Addr} {o:Obj},s₁.heap.get? b=some o->H b=none->(Cb s₁.heap H).get? b=some o:=fun e n=>UT e n
  have noA:∀{b:Addr} {o:Obj} {es:Array DictEntry} {ep:Nat},s₁.heap.get? b=some o->o.data=.dict es ep->H b=none:=fun {b o es ep} e d=>by
   cases q:H b with
   | none=>rfl
   | some u =>
    have e':b=a:=hA b (by rw[q];simp);subst e';rw[ha]at e;cases e;have d':Data.seq vs.toArray _=Data.dict es ep:=d;cases d'
  have nsK:∀{b:Addr} {m:Str->Option Value},s₁.heap.Ns b m->(Cb s₁.heap H).Ns b m:=fun {b m} ⟨o,es,ep,e,d,r⟩=>⟨o,es,ep,base_of e (noA e d),d,r⟩
  have hKb:K.In (Cb s₁.heap H):=fun b o e=>base_of (KX b o e) (by
   cases q:H b with
   | none=>rfl
   | some u =>
    have e':b=a:=hA b (by rw[q];simp);subst e';rw[hK (by rw[q];simp)]at e;cases e)
  have hM:Mod K mg (Cb s₁.heap H):=⟨hKb,nsK hns,⟨mb,nsK hb,hbb⟩,let ⟨mc,h1,h2⟩:=hlim;⟨mc,nsK h1,h2⟩⟩;have e0:Env0 P w K mg (Cb s₁.heap H) callerA [] s₁ H:=⟨rfl,hM,fun b o e=>Pq e,ZBn (Ql _ _),trivial,fun b hb=>absurd (show b∈([]:List Addr) from hb) (by simp),hok,.of_eq hg⟩;refine ZBZ ((F _ hKb (nsK hns)).run callerA [] s₁ H ⟨[.ref a],[]⟩ [.ref a] [.ref a] _ _ hr e0 (hbind s₁ (.ref a)) (.cons rfl .nil) (hsp H hO hS)) fun r s' h=>?_
  cases r with
  | error e=>exact(hCX H e s' h).elim
  | ok fl =>
   cases fl with
   | next=>exact False.elim h
   | brk=>exact False.elim h
   | cont=>exact False.elim h
   | ret u =>
    obtain⟨v,H',os,bare,un,hok',r',q⟩:=h;have q':v=.bl true:=q;subst q';obtain rfl:u=Value.bool true:=r';refine⟨rfl,OldK.of_keep fun b o e=>?_,os,bare⟩;cases q:H b with
    | none=>exact un.keep b o e q (by intro z;exact absurd (show b∈([]:List Addr) from z) (by simp)) (by simp)
    | some u =>
     rcases hO b with z | ⟨ob,xs,z⟩
     ·rw[q]at z;cases z
     ·have z2:=un.frzs b ob _ z;obtain⟨e1,_⟩:=hok b _ z;obtain⟨e2,_⟩:=hok' b _ z2;rw[e]at e1;cases e1;exact e2
 cases hk:K.lookup a with
 | some o =>
  -- the script is one of the module's own objects
  have e:=KX a o hk;rw[ha]at e;cases e;refine core (fun _=>none) (fun _=>.inl rfl) (.inr ⟨_,vs.toArray,_,hk,rfl,rfl,rfl,by rw[ZL,lenV];exact hl,by simpa using rv⟩) (fun b u z=>by have z':(none:Option HO)=some u:=z;cases z') (fun b z=>absurd rfl z) fun z=>absurd rfl z
 | none =>
  refine core (fun b=>if b=a then some (.frz { cls:=.type "list",data:=.seq vs.toArray } (.lst (ns.map V.int))) else none) (fun b=>?_) (.inl (.inr ⟨{ cls:=.type "list",data:=.seq vs.toArray },if_pos rfl⟩)) (fun b u z=>?_) (fun b z=>?_) fun _=>hk
  ·by_cases hb:b=a
   ·exact .inr ⟨_,_,if_pos hb⟩
   ·exact .inl (if_neg hb)
  ·by_cases hb:b=a
   ·have z':=(if_pos hb).symm.trans z;cases z';subst hb;exact⟨ha,by rw[ZC];exact hl,vs,_,rv,ha⟩
   ·have z':=(if_neg hb).symm.trans z;cases z'
  ·by_cases hb:b=a
   ·exact hb
   ·exact absurd (if_neg hb) z
theorem walk_of {l:PySem.W.OpenLaw} {n k:Nat} {q:Program} {loose:List Str} {XP:(Str->Option Value)->Heap->Prop} {YP:World->Heap->Prop} {d:DefRec} {K:Params->W.Frag} {CX:World->CXT} {sp:World->Sp} {x:Str}
 (hn:l.most=some n) (hn2:n<=sizeLine) (hdf:d.params.defaults=[]) (hr:Room k callerA)
 (hY:∀(w:World) (h:Heap),YP w h->(K w.params).In h)
 (F:∀(w:World) (mg:Str->Option Value) (fa:Addr) (h:Heap),(K w.params).In h->h.Ns mainGlobals mg->mg d.name=some (.ref fa) ->
   ∃fd:FuncData,(∀(s:Shared) (u:Value),BindsTo s fd ⟨[u],[]⟩ [(x,u)]) /\
    ∀base:Heap,(K w.params).In base->base.Ns mainGlobals mg->FnOk l.prog w (K w.params) mg base (CX w) k fa fd [x] (sp w))
 (hsp:∀(w:World) (H:Hp) (a:Addr) (ns:List Int),ns.length<=n->HA H->SqL (K w.params) H a (ns.map V.int)->sp w [.ref a] H (fun v _=>v=.bl true) fun _ _ _=>False)
 (hCX:∀(w:World) (H:Hp) (s:Shared) (e:Value) (s':Shared),CX w [] H s (fun _ _ _=>False) e s'->False) :
 PySem.W.WalkO q loose XP YP l.row.toRowW d [] (fun f vs=>PySem.call f vs):=by
 refine Att.attach_call hn hdf fun w s₀ s₁ mg mb fa o pm cd doc a vs ns G Y ho hd hcd hmg hobj hints hlen hg=>?_
 have KX:=hY w _ Y;obtain⟨fd,hb,hF⟩:=F w mg fa _ KX G.T.g hmg;exact Qk KX G.T.g G.T.b G.T.builtins G.T.nolimit hg hobj hints (ZP hlen hn2) hr hF hb (fun H hO hS=>hsp w H a ns hlen hO hS) fun H e s'=>hCX w H s₁ e s'
def EF(s:Stmt)(j:Nat):Stmt:=match s with
 | .ClassDef _ _ _ body _ _ _ _ _ _ _=>body.getD j (.Pass ⟨0,0,0,0⟩)
 | _=>.Pass ⟨0,0,0,0⟩
def CB(s:Stmt):Arguments:=match s with
 | .FunctionDef _ a _ _ _ _ _ _ _ _=>a
 | _=>{ posonlyargs:=[],args:=[],vararg:=none,kwonlyargs:=[],kw_defaults:=[],kwarg:=none,defaults:=[] }
def Bu(s:Stmt):List Stmt:=match s with
 | .FunctionDef _ _ b _ _ _ _ _ _ _=>b
 | _=>[]
def AU(s:Stmt):Scope:=match s with
 | .FunctionDef _ _ _ _ _ _ sc _ _ _=>sc
 | _=>{ kind:=.function,names:=[],isGenerator:=false,isCoroutine:=false }
abbrev CX0:CXT:=fun _ _ _ _ _ _=>False
abbrev E0:XK:=fun _ _ _=>False
theorem AG{X:Cx}:C8 CX0 X E0:=fun _ _ _ _ _ _ _ h=>h.elim
structure Fun(K:W.Frag)(x qual:Str)(st:Stmt)(f:Addr)(fd:FuncData):Prop where
 ex:∃(oc:Value) (od:Option Addr) (kV doc pm:Value) (an:Option Addr) (cdv ct:Value) (osl:Array (Option Value)),
  fd=PySem.W.fnOf x qual (CB st) (Bu st) (AU st) .none kV doc pm an cdv ct/\K.lookup f=some ⟨oc,od,.func fd,osl⟩/\PySem.W.codeIn K cdv qual=true
 kp:PySem.W.keepIn K (.ref f)=true
section
variable {P:Program}{w:World}{K:W.Frag}{mg:Str->Option Value}{base:Heap}
theorem Fun.ok {x qual:Str} {st:Stmt} {f:Addr} {fd:FuncData} {N ps:List Str} {k:Nat} {sp:Sp} (F:Fun K x qual st f fd) (S:FnScope N ps (AU st)) (len:∀vs H Q E,sp vs H Q E->vs.length=ps.length)
 (hbody:∀(cdv:Value) (A:Around) (outer:List Env) (s:Shared) (H:Hp) (vs:List V) (Q:VK) (E:XK),Room k (A.deeper (envOfC qual (AU st) s.heap.objs.size f cdv))->sp vs H Q E ->
   ∃t,PSs (Da CX0 P w K mg base N qual (AU st) f cdv A outer s H E).nox (Bu st) t/\t { nx:=fun _ H'=>Q .non H',rt:=Q } (Cp N vs) H):FnOk P w K mg base CX0 (k+1) f fd ps sp:=by
 obtain⟨oc,od,kV,doc,pm,an,cdv,ct,osl,rfl,lk,hcd⟩:=F.ex;refine O5 lk hcd S len fun A outer s H vs Q E hr hsp=>?_
 obtain⟨t,h,q⟩:=hbody cdv A outer s H vs Q E hr hsp;exact⟨t,h.nox,q⟩
theorem Fun.binds {x qual:Str} {st:Stmt} {f:Addr} {fd:FuncData} {ps:List Str} (F:Fun K x qual st f fd)
 (h:∀(kV doc pm:Value) (an:Option Addr) (cdv ct:Value) (us:List Value),us.length=ps.length->bindArgs (PySem.W.fnOf x qual (CB st) (Bu st) (AU st) .none kV doc pm an cdv ct) ⟨us,[]⟩=pure (ps.zip us)):Binds K fd ps []:=by
 obtain⟨oc,od,kV,doc,pm,an,cdv,ct,osl,rfl,lk,hcd⟩:=F.ex;exact .all (h kV doc pm an cdv ct)
theorem EQ {x qual:Str} {st:Stmt} {f:Addr} {oc:Value} {od an:Option Addr} {osl:Array (Option Value)} {kV doc pm cdv ct:Value} (l:K.lookup f=some ⟨oc,od,.func (PySem.W.fnOf x qual (CB st) (Bu st) (AU st) .none kV doc pm an cdv ct),osl⟩)
 (c:PySem.W.codeIn K cdv qual=true) (k:PySem.W.keepIn K (.ref f)=true):Fun K x qual st f (PySem.W.fnOf x qual (CB st) (Bu st) (AU st) .none kV doc pm an cdv ct):=⟨⟨oc,od,kV,doc,pm,an,cdv,ct,osl,rfl,l,c⟩,k⟩
end
theorem Ak{n:Nat}(h:n<=1000):n < sizeLine:=ZBe h (by decide)
section
variable {X:Cx}
end
theorem Ab{c A B:Prop}[Decidable c](h1:c->A)(h2:¬c->B):if c then A else B:=by
 by_cases h:c
 ·rw[if_pos h];exact h1 h
 ·rw[if_neg h];exact h2 h
def Same(H H':Hp):Prop:=∀b o,H b=some o->H' b=some o
theorem Same.refl(H:Hp):Same H H:=fun _ _ h=>h
theorem Same.trans{H H1 H2:Hp}(a:Same H H1)(b:Same H1 H2):Same H H2:=fun c o h=>b c o (a c o h)
theorem Same.free{H H':Hp}(e:Same H H'){l:Addr}(h:H' l=Option.none):H l=Option.none:=by
 cases q:H l with
 | none=>rfl
 | some o =>
  rw[e l o q]at h;cases h
theorem Same.seq{K:W.Frag}{H H':Hp}{a:Addr}{xs:List V}(e:Same H H')(h:SqL K H a xs):SqL K H' a xs:=by
 rcases h with (h | ⟨o,h⟩) | h
 ·exact .inl (.inl (e _ _ h))
 ·exact .inl (.inr ⟨o,e _ _ h⟩)
 ·exact .inr h
theorem Dx:∀(names:List (Str × NameKind)) (n:Nat) (acc:List (Str × Addr)),cellsFrom n names acc=cellsFrom n names []++acc
 | [],_,_=>rfl
 | (name,kind)::r,n,acc=>by
  unfold cellsFrom;split
  ·rw[Dx r (n+1) ((name,n)::acc),Dx r (n+1) [(name,n)],Z3];rfl
  ·exact Dx r n acc
theorem cellsFrom_kind:∀(names:List (Str × NameKind)) (n:Nat) (acc:List (Str × Addr)) (x:Str) (c:Addr),(x,c)∈cellsFrom n names acc->(x,c)∈acc\/(x,NameKind.cell)∈names
 | [],_,_,_,_,h=>.inl h
 | (name,kind)::r,n,acc,x,c,h=>by
  unfold cellsFrom at h;split at h
  ·rename_i hk
   rcases cellsFrom_kind r _ _ x c h with h | h
   ·rcases ZF.mp h with e | h
    ·cases e
     have:kind=.cell:=by simpa using hk
     subst this;exact .inr Zo
    ·exact .inl h
   ·exact .inr (Za _ h)
  ·rcases cellsFrom_kind r _ _ x c h with h | h
   ·exact .inl h
   ·exact .inr (Za _ h)
theorem Es{α:Type}{x:Str}:∀(l r:List (Str × α)),(l++r).lookup x=(match l.lookup x with | some c=>some c | none=>r.lookup x)
 | [],r=>rfl
 | (k,v)::l,r=>by
  show List.lookup x ((k,v)::(l++r))=_;rw[ZBG,ZBG];cases x == k with
  | true=>rfl
  | false=>exact Es l r
theorem MD{α:Type}{x:Str}:∀{l:List (Str × α)},(∀c,(x,c)∉l)->l.lookup x=none
 | [],_=>rfl
 | (k,v)::l,h=>by
  rw[ZBG];cases hb:x == k with
  | true =>
   have:x=k:=by simpa using hb
   subst this;exact absurd Zo (h v)
  | false=>exact MD fun c hc=>h c (Za _ hc)
def BO(cells:List (Str × Addr)):List (Str × NameKind)->List (Str × Addr)->List (Str × Addr)
 | [],acc=>acc
 | (n,k)::r,acc=>if k == .free then BO cells r ((n,(cells.lookup n).getD 0)::acc) else BO cells r acc
theorem J8{scope:Scope}{env:Env}(h:∀y∈scope.names,y.2=.free->∃c,env.cells.lookup y.1=some c):closureFor scope env=pure (BO env.cells scope.names []):=by
 have all:∀(names:List (Str × NameKind)) (acc:List (Str × Addr)),(∀y∈names,y.2=.free->∃c,env.cells.lookup y.1=some c) ->
  (forIn names acc fun(x:Str × NameKind) cs=>(if (x.2 == NameKind.free)=true then (do let a <- cellOf env x.1;pure (ForInStep.yield ((x.1,a)::cs))) else pure (ForInStep.yield cs):Sem (ForInStep (List (Str × Addr)))))=(pure (BO env.cells names acc):Sem _):=by
  intro names
  induction names with
  | nil=>intro acc _;rfl
  | cons y r ih =>
   intro acc hy;obtain⟨n,k⟩:=y;rw[List.forIn_cons];have hr:∀y∈r,y.2=.free->∃c,env.cells.lookup y.1=some c:=fun y hm=>hy y (Za _ hm)
   unfold BO
   by_cases hk:(k == NameKind.free)=true
   ·obtain⟨c,e⟩:=hy (n,k) Zo (by simpa using hk);rw[if_pos hk,if_pos hk];have e2:cellOf env n=pure c:=by unfold cellOf;rw[show env.cells.lookup n=some c from e]
    rw[e2];rw[show env.cells.lookup n=some c from e];exact ih _ hr
   ·rw[if_neg hk,if_neg hk];exact ih _ hr
 have q:=all scope.names [] h;unfold closureFor;refine Eq.trans ?_ (congrArg (fun t=>t >>= pure) q |>.trans (by rfl))
 congr 1
theorem clOf_mem{cells:List (Str × Addr)}:∀(names:List (Str × NameKind)) (acc:List (Str × Addr)) (x:Str) (c:Addr),(∀y∈names,y.2=.free->∃c,cells.lookup y.1=some c)->(x,c)∈BO cells names acc->(x,c)∈acc\/((x,NameKind.free)∈names/\cells.lookup x=some c)
 | [],_,_,_,_,h=>.inl h
 | (n,k)::r,acc,x,c,hy,h=>by
  have hr:∀y∈r,y.2=.free->∃c,cells.lookup y.1=some c:=fun y hm=>hy y (Za _ hm)
  unfold BO at h;split at h
  ·rename_i hk;have hk':k=.free:=by simpa using hk
   subst hk';obtain⟨d,e⟩:=hy (n,.free) Zo rfl
   rcases clOf_mem r _ x c hr h with h | ⟨h,h'⟩
   ·rcases ZF.mp h with e' | h
    ·obtain⟨e1,e2⟩:=Prod.mk.inj e';rw[show cells.lookup n=some d from e]at e2;subst e1;exact .inr ⟨Zo,by rw[e2];exact e⟩
    ·exact .inl h
   ·exact .inr ⟨Za _ h,h'⟩
  ·rcases clOf_mem r _ x c hr h with h | ⟨h,h'⟩
   ·exact .inl h
   ·exact .inr ⟨Za _ h,h'⟩
theorem Hs{cells:List (Str × Addr)}{x:Str}:∀(names:List (Str × NameKind)) (acc:List (Str × Addr)),(∃c,(x,c)∈acc)->∃c,(x,c)∈BO cells names acc
 | [],_,h=>h
 | (n,k)::r,acc,⟨c,h⟩=>by
  unfold BO;split
  ·exact Hs r _ ⟨c,Za _ h⟩
  ·exact Hs r _ ⟨c,h⟩
theorem JO{cells:List (Str × Addr)}{x:Str}:∀(names:List (Str × NameKind)) (acc:List (Str × Addr)),(x,NameKind.free)∈names->∃c,(x,c)∈BO cells names acc
 | (n,k)::r,acc,h=>by
  unfold BO
  rcases ZF.mp h with e | h
  ·cases e;rw[if_pos (by decide)];exact Hs r _ ⟨_,Zo⟩
  ·split
   ·exact JO r _ h
   ·exact JO r _ h
theorem Js{α:Type}{x:Str}:∀{l:List (Str × α)},(∃c,(x,c)∈l)->∃c,l.lookup x=some c
 | (k,v)::l,⟨c,h⟩=>by
  rw[ZBG];cases hb:x == k with
  | true=>exact⟨v,rfl⟩
  | false =>
   rcases ZF.mp h with e | h
   ·cases e;simp at hb
   ·exact Js ⟨c,h⟩
def Eh(scope sc:Scope):Scope :=
 { scope with names:=scope.names.map fun(n,k)=>if (k == .free && sc.kind == .function && sc.names.lookup n == some .cell) then (n,.cell) else (n,k) }
structure CompScope(scope sc:Scope):Prop where
 kind:scope.kind=.function
 nd:(scope.names.map (·.1)).Nodup
 fr:∀y∈scope.names,y.2=.free->sc.names.lookup y.1=some .cell\/sc.names.lookup y.1=some .free
theorem DN{α:Type}:∀{l:List (Str × α)} {x:Str} {c:α},(l.map (·.1)).Nodup->(x,c)∈l->l.lookup x=some c
 | (k,v)::l,x,c,nd,h=>by
  obtain⟨n1,n2⟩:=ZBa.mp (show(k::l.map (·.1)).Nodup from nd);rw[ZBG]
  rcases ZF.mp h with e | h
  ·cases e;simp
  ·have hne:¬x=k:=fun e=>n1 (by rw[<- e];exact ZT.mpr ⟨(x,c),h,rfl⟩)
   have:(x == k)=false:=by simpa using hne
   rw[this];exact DN n2 h
theorem KF{scope sc:Scope}{x:Str}:(Eh scope sc).names.lookup x=(scope.names.lookup x).map fun k=>if (k == .free && sc.kind == .function && sc.names.lookup x == some .cell) then NameKind.cell else k:=by
 show(scope.names.map _).lookup x=_
 generalize scope.names=names
 induction names with
 | nil=>rfl
 | cons y r ih =>
  obtain⟨n,k⟩:=y;rw[Zg]
  by_cases hc:(k == .free && sc.kind == .function && sc.names.lookup n == some .cell)=true
  ·show List.lookup x ((if (k == .free && sc.kind == .function && sc.names.lookup n == some .cell)=true then (n,NameKind.cell) else (n,k))::_)=_;rw[if_pos hc,ZBG,ZBG];cases hb:x == n with
   | true =>
    have hx:x=n:=by simpa using hb
    subst hx;show some NameKind.cell=some (if _ then _ else _);rw[if_pos hc]
   | false=>exact ih
  ·show List.lookup x ((if (k == .free && sc.kind == .function && sc.names.lookup n == some .cell)=true then (n,NameKind.cell) else (n,k))::_)=_;rw[if_neg hc,ZBG,ZBG];cases hb:x == n with
   | true =>
    have hx:x=n:=by simpa using hb
    subst hx;show some k=some (if _ then _ else _);rw[if_neg hc]
   | false=>exact ih
structure CArgs where
 pins:List (Addr × Obj)
 cells:List (Str × Addr)
 s:Shared
 H:Hp
 fp:List Addr
 C:Addr
def Cx.comp(X:Cx)(scope:Scope)(N':List Str)(c:CArgs):Cx where
 prog:=X.prog
 w:=X.w
 K:=X.K
 mg:=X.mg
 base:=X.base
 A:=X.A
 N:=N'
 s₀:=c.s
 H₀:=c.H
 env:=compEnvC scope c.cells c.C X.env
 outer:=X.stack
 stack:=X.stack
 ex:=c.fp
 fn:=fun x=>scope.names.lookup x == some .cell
 calm:=X.calm
 pn:=X.pn++c.pins
 xe:=fun _ _=>False
def cSt(own:Nat)(ix:List Nat)(σ:St):St:=List.replicate own none++ix.map fun i=>(σ[i]?).join
section
variable {X:Cx}{pins:List (Addr × Obj)}{σ:St}{H:Hp}{s s4:Shared}{fp:List Addr}{scope:Scope}{N':List Str}{own:Nat}{ix:List Nat}
theorem Ua (I:Inv X pins σ H s) (f2:∀b∈fp,Bn X pins H b) (hob:∀b∈fp,∃o,s.heap.get? b=some o) (S:CompScope scope X.env.scope)
 (hlen:N'.length=own+ix.length) (hN:(N'.drop own).map some=ix.map (X.N[·]?)) (hfr:∀x∈N'.drop own,scope.names.lookup x=some .free)
 {C:Addr} (hC:s.heap.objs.size < C) (k4:∀b o,s.heap.get? b=some o->s4.heap.get? b=some o) (os4:s4.os=s.os) (g4:s4.gens=s.gens)
 (n4:∃m,s4.heap.Ns C m) (own4:∀x c,(x,c)∈cellsFrom (C+1) scope.names []->s4.heap.IsCell c none/\C+1<=c)
 (apart:(cellsFrom (C+1) scope.names []).Pairwise fun x y=>x.2≠y.2) :
 Inv (X.comp scope N' ⟨pins,cellsFrom (C+1) scope.names (BO X.env.cells scope.names []),s,H,fp,C⟩) [] (cSt own ix σ) H s4:=by
 have hfree:∀y∈scope.names,y.2=.free->∃c,X.env.cells.lookup y.1=some c:=fun y hy h=>I.ok.has y.1 (S.fr y hy h)
 -- a cell of the block
 have cases:∀x c,(cellsFrom (C+1) scope.names (BO X.env.cells scope.names [])).lookup x=some c ->
  ((x,c)∈cellsFrom (C+1) scope.names []/\scope.names.lookup x=some .cell)\/((x,NameKind.free)∈scope.names/\X.env.cells.lookup x=some c):=fun x c h=>by
  rw[Dx,Es]at h;cases e:(cellsFrom (C+1) scope.names []).lookup x with
  | some d =>
   rw[e]at h;cases h;have m:=mem_of_lookup e
   rcases cellsFrom_kind _ _ _ _ _ m with z | z
   ·exact absurd z (by simp)
   ·exact .inl ⟨m,DN S.nd z⟩
  | none =>
   rw[e]at h
   rcases clOf_mem _ _ _ _ hfree (mem_of_lookup h) with z | z
   ·exact absurd z (by simp)
   ·exact .inr z
 have oldlt:∀x c,X.env.cells.lookup x=some c->c < s.heap.objs.size:=fun x c e=>let ⟨v,q⟩:=I.cell x c e;q.lt
 have kin:∀x,(Eh scope X.env.scope).names.lookup x=some .cell\/(Eh scope X.env.scope).names.lookup x=some .free->(scope.names.lookup x=some .cell\/scope.names.lookup x=some .free):=fun x h=>by
  rw[KF]at h;cases e:scope.names.lookup x with
  | none=>rw[e]at h;simp at h
  | some k =>
   rw[e]at h;cases k with
   | cell=>exact .inl rfl
   | free=>exact .inr rfl
   | _=>exact absurd h (by simp)
 have hCn:∀b o,s.heap.get? b=some o->b≠C:=fun b o e z=>by have:=ZI e;rw[z]at this;exact ZZ _ (Z7 this hC)
 have lk:∀x,(x,NameKind.free)∈scope.names->∀c,X.env.cells.lookup x=some c->(cellsFrom (C+1) scope.names (BO X.env.cells scope.names [])).lookup x=some c:=fun x hx c hc=>by
  have hl:scope.names.lookup x=some .free:=DN S.nd hx;rw[Dx,Es,MD (l:=cellsFrom (C+1) scope.names []) fun d hd=>?_]
  ·obtain⟨d,hd⟩:=Js (JO (cells:=X.env.cells) scope.names [] hx)
   rcases clOf_mem _ _ _ _ hfree (mem_of_lookup hd) with z | ⟨_,z⟩
   ·exact absurd z (by simp)
   ·rw[hc]at z;cases z;exact hd
  ·rcases cellsFrom_kind _ _ _ _ _ hd with z | z
   ·exact absurd z (by simp)
   ·rw[DN S.nd z]at hl;cases hl
 refine⟨⟨I.ok.mod,S.kind,I.ok.glob,I.ok.blt,Zp hC,fun x y c hx hy=>?_,fun x hx=>?_,fun x c hf hx=>?_,I.ok.hd,I.ok.frames,.inl rfl,fun b hb=>⟨?_,fun x c hx=>?_⟩,fun b o e=>I.bs b o e,ZP I.ok.bsz I.sz,fun b o e hb=>?_,fun b hb z=>?_,I.stack,I.stkFree⟩,
  os4,by rw[g4];exact I.bare,Un.kept k4,?_,fun x c hx=>?_,?_,fun x c hx=>?_,fun p hp=>?_,I.hok.kept k4,?_⟩
 ·-- inj
  rcases cases x c hx with ⟨m1,_⟩ | ⟨_,m1⟩ <;> rcases cases y c hy with ⟨m2,_⟩ | ⟨_,m2⟩
  ·exact name_of_addr apart m1 m2
  ·exact absurd (Zd (Z7 (oldlt y c m2) hC) (ZBo (own4 x c m1).2)) (ZZ _)
  ·exact absurd (Zd (Z7 (oldlt x c m1) hC) (ZBo (own4 y c m2).2)) (ZZ _)
  ·exact I.ok.inj x y c m1 m2
 ·-- has
  rcases kin x hx with h | h
  ·have q:=PySem.W.cellsFrom_some scope.names (C+1) (BO X.env.cells scope.names []) (.inl h);exact Option.isSome_iff_exists.mp q
  ·obtain⟨c,e⟩:=hfree (x,.free) (mem_of_lookup h) rfl;exact⟨c,lk x (mem_of_lookup h) c e⟩
 ·-- cab
  rcases cases x c hx with ⟨m1,_⟩ | ⟨m1,_⟩
  ·exact Zp (Zd hC (ZBo (own4 x c m1).2))
  ·have hl:=DN S.nd m1;have hf':(scope.names.lookup x == some NameKind.cell)=true:=hf;rw[hl]at hf';cases hf'
 ·obtain⟨o,e⟩:=hob b hb;exact hCn b o e
 ·intro z;obtain⟨o,e⟩:=hob b hb;have hlt:=ZI e
  rcases cases x c hx with ⟨m1,_⟩ | ⟨_,m1⟩
  ·subst z;exact absurd (Zd (Z7 hlt hC) (ZBo (own4 x c m1).2)) (ZZ _)
  ·exact(f2 b hb).2.2.2.2.1 x c m1 z
 ·-- noex
  have e1:=(I.ok.bs b o e).1
  rcases(f2 b hb).2.2.2.1 with z | z
  ·exact I.ok.noex b o e z
  ·exact absurd (Zd (ZI e1) z) (ZZ _)
 ·-- exfs
  rcases ZF.mp (I.stkSub b z) with e | z
  ·exact(f2 b hb).2.1 e
  ·exact(f2 b hb).2.2.1 z
 ·-- loc
  obtain⟨m,hm⟩:=n4;obtain⟨m0,hn0,hl0⟩:=I.loc;refine⟨m,hm,fun i x v h1 h2 h3=>?_⟩;have h1:N'[i]? = some x:=h1;unfold cSt at h2
  by_cases hi:i < own
  ·rw[ZBb (by simpa using hi),List.getElem?_replicate]at h2;split at h2 <;> cases h2
  ·rw[ZBA (by simpa using hi),ZBw,ZX]at h2;obtain⟨j,hj⟩:∃j,i=own+j:=⟨i - own,by lia⟩;subst hj;rw[Nat.add_sub_cancel_left]at h2;cases e:ix[j]? with
   | none=>rw[e]at h2;cases h2
   | some q =>
    rw[e]at h2;have h2:some (σ[q]?).join=some (some v):=h2;have h2:(σ[q]?).join=some v:=ZW h2
    have hσ:σ[q]? = some (some v):=by
     cases eq:σ[q]? with
     | none=>rw[eq]at h2;cases h2
     | some z=>rw[eq]at h2;simp at h2;rw[h2]
    have hx:(N'.drop own)[j]? = some x:=by rw[List.getElem?_drop];exact h1
    have hNq:X.N[q]? = some x:=by
     have:=congrArg (·[j]?) hN
     simp only[ZX,hx,e,ZBf]at this;exact(ZW this).symm
    have hfx:=hfr x (Zw hx);have hmem:=mem_of_lookup hfx;have kx:=S.fr (x,.free) hmem rfl;have vis:Vis X.env.scope x:=.inr kx;obtain⟨u,r,l⟩:=hl0 q x v hNq hσ vis;refine⟨u,r,?_⟩
    rcases l with ⟨k,_⟩ | ⟨k,c,hc,z⟩
    ·exfalso;have k':X.env.scope.names.lookup x=some .local:=k
     rcases kx with kx | kx
     ·rw[show X.env.scope.names.lookup x=some .cell from kx]at k';cases k'
     ·rw[show X.env.scope.names.lookup x=some .free from kx]at k';cases k'
    ·refine .inr ⟨?_,c,lk x hmem c hc,z.keeps k4⟩
     show(Eh scope X.env.scope).names.lookup x=some .cell\/(Eh scope X.env.scope).names.lookup x=some .free
     rw[KF,hfx]
     by_cases hc:(NameKind.free == .free && X.env.scope.kind == .function && X.env.scope.names.lookup x == some .cell)=true
     ·exact .inl (by rw[ZBf,if_pos hc])
     ·exact .inr (by rw[ZBf,if_neg hc])
 ·rcases cases x c hx with ⟨m1,_⟩ | ⟨_,m1⟩
  ·exact⟨_,(own4 x c m1).1⟩
  ·obtain⟨v,q⟩:=I.cell x c m1;exact⟨v,q.keeps k4⟩
 ·exact I.hok.fresh (Zp hC)
 ·rcases cases x c hx with ⟨m1,_⟩ | ⟨_,m1⟩
  ·exact I.hok.fresh (Zp (Zd hC (ZBo (own4 x c m1).2)))
  ·exact I.freeC x c m1
 ·have hp:p∈X.pn++pins:=by
   have:p∈(X.pn++pins)++[]:=hp
   rwa [Z4]at this
  obtain⟨e,n,ne,nf,d⟩:=I.pin p hp;refine⟨k4 _ _ e,n,hCn _ _ e,fun z=>?_,d⟩
  rcases ZF.mp (I.stkSub _ z) with q | q
  ·exact ne q
  ·exact nf q
 ·unfold cSt;rw[ZG,ZBw,ZC];exact hlen.symm
end
section
variable {prog:Program}{w:World}{A:Around}{R:Result->Shared->Prop}{s:Shared}
theorem UW {elt target iter:Expr} {ifs:List Expr} {scope:Scope} {pos:Pos} {it acc:Value} {env:Env} (I:Nat->Shared->Prop)
 (turn:∀n s,I n s->wpAny (model prog w) A (pyNext it) (fun r s₁=>match r with
   | none=>R (.ok .next) s₁
   | some v=>wpAny (model prog w) A (letOwnedTupleGo target it v) (fun _ s₁'=>wpAny (model prog w) A (assign target env v) (fun _ s₂ =>
    wpAny (model prog w) A (forIn ifs true fun c r=>if r=true then do let ok <- isTrue c env (eval c env);pure (ForInStep.yield ok) else pure (ForInStep.yield r)) (fun ok s₃ =>
     if ok=true then wpAny (model prog w) A (eval elt env) (fun x s₄ =>
      wpAny (model prog w) A (call (.builtin "list.append") [acc,x]) (fun _ s₅=>∃m,m < n/\I m s₅) (fun _ _=>False) s₄) (fun _ _=>False) s₃
     else ∃m,m < n/\I m s₃) (fun _ _=>False) s₂) (fun _ _=>False) s₁') (fun _ _=>False) s₁) (fun _ _=>False) s)
 (n:Nat) (h:I n s) :
 codeAny (model prog w) A (.compLoop (.ListComp elt [⟨target,iter,ifs,0⟩] scope pos) 0 it acc env) R s:=by
 refine codeAny_loop rfl I (fun n s hI=>?_) n h;show wpAny _ A ((compTurn (.ListComp elt [⟨target,iter,ifs,0⟩] scope pos) 0 it acc env).onRaise (fun x=>do noteFrame x env;theTreesLotGoes x)) _ _ s;refine wpAny_noted ?_;rw[compTurn_list];refine ZA (wpAny_standAt (ZA (Zv (turn n s hI) (fun r s₁ h₁=>?_) fun _ _ h'=>h'.elim)));cases r with
 | none=>exact ZB h₁
 | some v =>
  refine ZA (Zv h₁ (fun _ s₁' h₁'=>?_) fun _ _ h'=>h'.elim);refine ZA (Zv h₁' (fun _ s₂ h₂=>ZA (Zv h₂ (fun ok s₃ h₃=>?_) fun _ _ h'=>h'.elim)) fun _ _ h'=>h'.elim);cases ok with
  | false=>exact ZB ⟨rfl,h₃⟩
  | true =>
   exact ZA (ZA (Zv h₃ (fun x s₄ h₄=>ZA (Zv h₄ (fun _ s₅ h₅=>ZB (ZB ⟨rfl,h₅⟩)) fun _ _ h'=>h'.elim)) fun _ _ h'=>h'.elim))
end
def PTs(X:Cx)(ifs:List Expr)(t:TT):Prop :=
 ∀(pins:List (Addr × Obj)) (s:Shared) (σ:St) (H:Hp) (Q:Bool->Hp->Prop),Inv X pins σ H s->t σ H Q ->
  wpAny (model X.prog X.w) X.A (forIn ifs true fun c r=>if r=true then do let ok <- isTrue c X.env (eval c X.env);pure (ForInStep.yield ok) else pure (ForInStep.yield r)) (TP X pins σ Q) X.xe s
def P3:TT:=fun _ H Q=>Q true H
theorem A0{X:Cx}:PTs X [] P3:=fun _ _ _ H _ I h=>wpAny_tests_nil ⟨H,I,h⟩
theorem Cv{X:Cx}{c:Expr}{t:TT}(h:PT X c t):PTs X [c] t:=fun pins s σ H Q I hq=>wpAny_tests_one (h pins s σ H Q I hq)
def Cs(own:Nat)(g:TG):Prop:=∀x σ H Q,g x σ H Q->g x σ H fun σ' H'=>(σ'.length=σ.length/\∀i,own<=i->σ'[i]? = σ[i]?)/\Q σ' H'
def Ez(own:Nat)(g:TGs):Prop:=∀x σ H Q,g x σ H Q->g x σ H fun σ' H'=>(σ'.length=σ.length/\∀i,own<=i->σ'[i]? = σ[i]?)/\Q σ' H'
theorem Aj{own i:Nat}(h:i < own):Cs own (Ae i):=fun x σ H Q q =>
 ⟨⟨by simp,fun j hj=>by rw[List.getElem?_set_ne (by lia)]⟩,q⟩
theorem Jk{own:Nat}:Ez own HY:=fun x σ H Q ⟨e,q⟩=>⟨e,⟨rfl,fun _ _=>rfl⟩,q⟩
def C0(g:TG):Prop:=∀x σ H (Q Q':St->Hp->Prop),(∀σ H,Q σ H->Q' σ H)->g x σ H Q->g x σ H Q'
def ET(g:TGs):Prop:=∀x σ H (Q Q':St->Hp->Prop),(∀σ H,Q σ H->Q' σ H)->g x σ H Q->g x σ H Q'
theorem C4{i:Nat}:C0 (Ae i):=fun _ _ _ _ _ h q=>h _ _ q
theorem EK:ET HY:=fun _ _ _ _ _ h ⟨e,q⟩=>⟨e,h _ _ q⟩
theorem GF{t:TG}{u:TGs}(h1:C0 t)(h2:ET u):ET (JF t u):=fun _ _ _ _ _ h ⟨v,r,e,q⟩=>⟨v,r,e,h1 _ _ _ _ _ (fun _ _ q=>h2 _ _ _ _ _ h q) q⟩
theorem Ey{own:Nat}{t:TG}{u:TGs}(m:C0 t)(mu:ET u)(h1:Cs own t)(h2:Ez own u):Ez own (JF t u):=fun x σ H Q ⟨v,r,e,q⟩ =>
 ⟨v,r,e,m _ _ _ _ _ (fun σ' H' ⟨⟨e1,e2⟩,q⟩=>mu _ _ _ _ _ (fun σ'' H'' ⟨⟨e3,e4⟩,q⟩=>⟨⟨e3.trans e1,fun i hi=>(e4 i hi).trans (e2 i hi)⟩,q⟩) (h2 r σ' H' Q q)) (h1 v σ H _ q)⟩
theorem Jy{own:Nat}{K:W.Frag}{n:Nat}{t:TGs}(h:Ez own t):Cs own (Im K n t):=fun x σ H Q ⟨a,xs,e,s,l,q⟩=>⟨a,xs,e,s,l,h _ _ _ _ q⟩
theorem Ny{own:Nat}{ix:List Nat}{σ:St}{i:Nat}{v:V}(h:(cSt own ix σ)[i]? = some (some v)):own<=i:=by
 unfold cSt at h
 by_cases hi:i < own
 ·rw[ZBb (by simpa using hi),List.getElem?_replicate]at h;split at h <;> cases h
 ·lia
def C3(J:It)(g:TG)(tc:TT)(te:TE)(σc:St)(Q:VK)(H1:Hp):Prop :=
 ∃W:Nat->Nat->List V->Hp->Prop,(∃m,W 0 m [] H1)/\∀i m ys H,W i m ys H ->
  (J.stop i H/\∀p,H p=none->Q (.ref p) (upd H p (.lst ys))) \/
  (J.go i H/\ys.length < sizeLine/\∃N:List V->Hp->Prop,(∀ys' H',N ys' H'->∃m',m' < m/\W (i+1) m' ys' H')/\∀x H',J.yld i H x H'->g x σc H' fun σ4 H4=>tc σ4 H4 fun b H5 =>
    if b=true then te σ4 H5 fun y H6=>N (ys++[y]) H6 else N ys H5)
def D9(wi:TI)(own:Nat)(ix:List Nat)(g:TG)(tc:TT)(te:TE):TE:=fun σ H Q=>wi σ H fun J H1=>C3 J g tc te (cSt own ix σ) Q H1
section
variable {X:Cx}{pins:List (Addr × Obj)}{σ:St}{H:Hp}{s:Shared}{fp:List Addr}{it:Addr}{tn:Nat->Heap->Prop}{J:It}{tg iter elt:Expr}{ifs:List Expr}{scope:Scope}{pos:Pos}{N':List Str}{own:Nat}{ix:List Nat}{g:TG}{tc:TT}{te:TE}{Q:VK}{E:Value->Shared->Prop}
theorem JY (I:Inv X pins σ H s) (T:Turn X.prog X.w X.K tg J fp it tn) (st:tn 0 s.heap) (f2:∀b∈fp,Bn X pins H b) (hc:X.calm=true) (S:CompScope scope X.env.scope)
 (hlen:N'.length=own+ix.length) (hN:(N'.drop own).map some=ix.map (X.N[·]?)) (hfr:∀x∈N'.drop own,scope.names.lookup x=some .free)
 (hg:∀c,PG (X.comp scope N' c) tg g) (hgo:Cs own g) (ht:∀c,PTs (X.comp scope N' c) ifs tc) (he:∀c,PE (X.comp scope N' c) elt te)
 (hq:C3 J g tc te (cSt own ix σ) Q H) {RR:Value->Addr->Result->Shared->Prop}
 (fin:∀(D C:Addr) (s':Shared) (H':Hp) (ys:List V) (its:List Value) (n:Nat),s'.os=s.os->AllBare s'.gens->Un (frs X.stack) fp H H' s.heap s'.heap->HOk X.prog X.w H' s'.heap->(∃m,s'.heap.Ns C m)->H' C=none->s.heap.objs.size<=C ->
   H' D=none->s.heap.objs.size<=D->D≠C->s'.heap.get? D=some { cls:=.type "list",data:=.seq its.toArray n } -> Vals ys its->ys.length<=sizeLine->(∀p,H' p=none->Q (.ref p) (upd H' p (.lst ys)))->RR (.ref D) C (.ok .next) s') :
 wpAny (model X.prog X.w) X.A (newList []) (fun acc s₃=>wpAny (model X.prog X.w) X.A (newFunctionEnv scope X.env.globals (BO X.env.cells scope.names []) [] X.env.qual none .none (some X.env)) (fun cenv s₄ =>
  codeAny (model X.prog X.w) X.A (.compStart (.ListComp elt [⟨tg,iter,ifs,0⟩] scope pos) 0 (.ref it) acc { cenv with scope:=relabel scope X.env }) (RR acc cenv.locals) s₄) E s₃) E s:=by
 obtain⟨W,⟨m0,w0⟩,turn⟩:=hq;have hob:∀b∈fp,∃o,s.heap.get? b=some o:=fun b hb=>let ⟨o,e,_⟩:=T.obj 0 _ st b hb;⟨o,e⟩
 refine Zk ?_;generalize hH1:s.heap.push { cls:=.type "list",dict:=none,data:=.seq ([]:List Value).toArray } = h1;have hs1:h1.objs.size=s.heap.objs.size+1:=by rw[<- hH1,Z2]
 have k1:∀b o,s.heap.get? b=some o->h1.get? b=some o:=fun b o e=>by rw[<- hH1];exact ZJ _ e
 have d1:h1.get? s.heap.objs.size=some { cls:=.type "list",data:=.seq ([]:List Value).toArray }:=by rw[<- hH1];exact ZR _ rfl
 simp only[newFunctionEnv,Option.isSome_some,if_true];refine ZA (wpAny_alloc ?_);generalize hH2:(({ s with heap:=h1 }:Shared).heap.push { cls:=.type "dict",data:=.dict #[] })=h2;have hH2':h1.push { cls:=.type "dict",data:=.dict #[] } = h2:=hH2;have hs2:h2.objs.size=h1.objs.size+1:=by rw[<- hH2',Z2]
 have k2:∀b o,h1.get? b=some o->h2.get? b=some o:=fun b o e=>by rw[<- hH2'];exact ZJ _ e
 have n2:h2.Ns h1.objs.size (fun _=>none):=by rw[<- hH2'];exact Heap.Ns.new h1 (.type "dict")
 refine ZA (wpAny_layCells _ (fun name kind cells=>by cases hkc:kind == NameKind.cell <;> simp[hkc]) _ _ _ _ ?_);have ok:=cellsFrom_ok scope.names h2 (h1.objs.size+1) [] ⟨fun _ _ hm=>(nomatch hm),List.Pairwise.nil⟩ (by rw[hs2];exact ZD _);rw[hs2]at ok;show wpAny _ _ (forIn ([]:List (Str × Value)) PUnit.unit _ >>= _) _ _ _;rw[List.forIn_nil];refine ZA (ZB (ZB ?_));show codeAny _ _ (.compStart _ 0 (.ref it) (.ref s.heap.objs.size) (compEnvC scope (cellsFrom h2.objs.size scope.names (BO X.env.cells scope.names [])) h1.objs.size X.env)) (RR (.ref s.heap.objs.size) h1.objs.size) { s with heap:=pushCells h2 scope.names };rw[hs2];generalize hH3:pushCells h2 scope.names=h3 at ok ⊢;have k3:∀b o,h2.get? b=some o->h3.get? b=some o:=fun b o e=>by rw[<- hH3];exact pushCells_keeps _ _ b o e
 have kk:∀b o,s.heap.get? b=some o->h3.get? b=some o:=fun b o e=>k3 b o (k2 b o (k1 b o e))
 have d3:h3.get? s.heap.objs.size=some { cls:=.type "list",data:=.seq ([]:List Value).toArray }:=k3 _ _ (k2 _ _ d1);have hC:s.heap.objs.size < h1.objs.size:=by rw[hs1];exact ZBY _
 have I3:Inv (X.comp scope N' ⟨pins,cellsFrom (h1.objs.size+1) scope.names (BO X.env.cells scope.names []),s,H,fp,h1.objs.size⟩) [] (cSt own ix σ) H { s with heap:=h3 } :=
  Ua (s4:={ s with heap:=h3 }) I f2 hob S hlen hN hfr hC kk rfl rfl ⟨_,n2.keeps k3⟩ (fun x c hm=>ok.empty x c hm) ok.apart
 generalize hcs:cellsFrom (h1.objs.size+1) scope.names (BO X.env.cells scope.names [])=cs at I3 ⊢;generalize hCC:h1.objs.size=C at *;generalize hDD:s.heap.objs.size=D at *;have hY:=I3.ok
 -- what is fixed of the records
 have sD:D≠C/\(∀x c,cs.lookup x=some c->c≠D)/\D∉frs X.stack/\∀p∈X.pn++pins,p.1≠D:=by
  refine⟨ZQ hC,fun x c e z=>?_,fun z=>?_,fun p hp z=>?_⟩
  ·subst z;have e':=e;rw[<- hcs,Dx,Es]at e';cases q:(cellsFrom (C+1) scope.names []).lookup x with
   | some d =>
    rw[q]at e';cases e'
    have:=(ok.empty x c (mem_of_lookup q)).2
    exact absurd (Zd hC (ZBo this)) (ZZ _)
   | none =>
    rw[q]at e';have hfree:∀y∈scope.names,y.2=.free->∃c,X.env.cells.lookup y.1=some c:=fun y hy h=>I.ok.has y.1 (S.fr y hy h)
    rcases clOf_mem _ _ _ _ hfree (mem_of_lookup e') with z | ⟨_,z⟩
    ·exact absurd z (by simp)
    ·obtain⟨v,q⟩:=I.cell x c z
     have:=q.lt
     rw[hDD]at this;exact ZZ _ this
  ·exact(I3.nofs (a:=D) (by exact absurd z (by
    intro z';obtain⟨_,o,ho,_⟩:=(show s.heap.FunFrames X.base X.stack from I.stack).mem z'
    have:=ZI ho
    rw[hDD]at this;exact ZZ _ this))) z
  ·have:=ZI (I.pin p hp).1
   rw[z,hDD]at this;exact ZZ _ this
 have stat:∀{H':Hp},(∀b∈fp,H' b=none)->∀b∈fp,Bn (X.comp scope N' ⟨pins,cs,s,H,fp,C⟩) [] H' b:=fun {H'} hn b hb=>by
  refine⟨hn b hb,(hY.exf b hb).1,hY.exfs b hb,.inl hb,(hY.exf b hb).2,fun p hp=>?_⟩;have hp:p∈(X.pn++pins)++[]:=hp;rw[Z4]at hp;exact(f2 b hb).2.2.2.2.2 p hp
 have statD:∀{H':Hp},H' D=none->Bn (X.comp scope N' ⟨pins,cs,s,H,fp,C⟩) [] H' D:=fun {H'} hn=>by
  refine⟨hn,sD.1,sD.2.2.1,.inr (ZBn hDD),sD.2.1,fun p hp=>?_⟩;have hp:p∈(X.pn++pins)++[]:=hp;rw[Z4]at hp;exact sD.2.2.2 p hp
 have loop:codeAny (model X.prog X.w) X.A (.compLoop (.ListComp elt [⟨tg,iter,ifs,0⟩] scope pos) 0 (.ref it) (.ref D) (compEnvC scope cs C X.env)) (RR (.ref D) C) { s with heap:=h3 }:=by
  refine UW (fun n s'=>∃(i:Nat) (H':Hp) (ys:List V) (its:List Value) (k:Nat),Inv (X.comp scope N' ⟨pins,cs,s,H,fp,C⟩) [] (cSt own ix σ) H' s'/\tn i s'.heap/\(∀b∈fp,H' b=none)/\H' D=none /\
   s'.heap.get? D=some { cls:=.type "list",data:=.seq its.toArray k } /\ Vals ys its/\ys.length<=sizeLine/\W i n ys H') ?_ m0
   ⟨0,H,[],[],0,I3,T.keep _ _ _ st fun b _ o e=>kk b o e,fun b hb=>(f2 b hb).1,I.hok.fresh (ZBn hDD),d3,.nil,ZU _,w0⟩
  rintro n s4 ⟨i,H4,ys,its,k,I4,st4,fr4,dn4,d4,rv4,z4,w4⟩
  rcases turn i n ys H4 w4 with ⟨stop,qn⟩ | ⟨go,zl,N,hN2,step⟩
  ·have ID:=I4.pinned (fp:=[D]) (fun b hb=>by rw[ZO.mp hb];exact statD dn4) (fun b hb=>by rw[ZO.mp hb];exact⟨_,d4,fun v z=>nomatch z⟩)
   have nD:∀b∈fp,b≠D:=fun b hb z=>by
    obtain⟨o,e⟩:=hob b hb
    have:=ZI e
    rw[z,hDD]at this;exact ZZ _ this
   have stat':∀b∈fp,Bn (X.comp scope N' ⟨pins,cs,s,H,fp,C⟩) ([]++B5 [D] s4.heap) H4 b:=fun b hb=>by
    obtain⟨q1,q2,q3,q4,q5,q6⟩:=stat fr4 b hb;refine⟨q1,q2,q3,q4,q5,fun p hp=>?_⟩
    rcases ZH.mp hp with z | z
    ·exact q6 p (Z1 _ z)
    ·have:=(GY (by simpa using z:p∈B5 [D] s4.heap)).1
     rw[ZO.mp this];exact fun z=>nD b hb z.symm
   refine thn (T.done (X.comp scope N' ⟨pins,cs,s,H,fp,C⟩) rfl rfl rfl hc i _ s4 _ H4 (fun _ _=>False) ID stat' st4 stop) fun r s5 ⟨hr,I5⟩=>?_
   subst hr;obtain⟨m,hm,_⟩:=I5.loc;refine fin D C s5 H4 ys its k I5.os I5.bare I5.base I5.hok ⟨m,hm⟩ I5.free (Zp hC) dn4 (ZD _) sD.1 ?_ rv4 z4 qn
   ·exact(I5.pin (D,_) (Zh _ (Zh _ (Do (ZO.mpr rfl) d4)))).1
  ·have nD:∀b∈fp,b≠D:=fun b hb z=>by
    obtain⟨o,e⟩:=hob b hb
    have:=ZI e
    rw[z,hDD]at this;exact ZZ _ this
   have ID:=I4.pinned (fp:=[D]) (fun b hb=>by rw[ZO.mp hb];exact statD dn4) (fun b hb=>by rw[ZO.mp hb];exact⟨_,d4,fun v z=>nomatch z⟩)
   have statP:∀{H':Hp},(∀b∈fp,H' b=none)->∀b∈fp,Bn (X.comp scope N' ⟨pins,cs,s,H,fp,C⟩) ([]++B5 [D] s4.heap) H' b:=fun {H'} hn b hb=>by
    obtain⟨q1,q2,q3,q4,q5,q6⟩:=stat hn b hb;refine⟨q1,q2,q3,q4,q5,fun p hp=>?_⟩
    rcases ZH.mp hp with z | z
    ·exact q6 p (Z1 _ z)
    ·have:=(GY (by simpa using z:p∈B5 [D] s4.heap)).1
     rw[ZO.mp this];exact fun z=>nD b hb z.symm
   refine thn (T.item (X.comp scope N' ⟨pins,cs,s,H,fp,C⟩) rfl rfl rfl hc i _ s4 _ H4 (fun _ _=>False) ID (statP fr4) st4 go) fun r s5 ⟨u,hr,h5⟩=>?_
   subst hr;refine thn h5 fun _ s6 ⟨x,H6,I6,r6,y6,st6,fr6⟩=>?_
   have I6':=I6.pinned (statP fr6) (T.obj _ _ st6);refine thn (hg _ _ s6 _ H6 x u _ I6' r6 (hgo _ _ _ _ (step x H6 y6))) fun _ s7 ⟨σ7,H7,I7,⟨e7,k7⟩,q7⟩=>?_
   have I7':Inv (X.comp scope N' ⟨pins,cs,s,H,fp,C⟩) ([]++B5 [D] s4.heap++B5 fp s6.heap) σ7 H7 s7:=I7;refine thn (ht _ _ s7 σ7 H7 _ I7' q7) fun b s8 ⟨H8,I8,q8⟩=>?_
   -- what is kept through the turn
   have back:∀{s9:Shared} {H9:Hp},Inv (X.comp scope N' ⟨pins,cs,s,H,fp,C⟩) ([]++B5 [D] s4.heap++B5 fp s6.heap) σ7 H9 s9 ->
    Inv (X.comp scope N' ⟨pins,cs,s,H,fp,C⟩) [] (cSt own ix σ) H9 s9/\tn (i+1) s9.heap/\(∀b∈fp,H9 b=none)/\H9 D=none/\s9.heap.get? D=some { cls:=.type "list",data:=.seq its.toArray k }:=fun {s9 H9} I9=>by
    have pD:=I9.pin (D,_) (Zh _ (Z1 _ (Zh _ (Do (ZO.mpr rfl) d4))));refine⟨I9.unpinned.unpinned.weak (by rw[e7]) fun j v hj=>?_,T.keep _ _ _ st6 fun b hb o e=>(I9.pin (b,o) (Zh _ (Zh _ (Do hb e)))).1,fun b hb=>?_,pD.2.1,pD.1⟩
    ·rw[k7 j (Ny hj)];exact hj
    ·obtain⟨o,e,_⟩:=T.obj _ _ st6 b hb;exact(I9.pin (b,o) (Zh _ (Zh _ (Do hb e)))).2.1
   cases b with
   | false =>
    rw[if_neg Zq]at q8;obtain⟨m',hm,w8⟩:=hN2 _ _ q8;obtain⟨b1,b2,b3,b4,b5⟩:=back I8;exact⟨m',hm,i+1,H8,ys,its,k,b1,b2,b3,b4,b5,rv4,z4,w8⟩
   | true =>
    rw[if_pos rfl]at q8;rw[if_pos rfl];refine thn (he _ _ s8 σ7 H8 _ I8 q8) fun yv s9 ⟨y,H9,I9,r9,q9⟩=>?_
    obtain⟨m',hm,w9⟩:=hN2 _ _ q9;obtain⟨b1,b2,b3,b4,b5⟩:=back I9;have hl:=rv4.length;refine call_meets F.slot_list_append ⟨_,b5,rfl⟩ F.entry_list_append (F.args_list_append_2 _ _) (PySem.list_append D its.toArray k yv (by rw[ZL];lia)) ⟨b5,?_⟩;have up:=PySem.IsL.update b5 (fun a=>a.push yv);have keep:∀b o,b≠D->s9.heap.get? b=some o->(s9.heap.update D (Obj.mapSeq fun a=>a.push yv)).get? b=some o:=fun b o hb q=>(ZBB _ _ (Ne.symm hb)).trans q
    obtain⟨f0,f1,f2',f3,f4,f5⟩:=statD b4;refine⟨m',hm,i+1,H9,ys++[y],its++[yv],(if ((its.toArray.push yv).size == its.toArray.size)=true then k else k+1),b1.turned (t':=s9.toks) keep b4 f1 f3 f4 f5,?_,b3,b4,?_,rv4.append (.cons r9 .nil),?_,w9⟩
    ·exact T.keep _ _ _ b2 fun b hb o e=>keep b o (nD b hb) e
    ·have e2:(its.toArray.push yv)=(its++[yv]).toArray:=by simp
     rw[<- e2];exact up
    ·rw[ZG,List.length_singleton];lia
 exact codeAny_compStart_list loop (T.self X.A 0 _ _ _ (T.keep _ _ _ st fun b _ o e=>kk b o e) loop)
end
section
variable {X:Cx}{pins:List (Addr × Obj)}{σ:St}{H:Hp}{s:Shared}{fp:List Addr}{it:Addr}{tn:Nat->Heap->Prop}{J:It}{tg iter elt:Expr}{ifs:List Expr}{scope:Scope}{pos:Pos}{N':List Str}{own:Nat}{ix:List Nat}{g:TG}{tc:TT}{te:TE}{wi:TI}{E:Value->Shared->Prop}
theorem Jx {H':Hp} {s':Shared} {D:Addr} {ys:List V} {its:List Value} {n:Nat} (I:Inv X pins σ H s) (f2:∀b∈fp,Bn X pins H b) (ho:s'.os=s.os) (hg:AllBare s'.gens) (u:Un (frs X.stack) fp H H' s.heap s'.heap) (hok:HOk X.prog X.w H' s'.heap)
 (dn:H' D=none) (ds:s.heap.objs.size<=D) (d:s'.heap.get? D=some { cls:=.type "list",data:=.seq its.toArray n }) (rv:Vals ys its) (z:ys.length<=sizeLine):Inv X pins σ (upd H' D (.lst ys)) s':=by
 have nD:∀b o,s.heap.get? b=some o->b≠D:=fun b o e q=>by rw[q,Heap.get?_none_of_le ds]at e;cases e
 have nH:∀b o,H' b=some o->b≠D:=fun b o e q=>by rw[q,dn]at e;cases e
 refine I.call' (ch:=fp) ho ⟨u.keep,u.slot,fun b o e q hx=>?_,u.there,fun b xs e=>?_,fun b o v e=>?_,fun b ps e=>?_⟩ (fun b o e=>?_) hg fun b hb=>?_
 ·rw[AM (nD b o e)];exact u.free b o e q hx
 ·have:=u.tups b xs e
  rw[AM (nH _ _ this)];exact this
 ·have:=u.frzs b o v e
  rw[AM (nH _ _ this)];exact this
 ·obtain⟨more,q⟩:=u.tbls b ps e;exact⟨more,by rw[AM (nH _ _ q)];exact q⟩
 ·by_cases hb:b=D
  ·subst hb;rw[AD]at e;cases e;exact⟨z,its,n,rv,d⟩
  ·rw[AM hb]at e;exact(hok b o e).stay (fun _ _ _ q=>q) (fun c q=>by rw[AM (nH _ _ q)];exact q) fun c xs q=>by rw[AM (nH _ _ q)];exact q
 ·obtain⟨q1,q2,q3,q4,q5,q6⟩:=f2 b hb;exact⟨q4,q2,q5,q6⟩
theorem Inv.dictGone{s':Shared}{h':Heap}{C:Addr}{H':Hp}{σ':St}(I:Inv X pins σ H s)(J:Inv X pins σ' H' s')(hC:s.heap.objs.size<=C)(hn:H' C=none)(k:Heap.SameBut C s'.heap h'):Inv X pins σ' H' { s' with heap:=h' }:=by
 have hC0:=Heap.get?_none_of_le hC;refine J.turned (t':=s'.toks) (fun b o hb e=>(k.2 b hb).trans e) hn (fun z=>?_) (.inr (ZP I.sz hC)) (fun x c e z=>?_) fun p hp z=>?_
 ·obtain⟨m,⟨o,_,_,ho,_⟩,_⟩:=I.loc;rw[<- z,hC0]at ho;cases ho
 ·obtain⟨v,o,ho,_⟩:=I.cell x c e;rw[z,hC0]at ho;cases ho
 ·have:=(I.pin p hp).1
  rw[z,hC0]at this;cases this
theorem Rx (hc:X.calm=true) (hi:PI X tg iter wi) (S:CompScope scope X.env.scope)
 (hlen:N'.length=own+ix.length) (hN:(N'.drop own).map some=ix.map (X.N[·]?)) (hfr:∀x∈N'.drop own,scope.names.lookup x=some .free)
 (hg:∀c,PG (X.comp scope N' c) tg g) (hgo:Cs own g) (ht:∀c,PTs (X.comp scope N' c) ifs tc) (he:∀c,PE (X.comp scope N' c) elt te)
 (hs:∀x,foldedSetIterable iter X.env x=pure x:=by intro _;rfl):PE X (.ListComp elt [⟨tg,iter,ifs,0⟩] scope pos) (D9 wi own ix g tc te):=by
 intro pins s σ H Q I h;rw[eval_ListComp];have hfree:∀y∈scope.names,y.2=.free->∃c,X.env.cells.lookup y.1=some c:=fun y hy h=>I.ok.has y.1 (S.fr y hy h)
 refine wpAny_comprehension_free (use:=none) rfl hs (J8 hfree) S.kind (fun y hy hl=>DN S.nd (by rw[<- hl];exact hy)) ?_;refine thn (hi pins s σ H _ I h) fun v s1 h1=>thn h1 fun itv s2 h2=>?_
 obtain⟨it,fp,tn,J,H2,e,I2,T,st2,f2,q2⟩:=h2;subst e;refine JY (RR:=fun acc C=>compPost (model X.prog X.w) X.A X.xe none (EP X pins σ Q) acc C) I2 T st2 f2 hc S hlen hN hfr hg hgo ht he q2 ?_;intro D C s' H' ys its n ho hgn u hok hm hC hCs hD hDs hDC d rv z q;obtain⟨m,hm⟩:=hm;have I3:=Jx I2 f2 ho hgn u hok hD hDs d rv z;refine⟨m,hm,fun h' hs'=>?_⟩;exact⟨.ref D,_,I2.dictGone I3 hCs (by rw[AM (Ne.symm hDC)];exact hC) hs',rfl,q D hD⟩
theorem Uw {i:Nat} {y:Str} {py spos:Pos} (hc:X.calm=true) (hnd:X.N.Nodup) (hiy:X.N[i]? = some y) (hy:X.env.scope.names.lookup y=some .local) (hi:PI X tg iter wi) (S:CompScope scope X.env.scope)
 (hlen:N'.length=own+ix.length) (hN:(N'.drop own).map some=ix.map (X.N[·]?)) (hfr:∀x∈N'.drop own,scope.names.lookup x=some .free)
 (hg:∀c,PG (X.comp scope N' c) tg g) (hgo:Cs own g) (ht:∀c,PTs (X.comp scope N' c) ifs tc) (he:∀c,PE (X.comp scope N' c) elt te)
 (hsw:swapsWith (.ListComp elt [⟨tg,iter,ifs,0⟩] scope pos) (some (.Name y py)) spos.line X.env=pure true)
 (hs:∀x,foldedSetIterable iter X.env x=pure x:=by intro _;rfl):PS X (.Assign [.Name y py] (.ListComp elt [⟨tg,iter,ifs,0⟩] scope pos) spos) (Dr (D9 wi own ix g tc te) (Ae i)):=by
 intro pins s σ H D I h;rw[exec_Assign_Name_used _ _ _ _ hsw];refine ZA (wpAny_standAt (ZA ?_));show wpAny _ _ (do let _ <- comprehension (.ListComp elt [⟨tg,iter,ifs,0⟩] scope pos) scope X.env _ (newList []) false (eval iter X.env) (some (assign (.Name y py) X.env))) _ _ s;have hfree:∀y∈scope.names,y.2=.free->∃c,X.env.cells.lookup y.1=some c:=fun y hy h=>I.ok.has y.1 (S.fr y hy h)
 refine ZA (Zv (wpAny_comprehension_free (use:=some (assign (.Name y py) X.env)) (Q:=fun _ s'=>SP X pins D .next s') rfl hs (J8 hfree) S.kind (fun y hy hl=>DN S.nd (by rw[<- hl];exact hy)) ?_) (fun _ s' hq=>ZB (ZB hq)) fun _ _ e=>e);refine thn (hi pins s σ H _ I h) fun v s1 h1=>thn h1 fun itv s2 h2=>?_
 obtain⟨it,fp,tn,J,H2,e,I2,T,st2,f2,q2⟩:=h2;subst e;refine JY (RR:=fun acc C=>compPost (model X.prog X.w) X.A X.xe (some (assign (.Name y py) X.env)) (fun _ s'=>SP X pins D .next s') acc C) I2 T st2 f2 hc S hlen hN hfr hg hgo ht he q2 ?_;intro d C s' H' ys its n ho hgn u hok hm hC hCs hD hDs hDC hd rv z q;obtain⟨m,hm⟩:=hm;have I3:=Jx I2 f2 ho hgn u hok hD hDs hd rv z;show wpAny _ _ (assign (.Name y py) X.env (.ref d)) _ _ s';have hCn:(upd H' d (.lst ys)) C=none:=by rw[AM (Ne.symm hDC)];exact hC
 refine wpAny_assign_Name (Kk I3 hnd hiy (.inl hy) (v:=.ref d) rfl (fun s3 I4 ⟨a,sb,ha⟩=>?_) (.inr hy))
 have ha':a≠C:=fun e=>by
  have hC0:=Heap.get?_none_of_le hCs
  rcases ha with z | z
  ·obtain⟨m,⟨o,_,_,ho,_⟩,_⟩:=I2.loc;rw[<- z,e,hC0]at ho;cases ho
  ·obtain⟨v,o,ho,_⟩:=I2.cell y a z;rw[e,hC0]at ho;cases ho
 refine⟨m,hm.sameBut sb (Ne.symm ha'),fun h' hs'=>?_⟩;exact⟨_,_,I2.dictGone I4 hCs hCn hs',q d hD⟩
end
section
variable {X:Cx}
theorem PE.imp{e:Expr}{t t':TE}(h:PE X e t)(f:∀σ H Q,t' σ H Q->t σ H Q):PE X e t':=fun pins s σ H Q I q=>h pins s σ H Q I (f σ H Q q)
theorem OpR.imp{f:Value->Value->Sem Value}{r r':R2}(h:OpR X f r)(g:∀x y H Q,r' x y H Q->r x y H Q):OpR X f r':=fun pins s σ H x y v u Q I rx ry q=>h pins s σ H x y v u Q I rx ry (g _ _ _ _ q)
theorem CallR.imp{f:Value}{r r':List V->Hp->VK->Prop}(h:CallR X f r)(g:∀x H Q,r' x H Q->r x H Q):CallR X f r':=fun pins s σ H xs us Q I r q=>h pins s σ H xs us Q I r (g _ _ _ q)
def EG(i:Nat):TE:=fun σ H Q=>match σ[i]? with
 | some (some v)=>Q v H
 | _=>False
theorem vv (i:Nat) {x:Str} {pos:Pos} (hN:X.N[i]? = some x:=by rfl) (hv:Vis X.env.scope x:=by first | exact Or.inl rfl | exact Or.inr (Or.inl rfl) | exact Or.inr (Or.inr rfl)) (hd:(x == ("__debug__" : Str))=false:=by decide)
 (hcd:(x == ("__classdict__" : Str))=false:=by decide):PE X (.Name x pos) (EG i):=(Pz hN hv hd hcd).imp fun σ H Q q=>by
 unfold EG at q;split at q
 ·rename_i v e;exact⟨v,e,q⟩
 ·exact q.elim
def okMul(i j:Int):Prop:=(i.natAbs < 2 ^ 4096/\j.natAbs < 2 ^ 4096)\/(-(2 ^ 64) < i/\i < 2 ^ 64)\/(-(2 ^ 64) < j/\j < 2 ^ 64)
theorem K6{i:Int}(h:i.natAbs < 2 ^ 4096):Builtin.Int.intBits i<=2 ^ 20:=by
 unfold Builtin.Int.intBits;split
 ·exact ZU _
 ·rename_i hz
  have hne:i.natAbs≠0:=by
   have:¬i=0:=by simpa using hz
   lia
  have:=(Nat.log2_lt hne).mpr h
  have e:(2:Nat) ^ 20=1048576:=by decide
  lia
theorem okMul.ok{i j:Int}(h:okMul i j):IntMulOk i j:=by
 rcases h with ⟨h1,h2⟩ | h | h
 ·exact .of_bits (K6 h1) (K6 h2)
 ·exact CMul.ok (.inl h)
 ·exact CMul.ok (.inr h)
def okDiv(j:Int):Prop:=0 < j/\j < 2 ^ 4096
theorem okDiv.ok{i j:Int}(h:okDiv j):Builtin.divisionGoesByPylong i j=false:=by
 refine PyProof.noPylong_of_log2 ?_;obtain⟨h1,h2⟩:=h;have hne:j.natAbs≠0:=by lia
 have h3:j.natAbs < 2 ^ 4096:=by
  have e:((j.natAbs:Int))=j:=by lia
  have h2':((j.natAbs:Nat):Int) < ((2 ^ 4096:Nat):Int):=by rw[e,Int.natCast_pow];exact h2
  exact Int.ofNat_lt.mp h2'
 have:=(Nat.log2_lt hne).mpr h3
 lia
def DP(K:W.Frag):R2:=fun x y H Q=>match x,y with
 | .int i,.int j=>Q (.int (i+j)) H
 | .str a,.str b=>a.length+b.length<=sizeLine/\Q (.str (a++b)) H
 | .ref a,.ref b=>E9 (.ref a) (.ref b) H Q\/KM K (.ref a) (.ref b) H Q
 | _,_=>False
theorem PV:OpR X (binaryOp .Add) (DP X.K):=by
 intro pins s σ H x y v u Q I rx ry q
 cases x <;> cases y <;> first
  | exact False.elim q
  | exact Gg pins s σ H _ _ v u Q I rx ry ⟨_,_,rfl,rfl,q⟩
  | exact Uz pins s σ H _ _ v u Q I rx ry ⟨_,_,rfl,rfl,q.1,q.2⟩
  | (rcases q with q | q
     ·exact Hk pins s σ H _ _ v u Q I rx ry q
     ·exact Iv pins s σ H _ _ v u Q I rx ry q)
def GT:R2:=fun x y H Q=>match x,y with
 | .int i,.int j=>Q (.int (i - j)) H
 | _,_=>False
theorem CS:OpR X (binaryOp .Sub) GT:=by
 intro pins s σ H x y v u Q I rx ry q
 cases x <;> cases y <;> first
  | exact False.elim q
  | exact Uu pins s σ H _ _ v u Q I rx ry ⟨_,_,rfl,rfl,q⟩
def JS:R2:=fun x y H Q=>match x,y with
 | .int i,.int j=>okMul i j/\Q (.int (i * j)) H
 | .ref a,.int k=>KI (.ref a) (.int k) H Q
 | _,_=>False
theorem Br:OpR X (binaryOp .Mult) JS:=by
 have hI:OpR X (binaryOp .Mult) (rI okMul fun i j=>.int (i * j)):=opI fun _ _ _ _ _ _ _ hc q=>mul_int q hc.ok
 intro pins s σ H x y v u Q I rx ry q
 cases x <;> cases y <;> first
  | exact False.elim q
  | exact hI pins s σ H _ _ v u Q I rx ry ⟨_,_,rfl,rfl,q.1,q.2⟩
  | exact On pins s σ H _ _ v u Q I rx ry q
def IH:R2:=fun x y H Q=>match x,y with
 | .int i,.int j=>okDiv j/\Q (.int (i / j)) H
 | _,_=>False
theorem Ff:OpR X (binaryOp .FloorDiv) IH:=by
 have hI:OpR X (binaryOp .FloorDiv) (rI (fun _ j=>okDiv j) fun i j=>.int (i / j)):=opI fun i j _ _ _ _ _ hc q=>by
  refine floordiv_int (by have:=hc.1;lia) ?_ (.inl hc.ok);rw[Int.fdiv_eq_ediv_of_nonneg i (by have:=hc.1;lia)];exact q
 intro pins s σ H x y v u Q I rx ry q
 cases x <;> cases y <;> first
  | exact False.elim q
  | exact hI pins s σ H _ _ v u Q I rx ry ⟨_,_,rfl,rfl,q.1,q.2⟩
def GU:R2:=fun x y H Q=>match x,y with
 | .int i,.int j=>0 < j/\Q (.int (i % j)) H
 | _,_=>False
theorem C7:OpR X (binaryOp .Mod) GU:=by
 intro pins s σ H x y v u Q I rx ry q
 cases x <;> cases y <;> first
  | exact False.elim q
  | exact N6 pins s σ H _ _ v u Q I rx ry ⟨_,_,rfl,rfl,q.1,q.2⟩
def IN:R2:=fun x y H Q=>match x,y with
 | .int i,.int j=>Fn i j/\Q (.int (i ^ j.toNat)) H
 | _,_=>False
theorem IG:OpR X (binaryOp .Pow) IN:=by
 intro pins s σ H x y v u Q I rx ry q
 cases x <;> cases y <;> first
  | exact False.elim q
  | exact Sj pins s σ H _ _ v u Q I rx ry ⟨_,_,rfl,rfl,q.1,q.2⟩
def G0(f:Int->Int->Int):R2:=fun x y H Q=>match x,y with
 | .int i,.int j=>Q (.int (f i j)) H
 | _,_=>False
theorem Gd:OpR X (binaryOp .BitAnd) (G0 Builtin.bitAnd):=by
 intro pins s σ H x y v u Q I rx ry q
 cases x <;> cases y <;> first
  | exact False.elim q
  | exact TK pins s σ H _ _ v u Q I rx ry ⟨_,_,rfl,rfl,q⟩
def UZ:R2:=fun x y H Q=>match x,y with
 | .int i,.int j=>0<=j/\Q (.int (i / 2 ^ j.toNat)) H
 | _,_=>False
theorem Ul:OpR X (binaryOp .RShift) UZ:=by
 intro pins s σ H x y v u Q I rx ry q
 cases x <;> cases y <;> first
  | exact False.elim q
  | exact Qe pins s σ H _ _ v u Q I rx ry ⟨_,_,rfl,rfl,q.1,q.2⟩
def IJ:R2:=fun x y H Q=>match x,y with
 | .int i,.int j=>Fn i j/\Q (.int (i * 2 ^ j.toNat)) H
 | _,_=>False
theorem Ly:OpR X (binaryOp .LShift) IJ:=by
 intro pins s σ H x y v u Q I rx ry q
 cases x <;> cases y <;> first
  | exact False.elim q
  | exact PZ pins s σ H _ _ v u Q I rx ry ⟨_,_,rfl,rfl,q.1,q.2⟩
def F9:V->Hp->VK->Prop:=fun x H Q=>match x with
 | .int i=>Q (.int (-i)) H
 | _=>False
theorem CP:UnR X (unaryOp .USub) F9:=by
 intro pins s σ H x v Q I rx q
 cases x <;> first
  | exact False.elim q
  | exact SS pins s σ H _ v Q I rx ⟨_,rfl,q⟩
def DY(p:Int->Int->Bool):R2:=fun x y H Q=>match x,y with
 | .int i,.int j=>Q (.bl (p i j)) H
 | _,_=>False
theorem B9:OpR X (compareOp .Lt) (DY fun i j=>decide (i < j)):=by
 intro pins s σ H x y v u Q I rx ry q
 cases x <;> cases y <;> first
  | exact False.elim q
  | exact Tp pins s σ H _ _ v u Q I rx ry ⟨_,_,rfl,rfl,q⟩
theorem HC:OpR X (compareOp .LtE) (DY fun i j=>decide (i<=j)):=by
 intro pins s σ H x y v u Q I rx ry q
 cases x <;> cases y <;> first
  | exact False.elim q
  | exact OT pins s σ H _ _ v u Q I rx ry ⟨_,_,rfl,rfl,q⟩
theorem Cg:OpR X (compareOp .Gt) (DY fun i j=>decide (j < i)):=by
 intro pins s σ H x y v u Q I rx ry q
 cases x <;> cases y <;> first
  | exact False.elim q
  | exact Si pins s σ H _ _ v u Q I rx ry ⟨_,_,rfl,rfl,q⟩
theorem Ch:OpR X (compareOp .GtE) (DY fun i j=>decide (j<=i)):=by
 intro pins s σ H x y v u Q I rx ry q
 cases x <;> cases y <;> first
  | exact False.elim q
  | exact Qr pins s σ H _ _ v u Q I rx ry ⟨_,_,rfl,rfl,q⟩
end
inductive Dv where
 | non | bl (b:Bool) | int (i:Int) | str (x:Str) | tup (ds:List Dv) | lst (ds:List Dv)
mutual
def Rep(K:W.Frag)(H:Hp):Dv->V->Prop
 | .non,v=>v=.non
 | .bl b,v=>v=.bl b
 | .int i,v=>v=.int i
 | .str x,v=>v=.str x
 | .tup ds,v=>∃a xs,v=.ref a/\SqT K H a xs/\Reps K H ds xs
 | .lst ds,v=>∃a xs,v=.ref a/\SqL K H a xs/\Reps K H ds xs
def Reps(K:W.Frag)(H:Hp):List Dv->List V->Prop
 | [],xs=>xs=[]
 | d::ds,xs=>∃x r,xs=x::r/\Rep K H d x/\Reps K H ds r
end
mutual
def eqD:Dv->Dv->Bool
 | .non,.non=>true
 | .bl a,.bl b=>a == b
 | .bl a,.int b=>(if a then 1 else 0) == b
 | .int a,.bl b=>a == (if b then 1 else 0)
 | .int a,.int b=>a == b
 | .str a,.str b=>a == b
 | .tup ds,.tup es=>BN ds es
 | .lst ds,.lst es=>BN ds es
 | _,_=>false
def BN:List Dv->List Dv->Bool
 | [],[]=>true
 | d::ds,e::es=>eqD d e && BN ds es
 | _,_=>false
end
mutual
def An:Dv->Nat
 | .tup ds=>A9 ds+1
 | .lst ds=>A9 ds+1
 | _=>0
def A9:List Dv->Nat
 | []=>0
 | d::ds=>max (An d) (A9 ds)
end
theorem GO(ds es:List Dv):eqD (.tup ds) (.tup es)=BN ds es:=by rw[eqD]
theorem EI(ds es:List Dv):eqD (.lst ds) (.lst es)=BN ds es:=by rw[eqD]
theorem Reps.length{K:W.Frag}{H:Hp}:∀{ds:List Dv} {xs:List V},Reps K H ds xs->ds.length=xs.length
 | [],xs,h=>by unfold Reps at h;subst h;rfl
 | d::ds,xs,h=>by
  unfold Reps at h;obtain⟨x,r,rfl,_,h⟩:=h;rw[Zj,Zj,Reps.length h]
theorem Reps.get{K:W.Frag}{H:Hp}:∀{ds:List Dv} {xs:List V} {i:Nat} {d:Dv},Reps K H ds xs->ds[i]? = some d->∃x,xs[i]? = some x/\Rep K H d x
 | [],_,_,_,_,e=>by simp at e
 | d::ds,xs,0,_,h,e=>by
  unfold Reps at h;obtain⟨x,r,rfl,h1,_⟩:=h;simp at e;subst e;exact⟨x,rfl,h1⟩
 | d::ds,xs,i+1,_,h,e=>by
  unfold Reps at h;obtain⟨x,r,rfl,_,h⟩:=h;obtain⟨y,h1,h2⟩:=Reps.get (i:=i) h (by simpa using e);exact⟨y,by simpa using h1,h2⟩
theorem J3{ds:List Dv}{i:Nat}{d:Dv}(h:ds[i]? = some d):An d<=A9 ds:=by
 induction ds generalizing i with
 | nil=>simp at h
 | cons e es ih =>
  unfold A9;cases i with
  | zero=>simp at h;subst h;lia
  | succ i=>have:=ih (i:=i) (by simpa using h);lia
theorem Ij:∀(ds es:List Dv),ds.length=es.length->BN ds es=(List.range ds.length).all fun i=>match ds[i]?,es[i]? with | some d,some e=>eqD d e | _,_=>false
 | [],[],_=>by unfold BN;rfl
 | d::ds,e::es,h=>by
  unfold BN;rw[Zj,List.range_succ_eq_map,List.all_cons,List.all_map,Ij ds es (by simpa using h)]
  congr 1
 | [],e::es,h=>by simp at h
 | d::ds,[],h=>by simp at h
theorem Hz:∀(ds es:List Dv),ds.length≠es.length->BN ds es=false
 | [],[],h=>absurd rfl h
 | [],_::_,_=>by unfold BN;rfl
 | _::_,[],_=>by unfold BN;rfl
 | d::ds,e::es,h=>by unfold BN;rw[Hz ds es (fun z=>h (by simp[z])),Bool.and_false]
mutual
theorem Is:∀d:Dv,eqD d d=true
 | .non=>by unfold eqD;rfl
 | .bl b=>by unfold eqD;simp
 | .int i=>by unfold eqD;simp
 | .str x=>by unfold eqD;simp
 | .tup ds=>by unfold eqD;exact Ex ds
 | .lst ds=>by unfold eqD;exact Ex ds
theorem Ex:∀ds:List Dv,BN ds ds=true
 | []=>by unfold BN;rfl
 | d::ds=>by unfold BN;rw[Is d,Ex ds];rfl
end
section
variable {X:Cx}{pins:List (Addr × Obj)}{σ:St}{H:Hp}{s:Shared}
theorem Ko{a:Addr}{xs ys:List V}(I:Inv X pins σ H s)(h:SqL X.K H a xs)(h':SqT X.K H a ys):False:=by
 obtain⟨its,_,⟨o,n,e,c,_⟩,_⟩:=I.list h;obtain⟨its',_,⟨o',e',c',_⟩,_⟩:=I.tuple h';rw[e]at e';cases e';rw[c]at c';exact absurd c' (by decide)
mutual
theorem FY(I:Inv X pins σ H s):∀(d e:Dv) (x:V),Rep X.K H d x->Rep X.K H e x->d=e
 | .non,e,x,h,h'=>by
  unfold Rep at h;subst h;cases e <;> unfold Rep at h' <;> first | rfl | (obtain⟨a,xs,q,_⟩:=h';cases q;done) | (cases h';done)
 | .bl b,e,x,h,h'=>by
  unfold Rep at h;subst h;cases e <;> unfold Rep at h' <;> first | (obtain⟨a,xs,q,_⟩:=h';cases q;done) | (cases h';rfl) | (cases h';done)
 | .int b,e,x,h,h'=>by
  unfold Rep at h;subst h;cases e <;> unfold Rep at h' <;> first | (obtain⟨a,xs,q,_⟩:=h';cases q;done) | (cases h';rfl) | (cases h';done)
 | .str b,e,x,h,h'=>by
  unfold Rep at h;subst h;cases e <;> unfold Rep at h' <;> first | (obtain⟨a,xs,q,_⟩:=h';cases q;done) | (cases h';rfl) | (cases h';done)
 | .tup ds,e,x,h,h'=>by
  unfold Rep at h;obtain⟨a,xs,rfl,hs,hr⟩:=h;cases e with
  | tup es =>
   unfold Rep at h';obtain⟨b,ys,q,hs',hr'⟩:=h';cases q;rw[I.tuple_inj hs' hs]at hr';rw[Hi I ds es xs hr hr']
  | lst es =>
   unfold Rep at h';obtain⟨b,ys,q,hs',hr'⟩:=h';cases q;exact(Ko I hs' hs).elim
  | _=>unfold Rep at h';cases h'
 | .lst ds,e,x,h,h'=>by
  unfold Rep at h;obtain⟨a,xs,rfl,hs,hr⟩:=h;cases e with
  | lst es =>
   unfold Rep at h';obtain⟨b,ys,q,hs',hr'⟩:=h';cases q;rw[I.list_inj hs' hs]at hr';rw[Hi I ds es xs hr hr']
  | tup es =>
   unfold Rep at h';obtain⟨b,ys,q,hs',hr'⟩:=h';cases q;exact(Ko I hs hs').elim
  | _=>unfold Rep at h';cases h'
theorem Hi(I:Inv X pins σ H s):∀(ds es:List Dv) (xs:List V),Reps X.K H ds xs->Reps X.K H es xs->ds=es
 | [],es,xs,h,h'=>by
  unfold Reps at h;subst h;cases es with
  | nil=>rfl
  | cons e es=>unfold Reps at h';obtain⟨x,r,q,_⟩:=h';cases q
 | d::ds,es,xs,h,h'=>by
  unfold Reps at h;obtain⟨x,r,rfl,h1,h2⟩:=h;cases es with
  | nil=>unfold Reps at h';cases h'
  | cons e es =>
   unfold Reps at h';obtain⟨y,r',q,h3,h4⟩:=h';cases q;rw[FY I d e _ h1 h3,Hi I ds es _ h2 h4]
end
abbrev Eq3(A:Around)(s:Shared)(u v:Value)(b:Bool):Prop:=SeqAt.EqAt A s u v b/\SeqAt.RcAt A s u v b/\SeqAt.RcNeAt A s u v (!b)
theorem QC {A:Around} {a b:Addr} {xs ys:List V} {ds es:List Dv} (I:Inv X pins σ H s) (hu:A.units < cLine) (ha:SqT X.K H a xs) (hb:SqT X.K H b ys) (hd:Reps X.K H ds xs) (he:Reps X.K H es ys)
 (ih:∀(i:Nat) (d e:Dv) (x y:V) (u v:Value),ds[i]? = some d->es[i]? = some e->xs[i]? = some x->ys[i]? = some y->RelV x u->RelV y v->SeqAt.EqAt A.in1 s u v (eqD d e)):Eq3 A s (.ref a) (.ref b) (eqD (.tup ds) (.tup es)):=by
 obtain⟨its,r1,p1,_⟩:=I.tuple ha;obtain⟨its2,r2,p2,_⟩:=I.tuple hb;have l1:=hd.length;have l2:=he.length;have l3:=r1.length;have l4:=r2.length
 have hitem:∀j (h1:j < its.toArray.size) (h2:j < its2.toArray.size),SeqAt.EqAt A.in1 s its.toArray[j] its2.toArray[j] (match ds[j]?,es[j]? with | some d,some e=>eqD d e | _,_=>false):=fun j h1 h2=>by
  rw[ZL]at h1 h2;have e1:ds[j]? = some ds[j]:=ZE (by lia);have e2:es[j]? = some es[j]:=ZE (by lia);have e3:xs[j]? = some xs[j]:=ZE (by lia);have e4:ys[j]? = some ys[j]:=ZE (by lia);obtain⟨u,q1,q2⟩:=r1.get e3;obtain⟨v,q3,q4⟩:=r2.get e4;rw[e1,e2];have z1:its.toArray[j]=u:=by rw[ZB8];rw[ZE h1]at q1;exact ZW q1
  have z2:its2.toArray[j]=v:=by rw[ZB8];rw[ZE h2]at q3;exact ZW q3
  rw[z1,z2];exact ih j _ _ _ _ _ _ e1 e2 e3 e4 q2 q4
 have val:((List.range (min its.toArray.size its2.toArray.size)).all (fun j=>match ds[j]?,es[j]? with | some d,some e=>eqD d e | _,_=>false) && its.toArray.size == its2.toArray.size)=eqD (.tup ds) (.tup es):=by
  rw[ZL,ZL,<- l3,<- l4,<- l1,<- l2,GO]
  by_cases h:ds.length=es.length
  ·rw[h,Nat.min_self,<- h,Ij ds es h];simp
  ·rw[Hz ds es h]
   have:(ds.length == es.length)=false:=by simpa using h
   rw[this,Bool.and_false]
 have R:=SeqAt.RcAt.tuples (A:=A) p1 p2 hu hitem;have N:=SeqAt.RcNeAt.tuples (A:=A) p1 p2 hu hitem;rw[val]at R N;refine⟨?_,R,N⟩
 by_cases hab:a=b
 ·subst hab
  have e:ds=es:=by
   have:=FY I (.tup ds) (.tup es) (.ref a) (by unfold Rep;exact⟨a,xs,rfl,ha,hd⟩) (by unfold Rep;exact⟨a,ys,rfl,hb,he⟩)
   cases this;rfl
  subst e;rw[Is];exact SeqAt.EqAt.same _
 ·exact .of_refs hab R
theorem Nw {A:Around} {a b:Addr} {xs ys:List V} {ds es:List Dv} (I:Inv X pins σ H s) (hu:A.units < cLine) (ha:SqL X.K H a xs) (hb:SqL X.K H b ys) (hd:Reps X.K H ds xs) (he:Reps X.K H es ys)
 (ih:∀(i:Nat) (d e:Dv) (x y:V) (u v:Value),ds[i]? = some d->es[i]? = some e->xs[i]? = some x->ys[i]? = some y->RelV x u->RelV y v->SeqAt.EqAt A.in1 s u v (eqD d e)):Eq3 A s (.ref a) (.ref b) (eqD (.lst ds) (.lst es)):=by
 obtain⟨its,r1,p1,_⟩:=I.list ha;obtain⟨its2,r2,p2,_⟩:=I.list hb;have l1:=hd.length;have l2:=he.length;have l3:=r1.length;have l4:=r2.length
 have hitem:∀j (h1:j < its.toArray.size) (h2:j < its2.toArray.size),SeqAt.EqAt A.in1 s its.toArray[j] its2.toArray[j] (match ds[j]?,es[j]? with | some d,some e=>eqD d e | _,_=>false):=fun j h1 h2=>by
  rw[ZL]at h1 h2;have e1:ds[j]? = some ds[j]:=ZE (by lia);have e2:es[j]? = some es[j]:=ZE (by lia);have e3:xs[j]? = some xs[j]:=ZE (by lia);have e4:ys[j]? = some ys[j]:=ZE (by lia);obtain⟨u,q1,q2⟩:=r1.get e3;obtain⟨v,q3,q4⟩:=r2.get e4;rw[e1,e2];have z1:its.toArray[j]=u:=by rw[ZB8];rw[ZE h1]at q1;exact ZW q1
  have z2:its2.toArray[j]=v:=by rw[ZB8];rw[ZE h2]at q3;exact ZW q3
  rw[z1,z2];exact ih j _ _ _ _ _ _ e1 e2 e3 e4 q2 q4
 have RN:SeqAt.RcAt A s (.ref a) (.ref b) (eqD (.lst ds) (.lst es))/\SeqAt.RcNeAt A s (.ref a) (.ref b) (!eqD (.lst ds) (.lst es)):=by
  by_cases h:ds.length=es.length
  ·have hsz:its.toArray.size=its2.toArray.size:=by rw[ZL,ZL];lia
   have val:(List.range its.toArray.size).all (fun j=>match ds[j]?,es[j]? with | some d,some e=>eqD d e | _,_=>false)=eqD (.lst ds) (.lst es):=by
    rw[EI,ZL,<- l3,<- l1,Ij ds es h]
   have R:=SeqAt.RcAt.lists (A:=A) p1.isList p2.isList hsz hu hitem;have N:=SeqAt.RcNeAt.lists (A:=A) p1.isList p2.isList hsz hu hitem;rw[val]at R N;exact⟨R,N⟩
  ·have hsz:(its.toArray.size != its2.toArray.size)=true:=by rw[ZL,ZL];simp;lia
   have val:eqD (.lst ds) (.lst es)=false:=by rw[EI];exact Hz ds es h
   rw[val];exact⟨SeqAt.RcAt.lists_lengths p1.isList p2.isList hsz hu,SeqAt.RcNeAt.lists_lengths p1.isList p2.isList hsz hu⟩
 refine⟨?_,RN.1,RN.2⟩
 by_cases hab:a=b
 ·subst hab
  have e:ds=es:=by
   have:=FY I (.lst ds) (.lst es) (.ref a) (by unfold Rep;exact⟨a,xs,rfl,ha,hd⟩) (by unfold Rep;exact⟨a,ys,rfl,hb,he⟩)
   cases this;rfl
  subst e;rw[Is];exact SeqAt.EqAt.same _
 ·exact .of_refs hab RN.1
theorem Fy(I:Inv X pins σ H s):∀(n:Nat) (A:Around) (d e:Dv) (x y:V) (u v:Value),An d<=n->A.units+n < cLine->Rep X.K H d x->Rep X.K H e y->RelV x u->RelV y v->Eq3 A s u v (eqD d e):=by
 intro n
 induction n with
 | zero =>
  intro A d e x y u v hd hu hx hy ru rv;have hu':A.units < cLine:=by lia
  cases d with
  | tup ds=>unfold An at hd;lia
  | lst ds=>unfold An at hd;lia
  | non =>
   unfold Rep at hx;subst hx;cases ru;cases e <;> unfold Rep at hy
   case non=>subst hy;cases rv;exact⟨SeqAt.EqAt.same _,SeqAt.RcAt.none_none,SeqAt.RcNeAt.none_none⟩
   case bl=>subst hy;cases rv;exact⟨.none_bool _,.none_bool _,.none_bool _⟩
   case int=>subst hy;obtain⟨t,rfl⟩:=rv;exact⟨.none_int _ _,.none_int _ _,.none_int _ _⟩
   case str=>subst hy;obtain⟨t,rfl⟩:=rv;exact⟨.none_str _ _,.none_str _ _,.none_str _ _⟩
   case tup=>obtain⟨a,xs,rfl,ha,_⟩:=hy;cases rv;obtain⟨its,_,p,_⟩:=I.tuple ha;exact⟨.none_tuple p hu',.none_tuple p hu',.none_tuple p hu'⟩
   case lst=>obtain⟨a,xs,rfl,ha,_⟩:=hy;cases rv;obtain⟨its,_,p,_⟩:=I.list ha;exact⟨.none_list p.isList hu',.none_list p.isList hu',.none_list p.isList hu'⟩
  | bl c =>
   unfold Rep at hx;subst hx;cases ru;cases e <;> unfold Rep at hy
   case non=>subst hy;cases rv;exact⟨.bool_none _,.bool_none _,.bool_none _⟩
   case bl=>subst hy;cases rv;unfold eqD;exact⟨.bool_bool _ _,.bool_bool _ _,.bool_bool _ _⟩
   case int=>subst hy;obtain⟨t,rfl⟩:=rv;unfold eqD;exact⟨.bool_int _ _ _,.bool_int _ _ _,.bool_int _ _ _⟩
   case str=>subst hy;obtain⟨t,rfl⟩:=rv;exact⟨.bool_str _ _ _,.bool_str _ _ _,.bool_str _ _ _⟩
   case tup=>obtain⟨a,xs,rfl,ha,_⟩:=hy;cases rv;obtain⟨its,_,p,_⟩:=I.tuple ha;exact⟨.bool_tuple _ p hu',.bool_tuple _ p hu',.bool_tuple _ p hu'⟩
   case lst=>obtain⟨a,xs,rfl,ha,_⟩:=hy;cases rv;obtain⟨its,_,p,_⟩:=I.list ha;exact⟨.bool_list _ p.isList hu',.bool_list _ p.isList hu',.bool_list _ p.isList hu'⟩
  | int c =>
   unfold Rep at hx;subst hx;obtain⟨t0,rfl⟩:=ru;cases e <;> unfold Rep at hy
   case non=>subst hy;cases rv;exact⟨.int_none _ _,.int_none _ _,.int_none _ _⟩
   case bl=>subst hy;cases rv;unfold eqD;exact⟨.int_bool _ _ _,.int_bool _ _ _,.int_bool _ _ _⟩
   case int=>subst hy;obtain⟨t,rfl⟩:=rv;unfold eqD;exact⟨.int_int _ _ _ _,.int_int _ _ _ _,.int_int _ _ _ _⟩
   case str=>subst hy;obtain⟨t,rfl⟩:=rv;exact⟨.int_str _ _ _ _,.int_str _ _ _ _,.int_str _ _ _ _⟩
   case tup=>obtain⟨a,xs,rfl,ha,_⟩:=hy;cases rv;obtain⟨its,_,p,_⟩:=I.tuple ha;exact⟨.int_tuple _ _ p hu',.int_tuple _ _ p hu',.int_tuple _ _ p hu'⟩
   case lst=>obtain⟨a,xs,rfl,ha,_⟩:=hy;cases rv;obtain⟨its,_,p,_⟩:=I.list ha;exact⟨.int_list _ _ p.isList hu',.int_list _ _ p.isList hu',.int_list _ _ p.isList hu'⟩
  | str c =>
   unfold Rep at hx;subst hx;obtain⟨t0,rfl⟩:=ru;cases e <;> unfold Rep at hy
   case non=>subst hy;cases rv;exact⟨.str_none _ _,.str_none _ _,.str_none _ _⟩
   case bl=>subst hy;cases rv;exact⟨.str_bool _ _ _,.str_bool _ _ _,.str_bool _ _ _⟩
   case int=>subst hy;obtain⟨t,rfl⟩:=rv;exact⟨.str_int _ _ _ _,.str_int _ _ _ _,.str_int _ _ _ _⟩
   case str=>subst hy;obtain⟨t,rfl⟩:=rv;unfold eqD;exact⟨.str_str _ _ _ _,.str_str _ _ _ _,.str_str _ _ _ _⟩
   case tup=>obtain⟨a,xs,rfl,ha,_⟩:=hy;cases rv;obtain⟨its,_,p,_⟩:=I.tuple ha;exact⟨.str_tuple _ _ p hu',.str_tuple _ _ p hu',.str_tuple _ _ p hu'⟩
   case lst=>obtain⟨a,xs,rfl,ha,_⟩:=hy;cases rv;obtain⟨its,_,p,_⟩:=I.list ha;exact⟨.str_list _ _ p.isList hu',.str_list _ _ p.isList hu',.str_list _ _ p.isList hu'⟩
 | succ n ih =>
  intro A d e x y u v hd hu hx hy ru rv;have hu':A.units < cLine:=by lia
  have hin:A.in1.units+n < cLine:=by show A.units+1+n < cLine;lia
  cases d with
  | tup ds =>
   unfold An at hd;unfold Rep at hx;obtain⟨a,xs,rfl,ha,hr⟩:=hx;cases ru;cases e <;> unfold Rep at hy
   case tup es =>
    obtain⟨b,ys,rfl,hb,hr'⟩:=hy;cases rv;refine QC I hu' ha hb hr hr' fun i d e x y u v e1 e2 e3 e4 ru rv=>?_
    obtain⟨x',q1,q2⟩:=hr.get e1;obtain⟨y',q3,q4⟩:=hr'.get e2;rw[e3]at q1;cases q1;rw[e4]at q3;cases q3;exact(ih A.in1 d e x y u v (by have:=J3 e1;lia) hin q2 q4 ru rv).1
   case non=>subst hy;cases rv;obtain⟨its,_,p,_⟩:=I.tuple ha;exact⟨.tuple_none p hu',.tuple_none p hu',.tuple_none p hu'⟩
   case bl=>subst hy;cases rv;obtain⟨its,_,p,_⟩:=I.tuple ha;exact⟨.tuple_bool _ p hu',.tuple_bool _ p hu',.tuple_bool _ p hu'⟩
   case int=>subst hy;obtain⟨t,rfl⟩:=rv;obtain⟨its,_,p,_⟩:=I.tuple ha;exact⟨.tuple_int _ _ p hu',.tuple_int _ _ p hu',.tuple_int _ _ p hu'⟩
   case str=>subst hy;obtain⟨t,rfl⟩:=rv;obtain⟨its,_,p,_⟩:=I.tuple ha;exact⟨.tuple_str _ _ p hu',.tuple_str _ _ p hu',.tuple_str _ _ p hu'⟩
   case lst=>obtain⟨b,ys,rfl,hb,_⟩:=hy;cases rv;obtain⟨its,_,p,_⟩:=I.tuple ha;obtain⟨its2,_,p2,_⟩:=I.list hb;exact⟨.tuple_list p p2.isList hu',.tuple_list p p2.isList hu',.tuple_list p p2.isList hu'⟩
  | lst ds =>
   unfold An at hd;unfold Rep at hx;obtain⟨a,xs,rfl,ha,hr⟩:=hx;cases ru;cases e <;> unfold Rep at hy
   case lst es =>
    obtain⟨b,ys,rfl,hb,hr'⟩:=hy;cases rv;refine Nw I hu' ha hb hr hr' fun i d e x y u v e1 e2 e3 e4 ru rv=>?_
    obtain⟨x',q1,q2⟩:=hr.get e1;obtain⟨y',q3,q4⟩:=hr'.get e2;rw[e3]at q1;cases q1;rw[e4]at q3;cases q3;exact(ih A.in1 d e x y u v (by have:=J3 e1;lia) hin q2 q4 ru rv).1
   case non=>subst hy;cases rv;obtain⟨its,_,p,_⟩:=I.list ha;exact⟨.list_none p.isList hu',.list_none p.isList hu',.list_none p.isList hu'⟩
   case bl=>subst hy;cases rv;obtain⟨its,_,p,_⟩:=I.list ha;exact⟨.list_bool _ p.isList hu',.list_bool _ p.isList hu',.list_bool _ p.isList hu'⟩
   case int=>subst hy;obtain⟨t,rfl⟩:=rv;obtain⟨its,_,p,_⟩:=I.list ha;exact⟨.list_int _ _ p.isList hu',.list_int _ _ p.isList hu',.list_int _ _ p.isList hu'⟩
   case str=>subst hy;obtain⟨t,rfl⟩:=rv;obtain⟨its,_,p,_⟩:=I.list ha;exact⟨.list_str _ _ p.isList hu',.list_str _ _ p.isList hu',.list_str _ _ p.isList hu'⟩
   case tup=>obtain⟨b,ys,rfl,hb,_⟩:=hy;cases rv;obtain⟨its,_,p,_⟩:=I.list ha;obtain⟨its2,_,p2,_⟩:=I.tuple hb;exact⟨.list_tuple p.isList p2 hu',.list_tuple p.isList p2 hu',.list_tuple p.isList p2 hu'⟩
  | non=>exact ih A .non e x y u v (by unfold An;lia) (by lia) hx hy ru rv
  | bl c=>exact ih A (.bl c) e x y u v (by unfold An;lia) (by lia) hx hy ru rv
  | int c=>exact ih A (.int c) e x y u v (by unfold An;lia) (by lia) hx hy ru rv
  | str c=>exact ih A (.str c) e x y u v (by unfold An;lia) (by lia) hx hy ru rv
end
section
variable {X:Cx}
def mEq(neg:Bool)(K:W.Frag):R2:=fun x y H Q=>match x,y with
 | .non,.non=>Q (.bl (neg ^^ true)) H
 | .bl a,.bl b=>Q (.bl (neg ^^ (a == b))) H
 | .int a,.int b=>Q (.bl (neg ^^ (a == b))) H
 | .str a,.str b=>Q (.bl (neg ^^ (a == b))) H
 | x,y=>∃d e,Rep K H d x/\Rep K H e y/\An d<=60/\Q (.bl (neg ^^ eqD d e)) H
theorem OR(hu:X.A.units+60 < cLine):OpR X (compareOp .Eq) (fun x y H Q=>∃d e,Rep X.K H d x/\Rep X.K H e y/\An d<=60/\Q (.bl (eqD d e)) H):=by
 intro pins s σ H x y v u Q I rx ry h;obtain⟨d,e,h1,h2,h3,q⟩:=h;exact(Fy I 60 X.A d e x y v u h3 hu h1 h2 rx ry).2.1 X.prog X.w _ _ ⟨.bl _,H,I,rfl,q⟩
theorem om_neAll(hu:X.A.units+60 < cLine):OpR X (compareOp .NotEq) (fun x y H Q=>∃d e,Rep X.K H d x/\Rep X.K H e y/\An d<=60/\Q (.bl (!eqD d e)) H):=by
 intro pins s σ H x y v u Q I rx ry h;obtain⟨d,e,h1,h2,h3,q⟩:=h;exact(Fy I 60 X.A d e x y v u h3 hu h1 h2 rx ry).2.2 X.prog X.w _ _ ⟨.bl _,H,I,rfl,q⟩
theorem Lb{neg:Bool}{K:W.Frag}{x y:V}{H:Hp}{Q:VK}(h:mEq neg K x y H Q):∃d e,Rep K H d x/\Rep K H e y/\An d<=60/\Q (.bl (neg ^^ eqD d e)) H:=by
 unfold mEq at h;split at h
 ·exact⟨.non,.non,by unfold Rep;rfl,by unfold Rep;rfl,by unfold An;lia,by unfold eqD;exact h⟩
 ·rename_i a b;exact⟨.bl a,.bl b,by unfold Rep;rfl,by unfold Rep;rfl,by unfold An;lia,by unfold eqD;exact h⟩
 ·rename_i a b;exact⟨.int a,.int b,by unfold Rep;rfl,by unfold Rep;rfl,by unfold An;lia,by unfold eqD;exact h⟩
 ·rename_i a b;exact⟨.str a,.str b,by unfold Rep;rfl,by unfold Rep;rfl,by unfold An;lia,by unfold eqD;exact h⟩
 ·exact h
theorem Rs(hu:X.A.units+60 < cLine):OpR X (compareOp .Eq) (mEq false X.K):=(OR hu).imp fun x y H Q h=>by
 obtain⟨d,e,h1,h2,h3,q⟩:=Lb h;exact⟨d,e,h1,h2,h3,by rw[ZBg]at q;exact q⟩
theorem Sl(hu:X.A.units+60 < cLine):OpR X (compareOp .NotEq) (mEq true X.K):=(om_neAll hu).imp fun x y H Q h=>by
 obtain⟨d,e,h1,h2,h3,q⟩:=Lb h;exact⟨d,e,h1,h2,h3,by rw[ZBy]at q;exact q⟩
end
section
variable {X:Cx}{a b c e:Expr}{es:List Expr}{ta tb tc te:TE}{tA tB':TT}{t:TA}{pos p:Pos}{x:Str}
def isB(v:V)(Q:Bool->Prop):Prop:=match v with
 | .bl c=>Q c
 | _=>False
theorem DO{v:V}{Q:Bool->Prop}(h:isB v Q):∃c,v=.bl c/\Q c:=by
 cases v <;> first | exact False.elim h | exact⟨_,rfl,h⟩
def AZ(t:TE):Prop:=∀σ H (Q Q':VK),(∀v H,Q v H->Q' v H)->t σ H Q->t σ H Q'
def uB(t:TE):TT:=fun σ H Q=>t σ H fun x H1=>isB x fun c=>Q c H1
theorem AX{op:CmpOp}{r:R2}(ho:OpR X (compareOp op) r)(ha:PE X a ta)(hb:PE X b tb)(hm:behindInMarks op b=false:=by first | exact JU _ (by decide) (by decide) | rfl):PT X (.Compare a [op] [b] pos) (uB (tOp r ta tb)):=by
 intro pins s σ H Q I h
 refine wpAny_isTrue_Compare1 (thn (ha pins s σ H _ I h) fun v s1 ⟨x,H1,I1,r1,q1⟩=>thn (hb pins s1 σ H1 _ I1 q1) fun u s2 ⟨y,H2,I2,r2,q2⟩ =>
  thn (ho pins s2 σ H2 x y v u _ I2 r1 r2 q2) fun c s3 ⟨z,H3,I3,r3,q⟩=>?_) hm
 obtain⟨k,e,q3⟩:=DO q;subst e;cases r3;exact ZBK ⟨H3,I3,q3⟩
theorem A8{op:CmpOp}{r:R2}(ho:OpR X (compareOp op) r)(ha:PE X a ta)(hb:PE X b tb)(hm:behindInMarks op b=false:=by first | exact JU _ (by decide) (by decide) | rfl):PE X (.Compare a [op] [b] pos) (tOp r ta tb):=TV ho ha hb hm
theorem A7(h:PE X e te)(he:∀whole,isTrue e X.env whole=(do let v <- whole;standAt e.pos;holding [v] (truthy v)):=by intro _;rfl):PT X e (uB te):=by
 intro pins s σ H Q I hq;refine isTrue_plain (thn (h pins s σ H _ I hq) fun v s1 ⟨x,H1,I1,r1,q1⟩=>?_) (he _);obtain⟨k,e,q⟩:=DO q1;subst e;cases r1;exact ZBK ⟨H1,I1,q⟩
def Sa(r r':R2)(ta tb tc:TE):TE:=fun σ H Q=>ta σ H fun x H1=>tb σ H1 fun y H2=>r x y H2 fun z H3=>isB z fun k =>
 (if k=true then tc σ H3 fun w' H4=>r' y w' H4 Q else Q (.bl false) H3)
theorem Uv {op op':CmpOp} {r r':R2} (ho:OpR X (compareOp op) r) (ho':OpR X (compareOp op') r') (ha:PE X a ta) (hb:PE X b tb) (hc:PE X c tc)
 (hm:lastMarks [op,op'] [b,c]=false:=by with_unfolding_all rfl):PE X (.Compare a [op,op'] [b,c] pos) (Sa r r' ta tb tc):=by
 intro pins s σ H Q I h
 refine Compare_chain (thn (ha pins s σ H _ I h) fun v s1 ⟨x,H1,I1,r1,q1⟩=>chain_link (thn (hb pins s1 σ H1 _ I1 q1) fun u s2 ⟨y,H2,I2,r2,q2⟩ =>
  thn (ho pins s2 σ H2 x y v u _ I2 r1 r2 q2) fun d s3 ⟨z,H3,I3,r3,q⟩=>?_)) hm
 obtain⟨k,e,q3⟩:=DO q;subst e;cases r3;refine ZBK ?_;cases k with
 | false=>exact ite_ff ⟨.bl false,H3,I3,rfl,q3⟩
 | true=>exact ite_tt (chain_last (thn (hc pins s3 σ H3 _ I3 q3) fun w' s4 ⟨z',H4,I4,r4,q4⟩=>ho' pins s4 σ H4 y z' u w' Q I4 r2 r4 q4))
def Op(ta tb:TE):TE:=fun σ H Q=>ta σ H fun x H1=>isB x fun c=>if c=true then tb σ H1 Q else Q (.bl false) H1
def vOr(ta tb:TE):TE:=fun σ H Q=>ta σ H fun x H1=>isB x fun c=>if c=true then Q (.bl true) H1 else tb σ H1 Q
def LX(ta:TE):TE:=fun σ H Q=>ta σ H fun x H1=>isB x fun c=>Q (.bl (!c)) H1
theorem Cn(ha:PE X a ta)(hb:PE X (.BoolOp .And (b::es) pos) tb):PE X (.BoolOp .And (a::b::es) pos) (Op ta tb):=by
 have ha':PE X a (fun σ H Q=>ta σ H fun x H1=>isB x fun c=>Q (.bl c) H1):=fun pins s σ H Q I h=>thn (ha pins s σ H _ I h) fun v s1 ⟨x,H1,I1,r1,q1⟩=>by
  obtain⟨c,e,q⟩:=DO q1;subst e;exact⟨.bl c,H1,I1,r1,q⟩
 have h:=RX (pos:=pos) ha' hb
 exact h.imp fun σ H Q q=>by
  show ta σ H fun x H1=>isB x fun c=>∃c',V.bl c=.bl c'/\if c'=true then tb σ H1 Q else Q (.bl false) H1
  have e:(fun(x:V) (H1:Hp)=>isB x fun c=>∃c',V.bl c=.bl c'/\if c'=true then tb σ H1 Q else Q (.bl false) H1)=fun x H1=>isB x fun c=>if c=true then tb σ H1 Q else Q (.bl false) H1:=by
   funext x H1
   cases x <;> first | rfl | (apply propext;constructor;(rintro⟨c',e,h⟩;cases e;exact h);(intro h;exact⟨_,rfl,h⟩))
  rw[e];exact q
theorem JN(ha:PE X a ta)(hb:PE X (.BoolOp .Or (b::es) pos) tb):PE X (.BoolOp .Or (a::b::es) pos) (vOr ta tb):=by
 have ha':PE X a (fun σ H Q=>ta σ H fun x H1=>isB x fun c=>Q (.bl c) H1):=fun pins s σ H Q I h=>thn (ha pins s σ H _ I h) fun v s1 ⟨x,H1,I1,r1,q1⟩=>by
  obtain⟨c,e,q⟩:=DO q1;subst e;exact⟨.bl c,H1,I1,r1,q⟩
 have h:=Oo (pos:=pos) ha' hb
 exact h.imp fun σ H Q q=>by
  show ta σ H fun x H1=>isB x fun c=>∃c',V.bl c=.bl c'/\if c'=true then Q (.bl true) H1 else tb σ H1 Q
  have e:(fun(x:V) (H1:Hp)=>isB x fun c=>∃c',V.bl c=.bl c'/\if c'=true then Q (.bl true) H1 else tb σ H1 Q)=fun x H1=>isB x fun c=>if c=true then Q (.bl true) H1 else tb σ H1 Q:=by
   funext x H1
   cases x <;> first | rfl | (apply propext;constructor;(rintro⟨c',e,h⟩;cases e;exact h);(intro h;exact⟨_,rfl,h⟩))
  rw[e];exact q
theorem Er(ha:PE X a ta):PE X (.UnaryOp .Not a pos) (LX ta):=by
 have ha':PE X a (fun σ H Q=>ta σ H fun x H1=>isB x fun c=>Q (.bl c) H1):=fun pins s σ H Q I h=>thn (ha pins s σ H _ I h) fun v s1 ⟨x,H1,I1,r1,q1⟩=>by
  obtain⟨c,e,q⟩:=DO q1;subst e;exact⟨.bl c,H1,I1,r1,q⟩
 have h:=Tk (pos:=pos) ha'
 exact h.imp fun σ H Q q=>by
  show ta σ H fun x H1=>isB x fun c=>∃c',V.bl c=.bl c'/\Q (.bl (!c')) H1
  have e:(fun(x:V) (H1:Hp)=>isB x fun c=>∃c',V.bl c=.bl c'/\Q (.bl (!c')) H1)=fun x H1=>isB x fun c=>Q (.bl (!c)) H1:=by
   funext x H1
   cases x <;> first | rfl | (apply propext;constructor;(rintro⟨c',e,h⟩;cases e;exact h);(intro h;exact⟨_,rfl,h⟩))
  rw[e];exact q
def SqA(K:W.Frag)(H:Hp)(p:Addr)(xs:List V):Prop:=SqL K H p xs\/SqT K H p xs
def mIx(K:W.Frag):R2:=fun x y H Q=>match x,y with
 | .ref p,.int i=>∃xs v,SqA K H p xs/\atI xs i=some v/\Q v H
 | .str z,.int i=>∃c,z.length<=sizeLine/\atI z.cps.toList i=some c/\Q (.str ⟨#[c]⟩) H
 | _,_=>False
theorem IxR.imp{r r':R2}(h:IxR X r)(g:∀x y H Q,r' x y H Q->r x y H Q):IxR X r':=fun a b pins s σ H x y v u Q I rx ry q z=>h a b pins s σ H x y v u Q I rx ry (g _ _ _ _ q) z
theorem Rg:IxR X (mIx X.K):=ix_seq.imp fun x y H Q q=>by
 cases x <;> cases y <;> first
  | exact False.elim q
  | (obtain⟨xs,v,h | h,e,q⟩:=q
     ·exact .inl ⟨_,xs,_,v,rfl,rfl,h,e,q⟩
     ·exact .inr (.inl ⟨_,xs,_,v,rfl,rfl,h,e,q⟩))
  | (obtain⟨c,hz,e,q⟩:=q
     exact .inr (.inr ⟨_,_,c,rfl,rfl,hz,e,q⟩))
theorem Um(ha:PE X a ta)(hb:PE X b tb)(hs:GA b:=by intro _ _;rfl):PE X (.Subscript a b pos) (tOp (mIx X.K) ta tb):=Tn Rg ha hb hs
def Fb(K:W.Frag):List V->Hp->VK->Prop:=fun xs H Q=>match xs with
 | [x]=>∃n,Lf K x H n/\Q (.int n) H
 | _=>False
theorem Nm:CallR X (.builtin "len") (Fb X.K):=call_len.imp fun xs H Q q=>by
 match xs,q with
 | [x],⟨n,h,q⟩=>exact⟨x,n,rfl,h,q⟩
def IR:List V->Hp->VK->Prop:=fun xs H Q=>match xs with
 | [.int i,.int j]=>Q (.int (max i j)) H
 | _=>False
theorem L0(hc:X.calm=true):CallR X (.builtin "max") IR:=(SC hc).imp fun xs H Q q=>by
 match xs,q with
 | [.int i,.int j],q =>
  refine⟨i,j,rfl,?_⟩;have e:(if j > i then j else i)=max i j:=by split <;> lia
  rw[e];exact q
def HL:List V->Hp->VK->Prop:=fun xs H Q=>match xs with
 | [.int i,.int j]=>Q (.int (min i j)) H
 | _=>False
theorem Nt(hc:X.calm=true):CallR X (.builtin "min") HL:=(QM hc).imp fun xs H Q q=>by
 match xs,q with
 | [.int i,.int j],q =>
  refine⟨i,j,rfl,?_⟩;have e:(if j < i then j else i)=min i j:=by split <;> lia
  rw[e];exact q
def IB:List V->Hp->VK->Prop:=fun xs H Q=>match xs with
 | [.int i]=>Q (.int i) H
 | [.bl k]=>Q (.int (if k then 1 else 0)) H
 | _=>False
theorem DE:CallR X (.type "int") IB:=call_int1.imp fun xs H Q q=>by
 match xs,q with
 | [.int i],q=>exact .inl ⟨i,rfl,q⟩
 | [.bl k],q=>exact .inr ⟨k,rfl,q⟩
def FK(K:W.Frag):List V->Hp->VK->Prop:=fun xs H Q=>match xs with
 | [.ref p]=>∃ys,(SqL K H p ys/\∀l,H l=none->Q (.ref l) (upd H l (.tup ys)))\/(SqT K H p ys/\Q (.ref p) H)
 | _=>False
theorem Uq:CallR X (.type "tuple") (FK X.K):=call_tuple_of.imp fun xs H Q q=>by
 match xs,q with
 | [.ref p],⟨ys,q⟩=>exact⟨p,ys,rfl,q⟩
def MX(K:W.Frag):List V->Hp->VK->Prop:=fun xs H Q=>match xs with
 | [.ref p]=>∃ys,SqA K H p ys/\∀l,H l=none->Q (.ref l) (upd H l (.lst ys))
 | _=>False
theorem TB:CallR X (.type "list") (MX X.K):=call_list_of.imp fun xs H Q q=>by
 match xs,q with
 | [.ref p],⟨ys,h,q⟩=>exact⟨p,ys,rfl,h,q⟩
def Jb(K:W.Frag)(T:String)(x:V)(H:Hp)(b:Bool):Prop:=match x with
 | .non=>b=(T == "NoneType")
 | .bl _=>b=(T == "bool" || T == "int")
 | .int _=>b=(T == "int")
 | .str _=>b=(T == "str")
 | .ref a=>(∃xs,(H a=some (.lst xs)\/∃o,H a=some (.frz o (.lst xs)))/\b=(T == "list"))\/(∃xs,H a=some (.tup xs)/\b=(T == "tuple"))\/((∃kvs,H a=some (.dK kvs))/\b=(T == "dict"))\/((∃kvs,H a=some (.dT kvs))/\b=(T == "dict"))
 | _=>False
def kinds:List String:=["int","bool","str","tuple","list","dict"]
theorem Tm(K:W.Frag):∀T∈kinds,PySem.W.kitOne K (.type "NoneType") (.type T)=some (T == "NoneType")/\PySem.W.kitOne K (.type "bool") (.type T)=some (T == "bool" || T == "int") /\
 PySem.W.kitOne K (.type "int") (.type T)=some (T == "int")/\PySem.W.kitOne K (.type "str") (.type T)=some (T == "str")/\PySem.W.kitOne K (.type "list") (.type T)=some (T == "list") /\
 PySem.W.kitOne K (.type "tuple") (.type T)=some (T == "tuple")/\PySem.W.kitOne K (.type "dict") (.type T)=some (T == "dict"):=by
 intro T h;unfold kinds at h
 rcases ZF.mp h with rfl | h
 ·exact⟨rfl,rfl,rfl,rfl,rfl,rfl,rfl⟩
 rcases ZF.mp h with rfl | h
 ·exact⟨rfl,rfl,rfl,rfl,rfl,rfl,rfl⟩
 rcases ZF.mp h with rfl | h
 ·exact⟨rfl,rfl,rfl,rfl,rfl,rfl,rfl⟩
 rcases ZF.mp h with rfl | h
 ·exact⟨rfl,rfl,rfl,rfl,rfl,rfl,rfl⟩
 rcases ZF.mp h with rfl | h
 ·exact⟨rfl,rfl,rfl,rfl,rfl,rfl,rfl⟩
 rcases ZF.mp h with rfl | h
 ·exact⟨rfl,rfl,rfl,rfl,rfl,rfl,rfl⟩
 ·exact absurd h (by simp)
theorem Oe{K:W.Frag}{T:String}{v:V}{H:Hp}{k:Bool}(hT:T∈kinds)(h:Jb K T v H k):∃ty,TyOf K H v ty/\PySem.W.kitOne K ty (.type T)=some k:=by
 obtain⟨k1,k2,k3,k4,k5,k6,k7⟩:=Tm K T hT;cases v with
 | non=>cases (show k=_ from h);exact⟨_,.non,k1⟩
 | bl _=>cases (show k=_ from h);exact⟨_,.bl _,k2⟩
 | int _=>cases (show k=_ from h);exact⟨_,.int _,k3⟩
 | str _=>cases (show k=_ from h);exact⟨_,.str _,k4⟩
 | ref q =>
  rcases h with ⟨xs,h | ⟨o,h⟩,e⟩ | ⟨xs,h,e⟩ | ⟨⟨kvs,h⟩,e⟩ | ⟨⟨kvs,h⟩,e⟩
  ·subst e;exact⟨_,.lst h,k5⟩
  ·subst e;exact⟨_,.frz h,k5⟩
  ·subst e;exact⟨_,.tup h,k6⟩
  ·subst e;exact⟨_,.dK h,k7⟩
  ·subst e;exact⟨_,.dT h,k7⟩
 | _=>exact False.elim h
def Px(K:W.Frag):List V->Hp->VK->Prop:=fun xs H Q=>match xs with
 | [x,.ty T]=>T∈kinds/\∃k,Jb K T x H k/\Q (.bl k) H
 | _=>False
theorem Gr:CallR X (.builtin "isinstance") (Px X.K):=by
 intro pins s σ H xs us Q I r q
 match xs,q with
 | [x,.ty T],q =>
  obtain⟨hT,k,h,q⟩:=q;obtain⟨u,w',rfl,ru,rw'⟩:=C1 r;cases rw';obtain⟨ty,h1,h2⟩:=Oe hT h;exact Tj I ru h1 h2 fun tk=>⟨.bl k,H,I.tok _,rfl,q⟩
end
def Fh(scope sc:Scope):Bool :=
 decide (scope.kind=.function) && decide (scope.names.map (·.1)).Nodup && scope.names.all fun y=>!(y.2 == .free) || (sc.names.lookup y.1 == some .cell || sc.names.lookup y.1 == some .free)
theorem CompScope.of{scope sc:Scope}(h:Fh scope sc=true):CompScope scope sc:=by
 unfold Fh at h;rw[Ze,Ze]at h;obtain⟨⟨h1,h2⟩,h3⟩:=h;refine⟨ZN h1,ZN h2,fun y hy hf=>?_⟩
 have:=ZBC.mp h3 y hy
 rw[hf]at this
 rcases(Bool.or_eq_true _ _).mp this with z | z
 ·exact absurd z (by decide)
 ·rcases(Bool.or_eq_true _ _).mp z with z | z
  ·exact .inl (by simpa using z)
  ·exact .inr (by simpa using z)
section
variable {X:Cx}{tg iter elt:Expr}{ifs:List Expr}{scope:Scope}{pos:Pos}{N':List Str}{own:Nat}{ix:List Nat}{g:TG}{tc:TT}{te:TE}{wi:TI}
theorem frB{l:List Str}(h:(l.all fun x=>scope.names.lookup x == some .free)=true):∀x∈l,scope.names.lookup x=some .free:=fun x hx=>by
 have:=ZBC.mp h x hx
 simpa using this
theorem Ay (hc:X.calm=true) (hi:PI X tg iter wi) (S:Fh scope X.env.scope=true)
 (hlen:N'.length=own+ix.length) (hN:(N'.drop own).map some=ix.map (X.N[·]?)) (hfr:((N'.drop own).all fun x=>scope.names.lookup x == some .free)=true)
 (hg:∀c,PG (X.comp scope N' c) tg g) (hgo:Cs own g) (ht:∀c,PTs (X.comp scope N' c) ifs tc) (he:∀c,PE (X.comp scope N' c) elt te)
 (hs:∀x,foldedSetIterable iter X.env x=pure x:=by intro _;rfl):PE X (.ListComp elt [⟨tg,iter,ifs,0⟩] scope pos) (D9 wi own ix g tc te) :=
 Rx hc hi (.of S) hlen hN (frB hfr) hg hgo ht he hs
theorem DC {i:Nat} {y:Str} {py spos:Pos} (hc:X.calm=true) (hnd:X.N.Nodup) (hiy:X.N[i]? = some y) (hy:X.env.scope.names.lookup y=some .local) (hi:PI X tg iter wi) (S:Fh scope X.env.scope=true)
 (hlen:N'.length=own+ix.length) (hN:(N'.drop own).map some=ix.map (X.N[·]?)) (hfr:((N'.drop own).all fun x=>scope.names.lookup x == some .free)=true)
 (hg:∀c,PG (X.comp scope N' c) tg g) (hgo:Cs own g) (ht:∀c,PTs (X.comp scope N' c) ifs tc) (he:∀c,PE (X.comp scope N' c) elt te)
 (hsw:swapsWith (.ListComp elt [⟨tg,iter,ifs,0⟩] scope pos) (some (.Name y py)) spos.line X.env=pure true)
 (hs:∀x,foldedSetIterable iter X.env x=pure x:=by intro _;rfl):PS X (.Assign [.Name y py] (.ListComp elt [⟨tg,iter,ifs,0⟩] scope pos) spos) (Dr (D9 wi own ix g tc te) (Ae i)) :=
 Uw hc hnd hiy hy hi (.of S) hlen hN (frB hfr) hg hgo ht he hsw hs
def Ix(K:W.Frag)(tl:TE):TI:=fun σ H R=>tl σ H fun x H1=>match x with
 | .ref a=>((∃xs,SqL K H1 a xs)/\R (Itl K a) H1)\/((∃xs,SqT K H1 a xs)/\R (Itt K a) H1)
 | _=>False
theorem Oy{l:Expr}{tl:TE}(hl:PE X l tl):PI X tg l (Ix X.K tl):=by
 intro pins s σ H R I h;refine thn (hl pins s σ H _ I h) fun v s1 ⟨x,H1,I1,r1,q1⟩=>?_
 cases x with
 | ref a =>
  cases r1
  rcases q1 with ⟨⟨xs,hq⟩,q⟩ | ⟨⟨xs,hq⟩,q⟩
  ·obtain⟨its,rv,p,hz⟩:=I1.list hq;refine wpAny_pyIter_list p.isList ?_;refine⟨s1.heap.objs.size,[s1.heap.objs.size],_,_,H1,rfl,I1.kept (t':=s1.toks) fun b o e=>ZJ _ e,UN a _,⟨_,ZR _ rfl,rfl,rfl⟩,fun b hb=>?_,q⟩;have e:b=s1.heap.objs.size:=by simpa using hb
   subst e;exact I1.fpOk (ZD _) (I1.hok.fresh (ZD _))
  ·obtain⟨its,rv,p,hz⟩:=I1.tuple hq;refine wpAny_pyIter_tuple (show s1.heap.IsTuple a its.toArray from p) ?_;refine⟨s1.heap.objs.size,[s1.heap.objs.size],_,_,H1,rfl,I1.kept (t':=s1.toks) fun b o e=>ZJ _ e,SO a _,⟨_,ZR _ rfl,rfl,rfl⟩,fun b hb=>?_,q⟩;have e:b=s1.heap.objs.size:=by simpa using hb
   subst e;exact I1.fpOk (ZD _) (I1.hok.fresh (ZD _))
 | _=>exact False.elim q1
def IW:D2:=fun o i v H Q=>match o,i with
 | .ref p,.int k=>∃xs j,H p=some (.lst xs)/\ixN xs.length k=some j/\Q (upd H p (.lst (xs.set j v)))
 | _,_=>False
theorem Dp:G3 X IW:=by
 intro pins s σ H o i v ov iv u Q I ro ri rv h
 cases o <;> cases i <;> first
  | exact False.elim h
  | (obtain⟨xs,j,h1,h2,q⟩:=h
     exact UB pins s σ H _ _ v ov iv u Q I ro ri rv ⟨_,xs,_,j,rfl,rfl,h1,h2,q⟩)
theorem EZ {K:W.Frag} {a:Addr} {xs:List V} {σc:St} {Q:VK} {H:Hp} (Pv:Nat->List V->Hp->Prop) (h0:Pv 0 [] H) (hl:∀i ys H,i<=xs.length->Pv i ys H->SqL K H a xs) (hz:∀i ys H,i < xs.length->Pv i ys H->ys.length < sizeLine)
 (hs:∀i x ys H,xs[i]? = some x->Pv i ys H->g x σc H fun σ2 H2=>tc σ2 H2 fun b H3=>if b=true then te σ2 H3 fun y H4=>Pv (i+1) (ys++[y]) H4 else Pv (i+1) ys H3)
 (hd:∀ys H,Pv xs.length ys H->∀p,H p=none->Q (.ref p) (upd H p (.lst ys))):C3 (Itl K a) g tc te σc Q H:=by
 refine⟨fun i m ys H=>m=xs.length - i/\i<=xs.length/\Pv i ys H,⟨xs.length,by simp,ZU _,h0⟩,?_⟩;rintro i m ys H ⟨rfl,hi,p⟩;have q:=hl i ys H hi p
 by_cases hlt:i < xs.length
 ·refine .inr ⟨⟨xs,xs[i],q,by simp[hlt]⟩,hz i ys H hlt p,Pv (i+1),fun ys' H' p'=>⟨xs.length - (i+1),by lia,rfl,hlt,p'⟩,fun x H' y=>?_⟩;obtain⟨e,y⟩:=y;subst e;exact hs i x ys _ (y xs q) p
 ·have e:i=xs.length:=by lia
  subst e;exact .inl ⟨⟨xs,q,ZD _⟩,hd ys H p⟩
theorem Bk {K:W.Frag} {a:Addr} {xs:List V} {σc:St} {Q:VK} {H:Hp} (Pv:Nat->List V->Hp->Prop) (h0:Pv 0 [] H) (hl:∀i ys H,i<=xs.length->Pv i ys H->SqT K H a xs) (hz:∀i ys H,i < xs.length->Pv i ys H->ys.length < sizeLine)
 (hs:∀i x ys H,xs[i]? = some x->Pv i ys H->g x σc H fun σ2 H2=>tc σ2 H2 fun b H3=>if b=true then te σ2 H3 fun y H4=>Pv (i+1) (ys++[y]) H4 else Pv (i+1) ys H3)
 (hd:∀ys H,Pv xs.length ys H->∀p,H p=none->Q (.ref p) (upd H p (.lst ys))):C3 (Itt K a) g tc te σc Q H:=by
 refine⟨fun i m ys H=>m=xs.length - i/\i<=xs.length/\Pv i ys H,⟨xs.length,by simp,ZU _,h0⟩,?_⟩;rintro i m ys H ⟨rfl,hi,p⟩;have q:=hl i ys H hi p
 by_cases hlt:i < xs.length
 ·refine .inr ⟨⟨xs,xs[i],q,by simp[hlt]⟩,hz i ys H hlt p,Pv (i+1),fun ys' H' p'=>⟨xs.length - (i+1),by lia,rfl,hlt,p'⟩,fun x H' y=>?_⟩;obtain⟨e,y⟩:=y;subst e;exact hs i x ys _ (y xs q) p
 ·have e:i=xs.length:=by lia
  subst e;exact .inl ⟨⟨xs,q,ZD _⟩,hd ys H p⟩
theorem Bj {lo:Int} {n:Nat} {σc:St} {Q:VK} {H:Hp} (Pv:Nat->List V->Hp->Prop) (h0:Pv 0 [] H) (hz:∀i ys H,i < n->Pv i ys H->ys.length < sizeLine)
 (hs:∀i ys H,i < n->Pv i ys H->g (.int (lo+i)) σc H fun σ2 H2=>tc σ2 H2 fun b H3=>if b=true then te σ2 H3 fun y H4=>Pv (i+1) (ys++[y]) H4 else Pv (i+1) ys H3)
 (hd:∀ys H,Pv n ys H->∀p,H p=none->Q (.ref p) (upd H p (.lst ys))):C3 (Itr lo n) g tc te σc Q H:=by
 refine⟨fun i m ys H=>m=n - i/\i<=n/\Pv i ys H,⟨n,by simp,ZU _,h0⟩,?_⟩;rintro i m ys H ⟨rfl,hi,p⟩
 by_cases hlt:i < n
 ·refine .inr ⟨hlt,hz i ys H hlt p,Pv (i+1),fun ys' H' p'=>⟨n - (i+1),by lia,rfl,hlt,p'⟩,fun x H' y=>?_⟩;obtain⟨e,y⟩:=y;subst e y;exact hs i ys _ hlt p
 ·have e:i=n:=by lia
  subst e;exact .inl ⟨ZD _,hd ys H p⟩
def MN(c:TT)(tb:TS):TS:=fun D σ H=>∃W:Nat->St->Hp->Prop,(∃m,W m σ H)/\∀m σ H,W m σ H ->
 c σ H fun b H1=>if b=true then tb { D with nx:=fun σ' H'=>∃m',m' < m/\W m' σ' H',ct:=fun σ' H'=>∃m',m' < m/\W m' σ' H',bk:=D.nx } σ H1 else D.nx σ H1
theorem GI{c:Expr}{body:List Stmt}{tc:TT}{tb:TS}(hp:PassesOwn (model X.prog X.w) X.A X.env X.xe)(hc:PT X c tc)(hb:PSs X body tb):PS X (.While c body [] pos) (MN tc tb):=by
 intro pins s σ H D I h;obtain⟨W,⟨m0,w0⟩,turn⟩:=h;refine wpAny_While (codeAny_whileLoop (fun n s'=>∃σ' H',Inv X pins σ' H' s'/\W n σ' H') ?_ m0 ⟨σ,H,I,w0⟩);rintro n s1 ⟨σ1,H1,I1,w1⟩;refine wpAny_passesOwn hp (thn (hc pins s1 σ1 H1 _ I1 (turn n σ1 H1 w1)) fun b s2 ⟨H2,I2,q2⟩=>?_);cases b with
 | true =>
  rw[if_pos rfl]at q2;rw[if_pos rfl];refine wpAny_passesOwn hp (thn (hb pins s2 σ1 H2 _ I2 q2) fun f s3 q3=>?_);cases f with
  | next =>
   obtain⟨σ3,H3,I3,m',hm,w3⟩:=q3;exact⟨m',hm,σ3,H3,I3,w3⟩
  | cont =>
   obtain⟨σ3,H3,I3,m',hm,w3⟩:=q3;exact⟨m',hm,σ3,H3,I3,w3⟩
  | brk=>exact q3
  | ret v=>exact q3
 | false =>
  rw[if_neg Zq]at q2;rw[if_neg Zq];exact wpAny_execs_nil ⟨σ1,H2,I2,q2⟩
end
theorem Ag{A:Around}{k:Nat}(hr:Room k A):A.units+60 < cLine:=by have:=hr.un;lia
def Frm(t:Addr)(H H':Hp):Prop:=∀b o,b≠t->H b=some o->H' b=some o
theorem Frm.refl{t:Addr}{H:Hp}:Frm t H H:=fun _ _ _ h=>h
theorem Frm.trans{t:Addr}{H H1 H2:Hp}(a:Frm t H H1)(b:Frm t H1 H2):Frm t H H2:=fun c o n h=>b c o n (a c o n h)
theorem Frm.upd{t p:Addr}{H:Hp}{o:HO}(h:H p=none):Frm t H (upd H p o):=fun b u _ e=>by rw[AM (CI e h)];exact e
theorem Frm.updT{t:Addr}{H:Hp}{o:HO}:Frm t H (L2.upd H t o):=fun b u n e=>by rw[AM n];exact e
theorem Same.upd{p:Addr}{H:Hp}{o:HO}(h:H p=none):Same H (L2.upd H p o):=fun b u e=>by rw[AM (CI e h)];exact e
theorem Same.frm{t:Addr}{H H':Hp}(h:Same H H'):Frm t H H':=fun b o _ e=>h b o e
theorem K8{K:W.Frag}{H H':Hp}{a:Addr}{xs:List V}(h:SqL K H a xs)(k:∀o,H a=some o->H' a=some o):SqL K H' a xs:=by
 rcases h with (h | ⟨o,h⟩) | h
 ·exact .inl (.inl (k _ h))
 ·exact .inl (.inr ⟨o,k _ h⟩)
 ·exact .inr h
theorem Gz{K:W.Frag}{H H':Hp}{a:Addr}{xs:List V}(h:SqT K H a xs)(k:∀o,H a=some o->H' a=some o):SqT K H' a xs:=by
 rcases h with (h | ⟨o,h⟩) | h
 ·exact .inl (.inl (k _ h))
 ·exact .inl (.inr ⟨o,k _ h⟩)
 ·exact .inr h
def Sk(K:W.Frag)(H:Hp)(t a:Addr)(ns:List Int):Prop :=
 (Rd H a (.lst (ns.map V.int))/\a≠t)\/∃(o:Obj) (its:Array Value) (n:Nat),K.lookup a=some o/\o.cls=.type "list" /\ o.dict=none/\o.data=.seq its n/\its.size<=sizeLine/\Vals (ns.map V.int) its.toList
structure Tape(K:W.Frag)(H:Hp)(t a:Addr)(ns:List Int):Prop where
 at_:∃i r c:Int,0<=i/\0<=r/\H t=some (.lst [.ref a,.int i,.int r,.int c])
 scr:Sk K H t a ns
theorem Tape.free{K:W.Frag}{H H':Hp}{t a p:Addr}{ns:List Int}(T:Tape K H' t a ns)(h:Frm t H H')(hp:H' p=none):H p=none:=by
 cases e:H p with
 | none=>rfl
 | some o =>
  by_cases hpt:p=t
  ·subst hpt;obtain⟨i,r,c,_,_,h3⟩:=T.at_;rw[h3]at hp;cases hp
  ·rw[h p o hpt e]at hp;cases hp
def Et(K:W.Frag):Sp:=fun vs H Q _=>∃(a:Addr) (ns:List Int),vs=[.ref a]/\SqL K H a (ns.map V.int)/\ns.length<=63/\∀H',Q (.bl true) H'
theorem Aq{xs:List V}{i:Int}{n:Nat}{v:V}(h:i=(n:Int))(hx:xs[n]? = some v):atI xs i=some v:=by
 subst h;have hn:n < xs.length:=(Zb.mp hx).1;unfold atI ixN;rw[if_pos (ZB7 n),if_pos (by lia)];simpa using hx
theorem Pr{ns:List Int}{i:Int}(h0:0<=i)(h1:i < ns.length):∃z,atI (ns.map V.int) i=some (.int z):=by
 obtain⟨n,rfl⟩:=ZBO h0;have hn:n < ns.length:=by lia
 exact⟨ns[n],Aq rfl (by rw[ZX,ZE hn];rfl)⟩
theorem Ad{j:Int}(h1:0 < j)(h2:j<=2 ^ 1000):okDiv j:=⟨h1,ZBP h2 (by decide)⟩
theorem B7{n:Nat}(h:n<=1000):n<=sizeLine:=Zp (Ak h)
theorem smq{n:Nat}(h:Nat.ble n 1000=true):n<=sizeLine:=B7 (Nat.le_of_ble_eq_true h)
def B4(t:TT):Prop:=∀σ H (Q Q':Bool->Hp->Prop),(∀b H,Q b H->Q' b H)->t σ H Q->t σ H Q'
def CG(t:TA):Prop:=∀σ H (Q Q':List V->Hp->Prop),(∀b H,Q b H->Q' b H)->t σ H Q->t σ H Q'
def BR(r:R2):Prop:=∀x y H (Q Q':VK),(∀v H,Q v H->Q' v H)->r x y H Q->r x y H Q'
def J7(r:V->Hp->VK->Prop):Prop:=∀x H (Q Q':VK),(∀v H,Q v H->Q' v H)->r x H Q->r x H Q'
def Bb(r:List V->Hp->VK->Prop):Prop:=∀xs H (Q Q':VK),(∀v H,Q v H->Q' v H)->r xs H Q->r xs H Q'
def EO(r:V->List V->Hp->VK->Prop):Prop:=∀x xs H (Q Q':VK),(∀v H,Q v H->Q' v H)->r x xs H Q->r x xs H Q'
def AQ(sp:Sp):Prop:=∀vs H (Q Q':VK) E,(∀v H,Q v H->Q' v H)->sp vs H Q E->sp vs H Q' E
def Ds(t:TI):Prop:=∀σ H (Q Q':It->Hp->Prop),(∀J H,Q J H->Q' J H)->t σ H Q->t σ H Q'
def Lk(t:D2):Prop:=∀o i v H (Q Q':Hp->Prop),(∀H,Q H->Q' H)->t o i v H Q->t o i v H Q'
structure Ends.le(D D':Ends):Prop where
 nx:∀σ H,D.nx σ H->D'.nx σ H
 rt:∀v H,D.rt v H->D'.rt v H
 bk:∀σ H,D.bk σ H->D'.bk σ H
 ct:∀σ H,D.ct σ H->D'.ct σ H
def BW(t:TS):Prop:=∀D D' σ H,Ends.le D D'->t D σ H->t D' σ H
theorem T8{i:Nat}:AZ (EG i):=fun σ H Q Q' h q=>by
 unfold EG at *;split at q
 ·exact h _ _ q
 ·exact q.elim
theorem Uc{v:V}:AZ (tC v):=fun _ _ _ _ h q=>h _ _ q
theorem RS{r:R2}{ta tb:TE}(hr:BR r)(ha:AZ ta)(hb:AZ tb):AZ (tOp r ta tb):=fun σ H Q Q' h q=>ha _ _ _ _ (fun _ _ q=>hb _ _ _ _ (fun _ _ q=>hr _ _ _ _ _ h q) q) q
theorem Pw{r:V->Hp->VK->Prop}{ta:TE}(hr:J7 r)(ha:AZ ta):AZ (tUn r ta):=fun σ H Q Q' h q=>ha _ _ _ _ (fun _ _ q=>hr _ _ _ _ h q) q
theorem PC{K}:BR (DP K):=fun x y H Q Q' h q=>by
 unfold DP at *;split at q
 ·exact h _ _ q
 ·exact⟨q.1,h _ _ q.2⟩
 ·rcases q with ⟨l,b,xs,zs,e1,e2,h1,h2,h3,q⟩ | ⟨a,b,xs,ys,e1,e2,h1,h2,h3,h4,q1,q2⟩
  ·exact .inl ⟨l,b,xs,zs,e1,e2,h1,h2,h3,fun p hp=>h _ _ (q p hp)⟩
  ·exact .inr ⟨a,b,xs,ys,e1,e2,h1,h2,h3,h4,fun e=>h _ _ (q1 e),fun e p hp=>h _ _ (q2 e p hp)⟩
 ·exact q.elim
theorem UJ:BR GT:=fun x y H Q Q' h q=>by unfold GT at *;split at q <;> first | exact h _ _ q | exact q.elim
theorem QU:BR JS:=fun x y H Q Q' h q=>by
 unfold JS at *;split at q
 ·exact⟨q.1,h _ _ q.2⟩
 ·obtain⟨l,k,xs,e1,e2,h1,h2,h3,h4,q⟩:=q;exact⟨l,k,xs,e1,e2,h1,h2,h3,h4,fun p hp=>h _ _ (q p hp)⟩
 ·exact q.elim
theorem TL:BR IH:=fun x y H Q Q' h q=>by unfold IH at *;split at q <;> first | exact⟨q.1,h _ _ q.2⟩ | exact q.elim
theorem N5:BR GU:=fun x y H Q Q' h q=>by unfold GU at *;split at q <;> first | exact⟨q.1,h _ _ q.2⟩ | exact q.elim
theorem Ph:BR IN:=fun x y H Q Q' h q=>by unfold IN at *;split at q <;> first | exact⟨q.1,h _ _ q.2⟩ | exact q.elim
theorem SL{f}:BR (G0 f):=fun x y H Q Q' h q=>by unfold G0 at *;split at q <;> first | exact h _ _ q | exact q.elim
theorem ND:BR IJ:=fun x y H Q Q' h q=>by unfold IJ at *;split at q <;> first | exact⟨q.1,h _ _ q.2⟩ | exact q.elim
theorem OY:J7 F9:=fun x H Q Q' h q=>by unfold F9 at *;split at q <;> first | exact h _ _ q | exact q.elim
theorem Rw{p}:BR (DY p):=fun x y H Q Q' h q=>by unfold DY at *;split at q <;> first | exact h _ _ q | exact q.elim
theorem O1{n K}:BR (mEq n K):=fun x y H Q Q' h q=>by
 unfold mEq at *;split at q <;> first | exact h _ _ q | (obtain⟨d,e,h1,h2,h3,q⟩:=q;exact⟨d,e,h1,h2,h3,h _ _ q⟩)
theorem T5{K}:BR (mIx K):=fun x y H Q Q' h q=>by
 unfold mIx at *;split at q
 ·obtain⟨xs,v,h1,h2,q⟩:=q;exact⟨xs,v,h1,h2,h _ _ q⟩
 ·obtain⟨c,h1,h2,q⟩:=q;exact⟨c,h1,h2,h _ _ q⟩
 ·exact q.elim
theorem Jz{v:V}{Q Q':Bool->Prop}(h:∀b,Q b->Q' b)(q:isB v Q):isB v Q':=by
 cases v <;> first | exact h _ q | exact q
theorem OV{t:TE}(h:AZ t):B4 (uB t):=fun σ H Q Q' k q=>h _ _ _ _ (fun _ _ q=>Jz (fun b q=>k b _ q) q) q
theorem SU{ta:TE}(ha:AZ ta):AZ (LX ta):=fun σ H Q Q' h q=>ha _ _ _ _ (fun _ _ q=>Jz (fun b q=>h _ _ q) q) q
theorem PX{t:TT}{ta tb:TE}(ht:B4 t)(ha:AZ ta)(hb:AZ tb):AZ (tIf t ta tb):=fun σ H Q Q' h q=>ht _ _ _ _ (fun b _ q=>by
 cases b with
 | true=>exact ha _ _ _ _ h q
 | false=>exact hb _ _ _ _ h q) q
theorem PQ{t u:TT}(ht:B4 t)(hu:B4 u):B4 (Lw t u):=fun σ H Q Q' h q=>ht _ _ _ _ (fun b _ q=>by
 cases b with
 | true=>exact hu _ _ _ _ h q
 | false=>exact h _ _ q) q
theorem QW{t u:TT}(ht:B4 t)(hu:B4 u):B4 (tOr t u):=fun σ H Q Q' h q=>ht _ _ _ _ (fun b _ q=>by
 cases b with
 | true=>exact h _ _ q
 | false=>exact hu _ _ _ _ h q) q
theorem QL{t:TT}(ht:B4 t):B4 (Kw t):=fun σ H Q Q' h q=>ht _ _ _ _ (fun b _ q=>h _ _ q) q
theorem SY:CG Ev:=fun _ _ _ _ h q=>h _ _ q
theorem PN{ta:TE}{t:TA}(ha:AZ ta)(ht:CG t):CG (Hw ta t):=fun σ H Q Q' h q=>ha _ _ _ _ (fun _ _ q=>ht _ _ _ _ (fun _ _ q=>h _ _ q) q) q
theorem Qx{r}{t:TA}(hr:Bb r)(ht:CG t):AZ (tCB r t):=fun σ H Q Q' h q=>ht _ _ _ _ (fun _ _ q=>hr _ _ _ _ h q) q
theorem QR{sp dvs E}{t:TA}(hs:AQ sp)(ht:CG t):AZ (KH sp dvs E t):=fun σ H Q Q' h q=>ht _ _ _ _ (fun _ _ q=>hs _ _ _ _ _ h q) q
theorem UK{t:TA}(ht:CG t):AZ (KB t):=fun σ H Q Q' h q=>ht _ _ _ _ (fun _ _ q=>⟨q.1,fun p hp=>h _ _ (q.2 p hp)⟩) q
theorem Td{t:TA}(ht:CG t):AZ (Kq t):=fun σ H Q Q' h q=>ht _ _ _ _ (fun _ _ q=>⟨q.1,fun p hp=>h _ _ (q.2 p hp)⟩) q
theorem P1{wi own ix g tc te}(hi:Ds wi):AZ (D9 wi own ix g tc te):=fun σ H Q Q' h q=>hi _ _ _ _ (fun J H1 q=>by
 obtain⟨W,w0,turn⟩:=q;refine⟨W,w0,fun i m ys H w=>?_⟩
 rcases turn i m ys H w with ⟨a,b⟩ | r
 ·exact .inl ⟨a,fun p hp=>h _ _ (b p hp)⟩
 ·exact .inr r) q
theorem Pp{K}:Bb (Fb K):=fun xs H Q Q' h q=>by unfold Fb at *;split at q <;> first | (obtain⟨n,a,q⟩:=q;exact⟨n,a,h _ _ q⟩) | exact q.elim
theorem UY:Bb IR:=fun xs H Q Q' h q=>by unfold IR at *;split at q <;> first | exact h _ _ q | exact q.elim
theorem SN:Bb HL:=fun xs H Q Q' h q=>by unfold HL at *;split at q <;> first | exact h _ _ q | exact q.elim
theorem Mr:Bb IB:=fun xs H Q Q' h q=>by unfold IB at *;split at q <;> first | exact h _ _ q | exact q.elim
theorem Ol{K}:Bb (FK K):=fun xs H Q Q' h q=>by
 unfold FK at *;split at q
 ·obtain⟨ys,⟨a,q⟩ | ⟨a,q⟩⟩:=q
  ·exact⟨ys,.inl ⟨a,fun l hl=>h _ _ (q l hl)⟩⟩
  ·exact⟨ys,.inr ⟨a,h _ _ q⟩⟩
 ·exact q.elim
theorem Oa{K}{tl:TE}(h:AZ tl):Ds (Ix K tl):=fun σ H Q Q' k q=>h _ _ _ _ (fun v H1 q=>by
 cases v <;> first | exact q.elim | (rcases q with ⟨a,q⟩ | ⟨a,q⟩
                                     ·exact .inl ⟨a,k _ _ q⟩
                                     ·exact .inr ⟨a,k _ _ q⟩)) q
theorem OM{ta:TA}(h:CG ta):Ds (Kr ta):=fun σ H Q Q' k q=>h _ _ _ _ (fun _ _ ⟨j,e,a,b,q⟩=>⟨j,e,a,b,k _ _ q⟩) q
theorem Nl{ta:TA}(h:CG ta):Ds (KS ta):=fun σ H Q Q' k q=>h _ _ _ _ (fun _ _ ⟨i,j,e,a,q⟩=>⟨i,j,e,a,k _ _ q⟩) q
theorem O4:Lk IW:=fun o i v H Q Q' h q=>by
 unfold IW at *;split at q
 ·obtain⟨xs,j,a,b,q⟩:=q;exact⟨xs,j,a,b,h _ q⟩
 ·exact q.elim
theorem Rc{to ti:TE}{t:D2}(h1:AZ to)(h2:AZ ti)(h3:Lk t):C0 (KU to ti t):=fun v σ H Q Q' h q=>h1 _ _ _ _ (fun _ _ q=>h2 _ _ _ _ (fun _ _ q=>h3 _ _ _ _ _ _ (fun H q=>h _ _ q) q) q) q
theorem Mz:BW Cq:=fun D D' σ H h q=>h.nx _ _ q
theorem RP{t u:TS}(h1:BW t)(h2:BW u):BW (IY t u):=fun D D' σ H h q=>h1 { D with nx:=u D } { D' with nx:=u D' } σ H ⟨fun σ H q=>h2 D D' σ H h q,h.rt,h.bk,h.ct⟩ q
theorem OA{te:TE}{g:TG}(h1:AZ te)(h2:C0 g):BW (Dr te g):=fun D D' σ H h q=>h1 _ _ _ _ (fun _ _ q=>h2 _ _ _ _ _ h.nx q) q
theorem OB{te:TE}(h1:AZ te):BW (J5 te):=fun D D' σ H h q=>h1 _ _ _ _ h.rt q
theorem RG{te:TE}(h1:AZ te):BW (JG te):=fun D D' σ H h q=>h1 _ _ _ _ (fun _ _ q=>h.nx _ _ q) q
theorem SM{c:TT}{t u:TS}(hc:B4 c)(h1:BW t)(h2:BW u):BW (Ky c t u):=fun D D' σ H h q=>hc _ _ _ _ (fun b _ q=>by
 cases b with
 | true=>exact h1 _ _ _ _ h q
 | false=>exact h2 _ _ _ _ h q) q
theorem M0{c:TT}{tb:TS}(hc:B4 c)(h1:BW tb):BW (MN c tb):=fun D D' σ H h q=>by
 obtain⟨W,w0,turn⟩:=q;refine⟨W,w0,fun m σ H w=>hc _ _ _ _ (fun b H1 q=>?_) (turn m σ H w)⟩;cases b with
 | true=>exact h1 { D with nx:=fun σ' H'=>∃m',m' < m/\W m' σ' H',ct:=fun σ' H'=>∃m',m' < m/\W m' σ' H',bk:=D.nx } _ _ _ ⟨fun _ _ q=>q,h.rt,h.nx,fun _ _ q=>q⟩ q
 | false=>exact h.nx _ _ q
theorem PM{wi:TI}{g:TG}{tb:TS}(hi:Ds wi)(hg:C0 g)(h1:BW tb):BW (Ll wi g tb):=fun D D' σ H h q=>hi _ _ _ _ (fun J H1 q=>by
 obtain⟨W,w0,turn⟩:=q;refine⟨W,w0,fun i m σ H w=>?_⟩
 rcases turn i m σ H w with ⟨a,b⟩ | ⟨a,N,hN,step⟩
 ·exact .inl ⟨a,h.nx _ _ b⟩
 ·exact .inr ⟨a,N,hN,fun x H' y=>hg _ _ _ _ _ (fun σ2 H2 q=>h1 { D with nx:=N,ct:=N,bk:=D.nx } _ _ _ ⟨fun _ _ q=>q,h.rt,h.nx,fun _ _ q=>q⟩ q) (step x H' y)⟩) q
theorem AJ{t u:TS}{D:Ends}{σ:St}{H:Hp}(J:St->Hp->Prop)(h1:t { D with nx:=J } σ H)(h2:∀σ' H',J σ' H'->u D σ' H')(hm:BW t):IY t u D σ H :=
 hm { D with nx:=J } { D with nx:=u D } σ H ⟨h2,fun _ _ q=>q,fun _ _ q=>q,fun _ _ q=>q⟩ h1
section
variable {X:Cx}{K:W.Frag}{a b c e l tg:Expr}{es:List Expr}{ta tb tc te tl:TE}{pos p:Pos}
theorem BH(hK:X.K=K:=by rfl):OpR X (binaryOp .Add) (DP K):=hK ▸ PV
theorem kEq(hu:X.A.units+60 < cLine)(hK:X.K=K:=by rfl):OpR X (compareOp .Eq) (mEq false K):=hK ▸ Rs hu
theorem kNe(hu:X.A.units+60 < cLine)(hK:X.K=K:=by rfl):OpR X (compareOp .NotEq) (mEq true K):=hK ▸ Sl hu
theorem kIx(ha:PE X a ta)(hb:PE X b tb)(hs:GA b:=by intro _ _;rfl)(hK:X.K=K:=by rfl):PE X (.Subscript a b pos) (tOp (mIx K) ta tb):=hK ▸ Um ha hb hs
theorem Av(hK:X.K=K:=by rfl):CallR X (.builtin "len") (Fb K):=hK ▸ Nm
theorem BC(hK:X.K=K:=by rfl):CallR X (.type "tuple") (FK K):=hK ▸ Uq
theorem Lq(hK:X.K=K:=by rfl):CallR X (.type "list") (MX K):=hK ▸ TB
theorem Az(hl:PE X l tl)(hK:X.K=K:=by rfl):PI X tg l (Ix K tl):=hK ▸ Oy hl
theorem Jv {es:List Expr} {k:Nat} {t:TGs} {n:Nat} (hc:X.calm=true) (h:PGs X es t)
 (hn:(assignEach es X.env).length=n:=by rfl) (hst:(assignEach es X.env).findIdx? (·.1)=none:=by rfl) (hK:X.K=K:=by rfl):PG X (.Tuple es k pos) (Im K n t):=hK ▸ LL hc h hn hst
end
theorem Inv.turnedNew {X:Cx} {pins:List (Addr × Obj)} {σ:St} {H:Hp} {s:Shared} {h':Heap} {ch:List Addr} {T:Addr} {o:HO} (I:Inv X pins σ H s) (hf:∀b∈ch,Bn X pins H b) (hT:s.heap.objs.size<=T)
 (k:∀b u,b∉ch->s.heap.get? b=some u->h'.get? b=some u) (new:ObjOk X.prog X.w (upd H T o) h' T o) (th:∀b∈ch,∃u,h'.get? b=some u):Inv X pins σ (upd H T o) { s with heap:=h' }:=by
 have hTn:H T=none:=I.hok.fresh hT;have nT:∀b u,H b=some u->b≠T:=fun b u e z=>by rw[z,hTn]at e;cases e
 have nc:∀b u,H b=some u->b∉ch:=fun b u e z=>by rw[(hf b z).1]at e;cases e
 refine I.step (g':=s.gens) (d':=s.drawn) (t':=s.toks) (ch:=ch) (fun b hb=>?_) (fun b u _ _ hc e _=>k b u hc e) (fun b u _ _ hc e _=>⟨u.slots,k b u hc e⟩) (fun b u hc e n=>?_) (fun b u hc e=>⟨u,k b u hc e⟩)
  (fun b xs e=>by rw[AM (nT _ _ e)];exact e) (fun b u v e=>by rw[AM (nT _ _ e)];exact e) (fun b ps e=>⟨#[],by rw[AM (nT _ _ e),e];simp⟩) (fun m hm=>?_) (fun b u e=>?_) I.bare
 ·obtain⟨q1,q2,q3,q4,q5,q6⟩:=hf b hb;exact⟨q4,q2,q5,q6⟩
 ·rw[AM (ZQ (Zd (ZI e) hT))];exact n
 ·obtain⟨u,es,ep,ho,r⟩:=hm;exact⟨u,es,ep,k _ u (fun z=>(hf _ z).2.1 rfl) ho,r⟩
 ·by_cases hb:b=T
  ·subst hb;rw[AD]at e;cases e;exact new
  ·rw[AM hb]at e;refine(I.hok b u e).stay (fun c v hc q=>k c v ?_ q) (fun c q=>by rw[AM (nT _ _ q)];exact q) fun c xs q=>by rw[AM (nT _ _ q)];exact q
   rcases hc with z | z
   ·rw[z];exact nc b u e
   ·exact nc c _ z
section
variable {X:Cx}
end
section
variable {X:Cx}{K:W.Frag}{o e:Expr}{es:List Expr}{to:TE}{t:TA}{apos cpos:Pos}
def FN:V->List V->Hp->VK->Prop:=fun x vs H Q=>match x,vs with
 | .ref l,[y]=>∃xs,H l=some (.lst xs)/\xs.length < sizeLine/\Q .non (upd H l (.lst (xs++[y])))
 | _,_=>False
theorem Ub:MtR X "list.append" FN:=by
 intro pins s σ H x vs v us Q I rx rv q
 match x,vs,q with
 | .ref l,[y],⟨xs,h1,h2,q⟩=>exact Qj pins s σ H _ _ v us Q I rx rv ⟨l,xs,y,rfl,rfl,h1,h2,q⟩
theorem DR (ho:PE X o to) (ha:PA X [e] t) (hbase:attributeBase o "append" X.env (eval o X.env)=eval o X.env:=by rfl)
 (hfew:((backTo cpos (starEach [e] X.env)).all (fun x=>!x.1) && (backToKw cpos (keywordEach [] X.env)).all (fun x=>x.1.isSome)
   && decide ([e].length+([]:List Keyword).length+(if ([]:List Keyword).isEmpty then 0 else 1) < 30))=true:=by rfl)
 (hline:(apos.endLine == cpos.line)=true:=by rfl) (hs:starEach [e] X.env=(false,eval e X.env)::starEach [] X.env:=by rfl) (hplain:(backTo cpos (starEach [] X.env)).any (·.1)=false:=by rfl) (hK:X.K=K:=by rfl) :
 PE X (.Call (.Attribute o "append" apos) [e] [] cpos) (tBM K "list" FN to t):=hK ▸ Lx PySem.F.plainAttrs_list PySem.F.slot_list_append PySem.F.type_list_append Ub ho ha hbase hfew hline hs hplain
theorem O9{T:String}{r:V->List V->Hp->VK->Prop}(h1:AZ to)(h2:CG t)(h3:EO r):AZ (tBM K T r to t):=fun σ H Q Q' h q=>h1 _ _ _ _ (fun _ _ q=>⟨q.1,h2 _ _ _ _ (fun _ _ q=>h3 _ _ _ _ _ h q) q.2⟩) q
theorem O0:EO FN:=fun x xs H Q Q' h q=>by
 unfold FN at *;split at q
 ·obtain⟨ys,a,b,q⟩:=q;exact⟨ys,a,b,h _ _ q⟩
 ·exact q.elim
def K1(K:W.Frag):List V->Hp->VK->Prop:=fun xs H Q=>match xs with
 | [.ref l]=>∃ns:List Int,SqL K H l (ns.map V.int)/\Q (.int ns.sum) H
 | _=>False
theorem TR(hc:X.calm=true):CallR X (.builtin "sum") (K1 X.K):=by
 intro pins s σ H xs us Q I r q
 match xs,q with
 | [.ref l],q =>
 obtain⟨ns,hl,q⟩:=q;obtain⟨u,rfl,ru⟩:=Bm r;cases ru;obtain⟨its,rv,pl,hz⟩:=I.list hl;have hi:IntsAre its ns:=by simpa using EM rv
 obtain⟨zs,hzs⟩:=(hi.allInts).items;have e:(numsOf its).sum=ns.sum:=by rw[hi.numsOf]
 have pl':=pl.isList;rw[hzs]at pl';refine sum_intListG (I.ok.hd hc) pl' fun h' tk t' hk=>?_
 refine⟨.int _,H,I.kept hk,⟨t',rfl⟩,?_⟩
 have e2:preSum (numAt zs) zs.size=ns.sum:=by
  rw[preSum_eq,ZBH (by simp),<- e];rw[show its=its.toArray.toList by simp,hzs,nums_intItems]
 rw[e2];exact q
theorem Nk(hc:X.calm=true)(hK:X.K=K:=by rfl):CallR X (.builtin "sum") (K1 K):=hK ▸ TR hc
def Fa(K:W.Frag):List V->Hp->VK->Prop:=fun xs H Q=>match xs with
 | [.ref l]=>∃bs:List Bool,SqL K H l (bs.map V.bl)/\Q (.bl (bs.all id)) H
 | _=>False
theorem OH(hc:X.calm=true):CallR X (.builtin "all") (Fa X.K):=by
 intro pins s σ H xs us Q I r q
 match xs,q with
 | [.ref l],q =>
 obtain⟨bs,hl,q⟩:=q;obtain⟨u,rfl,ru⟩:=Bm r;cases ru;obtain⟨its,rv,pl,hz⟩:=I.list hl;have hlen:=rv.length;rw[ZC]at hlen;obtain⟨o1,n1,g1,_⟩:=id pl;have hlt:=ZI g1;refine call_all_walk (wpAny_pyIter_list pl.isList ?_);have hne:l≠s.heap.objs.size:=ZQ hlt;refine⟨_,_,_,_,_,_,fun i=>bs.getD i false,rfl,Walks.list (A:=X.A.in1) (I.ok.hd hc) s.heap.objs.size l hne its.toArray,?_,?_,fun h' tk hk=>?_⟩
 ·exact⟨⟨_,ZR _ rfl,rfl,rfl⟩,(show s.heap.IsList l its.toArray from pl.isList).at fun o e=>ZJ _ e⟩
 ·intro i v s' Q' E' hv hq;have hv:its.toArray[i]? = some v:=hv
  have hi:i < its.length:=by
   have:=(Array.getElem?_eq_some_iff.mp hv).1
   simpa using this
  have hb:(bs.map V.bl)[i]? = some (.bl bs[i]):=by rw[ZX,ZE (by lia)];rfl
  obtain⟨w',q1,q2⟩:=rv.get hb;have e:v=w':=by simp at hv;rw[q1]at hv;exact(ZW hv).symm
  subst e;cases q2;refine ZBK ?_;have e2:bs.getD i false=bs[i]:=by rw[Zy,ZE (by lia)];rfl
  have hq:Q' (bs.getD i false) s':=hq;rw[e2]at hq;exact hq
 ·refine⟨.bl _,H,I.kept (fun b o e=>hk b o ?_ (ZJ _ e)),rfl,?_⟩
  ·simp only[ZO];exact ZQ (ZI e)
  ·have e:(List.range its.toArray.size).all (fun i=>bs.getD i false)=bs.all id:=by
    rw[ZL,<- hlen];rw[ZBD,ZBC,ZBC];constructor
    ·intro h b hb;obtain⟨i,hi,rfl⟩:=List.mem_iff_getElem.mp hb
     have:=h i (ZBJ.mpr hi)
     rw[Zy,ZE hi]at this;exact this
    ·intro h i hi;have hi':=ZBJ.mp hi;rw[Zy,ZE hi'];exact h _ (Zc hi')
   rw[e];exact q
theorem Ke(hc:X.calm=true)(hK:X.K=K:=by rfl):CallR X (.builtin "all") (Fa K):=hK ▸ OH hc
theorem Sy:Bb (Fa K):=fun xs H Q Q' h q=>by
 unfold Fa at *;split at q
 ·obtain⟨ns,a,q⟩:=q;exact⟨ns,a,h _ _ q⟩
 ·exact q.elim
end
section
variable {prog:Program}{w:World}{A:Around}{E:Value->Shared->Prop}{s:Shared}
theorem Jd{it t:Addr}{items:Array Value}(hne:t≠it):∀(n i:Nat) (s:Shared) (Q:List Value->Shared->Prop),s.heap.IsListIter it t i->s.heap.IsList t items->i+n<=items.size ->
 (∀h',h'.IsListIter it t (i+n)->Heap.SameBut it s.heap h'->Q ((items.toList.drop i).take n) { s with heap:=h' })->wpAny (model prog w) A (draw (.ref it) n) Q E s
 | 0,i,s,Q,hit,_,_,hQ=>by
  show wpAny _ _ (pure []) Q E s;exact ZB (by simpa using hQ s.heap hit (Heap.SameBut.refl ..))
 | n+1,i,s,Q,hit,ht,hle,hQ=>by
  have hlt:i < items.size:=by lia
  show wpAny _ _ (pyNext (.ref it) >>= _) Q E s;refine ZA (wpAny_pyNext_list_item hit ht (x:=items[i]) (by simp[hlt]) fun h₁ hit₁ hs₁=>?_);refine ZA (Zl (Jd hne n (i+1) _ _ hit₁ (ht.extBut hs₁.extBut hne) (by lia) fun h₂ hit₂ hs₂=>ZB ?_));have hd:items.toList.drop i=items[i]::items.toList.drop (i+1):=by simp[List.drop_eq_getElem_cons,hlt]
  have:=hQ h₂ (by rw[show i+(n+1)=i+1+n by lia];exact hit₂) (hs₁.trans hs₂)
  rw[hd,List.take_succ_cons]at this;exact this
theorem PB {t:Addr} {items:Array Value} {Q:List Value->Shared->Prop} (hh:A.handled=none) (ht:s.heap.IsList t items)
 (hQ:∀h',Heap.ExtBut s.heap.objs.size s.heap h'->Q items.toList { s with heap:=h' }):wpAny (model prog w) A (unpackItems (.ref t) items.size none) Q E s:=by
 have hlt:t≠s.heap.objs.size:=by obtain⟨o,ho,_⟩:=ht;exact ZQ (ZI ho)
 unfold unpackItems;refine ZA ?_
 ·unfold notIterableAtAll;refine ZA (wpAny_specialOf ht.typeIs slot_list_iter.lookup ?_);refine ZB ?_;simp only[Bool.false_eq_true,if_false];refine ZA (Zl (wpAny_pyIter_list ht ?_));refine ZA (Zl (Jd hlt items.size 0 _ _ ⟨_,ZR _ rfl,rfl,rfl⟩ (ht.at fun o e=>ZJ _ e) (by lia) fun h₁ hit₁ hs₁=>?_))
  have hall:List.take items.size (List.drop 0 items.toList)=items.toList:=by
   rw[List.drop_zero];exact ZBH (by simp)
  rw[hall];rw[if_neg (by simp)];have ht₁:h₁.IsList t items:=(Heap.IsList.at ht fun o e=>ZJ _ e).extBut hs₁.extBut hlt;refine ZA (Zl (wpAny_pyNext_list_end hh hit₁ ht₁ (by simp) fun h₂ he₂=>?_));simp only[Option.isSome_none,Bool.false_eq_true,if_false];refine ZB (hQ h₂ fun b o hb e=>he₂ b o hb (hs₁.extBut b o hb (ZJ _ e)))
theorem Sn {env:Env} {elts:List Expr} {x1} {pos:Pos} {t:Addr} {items:Array Value} {Q:Unit->Shared->Prop} (hh:A.handled=none) (ht:s.heap.IsList t items)
 (hn:(assignEach elts env).length=items.size) (hstar:(assignEach elts env).findIdx? (·.1)=none)
 (h:∀h',Heap.ExtBut s.heap.objs.size s.heap h'->wpAny (model prog w) A (assignInOrder ((assignEach elts env).map (·.2)) items.toList) Q E { s with heap:=h' }) :
 wpAny (model prog w) A (assign (.Tuple elts x1 pos) env (.ref t)) Q E s:=by
 rw[assign_Tuple];refine ZA (wpAny_standAt ?_);unfold unpack;rw[hn,hstar];exact ZA (Zl (PB hh ht h))
end
section
variable {X:Cx}{K:W.Frag}{pos p2:Pos}{e:Expr}{lo hi:Option Expr}{te:TE}{tl th:TO}
def MY(K:W.Frag)(n:Nat)(t:TGs):TG:=fun v σ H Q=>match v with
 | .ref a=>∃xs,SqA K H a xs/\xs.length=n/\t xs σ H Q
 | _=>False
theorem Fe {es:List Expr} {k:Nat} {t:TGs} {n:Nat} (hc:X.calm=true) (h:PGs X es t)
 (hn:(assignEach es X.env).length=n:=by rfl) (hst:(assignEach es X.env).findIdx? (·.1)=none:=by rfl) (hK:X.K=K:=by rfl):PG X (.Tuple es k pos) (MY K n t):=by
 subst hK;intro pins s σ H v u Q I r hw;cases v with
 | ref a =>
  obtain⟨xs,hq | hq,hl,hw⟩:=hw
  ·cases r;obtain⟨its,rv,ht,hz⟩:=I.list hq;refine Sn (I.ok.hd hc) ht.isList (by simp[hn,<- hl,rv.length]) hst fun h' hx=>?_
   have I1:Inv X pins σ H { s with heap:=h' }:=I.kept (t':=s.toks) fun b o e=>hx b o (ZQ (ZI e)) e
   exact h pins _ σ H xs _ Q I1 (by simpa using rv) hw
  ·exact LL hc h hn hst pins s σ H _ u Q I r ⟨a,xs,rfl,hq,hl,hw⟩
 | _=>exact False.elim hw
theorem T7{n:Nat}{t:TGs}(h:ET t):C0 (MY K n t):=fun v _ _ _ _ k q=>by
 cases v <;> first | exact False.elim q | (obtain⟨xs,s,l,q⟩:=q;exact⟨xs,s,l,h _ _ _ _ _ k q⟩)
def LH(K:W.Frag):V->Option Int->Option Int->Hp->VK->Prop:=fun x lo hi H Q=>match x with
 | .ref a=>∃xs,(SqL K H a xs/\∀p,H p=none->Q (.ref p) (upd H p (.lst (A1 xs lo hi)))) \/
  (SqT K H a xs/\¬(HT.sIx xs.length 0 lo=0/\HT.sIx xs.length xs.length hi=xs.length)/\∀p,H p=none->Q (.ref p) (upd H p (.tup (A1 xs lo hi))))
 | _=>False
theorem Rn:SlR X (LH X.K):=by
 intro pins s σ H x v vl vu lo hi sl Q I rx hs pl pu q;cases x with
 | ref a =>
  obtain⟨xs,⟨h,q⟩ | ⟨h,h2,q⟩⟩:=q
  ·exact Ut pins s σ H _ v vl vu lo hi sl Q I rx hs pl pu ⟨a,xs,rfl,h,q⟩
  ·exact GN pins s σ H _ v vl vu lo hi sl Q I rx hs pl pu ⟨a,xs,rfl,h,h2,q⟩
 | _=>exact False.elim q
theorem NZ(he:PE X e te)(hl:PO X lo tl)(hu:PO X hi th)(hK:X.K=K:=by rfl):PE X (.Subscript e (.Slice lo hi none p2) pos) (tSl (LH K) te tl th):=hK ▸ Ib Rn he hl hu
def FR(t:TO):Prop:=∀σ H (Q Q':Option Int->Hp->Prop),(∀b H,Q b H->Q' b H)->t σ H Q->t σ H Q'
theorem Qd:FR Ma:=fun _ _ _ _ h q=>h _ _ q
theorem RW(h:AZ te):FR (K3 te):=fun σ H Q Q' k q=>h _ _ _ _ (fun _ _ ⟨i,e,q⟩=>⟨i,e,k _ _ q⟩) q
end
theorem MO{K:W.Frag}{H H':Hp}{a:Addr}{xs:List V}(h:SqT K H a xs)(s:Same H H'):SqT K H' a xs:=Gz h fun o e=>s a o e
mutual
theorem Rep.same{K:W.Frag}{H H':Hp}(s:Same H H'):∀(d:Dv) (v:V),Rep K H d v->Rep K H' d v
 | .non,v,h=>by unfold Rep at *;exact h
 | .bl b,v,h=>by unfold Rep at *;exact h
 | .int i,v,h=>by unfold Rep at *;exact h
 | .str x,v,h=>by unfold Rep at *;exact h
 | .tup ds,v,h=>by
  unfold Rep at *;obtain⟨a,xs,e,h1,h2⟩:=h;exact⟨a,xs,e,MO h1 s,Reps.same s ds xs h2⟩
 | .lst ds,v,h=>by
  unfold Rep at *;obtain⟨a,xs,e,h1,h2⟩:=h;exact⟨a,xs,e,K8 h1 fun o e=>s a o e,Reps.same s ds xs h2⟩
theorem Reps.same{K:W.Frag}{H H':Hp}(s:Same H H'):∀(ds:List Dv) (xs:List V),Reps K H ds xs->Reps K H' ds xs
 | [],xs,h=>by unfold Reps at *;exact h
 | d::ds,xs,h=>by
  unfold Reps at *;obtain⟨x,r,e,h1,h2⟩:=h;exact⟨x,r,e,Rep.same s d x h1,Reps.same s ds r h2⟩
end
mutual
def CN:Dv->Bool
 | .tup ds=>BI ds
 | .lst _=>false
 | _=>true
def BI:List Dv->Bool
 | []=>true
 | d::ds=>CN d && BI ds
end
mutual
theorem Rep.frm{K:W.Frag}{H H':Hp}{t:Addr}(s:Frm t H H')(ht:∃zs,H t=some (.lst zs)):∀(d:Dv) (v:V),CN d=true->Rep K H d v->Rep K H' d v
 | .non,v,_,h=>by unfold Rep at *;exact h
 | .bl b,v,_,h=>by unfold Rep at *;exact h
 | .int i,v,_,h=>by unfold Rep at *;exact h
 | .str x,v,_,h=>by unfold Rep at *;exact h
 | .tup ds,v,hd,h=>by
  unfold CN at hd;unfold Rep at *;obtain⟨a,xs,e,h1,h2⟩:=h;refine⟨a,xs,e,?_,Reps.frm s ht ds xs hd h2⟩;obtain⟨zs,hz⟩:=ht
  rcases h1 with (h1 | ⟨o,h1⟩) | h1
  ·exact .inl (.inl (s a _ (fun q=>by rw[q,hz]at h1;cases h1) h1))
  ·exact .inl (.inr ⟨o,s a _ (fun q=>by rw[q,hz]at h1;cases h1) h1⟩)
  ·exact .inr h1
 | .lst ds,v,hd,h=>by unfold CN at hd;cases hd
theorem Reps.frm{K:W.Frag}{H H':Hp}{t:Addr}(s:Frm t H H')(ht:∃zs,H t=some (.lst zs)):∀(ds:List Dv) (xs:List V),BI ds=true->Reps K H ds xs->Reps K H' ds xs
 | [],xs,_,h=>by unfold Reps at *;exact h
 | d::ds,xs,hd,h=>by
  unfold BI at hd;rw[Ze]at hd;unfold Reps at *;obtain⟨x,r,e,h1,h2⟩:=h;exact⟨x,r,e,Rep.frm s ht d x hd.1 h1,Reps.frm s ht ds r hd.2 h2⟩
end
theorem Tape.lst{K:W.Frag}{H:Hp}{t a:Addr}{ns:List Int}(T:Tape K H t a ns):∃zs,H t=some (.lst zs):=by
 obtain⟨i,r,c,_,_,h⟩:=T.at_;exact⟨_,h⟩
theorem BL{K:W.Frag}{H:Hp}{p:Addr}{xs:List V}{ds:List Dv}(h:H p=some (.tup xs))(r:Reps K H ds xs):Rep K H (.tup ds) (.ref p):=by unfold Rep;exact⟨p,xs,rfl,.of h,r⟩
theorem Am{K:W.Frag}{H:Hp}:Reps K H [] []:=by unfold Reps;rfl
theorem Ap{K:W.Frag}{H:Hp}{d:Dv}{ds:List Dv}{x:V}{xs:List V}(h:Rep K H d x)(r:Reps K H ds xs):Reps K H (d::ds) (x::xs):=by unfold Reps;exact⟨x,xs,rfl,h,r⟩
theorem Fo{K:W.Frag}{H:Hp}{x:Int}:Rep K H (.int x) (.int x):=by unfold Rep;rfl
theorem NG{K:W.Frag}{H:Hp}{x:Bool}:Rep K H (.bl x) (.bl x):=by unfold Rep;rfl
theorem Reps.append{K:W.Frag}{H:Hp}:∀{ds es:List Dv} {xs ys:List V},Reps K H ds xs->Reps K H es ys->Reps K H (ds++es) (xs++ys)
 | [],es,xs,ys,h,h'=>by unfold Reps at h;subst h;exact h'
 | d::ds,es,xs,ys,h,h'=>by
  unfold Reps at h;obtain⟨x,r,rfl,h1,h2⟩:=h;exact Ap h1 (Reps.append h2 h')
section
variable {κ:Type}[DecidableEq κ]
def valV(kvs:List (κ × V))(k:κ):Option V:=(kvs.find? fun kv=>decide (kv.1=k)).map (·.2)
def Ar(kvs:List (κ × V))(k:κ)(v:V):List (κ × V) :=
 if (kvs.any fun kv=>decide (kv.1=k))=true then kvs.map (fun kv=>if kv.1=k then (kv.1,v) else kv) else kvs++[(k,v)]
def J9(kvs:List (κ × V))(k:κ):List (κ × V):=kvs.filter fun kv=>decide (kv.1≠k)
theorem B1{p:κ × V}{r:List (κ × V)}{k:κ}(e:p.1=k):valV (p::r) k=some p.2:=by simp[valV,ZBp,e]
theorem CF{p:κ × V}{r:List (κ × V)}{k:κ}(e:¬p.1=k):valV (p::r) k=valV r k:=by simp[valV,ZBp,e]
theorem FZ(k:κ):∀kvs:List (κ × V),(kvs.any fun kv=>decide (kv.1=k))=(valV kvs k).isSome
 | []=>rfl
 | p::r=>by
  rw[ZBF]
  by_cases e:p.1=k
  ·simp only[B1 e,ZM e,Bool.true_or,Option.isSome_some]
  ·rw[CF e,Zu e,Bool.false_or];exact FZ k r
theorem LR(k j:κ)(y:V):∀kvs:List (κ × V),valV (kvs.map fun kv=>if kv.1=k then (kv.1,y) else kv) j=(valV kvs j).map fun x=>if j=k then y else x
 | []=>rfl
 | p::r=>by
  have ih:=LR k j y r;rw[Zg]
  by_cases h:p.1=k
  ·rw[if_pos h]
   by_cases e:p.1=j
   ·rw[B1 (p:=(p.1,y)) e,B1 e,ZBf,if_pos (e.symm.trans h)]
   ·rw[CF (p:=(p.1,y)) e,CF e,ih]
  ·rw[if_neg h]
   by_cases e:p.1=j
   ·rw[B1 (p:=p) e,B1 e,ZBf,if_neg (fun z=>h (e.trans z))]
   ·rw[CF (p:=p) e,CF e,ih]
theorem Lh(k j:κ)(y:V):∀kvs:List (κ × V),valV kvs k=none->valV (kvs++[(k,y)]) j=if j=k then some y else valV kvs j
 | [],_=>by
  by_cases e:k=j
  ·rw[if_pos e.symm];exact B1 (p:=(k,y)) e
  ·rw[if_neg (fun z=>e z.symm)];exact CF (p:=(k,y)) e
 | p::r,hn=>by
  rw[List.cons_append];have hk:¬p.1=k:=fun z=>by rw[B1 z]at hn;cases hn
  rw[CF hk]at hn;have ih:=Lh k j y r hn
  by_cases e:p.1=j
  ·rw[B1 e,B1 e,if_neg (fun z=>hk (e.trans z))]
  ·rw[CF e,CF e,ih]
theorem Md(kvs:List (κ × V))(k j:κ)(y:V):valV (Ar kvs k y) j=if j=k then some y else valV kvs j:=by
 unfold Ar
 by_cases a:(kvs.any fun kv=>decide (kv.1=k))=true
 ·rw[if_pos a,LR];rw[FZ]at a
  by_cases e:j=k
  ·obtain⟨x,hx⟩:=Option.isSome_iff_exists.mp a;rw[if_pos e,e,hx,ZBf,if_pos rfl]
  ·rw[if_neg e];cases valV kvs j with
   | none=>rfl
   | some x=>rw[ZBf,if_neg e]
 ·rw[if_neg a];refine Lh k j y kvs ?_;rw[FZ]at a;cases q:valV kvs k with
  | none=>rfl
  | some x=>rw[q]at a;exact(a rfl).elim
theorem Ka(kvs:List (κ × V))(k:κ)(v:V):(Ar kvs k v).length<=kvs.length+1:=by
 unfold Ar;split
 ·rw[ZC];lia
 ·rw[ZG,Zj,List.length_nil];lia
theorem RelO.isSome_eq{o:Option V}{u:Option Value}(r:RelO o u):o.isSome=u.isSome:=by
 cases o with
 | none=>cases u with
  | none=>rfl
  | some _=>exact(show False from r).elim
 | some _=>cases u with
  | none=>exact(show False from r).elim
  | some _=>rfl
theorem RelO.getD{o:Option V}{u:Option Value}{d:V}{d':Value}(r:RelO o u)(rd:RelV d d'):RelV (o.getD d) (u.getD d'):=by
 cases o with
 | none=>cases u with
  | none=>exact rd
  | some _=>exact(show False from r).elim
 | some _=>cases u with
  | none=>exact(show False from r).elim
  | some _=>exact r
theorem KV.val{kvs:List (κ × V)}{vs:List (κ × Value)}(r:KV kvs vs)(k:κ):RelO (valV kvs k) (valueAt vs k):=by
 unfold KV at r
 induction r with
 | nil=>exact True.intro
 | @cons p q ps qs h t ih =>
  obtain⟨h1,h2⟩:=h
  by_cases e:p.1=k
  ·have e':q.1=k:=h1.symm.trans e;have b:valueAt (q::qs) k=some q.2:=by simp[valueAt,ZBp,e']
   rw[B1 e,b];exact h2
  ·have e':¬q.1=k:=fun z=>e (h1.trans z)
   have b:valueAt (q::qs) k=valueAt qs k:=by simp[valueAt,ZBp,e']
   rw[CF e,b];exact ih
theorem KV.any{kvs:List (κ × V)}{vs:List (κ × Value)}(r:KV kvs vs)(k:κ):(kvs.any fun kv=>decide (kv.1=k))=vs.any fun kv=>decide (kv.1=k):=by
 unfold KV at r
 induction r with
 | nil=>rfl
 | cons h t ih=>rw[ZBF,ZBF,ih,h.1]
theorem KV.repl{kvs:List (κ × V)}{vs:List (κ × Value)}(r:KV kvs vs)(k:κ){y:V}{u:Value}(ry:RelV y u) :
 KV (kvs.map fun kv=>if kv.1=k then (kv.1,y) else kv) (vs.map fun kv=>if kv.1=k then (kv.1,u) else kv):=by
 unfold KV at r ⊢
 induction r with
 | nil=>exact .nil
 | @cons p q ps qs h t ih =>
  rw[Zg,Zg];refine .cons ?_ ih;obtain⟨h1,h2⟩:=h
  by_cases e:p.1=k
  ·rw[if_pos e,if_pos (h1.symm.trans e)];exact⟨h1,ry⟩
  ·rw[if_neg e,if_neg (fun z=>e (h1.trans z))];exact⟨h1,h2⟩
theorem KV.put{kvs:List (κ × V)}{vs:List (κ × Value)}(r:KV kvs vs)(k:κ){y:V}{u:Value}(ry:RelV y u):KV (Ar kvs k y) (stored vs k u):=by
 unfold Ar stored;rw[r.any k]
 by_cases e:(vs.any fun kv=>decide (kv.1=k))=true
 ·rw[if_pos e,if_pos e];exact r.repl k ry
 ·rw[if_neg e,if_neg e];exact Paired.snoc r ⟨rfl,ry⟩
theorem KV.drop{kvs:List (κ × V)}{vs:List (κ × Value)}(r:KV kvs vs)(k:κ):KV (J9 kvs k) (without vs k):=by
 unfold KV at r ⊢;unfold J9 without
 induction r with
 | nil=>exact .nil
 | @cons p q ps qs h t ih =>
  obtain⟨h1,h2⟩:=h;rw[ZBI,ZBI]
  by_cases e:p.1=k
  ·have a:¬decide (p.1≠k)=true:=by simp[e]
   have b:¬decide (q.1≠k)=true:=by simp[h1.symm.trans e]
   rw[if_neg a,if_neg b];exact ih
  ·have e':¬q.1=k:=fun z=>e (h1.trans z)
   have a:decide (p.1≠k)=true:=by simp[e]
   have b:decide (q.1≠k)=true:=by simp[e']
   rw[if_pos a,if_pos b];exact .cons ⟨h1,h2⟩ ih
theorem KV.length{kvs:List (κ × V)}{vs:List (κ × Value)}(r:KV kvs vs):kvs.length=vs.length:=Paired.length r
end
theorem Eg{P:Program}{w:World}{k:Key}{u:Value}(r:RelV (kV k) u):(BK P w).is k u=true:=by
 cases k with
 | inl i=>obtain⟨t,e⟩:=(show ∃t,u=Value.int i t from r);subst e;exact OS P w i t
 | inr x=>obtain⟨t,e⟩:=(show ∃t,u=Value.str x t from r);subst e;exact UM P w x t
theorem LN{P:Program}{w:World}:∀{ks:List Key} {us:List Value},Vals (ks.map kV) us->ItemsAre (BK P w) ks us
 | [],_,r=>by rw[List.map_nil]at r;cases r;exact .nil
 | k::ks,_,r=>by
  rw[Zg]at r;cases r with
  | cons h t=>exact .cons (Eg h) (LN t)
abbrev KT(H:Hp):List (List Key × V)->List (List Key × Addr × Value)->Prop:=Paired fun p q=>p.1=q.1/\H q.2.1=some (.tup (p.1.map kV))/\RelV p.2 q.2.2
theorem KT.val{H:Hp}{kvs:List (List Key × V)}{xs:List (List Key × Addr × Value)}(r:KT H kvs xs)(k:List Key):RelO (valV kvs k) ((atKey xs k).map (·.2)):=by
 induction r with
 | nil=>exact True.intro
 | @cons p q ps qs h t ih =>
  obtain⟨h1,_,h2⟩:=h
  by_cases e:p.1=k
  ·have e':q.1=k:=h1.symm.trans e;have b:atKey (q::qs) k=some q.2:=by simp[atKey,ZBp,e']
   rw[B1 e,b];exact h2
  ·have e':¬q.1=k:=fun z=>e (h1.trans z)
   have b:atKey (q::qs) k=atKey qs k:=by simp[atKey,ZBp,e']
   rw[CF e,b];exact ih
theorem KT.repl{H:Hp}{kvs:List (List Key × V)}{xs:List (List Key × Addr × Value)}(r:KT H kvs xs)(k:List Key){y:V}{u:Value}(ry:RelV y u) :
 KT H (kvs.map fun kv=>if kv.1=k then (kv.1,y) else kv) (xs.map (putAt k u)):=by
 induction r with
 | nil=>exact .nil
 | @cons p q ps qs h t ih =>
  rw[Zg,Zg];refine .cons ?_ ih;obtain⟨h1,h2,h3⟩:=h;unfold putAt
  by_cases e:p.1=k
  ·rw[if_pos e,if_pos (h1.symm.trans e)];exact⟨h1,h2,ry⟩
  ·rw[if_neg e,if_neg (fun z=>e (h1.trans z))];exact⟨h1,h2,h3⟩
theorem KT.put{H:Hp}{kvs:List (List Key × V)}{xs:List (List Key × Addr × Value)}(r:KT H kvs xs)(k:List Key){b:Addr}{y:V}{u:Value}(hb:H b=some (.tup (k.map kV)))(ry:RelV y u) :
 KT H (Ar kvs k y) (storedH xs k b u):=by
 have e:(kvs.any fun kv=>decide (kv.1=k))=(atKey xs k).isSome:=by
  rw[FZ,(r.val k).isSome_eq,Option.isSome_map]
 unfold Ar storedH;rw[e]
 by_cases q:(atKey xs k).isSome=true
 ·rw[if_pos q,if_pos q];exact r.repl k ry
 ·rw[if_neg q,if_neg q];exact Paired.snoc r ⟨rfl,hb,ry⟩
theorem KT.keeps{H H':Hp}{kvs:List (List Key × V)}{xs:List (List Key × Addr × Value)}(r:KT H kvs xs)(ht:∀b ys,H b=some (.tup ys)->H' b=some (.tup ys)):KT H' kvs xs :=
 Paired.mapP r fun _ _ z=>⟨z.1,ht _ _ z.2.1,z.2.2⟩
section
variable {P:Program}{w:World}{H:Hp}{h:Heap}{a:Addr}
theorem Jl{u:HO}(ok:HOk P w H h)(e:Rd H a u):ObjOk P w H h a u:=e.ok ok
theorem DZ{kvs:List (Key × V)}(ok:HOk P w H h)(e:Rd H a (.dK kvs)):kvs.length<=sizeLine/\(a == sysModules)=false/\∃vs,KV kvs vs/\h.DictOf (BK P w) a vs :=
 show ObjOk P w H h a (.dK kvs) from Jl ok e
theorem Lm{kvs:List (Key × V)}(ok:HOk P w H h)(e:H a=some (.dK kvs)):kvs.length<=sizeLine/\(a == sysModules)=false/\∃vs,KV kvs vs/\h.DictOf (BK P w) a vs:=DZ ok (.inl e)
theorem EL{ks:List Key}(ok:HOk P w H h)(e:H a=some (.tup (ks.map kV))):(tupleKind (BK P w)).is h ks a:=by
 obtain⟨_,its,r,o,h1,h2,⟨n,h3⟩,_⟩:=(show ObjOk P w H h a (.tup (ks.map kV)) from ok a _ e);exact⟨o,its.toArray,n,h1,h2,h3,by simpa using LN r⟩
theorem D5{kvs:List (List Key × V)}(ok:HOk P w H h)(e:Rd H a (.dT kvs)):kvs.length<=sizeLine/\(a == sysModules)=false /\
 ∃xs,KT H kvs xs/\h.DictOfH (tupleKind (BK P w)) a xs:=by
 obtain⟨z,y,xs,r,o,es,ep,h1,h2,h3,h4,h5⟩:=(show ObjOk P w H h a (.dT kvs) from Jl ok e);refine⟨z,y,xs,r,o,es,ep,h1,h2,h3,h4,fun x hx=>?_,h5⟩
 have all:∀{l:List (List Key × V)} {m:List (List Key × Addr × Value)},KT H l m->∀x∈m,(tupleKind (BK P w)).is h x.1 x.2.1:=by
  intro l m q
  induction q with
  | nil=>intro x hx;exact nomatch hx
  | @cons p q ps qs hq t ih =>
   intro x hx
   rcases ZF.mp hx with e | hx
   ·subst e;exact EL ok (by rw[<- hq.1];exact hq.2.1)
   ·exact ih x hx
 exact all r x hx
theorem Og{kvs:List (List Key × V)}(ok:HOk P w H h)(e:H a=some (.dT kvs)):kvs.length<=sizeLine/\(a == sysModules)=false /\
 ∃xs,KT H kvs xs/\h.DictOfH (tupleKind (BK P w)) a xs:=D5 ok (.inl e)
end
def DGet(H:Hp)(a:Addr)(y:V)(r:Option V):Prop :=
 (∃kvs k,Rd H a (.dK kvs)/\y=kV k/\r=valV kvs k)\/∃kvs k b,Rd H a (.dT kvs)/\y=.ref b/\H b=some (.tup (k.map kV))/\r=valV kvs k
def DPut(H:Hp)(a:Addr)(y v:V)(H':Hp):Prop :=
 (∃kvs k,H a=some (.dK kvs)/\y=kV k/\kvs.length < sizeLine/\H'=upd H a (.dK (Ar kvs k v))) \/
 ∃kvs k b,H a=some (.dT kvs)/\y=.ref b/\H b=some (.tup (k.map kV))/\kvs.length < sizeLine/\H'=upd H a (.dT (Ar kvs k v))
theorem DGet.k{H:Hp}{a:Addr}{kvs:List (Key × V)}{k:Key}(e:H a=some (.dK kvs)):DGet H a (kV k) (valV kvs k):=.inl ⟨kvs,k,.inl e,rfl,rfl⟩
theorem DGet.t{H:Hp}{a b:Addr}{kvs:List (List Key × V)}{k:List Key}(e:H a=some (.dT kvs))(eb:H b=some (.tup (k.map kV))):DGet H a (.ref b) (valV kvs k):=.inr ⟨kvs,k,b,.inl e,rfl,eb,rfl⟩
theorem DPut.k{H:Hp}{a:Addr}{kvs:List (Key × V)}{k:Key}{v:V}(e:H a=some (.dK kvs))(hl:kvs.length < sizeLine):DPut H a (kV k) v (upd H a (.dK (Ar kvs k v))):=.inl ⟨kvs,k,e,rfl,hl,rfl⟩
theorem DPut.t{H:Hp}{a b:Addr}{kvs:List (List Key × V)}{k:List Key}{v:V}(e:H a=some (.dT kvs))(eb:H b=some (.tup (k.map kV)))(hl:kvs.length < sizeLine) :
 DPut H a (.ref b) v (upd H a (.dT (Ar kvs k v))):=.inr ⟨kvs,k,b,e,rfl,eb,hl,rfl⟩
section
variable {X:Cx}{pins:List (Addr × Obj)}{σ:St}{H:Hp}{s:Shared}{a:Addr}{y v:V}{u r:Value}{o:Option V}{A:Around}{E:Value->Shared->Prop}
theorem Inv.big(I:Inv X pins σ H s):sysModules < s.heap.objs.size:=by
 have h:mainGlobals < s.heap.objs.size:=(I.mod.glob.keeps I.bk).lt;exact Z7 (by decide) h
theorem QT{Q:Value->Shared->Prop}(hu:A.units+1 < cLine)(I:Inv X pins σ H s)(g:DGet H a y (some v))(ry:RelV y u)(h:∀w' s',Inv X pins σ H s'->RelV v w'->Q w' s') :
 wpAny (model X.prog X.w) A (getItem (.ref a) u) Q E s:=by
 rcases g with ⟨kvs,k,e,ey,l⟩ | ⟨kvs,k,b,e,ey,eb,l⟩
 ·subst ey;obtain⟨z,hd,vs,rel,dd⟩:=DZ I.hok e;obtain⟨w',hw,rw'⟩:=RelO.some_of (v:=v) (o:=valueAt vs k) (by rw[l];exact rel.val k);exact wpAny_getItem_of (Eg ry) dd.mapOf hw (h w' _ (I.tok _) rw')
 ·subst ey;cases (show u=Value.ref b from ry);obtain⟨z,hd,xs,rel,dd⟩:=D5 I.hok e;obtain⟨w',hw,rw'⟩:=RelO.some_of (v:=v) (o:=(atKey xs k).map (·.2)) (by rw[l];exact rel.val k);obtain⟨p,hp,hp2⟩:=Option.map_eq_some_iff.mp hw;refine wpAny_getItem_heap (tupleKind_room_in1 hu) (EL I.hok eb) dd hp ?_;rw[hp2];exact h w' _ (I.tok _) rw'
theorem Oi{Q:Value->Shared->Prop}(hu:A.units+1 < cLine)(I:Inv X pins σ H s)(g:DGet H a y o)(ry:RelV y u)(h:∀s',Inv X pins σ H s'->Q (.bool (!o.isSome)) s') :
 wpAny (model X.prog X.w) A (compareOp .NotIn u (.ref a)) Q E s:=by
 rcases g with ⟨kvs,k,e,ey,l⟩ | ⟨kvs,k,b,e,ey,eb,l⟩
 ·subst ey;obtain⟨z,hd,vs,rel,dd⟩:=DZ I.hok e;refine wpAny_notIn_of (Eg ry) hd dd.mapOf ?_;rw[<- (rel.val k).isSome_eq,<- l];exact h _ (I.tok _)
 ·subst ey;cases (show u=Value.ref b from ry);obtain⟨z,hd,xs,rel,dd⟩:=D5 I.hok e;refine wpAny_notIn_heap (tupleKind_room_in1 hu) (EL I.hok eb) hd dd ?_;have q:=(rel.val k).isSome_eq;rw[Option.isSome_map]at q;rw[<- q,<- l];exact h _ (I.tok _)
theorem L3{h':Heap}{t':Nat}{ob:HO}(I:Inv X pins σ H s)(mu:Mut (H a))(hs:Heap.SameBut a s.heap h')(he:∃q,h'.get? a=some q)(new:ObjOk X.prog X.w (upd H a ob) h' a ob) :
 Inv X pins σ (upd H a ob) { s with heap:=h',toks:=t' } :=
 I.write (x:=a) (e:=a) mu (.inl rfl) (fun b q hb z=>(hs.2 b hb).trans z) he new
theorem Tc{P:Program}{w:World}{H':Hp}{h':Heap}{kvs:List (Key × V)}{vs:List (Key × Value)}(z:kvs.length<=sizeLine)(hd:(a == sysModules)=false)(rel:KV kvs vs)(dd:h'.DictOf (BK P w) a vs) :
 ObjOk P w H' h' a (.dK kvs):=⟨z,hd,vs,rel,dd⟩
theorem Ss{H':Hp}{Q:Unit->Shared->Prop}(hu:A.units+1 < cLine)(I:Inv X pins σ H s)(g:DPut H a y v H')(ry:RelV y u)(rv:RelV v r)(h:∀s',Inv X pins σ H' s'->Q () s') :
 wpAny (model X.prog X.w) A (setItem (.ref a) u r) Q E s:=by
 rcases g with ⟨kvs,k,e,ey,l,eH⟩ | ⟨kvs,k,b,e,ey,eb,l,eH⟩
 ·subst ey eH;obtain⟨z,hd,vs,rel,dd⟩:=Lm I.hok e;have hz:vs.length<=sizeLine:=by rw[<- rel.length];exact z
  have hl:(Ar kvs k v).length<=sizeLine:=by have:=Ka kvs k v;lia
  refine wpAny_setItem_pairs (hsz:=hz) (Eg ry) dd fun h' dd' hs=>h _ ?_
  have he:∃q,h'.get? a=some q:=let ⟨q,_,_,hq,_⟩:=dd';⟨q,hq⟩;exact L3 I (by rw[e];exact True.intro) hs he (Tc hl hd (rel.put k rv) dd')
 ·subst ey eH;cases (show u=Value.ref b from ry);obtain⟨z,hd,xs,rel,dd⟩:=Og I.hok e;have hz:xs.length<=sizeLine:=by rw[<- Paired.length rel];exact z
  have hl:(Ar kvs k v).length<=sizeLine:=by have:=Ka kvs k v;lia
  refine wpAny_setItem_heap (hsz:=hz) (tupleKind_room_in1 hu) (EL I.hok eb) dd fun h' dd' hs=>h _ ?_
  obtain⟨q,es,ep,hq,h2,h3,h4,_,h5⟩:=dd';refine L3 I (by rw[e];exact True.intro) hs ⟨q,hq⟩ ⟨hl,hd,_,(rel.put k eb rv).keeps fun c ys ec=>?_,q,es,ep,hq,h2,h3,h4,h5⟩;rw[AM (CZ ec e (fun z=>nomatch z))];exact ec
end
section
variable {X:Cx}{pins:List (Addr × Obj)}{σ:St}{H:Hp}{s:Shared}{a:Addr}{kvs:List (Key × V)}{k:Key}{u:Value}{A:Around}{E:Value->Shared->Prop}
end
def KL(i:Expr):Prop:=∀ov iv,subscripted i false ov iv=operate [ov,iv] (getItem ov iv)
theorem QO {prog:Program} {w:World} {A:Around} {E:Value->Shared->Prop} {s:Shared} {env:Env} {value slice:Expr} {pos:Pos} {T id:String} {Q:Value->Shared->Prop}
 (hl:typeLookup (.type T) "__getitem__" = pure (some (.builtin id))) (hs:KL slice)
 (h:wpAny (model prog w) A (eval value env) (fun o s₁=>wpAny (model prog w) A (eval slice env) (fun i s₂=>s₂.TypeIs o T/\wpAny (model prog w) A (getItem o i) Q E s₂) E s₁) E s) :
 wpAny (model prog w) A (eval (.Subscript value slice pos) env) Q E s:=by
 refine Subscript_ (Zv h (fun o s₁ h₁=>Zv h₁ (fun i s₂ h₂=>?_) fun _ _ x=>x) fun _ _ x=>x);obtain⟨hT,h₂⟩:=h₂;unfold subscriptTail;refine ZA ?_;rw[getitemInPython_of_ne hT.not_modules];refine ZA (wpAny_specialOf hT hl ?_)
 have fin:wpAny (model prog w) A (subscripted slice false o i) (fun r s₃=>wpAny (model prog w) A (letTemporaryGo value o r >>= fun _=>pure r) Q E s₃) E s₂:=by
  rw[hs o i];exact wpAny_operating (Zv h₂ (fun r s₃ h₃=>ZA (wpAny_letTemporaryGo (ZB h₃))) fun _ _ x=>x)
 first
  | exact ZB (ZA fin)
  | exact ZA (ZB (ZA fin))
  | exact ZA fin
theorem SV{X:Cx}{pins:List (Addr × Obj)}{σ:St}{H:Hp}{s:Shared}{a:Addr}{y:V}{o:Option V}(I:Inv X pins σ H s)(g:DGet H a y o):s.TypeIs (.ref a) "dict":=by
 rcases g with ⟨kvs,k,e,_,_⟩ | ⟨kvs,k,b,e,_,_,_⟩
 ·obtain⟨_,_,vs,_,dd⟩:=DZ I.hok e;exact dd.typeIs
 ·obtain⟨_,_,xs,_,dd⟩:=D5 I.hok e;exact dd.typeIs
def RC(td ty:TE):TE:=fun σ H Q=>td σ H fun x H1=>ty σ H1 fun y H2=>∃a v,x=.ref a/\DGet H2 a y (some v)/\Q v H2
def Li(td ty tv:TE):TS:=fun D σ H=>tv σ H fun v H1=>td σ H1 fun x H2=>ty σ H2 fun y H3=>∃a H4,x=.ref a/\DPut H3 a y v H4/\D.nx σ H4
section
variable {X:Cx}{o i e value:Expr}{pos pos' tpos:Pos}{td ty tv:TE}
theorem Ls(hu:X.A.units+1 < cLine)(ho:PE X o td)(hi:PE X i ty)(hs:KL i):PE X (.Subscript o i pos) (RC td ty):=by
 intro pins s σ H Q I h;refine QO PySem.F.slot_dict_getitem.lookup hs (thn (ho pins s σ H _ I h) fun u s1 ⟨x,H1,I1,rx,q1⟩=>thn (hi pins s1 σ H1 _ I1 q1) fun iv s2 ⟨y,H2,I2,ry,a,v,ex,g,q2⟩=>?_);subst ex;obtain rfl:u=Value.ref a:=rx;exact⟨SV I2 g,QT hu I2 g ry fun w' s3 I3 rw'=>⟨v,H2,I3,rw',q2⟩⟩
theorem GQ(hu:X.A.units+1 < cLine)(ho:PE X o td)(hi:PE X i ty)(hv:PE X value tv)(hs:swapsWith value (some (.Subscript o i pos')) pos.line X.env=pure false) :
 PS X (.Assign [.Subscript o i pos'] value pos) (Li td ty tv):=by
 intro pins s σ H D I h;refine wpAny_Assign_Subscript (thn (hv pins s σ H _ I h) fun r s1 ⟨v,H1,I1,rv,q1⟩=>thn (ho pins s1 σ H1 _ I1 q1) fun u s2 ⟨x,H2,I2,rx,q2⟩=>thn (hi pins s2 σ H2 _ I2 q2) fun iv s3 ⟨y,H3,I3,ry,a,H4,ex,g,q3⟩=>?_) hs;subst ex;obtain rfl:u=Value.ref a:=rx;exact Ss hu I3 g ry rv fun s4 I4=>⟨σ,H4,I4,q3⟩
end
theorem Sz{P:Program}{w:World}{H:Hp}(h:Heap)(hb:sysModules < h.objs.size):ObjOk P w H (h.push { cls:=.type "dict",data:=.dict #[] }) h.objs.size (.dK []) :=
 ⟨ZU _,beq_eq_false_iff_ne.mpr (Ne.symm (ZQ hb)),[],.nil,Heap.DictOf.new h⟩
theorem TN{P:Program}{w:World}{H:Hp}(h:Heap)(hb:sysModules < h.objs.size):ObjOk P w H (h.push { cls:=.type "dict",data:=.dict #[] }) h.objs.size (.dT []) :=
 ⟨ZU _,beq_eq_false_iff_ne.mpr (Ne.symm (ZQ hb)),[],.nil,_,#[],0,ZR _ rfl,⟨rfl,rfl,rfl⟩,rfl,rfl,List.nodup_nil⟩
def TD:TE:=fun _ H Q=>∀p,H p=none->Q (.ref p) (upd H p (.dK []))
def Mf:TE:=fun _ H Q=>∀p,H p=none->Q (.ref p) (upd H p (.dT []))
section
variable {X:Cx}{pos:Pos}
theorem Hl:PE X (.Dict [] [] pos) TD:=fun pins s σ H Q I h =>
 wpAny_Dict_empty ⟨.ref s.heap.objs.size,_,I.laid (a:=s.heap.objs.size) (o:=.dK []) (t':=s.toks) (fun _ _ q=>ZJ _ q) (ZD _) (Sz s.heap I.big),rfl,h _ (I.hok.fresh (ZD _))⟩
theorem OZ:PE X (.Dict [] [] pos) Mf:=fun pins s σ H Q I h =>
 wpAny_Dict_empty ⟨.ref s.heap.objs.size,_,I.laid (a:=s.heap.objs.size) (o:=.dT []) (t':=s.toks) (fun _ _ q=>ZJ _ q) (ZD _) (TN s.heap I.big),rfl,h _ (I.hok.fresh (ZD _))⟩
end
structure M1(X:Cx)(o:Expr)(m:Str)(apos:Pos)(e:Expr)(cpos:Pos):Prop where
 base:attributeBase o m X.env (eval o X.env)=eval o X.env
 few:((backTo cpos (starEach [e] X.env)).all (fun x=>!x.1) && (backToKw cpos (keywordEach [] X.env)).all (fun x=>x.1.isSome)
  && decide (([e]:List Expr).length+([]:List Keyword).length+(if ([]:List Keyword).isEmpty then 0 else 1) < 30))=true
 line:(apos.endLine == cpos.line)=true
 trees:backTo cpos (starEach [e] X.env)=[(false,eval e X.env)]
structure M2(X:Cx)(o:Expr)(m:Str)(apos:Pos)(e f:Expr)(cpos:Pos):Prop where
 base:attributeBase o m X.env (eval o X.env)=eval o X.env
 few:((backTo cpos (starEach [e,f] X.env)).all (fun x=>!x.1) && (backToKw cpos (keywordEach [] X.env)).all (fun x=>x.1.isSome)
  && decide (([e,f]:List Expr).length+([]:List Keyword).length+(if ([]:List Keyword).isEmpty then 0 else 1) < 30))=true
 line:(apos.endLine == cpos.line)=true
 trees:backTo cpos (starEach [e,f] X.env)=[(false,eval e X.env),(false,eval f X.env)]
def IsD(H:Hp)(a:Addr):Prop:=(∃kvs,Rd H a (.dK kvs))\/∃kvs,Rd H a (.dT kvs)
theorem Ox{X:Cx}{pins:List (Addr × Obj)}{σ:St}{H:Hp}{s:Shared}{a:Addr}(I:Inv X pins σ H s)(d:IsD H a) :
 s.TypeIs (.ref a) "dict" /\ (∀b,Value.ref a=.ref b->∃ob,s.heap.get? b=some ob/\ob.dict=none)/\(a == sysModules)=false:=by
 rcases d with ⟨kvs,e⟩ | ⟨kvs,e⟩
 ·obtain⟨_,hd,vs,_,dd⟩:=DZ I.hok e;refine⟨dd.typeIs,fun b q=>?_,hd⟩;cases q;obtain⟨ob,_,_,h1,h2,_⟩:=dd;exact⟨ob,h1,h2.2.1⟩
 ·obtain⟨_,hd,xs,_,dd⟩:=D5 I.hok e;refine⟨dd.typeIs,fun b q=>?_,hd⟩;cases q;obtain⟨ob,_,_,h1,h2,_⟩:=dd;exact⟨ob,h1,h2.2.1⟩
section
variable {X:Cx}{pins:List (Addr × Obj)}{σ:St}{H:Hp}{s:Shared}{a:Addr}{y d:V}{u r:Value}{o:Option V}{A:Around}{E:Value->Shared->Prop}
theorem O8{Q:Value->Shared->Prop}(hu:A.units+1 < cLine)(I:Inv X pins σ H s)(g:DGet H a y o)(ry:RelV y u)(rd:RelV d r)(h:∀w' s',Inv X pins σ H s'->RelV (o.getD d) w'->Q w' s') :
 wpAny (model X.prog X.w) A (call (.builtin "dict.get") [.ref a,u,r]) Q E s:=by
 rcases g with ⟨kvs,k,e,ey,l⟩ | ⟨kvs,k,b,e,ey,eb,l⟩
 ·subst ey;obtain⟨z,hd,vs,rel,dd⟩:=DZ I.hok e;refine call_meetsIn PySem.F.slot_dict_get dd.typeIs PySem.F.entry_dict_get (PySem.F.args_dict_get_3 _ _ _) (meets_dict_get_default (BK X.prog X.w) a (Eg ry) hd r) ⟨_,dd.mapOf,h _ _ (I.tok _) ?_⟩;rw[l];exact(rel.val k).getD rd
 ·subst ey;cases (show u=Value.ref b from ry);obtain⟨z,hd,xs,rel,dd⟩:=D5 I.hok e;refine call_meetsIn PySem.F.slot_dict_get dd.typeIs PySem.F.entry_dict_get (PySem.F.args_dict_get_3 _ _ _) (meetsH_dict_get_default (tupleKind (BK X.prog X.w)) a b hd r) ⟨tupleKind_room_in1 hu,k,xs,EL I.hok eb,dd,h _ _ (I.tok _) ?_⟩;rw[l];exact(rel.val k).getD rd
end
def Ru(td ty tx:TE):TE:=fun σ H Q=>td σ H fun x H1=>∃a,x=.ref a/\IsD H1 a/\ty σ H1 fun y H2=>tx σ H2 fun z H3=>∃o,DGet H3 a y o/\Q (o.getD z) H3
section
variable {X:Cx}{o e f:Expr}{apos cpos:Pos}{td ty tx:TE}
theorem L5(hu:X.A.units+1 < cLine)(ho:PE X o td)(he:PE X e ty)(hf:PE X f tx)(m:M2 X o "get" apos e f cpos):PE X (.Call (.Attribute o "get" apos) [e,f] [] cpos) (Ru td ty tx):=by
 intro pins s σ H Q I h;refine wpAny_Call_method m.base m.few m.line PySem.F.plainAttrs_dict PySem.F.slot_dict_get PySem.F.type_dict_get (thn (ho pins s σ H _ I h) fun u s1 ⟨x,H1,I1,rx,a,ex,d,q1⟩=>?_);subst ex;obtain rfl:u=Value.ref a:=rx;obtain⟨t1,t2,_⟩:=Ox I1 d;refine⟨t1,t2,?_⟩;rw[m.trees]
 refine Calls.callWith_builtin rfl (Calls.evalArgs_plain (Calls.spliced_cons (thn (he pins s1 σ H1 _ I1 q1) fun iv s2 ⟨y,H2,I2,ry,q2⟩ =>
  Calls.spliced_cons (thn (hf pins s2 σ H2 _ I2 q2) fun fv s3 ⟨z,H3,I3,rz,ov,g,q3⟩=>Calls.spliced_nil ?_))))
 exact O8 hu I3 g ry rz fun w' s4 I4 rw'=>⟨_,H3,I4,rw',q3⟩
end
section
variable {X:Cx}{pins:List (Addr × Obj)}{σ:St}{H:Hp}{s:Shared}{a:Addr}{kvs:List (Key × V)}{A:Around}{E:Value->Shared->Prop}
end
section
variable {X:Cx}{pins:List (Addr × Obj)}{σ:St}{H:Hp}{s:Shared}{a:Addr}{y:V}{u:Value}{A:Around}{E:Value->Shared->Prop}
end
theorem TF{M:Model}{A:Around}{E:Value->Shared->Prop}{s:Shared}{b:Bool}{Q:Int->Shared->Prop}(h:Q (if b=true then 1 else 0) s):wpAny M A (Builtin.Int.intOfSelf (.bool b)) Q E s:=by
 unfold Builtin.Int.intOfSelf;exact ZB h
theorem P2{prog:Program}{w:World}{A:Around}{E:Value->Shared->Prop}{s:Shared}{b:Bool}{Q:Int->Shared->Prop}(h:Q (if b=true then 1 else 0) { s with toks:=s.toks+1 }):wpAny (model prog w) A (pyHash (.bool b)) Q E s:=by
 show wpAny _ _ (pyHashByItsType (.bool b)) _ _ _;refine PySem.W.pyHash_slot (T:="bool") rfl PySem.F.slot_bool_hash PySem.F.entry_int_hash (PySem.F.args_int_hash_1 _) rfl (.inl rfl) ?_;unfold Builtin.«int.__hash__» Builtin.Int.intSlot0;refine ZA (ZA ?_);show wpAny _ _ (pure (Value.bool b,[])) _ _ _;refine ZB (ZA (TF (ZB ?_)));cases b with
 | true=>exact ZA (wpAny_mkInt (ZB ⟨_,_,rfl,h⟩))
 | false=>exact ZA (wpAny_mkInt (ZB ⟨_,_,rfl,h⟩))
def Ik:Bool->Value->Bool
 | b,.bool c=>b == c
 | _,_=>false
theorem C5{b:Bool}{v:Value}(h:Ik b v=true):v=.bool b:=by
 unfold Ik at h;split at h
 ·rw[beq_iff_eq.mp h]
 ·cases h
def P4(prog:Program)(w:World):PySem.KeyKind prog w Bool where
 is:=Ik
 hash:=fun b=>if b=true then 1 else 0
 inj:=fun v a b ha hb=>by
  have e1:=C5 ha;have e2:=C5 hb;rw[e1]at e2;injection e2
 byValue:=fun k v h=>by rw[C5 h];rfl
 pyHash:=fun hv h=>by rw[C5 hv];exact P2 h
 eqBool:=fun {A E s a b u v Q} hu hv h=>by
  rw[C5 hu,C5 hv];refine SeqAt.EqAt.bool_bool a b _ _ _ _ ?_;have e:(a == b)=decide (a=b):=by cases a <;> cases b <;> rfl
  rw[e];exact h
 «strs»:=fun k x t v h=>by
  have:=C5 h
  cases this
section
variable {P:Program}{w:World}{H:Hp}{h:Heap}{a:Addr}
end
section
variable {X:Cx}{o i e value:Expr}{pos pos' tpos:Pos}{td ty tv:TE}
end
section
variable {X:Cx}{P:Program}{w:World}{o i:Expr}{pos:Pos}{td ty:TE}
end
section
variable {X:Cx}{K:W.Frag}{o:Expr}{to:TE}{apos cpos:Pos}
end
theorem RY{K:W.Frag}{T:String}{r:V->List V->Hp->VK->Prop}{to:TE}(h1:AZ to)(h3:EO r):AZ (Ga K T r to):=fun σ H Q Q' h q=>h1 _ _ _ _ (fun _ _ q=>⟨q.1,h3 _ _ _ _ _ h q.2⟩) q
section
variable {X:Cx}
end
def TyS(K:W.Frag)(H:Hp)(x:V)(t:String):Prop:=match x with
 | .int _=>t = "int"
 | .bl _=>t = "bool"
 | .ref a=>(t = "tuple" /\ ∃xs,SqT K H a xs)\/(t = "list" /\ ∃xs,SqL K H a xs)
 | _=>False
def BG(t T:String):Bool:=t == T || (t == "bool" && T == "int")
section
variable {X:Cx}{K:W.Frag}
theorem ML{pins:List (Addr × Obj)}{σ:St}{H:Hp}{s:Shared}{x:V}{u:Value}{t:String}(I:Inv X pins σ H s)(rx:RelV x u)(h:TyS X.K H x t) :
 (t = "int" \/ t = "bool" \/ t = "tuple" \/ t = "list")/\u≠Value.builtin "__main__.__loader__#opaque" /\ ∃Hh:Heap->Prop,PySem.W.KitX X.K u (.type t) Hh/\Hh s.heap:=by
 cases x with
 | int i =>
  obtain⟨k,rfl⟩:=(show ∃t,u=Value.int i t from rx);cases (show t = "int" from h);exact⟨.inl rfl,(fun z=>nomatch z),_,PySem.W.kitx_int,True.intro⟩
 | bl b =>
  cases (show u=Value.bool b from rx);cases (show t = "bool" from h);exact⟨.inr (.inl rfl),(fun z=>nomatch z),_,PySem.W.kitx_bool,True.intro⟩
 | ref a =>
  cases (show u=Value.ref a from rx)
  rcases h with ⟨rfl,xs,hq⟩ | ⟨rfl,xs,hq⟩
  ·obtain⟨its,rv,p,_⟩:=I.tuple hq;obtain⟨o,h1,h2,_⟩:=p;exact⟨.inr (.inr (.inl rfl)),(fun z=>nomatch z),_,PySem.W.kitx_tuple,⟨o,h1,h2⟩⟩
  ·obtain⟨its,rv,p,_⟩:=I.list hq;obtain⟨o,n,h1,h2,_⟩:=p;exact⟨.inr (.inr (.inr rfl)),(fun z=>nomatch z),_,PySem.W.kitx_list,⟨o,h1,h2⟩⟩
 | _=>exact False.elim h
end
def Ie(i:Int):Bool:=decide (i.natAbs.log2 < 1900)
section
variable {X:Cx}{pins:List (Addr × Obj)}{σ:St}{H:Hp}{s:Shared}
end
section
variable {X:Cx}{K:W.Frag}
end
open AutoSeq1 (wpAny_loadPart')
section
variable {prog:Program}{w:World}{A:Around}{E:Value->Shared->Prop}{s:Shared}
theorem QY {j tp:Addr} {k:Nat} {its:Array Value} {z:Value} {Q:Value->Shared->Prop} (hj:s.heap.IsTupleIter j tp k) (hp:s.heap.IsTuple tp its) (hz:its[k]? = some z)
 (q:∀h',h'.IsTupleIter j tp (k+1)->Heap.SameBut j s.heap h'->Q z { s with heap:=h' }):wpAny (model prog w) A (Builtin.SmallTypes.nextOf (.ref j)) Q E s:=by
 obtain⟨ob,g1,g2,g3⟩:=id hj;obtain⟨ol,k1,_,nl,k3⟩:=hp;unfold Builtin.SmallTypes.nextOf;refine ZA (wpAny_callSpecial?_slot (name:=Str.ofString "__next__") hj.typeIs F.slot_tuple_iterator_next (Zx F.slot_tuple_iterator_next hj.typeIs F.entry_tuple_iterator_next ?_ (F.args_tuple_iterator_next_1 _)));show wpAny _ _ (field (.ref j) 0 >>= _) _ _ s;refine ZA (Z6 g1 g3 (x:=.ref tp) rfl ?_);show wpAny _ _ (if (Value.ref tp == Value.none)=true then _ else _) _ _ s;rw[if_neg (c:=(Value.ref tp == Value.none)=true) (fun z=>Zq z)];show wpAny _ _ (field (.ref j) 1 >>= _) _ _ s;refine ZA (Z6 g1 g3 (x:=.int k 0) rfl ?_);show wpAny _ _ (seqItems? (.ref tp) >>= _) _ _ s;refine ZA (wpAny_seqItems k1 k3 ?_);simp only[ZY,hz];refine ZA (ZBQ g1 g3 (by simp) (ZB ⟨z,rfl,ZB (q _ ?_ (ZBE ..))⟩));refine⟨_,ZBc _ g1 (Obj.isFreed_of_fields (Obj.data_mapFields g3 _)),(Obj.cls_mapFields ..).trans g2,?_⟩;rw[Obj.data_mapFields g3];simp[rawInt]
theorem MH {j tp:Addr} {k:Nat} {its:Array Value} {Q:Value->Shared->Prop} (hh:A.handled=none) (hj:s.heap.IsTupleIter j tp k) (hp:s.heap.IsTuple tp its) (hz:its[k]? = none)
 (q:∀h' e,Heap.ExtBut j s.heap h'->(∃o,h'.get? e=some o/\o.cls=.type "StopIteration")->E (.ref e) { s with heap:=h' }):wpAny (model prog w) A (Builtin.SmallTypes.nextOf (.ref j)) Q E s:=by
 obtain⟨ob,g1,g2,g3⟩:=id hj;obtain⟨ol,k1,_,nl,k3⟩:=hp;unfold Builtin.SmallTypes.nextOf;refine ZA (wpAny_callSpecial?_slot (name:=Str.ofString "__next__") hj.typeIs F.slot_tuple_iterator_next (Zx F.slot_tuple_iterator_next hj.typeIs F.entry_tuple_iterator_next ?_ (F.args_tuple_iterator_next_1 _)));show wpAny _ _ (field (.ref j) 0 >>= _) _ _ s;refine ZA (Z6 g1 g3 (x:=.ref tp) rfl ?_);show wpAny _ _ (if (Value.ref tp == Value.none)=true then _ else _) _ _ s;rw[if_neg (c:=(Value.ref tp == Value.none)=true) (fun z=>Zq z)];show wpAny _ _ (field (.ref j) 1 >>= _) _ _ s;refine ZA (Z6 g1 g3 (x:=.int k 0) rfl ?_);show wpAny _ _ (seqItems? (.ref tp) >>= _) _ _ s;refine ZA (wpAny_seqItems k1 k3 ?_);simp only[ZY,hz];refine ZA (wpAny_rule (ZA (ZBQ g1 g3 (by simp) ?_)));show wpAny _ _ (newExc (.type "StopIteration") [] >>= fun z=>_) _ _ _;refine ZA ?_;simp only[newExc,newTuple];refine ZA (Zk (hd:=by size_fits) ?_);refine ZA (m:=firstArgMember _ _) (wpAny_of_eq (a:=Value.none) (by first | (simp only[firstArgMember];rfl) | rfl) ?_);refine Zk (hd:=by size_fits) ?_;simp only[raiseNew];refine ZA (wpAny_handled ?_)
 first | rw[hh] | rw[show A.in1.handled=none from hh]
 refine ZA (ZB (wpAny_throw ?_));exact q _ _ (((ZBE ..).extBut.push _).push _) ⟨_,ZR _ rfl,rfl⟩
theorem Np(hh:A.handled=none)(j tp:Addr)(hne:tp≠j)(its:Array Value) :
 Draws prog w A j [j,tp] its.size (fun k v=>its[k]? = some v) (fun k h=>h.IsTupleIter j tp k/\h.IsTuple tp its) where
 live:=fun _ _ st=>by obtain⟨⟨o,ho,_⟩,_⟩:=st;exact⟨o,ho⟩
 frame:=fun _ _ _ st hk=>by
  obtain⟨st1,o,h1,h2⟩:=st;exact⟨st1.at fun o e=>hk j (by simp) o e,o,hk tp (by simp) o h1,h2⟩
 item:=fun k s Q E hi st hQ=>by
  refine QY st.1 st.2 (z:=its[k]) (by simp[hi]) fun h' h1 h2=>?_
  exact hQ _ h' s.toks (by simp[hi]) ⟨h1,st.2.extBut h2.extBut hne⟩ h2
 done:=fun s Q E st hE=>MH hh st.1 st.2 (by simp) hE
theorem TY(tp:Addr)(its:Array Value)(n:Nat)(dct:Option Addr)(sl:Array (Option Value)) :
 Meets (Builtin.«enumerate.__new__» ⟨[.type "enumerate",.ref tp],[]⟩) (fun _ R s=>s.heap.get? tp=some { cls:=.type "tuple",dict:=dct,data:=.seq its n,slots:=sl } /\
  R (.ok (.ret (.ref (s.heap.push { cls:=.type "tuple_iterator",data:=.fields #[.ref tp,.int 0 0] }).objs.size)))
   { s with heap:=(s.heap.push { cls:=.type "tuple_iterator",data:=.fields #[.ref tp,.int 0 0] }).push { cls:=.type "enumerate",data:=.fields #[.none,.bool false,.ref s.heap.objs.size,rawInt 0,.none,.none] } }) :=
 .of_wp fun prog w A R s h=>by
  obtain⟨hp,g,d,tk,os⟩:=s;obtain⟨hl,h⟩:=h;have hsub:=sub_enumerate;have ht:Heap.IsTuple (Shared.heap ⟨hp,g,d,tk,os⟩) tp its:=⟨_,hl,rfl,n,rfl⟩
  wp_walk using wpAny_loadPart' hl
  refine wpAny_stack_any fun st=>ZB ?_
  split
  ·rename_i c _ _ _ _ _;cases (c == Value.type "enumerate") <;> (wp_walk using wpAny_loadPart' hl,wpAny_pyIter_tuple ht;exact⟨_,rfl,h⟩)
  ·wp_walk using wpAny_loadPart' hl,wpAny_pyIter_tuple ht
   exact⟨_,rfl,h⟩
theorem Na {tp:Addr} {its:Array Value} {Q:Value->Shared->Prop} (ht:s.heap.IsTuple tp its)
 (h:∀h',IsEnum h' (s.heap.objs.size+1) s.heap.objs.size 0 .none->h'.IsTupleIter s.heap.objs.size tp 0->(∀b o,s.heap.get? b=some o->h'.get? b=some o)->Q (.ref (s.heap.objs.size+1)) { s with heap:=h' }) :
 wpAny (model prog w) A (call (.type "enumerate") [.ref tp]) Q E s:=by
 obtain⟨⟨c,dct,dt,sl⟩,hl,hc,n,hd⟩:=ht;cases (show c=.type "tuple" from hc);cases (show dt=.seq its n from hd);refine callType_new F.called_enumerate (by decide) (F.typeCall_enumerate_1 _) (F.newCall_enumerate_1 _) (fun obj=>F.args_object_init_2 obj _) F.entry_enumerate_new (TY tp its n dct sl) ⟨hl,?_⟩;have z1:(s.heap.push { cls:=.type "tuple_iterator",data:=.fields #[.ref tp,.int 0 0] }).objs.size=s.heap.objs.size+1:=Z2 ..;show _/\_;rw[z1];have z2:=ZR (s.heap.push { cls:=.type "tuple_iterator",data:=.fields #[.ref tp,.int 0 0] }) (o:={ cls:=.type "enumerate",data:=.fields #[.none,.bool false,.ref s.heap.objs.size,rawInt 0,.none,.none] }) rfl;rw[z1]at z2;have z3:IsEnum _ (s.heap.objs.size+1) s.heap.objs.size 0 .none:=z2;exact⟨⟨_,z2,rfl⟩,h _ z3 ⟨_,ZJ _ (ZR _ rfl),rfl,rfl⟩ fun b o x=>ZJ _ (ZJ _ x)⟩
end
def HW(K:W.Frag)(l:Addr):It :=
 ⟨fun i H=>∃xs x,SqT K H l xs/\xs[i]? = some x,
  fun i H v H'=>∃p x,H p=none/\v=.ref p/\H'=upd H p (.tup [.int i,x])/\∀xs,SqT K H l xs->xs[i]? = some x,
  fun i H=>∃xs,SqT K H l xs/\xs.length<=i⟩
theorem TQ{P:Program}{w:World}{K:W.Frag}{es:List Expr}{kt:Nat}{tpos:Pos}{e it l:Addr}(hne:e≠it) :
 Turn P w K (.Tuple es kt tpos) (HW K l) [e,it] e (fun i h=>(∃old,IsEnum h e it (i:Int) old)/\h.IsTupleIter it l i) where
 mem:=by simp
 obj:=fun i h st b hb=>by
  obtain⟨⟨old,hz⟩,⟨o1,e1,c1,d1⟩⟩:=st;simp only[ZF,ZBR,or_false]at hb
  rcases hb with rfl | rfl
  ·exact⟨_,hz,fun v q=>nomatch q⟩
  ·exact⟨o1,e1,fun v q=>by rw[d1]at q;cases q⟩
 keep:=fun i h h' ⟨⟨old,hz⟩,h1⟩ k=>⟨⟨old,k e (by simp) _ hz⟩,h1.at fun o q=>k it (by simp) o q⟩
 item:=by
  intro X hP hw hK hc i pins s σ H E I hf st hg;subst hP hw hK;obtain⟨xs,x,hq1,hx⟩:=hg;obtain⟨⟨old,hz⟩,h1⟩:=st;obtain⟨its,rv,p,_⟩:=I.tuple hq1;obtain⟨u,hu,ru⟩:=rv.get hx;have hp:s.heap.IsTuple l its.toArray:=p;have le:l≠e:=fun q=>by obtain⟨o,g1,g2,_⟩:=hp;rw[q]at g1;rw[show s.heap.get? e=_ from hz]at g1;cases g1;exact absurd (show Value.type "enumerate" = Value.type "tuple" from g2) (by decide)
  have li:l≠it:=fun q=>by obtain⟨o,g1,g2,_⟩:=hp;obtain⟨o',g3,g4,_⟩:=h1;rw[q,g3]at g1;cases g1;rw[g4]at g2;exact absurd g2 (by decide)
  refine wpAny_pyNext_enum_itemD (Np (A:=X.A.in1) (show X.A.in1.handled=none from I.ok.hd hc) it l li its.toArray) hz ⟨h1,hp⟩ ?_ hne (by simp[hne,Ne.symm le]) fun y h' tk py z1 z2' z3 z4 z5=>?_
  ·have:=(Zb.mp hu).1
   simpa using this
  obtain⟨z2,_⟩:=z2'
  have ey:y=u:=by
   have:its.toArray[i]? = some u:=by simpa using hu
   rw[this]at py;exact(ZW py).symm
  subst ey;refine⟨_,rfl,?_⟩
  have z5':∀b v,b∉[e,it]->s.heap.get? b=some v->h'.get? b=some v:=fun b v hb q=>by
   simp only[ZF,ZBR,or_false,not_or]at hb;exact z5 b v hb.1 hb.2 q
  have I1:Inv X pins σ (upd H s.heap.objs.size (.tup [.int i,x])) { s with heap:=h' }:=by
   refine I.turnedNew (ch:=[e,it]) (fun b hb=>hf b hb) (ZD _) z5' ?_ fun b hb=>?_
   ·exact⟨smq rfl,[.int i tk,y],.cons ⟨_,rfl⟩ (.cons ru .nil),⟨_,z3,rfl,⟨_,rfl⟩,rfl⟩⟩
   ·simp only[ZF,ZBR,or_false]at hb
    rcases hb with rfl | rfl
    ·exact⟨_,z1⟩
    ·obtain⟨o,q,_⟩:=z2;exact⟨o,q⟩
  refine wpAny_letOwnedTupleGo_enum (s:={ s with heap:=h',toks:=tk+1 }) z1 fun h'' z8 z9=>?_
  have hfz:=hf e (by simp)
  have neT:∀b,b∈[e,it]->b≠s.heap.objs.size:=fun b hb q=>by
   have st':∃o,s.heap.get? b=some o:=by
    simp only[ZF,ZBR,or_false]at hb
    rcases hb with rfl | rfl
    ·exact⟨_,hz⟩
    ·obtain⟨o,q,_⟩:=h1;exact⟨o,q⟩
   obtain⟨o,ho⟩:=st'
   have:=ZI ho
   rw[q]at this;exact ZZ _ this
  have hTH:∀b∈[e,it],upd H s.heap.objs.size (.tup [.int i,x]) b=none:=fun b hb=>by rw[AM (neT b hb)];exact(hf b hb).1
  have I2:Inv X pins σ (upd H s.heap.objs.size (.tup [.int i,x])) { s with heap:=h'',toks:=tk+1 } :=
   I1.turned (t':=tk+1) (fun b o hb q=>(z9.2 b hb).trans q) (hTH e (by simp)) hfz.2.1 hfz.2.2.2.1 hfz.2.2.2.2.1 hfz.2.2.2.2.2
  have up:∀b o,b≠e->h'.get? b=some o->h''.get? b=some o:=fun b o hb q=>(z9.2 b hb).trans q
  exact⟨.ref s.heap.objs.size,_,I2,rfl,⟨_,x,I.hok.fresh (ZD _),rfl,rfl,fun xs' h=>by rw[I.tuple_inj h hq1];exact hx⟩,⟨⟨_,z8⟩,z2.at fun o q=>up _ o (Ne.symm hne) q⟩,hTH⟩
 done:=by
  intro X hP hw hK hc i pins s σ H E I hf st hg;subst hP hw hK;obtain⟨xs,hq1,hl⟩:=hg;obtain⟨⟨old,hz⟩,h1⟩:=st;obtain⟨its,rv,p,_⟩:=I.tuple hq1;have e1:=rv.length;have hp:s.heap.IsTuple l its.toArray:=p;have hT:s.TypeIs (.ref e) "enumerate":=⟨_,hz,rfl⟩;unfold pyNext;refine ZA (wpAny_attempt (wpAny_callSpecial?_slot (name:=Str.ofString "__next__") hT F.slot_enumerate_next (Zx F.slot_enumerate_next hT F.entry_enumerate_next ?_ (F.args_enumerate_next_1 _))));show wpAny _ _ (field (.ref e) 2 >>= fun z=>_) _ _ _;refine ZA (Z6 hz rfl (x:=.ref it) rfl ?_);refine ZA (MH (by first | exact I.ok.hd hc | simpa using I.ok.hd hc) h1 hp (by simp;lia) fun h' x z7 hx'=>?_);obtain⟨o,ho,hcl⟩:=hx';refine ZA (wpAny_isInstance (T:="StopIteration") (b:=true) ⟨o,ho,hcl⟩ isSubtype_stop (ZB ⟨rfl,?_⟩));obtain⟨f0,f1,f2,f3,f4,f5⟩:=hf it (by simp);exact I.turned (t':=s.toks) (fun b o hb q=>z7 b o hb q) f0 f1 f3 f4 f5
 self:=fun _ _ _ _ _ st h=>wpAny_pyIter_enum st.1.choose_spec h
section
variable {X:Cx}
def Rj(K:W.Frag)(ta:TA):TI:=fun σ H R=>ta σ H fun vs H1=>match vs with
 | [.ref a]=>(∃xs,SqT K H1 a xs)/\R (HW K a) H1
 | _=>False
theorem P0 {K:W.Frag} {a:Expr} {ta:TA} {p pos:Pos} {es:List Expr} {kt:Nat} {tpos:Pos} (hg:Gl X "enumerate") (hm:X.mg "enumerate" = none) (ha:PA X [a] ta)
 (hs:starEach [a] X.env=[(false,eval a X.env)]:=by rfl) (hK:X.K=K:=by rfl) :
 PI X (.Tuple es kt tpos) (.Call (.Name "enumerate" p) [a] [] pos) (Rj K ta):=by
 subst hK;intro pins s σ H R I h;refine Call_ (DA I hg hm (by rfl:bootBuiltins "enumerate" = some (.type "enumerate")) (PyProof.Rows.callWith_type1 (thn (ha pos pins s σ H _ I h) fun us s1 ⟨vs,H1,I1,r1,q1⟩=>?_) (by rw[hs];rfl) (by rfl)))
 match vs,q1,r1 with
 | [.ref l1],⟨⟨xs,hx⟩,q⟩,r1 =>
 cases r1 with
 | cons r rr =>
 cases rr;cases r;obtain⟨its,rv,p1,_⟩:=I1.tuple hx;refine Na (its:=its.toArray) p1 fun h' z1 z2 z4=>?_
 refine wpAny_pyIter_enum (s:={ s1 with heap:=h' }) z1 ?_;have I2:Inv X pins σ H1 { s1 with heap:=h' }:=I1.kept (t':=s1.toks) z4;refine⟨_,_,_,_,H1,rfl,I2,TQ (l:=l1) (it:=s1.heap.objs.size) (Nat.ne_of_gt (ZBY _)),⟨⟨_,z1⟩,z2⟩,fun b hb=>?_,q⟩;refine I1.fpOk ?_ (I1.hok.fresh ?_)
 all_goals
  simp only[ZF,ZBR,or_false]at hb
  rcases hb with rfl | rfl
  ·exact Nat.le_succ _
  ·exact ZD _
theorem QH {K:W.Frag} {l:Addr} {xs:List V} {g:TG} {tc:TT} {te:TE} {σc:St} {Q:VK} {H:Hp} (Pv:Nat->List V->Hp->Prop) (h0:Pv 0 [] H) (hl:∀i zs H,i<=xs.length->Pv i zs H->SqT K H l xs) (hz:∀i zs H,i < xs.length->Pv i zs H->zs.length < sizeLine)
 (hs:∀i x zs H p,xs[i]? = some x->Pv i zs H->H p=none->g (.ref p) σc (upd H p (.tup [.int (i:Nat),x])) fun σ2 H2=>tc σ2 H2 fun b H3=>if b=true then te σ2 H3 fun v H4=>Pv (i+1) (zs++[v]) H4 else Pv (i+1) zs H3)
 (hd:∀zs H,Pv xs.length zs H->∀p,H p=none->Q (.ref p) (upd H p (.lst zs))):C3 (HW K l) g tc te σc Q H:=by
 refine⟨fun i m zs H=>m=xs.length - i/\i<=xs.length/\Pv i zs H,⟨xs.length,by simp,ZU _,h0⟩,?_⟩;rintro i m zs H ⟨rfl,hi,p⟩;have q1:=hl i zs H hi p
 by_cases hlt:i < xs.length
 ·refine .inr ⟨⟨xs,xs[i],q1,by simp[hlt]⟩,hz i zs H hlt p,Pv (i+1),fun zs' H' p'=>⟨xs.length - (i+1),by lia,rfl,hlt,p'⟩,?_⟩;rintro v H' ⟨pp,x,hp,rfl,rfl,k1⟩;exact hs i x zs H pp (k1 xs q1) p hp
 ·have e:i=xs.length:=by lia
  subst e;exact .inl ⟨⟨xs,q1,ZD _⟩,hd zs H p⟩
end
structure Feed(H:Hp)(t:Addr):Prop where
 at_:∃a b k c:Int,0<=a/\H t=some (.lst [.int a,.int b,.int k,.int c])
theorem Feed.free{H H':Hp}{t p:Addr}(F:Feed H' t)(h:Frm t H H')(hp:H' p=none):H p=none:=by
 cases e:H p with
 | none=>rfl
 | some o =>
  by_cases hpt:p=t
  ·subst hpt;obtain⟨a,b,k,c,_,h3⟩:=F.at_;rw[h3]at hp;cases hp
  ·rw[h p o hpt e]at hp;cases hp
theorem Lc(a b:Nat):Builtin.bitAnd (a:Int) (b:Int)=((a &&& b:Nat):Int):=by
 unfold Builtin.bitAnd;rw[ZM (ZB7 a),ZM (ZB7 b)];rfl
def iL(xs:List Nat):List V:=xs.map fun i=>V.int (i:Nat)
def iD(xs:List Nat):List Dv:=xs.map fun i=>Dv.int (i:Nat)
theorem Ax(xs:List Nat):(iL xs).length=xs.length:=by unfold iL;rw[ZC]
theorem DG(xs ys:List Nat):iL (xs++ys)=iL xs++iL ys:=by unfold iL;rw[ZK]
theorem Cy{xs:List Nat}{i:Nat}{v:V}(h:(iL xs)[i]? = some v):∃x,xs[i]? = some x/\x∈xs/\v=.int (x:Nat):=by
 unfold iL at h;rw[ZX]at h;cases e:xs[i]? with
 | none=>rw[e]at h;cases h
 | some x=>rw[e]at h;exact⟨x,rfl,Zw e,(ZW h).symm⟩
theorem DK{K:W.Frag}{H:Hp}:∀xs:List Nat,Reps K H (iD xs) (iL xs)
 | []=>by unfold iD iL Reps;rfl
 | x::xs=>by
  show Reps K H (Dv.int (x:Nat)::iD xs) (V.int (x:Nat)::iL xs);unfold Reps;exact⟨_,_,rfl,by unfold Rep;rfl,DK xs⟩
theorem Dh:∀xs:List Nat,A9 (iD xs)=0
 | []=>by unfold iD;simp[A9]
 | x::xs=>by
  show A9 (Dv.int (x:Nat)::iD xs)=_;unfold A9;rw[Dh xs];unfold An;rfl
theorem Rb{H0 H:Hp}{t:Addr}{o:HO}(s:Same H0 H)(ht:H0 t=none):Same H0 (upd H t o):=fun b u e=>by
 rw[AM (CI e ht)];exact s b u e
theorem Same.sqT{K:W.Frag}{H H':Hp}{a:Addr}{xs:List V}(e:Same H H')(h:SqT K H a xs):SqT K H' a xs:=Gz h (fun o k=>e _ _ k)
theorem Same.sqL{K:W.Frag}{H H':Hp}{a:Addr}{xs:List V}(e:Same H H')(h:SqL K H a xs):SqL K H' a xs:=K8 h (fun o k=>e _ _ k)
def MR(f:Nat->Int):Nat->Int
 | 0=>0
 | n+1=>MR f n+f n
def chi:Nat->Nat->Nat->Int
 | 0,_,_=>1
 | n+1,a,b=>(if a % 2=1/\b % 2=1 then -1 else 1) * chi n (a / 2) (b / 2)
def hs(v:Nat->Int)(s k:Nat):Int:=MR (fun j=>chi s (k % 2 ^ s) j * v (k / 2 ^ s * 2 ^ s+j)) (2 ^ s)
def MC:Nat->Nat->Nat
 | 0,_=>0
 | f+1,x=>x % 2+MC f (x / 2)
@[irreducible] def U4(x:Nat):Nat:=MC 64 x
def QX(q:Nat × Int):Dv:=.tup [.int q.1,.int q.2]
structure SumAt(K:W.Frag)(H:Hp)(v:V)(m:Nat)(ts:List (Nat × Int)):Prop where
 at_:∃(a b:Addr) (vs:List V),v=.ref a/\SqT K H a [.int m,.ref b]/\SqT K H b vs/\Reps K H (ts.map QX) vs
def gB(bs:List Bool)(i:Nat):Bool:=bs.getD i false
theorem SR{bs:List Bool}{i:Nat}(h:i < bs.length):gB bs i=bs[i]:=by unfold gB;rw[Zy,ZE h];rfl
theorem Mj{bs:List Bool}{i:Nat}(h:i < bs.length):atI (bs.map V.bl) ((i:Nat):Int)=some (.bl (gB bs i)):=by
 rw[SR h];exact Aq rfl (by rw[ZX,ZE h];rfl)
theorem Feed.lst{H:Hp}{t:Addr}(F:Feed H t):∃zs,H t=some (.lst zs):=by
 obtain⟨a,b,k,c,_,h⟩:=F.at_;exact⟨_,h⟩
section
variable {X:Cx}{K:W.Frag}
end
def Nb(x:Int)(k:Nat):Prop:=x.natAbs < 2 ^ k
theorem Nb.mul{x y:Int}{a b:Nat}(hx:Nb x a)(hy:Nb y b):Nb (x * y) (a+b):=by
 unfold Nb at *;rw[Int.natAbs_mul,Nat.pow_add];exact Nat.mul_lt_mul'' hx hy
theorem Nb.up{x:Int}{a b:Nat}(hx:Nb x a)(h:a<=b):Nb x b:=Zd hx (Zz (by decide) h)
theorem Nb.pow{x:Int}{a:Nat}(hx:Nb x a):∀i,Nb (x ^ i) (a * i+1)
 | 0=>by unfold Nb;rw[Int.pow_zero];show 1 < 2 ^ (a * 0+1);rw[Nat.mul_zero];decide
 | i+1=>by
  rw[Int.pow_succ]
  have:=(hx.pow i).mul hx
  rw[show a * (i+1)+1=a * i+1+a by rw[Nat.mul_succ];lia];exact this
theorem Nb.okMul{x y:Int}(hx:Nb x 4000)(hy:Nb y 4000):okMul x y:=.inl ⟨hx.up (by decide),hy.up (by decide)⟩
def LD(H:Hp)(Q:VK)(xs:List V):Prop:=∀p H',H p=none->Same H H'->H' p=some (.lst xs)->Q (.ref p) H'
theorem A4{H:Hp}{Q Q':VK}{xs:List V}(h:∀v H,Q v H->Q' v H)(q:LD H Q xs):LD H Q' xs:=fun p H' a b c=>h _ _ (q p H' a b c)
def inF(g:Nat->Int)(o s:Nat):Int:=if s &&& o=s then g s else 0
theorem QG(f:Nat->Bool)(n:Nat):((List.range (n+1)).map f).map V.bl=((List.range n).map f).map V.bl++[V.bl (f n)]:=by
 rw[ZBq,ZK,ZK];rfl
theorem Up{td ty tv:TE}(h1:AZ td)(h2:AZ ty)(h3:AZ tv):BW (Li td ty tv):=fun D D' σ H h q=>h3 _ _ _ _ (fun _ _ q=>h1 _ _ _ _ (fun _ _ q=>h2 _ _ _ _ (fun _ _ ⟨a,H4,e,g,q⟩=>⟨a,H4,e,g,h.nx _ _ q⟩) q) q) q
theorem Cr{A:Around}(h:A.units+60 < cLine):A.units+1 < cLine:=by lia
end L2
namespace HT
open PySem PyProof.Rows
section
variable {prog:Program}{w:World}{A:Around}{E:Value->Shared->Prop}{s:Shared}
end
end HT
namespace L2
open PySem PySem.Spec PyProof.Rows
section
variable {X:Cx}{K:W.Frag}{e sx:Expr}{te ts:TE}{lo hi:Option Expr}{tl th:TO}{pos p2:Pos}
def mIs(neg:Bool):R2:=fun x y H Q=>match x,y with
 | .bl a,.bl b=>Q (.bl (neg ^^ (a == b))) H
 | x,.non=>Q (.bl (neg ^^ decide (x=.non))) H
 | _,_=>False
theorem NM:OpR X (compareOp .IsNot) (mIs true):=by
 intro pins s σ H x y v u Q I rx ry h;unfold mIs at h;split at h
 ·cases rx;cases ry;rename_i a b;exact wpAny_of_eq (show compareOp .IsNot (.bool a) (.bool b)=pure (.bool (!(a == b))) by cases a <;> cases b <;> rfl) ⟨.bl (!(a == b)),H,I,rfl,by rw[ZBy]at h;exact h⟩
 ·exact QE pins s σ H _ _ v u Q I rx ry ⟨rfl,by rw[ZBy]at h;exact h⟩
 ·exact h.elim
theorem PL{neg:Bool}:BR (mIs neg):=fun x y H Q Q' h q=>by
 unfold mIs at *;split at q
 ·exact h _ _ q
 ·exact h _ _ q
 ·exact q.elim
end
structure GFeed(H:Hp)(t:Addr)(N:Nat):Prop where
 at_:∃(l:Addr) (i g c:Int) (ns:List Int),0<=i/\0<=g/\0<=c/\c<=N/\H t=some (.lst [.ref l,.int i,.int g,.int c])/\l≠t/\H l=some (.lst (ns.map V.int))/\ns.length≠0
theorem GFeed.same{H H':Hp}{t:Addr}{N:Nat}(F:GFeed H t N)(h:Same H H'):GFeed H' t N:=by
 obtain⟨l,i,g,c,ns,h1,h2,h3,h4,h5,h6,h7,h8⟩:=F.at_;exact⟨l,i,g,c,ns,h1,h2,h3,h4,h _ _ h5,h6,h _ _ h7,h8⟩
theorem GFeed.upd{H:Hp}{t p:Addr}{o:HO}{N:Nat}(F:GFeed H t N)(h:H p=none):GFeed (L2.upd H p o) t N:=F.same (Same.upd h)
theorem GFeed.mono{H:Hp}{t:Addr}{N N':Nat}(F:GFeed H t N)(h:N<=N'):GFeed H t N':=by
 obtain⟨l,i,g,c,ns,h1,h2,h3,h4,h5⟩:=F.at_;exact⟨l,i,g,c,ns,h1,h2,h3,by lia,h5⟩
theorem GFeed.lst{H:Hp}{t:Addr}{N:Nat}(F:GFeed H t N):∃zs,H t=some (.lst zs):=by
 obtain⟨l,i,g,c,ns,h1,h2,h3,h4,h5,_⟩:=F.at_;exact⟨_,h5⟩
theorem GFeed.neT{H:Hp}{t p:Addr}{N:Nat}(F:GFeed H t N)(hp:H p=none):p≠t:=fun e=>by
 obtain⟨zs,h⟩:=F.lst;rw[e,h]at hp;cases hp
theorem GFeed.free{H H':Hp}{t p:Addr}{N:Nat}(F:GFeed H' t N)(h:Frm t H H')(hp:H' p=none):H p=none:=by
 cases e:H p with
 | none=>rfl
 | some o =>
  by_cases hpt:p=t
  ·subst hpt;obtain⟨zs,h3⟩:=F.lst;rw[h3]at hp;cases hp
  ·rw[h p o hpt e]at hp;cases hp
def Ei:Sp:=fun vs H Q _=>match vs with
 | [.ref t,.int m]=>∃N,GFeed H t N/\N<=1000000000/\okDiv m/\∀d H',0<=d->d < m->GFeed H' t (N+1)->(∀b,b≠t->H' b=H b)->Q (.int d) H'
 | _=>False
theorem QI:AQ Ei:=fun vs H Q Q' E h q=>by
 unfold Ei at *;split at q
 ·obtain⟨N,h1,h2,h3,q⟩:=q;exact⟨N,h1,h2,h3,fun d H' a b c e=>h _ _ (q d H' a b c e)⟩
 ·exact q.elim
def Hv(K:W.Frag):Sp:=fun vs H Q _=>match vs with
 | [.ref a]=>∃ns:List Int,SqL K H a (ns.map V.int)/\∀t H',H t=none->Same H H'->GFeed H' t 0->Q (.ref t) H'
 | _=>False
theorem FJ{K:W.Frag}{H:Hp}:∀ns:List Int,Reps K H (ns.map Dv.int) (ns.map V.int)
 | []=>Am
 | n::ns=>Ap Fo (FJ ns)
theorem L9:∀ns:List Int,A9 (ns.map Dv.int)=0
 | []=>by rw[List.map_nil];unfold A9;rfl
 | n::ns=>by rw[Zg];unfold A9;rw[L9 ns];unfold An;rfl
def tyD:Dv->String
 | .non=>"NoneType"
 | .bl _=>"bool"
 | .int _=>"int"
 | .str _=>"str"
 | .tup _=>"tuple"
 | .lst _=>"list"
def Tx(K:W.Frag):List V->Hp->VK->Prop:=fun xs H Q=>match xs with
 | [x,.ty T]=>T∈kinds/\∃d,Rep K H d x/\Q (.bl (BG (tyD d) T)) H
 | _=>False
theorem IA{K:W.Frag}{t T:String}(ht:t = "int" \/ t = "bool" \/ t = "tuple" \/ t = "list")(hT:T∈kinds):PySem.W.kitOne K (.type t) (.type T)=some (BG t T):=by
 unfold kinds at hT;simp only[ZF,ZBR,or_false]at hT
 rcases ht with rfl | rfl | rfl | rfl <;> rcases hT with rfl | rfl | rfl | rfl | rfl | rfl <;> rfl
theorem FX{X:Cx}:CallR X (.builtin "isinstance") (Tx X.K):=by
 intro pins s σ H xs us Q I r q
 match xs,q with
 | [x,.ty T],q =>
  obtain⟨hT,d,h,q⟩:=q
  have go:∀t,TyS X.K H x t->Q (.bl (BG t T)) H->wpAny (model X.prog X.w) X.A (call (.builtin "isinstance") us) (EP X pins σ Q) X.xe s:=fun t ht hq=>by
   obtain⟨u,w',rfl,ru,rw'⟩:=C1 r;cases rw';obtain⟨ht,hn,Hh,k,hh⟩:=ML I ru ht;exact PySem.W.kia_one k I.kIn hh (IA ht hT) hn fun tk=>⟨.bl (BG t T),H,I.tok _,rfl,hq⟩
  have hT':=hT;unfold kinds at hT';simp only[ZF,ZBR,or_false]at hT';cases d with
  | non =>
   unfold Rep at h;subst h;refine Gr pins s σ H _ us Q I r ⟨hT,_,rfl,?_⟩;have e:(T == "NoneType")=BG (tyD .non) T:=by rcases hT' with rfl | rfl | rfl | rfl | rfl | rfl <;> rfl
   rw[e];exact q
  | str z =>
   unfold Rep at h;subst h;refine Gr pins s σ H _ us Q I r ⟨hT,_,rfl,?_⟩;have e:(T == "str")=BG (tyD (.str z)) T:=by rcases hT' with rfl | rfl | rfl | rfl | rfl | rfl <;> rfl
   rw[e];exact q
  | bl b=>unfold Rep at h;subst h;exact go _ rfl q
  | int i=>unfold Rep at h;subst h;exact go _ rfl q
  | tup ds=>unfold Rep at h;obtain⟨a,xs,rfl,hs,_⟩:=h;exact go _ (.inl ⟨rfl,xs,hs⟩) q
  | lst ds=>unfold Rep at h;obtain⟨a,xs,rfl,hs,_⟩:=h;exact go _ (.inr ⟨rfl,xs,hs⟩) q
theorem CH{K:W.Frag}{H:Hp}:∀bs:List Bool,Reps K H (bs.map Dv.bl) (bs.map V.bl)
 | []=>Am
 | b::bs=>Ap NG (CH bs)
theorem EE{K:W.Frag}{H:Hp}{ds:List Dv}{v:V}(h:Rep K H (.tup ds) v):∃a xs,v=.ref a/\SqT K H a xs/\Reps K H ds xs:=by unfold Rep at h;exact h
theorem Bt{K:W.Frag}{H:Hp}{p:Addr}{xs:List V}{ds:List Dv}(h:SqT K H p xs)(r:Reps K H ds xs):Rep K H (.tup ds) (.ref p):=by unfold Rep;exact⟨p,xs,rfl,h,r⟩
theorem L8:∀ds es:List Dv,BI (ds++es)=(BI ds && BI es)
 | [],es=>by rw[List.nil_append];simp[BI]
 | d::ds,es=>by
  rw[List.cons_append]
  show(CN d && BI (ds++es))=(CN d && BI ds && BI es)
  rw[L8 ds es,Bool.and_assoc]
theorem Ia:∀bs:List Bool,BI (bs.map Dv.bl)=true
 | []=>rfl
 | b::bs=>by
  show(true && BI (bs.map Dv.bl))=true
  rw[Ia bs];rfl
section
variable {X:Cx}{pins:List (Addr × Obj)}{σ:St}{H:Hp}{s:Shared}
theorem Inv.hold{d:Addr}{kvs:List (Key × V)}(I:Inv X pins σ H s)(h:H d=some (.dK kvs)):∃o,s.heap.get? d=some o/\Inv X pins σ (upd H d (.frz o (.dK kvs))) s:=by
 obtain⟨hl,hs,vs,r,dd⟩:=(show ObjOk X.prog X.w H s.heap d (.dK kvs) from I.hok d _ h);obtain⟨o,es,ep,ho,rest⟩:=id dd;refine⟨o,ho,?_⟩
 have:=I.write (x:=d) (e:=d) (o:=.frz o (.dK kvs)) (h':=s.heap) (t':=s.toks) (by rw[h];exact True.intro) (.inl rfl) (fun b u _ q=>q) ⟨o,ho⟩ ⟨ho,hl,hs,vs,r,dd⟩
 exact this
theorem Inv.held{d:Addr}{o:Obj}{kvs:List (Key × V)}(I:Inv X pins σ H s)(h:H d=some (.frz o (.dK kvs))):s.heap.get? d=some o/\(d == sysModules)=false/\kvs.length<=sizeLine/\∃vs,KV kvs vs/\s.heap.DictOf (BK X.prog X.w) d vs:=by
 obtain⟨ho,hl,hs,vs,r,dd⟩:=(show ObjOk X.prog X.w H s.heap d (.frz o (.dK kvs)) from I.hok d _ h);exact⟨ho,hs,hl,vs,r,dd⟩
theorem KV.get{kvs:List (Key × V)}{vs:List (Key × Value)}(r:KV kvs vs):∀{i:Nat} {q:Key × V},kvs[i]? = some q->∃v,vs[i]? = some (q.1,v)/\RelV q.2 v:=by
 induction r with
 | nil=>intro i q e;simp at e
 | @cons a b l1 l2 h t ih =>
  intro i q e;cases i with
  | zero =>
   simp at e;subst e;obtain⟨b1,b2⟩:=b;obtain⟨h1,h2⟩:=h;exact⟨b2,by simp;exact h1.symm,h2⟩
  | succ i =>
   obtain⟨v,h1,h2⟩:=ih (i:=i) (q:=q) (by simpa using e);exact⟨v,by simpa using h1,h2⟩
theorem KV.len{kvs:List (Key × V)}{vs:List (Key × Value)}(r:KV kvs vs):kvs.length=vs.length:=Paired.length r
theorem O6{k:Key}{u:Value}(h:DL k u=true):RelV (kV k) u:=by
 rcases keyIs_shape h with ⟨i,t,rfl,rfl⟩ | ⟨x,t,rfl,rfl⟩
 ·exact⟨t,rfl⟩
 ·exact⟨t,rfl⟩
end
def Itm(d:Addr)(o:Obj):It :=
 ⟨fun i H=>∃kvs q,H d=some (.frz o (.dK kvs))/\kvs[i]? = some q,
  fun i H v H'=>∃p kvs q,H d=some (.frz o (.dK kvs))/\kvs[i]? = some q/\H p=none/\v=.ref p/\H'=upd H p (.tup [kV q.1,q.2]),
  fun i H=>∃kvs,H d=some (.frz o (.dK kvs))/\kvs.length<=i⟩
theorem HR{P:Program}{w:World}{h:Heap}{d:Addr}{o:Obj}{es:Array DictEntry}{ep:Nat}{vs:List (Key × Value)}(ho:h.get? d=some o)(hd:o.data=.dict es ep)(dd:h.DictOf (BK P w) d vs):h.DictAt (BK P w) d vs ep/\es.size=vs.length:=by
 obtain⟨o',es',ep',h1,h2,h3,h4,h5,h6⟩:=dd;rw[ho]at h1;cases h1;rw[hd]at h3;cases h3;exact⟨⟨o,es,ho,h2,hd,h4,h5,h6⟩,by rw[<- h5.length];simp⟩
theorem PY:entryFor table "dict_itemiterator.__iter__" = some Builtin.«dict_keyiterator.__iter__» :=
 entryFor_alias (id':="dict_keyiterator.__iter__") (by kernel_rfl) (by first | rfl | decide +kernel) (by decide +kernel) (by kernel_rfl)
theorem Qn{prog:Program}{w:World}{A:Around}{E:Value->Shared->Prop}{s:Shared}{it d:Addr}{i n ep:Nat}{ok ov:Value}{Q:Value->Shared->Prop}(hz:IsItemIter s.heap it d i n ep ok ov)(h:Q (.ref it) s):wpAny (model prog w) A (pyIter (.ref it)) Q E s:=by
 have hT:s.TypeIs (.ref it) "dict_itemiterator":=⟨_,hz,rfl⟩;refine wpAny_pyIter_slot hT F.slot_dict_itemiterator_iter (Zx F.slot_dict_itemiterator_iter hT PY ?_ (F.args_dict_itemiterator_iter_1 _));show wpAny _ _ (ret (.ref it)) _ _ s;exact ZB ⟨_,rfl,"dict_itemiterator",_,hT,F.slot_dict_itemiterator_next.lookup,h⟩
theorem Ti{P:Program}{w:World}{K:W.Frag}{ts:List Expr}{kt:Nat}{tpos:Pos}{it d:Addr}{o:Obj}{es:Array DictEntry}{ep:Nat}(hdat:o.data=.dict es ep) :
 Turn P w K (.Tuple ts kt tpos) (Itm d o) [it] it (fun i h=>∃ok ov,IsItemIter h it d i es.size ep ok ov) where
 mem:=by simp
 obj:=fun i h st b hb=>by
  obtain⟨ok,ov,hz⟩:=st;obtain rfl:b=it:=by simpa using hb
  exact⟨_,hz,fun v q=>nomatch q⟩
 keep:=fun i h h' ⟨ok,ov,hz⟩ k=>⟨ok,ov,k it (by simp) _ hz⟩
 item:=by
  intro X hP hw hK hc i pins s σ H E I hf st hg;subst hP hw hK;obtain⟨kvs,q,hq1,hx⟩:=hg;obtain⟨ok,ov,hz⟩:=st;obtain⟨ho,hs,hl,vs,rv,dd⟩:=I.held hq1;obtain⟨da,hsz⟩:=HR ho hdat dd;obtain⟨u,hu,ru⟩:=rv.get hx;rw[hsz]at hz;refine wpAny_pyNext_items_item hz da hu fun key h' z0 z1 z2 z3 z4=>?_
  refine⟨_,rfl,?_⟩;have z4':∀b v,b∉[it]->s.heap.get? b=some v->h'.get? b=some v:=fun b v hb q=>z4 b v (by simpa using hb) q
  have I1:Inv X pins σ (upd H s.heap.objs.size (.tup [kV q.1,q.2])) { s with heap:=h' }:=by
   refine I.turnedNew (ch:=[it]) (fun b hb=>hf b hb) (ZD _) z4' ?_ fun b hb=>?_
   ·exact⟨smq rfl,[key,u],.cons (O6 z0) (.cons ru .nil),⟨_,z2,rfl,⟨_,rfl⟩,rfl⟩⟩
   ·obtain rfl:b=it:=by simpa using hb
    exact⟨_,z1⟩
  refine wpAny_letOwnedTupleGo_items (s:={ s with heap:=h' }) z1 fun h'' z8 z9=>?_
  have hfz:=hf it (by simp)
  have neT:it≠s.heap.objs.size:=fun q=>by
   have:=ZI hz
   rw[q]at this;exact ZZ _ this
  have hTH:∀b∈[it],upd H s.heap.objs.size (.tup [kV q.1,q.2]) b=none:=fun b hb=>by
   obtain rfl:b=it:=by simpa using hb
   rw[AM neT];exact hfz.1
  have I2:Inv X pins σ (upd H s.heap.objs.size (.tup [kV q.1,q.2])) { s with heap:=h'' } :=
   I1.turned (t':=s.toks) (fun b o hb q=>(z9.2 b hb).trans q) (hTH it (by simp)) hfz.2.1 hfz.2.2.2.1 hfz.2.2.2.2.1 hfz.2.2.2.2.2
  rw[<- hsz]at z8;exact⟨.ref s.heap.objs.size,_,I2,rfl,⟨_,kvs,q,hq1,hx,I.hok.fresh (ZD _),rfl,rfl⟩,⟨_,_,z8⟩,hTH⟩
 done:=by
  intro X hP hw hK hc i pins s σ H E I hf st hg;subst hP hw hK;obtain⟨kvs,hq1,hl⟩:=hg;obtain⟨ok,ov,hz⟩:=st;obtain⟨ho,hs,hl',vs,rv,dd⟩:=I.held hq1;obtain⟨da,hsz⟩:=HR ho hdat dd;have e1:=rv.len;rw[hsz]at hz;refine wpAny_pyNext_items_end (I.ok.hd hc) hz da (by simp;lia) fun h' z7=>⟨rfl,?_⟩
  obtain⟨f0,f1,f2,f3,f4,f5⟩:=hf it (by simp);exact I.turned (t':=s.toks) (fun b o hb q=>z7 b o hb q) f0 f1 f3 f4 f5
 self:=fun A i s Q E st h=>by
  obtain⟨ok,ov,hz⟩:=st;exact Qn hz h
def EU(x:V)(H:Hp)(R:Addr->Obj->Hp->Prop):Prop:=match x with
 | .ref d=>(∃kvs,H d=some (.dK kvs)/\∀o,R d o (upd H d (.frz o (.dK kvs))))\/∃kvs o,H d=some (.frz o (.dK kvs))/\R d o H
 | _=>False
theorem T3{X:Cx}{pins:List (Addr × Obj)}{σ:St}{H:Hp}{s:Shared}{x:V}{v:Value}{R:Addr->Obj->Hp->Prop}(I:Inv X pins σ H s)(r:RelV x v)(h:EU x H R) :
 ∃d kvs o H2,v=.ref d/\Inv X pins σ H2 s/\H2 d=some (.frz o (.dK kvs))/\R d o H2:=by
 cases x with
 | ref d =>
  cases r
  rcases h with ⟨kvs,e,q⟩ | ⟨kvs,o,e,q⟩
  ·obtain⟨o,ho,I2⟩:=I.hold e;exact⟨d,kvs,o,_,rfl,I2,AD,q o⟩
  ·exact⟨d,kvs,o,H,rfl,I,e,q⟩
 | _=>exact False.elim h
def Mo(to:TE):TI:=fun σ H R=>to σ H fun x H1=>EU x H1 fun d o H2=>R (Itm d o) H2
section
variable {X:Cx}{K:W.Frag}{tg oe:Expr}{to:TE}{ts:List Expr}{kt:Nat}{tpos apos cpos:Pos}
theorem LG(ho:PE X oe to)(hbase:attributeBase oe "items" X.env (eval oe X.env)=eval oe X.env:=by rfl)(hline:(apos.endLine == cpos.line)=true:=by rfl) :
 PI X (.Tuple ts kt tpos) (.Call (.Attribute oe "items" apos) [] [] cpos) (Mo to):=by
 intro pins s σ H R I h;refine wpAny_Call_method0_late hbase hline (thn (ho pins s σ H _ I h) fun v s1 ⟨x,H1,I1,r1,q1⟩=>?_);obtain⟨d,kvs,o,H2,rfl,I2,hd2,q⟩:=T3 I1 r1 q1;obtain⟨ho',hs,hl,vs,rv,dd⟩:=I2.held hd2;obtain⟨o',es,ep,e1,e2,e3,_⟩:=id dd;rw[ho']at e1;cases e1;refine⟨"dict","dict.items",PySem.F.plainAttrs_dict,PySem.F.slot_dict_items,PySem.F.type_dict_items,dd.typeIs,fun a ea=>?_,Calls.callWith_builtin rfl (PySem.evalArgs_none ?_)⟩
 ·cases ea;exact⟨o,ho',e2.2.1⟩
 refine call_meetsIn PySem.F.slot_dict_items dd.typeIs PySem.F.entry_dict_items (PySem.F.args_dict_items_1 _) (meets_dict_items (BK X.prog X.w) d hs) ⟨⟨vs,dd⟩,?_⟩;have I3:Inv X pins σ H2 { s1 with heap:=s1.heap.push { cls:=.type "dict_items",data:=.fields #[.ref d] } }:=I2.kept (t':=s1.toks) fun b u e=>ZJ _ e
 have hv:(s1.heap.push { cls:=.type "dict_items",data:=.fields #[.ref d] }).IsItemsView s1.heap.objs.size d:=⟨_,ZR _ rfl,rfl,rfl⟩;obtain⟨ho3,_,_,vs3,rv3,dd3⟩:=I3.held hd2;obtain⟨da,hsz⟩:=HR ho3 e3 dd3;refine wpAny_pyIter_items (s:={ s1 with heap:=s1.heap.push { cls:=.type "dict_items",data:=.fields #[.ref d] } }) hv da ?_;generalize s1.heap.push { cls:=.type "dict_items",data:=.fields #[.ref d] } = h3 at *;refine⟨h3.objs.size,[h3.objs.size],_,_,H2,rfl,I3.kept (t':=s1.toks) fun b o e=>ZJ _ e,Ti e3,⟨.none,.none,?_⟩,fun b hb=>?_,q⟩
 ·rw[hsz];exact ZR _ rfl
 ·obtain rfl:b=h3.objs.size:=by simpa using hb
  exact I3.fpOk (ZD _) (I3.hok.fresh (ZD _))
end
theorem NC{x:V}{H:Hp}{R R':Addr->Obj->Hp->Prop}(k:∀d o H,R d o H->R' d o H)(h:EU x H R):EU x H R':=by
 cases x with
 | ref d =>
  rcases h with ⟨kvs,e,q⟩ | ⟨kvs,o,e,q⟩
  ·exact .inl ⟨kvs,e,fun o=>k _ _ _ (q o)⟩
  ·exact .inr ⟨kvs,o,e,k _ _ _ q⟩
 | _=>exact False.elim h
theorem Ta{to:TE}(h:AZ to):Ds (Mo to):=fun σ H Q Q' k q=>h _ _ _ _ (fun _ _ q=>NC (fun _ _ _ q=>k _ _ q) q) q
theorem Mq {d:Addr} {o:Obj} {kvs:List (Key × V)} {g:TG} {tb:TS} {D:Ends} {σ:St} {H:Hp} (Pv:Nat->St->Hp->Prop) (h0:Pv 0 σ H) (hl:∀i σ H,i<=kvs.length->Pv i σ H->H d=some (.frz o (.dK kvs)))
 (hs:∀i q p σ H,kvs[i]? = some q->Pv i σ H->H p=none->g (.ref p) σ (upd H p (.tup [kV q.1,q.2])) fun σ2 H2=>tb { D with nx:=Pv (i+1),ct:=Pv (i+1),bk:=D.nx } σ2 H2) (hd:∀σ H,Pv kvs.length σ H->D.nx σ H) :
 ∃W:Nat->Nat->St->Hp->Prop,(∃m,W 0 m σ H)/\∀i m σ H,W i m σ H ->
  ((Itm d o).stop i H/\D.nx σ H)\/((Itm d o).go i H/\∃N:St->Hp->Prop,(∀σ' H',N σ' H'->∃m',m' < m/\W (i+1) m' σ' H')/\∀x H',(Itm d o).yld i H x H'->g x σ H' fun σ2 H2=>tb { D with nx:=N,ct:=N,bk:=D.nx } σ2 H2):=by
 refine⟨fun i m σ H=>m=kvs.length - i/\i<=kvs.length/\Pv i σ H,⟨kvs.length,by simp,ZU _,h0⟩,?_⟩;rintro i m σ H ⟨rfl,hi,p⟩;have q:=hl i σ H hi p
 by_cases hlt:i < kvs.length
 ·refine .inr ⟨⟨kvs,kvs[i],q,by simp[hlt]⟩,Pv (i+1),fun σ' H' p'=>⟨kvs.length - (i+1),by lia,rfl,hlt,p'⟩,fun x H' y=>?_⟩;obtain⟨pp,kvs',r,e1,e2,e3,rfl,rfl⟩:=y;rw[q]at e1;cases e1;exact hs i r pp σ H e2 p e3
 ·have e:i=kvs.length:=by lia
  subst e;exact .inl ⟨⟨kvs,q,ZD _⟩,hd σ H p⟩
end L2
namespace L2
open PySem PyProof.Rows
section
variable {prog:Program}{w:World}{A:Around}{E:Value->Shared->Prop}{s:Shared}
end
section
variable {X:Cx}
end
end L2
namespace L2
open PySem PySem.Spec PyProof.Rows
end L2
namespace L2
open PySem PySem.Spec PyProof.Rows PySem.W
open Att (Eu LV NY)
def Grow(Pt:Addr)(H H':Hp):Prop:=∀b o,b≠Pt->H b=some o->H' b=some o
theorem Grow.trans{Pt:Addr}{H H1 H2:Hp}(a:Grow Pt H H1)(b:Grow Pt H1 H2):Grow Pt H H2:=fun c o n e=>b c o n (a c o n e)
section
variable {X:Cx}{pins:List (Addr × Obj)}{σ:List (Option V)}{H:Hp}{s:Shared}{h':Heap}
end
section
variable {prog:Program}{w:World}{A:Around}{s:Shared}
end
section
variable {X:Cx}{Pt c:Addr}{e:Expr}{te:TE}{p pos kpos lpos np cp sp:Pos}{x qual:Str}{params:Arguments}{scope:Scope}{kd:Nat}{i:Int}{K:W.Frag}
end
end L2
namespace L2
open PySem
end L2
namespace L2
open PySem PySem.Spec PyProof.Rows
section
variable {X:Cx}{tg oe:Expr}{to:TE}{apos cpos:Pos}
end
def mIn(K:W.Frag)(neg:Bool):R2:=fun x y H Q=>match y with
 | .ref p=>∃xs,(SqL K H p xs\/SqT K H p xs)/\B6 x=true/\xs.all B6=true/\Q (.bl (neg ^^ inV x xs)) H
 | _=>False
section
variable {X:Cx}{K:W.Frag}
theorem kIn(hK:X.K=K:=by rfl):OpR X (compareOp .In) (mIn K false):=by
 subst hK;intro pins s σ H x y v u Q I rx ry h;cases y with
 | ref p =>
  obtain⟨xs,h1,h2,h3,q⟩:=h;exact Oc pins s σ H x _ v u Q I rx ry ⟨p,xs,rfl,h1,h2,h3,by simpa using q⟩
 | _=>exact False.elim h
theorem NU(hK:X.K=K:=by rfl):OpR X (compareOp .NotIn) (mIn K true):=by
 subst hK;intro pins s σ H x y v u Q I rx ry h;cases y with
 | ref p =>
  obtain⟨xs,h1,h2,h3,q⟩:=h;exact Qa pins s σ H x _ v u Q I rx ry ⟨p,xs,rfl,h1,h2,h3,by simpa using q⟩
 | _=>exact False.elim h
end
section
variable {X:Cx}{K:W.Frag}
end
end L2
namespace L2
theorem on1{α:Type}{P:List α->Prop}(h:∀a,P [a]):∀us:List α,us.length=1->P us
 | [a],_=>h a
theorem on2{α:Type}{P:List α->Prop}(h:∀a b,P [a,b]):∀us:List α,us.length=2->P us
 | [a,b],_=>h a b
theorem on3{α:Type}{P:List α->Prop}(h:∀a b c,P [a,b,c]):∀us:List α,us.length=3->P us
 | [a,b,c],_=>h a b c
theorem on4{α:Type}{P:List α->Prop}(h:∀a b c d,P [a,b,c,d]):∀us:List α,us.length=4->P us
 | [a,b,c,d],_=>h a b c d
theorem on5{α:Type}{P:List α->Prop}(h:∀a b c d e,P [a,b,c,d,e]):∀us:List α,us.length=5->P us
 | [a,b,c,d,e],_=>h a b c d e
open PySem in
theorem star_lst{xs es:List PySem.Expr}{p:Pos}{env:Env}:starEach (.List xs p::es) env=(false,eval (.List xs p) env)::starEach es env:=by rfl
end L2
namespace L2
open PySem
def LI:Expr->Bool
 | .ListComp ..=>true
 | .SetComp ..=>true
 | .DictComp ..=>true
 | _=>false
theorem OI{e:Expr}{t:Option Expr}{l:Nat}{env:Env}(h:LI e=false):swapsWith e t l env=pure false:=by
 cases e <;> first | rfl | cases h
theorem P7{X:Cx}{pos:Pos}{i:Nat}{x:Str}{e:Expr}{te:TE}{pos':Pos}(hN:X.N.Nodup)(hi:X.N[i]? = some x)(hx:Loc X.env.scope x)(he:PE X e te)(hs:LI e=false)(hf:X.fn x=true\/X.env.scope.names.lookup x=some .local) :
 PS X (.Assign [.Name x pos'] e pos) (Dr te (Ae i)):=AS hN hi hx he (OI hs) hf
end L2
namespace L2
open PySem PyProof.Rows
section
variable {prog:Program}{w:World}{A:Around}{E:Value->Shared->Prop}{s:Shared}
end
section
variable {X:Cx}
end
abbrev N3(h:Heap)(z TI TO:Addr)(f0 bb:Value):Prop :=
 h.get? z=some { cls:=.type "zip",dict:=none,data:=.fields #[f0,bb,.bool false,.ref TI,.ref TO],slots:=#[] }
section
variable {prog:Program}{w:World}{A:Around}{E:Value->Shared->Prop}{s:Shared}
end
section
variable {prog:Program}{w:World}{A:Around}{E:Value->Shared->Prop}{s:Shared}
structure ZS(z TI TO i1 i2 l1 l2 T0:Addr)(xs ys:Array Value)(i:Nat)(h:Heap):Prop where
 zp:(i=0/\IsZip h z TI TO .none)\/(0 < i/\(∃b,N3 h z TI TO (rawInt T0) b)/\∃a b,IsPair h T0 a b)
 ti:IsPair h TI (.ref i1) (.ref i2)
 to:∃a b,IsPair h TO a b
 a1:h.IsTupleIter i1 l1 i
 a2:h.IsTupleIter i2 l2 i
 t1:h.IsTuple l1 xs
 t2:h.IsTuple l2 ys
theorem ZS.keep {z TI TO i1 i2 l1 l2 T0 S:Addr} {xs ys:Array Value} {i c:Nat} {h h':Heap} {acc:Array Value} (Z:ZS z TI TO i1 i2 l1 l2 T0 xs ys i h) (hS:h.get? S=some { cls:=.type "list",dict:=none,data:=.seq acc c,slots:=#[] })
 (k:∀b o,b≠S->h.get? b=some o->h'.get? b=some o):ZS z TI TO i1 i2 l1 l2 T0 xs ys i h':=by
 have kk:∀b o,h.get? b=some o->o.cls≠.type "list" -> h'.get? b=some o:=fun b o e n=>k b o (fun q=>by subst q;rw[hS]at e;cases e;exact n rfl) e
 obtain⟨zp,ti,⟨a,b,to⟩,⟨o1,e1,c1,d1⟩,⟨o2,e2,c2,d2⟩,⟨p1,x1,y1,w1⟩,⟨p2,x2,y2,w2⟩⟩:=Z;refine⟨?_,kk _ _ ti (by simp),⟨a,b,kk _ _ to (by simp)⟩,⟨o1,kk _ _ e1 (by rw[c1];simp),c1,d1⟩,⟨o2,kk _ _ e2 (by rw[c2];simp),c2,d2⟩,⟨p1,kk _ _ x1 (by rw[y1];simp),y1,w1⟩,⟨p2,kk _ _ x2 (by rw[y2];simp),y2,w2⟩⟩
 rcases zp with ⟨e,q⟩ | ⟨e,⟨b,q⟩,⟨x,y,r⟩⟩
 ·exact .inl ⟨e,kk _ _ q (by simp)⟩
 ·exact .inr ⟨e,⟨b,kk _ _ q (by simp)⟩,⟨x,y,kk _ _ r (by simp)⟩⟩
end
section
variable {prog:Program}{w:World}{A:Around}{R:Result->Shared->Prop}
end
section
variable {prog:Program}{w:World}{A:Around}{R:Result->Shared->Prop}{s:Shared}
end
section
variable {prog:Program}{w:World}{A:Around}{E:Value->Shared->Prop}{s:Shared}
end
section
variable {X:Cx}
end
end L2
namespace L2
open PySem
def ins:Nat->Nat->Nat->Nat
 | 0,b,q=>2 * q+b
 | i+1,b,q=>2 * ins i b (q / 2)+q % 2
end L2
namespace L2
open PySem PyProof.Rows
section
variable {prog:Program}{w:World}{A:Around}{E:Value->Shared->Prop}{s:Shared}
end
section
variable {prog:Program}{w:World}{K:Type}[DecidableEq K]{knd:KeyKind prog w K}{A:Around}{R:Result->Shared->Prop}
end
section
variable {prog:Program}{w:World}{K:Type}[DecidableEq K]{knd:KeyKind prog w K}{A:Around}{E:Value->Shared->Prop}{s:Shared}
end
section
variable {X:Cx}
end
abbrev EnB(h:Heap)(e it:Addr)(i:Int)(f0 bb old:Value):Prop :=
 h.get? e=some { cls:=.type "enumerate",dict:=none,data:=.fields #[f0,bb,.ref it,rawInt i,.none,old],slots:=#[] }
section
variable {prog:Program}{w:World}{A:Around}{E:Value->Shared->Prop}{s:Shared}
end
section
variable {prog:Program}{w:World}{A:Around}{E:Value->Shared->Prop}{s:Shared}
def ES(e it:Addr)(i:Nat)(h:Heap):Prop:=(∃old,IsEnum h e it i old)\/∃(T0:Addr) (bb old a b:Value),EnB h e it i (rawInt T0) bb old/\IsPair h T0 a b
end
section
variable {prog:Program}{w:World}{K:Type}[DecidableEq K]{knd:KeyKind prog w K}{A:Around}{R:Result->Shared->Prop}
theorem ES.keep{e it d:Addr}{i:Nat}{h h':Heap}{od:Obj}(Z:ES e it i h)(hd:h.get? d=some od)(hc:od.cls=.type "dict")(k:∀b o,b≠d->h.get? b=some o->h'.get? b=some o):ES e it i h':=by
 have kk:∀b o,h.get? b=some o->o.cls≠.type "dict" -> h'.get? b=some o:=fun b o e n=>k b o (fun q=>by subst q;rw[hd]at e;cases e;exact n hc) e
 rcases Z with ⟨old,q⟩ | ⟨T0,bb,old,a,b,q,hT⟩
 ·exact .inl ⟨old,kk _ _ q (by simp)⟩
 ·exact .inr ⟨T0,bb,old,a,b,kk _ _ q (by simp),kk _ _ hT (by simp)⟩
end
section
variable {prog:Program}{w:World}{K:Type}[DecidableEq K]{knd:KeyKind prog w K}{A:Around}{E:Value->Shared->Prop}{s:Shared}
end
section
variable {X:Cx}
end
section
variable {X:Cx}
end
theorem Qv:∀{ns:List Int} {us:List Value},IntsAre us ns->Vals (ns.map V.int) us:=by
 intro ns us h
 induction h with
 | nil=>exact .nil
 | cons _ _ _ ih=>exact .cons ⟨_,rfl⟩ ih
section
variable {X:Cx}{K:W.Frag}
end
def FP:V->List V->Hp->VK->Prop:=fun x vs H Q=>match x,vs with
 | .ref l,[.int i,y]=>∃xs,H l=some (.lst xs)/\0<=i/\i<=xs.length/\xs.length < 1000/\Q .non (upd H l (.lst (xs.take i.toNat++y::xs.drop i.toNat)))
 | _,_=>False
theorem Jq:∀{xs:List V} {us:List Value} {y:V} {u:Value} (k:Nat),Vals xs us->RelV y u->Vals (xs.take k++y::xs.drop k) (us.take k++u::us.drop k)
 | _,_,_,_,0,r,ry=>by simpa using Paired.cons ry r
 | _,_,_,_,k+1,.nil,ry=>by simpa using Paired.cons ry .nil
 | _,_,_,_,k+1,.cons r t,ry=>by simpa using Paired.cons r (Jq k t ry)
section
variable {X:Cx}{K:W.Frag}{o e e2:Expr}{to:TE}{t:TA}{apos cpos:Pos}
theorem U0:MtR X "list.insert" FP:=by
 intro pins s σ H x vs v us Q I rx rv q
 match x,vs,q with
 | .ref l,[.int i,y],⟨xs,hH,h1,h2,h3,q⟩ =>
 cases rx;obtain⟨u1,u,rfl,⟨tk,rfl⟩,ru⟩:=C1 rv;obtain⟨z,its,n,r,hl,e⟩:=I.lstM hH;have hi63:i < 2 ^ 63:=by lia
 have hfit:¬(!Builtin.List.listFitsIndex i)=true:=by
  rw[fitsIndex_both (by lia) hi63];exact Zq
 refine call_meets F.slot_list_insert ⟨_,e,rfl⟩ F.entry_list_insert (F.args_list_insert_3 _ _ _) (AutoListH.list_insert_list_int_val_1 l its.toArray n i tk u hfit (by rw[ZL];lia)) ⟨e,?_⟩;refine⟨.non,_,I.lset (its':=its.take i.toNat++u::its.drop i.toNat) hH e ?_ (Jq i.toNat r ru) ?_,rfl,q⟩
 ·have hm:min i.toNat its.length=i.toNat:=by lia
  show(have k:=if i < 0 then (i+((its.toArray.size:Nat):Int)).toNat else min i.toNat its.toArray.size;(its.toArray.extract 0 k).push u++its.toArray.extract k)=_
  rw[if_neg (by lia),ZL,hm];apply Array.toList_inj.mp;simp;exact ZBH (by rw[Zr];exact ZD _)
 ·rw[ZG,Zj,ZV,Zr];exact B7 (by lia)
theorem Mm (ho:PE X o to) (ha:PA X [e,e2] t) (hbase:attributeBase o "insert" X.env (eval o X.env)=eval o X.env:=by rfl)
 (hfew:((backTo cpos (starEach [e,e2] X.env)).all (fun x=>!x.1) && (backToKw cpos (keywordEach [] X.env)).all (fun x=>x.1.isSome)
   && decide ([e,e2].length+([]:List Keyword).length+(if ([]:List Keyword).isEmpty then 0 else 1) < 30))=true:=by rfl)
 (hline:(apos.endLine == cpos.line)=true:=by rfl) (hs:starEach [e,e2] X.env=(false,eval e X.env)::starEach [e2] X.env:=by rfl) (hplain:(backTo cpos (starEach [e2] X.env)).any (·.1)=false:=by rfl) (hK:X.K=K:=by rfl) :
 PE X (.Call (.Attribute o "insert" apos) [e,e2] [] cpos) (tBM K "list" FP to t):=hK ▸ Lx PySem.F.plainAttrs_list PySem.F.slot_list_insert PySem.F.type_list_insert U0 ho ha hbase hfew hline hs hplain
theorem Us:EO FP:=fun x xs H Q Q' h q=>by
 unfold FP at *;split at q
 ·obtain⟨ys,a,b,c,d,q⟩:=q;exact⟨ys,a,b,c,d,h _ _ q⟩
 ·exact q.elim
end
end L2
namespace L2
open PySem PySem.Spec PyProof.Rows
section
variable {X:Cx}{K:W.Frag}
end
end L2
namespace L2
open PySem PyProof.Rows
section
variable {X:Cx}
end
section
variable {X:Cx}
end
section
variable {X:Cx}{K:W.Frag}
end
end L2
namespace HT
open PySem PyProof.Rows
section
variable {prog:Program}{w:World}{A:Around}{E:Value->Shared->Prop}{s:Shared}
theorem Sx {sl:Addr} {n:Nat} {u:Tok} {Q:Int × Int × Nat->Shared->Prop} (hs:s.heap.IsSliceOf sl .none .none (.int (-1) u))
 (h:Q ((n:Int) - 1,-1,n) s):wpAny (model prog w) A (Builtin.Slice.sliceApplied (.ref sl) (pure (n:Int))) Q E s:=by
 obtain⟨os,hos,hcs,hds⟩:=id hs;unfold Builtin.Slice.sliceApplied Builtin.Slice.sliceFields;refine ZA (ZA (Z6 hos hds (x:=.none) rfl (ZA (Z6 hos hds (x:=.none) rfl (ZA (Z6 hos hds (x:=.int (-1) u) rfl (ZB ?_)))))));refine ZA (slicePart_int ?_);show wpAny _ _ (if ((-1:Int) == 0)=true then _ else _) _ _ s;rw[if_neg (by decide)];refine ZA (FG (o:=none) .none (ZA (FG (o:=none) .none (ZA (ZB ?_)))));show wpAny _ _ (pure ((n:Int) - 1,(-1:Int),Builtin.Slice.slicePlaces ((n:Int) - 1) (-1) (-1))) _ _ s
 have e:Builtin.Slice.slicePlaces ((n:Int) - 1) (-1) (-1)=n:=by
  unfold Builtin.Slice.slicePlaces;rw[if_neg (by decide)]
  by_cases h:n=0
  ·subst h;rfl
  ·rw[if_pos (by lia),show(-(-1):Int)=1 from rfl,Int.ediv_one];lia
 rw[e];exact ZB h
theorem Le{α:Type}(xs:List α):∀n,n<=xs.length->((List.range n).filterMap fun(k:Nat)=>xs[((xs.length:Int) - 1+(k:Int) * (-1)).toNat]?)=xs.reverse.take n
 | 0,_=>rfl
 | n+1,h=>by
  rw[ZBq,List.filterMap_append,Le xs n (by lia),Zi]
  congr 1
  have e:((xs.length:Int) - 1+(n:Int) * (-1)).toNat=xs.length - 1 - n:=by lia
  simp only[ZBm,List.filterMap_nil];rw[e,List.getElem?_reverse (by lia)];cases xs[xs.length - 1 - n]? <;> rfl
theorem getItem_tuple_back {t sl:Addr} {items:Array Value} {u:Tok} {Q:Value->Shared->Prop} (ht:IsTup s.heap t items) (hs:s.heap.IsSliceOf sl .none .none (.int (-1) u))
 (h:Q (.ref s.heap.objs.size) { s with heap:=s.heap.push { cls:=.type "tuple",data:=.seq items.toList.reverse.toArray } })
 (hsz:items.size<=sizeLine):wpAny (model prog w) A (getItem (.ref t) (.ref sl)) Q E s:=by
 have htake:sizeOk (.seq items.toList.reverse.toArray):=by
  show items.toList.reverse.toArray.size<=sizeLine;rw[ZL,List.length_reverse,Zf];exact hsz
 obtain⟨os,hos,hcs,hds⟩:=id hs;have hTs:s.TypeIs (.ref sl) "slice":=⟨os,hos,hcs⟩;unfold getItem
 try with_reducible refine Zl ?_
 first | refine ZA (ZB ?_) | skip
 refine ZA (wpAny_sequenceKey ht.typeIs (by decide) ?_)
 refine ZA (wpAny_callSpecial?_slot (name:=Str.ofString "__getitem__") ht.typeIs PyProof.Rows.slot_tuple_getitem
  (Zx PyProof.Rows.slot_tuple_getitem ht.typeIs entry_tuple_getitem ?_ (args_tuple_getitem _ _)))
 show wpAny _ _ (Builtin.Tuple.tupleItemsOf (.ref t) >>= _) _ _ s;refine ZA (tupleItemsOf_ ht ?_);refine ZA (wpAny_typeOf hTs ?_);rw[if_pos (by decide)];refine ZA (Sx hs ?_)
 have hno:¬(((items.size:Int) - 1 == 0 && (-1:Int) == 1 && items.size == items.size)=true):=by
  intro q;rw[Ze,Ze]at q;exact absurd q.1.2 (by decide)
 show wpAny _ _ (if ((items.size:Int) - 1 == 0 && (-1:Int) == 1 && items.size == items.size)=true then _ else _) _ _ s
 have epick:((List.range items.size).filterMap fun(k:Nat)=>items[((items.size:Int) - 1+(k:Int) * (-1)).toNat]?)=items.toList.reverse:=by
  have h1:=Le items.toList items.toList.length (ZD _);rw[ZBH (by simp),Zf]at h1;rw[<- h1]
  congr 1
  funext k
  rw[ZBd]
 rw[if_neg hno,epick]
 first
  | exact ZA (m:=Builtin.Tuple.tupleExact _) (Zk (ZB ⟨_,rfl,ZB h⟩) htake)
  | exact ZA (m:=Builtin.Tuple.tupleExact _) (Zk (ZA (ZB (ZB ⟨_,rfl,ZB h⟩))) htake)
  | exact ZA (ZA (m:=Builtin.Tuple.tupleExact _) (Zk (ZB (ZB ⟨_,rfl,ZB h⟩)) htake))
  | exact ZA (ZA (m:=Builtin.Tuple.tupleExact _) (Zk (ZB ⟨_,rfl,ZB h⟩) htake))
theorem getItem_tuple_whole {t sl:Addr} {items:Array Value} {vl vu:Value} {lo hi:Option Int} {Q:Value->Shared->Prop} (ht:IsTup s.heap t items) (hs:s.heap.IsSliceOf sl vl vu .none) (pl:IsPart vl lo) (pu:IsPart vu hi)
 (hw:sIx items.size 0 lo=0/\sIx items.size items.size hi=items.size)
 (h:Q (.ref t) s):wpAny (model prog w) A (getItem (.ref t) (.ref sl)) Q E s:=by
 obtain⟨os,hos,hcs,hds⟩:=id hs;have hTs:s.TypeIs (.ref sl) "slice":=⟨os,hos,hcs⟩;unfold getItem
 try with_reducible refine Zl ?_
 first | refine ZA (ZB ?_) | skip
 refine ZA (wpAny_sequenceKey ht.typeIs (by decide) ?_)
 refine ZA (wpAny_callSpecial?_slot (name:=Str.ofString "__getitem__") ht.typeIs PyProof.Rows.slot_tuple_getitem
  (Zx PyProof.Rows.slot_tuple_getitem ht.typeIs entry_tuple_getitem ?_ (args_tuple_getitem _ _)))
 show wpAny _ _ (Builtin.Tuple.tupleItemsOf (.ref t) >>= _) _ _ s;refine ZA (tupleItemsOf_ ht ?_);refine ZA (wpAny_typeOf hTs ?_);rw[if_pos (by decide)];refine ZA (Lg hs pl pu ?_);rw[hw.1,hw.2];show wpAny _ _ (if (((0:Nat):Int) == 0 && (1:Int) == 1 && (items.size - 0) == items.size)=true then _ else _) _ _ s;have hyes:(((0:Nat):Int) == 0 && (1:Int) == 1 && (items.size - 0) == items.size)=true:=by simp
 rw[if_pos hyes];unfold Builtin.Tuple.tupleIsExact;refine ZA (ZA (wpAny_typeOf ht.typeIs (ZB ?_)));rw[if_pos (by decide)];refine ZA (wpAny_rule ?_)
 first
  | exact ZA (ZB ⟨_,rfl,ZB h⟩)
  | exact ZB ⟨_,rfl,ZB h⟩
  | exact ZA (ZB (ZB ⟨_,rfl,ZB h⟩))
  | exact ZA (ZA (ZB (ZB ⟨_,rfl,ZB h⟩)))
end
end HT
namespace L2
open PySem PySem.Spec PyProof.Rows
section
variable {X:Cx}{K:W.Frag}{e sx:Expr}{te ts:TE}{lo hi:Option Expr}{tl th:TO}{pos p2:Pos}
theorem Vals.rev:∀{xs:List V} {us:List Value},Vals xs us->Vals xs.reverse us.reverse
 | _,_,.nil=>.nil
 | _,_,.cons h r=>by
  rw[ZBM,ZBM];exact(Vals.rev r).append (.cons h .nil)
def K0(K:W.Frag):V->Hp->VK->Prop:=fun x H Q=>match x with
 | .ref a=>∃xs,SqT K H a xs/\∀p,H p=none->Q (.ref p) (upd H p (.tup xs.reverse))
 | _=>False
def Kj(K:W.Frag)(te ts:TE):TE:=fun σ H Q=>te σ H fun x H1=>ts σ H1 fun k H4=>k=.int (-1)/\K0 K x H4 Q
theorem GB(he:PE X e te)(hs:PE X sx ts)(hK:X.K=K:=by rfl):PE X (.Subscript e (.Slice none none (some sx) p2) pos) (Kj K te ts):=by
 subst hK;intro pins s σ H Q I h;refine Subscript_ (thn (he pins s σ H _ I h) fun v s1 ⟨x,H1,I1,r1,q1⟩=>?_);refine wpAny_Slice ?_;refine ZB (ZB ?_);rw[evalPart_some];refine thn (hs pins s1 σ H1 _ I1 q1) fun vk s4 ⟨z,H4,I4,r4,q4⟩=>?_
 obtain⟨rfl,q4⟩:=q4;have I5:Inv X pins σ H4 { s4 with heap:=s4.heap.push { cls:=.type "slice",data:=.fields #[.none,.none,vk] } }:=I4.kept (t':=s4.toks) fun b ob q=>ZJ _ q
 cases x with
 | ref a =>
  cases r1;obtain⟨tk,rfl⟩:=r4;obtain⟨xs,hx,q⟩:=q4;obtain⟨its,r,ht,hz⟩:=I5.tuple hx;have hlen:its.toArray.size=xs.length:=by rw[ZL];exact r.length.symm
  show wpAny (model X.prog X.w) X.A (subscriptTail e (.Slice none none (some sx) p2) (.ref a) (.ref s4.heap.objs.size)) (EP X pins σ Q) X.xe { s4 with heap:=s4.heap.push { cls:=.type "slice",data:=.fields #[.none,.none,.int (-1) tk] } };refine tail_any (ops:=[.ref a,.ref s4.heap.objs.size]) ht.typeIs PyProof.Rows.slot_tuple_getitem.lookup ?_ (by with_unfolding_all rfl);refine HT.getItem_tuple_back ht (Heap.IsSliceOf.new ..) ?_ (by rw[hlen];exact hz);generalize s4.heap.push { cls:=.type "slice",data:=.fields #[.none,.none,.int (-1) tk] } = h5 at *;refine⟨.ref h5.objs.size,_,I5.laid (t':=s4.toks) (o:=.tup xs.reverse) (fun b ob q=>ZJ _ q) (ZD _) ?_,rfl,q _ (I5.hok.fresh (ZD _))⟩;exact⟨by rw[List.length_reverse];exact hz,its.reverse,r.rev,IsTupN.new _ _⟩
 | _=>exact False.elim q4
theorem NP(h:AZ te)(h3:AZ ts):AZ (Kj K te ts):=fun σ H Q Q' k q=>h _ _ _ _ (fun v _ q=>h3 _ _ _ _ (fun z _ ⟨e,q⟩=>⟨e,by
 unfold K0 at *;split at q
 ·obtain⟨xs,a,q⟩:=q;exact⟨xs,a,fun p hp=>k _ _ (q p hp)⟩
 ·exact q.elim⟩) q) q
def HQ(K:W.Frag):V->Option Int->Option Int->Hp->VK->Prop:=fun x lo hi H Q=>match x with
 | .ref a=>∃xs,SqT K H a xs/\∀p H',Same H H'->SqT K H' p (A1 xs lo hi)->Q (.ref p) H'
 | _=>False
theorem Mw:SlR X (HQ X.K):=by
 intro pins s σ H x v vl vu lo hi sl Q I rx hs pl pu q;cases x with
 | ref a =>
  obtain⟨xs,hx,q⟩:=q
  by_cases hw:HT.sIx xs.length 0 lo=0/\HT.sIx xs.length xs.length hi=xs.length
  ·cases rx;obtain⟨its,r,ht,hz⟩:=I.tuple hx;have hlen:its.toArray.size=xs.length:=by rw[ZL];exact r.length.symm
   refine⟨"tuple",_,PyProof.Rows.slot_tuple_getitem.lookup,ht.typeIs,?_⟩;refine HT.getItem_tuple_whole ht hs pl pu (by rw[hlen];exact hw) ⟨.ref a,H,I,rfl,q a H (fun _ _ h=>h) ?_⟩
   have:A1 xs lo hi=xs:=by
    unfold A1;rw[hw.1,hw.2,List.drop_zero,ZBH (by lia)]
   rw[this];exact hx
  ·exact GN pins s σ H _ v vl vu lo hi sl Q I rx hs pl pu ⟨a,xs,rfl,hx,hw,fun p hp=>q p _ (Same.upd hp) (.of AD)⟩
 | _=>exact False.elim q
theorem CU(he:PE X e te)(hl:PO X lo tl)(hu:PO X hi th)(hK:X.K=K:=by rfl):PE X (.Subscript e (.Slice lo hi none p2) pos) (tSl (HQ K) te tl th):=hK ▸ Ib Mw he hl hu
theorem Rv(h:AZ te)(h1:FR tl)(h2:FR th):AZ (tSl (HQ K) te tl th):=fun σ H Q Q' k q=>h _ _ _ _ (fun v _ q=>h1 _ _ _ _ (fun _ _ q=>h2 _ _ _ _ (fun _ _ q=>by
 cases v <;> first | exact False.elim q | (obtain⟨xs,a,q⟩:=q;exact⟨xs,a,fun p H' s r=>k _ _ (q p H' s r)⟩)) q) q) q
end
end L2
namespace HT
open PySem PyProof.Rows
section
variable {prog:Program}{w:World}{A:Around}{E:Value->Shared->Prop}{s:Shared}
theorem cat_none{t b:Addr}{ws:List Value}{Q:Value->Shared->Prop}(ht:IsTup s.heap t #[])(hb:IsTup s.heap b ws.toArray)(h:Q (.ref b) s) :
 wpAny (model prog w) A (binaryOp .Add (.ref t) (.ref b)) Q E s:=by
 obtain⟨⟨cls,dd,data,sl⟩,ho,hc,n,hd⟩:=id ht;obtain⟨⟨cls2,dd2,data2,sl2⟩,ho2,hc2,n2,hd2⟩:=id hb;simp only at hc hd hc2 hd2;subst hc hd hc2 hd2
 exact concat_meets ⟨_,ho,rfl⟩ ⟨_,ho2,rfl⟩ noFill_tuple_add seq_tuple_add PySem.F.slot_tuple_add PySem.F.entry_tuple_add (PySem.F.args_tuple_add_2 _ _)
  (tuple_addW0 t b #[] ws.toArray n n2 dd dd2 sl sl2 rfl) ⟨ho,ho2,h⟩
end
end HT
namespace L2
open PySem PySem.Spec PyProof.Rows
section
variable {X:Cx}{K:W.Frag}
def JX(K:W.Frag):R2:=fun x y H Q=>match x,y with
 | .int i,.int j=>Q (.int (i+j)) H
 | .ref a,.ref b=>E9 (.ref a) (.ref b) H Q\/∃xs ys,SqT K H a xs/\SqT K H b ys/\xs.length+ys.length<=sizeLine/\∀p H',Same H H'->SqT K H' p (xs++ys)->Q (.ref p) H'
 | _,_=>False
theorem PJ:OpR X (binaryOp .Add) (JX X.K):=by
 intro pins s σ H x y v u Q I rx ry q
 cases x <;> cases y <;> first
  | exact False.elim q
  | exact Gg pins s σ H _ _ v u Q I rx ry ⟨_,_,rfl,rfl,q⟩
  | skip
 rename_i a b
 rcases q with q | ⟨xs,ys,ha,hb,hz,q⟩
 ·exact Hk pins s σ H _ _ v u Q I rx ry q
 by_cases hx:xs=[]
 ·subst hx;cases rx;cases ry;obtain⟨its,r1,p1,_⟩:=I.tuple ha;obtain⟨its2,r2,p2,_⟩:=I.tuple hb;cases r1;exact HT.cat_none p1 p2 ⟨.ref b,H,I,rfl,q b H (fun _ _ h=>h) hb⟩
 ·exact Iv pins s σ H _ _ v u Q I rx ry ⟨a,b,xs,ys,rfl,rfl,ha,hb,hx,hz,fun e=>q a H (fun _ _ h=>h) (by rw[e,Z4];exact ha),fun _ p hp=>q p _ (Same.upd hp) (.of AD)⟩
theorem BD(hK:X.K=K:=by rfl):OpR X (binaryOp .Add) (JX K):=hK ▸ PJ
theorem Tg:BR (JX K):=fun x y H Q Q' m q=>by
 cases x <;> cases y <;> first
  | exact False.elim q
  | exact m _ _ q
  | skip
 rcases q with ⟨l,b,xs,zs,h1,h2,h3,h4,h5,q⟩ | ⟨xs,ys,ha,hb,hz,q⟩
 ·exact .inl ⟨l,b,xs,zs,h1,h2,h3,h4,h5,fun p hp=>m _ _ (q p hp)⟩
 ·exact .inr ⟨xs,ys,ha,hb,hz,fun p H' a b=>m _ _ (q p H' a b)⟩
end
section
variable {X:Cx}{K:W.Frag}
end
section
variable {X:Cx}{K:W.Frag}{e sx:Expr}{te ts:TE}{lo hi:Option Expr}{tl th:TO}{pos p2:Pos}
end
abbrev BV:=List (List Bool × Addr × V)
abbrev BVr:BV->List (List Bool × Addr × Value)->Prop:=Paired fun p q=>p.1=q.1/\p.2.1=q.2.1/\RelV p.2.2 q.2.2
def dV(P:Program)(w:World)(a:Addr)(kvs:BV):HO:=.ext fun h=>∃xs o es ep,BVr kvs xs/\h.get? a=some o/\o.ExactDict/\o.data=.dict es ep/\es.toList=xs.map (entryOfKey (tupleKind (P4 P w)))/\(xs.map (·.1)).Nodup/\xs.length<=sizeLine/\(a == sysModules)=false
section
variable {P:Program}{w:World}{H:Hp}{h:Heap}{a:Addr}
end
section
variable {X:Cx}{o i e f value:Expr}{pos pos' tpos apos cpos:Pos}{td ty tx tv:TE}
end
section
variable {X:Cx}{P:Program}{w:World}{o i e f:Expr}{pos apos cpos:Pos}{td ty tx:TE}
end
section
variable {prog:Program}{w:World}{A:Around}{E:Value->Shared->Prop}{s:Shared}{d it:Addr}{o:Obj}{es:Array DictEntry}{ep i:Nat}
end
section
variable {X:Cx}{pins:List (Addr × Obj)}{σ:St}{H:Hp}{s:Shared}
theorem BVr.get{kvs:BV}{xs:List (List Bool × Addr × Value)}(r:BVr kvs xs):∀{i:Nat} {q:List Bool × Addr × V},kvs[i]? = some q->∃x,xs[i]? = some x/\x.2.1=q.2.1:=by
 induction r with
 | nil=>intro i q e;simp at e
 | @cons a b l1 l2 h t ih =>
  intro i q e;cases i with
  | zero =>
   simp at e;subst e;exact⟨b,by simp,h.2.1.symm⟩
  | succ i =>
   obtain⟨v,h1,h2⟩:=ih (i:=i) (q:=q) (by simpa using e);exact⟨v,by simpa using h1,h2⟩
end
section
variable {X:Cx}{K:W.Frag}
end
section
variable {X:Cx}{K:W.Frag}
def Fd(K:W.Frag):List V->Hp->VK->Prop:=fun xs H Q=>match xs with
 | [.ref l]=>∃ns:List Int,SqL K H l (ns.map V.int)/\0 < ns.length/\∀M,M∈ns->(∀a∈ns,a<=M)->Q (.int M) H
 | _=>False
theorem Tu(hc:X.calm=true):CallR X (.builtin "max") (Fd X.K):=by
 intro pins s σ H xs us Q I r q
 match xs,q with
 | [.ref l],q =>
 obtain⟨ns,hl,hne,q⟩:=q;obtain⟨u,rfl,ru⟩:=Bm r;cases ru;obtain⟨its,rv,pl,hz⟩:=I.list hl;have hi:IntsAre its ns:=by simpa using EM rv
 obtain⟨zs,hzs⟩:=(hi.allInts).items;have pl':=pl.isList;rw[hzs]at pl'
 have hns:ns=zs.toList.map (·.1):=by
  rw[<- hi.numsOf,<- nums_intItems,<- hzs]
 have hsz:0 < zs.size:=by
  rw[hns,ZC,Zf]at hne;exact hne
 refine max_intList (I.ok.hd hc) pl' hsz fun v h' tk hv hk=>?_
 obtain⟨t,rfl⟩:=intItems_at hv;obtain⟨h1,h2⟩:=argBest_gt (numAt zs) (zs.size - 1);refine⟨.int _,H,I.kept hk,⟨t,rfl⟩,q _ ?_ fun a ha=>?_⟩
 ·rw[hns,numAt_eq];exact getD_mem (by rw[ZC,Zf];lia)
 ·rw[hns]at ha;obtain⟨j,hj,rfl⟩:=mem_getD ha;rw[ZC,Zf]at hj;rw[<- numAt_eq];exact h2 j (by lia)
theorem SH(hc:X.calm=true)(hK:X.K=K:=by rfl):CallR X (.builtin "max") (Fd K):=hK ▸ Tu hc
theorem Sw:Bb (Fd K):=fun xs H Q Q' h q=>by
 unfold Fd at *;split at q
 ·obtain⟨ns,a,b,q⟩:=q;exact⟨ns,a,b,fun M x y=>h _ _ (q M x y)⟩
 ·exact q.elim
end
def IE(K:W.Frag)(neg:Bool):R2:=fun x y H Q=>match y with
 | .ref p=>∃(xs:List V) (ds:List Dv) (d:Dv),SqA K H p xs/\Reps K H ds xs/\Rep K H d x/\(∀e∈ds,An e<=50)/\Q (.bl (neg ^^ ds.any fun e=>eqD e d)) H
 | _=>False
theorem SF{x y:V}{u:Value}(h1:RelV x u)(h2:RelV y u):x=y:=by
 cases x <;> cases y <;> simp only[RelV]at h1 h2 <;> (first | (obtain⟨t,rfl⟩:=h1) | subst h1) <;> (first | (obtain⟨t',e⟩:=h2;cases e;done) | (obtain⟨t',e⟩:=h2;cases e;rfl) | (cases h2;done) | (cases h2;rfl))
open Classical in
noncomputable def CO(K:W.Frag)(H:Hp)(u:Value):Dv:=if h:∃d x,RelV x u/\Rep K H d x then h.choose else .non
section
variable {X:Cx}{K:W.Frag}{pins:List (Addr × Obj)}{σ:St}{H:Hp}{s:Shared}
theorem K9(I:Inv X pins σ H s){d:Dv}{x:V}{u:Value}(r:RelV x u)(h:Rep X.K H d x):CO X.K H u=d:=by
 have hx:∃d x,RelV x u/\Rep X.K H d x:=⟨d,x,r,h⟩;unfold CO;rw[dif_pos hx];obtain⟨y,r',h'⟩:=hx.choose_spec;obtain rfl:=SF r r';exact FY I _ _ _ h' h
theorem GJ(I:Inv X pins σ H s){d:Dv}:∀{ds:List Dv} {xs:List V} {us:List Value},Reps X.K H ds xs->Vals xs us->us.any (fun u=>eqD (CO X.K H u) d)=ds.any fun e=>eqD e d
 | [],_,_,h,r=>by
  unfold Reps at h;subst h;cases r;rfl
 | e::ds,xs,us,h,r=>by
  unfold Reps at h;obtain⟨x,l,rfl,h1,h2⟩:=h;cases r with
  | cons r1 r2=>rw[ZBF,ZBF,GJ I h2 r2,K9 I r1 h1]
theorem KG{d:Dv}:∀{ds:List Dv} {xs:List V} {us:List Value},Reps K H ds xs->Vals xs us->∀u∈us,∃e∈ds,∃x,RelV x u/\Rep K H e x
 | [],_,_,h,r=>by
  unfold Reps at h;subst h;cases r;intro u hu;cases hu
 | e::ds,xs,us,h,r=>by
  unfold Reps at h;obtain⟨x,l,rfl,h1,h2⟩:=h;cases r with
  | cons r1 r2 =>
   intro u hu
   rcases ZF.mp hu with rfl | hu
   ·exact⟨e,Zo,x,r1,h1⟩
   ·obtain⟨e',h3,h4⟩:=KG (d:=d) h2 r2 u hu;exact⟨e',Za _ h3,h4⟩
theorem Jf(hu:X.A.units+60 < cLine)(I:Inv X pins σ H s){d:Dv}{x:V}{v:Value}{ds:List Dv}{xs:List V}{us:List Value}(rx:RelV x v)(hx:Rep X.K H d x)(hR:Reps X.K H ds xs)(r:Vals xs us)(hd:∀e∈ds,An e<=50):∀y,y∈us->SeqAt.EqAt X.A.in1 s y v (eqD (CO X.K H y) d):=by
 intro y hy;obtain⟨e,he,z,r1,h1⟩:=KG (d:=d) hR r y hy;rw[K9 I r1 h1];exact(Fy I 50 X.A.in1 e d z x y v (hd e he) (by show X.A.units+1+50 < cLine;lia) h1 hx r1 rx).1
theorem QN(hu:X.A.units+60 < cLine):OpR X (compareOp .NotIn) (IE X.K true):=by
 intro pins s σ H x y v u Q I rx ry h;cases y <;> first | exact False.elim h | skip
 obtain⟨xs,ds,d,hq,hR,hx,hd,q⟩:=h;cases ry
 rcases hq with hq | hq
 ·obtain⟨its,r,pl,hz⟩:=I.list hq;refine SeqAt.notIn_listAt (fun y=>eqD (CO X.K H y) d) pl.isList (fun w hw=>Jf hu I rx hx hR r hd w (by simpa using hw)) ⟨.bl _,H,I,rfl,?_⟩;rw[show its.toArray.any (fun y=>eqD (CO X.K H y) d)=its.any (fun y=>eqD (CO X.K H y) d) by simp,GJ I hR r];simpa using q
 ·obtain⟨its,r,pl,hz⟩:=I.tuple hq;refine SeqAt.notIn_tupleAt (fun y=>eqD (CO X.K H y) d) pl (fun w hw=>Jf hu I rx hx hR r hd w (by simpa using hw)) ⟨.bl _,H,I,rfl,?_⟩;rw[show its.toArray.any (fun y=>eqD (CO X.K H y) d)=its.any (fun y=>eqD (CO X.K H y) d) by simp,GJ I hR r];simpa using q
theorem HF(hu:X.A.units+60 < cLine)(hK:X.K=K:=by rfl):OpR X (compareOp .NotIn) (IE K true):=hK ▸ QN hu
theorem RF{neg:Bool}:BR (IE K neg):=fun x y H Q Q' h q=>by
 cases y with
 | ref p=>obtain⟨xs,ds,d,h1,h2,h3,h4,q⟩:=q;exact⟨xs,ds,d,h1,h2,h3,h4,h _ _ q⟩
 | _=>exact False.elim q
end
structure GFd(H:Hp)(t l:Addr)(N:Nat):Prop where
 at_:∃(i g c:Int) (ns:List Int),0<=i/\0<=g/\0<=c/\c<=N/\H t=some (.lst [.ref l,.int i,.int g,.int c])/\l≠t/\H l=some (.lst (ns.map V.int))/\ns.length≠0
theorem GFeed.told{H:Hp}{t:Addr}{N:Nat}(F:GFeed H t N):∃l,GFd H t l N:=by
 obtain⟨l,i,g,c,ns,h⟩:=F.at_;exact⟨l,i,g,c,ns,h⟩
theorem GFd.feed{H:Hp}{t l:Addr}{N:Nat}(F:GFd H t l N):GFeed H t N:=by
 obtain⟨i,g,c,ns,h⟩:=F.at_;exact⟨l,i,g,c,ns,h⟩
theorem GFd.same{H H':Hp}{t l:Addr}{N:Nat}(F:GFd H t l N)(h:Same H H'):GFd H' t l N:=by
 obtain⟨i,g,c,ns,h1,h2,h3,h4,h5,h6,h7,h8⟩:=F.at_;exact⟨i,g,c,ns,h1,h2,h3,h4,h _ _ h5,h6,h _ _ h7,h8⟩
theorem GFd.upd{H:Hp}{t l p:Addr}{o:HO}{N:Nat}(F:GFd H t l N)(h:H p=none):GFd (L2.upd H p o) t l N:=F.same (Same.upd h)
theorem GFd.ne{H:Hp}{t l p:Addr}{N:Nat}(F:GFd H t l N)(h:H p=none):p≠t/\p≠l:=by
 obtain⟨i,g,c,ns,h1,h2,h3,h4,h5,h6,h7,h8⟩:=F.at_;exact⟨fun e=>(by rw[e,h5]at h;exact nomatch h),fun e=>(by rw[e,h7]at h;exact nomatch h)⟩
theorem GFd.put{H:Hp}{t l p:Addr}{o:HO}{N:Nat}(F:GFd H t l N)(h:p≠t/\p≠l):GFd (L2.upd H p o) t l N:=by
 obtain⟨i,g,c,ns,h1,h2,h3,h4,h5,h6,h7,h8⟩:=F.at_;exact⟨i,g,c,ns,h1,h2,h3,h4,by rw[AM (Ne.symm h.1)];exact h5,h6,by rw[AM (Ne.symm h.2)];exact h7,h8⟩
theorem GFeed.put{H:Hp}{t p:Addr}{o:HO}{N:Nat}{xs:List V}(F:GFeed H t N)(hp:p≠t)(hx:H p=some (.lst xs))(hn:∀ns:List Int,ns.length≠0->xs≠ns.map V.int):GFeed (L2.upd H p o) t N:=by
 obtain⟨l,i,g,c,ns,h1,h2,h3,h4,h5,h6,h7,h8⟩:=F.at_
 have:p≠l:=fun e=>by
  rw[e,h7]at hx;cases hx;exact hn ns h8 rfl
 exact⟨l,i,g,c,ns,h1,h2,h3,h4,by rw[AM (Ne.symm hp)];exact h5,h6,by rw[AM (Ne.symm this)];exact h7,h8⟩
def Dd:Sp:=fun vs H Q _=>match vs with
 | [.ref t,.int m]=>∃l N,GFd H t l N/\N<=1000000000/\okDiv m/\∀d H',0<=d->d < m->GFd H' t l (N+1)->(∀b,b≠t->H' b=H b)->Q (.int d) H'
 | _=>False
theorem Pm:AQ Dd:=fun vs H Q Q' E h q=>by
 unfold Dd at *;split at q
 ·obtain⟨l,N,h1,h2,h3,q⟩:=q;exact⟨l,N,h1,h2,h3,fun d H' a b c e=>h _ _ (q d H' a b c e)⟩
 ·exact q.elim
theorem N4(vs:List V)(H:Hp)(Q:VK)(E:XK)(h:Ei vs H Q E):Dd vs H Q E:=by
 unfold Ei at h;unfold Dd;split at h
 ·obtain⟨N,F,h2,h3,q⟩:=h;obtain⟨l,F⟩:=F.told;exact⟨l,N,F,h2,h3,fun d H' a b c e=>q d H' a b c.feed e⟩
 ·exact h.elim
inductive Dw where
 | non | bl (b:Bool) | int (i:Int) | str (x:Str) | tup (ds:List Dw) | lst (ds:List Dw) | emp
def A6(a:Addr)(xs:List V):Heap->Prop:=fun h=>a≠sysModules/\∃(its:List Value) (n:Nat),Vals xs its/\h.get? a=some { cls:=.type "list",data:=.seq its.toArray n }
mutual
def RepW(K:W.Frag)(H:Hp):Dw->V->Prop
 | .non,v=>v=.non
 | .bl b,v=>v=.bl b
 | .int i,v=>v=.int i
 | .str x,v=>v=.str x
 | .tup ds,v=>∃a xs,v=.ref a/\SqT K H a xs/\RepsW K H ds xs
 | .lst ds,v=>∃a xs,v=.ref a/\H a=some (.ext (A6 a xs))/\RepsW K H ds xs
 | .emp,v=>∃a,v=.ref a/\H a=some (.dK [])
def RepsW(K:W.Frag)(H:Hp):List Dw->List V->Prop
 | [],xs=>xs=[]
 | d::ds,xs=>∃x r,xs=x::r/\RepW K H d x/\RepsW K H ds r
end
theorem RepsW.length{K:W.Frag}{H:Hp}:∀{ds:List Dw} {xs:List V},RepsW K H ds xs->ds.length=xs.length
 | [],xs,h=>by unfold RepsW at h;subst h;rfl
 | d::ds,xs,h=>by
  unfold RepsW at h;obtain⟨x,r,rfl,_,h⟩:=h;rw[Zj,Zj,RepsW.length h]
theorem RepsW.get{K:W.Frag}{H:Hp}:∀{ds:List Dw} {xs:List V} {i:Nat} {d:Dw},RepsW K H ds xs->ds[i]? = some d->∃x,xs[i]? = some x/\RepW K H d x
 | [],_,_,_,_,e=>by simp at e
 | d::ds,xs,0,_,h,e=>by
  unfold RepsW at h;obtain⟨x,r,rfl,h1,_⟩:=h;simp at e;subst e;exact⟨x,rfl,h1⟩
 | d::ds,xs,i+1,_,h,e=>by
  unfold RepsW at h;obtain⟨x,r,rfl,_,h⟩:=h;obtain⟨y,h1,h2⟩:=RepsW.get (i:=i) h (by simpa using e);exact⟨y,by simpa using h1,h2⟩
theorem EX{K:W.Frag}{H:Hp}:RepW K H .non .non:=by unfold RepW;rfl
theorem DB{K:W.Frag}{H:Hp}{b:Bool}:RepW K H (.bl b) (.bl b):=by unfold RepW;rfl
theorem BE{K:W.Frag}{H:Hp}{i:Int}:RepW K H (.int i) (.int i):=by unfold RepW;rfl
theorem EW{K:W.Frag}{H:Hp}{x:Str}:RepW K H (.str x) (.str x):=by unfold RepW;rfl
theorem As{K:W.Frag}{H:Hp}{p:Addr}{xs:List V}{ds:List Dw}(h:SqT K H p xs)(r:RepsW K H ds xs):RepW K H (.tup ds) (.ref p):=by unfold RepW;exact⟨p,xs,rfl,h,r⟩
theorem Fm{K:W.Frag}{H:Hp}{p:Addr}{xs:List V}{ds:List Dw}(h:H p=some (.ext (A6 p xs)))(r:RepsW K H ds xs):RepW K H (.lst ds) (.ref p):=by unfold RepW;exact⟨p,xs,rfl,h,r⟩
theorem NB{K:W.Frag}{H:Hp}{p:Addr}(h:H p=some (.dK [])):RepW K H .emp (.ref p):=by unfold RepW;exact⟨p,rfl,h⟩
theorem Bg{K:W.Frag}{H:Hp}{ds:List Dw}{v:V}(h:RepW K H (.tup ds) v):∃a xs,v=.ref a/\SqT K H a xs/\RepsW K H ds xs:=by unfold RepW at h;exact h
theorem Al{K:W.Frag}{H:Hp}:RepsW K H [] []:=by unfold RepsW;rfl
theorem Ao{K:W.Frag}{H:Hp}{d:Dw}{ds:List Dw}{x:V}{xs:List V}(h:RepW K H d x)(r:RepsW K H ds xs):RepsW K H (d::ds) (x::xs):=by unfold RepsW;exact⟨x,xs,rfl,h,r⟩
theorem RepsW.append{K:W.Frag}{H:Hp}:∀{ds es:List Dw} {xs ys:List V},RepsW K H ds xs->RepsW K H es ys->RepsW K H (ds++es) (xs++ys)
 | [],es,xs,ys,h,h'=>by unfold RepsW at h;subst h;exact h'
 | d::ds,es,xs,ys,h,h'=>by
  unfold RepsW at h;obtain⟨x,r,rfl,h1,h2⟩:=h;exact Ao h1 (RepsW.append h2 h')
theorem RepsW.take{K:W.Frag}{H:Hp}:∀(k:Nat) {ds:List Dw} {xs:List V},RepsW K H ds xs->RepsW K H (ds.take k) (xs.take k)
 | 0,_,_,_=>by simpa using Al
 | k+1,[],xs,h=>by unfold RepsW at h;subst h;simpa using Al
 | k+1,d::ds,xs,h=>by
  unfold RepsW at h;obtain⟨x,r,rfl,h1,h2⟩:=h;simpa using Ao h1 (RepsW.take k h2)
theorem RepsW.drop{K:W.Frag}{H:Hp}:∀(k:Nat) {ds:List Dw} {xs:List V},RepsW K H ds xs->RepsW K H (ds.drop k) (xs.drop k)
 | 0,_,_,h=>by simpa using h
 | k+1,[],xs,h=>by unfold RepsW at h;subst h;simpa using Al
 | k+1,d::ds,xs,h=>by
  unfold RepsW at h;obtain⟨x,r,rfl,h1,h2⟩:=h;simpa using RepsW.drop k h2
theorem RepsW.reverse{K:W.Frag}{H:Hp}:∀{ds:List Dw} {xs:List V},RepsW K H ds xs->RepsW K H ds.reverse xs.reverse
 | [],xs,h=>by unfold RepsW at h;subst h;simpa using Al
 | d::ds,xs,h=>by
  unfold RepsW at h;obtain⟨x,r,rfl,h1,h2⟩:=h;rw[ZBM,ZBM];exact RepsW.append (RepsW.reverse h2) (Ao h1 Al)
mutual
theorem RepW.same{K:W.Frag}{H H':Hp}(s:Same H H'):∀(d:Dw) (v:V),RepW K H d v->RepW K H' d v
 | .non,v,h=>by unfold RepW at *;exact h
 | .bl b,v,h=>by unfold RepW at *;exact h
 | .int i,v,h=>by unfold RepW at *;exact h
 | .str x,v,h=>by unfold RepW at *;exact h
 | .emp,v,h=>by unfold RepW at *;obtain⟨a,e,h⟩:=h;exact⟨a,e,s _ _ h⟩
 | .tup ds,v,h=>by
  unfold RepW at *;obtain⟨a,xs,e,h1,h2⟩:=h;exact⟨a,xs,e,MO h1 s,RepsW.same s ds xs h2⟩
 | .lst ds,v,h=>by
  unfold RepW at *;obtain⟨a,xs,e,h1,h2⟩:=h;exact⟨a,xs,e,s _ _ h1,RepsW.same s ds xs h2⟩
theorem RepsW.same{K:W.Frag}{H H':Hp}(s:Same H H'):∀(ds:List Dw) (xs:List V),RepsW K H ds xs->RepsW K H' ds xs
 | [],xs,h=>by unfold RepsW at *;exact h
 | d::ds,xs,h=>by
  unfold RepsW at *;obtain⟨x,r,e,h1,h2⟩:=h;exact⟨x,r,e,RepW.same s d x h1,RepsW.same s ds r h2⟩
end
mutual
theorem RepW.frm{K:W.Frag}{H H':Hp}{t:Addr}(s:Frm t H H')(ht:∃zs,H t=some (.lst zs)):∀(d:Dw) (v:V),RepW K H d v->RepW K H' d v
 | .non,v,h=>by unfold RepW at *;exact h
 | .bl b,v,h=>by unfold RepW at *;exact h
 | .int i,v,h=>by unfold RepW at *;exact h
 | .str x,v,h=>by unfold RepW at *;exact h
 | .emp,v,h=>by
  unfold RepW at *;obtain⟨a,e,h⟩:=h;obtain⟨zs,hz⟩:=ht;exact⟨a,e,s a _ (fun q=>by rw[q,hz]at h;cases h) h⟩
 | .tup ds,v,h=>by
  unfold RepW at *;obtain⟨a,xs,e,h1,h2⟩:=h;refine⟨a,xs,e,?_,RepsW.frm s ht ds xs h2⟩;obtain⟨zs,hz⟩:=ht
  rcases h1 with (h1 | ⟨o,h1⟩) | h1
  ·exact .inl (.inl (s a _ (fun q=>by rw[q,hz]at h1;cases h1) h1))
  ·exact .inl (.inr ⟨o,s a _ (fun q=>by rw[q,hz]at h1;cases h1) h1⟩)
  ·exact .inr h1
 | .lst ds,v,h=>by
  unfold RepW at *;obtain⟨a,xs,e,h1,h2⟩:=h;obtain⟨zs,hz⟩:=id ht;exact⟨a,xs,e,s a _ (fun q=>by rw[q,hz]at h1;cases h1) h1,RepsW.frm s ht ds xs h2⟩
theorem RepsW.frm{K:W.Frag}{H H':Hp}{t:Addr}(s:Frm t H H')(ht:∃zs,H t=some (.lst zs)):∀(ds:List Dw) (xs:List V),RepsW K H ds xs->RepsW K H' ds xs
 | [],xs,h=>by unfold RepsW at *;exact h
 | d::ds,xs,h=>by
  unfold RepsW at *;obtain⟨x,r,e,h1,h2⟩:=h;exact⟨x,r,e,RepW.frm s ht d x h1,RepsW.frm s ht ds r h2⟩
end
def MT(t:TA):TE:=fun σ H Q=>t σ H fun xs H1=>xs.length<=sizeLine/\∀p,H1 p=none->Q (.ref p) (upd H1 p (.ext (A6 p xs)))
section
variable {X:Cx}{K:W.Frag}{es:List Expr}{t:TA}{pos:Pos}
theorem KC{H:Hp}{h:Heap}{P:Program}{w:World}{a:Addr}{xs:List V}(x:A6 a xs h):ObjOk P w H h a (.ext (A6 a xs)):=by
 refine⟨x,?_,fun h1 h2 ⟨hs,its,n,r,e⟩ k=>⟨hs,its,n,r,k _ e⟩⟩;obtain⟨hs,its,n,r,e⟩:=x;exact⟨_,e⟩
theorem Gc(h:PA X es t):PE X (.List es pos) (MT t):=by
 intro pins s σ H Q I hq;refine wpAny_List_spliced (thn (h pos pins s σ H _ I hq) fun us s1 ⟨xs,H1,I1,r,z,q⟩=>⟨by rw[<- r.length];exact z,?_⟩);have hf:H1 s1.heap.objs.size=none:=I1.hok.fresh (ZD _);refine⟨.ref s1.heap.objs.size,upd H1 s1.heap.objs.size (.ext (A6 s1.heap.objs.size xs)),I1.laid (t':=s1.toks) (fun b u e=>ZJ _ e) (ZD _) ?_,rfl,q _ hf⟩;exact KC ⟨Nat.ne_of_gt I1.big,us,0,r,ZR _ rfl⟩
theorem Oh(h:CG t):AZ (MT t):=fun σ H Q Q' k q=>h _ _ _ _ (fun xs _ q=>⟨q.1,fun p hp=>k _ _ (q.2 p hp)⟩) q
def Ew(K:W.Frag):List V->Hp->VK->Prop:=fun xs H Q=>match xs with
 | [.ref p]=>∃ys,SqT K H p ys/\∀l,H l=none->Q (.ref l) (upd H l (.ext (A6 l ys)))
 | _=>False
theorem Ra:CallR X (.type "list") (Ew X.K):=by
 intro pins s σ H xs us Q I r h
 match xs,h with
 | [.ref p],h =>
 obtain⟨ys,hq,q⟩:=h;obtain⟨u,rfl,rx⟩:=Bm r;cases rx
 have fin:∀(its:List Value),Vals ys its->∀(h':Heap) (c':Nat),(∀b o',s.heap.get? b=some o'->h'.get? b=some o') ->
  h'.get? s.heap.objs.size=some { cls:=.type "list",dict:=none,data:=.seq its.toArray c',slots:=#[] } -> EP X pins σ Q (.ref s.heap.objs.size) { s with heap:=h' }:=fun its r' h' c' kp e =>
  ⟨.ref s.heap.objs.size,_,I.laid (t':=s.toks) kp (ZD _) (KC (xs:=ys) ⟨Nat.ne_of_gt I.big,its,c',r',e⟩),rfl,q _ (I.hok.fresh (ZD _))⟩
 obtain⟨its,r',pl,hz⟩:=I.tuple hq;have hlen:=r'.length;obtain⟨o,ho,hc,n,hd⟩:=pl;exact call_list_seq p (.inr rfl) ho hc hd (fun h' c' kp e=>fin its r' h' c' kp e) (by simp only[ZL] <;> lia)
theorem Rl(hK:X.K=K:=by rfl):CallR X (.type "list") (Ew K):=hK ▸ Ra
theorem To:Bb (Ew K):=fun xs H Q Q' h q=>by
 unfold Ew at *;split at q
 ·obtain⟨ys,a,q⟩:=q;exact⟨ys,a,fun l hl=>h _ _ (q l hl)⟩
 ·exact q.elim
end
def tyW:Dw->String
 | .non=>"NoneType"
 | .bl _=>"bool"
 | .int _=>"int"
 | .str _=>"str"
 | .tup _=>"tuple"
 | .lst _=>"list"
 | .emp=>"dict"
def Fq(K:W.Frag):List V->Hp->VK->Prop:=fun xs H Q=>match xs with
 | [x,.ty T]=>T∈kinds/\∃d,RepW K H d x/\Q (.bl (BG (tyW d) T)) H
 | _=>False
theorem OO{X:Cx}:CallR X (.builtin "isinstance") (Fq X.K):=by
 intro pins s σ H xs us Q I r q
 match xs,q with
 | [x,.ty T],q =>
  obtain⟨hT,d,h,q⟩:=q;have hT':=hT;unfold kinds at hT';simp only[ZF,ZBR,or_false]at hT';cases d with
  | non =>
   unfold RepW at h;subst h;exact FX pins s σ H _ us Q I r ⟨hT,.non,by unfold Rep;rfl,q⟩
  | str z =>
   unfold RepW at h;subst h;exact FX pins s σ H _ us Q I r ⟨hT,.str z,by unfold Rep;rfl,q⟩
  | bl b =>
   unfold RepW at h;subst h;exact FX pins s σ H _ us Q I r ⟨hT,.bl b,by unfold Rep;rfl,q⟩
  | int i =>
   unfold RepW at h;subst h;exact FX pins s σ H _ us Q I r ⟨hT,.int i,by unfold Rep;rfl,q⟩
  | tup ds =>
   unfold RepW at h;obtain⟨a,ys,rfl,hs,_⟩:=h;obtain⟨u,w',rfl,ru,rw'⟩:=C1 r;cases rw';obtain⟨ht,hn,Hh,k,hh⟩:=ML I ru (show TyS X.K H (.ref a) "tuple" from .inl ⟨rfl,ys,hs⟩);exact PySem.W.kia_one k I.kIn hh (IA ht hT) hn fun tk=>⟨.bl (BG "tuple" T),H,I.tok _,rfl,q⟩
  | lst ds =>
   unfold RepW at h;obtain⟨a,ys,rfl,hs,_⟩:=h;obtain⟨u,w',rfl,ru,rw'⟩:=C1 r;cases rw';cases ru;obtain⟨⟨_,its,n,_,h1⟩,_⟩:=(show ObjOk X.prog X.w H s.heap a (.ext (A6 a ys)) from I.hok a _ hs);exact PySem.W.kia_one PySem.W.kitx_list I.kIn ⟨_,h1,rfl⟩ (IA (.inr (.inr (.inr rfl))) hT) (fun z=>nomatch z) fun tk=>⟨.bl (BG "list" T),H,I.tok _,rfl,q⟩
  | emp =>
   unfold RepW at h;obtain⟨a,rfl,hs⟩:=h;refine Gr pins s σ H _ us Q I r ⟨hT,_,.inr (.inr (.inl ⟨⟨_,hs⟩,rfl⟩)),?_⟩;have e:(T == "dict")=BG (tyW .emp) T:=by rcases hT' with rfl | rfl | rfl | rfl | rfl | rfl <;> rfl
   rw[e];exact q
theorem BX{X:Cx}{K:W.Frag}(hK:X.K=K:=by rfl):CallR X (.builtin "isinstance") (Fq K):=hK ▸ OO
theorem Ow{K:W.Frag}:Bb (Fq K):=fun xs H Q Q' h q=>by
 unfold Fq at *;split at q
 ·obtain⟨a,t,b,q⟩:=q;exact⟨a,t,b,h _ _ q⟩
 ·exact q.elim
mutual
def pyW:Dw->PyData
 | .non=>.none
 | .bl b=>.bool b
 | .int i=>.int i
 | .str x=>.str x
 | .tup ds=>.tuple (BM ds)
 | .lst ds=>.list (BM ds)
 | .emp=>.dict []
def BM:List Dw->List PyData
 | []=>[]
 | d::ds=>pyW d::BM ds
end
mutual
def Au:Dw->Nat
 | .tup ds=>CY ds+1
 | .lst ds=>CY ds+1
 | .emp=>1
 | _=>0
def CY:List Dw->Nat
 | []=>0
 | d::ds=>max (Au d) (CY ds)
end
mutual
def Be:Dw->Bool
 | .non=>true
 | .bl _=>true
 | .int i=>Ie i
 | .str x=>x.cps.toList.all fun c=>decide (c < 16 ^ 8)
 | .tup ds=>Ca ds
 | .lst ds=>Ca ds
 | .emp=>true
def Ca:List Dw->Bool
 | []=>true
 | d::ds=>Be d && Ca ds
end
mutual
def AY:Dw->Nat
 | .str x=>x.cps.size
 | .tup ds=>AV ds
 | .lst ds=>AV ds
 | _=>0
def AV:List Dw->Nat
 | []=>0
 | d::ds=>AY d+1+AV ds
end
mutual
theorem MK:∀d:Dw,(pyW d).depth=Au d
 | .non=>by simp[pyW,Au,PyData.depth]
 | .bl _=>by simp[pyW,Au,PyData.depth]
 | .int _=>by simp[pyW,Au,PyData.depth]
 | .str _=>by simp[pyW,Au,PyData.depth]
 | .emp=>by simp[pyW,Au,PyData.depth,PyData.depthKv]
 | .tup ds=>by simp[pyW,Au,PyData.depth,G7 ds]
 | .lst ds=>by simp[pyW,Au,PyData.depth,G7 ds]
theorem G7:∀ds:List Dw,PyData.depthAll (BM ds)=CY ds
 | []=>by simp[BM,CY,PyData.depthAll]
 | d::ds=>by simp[BM,CY,PyData.depthAll,MK d,G7 ds]
end
mutual
theorem Mh:∀d:Dw,(pyW d).bulk=AY d
 | .non=>by simp[pyW,PyData.bulk,AY]
 | .bl _=>by simp[pyW,PyData.bulk,AY]
 | .int _=>by simp[pyW,PyData.bulk,AY]
 | .str _=>by simp[pyW,PyData.bulk,AY]
 | .emp=>by simp[pyW,PyData.bulk,PyData.bulkKv,AY]
 | .tup ds=>by simp[pyW,PyData.bulk,AY,JL ds]
 | .lst ds=>by simp[pyW,PyData.bulk,AY,JL ds]
theorem JL:∀ds:List Dw,PyData.bulkAll (BM ds)=AV ds
 | []=>by simp[BM,PyData.bulkAll,AV]
 | d::ds=>by simp[BM,PyData.bulkAll,AV,Mh d,JL ds]
end
mutual
theorem Lo:∀d:Dw,Be d=true->(pyW d).showable=true/\(pyW d).leavesShort 1921=true
 | .non,_=>by simp[pyW,PyData.showable,PyData.leavesShort]
 | .bl _,_=>by simp[pyW,PyData.showable,PyData.leavesShort]
 | .int i,h=>by
  have h1:i.natAbs.log2 < 1900:=by simpa [Be,Ie] using h
  have h2:i.natAbs.log2 < 1920:=by lia
  refine⟨by simpa [pyW,PyData.showable] using h2,?_⟩;simp only[pyW,PyData.leavesShort,decide_eq_true_eq,PyData.shown];exact ZM (PyProof.Rows.int_text_len_1921 h2)
 | .str x,h=>by
  refine⟨by simp[pyW,PyData.showable],?_⟩;unfold Be at h;unfold pyW PyData.leavesShort;exact h
 | .emp,_=>by simp[pyW,PyData.showable,PyData.leavesShort,PyData.showableKv,PyData.leavesShortKv]
 | .tup ds,h=>by
  have h':=GG ds (by simpa [Be] using h);simpa [pyW,PyData.showable,PyData.leavesShort] using h'
 | .lst ds,h=>by
  have h':=GG ds (by simpa [Be] using h);simpa [pyW,PyData.showable,PyData.leavesShort] using h'
theorem GG:∀ds:List Dw,Ca ds=true->PyData.showableAll (BM ds)=true/\PyData.leavesShortAll 1921 (BM ds)=true
 | [],_=>by simp[BM,PyData.showableAll,PyData.leavesShortAll]
 | d::ds,h=>by
  have h':Be d=true/\Ca ds=true:=by simpa [Ca] using h
  have h1:=Lo d h'.1;have h2:=GG ds h'.2;simp[BM,PyData.showableAll,PyData.leavesShortAll,h1,h2]
end
def Bl(d:Dw):Str:=(pyW d).shown
section
variable {X:Cx}{pins:List (Addr × Obj)}{σ:St}{H:Hp}{s:Shared}
mutual
theorem J0(I:Inv X pins σ H s):∀(d:Dw) (x:V) (u:Value),RepW X.K H d x->RelV x u->∃as,Reads s.heap u (pyW d) as/\sysModules∉as
 | .non,x,u,h,r=>by unfold RepW at h;subst h;cases r;exact⟨_,by rw[pyW];exact .none,by simp⟩
 | .bl b,x,u,h,r=>by unfold RepW at h;subst h;cases r;exact⟨_,by rw[pyW];exact .bool b,by simp⟩
 | .int i,x,u,h,r=>by unfold RepW at h;subst h;obtain⟨t,rfl⟩:=r;exact⟨_,by rw[pyW];exact .int i t,by simp⟩
 | .str y,x,u,h,r=>by unfold RepW at h;subst h;obtain⟨t,rfl⟩:=r;exact⟨_,by rw[pyW];exact .str y t,by simp⟩
 | .tup ds,x,u,h,r=>by
  unfold RepW at h;obtain⟨a,xs,rfl,hs,hr⟩:=h;cases r;obtain⟨its,rv,⟨o,h1,h2,n,h3⟩,_⟩:=I.tuple hs;obtain⟨as,ha,hn⟩:=Iq I ds xs its hr rv;exact⟨as,by rw[pyW];exact .tuple h1 h2 h3 ha,hn⟩
 | .lst ds,x,u,h,r=>by
  unfold RepW at h;obtain⟨a,xs,rfl,hs,hr⟩:=h;cases r;obtain⟨⟨hne,its,n,rv,h1⟩,_⟩:=(show ObjOk X.prog X.w H s.heap a (.ext (A6 a xs)) from I.hok a _ hs);obtain⟨as,ha,hn⟩:=Iq I ds xs its hr rv;refine⟨a::as,by rw[pyW];exact .list h1 rfl rfl ha,fun hm=>?_⟩
  rcases ZF.mp hm with e | e
  ·exact hne e.symm
  ·exact hn e
 | .emp,x,u,h,r=>by
  unfold RepW at h;obtain⟨a,rfl,hs⟩:=h;cases r;obtain⟨_,hne,vs,rel,o,es,ep,h1,h2,h3,_,h5,_⟩:=Lm I.hok hs;cases rel
  have he:es.toList=[]:=by
   cases q:es.toList with
   | nil=>rfl
   | cons e l=>rw[q]at h5;cases h5
  refine⟨a::[]++[],?_,?_⟩
  ·rw[pyW];exact .dict (kvs:=[]) h1 h2.1 h3 (by rw[he];exact .nil) (by rw[he];exact .nil)
  ·intro hm
   have:sysModules=a:=by simpa using hm
   rw[<- this]at hne;simp at hne
theorem Iq(I:Inv X pins σ H s):∀(ds:List Dw) (xs:List V) (us:List Value),RepsW X.K H ds xs->Vals xs us->∃as,ReadsAll s.heap us (BM ds) as/\sysModules∉as
 | [],xs,us,h,r=>by unfold RepsW at h;subst h;cases r;exact⟨_,by rw[BM];exact .nil,by simp⟩
 | d::ds,xs,us,h,r=>by
  unfold RepsW at h;obtain⟨x,l,rfl,h1,h2⟩:=h;cases r with
  | cons r1 r2 =>
  obtain⟨as,ha,hn⟩:=J0 I d x _ h1 r1;obtain⟨bs,hb,hm⟩:=Iq I ds l _ h2 r2;exact⟨_,by rw[BM];exact .cons ha hb,fun z=>(ZH.mp z).elim hn hm⟩
end
end
section
variable {X:Cx}{K:W.Frag}
def HM(K:W.Frag):R2:=fun x y H Q=>match x,y with
 | .int a,.int b=>Q (.bl (!(a == b))) H
 | .ref a,.ref b=>∃xs,((SqT K H a xs/\SqT K H b [])\/(SqL K H a xs/\SqL K H b []))/\Q (.bl (!xs.isEmpty)) H
 | _,_=>False
theorem P5(hu:X.A.units+60 < cLine):OpR X (compareOp .NotEq) (HM X.K):=by
 intro pins s σ H x y v u Q I rx ry q;have hu':X.A.units < cLine:=by lia
 cases x <;> cases y <;> first | exact False.elim q | skip
 ·rename_i a b;exact om_neAll hu pins s σ H _ _ v u Q I rx ry ⟨.int a,.int b,by unfold Rep;rfl,by unfold Rep;rfl,by unfold An;lia,by unfold eqD;exact q⟩
 rename_i a b;cases rx;cases ry;obtain⟨xs,hq,q⟩:=q
 rcases hq with ⟨ha,hb⟩ | ⟨ha,hb⟩
 ·obtain⟨its,r1,p1,_⟩:=I.tuple ha;obtain⟨its2,r2,p2,_⟩:=I.tuple hb;cases r2;have N:=SeqAt.RcNeAt.tuples (A:=X.A) (e:=fun _=>false) p1 p2 hu' (fun j h1 h2=>absurd h2 (by simp));refine N X.prog X.w _ _ ⟨.bl _,H,I,rfl,?_⟩;cases r1 <;> simpa using q
 ·obtain⟨its,r1,p1,_⟩:=I.list ha;obtain⟨its2,r2,p2,_⟩:=I.list hb;cases r2;cases r1 with
  | nil =>
   have N:=SeqAt.RcNeAt.lists (A:=X.A) (e:=fun _=>false) p1.isList p2.isList rfl hu' (fun j h1 h2=>absurd h2 (by simp));refine N X.prog X.w _ _ ⟨.bl _,H,I,rfl,?_⟩;simpa using q
  | cons r t =>
   have N:=SeqAt.RcNeAt.lists_lengths (A:=X.A) p1.isList p2.isList (by simp) hu';refine N X.prog X.w _ _ ⟨.bl _,H,I,rfl,?_⟩;simpa using q
theorem Gu(hu:X.A.units+60 < cLine)(hK:X.K=K:=by rfl):OpR X (compareOp .NotEq) (HM K):=hK ▸ P5 hu
theorem OE:BR (HM K):=fun x y H Q Q' m q=>by
 cases x <;> cases y <;> first
  | exact False.elim q
  | exact m _ _ q
  | skip
 obtain⟨xs,h,q⟩:=q;exact⟨xs,h,m _ _ q⟩
end
def Iy:List V->Hp->VK->Prop:=fun xs H Q=>match xs with
 | [.int i]=>i.natAbs.log2 < 1920/\Q (.str (toString i)) H
 | _=>False
theorem Os{X:Cx}:CallR X (.type "str") Iy:=call_str_int.imp fun xs H Q q=>by
 match xs,q with
 | [.int i],⟨h,q⟩=>exact⟨i,rfl,h,q⟩
theorem Qc:Bb Iy:=fun xs H Q Q' h q=>by
 unfold Iy at *;split at q
 ·exact⟨q.1,h _ _ q.2⟩
 ·exact q.elim
theorem RA(x:String):((x:Str).cps.toList.all fun c=>decide (c < 16 ^ 8))=true:=by
 rw[ZBC];intro c hc;have hc':c∈(Str.ofString x).cps.toList:=hc
 have e:(Str.ofString x).cps.toList=x.toList.map Char.toNat:=by
  show(cpsOfBytes 0 0 x.toByteArray.data.toList).toArray.toList=_
  rw[cpsOfBytes_string]
 rw[e]at hc';obtain⟨d,_,rfl⟩:=ZT.mp hc';rw[decide_eq_true_eq];exact Zd (UInt32.toNat_lt d.val) (by decide)
mutual
def okW(n:Nat):Dw->Bool
 | .int i=>decide (i.natAbs<=n)
 | .str x=>x.cps.toList.all fun c=>decide (c < 16 ^ 8)
 | .tup ds=>BY n ds
 | .lst ds=>BY n ds
 | _=>true
def BY(n:Nat):List Dw->Bool
 | []=>true
 | d::ds=>okW n d && BY n ds
end
theorem JJ(n:Nat):∀ds:List Dw,BY n ds=ds.all (okW n)
 | []=>by simp[BY]
 | d::ds=>by simp[BY,JJ n ds]
mutual
theorem IS{n m:Nat}(h:n<=m):∀d:Dw,okW n d=true->okW m d=true
 | .non,_=>by simp[okW]
 | .bl _,_=>by simp[okW]
 | .emp,_=>by simp[okW]
 | .int i,k=>by
  unfold okW at *;rw[decide_eq_true_eq] at *;lia
 | .str x,k=>by unfold okW at *;exact k
 | .tup ds,k=>by unfold okW at *;exact HZ h ds k
 | .lst ds,k=>by unfold okW at *;exact HZ h ds k
theorem HZ{n m:Nat}(h:n<=m):∀ds:List Dw,BY n ds=true->BY m ds=true
 | [],_=>by simp[BY]
 | d::ds,k=>by
  unfold BY at *;rw[Ze] at *;exact⟨IS h d k.1,HZ h ds k.2⟩
end
mutual
theorem Kb{n:Nat}(h:n < 2 ^ 100):∀d:Dw,okW n d=true->Be d=true
 | .non,_=>by simp[Be]
 | .bl _,_=>by simp[Be]
 | .emp,_=>by simp[Be]
 | .int i,k=>by
  unfold okW at k;rw[decide_eq_true_eq]at k;unfold Be Ie;rw[decide_eq_true_eq]
  by_cases h0:i.natAbs=0
  ·rw[h0];decide
  ·have:=(Nat.log2_lt h0).mpr (ZBe k h)
   lia
 | .str x,k=>by unfold okW at k;unfold Be;exact k
 | .tup ds,k=>by unfold okW at k;unfold Be;exact Fw h ds k
 | .lst ds,k=>by unfold okW at k;unfold Be;exact Fw h ds k
theorem Fw{n:Nat}(h:n < 2 ^ 100):∀ds:List Dw,BY n ds=true->Ca ds=true
 | [],_=>by simp[Ca]
 | d::ds,k=>by
  unfold BY at k;unfold Ca;rw[Ze] at *;exact⟨Kb h d k.1,Fw h ds k.2⟩
end
theorem depWs_le{D:Nat}:∀{ds:List Dw},CY ds<=D ↔ ∀e∈ds,Au e<=D
 | []=>by simp[CY]
 | d::ds=>by
  unfold CY;simp only[ZF,forall_eq_or_imp,<- depWs_le (ds:=ds)];lia
theorem Cc:∀ds es:List Dw,AV (ds++es)=AV ds+AV es
 | [],es=>by rw[List.nil_append];simp[AV]
 | d::ds,es=>by
  rw[List.cons_append];show AY d+1+AV (ds++es)=AY d+1+AV ds+AV es;rw[Cc ds es];lia
theorem T2(ds:List Dw)(k:Nat):AV (ds.take k)<=AV ds:=by
 have:=Cc (ds.take k) (ds.drop k)
 rw[ZBh]at this;lia
theorem NH(ds:List Dw)(k:Nat):AV (ds.drop k)<=AV ds:=by
 have:=Cc (ds.take k) (ds.drop k)
 rw[ZBh]at this;lia
theorem L6:∀ds:List Dw,AV ds.reverse=AV ds
 | []=>rfl
 | d::ds=>by
  rw[ZBM,Cc,L6 ds];show AV ds+(AY d+1+0)=AY d+1+AV ds;lia
theorem RV{ds:List Dw}{i:Nat}{d:Dw}(h:ds[i]? = some d):AV (ds.take i)+(AY d+1)+AV (ds.drop (i+1))=AV ds:=by
 have hi:=(Zb.mp h).1
 have e:ds=ds.take i++d::ds.drop (i+1):=by
  have h2:=Zb.mp h;rw[<- h2.2,List.getElem_cons_drop,ZBh]
 have:=congrArg AV e
 rw[Cc]at this;have e2:AV (d::ds.drop (i+1))=AY d+1+AV (ds.drop (i+1)):=rfl;lia
theorem DT:∀ds:List Dw,ds.length<=AV ds
 | []=>ZU _
 | d::ds=>by
  have:=DT ds
  show ds.length+1<=AY d+1+AV ds;lia
structure Fit(n D B:Nat)(d:Dw):Prop where
 ok:okW n d=true
 dep:Au d<=D
 bulk:AY d<=B
theorem fit_tup{n D B:Nat}{ds:List Dw}:Fit n (D+1) B (.tup ds) ↔ (∀e∈ds,okW n e=true/\Au e<=D)/\AV ds<=B:=by
 constructor
 ·rintro⟨h1,h2,h3⟩;unfold okW at h1;unfold Au at h2;unfold AY at h3;rw[JJ]at h1;exact⟨fun e he=>⟨ZBC.mp h1 e he,depWs_le.mp (by lia) e he⟩,h3⟩
 ·rintro⟨h1,h3⟩;refine⟨?_,?_,?_⟩
  ·unfold okW;rw[JJ];exact ZBC.mpr fun e he=>(h1 e he).1
  ·unfold Au
   have:=depWs_le.mpr fun e he=>(h1 e he).2
   lia
  ·unfold AY;exact h3
theorem fit_lst{n D B:Nat}{ds:List Dw}:Fit n D B (.lst ds) ↔ Fit n D B (.tup ds):=by
 constructor
 ·rintro⟨h1,h2,h3⟩;exact⟨by unfold okW at *;exact h1,by unfold Au at *;exact h2,by unfold AY at *;exact h3⟩
 ·rintro⟨h1,h2,h3⟩;exact⟨by unfold okW at *;exact h1,by unfold Au at *;exact h2,by unfold AY at *;exact h3⟩
theorem Em{n D B:Nat}:Fit n D B .non:=⟨by simp[okW],by simp[Au],by simp[AY]⟩
theorem FV{n D B:Nat}{b:Bool}:Fit n D B (.bl b):=⟨by simp[okW],by simp[Au],by simp[AY]⟩
theorem B3{n D B:Nat}{i:Int}(h:i.natAbs<=n):Fit n D B (.int i):=⟨by simp[okW,h],by simp[Au],by simp[AY]⟩
theorem OL{n D B:Nat}:Fit n (D+1) B .emp:=⟨by simp[okW],by simp[Au],by simp[AY]⟩
theorem EJ{n D B:Nat}{x:String}(h:x.length<=B):Fit n D B (.str (x:Str)):=by
 refine⟨by unfold okW;exact RA x,by simp[Au],?_⟩
 have:((x:Str):Str).length=x.length:=PySem.ofString_length x
 unfold AY;exact ZP (ZBn this) h
theorem TX{n D B:Nat}{i:Int}(h:i.natAbs < 10 ^ 30)(hB:31<=B):Fit n D B (.str ((toString i:String):Str)):=EJ (ZP (PySem.int_text_length_le10 (k:=30) (by decide) h) hB)
theorem HB(val:Nat->Int):∀i,(firstMet val i).Nodup
 | 0=>by rw[firstMet_zero];exact List.nodup_nil
 | i+1=>by
  rw[firstMet_succ];unfold step_dedup;have ih:=HB val i;split
  ·exact ih
  ·rename_i h;rw[List.nodup_append];refine⟨ih,by simp,?_⟩;intro a ha b hb e;rw[ZO.mp hb]at e;exact h (ZBz.mpr ⟨a,ha,by rw[e];simp⟩)
theorem Ju(ns:List Int)(k:Int):k∈firstMet (fun i=>ns.getD i 0) ns.length ↔ k∈ns:=by
 have h:=firstMet_any (fun i=>ns.getD i 0) ns.length k
 have e:(List.range ns.length).map (fun i=>ns.getD i 0)=ns:=by
  apply List.ext_getElem
  ·simp
  ·intro i h1 h2;simp;rw[ZE h2];rfl
 rw[e]at h;have a1:∀l:List Int,l.any (· == k)=true ↔ k∈l:=fun l=>by simp
 rw[<- a1,<- a1,h]
def DH(ds:List Int):HO:=.set (fun k=>ds.any (· == k)) ds.length
def FT(K:W.Frag):List V->Hp->VK->Prop:=fun xs H Q=>match xs with
 | [.ref p]=>∃ns:List Int,SqL K H p (ns.map V.int)/\ns.length<=1000/\∀(ds:List Int) q,ds.Nodup->(∀k,k∈ds ↔ k∈ns)->H q=none->Q (.ref q) (upd H q (DH ds))
 | _=>False
section
variable {X:Cx}{K:W.Frag}
theorem Su(hh:X.calm=true):CallR X (.type "set") (FT X.K):=by
 intro pins s σ H xs us Q I r h
 match xs,h with
 | [.ref p],h =>
 obtain⟨ns,hq,hn,q⟩:=h;obtain⟨u,rfl,rx⟩:=Bm r;cases rx;obtain⟨its,rv,pl,hz⟩:=I.list hq;have hi:IntsAre its ns:=by simpa using EM rv
 have hlen:its.length=ns.length:=by rw[<- rv.length,ZC]
 refine call_set_list (ns:=ns) (I.ok.hd hh) pl.isList (by simpa using hi) (by rw[ZL,hlen];show ns.length+1 < 4096;lia) fun h' tk hs hk=>?_
 have hsz:its.toArray.size=ns.length:=by rw[ZL,hlen]
 rw[hsz]at hs;refine⟨.ref s.heap.objs.size,_,I.laid (t':=tk) (o:=DH (firstMet (fun i=>ns.getD i 0) ns.length)) (fun b o e=>hk b o (ZI e) e) (ZD _) hs,rfl,q _ _ (HB _ _) (Ju ns) (I.hok.fresh (ZD _))⟩
theorem Ic(hh:X.calm=true)(hK:X.K=K:=by rfl):CallR X (.type "set") (FT K):=hK ▸ Su hh
theorem NX:Bb (FT K):=fun xs H Q Q' h q=>by
 unfold FT at *;split at q
 ·obtain⟨ns,a,b,q⟩:=q;exact⟨ns,a,b,fun ds p x1 x2 x3=>h _ _ (q ds p x1 x2 x3)⟩
 ·exact q.elim
def JB:List V->Hp->VK->Prop:=fun xs H Q=>match xs with
 | [.ref p]=>∃ds:List Int,H p=some (DH ds)/\Q (.int ds.length) H
 | _=>False
theorem GX:CallR X (.builtin "len") JB:=by
 intro pins s σ H xs us Q I r h
 match xs,h with
 | [.ref p],h =>
 obtain⟨ds,hq,q⟩:=h;obtain⟨u,rfl,rx⟩:=Bm r;cases rx;obtain⟨o,es,ep,t,h1,h2,h3,_,_,h6,h7,h8⟩:=(show ObjOk X.prog X.w H s.heap p (DH ds) from I.hok p _ hq);refine call_len_set h1 h2 h3 h7 (Int.lt_trans (Int.ofNat_lt.mpr h6) (by decide)) ⟨.int ds.length,H,I.tok _,⟨_,by rw[h8]⟩,q⟩
theorem Nj:Bb JB:=fun xs H Q Q' h q=>by
 unfold JB at *;split at q
 ·obtain⟨ds,a,q⟩:=q;exact⟨ds,a,h _ _ q⟩
 ·exact q.elim
end
def Ris(xs:Array Nat):Prop:=xs.toList.Pairwise (· < ·)
theorem Ris.lt{xs:Array Nat}(h:Ris xs){i k:Nat}(hik:i < k)(hk:k < xs.size)(j:Nat):xs.getD i j < xs.getD k j:=by
 have hi:i < xs.size:=Z7 hik hk
 have:=ZB9.mp h i k (by simpa using hi) (by simpa using hk) hik
 simpa [Array.getD,hi,hk] using this
theorem JD{xs:Array Nat}{j:Nat}(h:Ris xs):∀(f lo hi:Nat),hi - lo<=f->lo<=hi->hi<=xs.size->(∀i,i < lo->xs.getD i j < j)->(∀i,hi<=i->i < xs.size->j<=xs.getD i j) ->
 SetTable.below.go xs j f lo hi<=xs.size/\(∀i,i < SetTable.below.go xs j f lo hi->xs.getD i j < j)/\∀i,SetTable.below.go xs j f lo hi<=i->i < xs.size->j<=xs.getD i j
 | 0,lo,hi,h1,h2,h3,h4,h5=>by
  have e:lo=hi:=by lia
  subst e;exact⟨h3,h4,h5⟩
 | f+1,lo,hi,h1,h2,h3,h4,h5=>by
  unfold SetTable.below.go
  by_cases hl:lo < hi
  ·rw[if_pos hl];dsimp only;have hm:(lo+hi) / 2 < xs.size:=by lia
   by_cases hx:xs.getD ((lo+hi) / 2) j < j
   ·rw[if_pos hx];refine JD h f _ _ (by lia) (by lia) h3 (fun i hi'=>?_) h5
    rcases Zs i ((lo+hi) / 2) with z | z
    ·exact Z7 (h.lt z hm j) hx
    ·have:i=(lo+hi) / 2:=by lia
     rw[this];exact hx
   ·rw[if_neg hx];refine JD h f _ _ (by lia) (by lia) (by lia) h4 (fun i hi' hs=>?_)
    rcases Zs ((lo+hi) / 2) i with z | z
    ·have:=h.lt z hs j;lia
    ·have:i=(lo+hi) / 2:=by lia
     rw[this];lia
  ·rw[if_neg hl];have e:lo=hi:=by lia
   subst e;exact⟨h3,h4,h5⟩
theorem HD{xs:Array Nat}(h:Ris xs)(j:Nat):SetTable.below xs j<=xs.size/\(∀i,i < SetTable.below xs j->xs.getD i j < j)/\∀i,SetTable.below xs j<=i->i < xs.size->j<=xs.getD i j :=
 JD h _ _ _ (by lia) (by lia) (ZD _) (fun i z=>by lia) (fun i z y=>by lia)
theorem Mv{xs:Array Nat}(h:Ris xs){k:Nat}(hk:k < xs.size):SetTable.below xs (xs.getD k 0+1)=k+1:=by
 obtain⟨a,b,c⟩:=HD h (xs.getD k 0+1);generalize SetTable.below xs (xs.getD k 0+1)=r at a b c;have e0:∀i z,i < xs.size->xs.getD i z=xs.getD i 0:=fun i z hi=>by simp[Array.getD,hi]
 rcases ZBi r (k+1) with z | z | z
 ·have:=c k (by lia) hk
  rw[e0 k (xs.getD k 0+1) hk]at this;lia
 ·exact z
 ·have h1:=b (k+1) z;have hs:k+1 < xs.size:=by lia
  have h2:=h.lt (ZBY k) hs 0;rw[e0 (k+1) (xs.getD k 0+1) hs]at h1
  have:xs.getD k 0 < xs.getD (k+1) 0:=h2
  lia
theorem O3{xs:Array Nat}(h:Ris xs):SetTable.below xs 0=0:=by
 obtain⟨a,b,c⟩:=HD h 0
 rcases Nat.eq_zero_or_pos (SetTable.below xs 0) with z | z
 ·exact z
 ·have:=b 0 z;lia
theorem OK{xs:Array Nat}(h:Ris xs){j:Nat}(hn:xs[SetTable.below xs j]? ≠ some j):Ris (SetTable.insertAt xs (SetTable.below xs j) j):=by
 obtain⟨a,b,c⟩:=HD h j;generalize SetTable.below xs j=r at a b c hn;unfold Ris;rw[SetTable.toList_insertAt,ZBj,ZCA];have g:∀i,i < xs.size->xs.toList[i]? = some (xs.getD i j):=fun i hi=>by simp[Array.getD,hi]
 have lo:∀x∈xs.toList.take r,x < j:=fun x hx=>by
  obtain⟨i,hi,e⟩:=Z8 hx;rw[ZV]at hi;rw[List.getElem_take]at e;have hi2:i < xs.size:=by have:=(Nat.lt_min.mp hi).2;simpa using this
  have:=g i hi2
  rw[ZE (by simpa using hi2),e]at this;cases this;exact b i (Nat.lt_min.mp hi).1
 have hi:∀x∈xs.toList.drop r,j < x:=fun x hx=>by
  obtain⟨i,hi,e⟩:=Z8 hx;rw[Zr]at hi;rw[List.getElem_drop]at e
  have hi2:r+i < xs.size:=by have:xs.toList.length=xs.size:=by simp
                             lia
  have e1:=g (r+i) hi2;rw[ZE (by simpa using hi2),e]at e1;have e2:=c (r+i) (Nat.le_add_right _ _) hi2;have e3:x=xs.getD (r+i) j:=ZW e1
  rcases Nat.eq_zero_or_pos i with z | z
  ·subst z
   have:x≠j:=fun q=>hn (by rw[<- ZBd,g r hi2];rw[<- q];exact congrArg some (by rw[e3]at q;rw[e3];exact(by rw[q]:xs.getD (r+0) j=xs.getD (r+0) j) ▸ (by simp[Array.getD,show r < xs.size from hi2])))
   lia
  ·have h1:=h.lt (show r < r+i by lia) hi2 j;have h2:=c r (ZD _) (by lia);lia
 refine⟨ZBr (List.take_sublist _ _) h,⟨hi,ZBr (List.drop_sublist _ _) h⟩,fun x hx y hy=>?_⟩
 rcases ZF.mp hy with rfl | hy2
 ·exact lo x hx
 ·exact Z7 (lo x hx) (hi y hy2)
theorem MF(t:SetTable)(p:SetTable.Probe):(t.advance p).dummy=p.dummy:=by
 unfold SetTable.advance;split <;> rfl
def Eb(t:SetTable)(j:Nat):Prop:=t.place[SetTable.below t.place j]? ≠ some j
theorem Ji{t:SetTable}{j:Nat}(h:∀i,t.slot j≠.live i):Eb t j:=fun e=>h _ (by unfold SetTable.slot;dsimp only;rw[if_pos (by rw[e];exact beq_self_eq_true _)])
theorem probe_go{t:SetTable}{g:Nat->Int}{h:Int}{j:Nat}{d:Option Nat}:∀(f:Nat) (p:SetTable.Probe),(∀x,p.dummy=some x->Eb t x)->SetTable.probe.go t g h f p=some (.empty j d)->Eb t j/\∀x,d=some x->Eb t x
 | 0,p,hp,e=>by unfold SetTable.probe.go at e;cases e
 | f+1,p,hp,e=>by
  unfold SetTable.probe.go at e;split at e
  ·rename_i hs;cases e;exact⟨Ji (fun i z=>by rw[hs]at z;cases z),hp⟩
  ·rename_i hs;refine probe_go f _ (fun x hx=>?_) e;rw[MF]at hx;cases hx;exact Ji fun i z=>by rw[hs]at z;cases z
  ·split at e
   ·cases e
   ·exact probe_go f _ (fun x hx=>hp x (by rw[MF]at hx;exact hx)) e
theorem Re{t:SetTable}{h:Int}{j:Nat}{b:Bool}(e:t.freeSlot h=some (j,b)):Eb t j:=by
 unfold SetTable.freeSlot at e;split at e
 ·rename_i j' d hm;cases e;obtain⟨a,c⟩:=probe_go _ _ (fun x hx=>by cases hx) (show SetTable.probe.go t _ h _ (t.probeStart h)=_ from hm);cases d with
  | none=>exact a
  | some x=>exact c x rfl
 ·cases e
structure TabG(w:World)(t:SetTable):Prop where
 led:t.led = !w.params.followText "set-order"
 ris:Ris t.place
theorem Sh(n:Nat):Ris (Array.range n):=by
 unfold Ris;rw[Array.toList_range];exact List.pairwise_lt_range
theorem P8(w:World):TabG w (.fresh 0 0 (!w.params.followText "set-order")):=⟨rfl,List.Pairwise.nil⟩
theorem FW{w:World}{t:SetTable}(g:TabG w t)(n:Nat):TabG w (t.standIn n):=⟨g.led,Sh n⟩
theorem tg_orStandIn{w:World}{t:SetTable}(g:TabG w t)(n:Nat):TabG w (t.orStandIn n):=by
 unfold SetTable.orStandIn;split
 ·exact g
 ·exact FW g n
theorem SD{w:World}{t:SetTable}(g:TabG w t)(es:Array (Int × Value))(h:Int)(x:Value):TabG w (layNew t es h x).2.1:=by
 unfold layNew;split
 ·rename_i j b e;exact tg_orStandIn (t:=(t.put j).1) ⟨g.led,OK g.ris (Re e)⟩ _
 ·exact FW g _
theorem UR{w:World}{t t':SetTable}(g:TabG w t){hs:Array Int}{n:Nat}{o:Array Nat}(e:t.relaid hs n=some (t',o)):TabG w t':=by
 unfold SetTable.relaid SetTable.laid at e;cases q:SetTable.layClean (SetTable.sizeAbove n - 1) hs with
 | none=>rw[q]at e;cases e
 | some ow =>
  rw[q]at e;cases e;refine⟨g.led,?_⟩;unfold Ris;dsimp only;rw[ZB0,List.pairwise_filterMap];refine List.Pairwise.imp (fun {a b} hab x hx y hy=>?_) List.pairwise_lt_range;cases h1:ow.getD a none with
  | none=>rw[h1]at hx;cases hx
  | some u =>
   cases h2:ow.getD b none with
   | none=>rw[h2]at hy;cases hy
   | some v =>
    rw[h1]at hx;rw[h2]at hy;cases hx;cases hy;exact hab
theorem Pa{w:World}{t:SetTable}(g:TabG w t)(es:Array (Int × Value))(n:Nat):TabG w (relayAll t es n).2.1:=by
 unfold relayAll;split
 ·rename_i t' o e;dsimp only;split
  ·exact UR g e
  ·exact FW g _
 ·exact FW g _
theorem My{w:World}{t:SetTable}(g:TabG w t)(b:Bool):TabG w { t with plain:=b }:=⟨g.led,g.ris⟩
def SetW(P:Program)(w:World)(h:Heap)(a:Addr)(S:Int->Bool)(n:Nat):Prop :=
 ∃o es ep t,h.get? a=some o/\o.ExactSet/\o.data=.set es ep t/\ElemsOf (intKind P w) es.toList/\(∀k,S k=true ↔ ∃e∈es.toList,(intKind P w).is k e.2=true)/\es.size < scanBound/\t.fits es.size=true/\es.size=n/\TabG w t
section
variable {P:Program}{w:World}{A:Around}{E:Value->Shared->Prop}{s:Shared}{a:Addr}
theorem SetW.at{h h':Heap}{S:Int->Bool}{n:Nat}(x:SetW P w h a S n)(k:∀o,h.get? a=some o->h'.get? a=some o):SetW P w h' a S n:=by
 obtain⟨o,es,ep,t,h1,r⟩:=x;exact⟨o,es,ep,t,k _ h1,r⟩
theorem SetW.of{h:Heap}{S:Int->Bool}{n:Nat}(x:SetW P w h a S n):h.SetOf (intKind P w) a S n:=by
 obtain⟨o,es,ep,t,h1,h2,h3,h4,h5,h6,h7,h8,_⟩:=x;exact⟨o,es,ep,t,h1,h2,h3,h4,h5,h6,h7,h8⟩
theorem MW {h:Heap} {o:Obj} {es es':Array (Int × Value)} {ep:Nat} {t t':SetTable} {S:Int->Bool} (h1:h.get? a=some o) (h2:o.ExactSet) (h3:o.data=.set es ep t) (h4:ElemsOf (intKind P w) es'.toList)
 (h5:∀k,S k=true ↔ ∃e∈es'.toList,(intKind P w).is k e.2=true) (h6:es'.size < scanBound) (h7:t'.fits es'.size=true) (g:TabG w t') :
 (h.update a (Obj.putSet es' t')).get? a=some { o with data:=.set es' (ep+1) t' } /\ SetW P w (h.update a (Obj.putSet es' t')) a S es'.size :=
 have q:=SetOf_store (knd:=intKind P w) h1 h2 h3 h4 h5 h6 h7
 ⟨q.1,_,es',ep+1,t',q.1,h2,rfl,h4,h5,h6,h7,rfl,g⟩
theorem NT{b:Bool}{Q:Unit->Shared->Prop}{s₁:Shared}(q:Q () s₁):wpAny (model P w) A (match b with | true=>rule "set.scan.the-table-gave-way" | false=>pure ()) Q E s₁:=by
 cases b with
 | true=>exact wpAny_rule q
 | false=>exact ZB q
theorem LB {g:Bool->Sem Unit} (hg:∀(b:Bool) (s₁:Shared) (Q:Unit->Shared->Prop),Q () s₁->wpAny (model P w) A (g b) Q E s₁) {o:Obj} {es es1:Array (Int × Value)} {ep:Nat} {t t2:SetTable} {S:Int->Bool} {wd:Bool} {R:Option Bool->Shared->Prop}
 (h1:s.heap.get? a=some o) (h2:o.ExactSet) (h3:o.data=.set es ep t) (h4:ElemsOf (intKind P w) es1.toList) (h5:∀k,S k=true ↔ ∃e∈es1.toList,(intKind P w).is k e.2=true) (h6:es1.size < scanBound) (h7:t2.fits es1.size=true) (gd:TabG w t2)
 (fin:∀h',Heap.SameBut a s.heap h'->SetW P w h' a S es1.size->R (some true) { s with heap:=h' }) :
 wpAny (model P w) A (do
  storeSet a es1 t2
  if (!wd && t2.tooFull)=true then do
   g (relayAll t2 es1 (SetTable.grown es1.size)).2.2;storeSet a (relayAll t2 es1 (SetTable.grown es1.size)).1 (relayAll t2 es1 (SetTable.grown es1.size)).2.1
   pure (some true)
   else
    pure (some true)) R E s:=by
 obtain⟨k1,k2⟩:=MW h1 h2 h3 h4 h5 h6 h7 gd;refine ZA (wpAny_storeSet_of h1 h3 ?_ (fits_of_scanBound h6));have sb:=ZBE s.heap a (Obj.putSet es1 t2);split
 ·have pm:=relayAll_perm t2 es1 (SetTable.grown es1.size);have ft:=relayAll_fits t2 es1 (SetTable.grown es1.size);have tg:=Pa gd es1 (SetTable.grown es1.size);generalize relayAll t2 es1 (SetTable.grown es1.size)=V at pm ft tg ⊢;obtain⟨e2,t3,gv⟩:=V;dsimp only at pm ft tg ⊢;have z:e2.size=es1.size:=by rw[<- Zf,pm.length_eq,Zf]
  obtain⟨_,k4⟩:=MW (S:=S) k1 h2 rfl (h4.perm pm) (fun k=>(h5 k).trans ⟨fun⟨e,x,y⟩=>⟨e,pm.mem_iff.mpr x,y⟩,fun⟨e,x,y⟩=>⟨e,pm.mem_iff.mp x,y⟩⟩) (by rw[z];exact h6) ft tg;rw[z]at k4;exact ZA (hg _ _ _ (ZA (wpAny_storeSet_of k1 rfl (ZB (fin _ (sb.trans (ZBE _ a _)) k4)) (fits_of_scanBound (by rw[z];exact h6)))))
 ·exact ZB (fin _ sb k2)
theorem Nh {S:Int->Bool} {n:Nat} {k:Int} {x:Value} {Q:Bool->Shared->Prop} (hk:(intKind P w).is k x=true) (hx:x.scannable=true) (hS:SetW P w s.heap a S n) (hn:n+1 < scanBound)
 (fin:∀h',Heap.SameBut a s.heap h'->SetW P w h' a (fun k'=>S k' || decide (k'=k)) (if S k then n else n+1)->Q (!S k) { s with heap:=h' }) :
 wpAny (model P w) A (setAddHashed a x ((intKind P w).hash k)) Q E s:=by
 obtain⟨o,es,ep,t,h1,h2,h3,h4,h5,h6,h7,h8,gd⟩:=hS;unfold setAddHashed setAddHashedIn;refine Zl (ZA (wpAny_setState_of h1 h3 h7 ?_));dsimp only;rw[byScan_of hx h6 h4];simp only[↓reduceIte];unfold setAddByScan;refine ZA (ZA (wpAny_rule (ZA (wpAny_setScan_of hk h1 h3 h7 h4 ?_))));cases hr:List.findIdx? (fun e=>(intKind P w).is k e.2) es.toList with
 | some j =>
  dsimp only;obtain⟨hj,hp,_⟩:=List.findIdx?_eq_some_iff_getElem.mp hr;have sk:S k=true:=(h5 k).mpr ⟨es.toList[j],Zc hj,hp⟩
  have q:=fin s.heap (Heap.SameBut.refl a s.heap) ⟨o,es,ep,t,h1,h2,h3,h4,(fun k'=>by
   rw[Bool.or_eq_true,decide_eq_true_eq,<- h5 k'];exact⟨fun z=>z.elim id (fun e=>e ▸ sk),.inl⟩),h6,h7,(by rw[sk];exact h8),gd⟩
  rw[sk]at q;exact ZB (ZB q)
 | none =>
  dsimp only
  have sk:S k=false:=by
   cases z:S k with
   | false=>rfl
   | true =>
    obtain⟨e,he,hp⟩:=(h5 k).mp z
    have:=List.findIdx?_eq_none_iff.mp hr e he;rw[hp]at this;cases this
  have pm:=layNew_perm t es ((intKind P w).hash k) x;have ft:=layNew_fits t es ((intKind P w).hash k) x;have tg:=SD gd es ((intKind P w).hash k) x;generalize layNew t es ((intKind P w).hash k) x=V at pm ft tg ⊢;obtain⟨e1,t1,wd,gv⟩:=V;dsimp only at pm ft tg ⊢;rw[Array.toList_push]at pm;have z1:e1.size=n+1:=by rw[<- Zf,pm.length_eq,ZG,Zf,h8];rfl
  have c1:ElemsOf (intKind P w) e1.toList:=(h4.push hk hx).perm pm;have c2:∀k',(S k' || decide (k'=k))=true ↔ ∃e∈e1.toList,(intKind P w).is k' e.2=true:=mem_push_iff hk h5 pm
  have en:∀h',Heap.SameBut a s.heap h'->SetW P w h' a (fun k'=>S k' || decide (k'=k)) e1.size->Q true { s with heap:=h' }:=fun h' sb q=>by
   have r:=fin h' sb;rw[sk]at r;rw[z1]at q;exact r q
  have gw:∀(b:Bool) (s₁:Shared) (Q':Unit->Shared->Prop),Q' () s₁->wpAny (model P w) A (match b with | true=>rule "set.scan.the-table-gave-way" | false=>pure ()) Q' E s₁:=fun b s₁ Q' q=>NT q
  refine ZA (gw _ _ _ ?_);split
  ·refine ZA ?_;rw[hashByValue_scannable 8 hx];refine ZB (LB gw h1 h2 h3 c1 c2 (by rw[z1];exact hn) ?_ ?_ fun h' sb q=>ZB (en h' sb q))
   ·split
    ·exact ft
    ·exact SetTable.fits_plain_off ft
   ·split
    ·exact tg
    ·exact My tg _
  ·refine ZA (ZB ?_);simp only[↓reduceIte];exact LB gw h1 h2 h3 c1 c2 (by rw[z1];exact hn) ft tg fun h' sb q=>ZB (en h' sb q)
end
section
variable {P:Program}{w:World}{A:Around}{E:Value->Shared->Prop}{s:Shared}{a:Addr}
theorem SetW.congr{h:Heap}{S S':Int->Bool}{n n':Nat}(x:SetW P w h a S n)(e:∀k,S k=S' k)(en:n=n'):SetW P w h a S' n':=by
 obtain rfl:S=S':=funext e;subst en;exact x
def Ef(P:Program)(w:World)(h:Heap)(a:Addr)(f:Nat->Int)(i:Nat):Prop:=SetW P w h a (fun k=>(firstMet f i).any (· == k)) (firstMet f i).length
theorem Lv {R:Result->Shared->Prop} {I:Addr} {fp wr:List Addr} {G:Array GenState->Array GenState->Prop} {n:Nat} {Pv:Nat->Value->Prop} {St:Nat->Shared->Prop} (W:WalksS P w A.in1 I fp wr G n Pv St) (ha:a∉fp)
 (f:Nat->Int) (hf:∀i v,Pv i v->∃t,v=.int (f i) t) (hb:n+1 < scanBound):∀(k i:Nat) (s:Shared),n - i=k->i<=n->St i s->Ef P w s.heap a f i ->
  (∀s',Moved (a::wr) G s s'->Ef P w s'.heap a f n->R (.ok (.ret .none)) s')->codeAny (model P w) A (.builtin "set.update.loop" ⟨[.ref a,.ref I],[]⟩) R s
 | 0,i,s,hk,hi,st,hS,hR=>by
  obtain rfl:i=n:=by lia
  refine ZBS PyProof.Rows.F.entry_set_update_loop ?_;rw[ZBk PyProof.Rows.F.plain_set_update_loop _];show wpAny _ A.in1 (pyNext (.ref I) >>= _) _ _ s;refine ZA (W.done s _ _ st fun s' hm=>ZB (hR s' (hm.mono fun b hb=>Za _ hb) (hS.at fun o e=>hm.heap a o (fun z=>ha (W.sub _ z)) e)))
 | k+1,i,s,hk,hi,st,hS,hR=>by
  have hlt:i < n:=by lia
  refine ZBS PyProof.Rows.F.entry_set_update_loop ?_;rw[ZBk PyProof.Rows.F.plain_set_update_loop _];show wpAny _ A.in1 (pyNext (.ref I) >>= _) _ _ s;refine ZA (W.item i s _ _ hlt st fun v s' hP st' hm=>?_);obtain⟨t,rfl⟩:=hf i v hP;have hS':Ef P w s'.heap a f i:=hS.at fun o e=>hm.heap a o (fun z=>ha (W.sub _ z)) e
  show wpAny _ A.in1 (holding [Value.int (f i) t] (setAdd a (.int (f i) t)) >>= _) _ _ s';refine ZA (Zl ?_);unfold setAdd;refine Zl (ZA ((intKind P w).pyHash (k:=f i) (intKind_is _ _ _ _) ?_));refine Nh (s:={ s' with toks:=s'.toks+1 }) (intKind_is _ _ _ _) rfl hS' (by have:=firstMet_length_le f i;lia) fun h' sb q=>?_
  refine ZB ⟨ZBT PyProof.Rows.F.plain_set_update_loop _,Lv W ha f hf hb k (i+1) _ (by lia) hlt (W.frame _ s' _ _ st' (Nat.le_succ _) fun b hb' o e=>?_)
   (q.congr (fun k'=>by rw[firstMet_succ,step_any]) (by rw[firstMet_succ,step_length])) fun s'' hm2 hS2=>?_⟩
  ·rw[sb.2 b (fun z:b=a=>ha (by rw[<- z];exact hb'))];exact e
  ·refine hR s'' (Moved.trans W.gtrans ((hm.mono fun b hb=>Za _ hb).then_heap (Nat.le_succ _) fun b o hb' e=>?_) hm2) hS2;rw[sb.2 b (fun z:b=a=>hb' (by rw[z];exact Zo))];exact e
theorem Pn:isSubtype (.type "tuple") (.type "set")=pure false:=by rw[isSubtype_type];kernel_rfl
theorem Tr:isSubtype (.type "tuple") (.type "frozenset")=pure false:=by rw[isSubtype_type];kernel_rfl
theorem SQ(v:Value){Q:Value->Shared->Prop}(h:Q (.ref s.heap.objs.size) { s with heap:=s.heap.push { cls:=.type "set",dict:=none,data:=.set #[] 0 (.fresh 0 0 (!w.params.followText "set-order")) } }) :
 codeAny (model P w) A (.call (.builtin "set.__new__") ⟨[.type "set",v],[]⟩) (wants Q E) s:=by
 refine codeAny_of_tree ?_;show wpAny _ A.in1 (do checkBuiltinCall "set.__new__" ⟨[.type "set",v],[]⟩;again (.builtin "set.__new__" ⟨[.type "set",v],[]⟩)) _ _ s;refine ZA (wpAny_of_eq (PySem.F.newCall_set_1 v) (ZB ⟨ZBT PySem.F.plain_set_new _,ZBS PySem.F.entry_set_new ?_⟩));rw[ZBk PySem.F.plain_set_new _];unfold Builtin.«set.__new__» Builtin.Frozenset.newClass;have hsub:=PySem.sub_set_self;obtain⟨hp,g,d,tk,os⟩:=s;dsimp only;wp_walk;refine wpAny_askSetting (ZB ?_);dsimp only;simp only[newObj];exact ZA (wpAny_alloc (ZB (ZB h)))
set_option maxHeartbeats 6400000 in
theorem PF {l:Addr} {its:Array Value} {ns:List Int} {Q:Value->Shared->Prop} (hh:A.handled=none) (hl:s.heap.IsTuple l its) (hi:IntsAre its.toList ns) (hb:its.size+1 < scanBound)
 (fin:∀(h':Heap) (tk:Nat),Ef P w h' s.heap.objs.size (fun i=>ns.getD i 0) its.size->(∀b o,b < s.heap.objs.size->s.heap.get? b=some o->h'.get? b=some o)->Q (.ref s.heap.objs.size) { s with heap:=h',toks:=tk }) :
 wpAny (model P w) A (call (.type "set") [.ref l]) Q E s:=by
 obtain⟨c,tl,hmro⟩:=PySem.F.called_set.mro;have hmade:=PySem.F.called_set.made;have hsub:=PySem.F.called_set.sub;refine wpAny_call (codeAny_of_tree ?_);show wpAny _ _ (callAny (.type "set") _) _ _ _;refine ZB ⟨Code.quiet_builtin _ (by decide +kernel),ZBS PySem.F.entry_type_call ?_⟩;rw[Around.under_plain (weight_type_call_type "set" [.ref l] []) rfl];have k1:=PySem.F.called_set.notType;have k2:=PySem.F.called_set.canCreate;have k3:=PySem.F.typeCall_set_1 (.ref l)
 (repeat (any_goals (first | assumption | wp_step)));refine ZBZ (SQ (.ref l) (E:=E) (Q:=fun v s₁=>v=.ref s.heap.objs.size/\s₁ = { s with heap:=s.heap.push { cls:=.type "set",dict:=none,data:=.set #[] 0 (.fresh 0 0 (!w.params.followText "set-order")) } }) ⟨rfl,rfl⟩) fun r s₁ hr=>?_
 cases r with
 | error e=>exact hr
 | ok fl =>
  cases fl with
  | ret ob =>
   obtain⟨rfl,rfl⟩:=hr;generalize hled:(!w.params.followText "set-order")=led;have hS:(s.heap.push { cls:=.type "set",dict:=none,data:=.set #[] 0 (.fresh 0 0 led) }).get? s.heap.objs.size=some { cls:=.type "set",dict:=none,data:=.set #[] 0 (.fresh 0 0 led) }:=ZR _ rfl;have hT:Shared.TypeIs { s with heap:=s.heap.push { cls:=.type "set",dict:=none,data:=.set #[] 0 (.fresh 0 0 led) } } (.ref s.heap.objs.size) "set":=⟨_,hS,rfl⟩;have k4:=PySem.F.called_set.init.lookup;have k5:=PySem.F.called_set.init.bind (.ref s.heap.objs.size)
   (repeat (any_goals (first | assumption | wp_step)));refine ZBZ (codeAny_call_builtin (R:=wants (fun r s₂=>r=.none/\∃h' tk,s₂ = { s with heap:=h',toks:=tk } /\ Ef P w h' s.heap.objs.size (fun i=>ns.getD i 0) its.size /\
    (∀b o,b < s.heap.objs.size->s.heap.get? b=some o->h'.get? b=some o)) E) PySem.F.called_set.init.plain PySem.F.entry_set_init (check_set_init_1 hT ?_)) fun r₂ s₂ hr₂=>?_
   ·obtain⟨ol,hol,hcl,nl,hdl⟩:=hl;obtain⟨ocls,odict,odata,oslots⟩:=ol;simp only at hcl hdl;subst hcl;subst hdl;have hol':(s.heap.push { cls:=.type "set",dict:=none,data:=.set #[] 0 (.fresh 0 0 led) }).get? l=some { cls:=.type "tuple",dict:=odict,data:=.seq its nl,slots:=oslots }:=ZJ _ hol;have s1:=Pn;have s2:=Tr;have s3:(Value.type "tuple" == Value.type "dict")=false:=by decide
    have hl1:(s.heap.push { cls:=.type "set",dict:=none,data:=.set #[] 0 (.fresh 0 0 led) }).IsTuple l its:=⟨_,hol',rfl,nl,rfl⟩;unfold Builtin.«set.__init__» noKeywords Builtin.Frozenset.updateFrom;generalize hPI:pyIter=PI
    wp_walk
    subst hPI;refine wpAny_pyIter_tuple hl1 (ZA (wpAny_runValue ?_))
    have hlS:l < s.heap.objs.size:=ZI hol;have z1:l≠(s.heap.push { cls:=.type "set",dict:=none,data:=.set #[] 0 (.fresh 0 0 led) }).objs.size:=by
     rw[Z2];exact(ZQ (Nat.lt_succ_of_lt hlS))
    have z2:s.heap.objs.size∉[(s.heap.push { cls:=.type "set",dict:=none,data:=.set #[] 0 (.fresh 0 0 led) }).objs.size,l]:=by
     rw[Z2];simp only[ZF,ZO,Zn,or_false,not_or];exact⟨ZQ (ZBY _),Nat.ne_of_gt hlS⟩
    refine Lv ((Walks.tuple (A:=A.in1.in1.in1) (by simp[hh]) _ l z1 its).toS) z2 (fun i=>ns.getD i 0) (fun i v hv=>PyProof.Rows.IntsAre.int_at hi i v (by rw[ZBd];exact hv)) hb (its.size - 0) 0 _ (by lia) (ZU _)
     ⟨⟨_,ZR _ rfl,rfl,rfl⟩,(hl1.push _)⟩ ?b0 ?bR
    case b0 =>
     refine⟨_,#[],0,_,ZJ _ hS,⟨rfl,rfl,rfl⟩,rfl,fun e he=>by simp at he,fun k=>by simp[firstMet],by decide,by rfl,rfl,?_⟩;rw[<- hled];exact P8 w
    case bR =>
     intro s' hm hS';obtain⟨h',g',d',tk',os'⟩:=s';obtain rfl:g'=s.gens:=hm.gens;obtain rfl:d'=s.drawn:=hm.drawn;obtain rfl:os'=s.os:=hm.os;refine ZB ?_;show wpAny _ _ (ret Value.none) _ _ _;refine ZB ⟨rfl,h',tk',rfl,hS',fun b o hb e=>hm.heap b o ?_ (ZJ _ (ZJ _ e))⟩;rw[Z2];simp only[ZF,ZO,Zn,or_false,not_or];exact⟨ZQ hb,ZQ (Nat.lt_succ_of_lt hb)⟩
   ·cases r₂ with
    | error e=>exact hr₂
    | ok fl₂ =>
     cases fl₂ with
     | ret r =>
      obtain⟨rfl,h',tk,rfl,hS',hk'⟩:=hr₂;repeat (any_goals (first | assumption | wp_step))
      exact fin _ _ hS' hk'
     | _=>exact hr₂.elim
  | _=>exact hr.elim
end
namespace F
theorem slot_set_iterator_next:Slot "set_iterator" "__next__" "set_iterator.__next__" :=
 .of (owner:="set_iterator") (n:="__next__") (by rw[typeLookup_type,builtinLookup_eq_fast];kernel_rfl) (by decide +kernel) (by decide +kernel) (by decide +kernel) (by first | exact .inl (by decide +kernel) | exact .inr (by decide +kernel)) (by rw[isSubtype_type];kernel_rfl)
theorem slot_set_iterator_iter:Slot "set_iterator" "__iter__" "set_iterator.__iter__" :=
 .of (owner:="set_iterator") (n:="__iter__") (by rw[typeLookup_type,builtinLookup_eq_fast];kernel_rfl) (by decide +kernel) (by decide +kernel) (by decide +kernel) (by first | exact .inl (by decide +kernel) | exact .inr (by decide +kernel)) (by rw[isSubtype_type];kernel_rfl)
theorem entry_set_iterator_next:entryFor table "set_iterator.__next__" = some Builtin.«set_iterator.__next__»:=entryFor_of_tree (by kernel_rfl)
theorem entry_set_iterator_iter:entryFor table "set_iterator.__iter__" = some Builtin.«dict_keyiterator.__iter__»:=entryFor_alias (id':="dict_keyiterator.__iter__") (by kernel_rfl) (by first | rfl | decide +kernel | (unfold String.splitOn;simp +decide [String.splitOnAux])) (by decide +kernel) (by kernel_rfl)
theorem entry_set_iter:entryFor table "set.__iter__" = some Builtin.«frozenset.__iter__»:=entryFor_alias (id':="frozenset.__iter__") (by kernel_rfl) rfl (by decide +kernel) (by kernel_rfl)
theorem args_set_iterator_next(a:Value):argsOk "set_iterator.__next__" ⟨[a],[]⟩:=by unfold argsOk;kernel_rfl
theorem args_set_iterator_iter(a:Value):argsOk "set_iterator.__iter__" ⟨[a],[]⟩:=by unfold argsOk;kernel_rfl
end F
theorem Oz{M:Model}{A:Around}{E:Value->Shared->Prop}{s:Shared}{src:Source}{n:Nat}{Q:Nat->Shared->Prop}(hn:n≠0)(h:∀i d,i < n->Q i { s with drawn:=d }):wpAny M A (choose src n) Q E s :=
 fun _ _ _=>⟨hn,h _ _ (Nat.mod_lt _ (Nat.pos_of_ne_zero hn))⟩
theorem KJ{α:Type}{l:List α}{i:Nat}(h:i < l.length):(l[i]::l.eraseIdx i).Perm l:=by
 rw[List.eraseIdx_eq_take_drop_succ];have e:l=l.take i++l[i]::l.drop (i+1):=by rw[<- List.drop_eq_getElem_cons h,ZBh]
 exact List.perm_middle.symm.trans (e ▸ .rfl)
theorem KN{M:Model}{A:Around}{E:Value->Shared->Prop}{α:Type}:∀(n:Nat) (xs:List α) (s:Shared) (Q:List α->Shared->Prop),xs.length=n->(∀ys d,ys.Perm xs->Q ys { s with drawn:=d })->wpAny M A (drawOrder n xs) Q E s
 | 0,xs,s,Q,hl,h=>by
  obtain rfl:xs=[]:=ZBl.mp hl;unfold drawOrder;exact ZB (h [] s.drawn .nil)
 | n+1,[],s,Q,hl,h=>by cases hl
 | n+1,x0::r,s,Q,hl,h=>by
  unfold drawOrder;refine ZA (Oz (by simp) fun i d hi=>?_);obtain⟨x,hx⟩:∃x,(x0::r)[i]? = some x:=⟨_,ZE hi⟩;rw[hx];dsimp only;refine ZA (KN n _ _ _ (by rw[List.length_eraseIdx];simp only[hi,if_true];lia) fun ys d2 hp=>ZB ?_);refine h _ d2 ?_;have e:(x0::r)[i]=x:=by rw[ZE hi]at hx;exact ZW hx
  exact(List.Perm.cons x hp).trans (e ▸ KJ hi)
theorem JZ{α:Type}(nx:Nat->Nat):∀(f k:Nat) (l:List α) (out:Array α),l.length=f->(pickOrder.go nx f k l out).toList.Perm (out.toList++l)
 | 0,k,l,out,hl=>by
  obtain rfl:l=[]:=ZBl.mp hl;unfold pickOrder.go;rw[Z4]
 | f+1,k,l,out,hl=>by
  unfold pickOrder.go;have hi:nx k % l.length < l.length:=Nat.mod_lt _ (by lia);rw[ZE hi];dsimp only;refine(JZ nx f (k+1) _ _ (by rw[List.length_eraseIdx];simp only[hi,if_true];lia)).trans ?_;rw[Array.toList_push,Z3];exact List.Perm.append_left _ (KJ hi)
theorem IM{α:Type}(nx:Nat->Nat)(xs:Array α):(pickOrder nx xs).toList.Perm xs.toList:=by
 have:=JZ nx xs.size 0 xs.toList #[] (by simp)
 rw[List.nil_append]at this;exact this
def IsSetIter(h:Heap)(I:Addr)(f:Value)(i:Nat)(a:Addr)(n ep:Nat):Prop:=∃o,h.get? I=some o/\o.cls=.type "set_iterator" /\ o.data=.fields #[f,.int i 0,.ref a,.int n 0,.int ep 0]
theorem IsSetIter.typeIs{s:Shared}{I a:Addr}{f:Value}{i n ep:Nat}(x:IsSetIter s.heap I f i a n ep):s.TypeIs (.ref I) "set_iterator":=let ⟨o,ho,hc,_⟩:=x;⟨o,ho,hc⟩
theorem IsSetIter.at{h h':Heap}{I a:Addr}{f:Value}{i n ep:Nat}(x:IsSetIter h I f i a n ep)(e:∀o,h.get? I=some o->h'.get? I=some o):IsSetIter h' I f i a n ep:=let ⟨o,ho,r⟩:=x;⟨o,e _ ho,r⟩
section
variable {P:Program}{w:World}{A:Around}{E:Value->Shared->Prop}{s:Shared}{a I:Addr}
theorem FH{h:Heap}{o:Obj}{vs:Array Value}(ho:h.get? I=some o)(hd:o.data=.fields vs)(k:Nat)(x:Value):∃o',(h.update I (Obj.mapFields (·.setIfInBounds k x))).get? I=some o'/\o'.cls=o.cls/\o'.data=.fields (vs.setIfInBounds k x) :=
 ⟨_,ZBc _ ho (Obj.isFreed_of_fields (Obj.data_mapFields hd _)),Obj.cls_mapFields ..,Obj.data_mapFields hd _⟩
theorem MG {o:Obj} {es:Array (Int × Value)} {ep i slot nx:Nat} {t:SetTable} {x:Value} {Q:Option Value->Shared->Prop} (hit:IsSetIter s.heap I (.int slot 0) i a es.size ep) (h1:s.heap.get? a=some o) (h3:o.data=.set es ep t) (h7:t.fits es.size=true)
 (hn:∀(A:Around) (E:Value->Shared->Prop) (Q:Option (Value × Nat)->Shared->Prop),Q (some (x,nx)) s->wpAny (model P w) A (setNext a slot i ep) Q E s)
 (hQ:∀h',IsSetIter h' I (.int nx 0) (i+1) a es.size ep->Heap.SameBut I s.heap h'->Q (some x) { s with heap:=h' }):wpAny (model P w) A (pyNext (.ref I)) Q E s:=by
 obtain⟨oi,ho,hc,hd⟩:=id hit;unfold pyNext;refine ZA (wpAny_attempt (wpAny_callSpecial?_slot (name:=Str.ofString "__next__") hit.typeIs F.slot_set_iterator_next (Zx F.slot_set_iterator_next hit.typeIs F.entry_set_iterator_next ?_ (F.args_set_iterator_next _))));show wpAny _ _ (fieldsOf (.ref I) >>= _) _ _ s;refine ZA (wpAny_fieldsOf ho hd ?_);dsimp only;refine ZA (wpAny_setEntries_of h1 h3 h7 ?_);refine Zt (fun hab=>absurd hab (by simp)) (fun _=>?_);refine ZA (hn _ _ _ ?_);dsimp only;obtain⟨o1,ho1,hc1,hd1⟩:=FH ho hd 0 (rawInt nx);refine ZA (ZBQ ho hd (by simp) (ZA (ZBQ ho1 hd1 (by simp) (ZB ⟨x,rfl,ZB (hQ _ ?_ ((ZBE ..).trans (ZBE ..)))⟩))));obtain⟨o2,ho2,hc2,hd2⟩:=FH ho1 hd1 1 (rawInt (i+1));exact⟨o2,ho2,hc2.trans (hc1.trans hc),by rw[hd2];simp[rawInt]⟩
theorem MP {o:Obj} {es:Array (Int × Value)} {ep i slot:Nat} {t:SetTable} {Q:Option Value->Shared->Prop} (hh:A.handled=none) (hit:IsSetIter s.heap I (.int slot 0) i a es.size ep) (h1:s.heap.get? a=some o) (h3:o.data=.set es ep t) (h7:t.fits es.size=true)
 (hn:∀(A:Around) (E:Value->Shared->Prop) (Q:Option (Value × Nat)->Shared->Prop),Q none s->wpAny (model P w) A (setNext a slot i ep) Q E s)
 (hQ:∀h',Heap.ExtBut I s.heap h'->Q none { s with heap:=h' }):wpAny (model P w) A (pyNext (.ref I)) Q E s:=by
 obtain⟨oi,ho,hc,hd⟩:=id hit;unfold pyNext;refine ZA (wpAny_attempt (wpAny_callSpecial?_slot (name:=Str.ofString "__next__") hit.typeIs F.slot_set_iterator_next (Zx F.slot_set_iterator_next hit.typeIs F.entry_set_iterator_next ?_ (F.args_set_iterator_next _))));show wpAny _ _ (fieldsOf (.ref I) >>= _) _ _ s;refine ZA (wpAny_fieldsOf ho hd ?_);dsimp only;refine ZA (wpAny_setEntries_of h1 h3 h7 ?_);refine Zt (fun hab=>absurd hab (by simp)) (fun _=>?_);refine ZA (hn _ _ _ ?_);dsimp only;refine ZA (ZBQ ho hd (by simp) ?_);show wpAny _ _ (newExc (.type "StopIteration") [] >>= _) _ _ _;refine ZA ?_;simp only[newExc,newTuple];refine ZA (Zk (ZA (m:=firstArgMember _ _) (wpAny_of_eq (a:=Value.none) (by first | rfl | (simp only[firstArgMember];rfl)) (Zk ?_ (by size_fits)))) (by size_fits));simp only[raiseNew];refine ZA (wpAny_handled ?_);first | rw[show A.in1.handled=none from hh] | rw[hh]
 refine ZA (ZB (wpAny_throw ?st));refine ZA (wpAny_isInstance (T:="StopIteration") (b:=true) ⟨_,ZR _ rfl,rfl⟩ isSubtype_stop ?_);exact ZB (hQ _ ((((ZBE ..)).extBut.push _).push _))
theorem OQ {o ot:Obj} {es:Array (Int × Value)} {ep i tp nt:Nat} {t:SetTable} {ps:Array Value} {p:Nat} {x:Int × Value} {Q:Option Value->Shared->Prop} (hit:IsSetIter s.heap I (.ref tp) i a es.size ep) (h1:s.heap.get? a=some o) (h3:o.data=.set es ep t) (h7:t.fits es.size=true)
 (ht:s.heap.get? tp=some ot) (hdt:ot.data=.seq ps nt) (hp:ps[i]? = some (.int p 0)) (hx:es[p]? = some x)
 (hQ:∀h',IsSetIter h' I (.ref tp) (i+1) a es.size ep->Heap.SameBut I s.heap h'->Q (some x.2) { s with heap:=h' }):wpAny (model P w) A (pyNext (.ref I)) Q E s:=by
 obtain⟨oi,ho,hc,hd⟩:=id hit;unfold pyNext;refine ZA (wpAny_attempt (wpAny_callSpecial?_slot (name:=Str.ofString "__next__") hit.typeIs F.slot_set_iterator_next (Zx F.slot_set_iterator_next hit.typeIs F.entry_set_iterator_next ?_ (F.args_set_iterator_next _))));show wpAny _ _ (fieldsOf (.ref I) >>= _) _ _ s;refine ZA (wpAny_fieldsOf ho hd ?_);dsimp only;refine ZA (wpAny_setEntries_of h1 h3 h7 ?_);refine Zt (fun hab=>absurd hab (by simp)) (fun _=>?_);refine ZA (wpAny_seqItems ht hdt ?_);simp only[ZY,hp];unfold setNextDrawn;refine ZA (ZA (wpAny_setState_of h1 h3 h7 ?_));dsimp only;refine Zt (fun hab=>absurd hab (by simp)) (fun _=>?_);rw[hx];refine ZB (ZA (ZBQ ho hd (by simp) (ZB ⟨x.2,rfl,ZB (hQ _ ?_ (ZBE ..))⟩)));obtain⟨o2,ho2,hc2,hd2⟩:=FH ho hd 1 (rawInt (i+1));exact⟨o2,ho2,hc2.trans hc,by rw[hd2];simp[rawInt]⟩
theorem Po {o ot:Obj} {es:Array (Int × Value)} {ep i tp nt:Nat} {t:SetTable} {ps:Array Value} {Q:Option Value->Shared->Prop} (hh:A.handled=none) (hit:IsSetIter s.heap I (.ref tp) i a es.size ep) (h1:s.heap.get? a=some o) (h3:o.data=.set es ep t) (h7:t.fits es.size=true)
 (ht:s.heap.get? tp=some ot) (hdt:ot.data=.seq ps nt) (hp:ps[i]? = none)
 (hQ:∀h',Heap.ExtBut I s.heap h'->Q none { s with heap:=h' }):wpAny (model P w) A (pyNext (.ref I)) Q E s:=by
 obtain⟨oi,ho,hc,hd⟩:=id hit;unfold pyNext;refine ZA (wpAny_attempt (wpAny_callSpecial?_slot (name:=Str.ofString "__next__") hit.typeIs F.slot_set_iterator_next (Zx F.slot_set_iterator_next hit.typeIs F.entry_set_iterator_next ?_ (F.args_set_iterator_next _))));show wpAny _ _ (fieldsOf (.ref I) >>= _) _ _ s;refine ZA (wpAny_fieldsOf ho hd ?_);dsimp only;refine ZA (wpAny_setEntries_of h1 h3 h7 ?_);refine Zt (fun hab=>absurd hab (by simp)) (fun _=>?_);refine ZA (wpAny_seqItems ht hdt ?_);simp only[ZY,hp];obtain⟨o1,ho1,hc1,hd1⟩:=FH ho hd 0 (rawInt 0);refine ZA (ZBQ ho hd (by simp) (ZA (ZBQ ho1 hd1 (by simp) ?_)));show wpAny _ _ (newExc (.type "StopIteration") [] >>= _) _ _ _;refine ZA ?_;simp only[newExc,newTuple];refine ZA (Zk (ZA (m:=firstArgMember _ _) (wpAny_of_eq (a:=Value.none) (by first | rfl | (simp only[firstArgMember];rfl)) (Zk ?_ (by size_fits)))) (by size_fits));simp only[raiseNew];refine ZA (wpAny_handled ?_);first | rw[show A.in1.handled=none from hh] | rw[hh]
 refine ZA (ZB (wpAny_throw ?st));refine ZA (wpAny_isInstance (T:="StopIteration") (b:=true) ⟨_,ZR _ rfl,rfl⟩ isSubtype_stop ?_);exact ZB (hQ _ ((((ZBE ..).trans (ZBE ..)).extBut.push _).push _))
theorem JT{f:Value}{i n ep:Nat}{Q:Value->Shared->Prop}(hit:IsSetIter s.heap I f i a n ep)(h:Q (.ref I) s):wpAny (model P w) A (pyIter (.ref I)) Q E s:=by
 refine wpAny_pyIter_slot hit.typeIs F.slot_set_iterator_iter (Zx F.slot_set_iterator_iter hit.typeIs F.entry_set_iterator_iter ?_ (F.args_set_iterator_iter _));show wpAny _ _ (ret (.ref I)) _ _ s;exact ZB ⟨_,rfl,"set_iterator",_,hit.typeIs,F.slot_set_iterator_next.lookup,h⟩
end
section
variable {P:Program}{w:World}{A:Around}{E:Value->Shared->Prop}{s:Shared}{a I:Addr}
theorem J6{l:List (Int × Value)}(h:ElemsOf (intKind P w) l){e:Int × Value}(he:e∈l):∃t,e.2=.int (numOf e.2) t:=by
 obtain⟨⟨k,hk,_⟩,_⟩:=h e he;obtain⟨t,et⟩:=Value.isInt_shape (show Value.isInt k e.2=true from hk);exact⟨t,by rw[et];rfl⟩
theorem HJ{l:List (Int × Value)}(h:ElemsOf (intKind P w) l)(k:Int):k∈l.map (fun(e:Int × Value)=>numOf e.2) ↔ ∃e∈l,(intKind P w).is k e.2=true:=by
 rw[ZT];constructor
 ·rintro⟨e,he,rfl⟩;obtain⟨t,et⟩:=J6 h he;exact⟨e,he,by rw[et];exact intKind_is _ _ _ _⟩
 ·rintro⟨e,he,hk⟩;obtain⟨t,et⟩:=Value.isInt_shape (show Value.isInt k e.2=true from hk);exact⟨e,he,by rw[et];rfl⟩
theorem FA{Q:Bool->Shared->Prop}(h:Q (w.params.followText "set-order") s):wpAny (model P w) A setsByText Q E s:=by
 unfold setsByText;exact ZA (wpAny_askSetting (ZB h))
theorem Mn {o:Obj} {es:Array (Int × Value)} {ep i:Nat} {t:SetTable} (hx:w.params.followText "set-order" = true) (h1:s.heap.get? a=some o) (h3:o.data=.set es ep t) (h7:t.fits es.size=true) {Q:Option (Value × Nat)->Shared->Prop}
 (h:Q (((pickOrder (w.params.setOrder a ep) es)[i]?).map fun e=>(e.2,0)) s):wpAny (model P w) A (setNext a 0 i ep) Q E s:=by
 unfold setNext;refine ZA (wpAny_setState_of h1 h3 h7 ?_);dsimp only;refine ZA (FA ?_);rw[hx];simp only[↓reduceIte];refine Zt (fun hab=>absurd hab (by simp)) (fun _=>?_);unfold setWalk;refine ZA (ZA (wpAny_setState_of h1 h3 h7 ?_));dsimp only;refine ZA (FA ?_);rw[hx];simp only[↓reduceIte];exact ZA (wpAny_askSetting (ZB (ZB h)))
theorem Kg {o:Obj} {es:Array (Int × Value)} {ep i sl:Nat} {t:SetTable} (hx:w.params.followText "set-order" = false) (h1:s.heap.get? a=some o) (h3:o.data=.set es ep t) (h7:t.fits es.size=true) (hl:t.led=true) (hd:(!t.plain && decide (es.size > 1))=false)
 {k:Nat} (hk:SetTable.below t.place sl=k) {Q:Option (Value × Nat)->Shared->Prop}
 (h:Q (match es[k]?,t.place[k]? with | some (_,x),some j=>some (x,j+1) | _,_=>none) s):wpAny (model P w) A (setNext a sl i ep) Q E s:=by
 unfold setNext;refine ZA (wpAny_setState_of h1 h3 h7 ?_);dsimp only;refine ZA (FA ?_);rw[hx];refine Zt (fun hab=>absurd hab (by simp)) (fun _=>?_);refine Zt (fun hab=>absurd (show(!t.plain && decide (es.size > 1))=true from hab) (by rw[hd];simp)) (fun _=>?_);refine ZA ?_;show wpAny _ _ (if (!t.led && !es.isEmpty)=true then unsupported "set:maker-not-led" else pure ()) _ _ _;refine Zt (fun hab=>absurd hab (by rw[hl];simp)) (fun _=>ZB ?_);subst hk;exact ZB h
def Ek(L:List (Int × Value))(i:Nat)(v:Value):Prop:=∃t,v=.int ((L.map fun(e:Int × Value)=>numOf e.2).getD i 0) t
theorem Gx{L:List (Int × Value)}(h:ElemsOf (intKind P w) L){i:Nat}{e:Int × Value}(he:L[i]? = some e):Ek L i e.2:=by
 obtain⟨t,et⟩:=J6 h (Zw he);refine⟨t,?_⟩;rw[Zy,ZX,he];exact et
theorem Qf{o:Obj}{es:Array (Int × Value)}{ep:Nat}{t:SetTable}(hh:A.handled=none)(hne:a≠I)(hx:w.params.followText "set-order" = true)(h3:o.data=.set es ep t)(h4:ElemsOf (intKind P w) es.toList)(h7:t.fits es.size=true) :
 Walks P w A I [I,a] [I] es.size (Ek (pickOrder (w.params.setOrder a ep) es).toList) (fun i h=>IsSetIter h I (.int 0 0) i a es.size ep/\h.get? a=some o) where
 sub:=fun b hb=>by simp at hb;simp[hb]
 frame:=fun _ _ _ st hk=>⟨st.1.at fun o e=>hk I (by simp) o e,hk a (by simp) _ st.2⟩
 item:=fun i s Q E hi st hQ=>by
  have pm:=IM (w.params.setOrder a ep) es;have hl:i < (pickOrder (w.params.setOrder a ep) es).size:=by rw[<- Zf,pm.length_eq,Zf];exact hi
  refine MG (slot:=0) (nx:=0) (x:=(pickOrder (w.params.setOrder a ep) es)[i].2) st.1 st.2 h3 h7 (fun A E Q q=>Mn hx st.2 h3 h7 (by rw[ZBU hl];exact q)) fun h' hit' sb=>?_
  exact hQ _ h' s.toks (Gx (h4.perm pm) (by rw[ZBd,ZBU hl])) ⟨hit',(sb.2 a hne).trans st.2⟩ fun b o hb e=>sb.extBut b o (fun h=>hb (by simp[h])) e
 done:=fun s Q E st hQ=>by
  have pm:=IM (w.params.setOrder a ep) es;refine MP (slot:=0) hh st.1 st.2 h3 h7 (fun A E Q q=>Mn hx st.2 h3 h7 ?_) fun h' he'=>hQ h' s.toks fun b o hb e=>he' b o (fun h=>hb (by simp[h])) e
  rw[Array.getElem?_eq_none (by rw[<- Zf,pm.length_eq,Zf];exact ZD _)];exact q
 self:=fun _ _ _ _ st hQ=>JT st.1 hQ
def Fg(t:SetTable)(i:Nat):Nat:=match i with | 0=>0 | k+1=>t.place.getD k 0+1
theorem KO{t:SetTable}(g:Ris t.place){i:Nat}(h:i<=t.place.size):SetTable.below t.place (Fg t i)=i:=by
 cases i with
 | zero=>exact O3 g
 | succ k=>exact Mv g h
theorem Uf{o:Obj}{es:Array (Int × Value)}{ep:Nat}{t:SetTable}(hh:A.handled=none)(hne:a≠I)(hx:w.params.followText "set-order" = false)(hd:(!t.plain && decide (es.size > 1))=false)(h3:o.data=.set es ep t)(h4:ElemsOf (intKind P w) es.toList)(h7:t.fits es.size=true)(g:TabG w t) :
 Walks P w A I [I,a] [I] es.size (Ek es.toList) (fun i h=>IsSetIter h I (.int (Fg t i) 0) i a es.size ep/\h.get? a=some o) where
 sub:=fun b hb=>by simp at hb;simp[hb]
 frame:=fun _ _ _ st hk=>⟨st.1.at fun o e=>hk I (by simp) o e,hk a (by simp) _ st.2⟩
 item:=fun i s Q E hi st hQ=>by
  have hz:t.place.size=es.size:=by have:=h7;unfold SetTable.fits at this;simp at this;exact this.1
  have hl:t.led=true:=by rw[g.led,hx];rfl
  refine MG (nx:=Fg t (i+1)) (x:=es[i].2) st.1 st.2 h3 h7 (fun A E Q q=>Kg hx st.2 h3 h7 hl hd (KO g.ris (by lia)) ?_) fun h' hit' sb=>?_
  ·rw[ZBU hi,ZBU (show i < t.place.size by lia)];have e:Fg t (i+1)=t.place[i]+1:=by show t.place.getD i 0+1=_;simp[Array.getD,show i < t.place.size by lia]
   rw[e]at q;exact q
  ·exact hQ _ h' s.toks (Gx h4 (by rw[ZBd,ZBU hi])) ⟨hit',(sb.2 a hne).trans st.2⟩ fun b o hb e=>sb.extBut b o (fun h=>hb (by simp[h])) e
 done:=fun s Q E st hQ=>by
  have hz:t.place.size=es.size:=by have:=h7;unfold SetTable.fits at this;simp at this;exact this.1
  have hl:t.led=true:=by rw[g.led,hx];rfl
  refine MP hh st.1 st.2 h3 h7 (fun A E Q q=>Kg hx st.2 h3 h7 hl hd (KO g.ris (by lia)) ?_) fun h' he'=>hQ h' s.toks fun b o hb e=>he' b o (fun h=>hb (by simp[h])) e
  rw[Array.getElem?_eq_none (ZD _)];exact q
 self:=fun _ _ _ _ st hQ=>JT st.1 hQ
theorem KA{α:Type}(es:Array α):∀(l:List Nat),(∀x∈l,x < es.size)->∀i:Nat,(l.filterMap (es[·]?))[i]? = (l[i]?).bind (es[·]?)
 | [],_,i=>by simp
 | x::r,hx,i=>by
  have hx0:x < es.size:=hx x Zo;rw[ZBm,ZBU hx0];cases i with
  | zero=>simp[hx0]
  | succ j=>simpa using KA es r (fun y hy=>hx y (Za _ hy)) j
theorem RM {o ot:Obj} {es:Array (Int × Value)} {ep tp nt:Nat} {t:SetTable} {ps:List Nat} (hh:A.handled=none) (hne:a≠I) (hnt:tp≠I) (h3:o.data=.set es ep t) (h4:ElemsOf (intKind P w) es.toList) (h7:t.fits es.size=true)
 (hdt:ot.data=.seq (ps.map fun(i:Nat)=>rawInt i).toArray nt) (hp:ps.Perm (List.range es.size)) :
 Walks P w A I [I,a,tp] [I] es.size (Ek (ps.filterMap (es[·]?))) (fun i h=>IsSetIter h I (.ref tp) i a es.size ep/\h.get? a=some o/\h.get? tp=some ot) where
 sub:=fun b hb=>by simp at hb;simp[hb]
 frame:=fun _ _ _ st hk=>⟨st.1.at fun o e=>hk I (by simp) o e,hk a (by simp) _ st.2.1,hk tp (by simp) _ st.2.2⟩
 item:=fun i s Q E hi st hQ=>by
  have hl:ps.length=es.size:=by rw[hp.length_eq,ZBV]
  have hi':i < ps.length:=by lia
  have hpi:ps[i] < es.size:=ZBJ.mp (hp.mem_iff.mp (Zc hi'));have pm:(ps.filterMap (es[·]?)).Perm es.toList:=(hp.filterMap _).trans (by rw[filterMap_getElem?_range]);refine OQ (p:=ps[i]) (x:=es[ps[i]]) st.1 st.2.1 h3 h7 st.2.2 hdt (by simp[hi',rawInt]) (ZBU hpi) fun h' hit' sb=>?_
  exact hQ _ h' s.toks (Gx (h4.perm pm) (by rw[KA es ps (fun x hx=>ZBJ.mp (hp.mem_iff.mp hx)) i,ZE hi'];exact ZBU hpi)) ⟨hit',(sb.2 a hne).trans st.2.1,(sb.2 tp hnt).trans st.2.2⟩ fun b o hb e=>sb.extBut b o (fun h=>hb (by simp[h])) e
 done:=fun s Q E st hQ=>by
  have hl:ps.length=es.size:=by rw[hp.length_eq,ZBV]
  exact Po hh st.1 st.2.1 h3 h7 st.2.2 hdt (by simp[hl]) fun h' he'=>hQ h' s.toks fun b o hb e=>he' b o (fun h=>hb (by simp[h])) e
 self:=fun _ _ _ _ st hQ=>JT st.1 hQ
theorem NR {S:Int->Bool} {n:Nat} {Q:Value->Shared->Prop} (hS:SetW P w s.heap a S n)
 (fin:∀(h':Heap) d (I:Addr) (fp:List Addr) (St:Nat->Heap->Prop) (ms:List Int),ms.length=n->(∀k,k∈ms ↔ S k=true)->(∀b o,s.heap.get? b=some o->h'.get? b=some o)->s.heap.objs.size<=I->(∀b∈fp,b=a\/s.heap.objs.size<=b) ->
   (∀A:Around,A.handled=none->Walks P w A I fp [I] n (fun i v=>∃t,v=.int (ms.getD i 0) t) St)->St 0 h'->Q (.ref I) { s with heap:=h',drawn:=d }):wpAny (model P w) A (pyIter (.ref a)) Q E s:=by
 obtain⟨o,es,ep,t,h1,h2,h3,h4,h5,h6,h7,h8,g⟩:=hS;have hT:s.TypeIs (.ref a) "set":=⟨o,h1,h2.1⟩;have hlt:=ZI h1;subst h8;refine wpAny_pyIter_slot hT PySem.F.slot_set_iter (Zx PySem.F.slot_set_iter hT F.entry_set_iter ?_ (PySem.F.args_set_iter_1 _));show wpAny _ _ (Builtin.Frozenset.sizeOf a >>= _) _ _ s;refine ZA (ZA (wpAny_setEntries_of h1 h3 h7 (ZB ?_)));show wpAny _ _ (setDrawn a >>= _) _ _ s;unfold setDrawn;refine ZA (ZA (wpAny_setState_of h1 h3 h7 ?_));dsimp only;refine ZA (FA (ZB ?_));cases hx:w.params.followText "set-order" with
 | true =>
  refine Zt (fun hab=>absurd hab (by simp)) (fun _=>?_);refine ZA (ZB (ZA (wpAny_setEpoch_of h1 h3 h7 ?_)));have pm:=IM (w.params.setOrder a ep) es;refine ZA (Zk (ZB ⟨_,rfl,"set_iterator",_,⟨_,ZR _ rfl,rfl⟩,F.slot_set_iterator_next.lookup,?_⟩))
  refine fin _ s.drawn s.heap.objs.size [s.heap.objs.size,a] _ ((pickOrder (w.params.setOrder a ep) es).toList.map fun(e:Int × Value)=>numOf e.2) (by rw[ZC,pm.length_eq,Zf]) (fun k=>by rw[HJ (h4.perm pm),h5 k];exact⟨fun⟨e,x,y⟩=>⟨e,pm.mem_iff.mp x,y⟩,fun⟨e,x,y⟩=>⟨e,pm.mem_iff.mpr x,y⟩⟩) (fun b o e=>ZJ _ e) (ZD _)
   (fun b hb=>by simp at hb;rcases hb with rfl | rfl <;> simp) (fun A hh=>Qf hh (ZQ hlt) hx h3 h4 h7) ⟨⟨_,ZR _ rfl,rfl,rfl⟩,ZJ _ h1⟩
 | false =>
  by_cases hd:(!t.plain && decide (es.size > 1))=true
  ·refine Zt (fun _=>?_) (fun hab=>absurd (show(!false && (!t.plain && decide (es.size > 1)))=true by rw[hd];rfl) hab);refine ZA (KN es.size (List.range es.size) _ _ (by simp) fun ps d hp=>?_);refine ZA (wpAny_newTuple ?_ (by rw[ZC,hp.length_eq,ZBV];exact fits_of_scanBound h6));refine ZA (wpAny_setEpoch_of (ZJ _ h1) h3 h7 ?_);have pm:(ps.filterMap (es[·]?)).Perm es.toList:=(hp.filterMap _).trans (by rw[filterMap_getElem?_range]);refine ZA (Zk (ZB ⟨_,rfl,"set_iterator",_,⟨_,ZR _ rfl,rfl⟩,F.slot_set_iterator_next.lookup,?_⟩))
   refine fin _ d (s.heap.push { cls:=.type "tuple",data:=.seq (ps.map fun(i:Nat)=>rawInt i).toArray }).objs.size [(s.heap.push { cls:=.type "tuple",data:=.seq (ps.map fun(i:Nat)=>rawInt i).toArray }).objs.size,a,s.heap.objs.size] _ ((ps.filterMap (es[·]?)).map fun(e:Int × Value)=>numOf e.2) (by rw[ZC,pm.length_eq,Zf])
    (fun k=>by rw[HJ (h4.perm pm),h5 k];exact⟨fun⟨e,x,y⟩=>⟨e,pm.mem_iff.mp x,y⟩,fun⟨e,x,y⟩=>⟨e,pm.mem_iff.mpr x,y⟩⟩) (fun b o e=>ZJ _ (ZJ _ e)) (by rw[Z2];exact Nat.le_succ _)
    (fun b hb=>by rw[Z2]at hb;simp at hb;rcases hb with rfl | rfl | rfl <;> simp) (fun A hh=>RM hh (by rw[Z2];exact ZQ (Nat.lt_succ_of_lt hlt)) (by rw[Z2];exact ZQ (ZBY _)) h3 h4 h7 rfl hp)
    ⟨⟨_,ZR _ rfl,rfl,rfl⟩,ZJ _ (ZJ _ h1),ZJ _ (ZR _ rfl)⟩
  ·have hd':(!t.plain && decide (es.size > 1))=false:=by simpa using hd
   refine Zt (fun hab=>absurd (show(!t.plain && decide (es.size > 1))=true from hab) (by rw[hd'];simp)) (fun _=>?_);refine ZA (ZB (ZA (wpAny_setEpoch_of h1 h3 h7 ?_)));refine ZA (Zk (ZB ⟨_,rfl,"set_iterator",_,⟨_,ZR _ rfl,rfl⟩,F.slot_set_iterator_next.lookup,?_⟩))
   refine fin _ s.drawn s.heap.objs.size [s.heap.objs.size,a] _ (es.toList.map fun(e:Int × Value)=>numOf e.2) (by rw[ZC,Zf]) (fun k=>by rw[HJ h4,h5 k]) (fun b o e=>ZJ _ e) (ZD _)
    (fun b hb=>by simp at hb;rcases hb with rfl | rfl <;> simp) (fun A hh=>Uf hh (ZQ hlt) hx hd' h3 h4 h7 g) ⟨⟨_,ZR _ rfl,rfl,rfl⟩,ZJ _ h1⟩
end
end L2
namespace L2
open PySem PySem.Spec PyProof.Rows PySem.W PySem.Calls
section
variable {P:Program}{w:World}{A:Around}{E:Value->Shared->Prop}{s:Shared}{a I:Addr}
theorem Qw{Q:Bool->Shared->Prop}(hT:s.TypeIs (.ref a) "set")(h:Q false s):wpAny (model P w) A (Builtin.List.listLengthHint (.ref a)) Q E s:=by
 unfold Builtin.List.listLengthHint;refine ZA (wpAny_specialOf hT PySem.F.slot_set_len.lookup ?_);generalize hid:("set.__len__" : String)=id0
 wp_delta
 rw[show splitId id0=some ("set","__len__") from by subst hid;decide +kernel];subst hid;refine ZA (wpAny_isInstance (T:="set") (b:=true) hT (by rw[isSubtype_type];kernel_rfl) ?_);refine Zt (fun hab=>absurd hab (by decide)) (fun _=>Zt (fun _=>ZA (wpAny_typeOf hT (ZB h))) (fun hab=>absurd (by decide +kernel) hab))
theorem Qt {R:Result->Shared->Prop} {S:Int->Bool} {n:Nat} {l:Addr} {c0:Nat} (hh:A.handled=none) (hS:SetW P w s.heap a S n) (hn:n<=sizeLine) (hl:s.heap.get? l=some { cls:=.type "list",data:=.seq #[] c0 }) (res:Value)
 (fin:∀(h':Heap) d tk (acc:Array Value) (c:Nat) (ms:List Int),ms.length=n->(∀k,k∈ms ↔ S k=true)->(∀b o,b≠l->s.heap.get? b=some o->h'.get? b=some o)->h'.get? l=some { cls:=.type "list",dict:=none,data:=.seq acc c,slots:=#[] } ->
   ItemsOf (fun i v=>∃t,v=.int (ms.getD i 0) t) acc n->R (.ok (.ret res)) { s with heap:=h',drawn:=d,toks:=tk }) :
 wpAny (model P w) A.in1 (Builtin.List.listExtendWith (.ref l) (.ref a) res)
  (fun fin s'=>match fin with | .done f=>R (.ok f) s' | .again c'=>c'.quiet=true/\codeAny (model P w) A c' R s') (fun e s'=>R (.error e) s') s:=by
 have hT:s.TypeIs (.ref a) "set":=hS.of.typeIs
 have hla:l≠a:=fun e=>by
  obtain⟨o,es,ep,t,h1,h2,_⟩:=hS;rw[<- e,hl]at h1;cases h1;exact absurd h2.1 (show ¬(Value.type "list" = Value.type "set") by decide)
 unfold Builtin.List.listExtendWith;refine ZA (wpAny_typeOf (T:="set") hT ?_);have e1:Builtin.List.listSameRef (.ref l) (.ref a)=false:=by simp[Builtin.List.listSameRef,hla]
 have e2:(Value.type "set" == Value.type "list")=false:=by decide
 have e3:(Value.type "set" == Value.type "tuple")=false:=by decide
 simp only[e1,e2,e3,Bool.or_false,Bool.false_eq_true,if_false];refine ZA (NR hS fun h1 d I fp St ms hm1 hm2 hk hI hfp W st=>?_)
 have hlf:l∉fp:=fun z=>by
  rcases hfp l z with q | q
  ·exact hla q
  ·exact absurd (ZI hl) (Nat.not_lt.mpr q)
 have key:∀(h2:Heap) (c1 tk:Nat),St 0 h2->(∀b o,b≠l->s.heap.get? b=some o->h2.get? b=some o)->h2.get? l=some { cls:=.type "list",data:=.seq #[] c1 } ->
  codeAny (model P w) A (.builtin "list.extend.loop" ⟨[.ref l,.ref I,res],[]⟩) R { s with heap:=h2,drawn:=d,toks:=tk }:=fun h2 c1 tk st2 hk2 hl2=>by
  refine codeAny_extend_loopS (W A.in1 hh).toS hn l hlf res n 0 _ #[] c1 rfl (ZU _) st2 hl2 (ItemsOf.nil _) fun s' acc c hm hs' hacc=>?_
  rw[Moved.eq_with hm];refine fin s'.heap d s'.toks acc c ms hm1 hm2 (fun b o hb e=>hm.heap b o (fun z=>?_) (hk2 b o hb e)) hs' hacc
  rcases ZF.mp z with q | q
  ·exact hb q
  ·rw[ZO]at q;exact absurd (ZI e) (by rw[q];exact Nat.not_lt.mpr hI)
 have hl1:=hk _ _ hl;refine ZA (Zl (Qw (SetW.of (hS.at fun o e=>hk _ _ e)).typeIs ?_));refine Zt (fun _=>?_) (fun _=>ZB ⟨ZBT PySem.F.plain_extend_loop _,key _ c0 _ st (fun b o _ e=>hk b o e) hl1⟩);refine ZA (wpAny_rule (ZA ?_));show wpAny _ _ (updateSeq l (·.push .none) >>= fun _=>updateSeq l (·.pop)) _ _ _;have g1:=ZBc (Obj.mapSeq (·.push Value.none)) hl1 rfl;have g2:=ZBc (Obj.mapSeq (·.pop)) g1 rfl;refine ZA (wpAny_updateSeq hl1 rfl (wpAny_updateSeq (hz:=by seq_fits) g1 rfl (ZB ⟨ZBT PySem.F.plain_extend_loop _,key _ _ _ ?_ (fun b o hb e=>?_) g2⟩)))
 ·refine(W A hh).frame 0 _ _ st fun b hb o e=>?_
  have hbl:b≠l:=fun h=>hlf (h ▸ hb)
  exact(ZBB _ _ (Ne.symm hbl)).trans ((ZBB _ _ (Ne.symm hbl)).trans e)
 ·exact(ZBB _ _ (Ne.symm hb)).trans ((ZBB _ _ (Ne.symm hb)).trans (hk b o e))
theorem Sq {S:Int->Bool} {n:Nat} {R:List Value->Shared->Prop} (hh:A.handled=none) (hS:SetW P w s.heap a S n) (hn:n<=sizeLine)
 (fin:∀(h':Heap) d tk (acc:Array Value) (ms:List Int),ms.length=n->(∀k,k∈ms ↔ S k=true)->(∀b o,s.heap.get? b=some o->h'.get? b=some o)->s.heap.objs.size < h'.objs.size->ItemsOf (fun i v=>∃t,v=.int (ms.getD i 0) t) acc n->R acc.toList { s with heap:=h',drawn:=d,toks:=tk }) :
 wpAny (model P w) A (collect (.ref a)) R E s:=by
 unfold collect;refine ZA (wpAny_runValue (ZBS entry_proto_collect' ?_));rw[ZBk PySem.F.plain_proto_collect _];show wpAny _ A.in1 (newList [] >>= fun l=>again (.builtin "list.__iadd__" ⟨[l,.ref a],[]⟩)) _ _ s;refine ZA (Zk (ZB ⟨ZBT PySem.F.plain_list_iadd _,ZBS entry_list_iadd' ?_⟩));rw[ZBk PySem.F.plain_list_iadd _];have g1:(s.heap.push { cls:=.type "list",data:=.seq ([]:List Value).toArray }).get? s.heap.objs.size=some { cls:=.type "list",data:=.seq #[] }:=ZR _ rfl;show wpAny _ A.in1 (Builtin.List.listExtendWith (.ref s.heap.objs.size) (.ref a) (.ref s.heap.objs.size)) _ _ _
 refine Zv (Qt (A:=A) (s:={ s with heap:=s.heap.push { cls:=.type "list",data:=.seq ([]:List Value).toArray } })
  (R:=fun(q:Result) (s':Shared)=>∃(h':Heap) (d:_) (tk:Nat) (acc:Array Value) (c:Nat) (ms:List Int),q=.ok (.ret (.ref s.heap.objs.size))/\s' = { s with heap:=h',drawn:=d,toks:=tk } /\ ms.length=n/\(∀k,k∈ms ↔ S k=true) /\
    (∀b o,s.heap.get? b=some o->h'.get? b=some o)/\h'.get? s.heap.objs.size=some { cls:=.type "list",dict:=none,data:=.seq acc c,slots:=#[] } /\ ItemsOf (fun i v=>∃t,v=.int (ms.getD i 0) t) acc n)
  hh (hS.at fun o e=>ZJ _ e) hn g1 (.ref s.heap.objs.size) fun h' d tk acc c ms m1 m2 hk g2 hacc=>⟨h',d,tk,acc,c,ms,rfl,rfl,m1,m2,fun b o e=>hk b o (ZQ (ZI e)) (ZJ _ e),g2,hacc⟩) (fun fn s' x=>?_) fun e s' x=>?_
 ·cases fn with
  | done f =>
   obtain⟨h',d,tk,acc,c,ms,e,rfl,m1,m2,hk,g2,hacc⟩:=x;cases e;show wpAny _ A (load s.heap.objs.size >>= _) _ _ _;exact ZA (wpAny_load g2 (ZB (fin h' d tk acc ms m1 m2 hk (ZI g2) hacc)))
  | again c₁ =>
   refine⟨x.1,ZBZ x.2 fun q s₂ y=>?_⟩;obtain⟨h',d,tk,acc,c,ms,rfl,rfl,m1,m2,hk,g2,hacc⟩:=y;show wpAny _ A (load s.heap.objs.size >>= _) _ _ _;exact ZA (wpAny_load g2 (ZB (fin h' d tk acc ms m1 m2 hk (ZI g2) hacc)))
 ·obtain⟨_,_,_,_,_,_,e',_⟩:=x;cases e'
theorem QB{acc:Array Value}{ms:List Int}(h:ItemsOf (fun i v=>∃t,v=.int (ms.getD i 0) t) acc ms.length):IntsAre acc.toList ms:=by
 have e:acc.toList.map numOf=ms:=by
  apply List.ext_getElem
  ·rw[ZC,Zf,h.1]
  ·intro i h1 h2;rw[List.getElem_map];have h3:i < acc.size:=by rw[h.1];exact h2
   obtain⟨t,et⟩:=h.2 i acc[i] (by simp[h3]);rw[Array.getElem_toList,et];show ms.getD i 0=_;rw[Zy,ZE h2];rfl
 have:=intsAre_map acc.toList (fun v hv=>by
  obtain⟨i,hi,ei⟩:=Z8 hv;obtain⟨t,et⟩:=h.2 i v (by rw[<- ZBd,ZE hi,ei]);exact⟨_,t,et⟩)
 rw[e]at this;exact this
theorem UO {S:Int->Bool} {n:Nat} {Q:Value->Shared->Prop} (hh:A.handled=none) (hS:SetW P w s.heap a S n) (h64:n < 64)
 (fin:∀(h':Heap) d tk (p:Addr) (ms:List Int) (out:Array Value) (e:Nat),ms.length=n->(∀k,k∈ms ↔ S k=true)->ms.Pairwise (· <= ·)->IntsAre out.toList ms->h'.get? p=some (seqObj "list" out e)->s.heap.objs.size<=p->(∀b o,s.heap.get? b=some o->h'.get? b=some o)->Q (.ref p) { s with heap:=h',drawn:=d,toks:=tk }) :
 wpAny (model P w) A (call (.builtin "sorted") [.ref a]) Q E s:=by
 have hz:n<=sizeLine:=ZP (Zp h64) (by decide);refine call_function_entry kind_sorted plain_sorted entry_sorted (args_sorted1 _) ?_;unfold Builtin.«sorted»;refine ZA (m:=checkCount "sorted" 1 1 _) (ZB (ZA (Sq (A:=A.in1) hh hS hz fun h' d tk acc ms m1 m2 hk hlt hacc=>?_)));subst m1;have hI:=QB hacc;have hl:acc.toList.length=ms.length:=by rw[Zf,hacc.1]
 refine ZA (wpAny_newList ?_ (by rw[hl];exact hz));have hoL:(h'.push (seqObj "list" acc.toList.toArray 0)).get? h'.objs.size=some (seqObj "list" acc.toList.toArray 0):=ZR _ rfl;refine ZA (Zl (Zx slot_list_sort ⟨_,hoL,rfl⟩ entry_list_sort (list_sort_tree hoL hI (by lia) fun out ns' a1 a2 a3=>⟨_,rfl,?_⟩) (args_list_sort _)));obtain⟨e,he⟩:=sortedHeap_at (out:=out) hoL;refine ZB ⟨_,rfl,fin _ d tk h'.objs.size ns' out e (a2.length_eq) (fun k=>by rw[a2.mem_iff];exact m2 k) a3 a1 he (Zp hlt) fun b o q=>?_⟩;have hb:=hk b o q;have hlt2:=ZI hb;rw[sortedHeap_old (ZQ hlt2) (by rw[Z2];exact Nat.lt_succ_of_lt hlt2)];exact ZJ _ hb
end
end L2
namespace L2
open PySem PySem.Spec PyProof.Rows
def Cf(P:Program)(w:World)(a:Addr)(ds:List Int):Heap->Prop:=fun h=>SetW P w h a (fun k=>ds.any (· == k)) ds.length
theorem Qs{P:Program}{w:World}{H:Hp}{h:Heap}{a:Addr}{ds:List Int}(x:Cf P w a ds h):ObjOk P w H h a (.ext (Cf P w a ds)) :=
 ⟨x,(by obtain⟨o,_,_,_,e,_⟩:=x;exact⟨o,e⟩),fun h1 h2 y k=>SetW.at y k⟩
def FL(K:W.Frag)(P:Program)(w:World):List V->Hp->VK->Prop:=fun xs H Q=>match xs with
 | [.ref p]=>∃ns:List Int,SqT K H p (ns.map V.int)/\ns.length<=1000/\∀(ds:List Int) q,ds.Nodup->(∀k,k∈ds ↔ k∈ns)->H q=none->Q (.ref q) (upd H q (.ext (Cf P w q ds)))
 | _=>False
def Ep(P:Program)(w:World):List V->Hp->VK->Prop:=fun xs H Q=>match xs with
 | [.ref p]=>∃ds:List Int,H p=some (.ext (Cf P w p ds))/\ds.length < 64/\∀(ms:List Int) q,ms.length=ds.length->(∀k,k∈ms ↔ k∈ds)->ms.Pairwise (· <= ·)->H q=none->Q (.ref q) (upd H q (.lst (ms.map V.int)))
 | _=>False
section
variable {X:Cx}{K:W.Frag}{P:Program}{w:World}
theorem Inv.drew{pins:List (Addr × Obj)}{σ:List (Option V)}{H:Hp}{s:Shared}(I:Inv X pins σ H s)(d:Drawn):Inv X pins σ H { s with drawn:=d }:=⟨I.ok,I.os,I.bare,I.base,I.loc,I.cell,I.free,I.freeC,I.pin,I.hok,I.len⟩
theorem QV(hh:X.calm=true):CallR X (.type "set") (FL X.K X.prog X.w):=by
 intro pins s σ H xs us Q I r h
 match xs,h with
 | [.ref p],h =>
 obtain⟨ns,hq,hn,q⟩:=h;obtain⟨u,rfl,rx⟩:=Bm r;cases rx;obtain⟨its,rv,pl,hz⟩:=I.tuple hq;have hi:IntsAre its ns:=by simpa using EM rv
 have hlen:its.length=ns.length:=by rw[<- rv.length,ZC]
 refine PF (ns:=ns) (I.ok.hd hh) pl (by simpa using hi) (by rw[ZL,hlen];show ns.length+1 < 4096;lia) fun h' tk hs hk=>?_
 have hsz:its.toArray.size=ns.length:=by rw[ZL,hlen]
 rw[hsz]at hs;exact⟨.ref s.heap.objs.size,_,I.laid (t':=tk) (o:=.ext (Cf X.prog X.w s.heap.objs.size (firstMet (fun i=>ns.getD i 0) ns.length))) (fun b o e=>hk b o (ZI e) e) (ZD _) (Qs hs),rfl,q _ _ (HB _ _) (Ju ns) (I.hok.fresh (ZD _))⟩
theorem Rt(hh:X.calm=true)(hK:X.K=K:=by rfl)(hP:X.prog=P:=by rfl)(hw:X.w=w:=by rfl):CallR X (.type "set") (FL K P w):=by subst hK hP hw;exact QV hh
theorem PH:Bb (FL K P w):=fun xs H Q Q' h q=>by
 unfold FL at *;split at q
 ·obtain⟨ns,a,b,q⟩:=q;exact⟨ns,a,b,fun ds p x1 x2 x3=>h _ _ (q ds p x1 x2 x3)⟩
 ·exact q.elim
theorem SG(hh:X.calm=true):CallR X (.builtin "sorted") (Ep X.prog X.w):=by
 intro pins s σ H xs us Q I r h
 match xs,h with
 | [.ref p],h =>
 obtain⟨ds,hq,hn,q⟩:=h;obtain⟨u,rfl,rx⟩:=Bm r;cases rx;obtain⟨hs,_⟩:=(show ObjOk X.prog X.w H s.heap p (.ext (Cf X.prog X.w p ds)) from I.hok p _ hq);refine UO (I.ok.hd hh) hs hn fun h' d tk b ms out e m1 m2 m3 hi hb hp hk=>?_
 refine⟨.ref b,_,(I.laid (t':=tk) (o:=.lst (ms.map V.int)) (fun b o e=>hk b o e) hp ?_).drew d,rfl,q ms _ m1 (fun k=>(m2 k).trans (by simp)) m3 (I.hok.fresh hp)⟩;exact⟨by rw[ZC,m1];exact ZP (Zp hn) (by decide),out.toList,e,Qv hi,hb⟩
theorem Nd(hh:X.calm=true)(hP:X.prog=P:=by rfl)(hw:X.w=w:=by rfl):CallR X (.builtin "sorted") (Ep P w):=by subst hP hw;exact SG hh
theorem N9:Bb (Ep P w):=fun xs H Q Q' h q=>by
 unfold Ep at *;split at q
 ·obtain⟨ns,a,b,q⟩:=q;exact⟨ns,a,b,fun ds p x1 x2 x3 x4=>h _ _ (q ds p x1 x2 x3 x4)⟩
 ·exact q.elim
def La(C:Addr)(ta:TE)(f:Str):TE:=fun σ H Q=>ta σ H fun x H1=>match x with
 | .ref a=>∃dx fs v,H1 a=some (.ins C dx fs)/\fs.lookup f=some v/\Q v H1
 | _=>False
def UF(C:Addr)(ta tv:TE)(f:Str):TS:=fun D σ H=>tv σ H fun y H1=>ta σ H1 fun x H2=>match x with
 | .ref a=>∃dx fs,H2 a=some (.ins C dx fs)/\fs.length < 1000/\D.nx σ (upd H2 a (.ins C dx (At f y fs)))
 | _=>False
variable {C:Addr}{f:Str}{e o value:Expr}{ta tv td ty:TE}{pos pos':Pos}
theorem Ci(c:Cls K C)(n:NoAttr K C f)(he:PE X e ta)(hK:X.K=K:=by rfl)(hb:attributeBase e f X.env (eval e X.env)=eval e X.env:=by rfl):PE X (.Attribute e f pos) (La C ta f):=by
 subst hK;intro pins s σ H Q I h;refine O7 hb (thn (he pins s σ H _ I h) fun u s1 ⟨x,H1,I1,rx,q⟩=>?_)
 match x,q with
 | .ref a,⟨dx,fs,v,ea,l,q⟩ =>
 obtain rfl:u=Value.ref a:=rx;exact QA I1 ea c n l fun u' s2 I2 ru=>⟨v,H1,I2,ru,q⟩
theorem GS(c:Cls K C)(n:NoAttr K C f)(ha:PE X o ta)(hv:PE X value tv)(hK:X.K=K:=by rfl)(hs:swapsWith value (some (.Attribute o f pos')) pos.line X.env=pure false:=by rfl):PS X (.Assign [.Attribute o f pos'] value pos) (UF C ta tv f):=by
 subst hK;intro pins s σ H D I h;refine plainObj_wpAny_Assign_Attribute (thn (hv pins s σ H _ I h) fun u s1 ⟨y,H1,I1,ry,q⟩=>thn (ha pins s1 σ H1 _ I1 q) fun ov s2 ⟨x,H2,I2,rx,q2⟩=>?_) hs
 match x,q2 with
 | .ref a,⟨dx,fs,ea,l,q2⟩ =>
 obtain rfl:ov=Value.ref a:=rx;exact Qo I2 ea c n l ry fun s3 I3=>⟨σ,_,I3,q2⟩
theorem NA(h:AZ ta):AZ (La C ta f):=fun σ H Q Q' k q=>h _ _ _ _ (fun v H1 q=>by
 cases v <;> first | exact q.elim | (obtain⟨dx,fs,v,a,b,q⟩:=q;exact⟨dx,fs,v,a,b,k _ _ q⟩)) q
def GL(neg:Bool):R2:=fun y x H Q=>match x with
 | .ref a=>∃o,DGet H a y o/\Q (.bl (xor neg o.isSome)) H
 | _=>False
theorem Lj(hu:X.A.units+60 < cLine):OpR X (compareOp .NotIn) (GL true):=by
 intro pins s σ H y x v u Q I ry rx q
 match x,q with
 | .ref a,⟨o,g,q⟩ =>
 obtain rfl:u=Value.ref a:=rx;exact Oi (Cr hu) I g ry fun s3 I3=>⟨.bl (!o.isSome),H,I3,rfl,(by cases o <;> exact q)⟩
theorem SB{b:Bool}:BR (GL b):=fun x y H Q Q' h q=>by
 unfold GL at *;split at q
 ·obtain⟨o,a,q⟩:=q;exact⟨o,a,h _ _ q⟩
 ·exact q.elim
end
theorem N0:AZ Mf:=fun σ H Q Q' h q p hp=>h _ _ (q p hp)
end L2
namespace L2
open PySem PySem.Spec PyProof.Rows PySem.W
end L2
namespace L2
open PySem PySem.Spec PyProof.Rows PySem.W PySem.Calls
section
variable {P:Program}{w:World}{A:Around}{E:Value->Shared->Prop}{s:Shared}
def PairAt(h:Heap)(v:Value)(k x:Int):Prop:=∃a t u,v=.ref a/\h.get? a=some { cls:=.type "tuple",data:=.seq #[.int k t,.int x u] }
theorem PairAt.keep{h h':Heap}{v:Value}{k x:Int}(p:PairAt h v k x)(e:∀b o,o.cls=.type "tuple" -> h.get? b=some o->h'.get? b=some o):PairAt h' v k x:=by
 obtain⟨a,t,u,rfl,ha⟩:=p;exact⟨a,t,u,rfl,e _ _ rfl ha⟩
end
end L2
namespace L2
open PySem PySem.Spec PyProof.Rows PySem.W
section
variable {P:Program}{w:World}{A:Around}{E:Value->Shared->Prop}{s:Shared}
end
section
variable {X:Cx}
end
section
variable {X:Cx}{k:Nat}{f:Addr}{fd:FuncData}{ps:List Str}{sp:Sp}{x:Str}{p pos:Pos}{e:Expr}{es:List Expr}{t:TA}{tn:TE}
end
section
variable {X:Cx}{pins:List (Addr × Obj)}{σ:St}{H:Hp}{s:Shared}
end
section
variable {X:Cx}{Pt c f:Addr}{fd:FuncData}{ps:List Str}{k i:Nat}{kn a:Str}{kp pos lpos:Pos}{params:Arguments}{body:Expr}{scope:Scope}{e:Expr}{es:List Expr}{t:TA}{qual:Str}{spK:Addr->Addr->V->Sp}
end
end L2
namespace L2
open PySem PyProof.Rows
section
variable {X:Cx}{K:W.Frag}{o e:Expr}{to:TE}{t:TA}{apos cpos:Pos}
end
end L2
namespace L2
open PySem PySem.Spec PyProof.Rows PySem.SeqAt
section
variable {X:Cx}{K:W.Frag}
end
end L2
namespace L2
open PySem PySem.Spec PyProof.Rows
mutual
theorem Je{n:Nat}(h:n < 10 ^ 30):∀d:Dw,okW n d=true->(pyW d).leavesShort 31=true
 | .non,_=>by simp[pyW,PyData.leavesShort]
 | .bl _,_=>by simp[pyW,PyData.leavesShort]
 | .int i,ho=>by
  have h1:i.natAbs<=n:=by simpa [okW] using ho
  simp only[pyW,PyData.leavesShort,PyData.shown];refine ZM ?_
  have:((toString i:String):Str).length=(toString i).length:=PySem.ofString_length _
  exact ZP (ZBn this) (PySem.int_text_length_le10 (k:=30) (by decide) (ZBe h1 h))
 | .str x,ho=>by
  unfold okW at ho;unfold pyW PyData.leavesShort;exact ho
 | .emp,_=>by simp[pyW,PyData.leavesShort,PyData.leavesShortKv]
 | .tup ds,ho=>by
  have h':=Fz h ds (by simpa [okW] using ho);simpa [pyW,PyData.leavesShort] using h'
 | .lst ds,ho=>by
  have h':=Fz h ds (by simpa [okW] using ho);simpa [pyW,PyData.leavesShort] using h'
theorem Fz{n:Nat}(h:n < 10 ^ 30):∀ds:List Dw,BY n ds=true->PyData.leavesShortAll 31 (BM ds)=true
 | [],_=>by simp[BM,PyData.leavesShortAll]
 | d::ds,ho=>by
  have h':okW n d=true/\BY n ds=true:=by simpa [BY] using ho
  have h1:=Je h d h'.1;have h2:=Fz h ds h'.2;simp[BM,PyData.leavesShortAll,h1,h2]
end
theorem U2{n:Nat}{d:Dw}(ho:okW n d=true)(h:n < 10 ^ 30)(hb:AY d<=400000):(Bl d).length<=sizeLine:=by
 have h1:=PyData.shown_le_bulk 31 (by decide) (pyW d) (Je h d ho);rw[Mh d]at h1;have e:sizeLine=16777216:=by decide
 unfold Bl;rw[e];lia
def Ks(K:W.Frag):List V->Hp->VK->Prop:=fun xs H Q=>match xs with
 | [x]=>∃d n,RepW K H d x/\okW n d=true/\n < 10 ^ 30/\AY d<=400000/\Au d<=60/\Q (.str (Bl d)) H
 | _=>False
section
variable {X:Cx}{K:W.Frag}
theorem OP(hg:X.A.guards=some [])(hu:X.A.units+62 < cLine):CallR X (.builtin "repr") (Ks X.K):=by
 intro pins s σ H xs us Q I r q
 match xs,q with
 | [x],q =>
  obtain⟨d,n,hd,ho,hn30,hb,hp,q⟩:=q;have hn:=Kb (n:=n) (Z7 hn30 (by decide)) d ho;cases r with
  | cons r1 r2 =>
  cases r2;rename_i u;have fits:=U2 ho hn30 hb;have shw:=(Lo d hn).1
  have done:∀(h':Heap) (t tk:Nat),(∀b o,s.heap.get? b=some o->h'.get? b=some o)->EP X pins σ Q (.str (Bl d) t) { s with heap:=h',toks:=tk }:=fun h' t tk hk =>
   ⟨.str (Bl d),H,I.kept (t':=tk) hk,⟨t,rfl⟩,q⟩
  obtain⟨as,hr,hm⟩:=J0 I d x u hd r1;cases hx:u with
  | ref a =>
   rw[hx]at hr;refine PySem.repr_of_reads' hr shw (fun _=>hm) hg ?_ (fun _ _ e=>e) (fun h' t tk hk=>done h' t tk hk) fits;rw[MK];lia
  | none =>
   rw[hx]at hr;generalize hp:pyW d=p at hr;cases hr;have e:Bl d=("None" : Str):=by unfold Bl;rw[hp,PyData.shown_none]
   refine PySem.P.repr_of_none ?_;rw[<- e];exact done s.heap _ _ (fun _ _ e=>e)
  | bool b =>
   rw[hx]at hr;generalize hp:pyW d=p at hr;cases hr;have e:Bl d=((if b then "True" else "False" : Str)):=by unfold Bl;rw[hp,PyData.shown_bool]
   refine PySem.P.repr_of_bool ?_;rw[<- e];exact done s.heap _ _ (fun _ _ e=>e)
  | int i t =>
   rw[hx]at hr;generalize hp:pyW d=p at hr;cases hr;have e:Bl d=((toString i:String):Str):=by unfold Bl;rw[hp,PyData.shown_int]
   rw[hp]at shw;refine PySem.P.repr_of_int (by simpa [PyData.showable] using shw) ?_;rw[<- e];exact done s.heap _ _ (fun _ _ e=>e)
  | str y t =>
   rw[hx]at hr;generalize hp:pyW d=p at hr;cases hr;have e:Bl d=reprText y:=by unfold Bl;rw[hp];rfl
   refine PySem.P.repr_of_str ?_ (by rw[<- e];exact fits);rw[<- e];exact done s.heap _ _ (fun _ _ e=>e)
  | _=>rw[hx]at hr;cases hr
theorem Jt{k:Nat}(hr:Room k X.A)(hK:X.K=K:=by rfl):CallR X (.builtin "repr") (Ks K):=hK ▸ OP hr.gd (by have:=hr.un;lia)
end
theorem Nv {prog:Program} {w:World} {A:Around} {R:Result->Shared->Prop} {I S:Addr} {fp wr:List Addr} {n:Nat} {P:Nat->Value->Prop} {St:Nat->Heap->Prop} {x0:Str} {d0:Value}
 (W:Walks prog w A.in1 I fp wr n P St) (val:Nat->Int) (hval:∀i v,P i v->∃t,v=.int (val i) t) (hSf:S∉fp) :
 ∀(k j:Nat) (s:Shared) (cur:Array Value) (c:Nat),n - j=k->j<=n->St j s.heap->s.heap.get? S=some { cls:=.type "list",dict:=none,data:=.seq cur c,slots:=#[] } ->
  ((j=0/\cur = #[])\/∃i v,i < j/\cur = #[v,v]/\P i v/\∀i',i' < j->val i'<=val i) ->
  (∀v h' tk,((n=0/\v=d0)\/∃i,i < n/\P i v/\∀i',i' < n->val i'<=val i)->(∀b o,b∉wr->b≠S->s.heap.get? b=some o->h'.get? b=some o)->R (.ok (.ret v)) { s with heap:=h',toks:=tk }) ->
  codeAny (model prog w) A (.builtin "max.loop" ⟨[.ref I,.none,.ref S],[(x0,d0)]⟩) R s:=by
 have hSw:S∉wr:=fun h=>hSf (W.sub _ h);have nm:(toString "max" ++ toString ".loop" : String) = "max.loop":=by decide
 intro k
 induction k with
 | zero =>
  intro j s cur c hk hj hst hS hcur hR;obtain rfl:j=n:=by lia
  refine ZBS F.entry_max_loop (by
   rw[ZBk F.plain_max_loop _];show wpAny _ _ (seqItems? (Value.ref S) >>= _) _ _ _;refine ZA (wpAny_seqItems hS rfl (show wpAny _ _ (tryCatch (pyNext (Value.ref I)) _ >>= _) _ _ _ from ZA (wpAny_tryCatch (W.done s _ _ hst fun h' tk hk'=>?_))))
   rcases hcur with ⟨z,rfl⟩ | ⟨i,v,hi,rfl,hP,hm⟩
   ·show wpAny _ _ (rule _ >>= _) _ _ _;exact ZA (wpAny_rule (ZB (hR d0 h' tk (.inl ⟨z,rfl⟩) fun b o hb _ e=>hk' b o hb e)))
   ·show wpAny _ _ (updateSeq S (fun _=>#[]) >>= _) _ _ _;exact ZA (wpAny_updateSeq (hk' S _ hSw hS) rfl (ZA (wpAny_letGo (ZB (hR v _ tk (.inr ⟨i,hi,hP,hm⟩) fun b o hb hbS e=>(ZBB _ _ (Ne.symm hbS)).trans (hk' b o hb e)))))))
 | succ k ih =>
  intro j s cur c hk hj hst hS hcur hR;have hlt:j < n:=by lia
  have hk1:n - (j+1)=k:=by rw[Nat.sub_add_eq,hk];rfl
  refine ZBS F.entry_max_loop (by
   rw[ZBk F.plain_max_loop _];show wpAny _ _ (seqItems? (Value.ref S) >>= _) _ _ _;refine ZA (wpAny_seqItems hS rfl (show wpAny _ _ (tryCatch (pyNext (Value.ref I)) _ >>= _) _ _ _ from ZA (wpAny_tryCatch (W.item j s _ _ hlt hst fun v h' tk hP hst' hk'=>?_))));have hS':=hk' S _ hSw hS
   have go:∀(h2:Heap) (cur':Array Value) (c':Nat),(∀b,b≠S->h2.get? b=h'.get? b)->h2.get? S=some { cls:=.type "list",dict:=none,data:=.seq cur' c',slots:=#[] } -> (∃i v,i < j+1/\cur' = #[v,v]/\P i v/\∀i',i' < j+1->val i'<=val i) ->
    codeAny (model prog w) A (.builtin "max.loop" ⟨[.ref I,.none,.ref S],[(x0,d0)]⟩) R { s with heap:=h2,toks:=tk }:=fun h2 cur' c' hx hS2 hc2 =>
    ih (j+1) { s with heap:=h2,toks:=tk } cur' c' hk1 hlt (W.frame _ _ _ hst' fun b hb o e=>(hx b fun z=>hSf (z ▸ hb)).trans e) hS2 (.inr hc2) fun v' h3 tk3 hv hk3=>hR v' h3 tk3 hv fun b o hb hbS e=>hk3 b o hb hbS ((hx b hbS).trans (hk' b o hb e))
   rcases hcur with ⟨z,rfl⟩ | ⟨i,u,hi,rfl,hPu,hm⟩
   ·subst z;show wpAny _ _ (updateSeq S (fun _=>#[v,v]) >>= _) _ _ _;refine ZA (wpAny_updateSeq hS' rfl ?_);rw[nm];exact ZB ⟨ZBT F.plain_max_loop _,go _ _ _ (fun b hb=>ZBB _ _ (Ne.symm hb)) (ZBc _ hS' rfl) ⟨0,v,by lia,rfl,hP,fun i' h=>by rw[show i'=0 by lia];exact Int.le_refl _⟩⟩
   ·show wpAny _ _ (tryCatch (holding [v,v] (richCompare .Gt v u >>= _)) _ >>= _) _ _ _;refine ZA (wpAny_tryCatch (Zl (ZA (CmpOf.ints_gt val hval j i v u _ _ _ hP hPu (ZA (Zl (ZBK (ZA (wpAny_letGo (ZB ?_))))))))));show wpAny _ _ (if decide (val j > val i)=true then _ else _) _ _ _
    by_cases hb:val j > val i
    ·rw[if_pos (ZM hb)];show wpAny _ _ (updateSeq S (fun _=>#[v,v]) >>= _) _ _ _;refine ZA (wpAny_updateSeq hS' rfl (ZA (wpAny_letGo ?_)));rw[nm]
     exact ZB ⟨ZBT F.plain_max_loop _,go _ _ _ (fun b hb=>ZBB _ _ (Ne.symm hb)) (ZBc _ hS' rfl) ⟨j,v,by lia,rfl,hP,fun i' h=>by
      rcases Zs i' j with z | z
      ·have:=hm i' z;lia
      ·rw[show i'=j by lia];exact Int.le_refl _⟩⟩
    ·rw[if_neg (fun z=>hb (ZN z))];show wpAny _ _ (letGo [v,v] >>= _) _ _ _;refine ZA (wpAny_letGo ?_);rw[nm]
     exact ZB ⟨ZBT F.plain_max_loop _,go h' _ _ (fun b _=>rfl) hS' ⟨i,u,by lia,rfl,hPu,fun i' h=>by
      rcases Zs i' j with z | z
      ·exact hm i' z
      ·rw[show i'=j by lia];lia⟩⟩)
theorem RD(a d:Value):argsOk "max" ⟨[a],[(Str.ofString "default",d)]⟩:=by unfold argsOk;kernel_rfl
theorem NJ {prog:Program} {w:World} {A:Around} {E:Value->Shared->Prop} {s:Shared} {l:Addr} {xs:Array (Int × Tok)} {d0:Value} {Q:Value->Shared->Prop} (hh:A.handled=none) (hl:s.heap.IsList l (intItems xs))
 (h:∀v h' tk,((xs.size=0/\v=d0)\/∃i,i < xs.size/\(intItems xs)[i]? = some v/\∀i',i' < xs.size->numAt xs i'<=numAt xs i)->(∀b o,s.heap.get? b=some o->h'.get? b=some o)->Q v { s with heap:=h',toks:=tk }) :
 wpAny (model prog w) A (call (.builtin "max") [.ref l] [(Str.ofString "default",d0)]) Q E s:=by
 refine kmk_tree F.kind_max F.plain_max F.entry_max (RD _ _) (by
  show wpAny _ _ (Builtin.Builtins.bindParams "max" ["key","default"] 0 ⟨[],[(Str.ofString "default",d0)]⟩ >>= _) _ _ s;refine ZA (wpAny_of_eq (show Builtin.Builtins.bindParams "max" ["key","default"] 0 ⟨[],[(Str.ofString "default",d0)]⟩=pure [none,some d0] from rfl) (ZA (ZB (ZA (iter_intList hl fun s2 e st hfp hlI=>?_)))));subst e;have W:=Walks.list (prog:=prog) (w:=w) (A:=A.in1) hh s.heap.objs.size l hlI (intItems xs);refine ZA (Zk ?_);have sz:(intItems xs).size=xs.size:=by simp[intItems]
  refine ZB ⟨by rfl,Nv W (numAt xs) (fun _ _ z=>intItems_at z) (S:=(s.heap.push { cls:=.type "list_iterator",data:=.fields #[.ref l,.int 0 0] }).objs.size) (fun hm=>ZZ _ (hfp _ hm)) _ 0 _ #[] _ rfl (ZU _) (W.frame _ _ _ st fun b _ o e=>ZJ _ e) (ZR _ rfl) (.inl ⟨rfl,rfl⟩) fun v h' tk hv hk=>?_⟩;refine h v h' tk ?_ (old_kept (l:=l) fun b o hb e=>hk b o hb (ZQ (ZI e)) (ZJ _ e));rw[sz]at hv;exact hv)
section
variable {X:Cx}{K:W.Frag}{e:Expr}{te:TE}{p pos kpos cp:Pos}{kd:Nat}{i:Int}
def Mi(K:W.Frag)(i:Int)(te:TE):TE:=fun σ H Q=>te σ H fun x H1=>∃l ns,x=.ref l/\SqL K H1 l (ns.map V.int)/\∀M:Int,(ns=[]->M=i)->(ns≠[]->M∈ns/\∀a∈ns,a<=M)->Q (.int M) H1
theorem Od(h:AZ te):AZ (Mi K i te):=fun σ H Q Q' j q=>h _ _ _ _ (fun x H1 ⟨l,ns,h1,h2,q⟩=>⟨l,ns,h1,h2,fun M a b=>j _ _ (q M a b)⟩) q
theorem KQ (he:PE X e te) (hm:X.mg "max" = none) (hc:X.calm=true) (hg:Gl X "max":=by rfl) (hK:X.K=K:=by rfl)
 (hst:starEach [e] X.env=(false,eval e X.env)::starEach [] X.env:=by rfl) :
 PE X (.Call (.Name "max" p) [e] [⟨some "default",.Constant (.int i) kd cp,kpos⟩] pos) (Mi K i te):=by
 intro pins s σ H Q I h;subst hK;refine wpAny_Call_Name_kw (DA I hg hm (show bootBuiltins "max" = some (.builtin "max") by kernel_rfl) ?_);refine callWith_kw (e:=e) (rest:=[]) (id:="max") ?_ (by rw[hst];rfl) (by rw[hst];rfl);refine thn ((AA he AB hst) pos pins s σ H (fun vs H1=>match vs with | [x]=>(∃l ns,x=.ref l/\SqL X.K H1 l (ns.map V.int)/\∀M:Int,(ns=[]->M=i)->(ns≠[]->M∈ns/\∀a∈ns,a<=M)->Q (.int M) H1) | _=>False) I h) fun us s1 ⟨vs,H1,I1,r1,q1⟩=>?_
 match vs,r1,q1 with
 | [_],.cons rx .nil,⟨l,ns,ex,hl,q⟩ =>
 subst ex;cases rx;show wpAny _ _ (evalAll ((do let v <- eval (.Constant (.int i) kd cp) X.env;standAt pos;pure v)::[])) _ _ s1;refine wpAny_evalAll_cons (ZA (wpAny_Constant_int (ZA (wpAny_standAt (ZB (wpAny_evalAll_nil ?_))))));obtain⟨its,rv,pl,hz⟩:=I1.list hl;have hi:IntsAre its ns:=by simpa using EM rv
 obtain⟨zs,hzs⟩:=(hi.allInts).items;have pl':=pl.isList;rw[hzs]at pl'
 have hns:ns=zs.toList.map (·.1):=by
  rw[<- hi.numsOf,<- nums_intItems,<- hzs]
 have hlen:ns.length=zs.size:=by rw[hns,ZC,Zf]
 have hnum:∀j,j < zs.size->∃z,ns[j]? = some z/\numAt zs j=z:=fun j hj=>by
  rw[hns];exact⟨zs[j].1,by simp[hj],by simp[numAt,hj]⟩
 refine NJ (I1.ok.hd hc) pl' fun v h' tk hv hk=>?_
 rcases hv with ⟨z,rfl⟩ | ⟨j,hj,ev,hm⟩
 ·have:ns=[]:=ZBl.mp (by lia)
  exact⟨.int i,H1,I1.kept (t':=tk) hk,⟨_,rfl⟩,q i (fun _=>rfl) (fun y=>absurd this y)⟩
 ·obtain⟨t,rfl⟩:=intItems_at ev;obtain⟨z,ez,e2⟩:=hnum j hj;refine⟨.int (numAt zs j),H1,I1.kept (t':=tk) hk,⟨_,rfl⟩,q _ (fun y=>?_) fun _=>⟨?_,fun a ha=>?_⟩⟩
  ·rw[y]at hlen;simp at hlen;lia
  ·rw[e2];exact Zw ez
  ·obtain⟨j',hj'⟩:=List.getElem?_of_mem ha;have hlt:j' < zs.size:=by rw[<- hlen];exact(Zb.mp hj').1
   obtain⟨z',ez',e2'⟩:=hnum j' hlt;rw[hj']at ez';cases ez';rw[<- e2'];exact hm j' hlt
end
end L2
namespace L2
open PySem PyProof.Rows
section
variable {X:Cx}{K:W.Frag}{o e:Expr}{to:TE}{t:TA}{apos cpos:Pos}
end
theorem NN {d:Addr} {o:Obj} {kvs:List (Key × V)} {g:TG} {tc:TT} {te:TE} {σc:St} {Q:VK} {H:Hp} (Pv:Nat->List V->Hp->Prop) (h0:Pv 0 [] H) (hl:∀i ys H,i<=kvs.length->Pv i ys H->H d=some (.frz o (.dK kvs))) (hz:∀i ys H,i < kvs.length->Pv i ys H->ys.length < sizeLine)
 (hs:∀i r p ys H,kvs[i]? = some r->Pv i ys H->H p=none->g (.ref p) σc (upd H p (.tup [kV r.1,r.2])) fun σ2 H2=>tc σ2 H2 fun b H3=>if b=true then te σ2 H3 fun y H4=>Pv (i+1) (ys++[y]) H4 else Pv (i+1) ys H3)
 (hd:∀ys H,Pv kvs.length ys H->∀p,H p=none->Q (.ref p) (upd H p (.lst ys))):C3 (Itm d o) g tc te σc Q H:=by
 refine⟨fun i m ys H=>m=kvs.length - i/\i<=kvs.length/\Pv i ys H,⟨kvs.length,by simp,ZU _,h0⟩,?_⟩;rintro i m ys H ⟨rfl,hi,p⟩;have q:=hl i ys H hi p
 by_cases hlt:i < kvs.length
 ·refine .inr ⟨⟨kvs,kvs[i],q,by simp[hlt]⟩,hz i ys H hlt p,Pv (i+1),fun ys' H' p'=>⟨kvs.length - (i+1),by lia,rfl,hlt,p'⟩,fun x H' y=>?_⟩;obtain⟨pp,kvs',r,e1,e2,e3,rfl,rfl⟩:=y;rw[q]at e1;cases e1;exact hs i r pp ys H e2 p e3
 ·have e:i=kvs.length:=by lia
  subst e;exact .inl ⟨⟨kvs,q,ZD _⟩,hd ys H p⟩
end L2
namespace L2
open PySem PySem.Spec PyProof.Rows
section
variable {X:Cx}{K:W.Frag}{e:Expr}{te:TE}{lo hi:Option Expr}{tl th:TO}{pos p2:Pos}
def Jm:V->Option Int->Option Int->Hp->VK->Prop:=fun x lo hi H Q=>match x with
 | .ref a=>∃xs,H a=some (.tup xs)/\∀p H',Same H H'->H' p=some (.tup (A1 xs lo hi))->Q (.ref p) H'
 | _=>False
theorem Sc:SlR X Jm:=by
 intro pins s σ H x v vl vu lo hi sl Q I rx hs pl pu q;cases x with
 | ref a =>
  obtain⟨xs,hx,q⟩:=q
  by_cases hw:HT.sIx xs.length 0 lo=0/\HT.sIx xs.length xs.length hi=xs.length
  ·cases rx;obtain⟨its,r,ht,hz⟩:=I.tuple (SqT.of (K:=X.K) hx);have hlen:its.toArray.size=xs.length:=by rw[ZL,<- r.length]
   refine⟨"tuple",_,PyProof.Rows.slot_tuple_getitem.lookup,ht.typeIs,HT.getItem_tuple_whole ht hs pl pu (hlen ▸ hw) ⟨.ref a,H,I,rfl,q a H (fun _ _ h=>h) ?_⟩⟩
   have:A1 xs lo hi=xs:=by
    unfold A1;rw[hw.1,hw.2,List.drop_zero,ZBH (by lia)]
   rw[this,hx]
  ·exact GN pins s σ H _ v vl vu lo hi sl Q I rx hs pl pu ⟨a,xs,rfl,.of hx,hw,fun p hp=>q p _ (Same.upd hp) AD⟩
 | _=>exact q.elim
theorem Ej(he:PE X e te)(hl:PO X lo tl)(hu:PO X hi th):PE X (.Subscript e (.Slice lo hi none p2) pos) (tSl Jm te tl th):=Ib Sc he hl hu
def QF:R2:=fun x y H Q=>match x,y with
 | .int i,.int j=>Q (.int (i+j)) H
 | .ref a,.ref b=>E9 (.ref a) (.ref b) H Q\/∃xs ys,H a=some (.tup xs)/\H b=some (.tup ys)/\xs.length+ys.length<=sizeLine/\∀p H',Same H H'->H' p=some (.tup (xs++ys))->Q (.ref p) H'
 | _,_=>False
theorem Fu:OpR X (binaryOp .Add) QF:=by
 intro pins s σ H x y v u Q I rx ry q
 cases x <;> cases y <;> first
  | exact q.elim
  | exact Gg pins s σ H _ _ v u Q I rx ry ⟨_,_,rfl,rfl,q⟩
  | skip
 rename_i a b
 rcases q with q | ⟨xs,ys,ha,hb,hz,q⟩
 ·exact Hk pins s σ H _ _ v u Q I rx ry q
 have sa:SqT X.K H a xs:=.of ha;have sb:SqT X.K H b ys:=.of hb
 by_cases hx:xs=[]
 ·subst hx;cases rx;cases ry;obtain⟨its,r1,p1,_⟩:=I.tuple sa;obtain⟨its2,r2,p2,_⟩:=I.tuple sb;cases r1;exact HT.cat_none p1 p2 ⟨.ref b,H,I,rfl,q b H (fun _ _ h=>h) hb⟩
 ·exact Iv pins s σ H _ _ v u Q I rx ry ⟨a,b,xs,ys,rfl,rfl,sa,sb,hx,hz,fun e=>q a H (fun _ _ h=>h) (by rw[e,Z4];exact ha),fun _ p hp=>q p _ (Same.upd hp) AD⟩
def FQ:V->List V->Hp->VK->Prop:=fun x vs H Q=>match x,vs with
 | .ref l,[]=>∃xs y,H l=some (.lst (xs++[y]))/\Q y (upd H l (.lst xs))
 | _,_=>False
theorem Ng:MtR X "list.pop" FQ:=by
 intro pins s σ H x vs v us Q I rx rv q
 match x,vs,q with
 | .ref l,[],⟨xs,y,h1,q⟩ =>
 exact NQ pins s σ H _ _ v us Q I rx rv ⟨l,_,y,rfl,rfl,h1,by rw[ZG,ZBA (by simp)];simp,by rw[List.dropLast_concat];exact q⟩
theorem OJ{o:Expr}{to:TE}{apos cpos:Pos}(ho:PE X o to)(hbase:attributeBase o "pop" X.env (eval o X.env)=eval o X.env:=by rfl)(hline:(apos.endLine == cpos.line)=true:=by rfl)(hK:X.K=K:=by rfl) :
 PE X (.Call (.Attribute o "pop" apos) [] [] cpos) (Ga K "list" FQ to):=hK ▸ P6 PySem.F.plainAttrs_list PySem.F.slot_list_pop PySem.F.type_list_pop Ng ho hbase hline
theorem Ni:EO FQ:=fun x xs H Q Q' h q=>by
 unfold FQ at *;split at q
 ·obtain⟨ys,y,a,q⟩:=q;exact⟨ys,y,a,h _ _ q⟩
 ·exact q.elim
end
end L2
namespace L2
open PySem
section
variable {X:Cx}{pins:List (Addr × Obj)}{σ:St}{H:Hp}{s:Shared}{a:Addr}
variable {kvs:List (Key × V)}{i:Expr}{pos pos' apos:Pos}{ty:TE}{x:Str}{P:Program}{w:World}{K:W.Frag}{o:Expr}{td:TE}
end
end L2
namespace L2
open PySem Builtin Builtin.Str
section
variable {X:Cx}{a:Addr}{kvs:List (Key × V)}{o e:Expr}{ty to:TE}{t:TA}{apos cpos:Pos}{P:Program}{w:World}{K:W.Frag}
end
end L2
namespace L2
open PySem PyProof.Rows
section
variable {prog:Program}{w:World}{A:Around}{E:Value->Shared->Prop}{s:Shared}
structure Cmp(prog:Program)(w:World)(A:Around)(E:Value->Shared->Prop)(s:Shared)(kd:SortKind)(El:Keyed->Prop)(κ:Keyed->Int):Prop where
 lt:∀(x y:Keyed) (st:SortSt) (Q:Option Bool->SortSt->Prop),El x->El y->kindOf st=kd->Q (some (decide (κ x < κ y))) st->wpS (model prog w) A E s (lt' x y) Q st
variable {kd:SortKind}{El:Keyed->Prop}{κ:Keyed->Int}
end
section
variable {κ:Keyed->Int}
def Srt(κ:Keyed->Int)(l:List Keyed):Prop:=l.Pairwise fun x y=>κ x<=κ y
structure Mg(κ:Keyed->Int)(la lb o:List Keyed)(i j:Nat):Prop where
 il:i<=la.length
 jl:j<=lb.length
 perm:(o++(la.drop i++lb.drop j)).Perm (la++lb)
 srt:Srt κ o
 le:∀x∈o,∀y∈la.drop i++lb.drop j,κ x<=κ y
variable {la lb o:List Keyed}{i j n:Nat}
theorem Fk{a b:List Keyed}(h1:Srt κ a)(h2:Srt κ b)(h:∀x∈a,∀y∈b,κ x<=κ y):Srt κ (a++b):=ZBj.mpr ⟨h1,h2,h⟩
theorem Mg.a(m:Mg κ la lb o i j)(ha:Srt κ la)(hn:i+n<=la.length)(h:∀x∈(la.drop i).take n,∀y∈lb.drop j,κ x<=κ y):Mg κ la lb (o++(la.drop i).take n) (i+n) j:=by
 have hd:la.drop i=(la.drop i).take n++la.drop (i+n):=by
  rw[<- List.drop_drop,ZBh]
 have hs:Srt κ (la.drop i):=ZBr (List.drop_sublist _ _) ha;have hs2:=hs;rw[hd]at hs2;obtain⟨s1,s2,s3⟩:=ZBj.mp hs2;refine⟨hn,m.jl,?_,Fk m.srt s1 fun x hx y hy=>m.le x hx y (Z1 _ (ZBW hy)),fun x hx y hy=>?_⟩
 ·have:=m.perm
  rw[hd]at this;rw[Z3];rw[Z3]at this;exact this
 ·rcases ZH.mp hx with hx | hx
  ·refine m.le x hx y ?_
   rcases ZH.mp hy with hy | hy
   ·rw[hd];exact Z1 _ (Zh _ hy)
   ·exact Zh _ hy
  ·rcases ZH.mp hy with hy | hy
   ·exact s3 x hx y hy
   ·exact h x hx y hy
theorem Mg.b(m:Mg κ la lb o i j)(hb:Srt κ lb)(hn:j+n<=lb.length)(h:∀x∈(lb.drop j).take n,∀y∈la.drop i,κ x<=κ y):Mg κ la lb (o++(lb.drop j).take n) i (j+n):=by
 have hd:lb.drop j=(lb.drop j).take n++lb.drop (j+n):=by
  rw[<- List.drop_drop,ZBh]
 have hs2:Srt κ (lb.drop j):=ZBr (List.drop_sublist _ _) hb;rw[hd]at hs2;obtain⟨s1,s2,s3⟩:=ZBj.mp hs2;refine⟨m.il,hn,?_,Fk m.srt s1 fun x hx y hy=>m.le x hx y (Zh _ (ZBW hy)),fun x hx y hy=>?_⟩
 ·have h1:=m.perm;rw[hd]at h1;refine List.Perm.trans ?_ h1;rw[Z3];refine List.Perm.append_left _ ?_;rw[<- Z3,<- Z3];exact List.Perm.append_right _ List.perm_append_comm
 ·rcases ZH.mp hx with hx | hx
  ·refine m.le x hx y ?_
   rcases ZH.mp hy with hy | hy
   ·exact Z1 _ hy
   ·rw[hd];exact Zh _ (Zh _ hy)
  ·rcases ZH.mp hy with hy | hy
   ·exact h x hx y hy
   ·exact s3 x hx y hy
end
structure Sg(st st':SortSt):Prop where
 k:kindOf st'=kindOf st
 a:arrOf st'=arrOf st
 p:pendingOf st'=pendingOf st
 f:failedOf st'=failedOf st
theorem Sg.trans{a b c:SortSt}(x:Sg a b)(y:Sg b c):Sg a c:=⟨y.k.trans x.k,y.a.trans x.a,y.p.trans x.p,y.f.trans x.f⟩
section
variable {prog:Program}{w:World}{A:Around}{E:Value->Shared->Prop}{s:Shared}{kd:SortKind}{El:Keyed->Prop}{κ:Keyed->Int}
theorem JM{M:Model}{α:Type}{m:StateT SortSt Sem α}{R:α->SortSt->Prop}{st:SortSt}{φ:Type}(P:φ->(α->SortSt->Prop)->SortSt->Prop)(Z:φ)(h1:P Z R st->wpS M A E s m R st)(h2:P Z R st):wpS M A E s m R st:=h1 h2
end
section
variable {κ:Keyed->Int}
structure Hg(κ:Keyed->Int)(la lb o:List Keyed)(na nb:Nat):Prop where
 il:na<=la.length
 jl:nb<=lb.length
 perm:(la.take na++lb.take nb++o.reverse).Perm (la++lb)
 srt:Srt κ o.reverse
 le:∀y∈la.take na++lb.take nb,∀x∈o,κ y<=κ x
variable {la lb o:List Keyed}{na nb n:Nat}
theorem MZ{l:List Keyed}(h:n<=na):l.take na=l.take n++(l.take na).drop n:=by
 have:=ZBh n (l.take na)
 rw[List.take_take,Nat.min_eq_left h]at this;exact this.symm
theorem Hg.a(m:Hg κ la lb o na nb)(ha:Srt κ la)(hn:n<=na)(h:∀x∈(la.take na).drop n,∀y∈lb.take nb,κ y<=κ x):Hg κ la lb (o++((la.take na).drop n).reverse) n nb:=by
 have hd:=MZ (l:=la) hn;have hs2:Srt κ (la.take na):=ZBr (List.take_sublist _ _) ha;rw[hd]at hs2;obtain⟨s1,s2,s3⟩:=ZBj.mp hs2;have ml:=m.le;have mp:=m.perm;generalize (la.take na).drop n=D at *;rw[hd]at ml mp;refine⟨ZP hn m.il,m.jl,?_,?_,fun y hy x hx=>?_⟩
 ·rw[ZCB,ZCC];refine List.Perm.trans ?_ mp;rw[<- Z3];refine List.Perm.append_right _ ?_;rw[Z3,Z3];exact List.Perm.append_left _ List.perm_append_comm
 ·rw[ZCB,ZCC];exact Fk s2 m.srt fun x hx y hy=>ml x (by simp[hx]) y (ZBX.mp hy)
 ·rcases ZH.mp hx with hx | hx
  ·refine ml y ?_ x hx
   rcases ZH.mp hy with hy | hy
   ·simp[hy]
   ·simp[hy]
  ·replace hx:=ZBX.mp hx
   rcases ZH.mp hy with hy | hy
   ·exact s3 y hy x hx
   ·exact h x hx y hy
theorem Hg.b(m:Hg κ la lb o na nb)(hb:Srt κ lb)(hn:n<=nb)(h:∀x∈(lb.take nb).drop n,∀y∈la.take na,κ y<=κ x):Hg κ la lb (o++((lb.take nb).drop n).reverse) na n:=by
 have hd:=MZ (l:=lb) hn;have hs2:Srt κ (lb.take nb):=ZBr (List.take_sublist _ _) hb;rw[hd]at hs2;obtain⟨s1,s2,s3⟩:=ZBj.mp hs2;have ml:=m.le;have mp:=m.perm;generalize (lb.take nb).drop n=D at *;rw[hd]at ml mp;refine⟨m.il,ZP hn m.jl,?_,?_,fun y hy x hx=>?_⟩
 ·rw[ZCB,ZCC];simpa [Z3] using mp
 ·rw[ZCB,ZCC];exact Fk s2 m.srt fun x hx y hy=>ml x (by simp[hx]) y (ZBX.mp hy)
 ·rcases ZH.mp hx with hx | hx
  ·refine ml y ?_ x hx
   rcases ZH.mp hy with hy | hy
   ·simp[hy]
   ·simp[hy]
  ·replace hx:=ZBX.mp hx
   rcases ZH.mp hy with hy | hy
   ·exact h x hx y hy
   ·exact s3 y hy x hx
end
section
variable {prog:Program}{w:World}{A:Around}{E:Value->Shared->Prop}{s:Shared}{kd:SortKind}{El:Keyed->Prop}{κ:Keyed->Int}
end
section
variable {prog:Program}{w:World}{A:Around}{E:Value->Shared->Prop}{s:Shared}{kd:SortKind}{El:Keyed->Prop}{κ:Keyed->Int}
end
section
variable {prog:Program}{w:World}{A:Around}{E:Value->Shared->Prop}{s:Shared}{kd:SortKind}{El:Keyed->Prop}{κ:Keyed->Int}
def Kf(κ:Keyed->Int)(xs:Array Keyed)(i:Nat):Int:=match xs[i]? with
 | some p=>κ p
 | none=>0
structure Bs(kd:SortKind)(a₀:Array Keyed)(lo:Nat)(pe:Array (Nat × Nat × Nat))(st:SortSt):Prop where
 perm:(arrOf st).Perm a₀
 kind:kindOf st=kd
 failed:failedOf st=none
 pend:pendingOf st=pe
 low:∀i,i < lo->(arrOf st)[i]? = a₀[i]?
variable {a₀:Array Keyed}{lo:Nat}{pe:Array (Nat × Nat × Nat)}
theorem Bs.size{st:SortSt}(h:Bs kd a₀ lo pe st):(arrOf st).size=a₀.size:=h.perm.size_eq
theorem Bs.at{st:SortSt}(h:Bs kd a₀ lo pe st)(h0:∀x∈a₀.toList,El x){i:Nat}(hi:i < a₀.size):∃x,(arrOf st)[i]? = some x/\El x/\Kf κ (arrOf st) i=κ x:=by
 have hi':i < (arrOf st).size:=by rw[h.size];exact hi
 have hm:(arrOf st)[i]∈a₀.toList:=(Array.perm_iff_toList_perm.mp h.perm).mem_iff.mp (by simp);have e:(arrOf st)[i]? = some (arrOf st)[i]:=getElem?_pos _ i hi';exact⟨_,e,h0 _ hm,by unfold Kf;rw[e]⟩
end
section
variable {prog:Program}{w:World}{A:Around}{E:Value->Shared->Prop}{s:Shared}{kd:SortKind}{El:Keyed->Prop}{κ:Keyed->Int}{a₀:Array Keyed}
structure Dn(kd:SortKind)(κ:Keyed->Int)(a₀:Array Keyed)(st:SortSt):Prop where
 perm:(arrOf st).toList.Perm a₀.toList
 kind:kindOf st=kd
 failed:failedOf st=none
 pend:(pendingOf st).size<=1
 srt:Srt κ (arrOf st).toList
structure Tw(kd:SortKind)(κ:Keyed->Int)(a₀:Array Keyed)(n1 n2 pw:Nat)(st:SortSt):Prop where
 perm:(arrOf st).toList.Perm a₀.toList
 kind:kindOf st=kd
 failed:failedOf st=none
 pend:pendingOf st = #[(0,n1,pw),(n1,n2,0)]
 l1:0 < n1
 l2:0 < n2
 len:n1+n2=a₀.size
 s1:Srt κ ((arrOf st).toList.take n1)
 s2:Srt κ ((arrOf st).toList.drop n1)
end
section
variable {prog:Program}{w:World}{A:Around}{E:Value->Shared->Prop}{s:Shared}
end
end L2
namespace L2
open PySem PySem.Spec PyProof.Rows PySem.W
section
variable {P:Program}{w:World}{A:Around}{E:Value->Shared->Prop}{s:Shared}{a:Addr}
end
section
variable {X:Cx}{K:W.Frag}{P:Program}{w:World}
end
end L2
namespace L2
open PySem PySem.Spec PyProof.Rows PySem.W PySem.Calls
section
variable {P:Program}{w:World}{A:Around}{E:Value->Shared->Prop}{s:Shared}
def PairV(h:Heap)(v:Value)(k:Int):Prop:=∃a t y o n,v=.ref a/\h.get? a=some o/\o.cls=.type "tuple" /\ o.data=.seq #[.int k t,y] n
theorem PairV.keep{h h':Heap}{v:Value}{k:Int}(p:PairV h v k)(e:∀b o,o.cls=.type "tuple" -> h.get? b=some o->h'.get? b=some o):PairV h' v k:=by
 obtain⟨a,t,u,o,n,rfl,ha,hc,hd⟩:=p;exact⟨a,t,u,o,n,rfl,e _ _ hc ha,hc,hd⟩
end
end L2
namespace L2
open PySem PySem.Spec PyProof.Rows PySem.W
section
variable {P:Program}{w:World}{A:Around}{E:Value->Shared->Prop}{s:Shared}
end
section
variable {X:Cx}
end
section
variable {X:Cx}
end
section
variable {X:Cx}
end
end L2
namespace L2
open PySem PyProof.Rows
section
variable {prog:Program}{w:World}{A:Around}{E:Value->Shared->Prop}{s:Shared}
end
section
variable {prog:Program}{w:World}{K:Type}[DecidableEq K]{knd:KeyKind prog w K}{A:Around}{R:Result->Shared->Prop}
end
section
variable {prog:Program}{w:World}{K:Type}[DecidableEq K]{knd:KeyKind prog w K}{A:Around}{E:Value->Shared->Prop}{s:Shared}
end
section
variable {X:Cx}
end
end L2
namespace L2
open PySem PySem.Spec PyProof.Rows
section
variable {P:Program}{w:World}{A:Around}{E:Value->Shared->Prop}{s:Shared}{a:Addr}
end
section
variable {X:Cx}{K:W.Frag}{P:Program}{w:World}
end
section
variable {X:Cx}{K:W.Frag}{e sx:Expr}{te ts:TE}{pos p2:Pos}
end
section
variable {X:Cx}
end
end L2
namespace L2
end L2
namespace Mine
open PySem L2
def top(i:Nat):Stmt:=PySem.Challenge.pw_flips_k44_hard_papers_judged.main.body.getD i (.Pass ⟨0,0,0,0⟩)
abbrev Gj:Stmt:=top 1
abbrev Iw:Stmt:=top 2
abbrev GD:Stmt:=top 3
abbrev HP:Stmt:=top 4
abbrev Iz:Stmt:=top 6
abbrev Ge:Stmt:=top 7
abbrev JV:Stmt:=top 9
abbrev JK:Stmt:=top 11
abbrev Ht:Stmt:=top 12
abbrev IQ:Stmt:=top 13
abbrev HU:Stmt:=EF (top 14) 0
abbrev Hr:Stmt:=EF (top 14) 1
abbrev I0:Stmt:=EF (top 14) 2
abbrev IT:Stmt:=EF (top 14) 3
abbrev JQ:Stmt:=EF (top 14) 4
abbrev GP:Stmt:=top 16
abbrev IC:Stmt:=top 17
abbrev IK:Stmt:=top 18
abbrev Gb:Stmt:=top 19
abbrev He:Stmt:=top 20
abbrev Ho:Stmt:=top 21
abbrev Hm:Stmt:=top 22
abbrev JP:Stmt:=top 23
abbrev G5:Stmt:=top 24
abbrev JW:Stmt:=top 25
abbrev Ig:Stmt:=top 26
abbrev Hj:Stmt:=top 27
abbrev Fv:Stmt:=top 28
abbrev HV:Stmt:=top 29
abbrev Iu:Stmt:=top 30
abbrev IP:Stmt:=top 31
abbrev Io:Stmt:=top 32
abbrev GW:Stmt:=top 33
abbrev II:Stmt:=top 34
abbrev JR:Stmt:=top 35
abbrev G9:Stmt:=top 36
abbrev Gn:Stmt:=top 37
abbrev Cd:Stmt:=top 38
local macro_rules | `(tactic| walk_at "f")=>`(tactic| exact⟨rfl,rfl,rfl,by decide +kernel,rfl,by decide +kernel,by decide +kernel⟩)
theorem Pi:FnScope ["thing"] ["thing"] (AU Gj):=by walk_at "f"
theorem Rq:FnScope ["bound","thing"] ["bound","thing"] (AU Iw):=by walk_at "f"
theorem Nn:FnScope ["n"] ["n"] (AU GD):=by walk_at "f"
theorem sc_z44:FnScope ["base","times","power","step"] ["base","times"] (AU HP):=by walk_at "f"
theorem SK:FnScope ["subset","other"] ["subset","other"] (AU Iz):=by walk_at "f"
theorem Sf:FnScope ["members"] ["members"] (AU Ge):=by walk_at "f"
theorem RT:FnScope ["thing"] ["thing"] (AU JV):=by walk_at "f"
theorem Ov:FnScope ["game","d","thing"] ["game","d","thing"] (AU JK):=by walk_at "f"
theorem Om:FnScope ["game","thing"] ["game","thing"] (AU Ht):=by walk_at "f"
theorem sc_z26:FnScope ["many","thing","last","each"] ["many","thing"] (AU IQ):=by walk_at "f"
theorem sc_z20:FnScope ["self","game","entries","entry","things"] ["self","game","entries"] (AU HU):=by walk_at "f"
theorem sc_z14:FnScope ["self","things","number"] ["self"] (AU Hr):=by walk_at "f"
theorem sc_z17:FnScope ["self","things","number","yes","left_by_yes"] ["self","things","number","yes"] (AU I0):=by walk_at "f"
theorem Nc:FnScope ["self","things","number"] ["self","things","number"] (AU IT):=by walk_at "f"
theorem sc_z12:FnScope ["self","things","inside"] ["self","things"] (AU JQ):=by walk_at "f"
theorem Sv:FnScope ["_law_script"] ["_law_script"] (AU GP):=by walk_at "f"
theorem sc_z35:FnScope ["_law_feed_here","_law_many","_law_turn","_law_cell","_law_mixed","_law_digit"] ["_law_feed_here","_law_many"] (AU IC):=by walk_at "f"
theorem sc_z30:FnScope ["_law_feed_here","_law_n","_law_many","_law_way","_law_place","_law_one","_law_answer"] ["_law_feed_here","_law_n"] (AU IK):=by walk_at "f"
theorem sc_z16:FnScope ["_law_table_here","_law_rows","_law_many"] ["_law_table_here"] (AU Gb):=by walk_at "f"
theorem sc_z29:FnScope ["_law_feed_here","_law_n","_law_many","_law_tables","_law_at","_law_k","_law_table_here"] ["_law_feed_here","_law_n","_law_many"] (AU He):=by walk_at "f"
theorem sc_z18:FnScope ["_law_tables","_law_rows"] ["_law_tables"] (AU Ho):=by walk_at "f"
theorem sc_z27:FnScope ["_law_feed_here","_law_many","_law_first","_law_labels","_law_rows"] ["_law_feed_here"] (AU Hm):=by walk_at "f"
theorem sc_z21:FnScope ["_law_feed_here","_law_many","_law_width","_law_names","_law_labels","_law_rows","_law_k"] ["_law_feed_here"] (AU JP):=by walk_at "f"
theorem sc_z41:FnScope ["_law_feed_here","_law_way"] ["_law_feed_here"] (AU G5):=by walk_at "f"
theorem sc_z34:FnScope ["_law_game_here","_law_answers","_law_one","_law_other"] ["_law_game_here"] (AU JW):=by walk_at "f"
theorem sc_z23:FnScope ["_law_game_here","_law_labels","_law_pair_here"] ["_law_game_here"] (AU Ig):=by walk_at "f"
theorem sc_z33:FnScope ["_law_game_here","_law_things","_law_question","_law_row"] ["_law_game_here","_law_things","_law_question"] (AU Hj):=by walk_at "f"
theorem sc_z37:FnScope ["_law_game_here","_law_things","_law_known","_law_least","_law_question","_law_sides_here"] ["_law_game_here","_law_things","_law_known"] (AU Fv):=by walk_at "f"
theorem sc_z39:FnScope ["_law_feed_here","_law_thing","_law_at","_law_way"] ["_law_feed_here","_law_thing"] (AU HV):=by walk_at "f"
theorem TM:FnScope ["_law_thing"] ["_law_thing"] (AU Iu):=by walk_at "f"
theorem sc_z19:FnScope ["_law_game_here","_law_thing","_law_k"] ["_law_game_here","_law_thing"] (AU IP):=by walk_at "f"
theorem sc_z25:FnScope ["_law_game_here","_law_paper_here","_law_things","_law_number","_law_question","_law_side","_law_others","_law_more"] ["_law_game_here","_law_paper_here","_law_things","_law_number","_law_question"] (AU Io):=by walk_at "f"
theorem sc_z38:FnScope ["_law_game_here","_law_d","_law_paper_here","_law_entry","_law_things","_law_number","_law_question"] ["_law_game_here","_law_d","_law_paper_here"] (AU GW):=by walk_at "f"
theorem sc_z31:FnScope ["_law_feed_here","_law_game_here","_law_things","_law_number","_law_known","_law_k","_law_at"] ["_law_feed_here","_law_game_here","_law_things","_law_number","_law_known"] (AU II):=by walk_at "f"
theorem sc_z28:FnScope ["_law_feed_here","_law_game_here","_law_things","_law_number","_law_known","_law_entries","_law_pile","_law_entry","_law_question","_law_some","_law_side"] ["_law_feed_here","_law_game_here","_law_things","_law_number","_law_known"] (AU JR):=by walk_at "f"
theorem sc_z22:FnScope ["_law_feed_here","_law_game_here","_law_paper_here","_law_at","_law_things","_law_number","_law_way","_law_one","_law_other"] ["_law_feed_here","_law_game_here","_law_paper_here"] (AU G9):=by walk_at "f"
theorem sc_z32:FnScope ["_law_game_here","_law_d","_law_thing","_law_handed","_law_found"] ["_law_game_here","_law_d","_law_thing"] (AU Gn):=by walk_at "f"
theorem sc_law:FnScope ["_law_script","_law_feed_here","_law_k","_law_game_here","_law_things","_law_known","_law_asks","_law_paper_here","_law_some","_law_turn","_law_thing","_law_d"] ["_law_script"] (AU Cd):=by walk_at "f"
set_option genInjectivity false
set_option genSizeOf false
structure Txt(K:W.Frag)(mg:Str->Option Value) where
 C_Bearing:Addr
 mC_Bearing:mg "Bearing" = some (.ref C_Bearing)
 cl_Bearing:Cls K C_Bearing
 na_Bearing_yeses:NoAttr K C_Bearing "yeses"
 na_Bearing_numbers:NoAttr K C_Bearing "numbers"
 na_Bearing_found:NoAttr K C_Bearing "found"
 f_z43:Addr
 d_z43:FuncData
 F_z43:Fun K "is_whole" "is_whole" Gj f_z43 d_z43
 b_z43:Binds K d_z43 ["thing"] []
 m_z43:mg "is_whole" = some (.ref f_z43)
 f_z45:Addr
 d_z45:FuncData
 F_z45:Fun K "is_below" "is_below" Iw f_z45 d_z45
 b_z45:Binds K d_z45 ["bound","thing"] []
 m_z45:mg "is_below" = some (.ref f_z45)
 f_z48:Addr
 d_z48:FuncData
 F_z48:Fun K "two_to" "two_to" GD f_z48 d_z48
 b_z48:Binds K d_z48 ["n"] []
 m_z48:mg "two_to" = some (.ref f_z48)
 f_z44:Addr
 d_z44:FuncData
 F_z44:Fun K "power_of" "power_of" HP f_z44 d_z44
 b_z44:Binds K d_z44 ["base","times"] []
 m_z44:mg "power_of" = some (.ref f_z44)
 f_z47:Addr
 d_z47:FuncData
 F_z47:Fun K "within" "within" Iz f_z47 d_z47
 b_z47:Binds K d_z47 ["subset","other"] []
 m_z47:mg "within" = some (.ref f_z47)
 f_z24:Addr
 d_z24:FuncData
 F_z24:Fun K "set_holding" "set_holding" Ge f_z24 d_z24
 b_z24:Binds K d_z24 ["members"] []
 m_z24:mg "set_holding" = some (.ref f_z24)
 f_z46:Addr
 d_z46:FuncData
 F_z46:Fun K "is_pair" "is_pair" JV f_z46 d_z46
 b_z46:Binds K d_z46 ["thing"] []
 m_z46:mg "is_pair" = some (.ref f_z46)
 f_z36:Addr
 d_z36:FuncData
 F_z36:Fun K "lets_hard" "lets_hard" JK f_z36 d_z36
 b_z36:Binds K d_z36 ["game","d","thing"] []
 m_z36:mg "lets_hard" = some (.ref f_z36)
 f_z42:Addr
 d_z42:FuncData
 F_z42:Fun K "is_entry" "is_entry" Ht f_z42 d_z42
 b_z42:Binds K d_z42 ["game","thing"] []
 m_z42:mg "is_entry" = some (.ref f_z42)
 f_z26:Addr
 d_z26:FuncData
 F_z26:Fun K "are_things" "are_things" IQ f_z26 d_z26
 b_z26:Binds K d_z26 ["many","thing"] []
 m_z26:mg "are_things" = some (.ref f_z26)
 f_z20:Addr
 d_z20:FuncData
 F_z20:Fun K "__init__" "Bearing.__init__" HU f_z20 d_z20
 b_z20:Binds K d_z20 ["self","game","entries"] []
 me_z20:Meth K C_Bearing "__init__" f_z20
 mk_Bearing:Mk K C_Bearing f_z20
 f_z14:Addr
 d_z14:FuncData
 F_z14:Fun K "bears_all" "Bearing.bears_all" Hr f_z14 d_z14
 b_z14:Binds K d_z14 ["self"] []
 me_z14:Meth K C_Bearing "bears_all" f_z14
 f_z17:Addr
 d_z17:FuncData
 F_z17:Fun K "bears" "Bearing.bears" I0 f_z17 d_z17
 b_z17:Binds K d_z17 ["self","things","number","yes"] []
 me_z17:Meth K C_Bearing "bears" f_z17
 f_z13:Addr
 d_z13:FuncData
 F_z13:Fun K "has_within" "Bearing.has_within" IT f_z13 d_z13
 b_z13:Binds K d_z13 ["self","things","number"] []
 me_z13:Meth K C_Bearing "has_within" f_z13
 f_z12:Addr
 d_z12:FuncData
 F_z12:Fun K "greatest_within" "Bearing.greatest_within" JQ f_z12 d_z12
 b_z12:Binds K d_z12 ["self","things"] []
 me_z12:Meth K C_Bearing "greatest_within" f_z12
 f_z40:Addr
 d_z40:FuncData
 F_z40:Fun K "_law_feed" "_law_feed" GP f_z40 d_z40
 b_z40:Binds K d_z40 ["_law_script"] []
 m_z40:mg "_law_feed" = some (.ref f_z40)
 f_z35:Addr
 d_z35:FuncData
 F_z35:Fun K "_law_draw" "_law_draw" IC f_z35 d_z35
 b_z35:Binds K d_z35 ["_law_feed_here","_law_many"] []
 m_z35:mg "_law_draw" = some (.ref f_z35)
 f_z30:Addr
 d_z30:FuncData
 F_z30:Fun K "_law_table" "_law_table" IK f_z30 d_z30
 b_z30:Binds K d_z30 ["_law_feed_here","_law_n"] []
 m_z30:mg "_law_table" = some (.ref f_z30)
 f_z16:Addr
 d_z16:FuncData
 F_z16:Fun K "_law_table_game" "_law_table_game" Gb f_z16 d_z16
 b_z16:Binds K d_z16 ["_law_table_here"] []
 m_z16:mg "_law_table_game" = some (.ref f_z16)
 f_z29:Addr
 d_z29:FuncData
 F_z29:Fun K "_law_class" "_law_class" He f_z29 d_z29
 b_z29:Binds K d_z29 ["_law_feed_here","_law_n","_law_many"] []
 m_z29:mg "_law_class" = some (.ref f_z29)
 f_z18:Addr
 d_z18:FuncData
 F_z18:Fun K "_law_class_game" "_law_class_game" Ho f_z18 d_z18
 b_z18:Binds K d_z18 ["_law_tables"] []
 m_z18:mg "_law_class_game" = some (.ref f_z18)
 f_z27:Addr
 d_z27:FuncData
 F_z27:Fun K "_law_picks" "_law_picks" Hm f_z27 d_z27
 b_z27:Binds K d_z27 ["_law_feed_here"] []
 m_z27:mg "_law_picks" = some (.ref f_z27)
 f_z21:Addr
 d_z21:FuncData
 F_z21:Fun K "_law_any_game" "_law_any_game" JP f_z21 d_z21
 b_z21:Binds K d_z21 ["_law_feed_here"] []
 m_z21:mg "_law_any_game" = some (.ref f_z21)
 f_z41:Addr
 d_z41:FuncData
 F_z41:Fun K "_law_game" "_law_game" G5 f_z41 d_z41
 b_z41:Binds K d_z41 ["_law_feed_here"] []
 m_z41:mg "_law_game" = some (.ref f_z41)
 f_z34:Addr
 d_z34:FuncData
 F_z34:Fun K "_law_pair" "_law_pair" JW f_z34 d_z34
 b_z34:Binds K d_z34 ["_law_game_here"] []
 m_z34:mg "_law_pair" = some (.ref f_z34)
 f_z23:Addr
 d_z23:FuncData
 F_z23:Fun K "_law_ending" "_law_ending" Ig f_z23 d_z23
 b_z23:Binds K d_z23 ["_law_game_here"] []
 m_z23:mg "_law_ending" = some (.ref f_z23)
 f_z33:Addr
 d_z33:FuncData
 F_z33:Fun K "_law_sides" "_law_sides" Hj f_z33 d_z33
 b_z33:Binds K d_z33 ["_law_game_here","_law_things","_law_question"] []
 m_z33:mg "_law_sides" = some (.ref f_z33)
 f_z37:Addr
 d_z37:FuncData
 F_z37:Fun K "_law_need" "_law_need" Fv f_z37 d_z37
 b_z37:Binds K d_z37 ["_law_game_here","_law_things","_law_known"] []
 m_z37:mg "_law_need" = some (.ref f_z37)
 f_z39:Addr
 d_z39:FuncData
 F_z39:Fun K "_law_bent" "_law_bent" HV f_z39 d_z39
 b_z39:Binds K d_z39 ["_law_feed_here","_law_thing"] []
 m_z39:mg "_law_bent" = some (.ref f_z39)
 f_z15:Addr
 d_z15:FuncData
 F_z15:Fun K "_law_is_whole_one" "_law_is_whole_one" Iu f_z15 d_z15
 b_z15:Binds K d_z15 ["_law_thing"] []
 m_z15:mg "_law_is_whole_one" = some (.ref f_z15)
 f_z19:Addr
 d_z19:FuncData
 F_z19:Fun K "_law_is_row_of" "_law_is_row_of" IP f_z19 d_z19
 b_z19:Binds K d_z19 ["_law_game_here","_law_thing"] []
 m_z19:mg "_law_is_row_of" = some (.ref f_z19)
 f_z25:Addr
 d_z25:FuncData
 F_z25:Fun K "_law_backed" "_law_backed" Io f_z25 d_z25
 b_z25:Binds K d_z25 ["_law_game_here","_law_paper_here","_law_things","_law_number","_law_question"] []
 m_z25:mg "_law_backed" = some (.ref f_z25)
 f_z38:Addr
 d_z38:FuncData
 F_z38:Fun K "_law_hard" "_law_hard" GW f_z38 d_z38
 b_z38:Binds K d_z38 ["_law_game_here","_law_d","_law_paper_here"] []
 m_z38:mg "_law_hard" = some (.ref f_z38)
 f_z31:Addr
 d_z31:FuncData
 F_z31:Fun K "_law_fewer" "_law_fewer" II f_z31 d_z31
 b_z31:Binds K d_z31 ["_law_feed_here","_law_game_here","_law_things","_law_number","_law_known"] []
 m_z31:mg "_law_fewer" = some (.ref f_z31)
 f_z28:Addr
 d_z28:FuncData
 F_z28:Fun K "_law_paper" "_law_paper" JR f_z28 d_z28
 b_z28:Binds K d_z28 ["_law_feed_here","_law_game_here","_law_things","_law_number","_law_known"] []
 m_z28:mg "_law_paper" = some (.ref f_z28)
 f_z22:Addr
 d_z22:FuncData
 F_z22:Fun K "_law_forged" "_law_forged" G9 f_z22 d_z22
 b_z22:Binds K d_z22 ["_law_feed_here","_law_game_here","_law_paper_here"] []
 m_z22:mg "_law_forged" = some (.ref f_z22)
 f_z32:Addr
 d_z32:FuncData
 F_z32:Fun K "_law_right" "_law_right" Gn f_z32 d_z32
 b_z32:Binds K d_z32 ["_law_game_here","_law_d","_law_thing"] []
 m_z32:mg "_law_right" = some (.ref f_z32)
 f_law:Addr
 d_law:FuncData
 F_law:Fun K "law" "law" Cd f_law d_law
 b_law:Binds K d_law ["_law_script"] []
 m_law:mg "law" = some (.ref f_law)
 z_all:mg "all" = none
 z_bool:mg "bool" = none
 z_enumerate:mg "enumerate" = none
 z_int:mg "int" = none
 z_isinstance:mg "isinstance" = none
 z_len:mg "len" = none
 z_list:mg "list" = none
 z_max:mg "max" = none
 z_min:mg "min" = none
 z_range:mg "range" = none
 z_repr:mg "repr" = none
 z_set:mg "set" = none
 z_sorted:mg "sorted" = none
 z_str:mg "str" = none
 z_sum:mg "sum" = none
 z_tuple:mg "tuple" = none
section
variable {P:Program}{w:World}{K:W.Frag}{mg:Str->Option Value}{base:Heap}(T:Txt K mg)
local macro_rules | `(tactic| walk_at "sm")=>`(tactic| repeat' with_reducible first | exact Mz | apply RP | apply OA | apply OB | apply RG | apply SM | apply M0 | apply PM | exact T8 | exact Uc | apply RS | apply Pw | apply SU | apply PX | apply Qx | apply QR | apply UK | apply Td | apply P1 | exact PC | exact Tg | exact UJ | exact QU | exact TL | exact N5 | exact Ph | exact SL | exact ND | exact OY | exact Rw | exact O1 | exact T5 | apply OV | apply PQ | apply QW | apply QL | exact SY | apply PN | exact Pp | exact UY | exact SN | exact Sw | exact Mr | exact Ol | apply Oa | apply OM | apply Nl | apply Rc | exact C4 | apply GF | exact EK | exact O4 | exact QI | exact Pm | exact PL | apply NP | apply Rv | apply Od | apply Up | apply Ta | exact RF | exact OE | apply Oh | exact To | exact Ow | exact Qc | exact NX | exact Nj | apply RY | apply O9 | exact O0 | exact Ni | exact Us | exact Sy | exact N0 | apply NA | exact SB | exact PH | exact N9 | apply T7 | exact Qd | apply RW | assumption)
theorem vw{X:Cx}(i:Nat){x:Str}{pos:Pos}(h:X.N[i]? = some x/\Vis X.env.scope x/\(x == ("__debug__" : Str))=false/\(x == ("__classdict__" : Str))=false):PE X (.Name x pos) (EG i):=vv i h.1 h.2.1 h.2.2.1 h.2.2.2
theorem pa1{X:Cx}{e:PySem.Expr}{te:TE}(ha:PE X e te)(hs:starEach [e] X.env=[(false,eval e X.env)]):PA X [e] (Hw te Ev):=AA ha AB hs
local macro_rules | `(tactic| left)=>`(tactic| exact⟨by rfl,by first | exact Or.inl rfl | exact Or.inr (Or.inl rfl) | exact Or.inr (Or.inr rfl),by decide,by decide⟩)
local macro_rules | `(tactic| walk_at "m")=>`(tactic| with_reducible first | refine Exists.imp fun _=>?_ | refine And.imp_right ?_ | refine forall_imp fun _=>?_)
local macro_rules | `(tactic| walk_at "o")=>`(tactic| first | exact Or.inl rfl | exact Or.inr (Or.inl rfl) | exact Or.inr (Or.inr rfl))
local macro_rules | `(tactic| walk_at "i")=>`(tactic| first | exact .inl rfl | exact .inr rfl | assumption)
local macro_rules | `(tactic| right)=>`(tactic| first | exact Or.inl rfl | exact Or.inr rfl)
local macro_rules | `(tactic| exfalso)=>`(tactic| first | exact JU _ (by decide) (by decide) | rfl)
theorem Uo:FnOk P w K mg base CX0 1 T.f_z40 T.d_z40 ["_law_script"] (Hv K):=by
 refine T.F_z40.ok Sv (fun vs H Q E h=>by unfold Hv at h;split at h <;> first | rfl | exact h.elim) (fun cdv A outer s H vs Q E hr h=>?_);have hu:=Ag hr;unfold Hv at h;split at h;rotate_left
 ·exact h.elim
 rename_i a;obtain⟨ns,hs,q⟩:=h;refine⟨_,(@AF _ _ _ (@AK _ _ _ _ (@A2 _ _ _ _ (AA (AI (BH (K:=K)) (Af (Lq (K:=K)) rfl T.z_list (by rfl) (AA (NZ (K:=K) (vv 0) Ba (Bf AC)) AB)) (AI Br (@A2 _ _ _ _ (AA AC AB)) (Af DE rfl T.z_int (by rfl) (AA (A8 (kEq (K:=K) hu) (vv 0) (@A2 _ _ _ _ AB)) AB)))) (AA AC (AA AC (AA AC AB))))))),?_⟩;refine⟨63,rfl,_,.inl ⟨hs,fun p hp=>?_⟩⟩
 have ecut:A1 (ns.map V.int) none (some 63)=(ns.take (HT.sIx ns.length ns.length (some 63))).map V.int:=by
  unfold A1;rw[ZC];simp[HT.sIx,ZBs]
 rw[ecut];generalize hns:ns.take (HT.sIx ns.length ns.length (some 63))=ms
 have hms:ns≠[]->ms≠[]:=by
  intro hne;rw[<- hns];cases ns with
  | nil=>exact absurd rfl hne
  | cons x xs =>
   have e:HT.sIx (x::xs).length (x::xs).length (some 63)=min 63 (xs.length+1):=HT.sIx_nat _ _ 63;rw[e,show min 63 (xs.length+1)=(min 62 xs.length)+1 by lia,List.take_succ_cons];exact fun z=>nomatch z
 have hml:ms.length<=63:=by
  rw[<- hns,ZV];have e:HT.sIx ns.length ns.length (some 63)=min 63 ns.length:=HT.sIx_nat _ _ 63;lia
 refine⟨_,.inl (.of AD),fun p2 hp2=>?_⟩;have s2:Same H (upd (upd H p (.lst (ms.map V.int))) p2 (.lst (ms.map V.int))):=(Same.upd hp).trans (Same.upd hp2);have g2:upd (upd H p (.lst (ms.map V.int))) p2 (.lst (ms.map V.int)) p2=some (.lst (ms.map V.int)):=AD;generalize upd (upd H p (.lst (ms.map V.int))) p2 (.lst (ms.map V.int))=H2 at *;refine⟨smq rfl,fun p3 hp3=>?_⟩;have s3:Same H2 (upd H2 p3 (.lst [.int 0])):=Same.upd hp3;have g3:upd H2 p3 (.lst [.int 0]) p3=some (.lst [.int 0]):=AD;generalize upd H2 p3 (.lst [.int 0])=H3 at *;refine⟨smq rfl,fun p4 hp4=>?_⟩;have s4:Same H3 (upd H3 p4 (.lst [])):=Same.upd hp4;have g4:upd H3 p4 (.lst []) p4=some (.lst []):=AD;generalize upd H3 p4 (.lst [])=H4 at *;have S4:=s2.trans (s3.trans s4);refine⟨.lst (ns.map Dv.int),.lst [],?_,?_,?_,?_⟩
 ·unfold Rep;exact⟨a,_,rfl,S4.sqL hs,FJ ns⟩
 ·unfold Rep;exact⟨p4,_,rfl,.of g4,Am⟩
 ·unfold An;rw[L9];lia
 have eb:eqD (.lst (ns.map Dv.int)) (.lst [])=decide (ns=[]):=by
  rw[EI];cases ns with
  | nil=>rfl
  | cons x xs=>rfl
 rw[eb]
 have fin:∀(k:Nat),k<=1->(ns=[]->k=1)->∀H5 p5,Same H4 H5->H5 p5=some (.lst (List.replicate k (V.int 0)))->∃l b xs zs,V.ref p2=.ref l/\V.ref p5=.ref b/\H5 l=some (.lst xs)/\H5 b=some (.lst zs)/\xs.length+zs.length<=sizeLine/\∀p6,H5 p6=none ->
  4<=sizeLine/\∀p7,upd H5 p6 (.lst (xs++zs)) p7=none->Q (.ref p7) (upd (upd H5 p6 (.lst (xs++zs))) p7 (.lst [.ref p6,.int 0,.int 0,.int 0])):=by
  intro k hk hk1 H5 p5 s5 g5;refine⟨p2,p5,_,_,rfl,rfl,s5 _ _ (s4 _ _ (s3 _ _ g2)),g5,B7 (by rw[ZC,ZBw];lia),fun p6 hp6=>⟨B7 (by decide),fun p7 hp7=>?_⟩⟩;have S5:=S4.trans s5;have S6:=S5.trans (Same.upd (o:=.lst (ms.map V.int++List.replicate k (V.int 0))) hp6);refine q p7 _ (S6.free hp7) (S6.trans (Same.upd hp7)) ⟨p6,0,0,0,ms++List.replicate k 0,by decide,by decide,by decide,by decide,AD,?_,?_,?_⟩
  ·exact fun e=>by rw[<- e,AD]at hp7;cases hp7
  ·rw[AM (fun e=>by rw[<- e,AD]at hp7;cases hp7),AD];rw[ZK,List.map_replicate]
  ·rw[ZG,ZBw]
   by_cases hne:ns=[]
   ·rw[hk1 hne];lia
   ·have:=hms hne
    have:ms.length≠0:=fun z=>this (ZBl.mp z)
    lia
 by_cases hne:ns=[]
 ·rw[ZM hne];refine⟨p3,1,_,rfl,rfl,s4 _ _ g3,by decide,by decide,B7 (by decide),fun p5 hp5=>.inl ?_⟩;exact fin 1 (by decide) (fun _=>rfl) _ p5 (Same.upd hp5) AD
 ·rw[Zu hne];refine⟨p3,0,_,rfl,rfl,s4 _ _ g3,by decide,by decide,B7 (by decide),fun p5 hp5=>.inl ?_⟩;exact fin 0 (by decide) (fun z=>absurd z hne) _ p5 (Same.upd hp5) AD
theorem LZ:FnOk P w K mg base CX0 1 T.f_z35 T.d_z35 ["_law_feed_here","_law_many"] Dd:=by
 refine T.F_z35.ok sc_z35 (fun vs H Q E h=>by unfold Dd at h;split at h <;> first | rfl | exact h.elim) (fun cdv A outer s H vs Q E hr h=>?_);have hu:=Ag hr
 match vs,h with
 | [.ref t,.int m],h =>
 obtain⟨l,N,F,hN,hm,k⟩:=h;obtain⟨i,g,c,ns,i0,g0,c0,cN,ht,lt,hl,nl⟩:=F.at_;have hm0:0 < m:=hm.1;refine⟨_,(@AE _ _ _ _ _ (@C9 _ _ _ _ _ _ (AI (BH (K:=K)) (kIx (K:=K) (vv 0) AC) AC) (D1 (vv 0) AC Dp) (by rfl) (by rfl) (by rfl)) (@AE _ _ _ _ _ (@AS _ _ 2 _ _ _ _ sc_z35.nd rfl (by right) (kIx (K:=K) (vv 0) AC) (by rfl) (by walk_at "i")) (@AE _ _ _ _ _ (@Ai _ _ _ _ _ _ _ _ (AX (kEq (K:=K) hu) (kIx (K:=K) (vv 0) AC) AC) (@AE _ _ _ _ _ (@AS _ _ 3 _ _ _ _ sc_z35.nd rfl (by right) (kIx (K:=K) (kIx (K:=K) (vv 0) AC) (AI C7 (kIx (K:=K) (vv 0) AC) (AT (Av (K:=K)) rfl T.z_len (by rfl) (AA (kIx (K:=K) (vv 0) AC) AB)))) (by rfl) (by walk_at "i")) (@AE _ _ _ _ _ (@C9 _ _ _ _ _ _ (AI (BH (K:=K)) (kIx (K:=K) (vv 0) AC) AC) (D1 (vv 0) AC Dp) (by rfl) (by rfl) (by rfl)) (@AE _ _ _ _ _ (@Ai _ _ _ _ _ _ _ _ (AX B9 (vv 3) (AI IG AC AC)) (@AE _ _ _ _ _ (@AS _ _ 4 _ _ _ _ sc_z35.nd rfl (by right) (AI (BH (K:=K)) (AI (BH (K:=K)) (AI (BH (K:=K)) (AI C7 (vv 3) AC) (AI Br (AI Br AC (vv 2)) (vv 2))) (AI Br AC (vv 2))) AC) (by rfl) (by walk_at "i")) (@AE _ _ _ _ _ (@AS _ _ 4 _ _ _ _ sc_z35.nd rfl (by right) (AI Br (AI Ff (AI C7 (AI Br (vv 4) AC) AC) AC) AC) (by rfl) (by walk_at "i")) (@AF _ _ _ (@AK _ _ _ _ (AI C7 (AI Ff (AI C7 (vv 4) AC) AC) (vv 1)))))) Ah) (@AF _ _ _ (@C9 _ _ _ _ _ _ (vv 3) (D1 (vv 0) AC Dp) (by rfl) (by rfl) (by rfl)))))) Ah) (@AE _ _ _ _ _ (@AS _ _ 5 _ _ _ _ sc_z35.nd rfl (by right) (AI C7 (kIx (K:=K) (vv 0) AC) (vv 1)) (by rfl) (by walk_at "i")) (@AE _ _ _ _ _ (@C9 _ _ _ _ _ _ (AI Ff (kIx (K:=K) (vv 0) AC) (vv 1)) (D1 (vv 0) AC Dp) (by rfl) (by rfl) (by rfl)) (@AF _ _ _ (@AK _ _ _ _ (vv 5)))))))),?_⟩;refine AJ (fun σ' H1=>σ'=[some (.ref t),some (.int m),none,none,none,none]/\(∀b,b≠t->H1 b=H b)/\H1 t=some (.lst [.ref l,.int i,.int g,.int (c+1)])) ?_ ?_ (by walk_at "sm")
 ·exact⟨_,_,.inl (.of ht),rfl,_,_,ht,rfl,rfl,fun b n=>AM n,AD⟩
 rintro σ' H1 ⟨rfl,f1,ht1⟩;refine⟨_,_,.inl (.of ht1),rfl,?_⟩;have hl1:H1 l=some (.lst (ns.map V.int)):=by rw[f1 l lt];exact hl
 have pos:(0:Int) < (ns.length:Int):=by lia
 dsimp only[Ae];refine AJ (fun σ' H2=>∃(z3 z4:Option V) (i2 g2:Int),σ'=[some (.ref t),some (.int m),some (.int (c+1)),z3,z4,none]/\(∀b,b≠t->H2 b=H b)/\0<=i2/\0<=g2/\H2 t=some (.lst [.ref l,.int i2,.int g2,.int (c+1)])) ?_ ?_ (by walk_at "sm")
 ·refine⟨_,_,.inl (.of ht1),rfl,?_⟩;refine Ab (fun e=>?_) (fun e=>⟨none,none,i,g,rfl,f1,i0,g0,ht1⟩);obtain⟨z,hz⟩:=Pr (ns:=ns) (Int.emod_nonneg i (show(ns.length:Int)≠0 by lia)) (Int.emod_lt_of_pos i pos);refine AJ (fun σ' H2=>σ'=[some (.ref t),some (.int m),some (.int (c+1)),some (.int z),none,none]/\H1=H2) ?_ ?_ (by walk_at "sm")
  ·exact⟨_,_,.inl (.of ht1),rfl,_,_,.inl (.of ht1),rfl,_,_,.inl (.of ht1),rfl,ns.length,.inl ⟨_,.of hl1,by rw[ZC]⟩,pos,_,_,.inl (.of hl1),hz,rfl,rfl⟩
  rintro σ' _ ⟨rfl,rfl⟩;refine AJ (fun σ' H2=>σ'=[some (.ref t),some (.int m),some (.int (c+1)),some (.int z),none,none]/\(∀b,b≠t->H2 b=H b)/\H2 t=some (.lst [.ref l,.int (i+1),.int g,.int (c+1)])) ?_ ?_ (by walk_at "sm")
  ·exact⟨_,_,.inl (.of ht1),rfl,_,_,ht1,rfl,rfl,fun b n=>by rw[AM n];exact f1 b n,AD⟩
  rintro σ' H2 ⟨rfl,f2,ht2⟩;refine AJ (fun σ' H3=>σ'=[some (.ref t),some (.int m),some (.int (c+1)),some (.int z),none,none]/\H2=H3/\¬z < 1000000000000000000) ?_ ?_ (by walk_at "sm")
  ·refine⟨⟨by decide,by decide,by decide⟩,?_⟩;refine Ab (fun e=>?_) (fun e=>⟨rfl,rfl,?_⟩)
   ·refine⟨by decide,.inr (.inl ⟨by decide,by decide⟩),.inr (.inl ⟨by lia,by lia⟩),.inr (.inl ⟨by decide,by decide⟩),?_⟩;refine⟨.inr (.inr ⟨by decide,by decide⟩),by decide,Ad (by decide) (by decide),.inr (.inr ⟨by decide,by decide⟩),?_⟩;refine⟨by decide,Ad (by decide) (by decide),hm0,?_⟩;exact k _ _ (Int.emod_nonneg _ (by lia)) (Int.emod_lt_of_pos _ hm0) ⟨i+1,g,c+1,ns,by lia,g0,by lia,by lia,ht2,lt,by rw[f2 l lt];exact hl,nl⟩ f2
   ·intro z';exact e (ZM z')
  rintro σ' _ ⟨rfl,rfl,hz2⟩;exact⟨_,_,ht2,rfl,_,_,_,_,rfl,fun b n=>by rw[AM n];exact f2 b n,show 0<=i+1 by lia,show 0<=z by lia,AD⟩
 rintro σ' H2 ⟨z3,z4,i2,g2,rfl,f2,i0',g0',ht2⟩;refine⟨_,_,.inl (.of ht2),rfl,hm0,?_⟩;dsimp only[Ae];refine⟨_,_,.inl (.of ht2),rfl,hm,_,_,ht2,rfl,?_⟩;refine k _ _ (Int.emod_nonneg _ (by lia)) (Int.emod_lt_of_pos _ hm0) ⟨i2,g2 / m,c+1,ns,i0',Int.ediv_nonneg g0' (by lia),by lia,by lia,AD,lt,?_,nl⟩ (fun b n=>by rw[AM n];exact f2 b n);rw[AM lt,f2 l lt];exact hl
theorem CT:FnOk P w K mg base CX0 1 T.f_z35 T.d_z35 ["_law_feed_here","_law_many"] Ei:=(LZ T).imp N4
def One(L:Nat->Int)(S:Nat->Bool):Prop:=∀i j,S i=true->S j=true->L i=L j
def Can(L:Nat->Int)(Y:List (Nat->Bool)):Nat->(Nat->Bool)->Prop
 | 0,S=>One L S
 | n+1,S=>One L S\/∃y∈Y,Can L Y n (fun k=>S k && y k)/\Can L Y n (fun k=>S k && !y k)
section
variable {L L':Nat->Int}{Y Y':List (Nat->Bool)}{S S':Nat->Bool}{n m a b c:Nat}
theorem L1(h:∀k,S' k=true->S k=true)(o:One L S):One L S':=fun i j x y=>o i j (h i x) (h j y)
theorem ER:∀{n:Nat} {S S':Nat->Bool},(∀k,S' k=true->S k=true)->Can L Y n S->Can L Y n S'
 | 0,_,_,h,o=>L1 h o
 | n+1,S,S',h,.inl o=>.inl (L1 h o)
 | n+1,S,S',h,.inr ⟨y,hy,p,q⟩=>.inr ⟨y,hy,ER (fun k z=>by simp only[Ze]at z ⊢;exact⟨h k z.1,z.2⟩) p,ER (fun k z=>by simp only[Ze]at z ⊢;exact⟨h k z.1,z.2⟩) q⟩
theorem HE:∀{n:Nat} {S:Nat->Bool},Can L Y n S->Can L Y (n+1) S
 | 0,_,o=>.inl o
 | n+1,S,.inl o=>.inl o
 | n+1,S,.inr ⟨y,hy,p,q⟩=>.inr ⟨y,hy,HE p,HE q⟩
theorem Hq(h:n<=m)(p:Can L Y n S):Can L Y m S:=by
 induction h with
 | refl=>exact p
 | step _ ih=>exact HE ih
def A3(L:Nat->Int)(Y:List (Nat->Bool))(S:Nat->Bool)(m:Nat):Prop:=Can L Y m S/\∀n,Can L Y n S->m<=n
theorem G8(x:A3 L Y S a)(y:A3 L Y S b):a=b:=Nat.le_antisymm (x.2 _ y.1) (y.2 _ x.1)
theorem Kn{y:Nat->Bool}(hy:y∈Y)(x:A3 L Y S a)(p:A3 L Y (fun k=>S k && y k) b)(q:A3 L Y (fun k=>S k && !y k) c):a<=1+max b c:=by
 rw[Nat.add_comm];exact x.2 (max b c+1) (.inr ⟨y,hy,Hq (Nat.le_max_left ..) p.1,Hq (Nat.le_max_right ..) q.1⟩)
def CD(S y:Nat->Bool):Prop:=(∃k,S k=true/\y k=true)/\∃k,S k=true/\y k=false
theorem not_parts{y:Nat->Bool}(h:¬CD S y):(∀k,S k=true->(S k && y k)=true)\/∀k,S k=true->(S k && !y k)=true:=by
 by_cases z:∃k,S k=true/\y k=true
 ·refine .inl fun k hk=>?_
  rw[hk,Bool.true_and];cases e:y k with
  | true=>rfl
  | false=>exact absurd ⟨z,k,hk,e⟩ h
 ·refine .inr fun k hk=>?_
  rw[hk,Bool.true_and];cases e:y k with
  | false=>rfl
  | true=>exact absurd ⟨k,hk,e⟩ z
theorem UU:∀{n:Nat} {S:Nat->Bool} (ds:List Int),Can L Y n S->ds.Nodup->(∀d∈ds,∃k,S k=true/\L k=d)->ds.length<=2 ^ n:=by
 have one:∀{S:Nat->Bool} (ds:List Int),One L S->ds.Nodup->(∀d∈ds,∃k,S k=true/\L k=d)->ds.length<=1:=by
  intro S ds o nd h
  match ds,nd,h with
  | [],_,_=>exact ZU _
  | [_],_,_=>exact ZD _
  | x::y::r,nd,h =>
   obtain⟨i,hi,ei⟩:=h x (by simp);obtain⟨j,hj,ej⟩:=h y (by simp)
   have:=o i j hi hj
   rw[ei,ej]at this;simp[this]at nd
 intro n
 induction n with
 | zero=>exact fun ds o nd h=>one ds o nd h
 | succ n ih =>
  intro S ds c nd h
  rcases c with o | ⟨y,hy,p,q⟩
  ·exact ZP (one ds o nd h) Nat.one_le_two_pow
  ·classical
   have e:ds.length=(ds.filter fun d=>decide (∃k,(S k && y k)=true/\L k=d)).length+(ds.filter fun d=>!decide (∃k,(S k && y k)=true/\L k=d)).length:=by
    clear nd h
    induction ds with
    | nil=>rfl
    | cons x r ih2 =>
     rw[ZBI,ZBI];cases decide (∃k,(S k && y k)=true/\L k=x) <;> simp[ih2] <;> lia
   have a1:=ih (ds.filter fun d=>decide (∃k,(S k && y k)=true/\L k=d)) p (nd.filter _) fun d hd=>by
    have:=(Z9.mp hd).2
    exact ZN this
   have a2:=ih (ds.filter fun d=>!decide (∃k,(S k && y k)=true/\L k=d)) q (nd.filter _) fun d hd=>by
    obtain⟨h1,h2⟩:=Z9.mp hd;obtain⟨k,hk,ek⟩:=h d h1;refine⟨k,?_,ek⟩;cases z:y k with
    | false=>rw[hk];rfl
    | true =>
     have:decide (∃k,(S k && y k)=true/\L k=d)=true:=ZM ⟨k,by rw[hk,z];rfl,ek⟩
     rw[this]at h2;cases h2
   rw[Nat.pow_succ];lia
def BJ(N:Nat)(S:Nat->Bool):Nat:=((List.range N).filter S).length
theorem EN(N:Nat)(S:Nat->Bool):BJ (N+1) S=BJ N S+if S N=true then 1 else 0:=by
 unfold BJ;rw[ZBq,ZB1,ZG];cases h:S N <;> simp[h]
theorem JI(N:Nat)(S y:Nat->Bool):BJ N S=BJ N (fun k=>S k && y k)+BJ N (fun k=>S k && !y k):=by
 induction N with
 | zero=>rfl
 | succ N ih =>
  rw[EN,EN,EN,ih];cases S N <;> cases y N <;> simp <;> lia
theorem EV{N:Nat}{S:Nat->Bool}{k:Nat}(hk:k < N)(hs:S k=true):1<=BJ N S:=List.length_pos_of_mem (Z9.mpr ⟨ZBJ.mpr hk,hs⟩)
theorem RL{N:Nat}{S:Nat->Bool}{i j:Nat}(hi:i < N)(hj:j < N)(si:S i=true)(sj:S j=true)(ne:i≠j):2<=BJ N S:=by
 rw[JI N S (fun k=>k == i)]
 have:=EV (S:=fun k=>S k && k == i) hi (by simp[si])
 have:=EV (S:=fun k=>S k && !(k == i)) hj (by simp[sj,Ne.symm ne])
 lia
theorem UI{N:Nat}(hS:∀k,S k=true->k < N){y:Nat->Bool}(h:CD S y):BJ N (fun k=>S k && y k) < BJ N S/\BJ N (fun k=>S k && !y k) < BJ N S:=by
 obtain⟨⟨i,hi,yi⟩,j,hj,yj⟩:=h
 have:=JI N S y
 have:=EV (S:=fun k=>S k && y k) (hS i hi) (by simp[hi,yi])
 have:=EV (S:=fun k=>S k && !y k) (hS j hj) (by simp[hj,yj])
 lia
theorem RE{N:Nat}(he:∀i j,i < N->j < N->(∀y∈Y,y i=y j)->L i=L j):∀(n:Nat) (S:Nat->Bool),(∀k,S k=true->k < N)->BJ N S<=n+1->Can L Y n S:=by
 intro n
 induction n with
 | zero =>
  intro S hS hc i j hi hj
  by_cases e:i=j
  ·rw[e]
  ·have:=RL (hS i hi) (hS j hj) hi hj e
   lia
 | succ n ih =>
  intro S hS hc
  by_cases o:One L S
  ·exact .inl o
  ·have:∃i j,S i=true/\S j=true/\L i≠L j:=by
    refine Classical.byContradiction fun z=>o fun i j hi hj=>Classical.byContradiction fun q=>z ⟨i,j,hi,hj,q⟩
   obtain⟨i,j,hi,hj,ne⟩:=this
   have:∃y∈Y,y i≠y j:=by
    refine Classical.byContradiction fun z=>ne (he i j (hS i hi) (hS j hj) fun y hy=>Classical.byContradiction fun q=>z ⟨y,hy,q⟩)
   obtain⟨y,hy,hne⟩:=this
   have hp:CD S y:=by
    cases yi:y i with
    | true =>
     refine⟨⟨i,hi,yi⟩,j,hj,?_⟩;cases yj:y j with
     | false=>rfl
     | true=>rw[yi,yj]at hne;exact absurd rfl hne
    | false =>
     refine⟨⟨j,hj,?_⟩,i,hi,yi⟩;cases yj:y j with
     | true=>rfl
     | false=>rw[yi,yj]at hne;exact absurd rfl hne
   obtain⟨c1,c2⟩:=UI hS hp;exact .inr ⟨y,hy,ih _ (fun k z=>hS k (by simp only[Ze]at z;exact z.1)) (by lia),ih _ (fun k z=>hS k (by simp only[Ze]at z;exact z.1)) (by lia)⟩
theorem LY:∀{n:Nat} {S:Nat->Bool},Can L Y n S->∃m,A3 L Y S m:=by
 intro n S h
 induction n with
 | zero=>exact⟨0,h,fun _ _=>ZU _⟩
 | succ n ih =>
  by_cases z:Can L Y n S
  ·exact ih z
  ·exact⟨n+1,h,fun k hk=>by
    rcases Zs k (n+1) with q | q
    ·exact absurd (Hq (by lia) hk) z
    ·exact q⟩
end
def msk(ts:List Nat):Nat:=(ts.map (2 ^ ·)).sum
theorem En(t:Nat)(ts:List Nat):msk (t::ts)=2 ^ t+msk ts:=by unfold msk;rw[Zg,List.sum_cons]
theorem Oq(ts us:List Nat):msk (ts++us)=msk ts+msk us:=by unfold msk;rw[ZK,List.sum_append]
theorem MI:∀(ts:List Nat) (N:Nat),ts.Pairwise (fun a b=>b < a)->(∀t∈ts,t < N)->msk ts < 2 ^ N/\∀k,(msk ts).testBit k=decide (k∈ts)
 | [],N,_,_=>⟨Nat.two_pow_pos N,fun k=>by simp[msk]⟩
 | t::ts,N,hp,hl=>by
  obtain⟨h1,h2⟩:=ZCA.mp hp;obtain⟨i1,i2⟩:=MI ts t h2 h1;rw[En];have ht:t < N:=hl t (by simp);have e2:2 ^ t+2 ^ t<=2 ^ N:=by rw[<- Nat.two_mul,Nat.mul_comm,<- Nat.pow_succ];exact Zz (by decide) ht
  refine⟨by lia,fun k=>?_⟩
  rcases ZBi k t with z | z | z
  ·rw[Nat.testBit_two_pow_add_gt z,i2 k];simp only[ZF,show k≠t by lia,false_or]
  ·subst z;rw[Nat.testBit_two_pow_add_eq,i2 k]
   have:k∉ts:=fun q=>ZZ _ (h1 k q)
   simp[this]
  ·have:2 ^ t+msk ts < 2 ^ k:=by
    have:2 ^ (t+1)<=2 ^ k:=Zz (by decide) z
    rw[Nat.pow_succ]at this;lia
   rw[Nat.testBit_lt_two_pow this];have h3:k∉ts:=fun q=>ZZ _ (Z7 z (h1 k q))
   simp[h3,show k≠t by lia]
theorem Rh(ts:List Nat):msk ts.reverse=msk ts:=by
 induction ts with
 | nil=>rfl
 | cons t ts ih=>rw[ZBM,Oq,ih,En,En];simp[msk];lia
theorem DF{ts:List Nat}{N:Nat}(hp:ts.Pairwise (· < ·))(hl:∀t∈ts,t < N):msk ts < 2 ^ N/\∀k,(msk ts).testBit k=decide (k∈ts):=by
 have:=MI ts.reverse N (List.pairwise_reverse.mpr hp) (fun t ht=>hl t (ZBX.mp ht))
 rw[Rh]at this;exact⟨this.1,fun k=>by rw[this.2 k];simp⟩
theorem Pf(x y k:Nat):(x - (x &&& y)).testBit k=(x.testBit k && !y.testBit k):=by
 have e:x - (x &&& y)=x ^^^ (x &&& y):=by
  have h:∀(n x y:Nat),x < 2 ^ n->(x ^^^ (x &&& y))+(x &&& y)=x:=by
   intro n
   induction n with
   | zero=>intro x y h;have:x=0:=by simpa using h
           subst this;simp
   | succ n ih =>
    intro x y h;have i:=ih (x / 2) (y / 2) (by rw[Nat.pow_succ]at h;lia);have d1:(x ^^^ (x &&& y)) / 2=x / 2 ^^^ (x / 2 &&& y / 2):=by rw[Nat.xor_div_two,Nat.and_div_two]
    have d2:(x &&& y) / 2=x / 2 &&& y / 2:=Nat.and_div_two
    have m1:(x ^^^ (x &&& y)) % 2+(x &&& y) % 2=x % 2:=by
     have g:∀z:Nat,z % 2=(z.testBit 0).toNat:=fun z=>by rw[Nat.toNat_testBit,Nat.pow_zero,Nat.div_one]
     rw[g,g (x &&& y),g x,Nat.testBit_xor,ZBt];cases x.testBit 0 <;> cases y.testBit 0 <;> rfl
    lia
  have:=h x x y Nat.lt_two_pow_self
  lia
 rw[e,Nat.testBit_xor,ZBt];cases x.testBit k <;> cases y.testBit k <;> rfl
theorem Ja(S y:Nat):(S - (S &&& y)).testBit=fun k=>S.testBit k && !y.testBit k:=funext fun k=>Pf ..
def HN:Sp:=fun vs H Q _=>match vs with
 | [.int b,.int t]=>∃m:Nat,t=m/\m<=64/\((-(2 ^ 64) < b/\b < 2 ^ 64)\/(Nb b 100/\m<=12))/\Q (.int (b ^ m)) H
 | _=>False
theorem PK:FnOk P w K mg base CX0 1 T.f_z44 T.d_z44 ["base","times"] HN:=by
 refine T.F_z44.ok sc_z44 (fun vs H Q E h=>by unfold HN at h;split at h <;> first | rfl | exact h.elim) (fun cdv A outer s H vs Q E hr h=>?_);have hu:=Ag hr;unfold HN at h;split at h;rotate_left
 ·exact h.elim
 rename_i b t;obtain⟨m,e1,h1,b1,q⟩:=h;subst e1;refine⟨_,(@AE _ _ _ _ _ (@AS _ _ 2 _ _ _ _ sc_z44.nd rfl (by right) AC (by rfl) (by walk_at "i")) (@AE _ _ _ _ _ (@BF _ _ _ _ _ _ _ _ PassesOwn.never rfl (BA rfl T.z_range (AA (vv 1) AB)) (AN (i:=3) sc_z44.nd rfl (by right)) (@AF _ _ _ (@AS _ _ 2 _ _ _ _ sc_z44.nd rfl (by right) (AI Br (vv 2) (vv 0)) (by rfl) (by walk_at "i"))) (by intro _;rfl)) (@AF _ _ _ (@AK _ _ _ _ (vv 2))))),?_⟩;refine⟨m,rfl,by lia,by lia,?_⟩;refine B8 (fun i σ H'=>H'=H/\∃z:Option V,σ=[some (.int b),some (.int m),some (.int (b ^ i)),z]) ⟨rfl,none,by rw[Int.pow_zero];rfl⟩ ?_ ?_
 ·rintro i σ H' hi ⟨rfl,z,rfl⟩;have hi':i < m:=by lia
  have okm:okMul (b ^ i) b:=by
   rcases b1 with b1 | ⟨b1,b2⟩
   ·exact .inr (.inr b1)
   ·exact Nb.okMul ((b1.pow i).up (by lia)) (b1.up (by lia))
  refine⟨okm,rfl,some (.int (0+(i:Int))),?_⟩;rw[Int.pow_succ];rfl
 ·rintro σ H' ⟨rfl,z,rfl⟩
  have:(m:Int).toNat=m:=by lia
  rw[this];exact q
def Go:Sp:=fun vs H Q _=>match vs with
 | [.int n]=>∃m:Nat,n=m/\m<=64/\Q (.int (2 ^ m:Nat)) H
 | _=>False
theorem PP:FnOk P w K mg base CX0 2 T.f_z48 T.d_z48 ["n"] Go:=by
 have G_z44:=@PK P w K mg base T;refine T.F_z48.ok Nn (fun vs H Q E h=>by unfold Go at h;split at h <;> first | rfl | exact h.elim) (fun cdv A outer s H vs Q E hr h=>?_);have hu:=Ag hr;have hr_z44:=hr.mono (show 1<=_ by decide);unfold Go at h;split at h;rotate_left
 ·exact h.elim
 rename_i n;obtain⟨m,e1,h1,q⟩:=h;subst e1;refine⟨_,(@AF _ _ _ (@AK _ _ _ _ (AH G_z44 hr_z44 rfl T.m_z44 T.F_z44.kp T.b_z44 .nil AG (AA AC (AA (vv 0) AB))))),?_⟩;refine⟨m,rfl,h1,.inl ⟨by decide,by decide⟩,?_⟩;have e:(2:Int) ^ m=((2 ^ m:Nat):Int):=by rw[Int.natCast_pow];rfl
 rw[e];exact q
def Dt:Sp:=fun vs H Q _=>match vs with
 | [.int x,.int y]=>∃a b:Nat,x=a/\y=b/\Q (.bl (decide (a &&& b=a))) H
 | _=>False
theorem Uy:AQ Dt:=fun vs H Q Q' E h q=>by
 unfold Dt at *;split at q
 ·revert q;repeat' first | exact h _ _ | exact A4 h | exact out_mono h | exact outT_mono h | walk_at "m"
 ·exact q.elim
theorem QS:FnOk P w K mg base CX0 1 T.f_z47 T.d_z47 ["subset","other"] Dt:=by
 refine T.F_z47.ok SK (fun vs H Q E h=>by unfold Dt at h;split at h <;> first | rfl | exact h.elim) (fun cdv A outer s H vs Q E hr h=>?_);have hu:=Ag hr;unfold Dt at h;split at h;rotate_left
 ·exact h.elim
 rename_i x y;obtain⟨a,b,e1,e2,q⟩:=h;subst e1 e2;refine⟨_,(@AF _ _ _ (@AK _ _ _ _ (A8 (kEq (K:=K) hu) (AI Gd (vv 0) (vv 1)) (vv 0)))),?_⟩
 have e:(false ^^ (Builtin.bitAnd (a:Int) (b:Int) == (a:Int)))=decide (a &&& b=a):=by
  rw[Lc,ZBg,ZBD];simp only[beq_iff_eq,decide_eq_true_eq];lia
 show Q (.bl (false ^^ (Builtin.bitAnd (a:Int) (b:Int) == (a:Int)))) H;rw[e];exact q
def whr(bs:List Bool)(n:Nat):List Nat:=(List.range n).filter (gB bs)
theorem No(bs:List Bool)(n:Nat):whr bs (n+1)=whr bs n++(if gB bs n=true then [n] else []):=by
 unfold whr;rw[ZBq,ZB1];cases h:gB bs n <;> simp[h]
theorem LQ(bs:List Bool)(n:Nat):(whr bs n).length<=n:=by
 have:=ZBu (gB bs) (List.range n)
 rw[ZBV]at this;exact this
theorem LM(bs:List Bool)(n:Nat):(whr bs n).Pairwise (· < ·):=List.Pairwise.filter _ List.pairwise_lt_range
theorem GZ{bs:List Bool}{n t:Nat}(h:t∈whr bs n):t < n:=ZBJ.mp (Z9.mp h).1
theorem Tt{bs:List Bool}{n t:Nat}:t∈whr bs n ↔ t < n/\gB bs t=true:=by unfold whr;rw[Z9,ZBJ]
theorem Kd{α:Type}{f:α->Bool}{l:List α}{i:Nat}{x:α}(h:l[i]? = some x):gB (l.map f) i=f x:=by
 unfold gB;rw[Zy,ZX,h];rfl
def SqI(K:W.Frag)(H:Hp)(p:Addr)(ts:List Nat):Prop:=SqL K H p (iL ts)\/SqT K H p (iL ts)
def Dj(K:W.Frag):Sp:=fun vs H Q _=>match vs with
 | [.ref p]=>∃ts:List Nat,SqI K H p ts/\ts.length<=64/\(∀t∈ts,t<=60)/\∀H',Same H H'->Q (.int (msk ts:Nat)) H'
 | _=>False
theorem Qz:AQ (Dj K):=fun vs H Q Q' E h q=>by
 unfold Dj at *;split at q
 ·revert q;repeat' first | exact h _ _ | exact A4 h | exact out_mono h | exact outT_mono h | walk_at "m"
 ·exact q.elim
theorem Ts(ts:List Nat):(ts.map fun t=>((2 ^ t:Nat):Int)).sum=(msk ts:Nat):=by
 induction ts with
 | nil=>rfl
 | cons t ts ih=>rw[Zg,List.sum_cons,ih,En];lia
theorem Rk:FnOk P w K mg base CX0 3 T.f_z24 T.d_z24 ["members"] (Dj K):=by
 have G_z48:=@PP P w K mg base T;refine T.F_z24.ok Sf (fun vs H Q E h=>by unfold Dj at h;split at h <;> first | rfl | exact h.elim) (fun cdv A outer s H vs Q E hr h=>?_);have hu:=Ag hr;have hr_z48:=hr.mono (show 2<=_ by decide);unfold Dj at h;split at h;rotate_left
 ·exact h.elim
 rename_i p;obtain⟨ts,hp,hl,hb,q⟩:=h;refine⟨_,(@AF _ _ _ (@AK _ _ _ _ (AT (Nk (K:=K) rfl) rfl T.z_sum (by rfl) (AA (@Ay _ _ _ _ _ _ _ ["member"] 1 [] _ _ _ _ rfl (Az (K:=K) (vv 0)) (by kernel_rfl) rfl rfl (by kernel_rfl) (fun c=>AN (i:=0) (show(["member"]:List Str).Nodup by decide +kernel) rfl (by right)) (Aj (by decide)) (fun c=>A0) (fun c=>(AH G_z48 hr_z48 rfl T.m_z48 T.F_z48.kp T.b_z48 .nil AG (AA (vv 0) AB))) (by intro _;rfl)) AB)))),?_⟩
 have turn:∀(k:Nat) (x:V) (ys:List V) (H':Hp),(iL ts)[k]? = some x->(Same H H'/\ys=(ts.take k).map fun t=>V.int ((2 ^ t:Nat):Int))->∃t:Nat,x=.int (t:Nat)/\t<=60/\(ts.take (k+1)).map (fun t=>V.int ((2 ^ t:Nat):Int))=ys++[V.int ((2 ^ t:Nat):Int)]:=by
  rintro k x ys H' hx ⟨_,rfl⟩;obtain⟨t,ht,hmem,rfl⟩:=Cy hx;refine⟨t,rfl,hb t hmem,?_⟩;rw[Zi,ht,ZK];rfl
 have fin:∀(ys:List V) (H':Hp),(Same H H'/\ys=(ts.take (iL ts).length).map fun t=>V.int ((2 ^ t:Nat):Int))->∀l,H' l=none->∃ns:List Int,SqL K (upd H' l (.lst ys)) l (ns.map V.int)/\Q (.int ns.sum) (upd H' l (.lst ys)):=by
  rintro ys H' ⟨s1,rfl⟩ l hl;refine⟨ts.map fun t=>((2 ^ t:Nat):Int),?_,?_⟩
  ·rw[Z5,Ax,Zm];exact .of AD
  ·rw[Ts];exact q _ (s1.trans (Same.upd hl))
 rcases hp with hp | hp
 ·refine .inl ⟨⟨_,hp⟩,?_⟩
  refine EZ (xs:=iL ts) (fun k ys H'=>Same H H'/\ys=(ts.take k).map fun t=>V.int ((2 ^ t:Nat):Int)) ⟨Same.refl _,rfl⟩ (fun k ys H' _ ⟨s,_⟩=>s.sqL hp) (fun k ys H' hk ⟨_,e⟩=>by
   rw[Ax]at hk;rw[e,ZC,ZV];exact Ak (by lia)) ?_ ?_
  ·intro k x ys H' hx hP;obtain⟨t,rfl,t60,e⟩:=turn k x ys H' hx hP;refine⟨t,rfl,by lia,?_⟩;exact⟨hP.1,e.symm⟩
  ·exact fin
 ·refine .inr ⟨⟨_,hp⟩,?_⟩
  refine Bk (xs:=iL ts) (fun k ys H'=>Same H H'/\ys=(ts.take k).map fun t=>V.int ((2 ^ t:Nat):Int)) ⟨Same.refl _,rfl⟩ (fun k ys H' _ ⟨s,_⟩=>s.sqT hp) (fun k ys H' hk ⟨_,e⟩=>by
   rw[Ax]at hk;rw[e,ZC,ZV];exact Ak (by lia)) ?_ ?_
  ·intro k x ys H' hx hP;obtain⟨t,rfl,t60,e⟩:=turn k x ys H' hx hP;refine⟨t,rfl,by lia,?_⟩;exact⟨hP.1,e.symm⟩
  ·exact fin
def AO(ls:List Int)(k:Nat):Int:=ls.getD k 0
def Me(ys:List Nat):List (Nat->Bool):=ys.map Nat.testBit
def Qb(a b c d:V):List (Str × V):=[("labels",a),("yeses",b),("alike",c),("known",d)]
structure Memo(ls:List Int)(ys:List Nat)(kvs:List (Key × V)):Prop where
 nd:(kvs.map (·.1)).Nodup
 ok:∀e∈kvs,∃S m:Nat,e=((Sum.inl (S:Int):Key),V.int (m:Int))/\S < 2 ^ ls.length/\A3 (AO ls) (Me ys) S.testBit m
theorem CC:∀(N:Nat) (l:List Nat),l.Nodup->(∀x∈l,x < N)->l.length<=N
 | 0,l,_,h=>by
  cases l with
  | nil=>exact ZD _
  | cons x r=>exact absurd (h x (by simp)) (by lia)
 | N+1,l,nd,h=>by
  have:=CC N (l.erase N) (nd.erase N) (fun x hx=>by
   have h2:=(nd.mem_erase_iff).mp hx
   have:=h x h2.2
   have:=h2.1
   lia)
  by_cases z:N∈l
  ·have e:=List.length_erase_of_mem z;lia
  ·have e:=List.erase_of_not_mem z;rw[e]at this;lia
theorem Dq{kvs:List (Key × V)}{k:Key}{v:V}(h:valV kvs k=some v):(k,v)∈kvs:=by
 unfold valV at h;cases e:kvs.find? fun kv=>decide (kv.1=k) with
 | none=>rw[e]at h;cases h
 | some x =>
  rw[e]at h;have h1:=List.find?_some e;have h2:=List.mem_of_find?_eq_some e;cases h
  have:x.1=k:=ZN h1
  rw[<- this];exact h2
theorem Memo.get{ls:List Int}{ys:List Nat}{kvs:List (Key × V)}(h:Memo ls ys kvs){S:Nat}{v:V}(e:valV kvs (Sum.inl (S:Int):Key)=some v):∃m:Nat,v=.int m/\A3 (AO ls) (Me ys) S.testBit m:=by
 obtain⟨S',m,ee,_,hf⟩:=h.ok _ (Dq e);have e1:(Sum.inl (S:Int):Key)=Sum.inl (S':Int):=congrArg Prod.fst ee;have e2:v=V.int m:=congrArg Prod.snd ee
 have:(S:Int)=S':=Sum.inl.inj e1
 have:S=S':=by lia
 subst this;exact⟨m,e2,hf⟩
def Qp(ls:List Int)(as:List Nat):Prop:=∀S,S < 2 ^ ls.length->(as.any (fun a=>decide (S &&& a=S))=true ↔ One (AO ls) S.testBit)
structure RkAt(K:W.Frag)(C:Addr)(ls:List Int)(ys:List Nat)(H:Hp)(p d:Addr):Prop where
 at_:∃dx tl yl al as kvs,H p=some (.ins C dx (Qb (.ref tl) (.ref yl) (.ref al) (.ref d)))/\SqT K H tl (ls.map V.int)/\H yl=some (.lst (iL ys))/\H al=some (.lst (iL as))/\H d=some (.dK kvs)/\as.length<=100/\Qp ls as/\Memo ls ys kvs
 l16:ls.length<=16
 y16:ys.length<=16
def DD(o:HO):Prop:=(∀xs,o≠.tup xs)/\∀ob u,o≠.frz ob u
theorem BS{K:W.Frag}{d a:Addr}{H H':Hp}{xs:List V}{o:HO}(f:Frm d H H')(hd:H d=some o)(no:DD o)(h:SqT K H a xs):SqT K H' a xs:=by
 by_cases e:a=d
 ·subst e
  rcases h with (h | ⟨ob,h⟩) | h
  ·rw[hd]at h;exact absurd (ZW h) (no.1 _)
  ·rw[hd]at h;exact absurd (ZW h) (no.2 _ _)
  ·exact .inr h
 ·exact Gz h fun o k=>f _ _ e k
theorem NL{kvs:List (Key × V)}:DD (.dK kvs):=⟨(fun _ z=>nomatch z),(fun _ _ z=>nomatch z)⟩
theorem HK{C dx:Addr}{fs:List (Str × V)}:DD (.ins C dx fs):=⟨(fun _ z=>nomatch z),(fun _ _ z=>nomatch z)⟩
theorem Cu{t:Addr}{H H':Hp}(s:Same H H'):Frm t H H':=fun b o _ e=>s b o e
def CA(a b c:V):List (Str × V):=[("yeses",a),("numbers",b),("found",c)]
theorem lb1(a b c:V):(CA a b c).lookup ("yeses" : Str)=some a:=by rfl
theorem lb2(a b c:V):(CA a b c).lookup ("numbers" : Str)=some b:=by rfl
theorem lb3(a b c:V):(CA a b c).lookup ("found" : Str)=some c:=by rfl
theorem nb1(a b c:V):(CA a b c).lookup ("bears" : Str)=none:=by rfl
theorem nb2(a b c:V):(CA a b c).lookup ("has_within" : Str)=none:=by rfl
theorem nb3(a b c:V):(CA a b c).lookup ("greatest_within" : Str)=none:=by rfl
theorem nb4(a b c:V):(CA a b c).lookup ("bears_all" : Str)=none:=by rfl
theorem pb1(a:V):At "yeses" a []=([("yeses",a)]:List (Str × V)):=by rfl
theorem pb2(a b:V):At "numbers" b [("yeses",a)]=([("yeses",a),("numbers",b)]:List (Str × V)):=by rfl
theorem pb3(a b c:V):At "found" c [("yeses",a),("numbers",b)]=CA a b c:=by rfl
abbrev kN(S:Nat):Key:=Sum.inl (S:Int)
structure NumsOk(n:Nat)(kvs:List (Key × V)):Prop where
 nd:(kvs.map (·.1)).Nodup
 ok:∀e∈kvs,∃(S:Nat) (k:Int),e=(kN S,V.int k)/\S < 2 ^ n/\1<=k
def BB(kvs:List (Key × V))(U:Nat)(m:Int):Prop:=∃(S:Nat) (k:Int),(kN S,V.int k)∈kvs/\S &&& U=S/\m<=k
def D3(kvs:List (Key × V))(U:Nat)(g:Int):Prop:=∀m:Int,1<=m->(m<=g ↔ BB kvs U m)
structure FMemo(n:Nat)(kvs fvs:List (Key × V)):Prop where
 nd:(fvs.map (·.1)).Nodup
 ok:∀e∈fvs,∃(U:Nat) (g:Int),e=(kN U,V.int g)/\U < 2 ^ n/\D3 kvs U g
theorem FMemo.get{n:Nat}{kvs fvs:List (Key × V)}(h:FMemo n kvs fvs){U:Nat}{v:V}(e:valV fvs (kN U)=some v):∃g:Int,v=.int g/\D3 kvs U g:=by
 obtain⟨T',g,ee,_,hf⟩:=h.ok _ (Dq e);have e1:kN U=kN T':=congrArg Prod.fst ee;have e2:v=V.int g:=congrArg Prod.snd ee
 have:U=T':=by injection e1 with z;lia
 subst this;exact⟨g,e2,hf⟩
theorem LO{kvs:List (Key × V)}{k:Key}{v:V}(nd:(kvs.map (·.1)).Nodup):((Ar kvs k v).map (·.1)).Nodup:=by
 unfold Ar;split
 ·have e:(kvs.map (fun kv=>if kv.1=k then (kv.1,v) else kv)).map (·.1)=kvs.map (·.1):=by
   rw[Z5];apply ZCD;intro a _;simp only[Function.comp];split <;> rfl
  rw[e];exact nd
 ·rename_i z;rw[ZK,List.nodup_append];refine⟨nd,by simp,?_⟩;intro a ha b hb q;have hb':b=k:=by simpa using hb
  obtain⟨x,hx,rfl⟩:=ZT.mp ha;exact z (ZBz.mpr ⟨x,hx,ZM (q.trans hb')⟩)
theorem put_mem{kvs:List (Key × V)}{k:Key}{v:V}{e:Key × V}(h:e∈Ar kvs k v):e=(k,v)\/(e∈kvs/\e.1≠k):=by
 unfold Ar at h;split at h
 ·obtain⟨a,ha,rfl⟩:=ZT.mp h;split
  ·rename_i q;exact .inl (by rw[q])
  ·rename_i q;exact .inr ⟨ha,q⟩
 ·rename_i z
  rcases ZH.mp h with q | q
  ·exact .inr ⟨q,fun y=>z (ZBz.mpr ⟨e,q,ZM y⟩)⟩
  ·rw[ZO]at q;exact .inl q
theorem Km{kvs:List (Key × V)}{k:Key}{v:V}:(k,v)∈Ar kvs k v:=by
 unfold Ar;split
 ·rename_i z;obtain⟨x,hx,e⟩:=ZBz.mp z;have e:=ZN e;exact ZT.mpr ⟨x,hx,by rw[if_pos e,e]⟩
 ·exact Zh _ (by simp)
theorem R9{kvs:List (Key × V)}{k:Key}{v:V}{e:Key × V}(h:e∈kvs)(n:e.1≠k):e∈Ar kvs k v:=by
 unfold Ar;split
 ·exact ZT.mpr ⟨e,h,by rw[if_neg n]⟩
 ·exact Z1 _ h
theorem Qy{kvs:List (Key × V)}{k:Key}{v:V}(nd:(kvs.map (·.1)).Nodup)(h:(k,v)∈kvs):valV kvs k=some v:=by
 induction kvs with
 | nil=>cases h
 | cons x r ih =>
  rw[Zg,ZBa]at nd
  rcases ZF.mp h with e | e
  ·subst e;exact B1 rfl
  ·rw[CF fun z=>nd.1 (by rw[z];exact ZT.mpr ⟨_,e,rfl⟩)];exact ih nd.2 e
theorem FMemo.put{n:Nat}{kvs fvs:List (Key × V)}(h:FMemo n kvs fvs){U:Nat}{g:Int}(hT:U < 2 ^ n)(hg:D3 kvs U g):FMemo n kvs (Ar fvs (kN U) (V.int g)) :=
 ⟨LO h.nd,fun e he=>by
  rcases put_mem he with rfl | ⟨q,_⟩
  ·exact⟨U,g,rfl,hT,hg⟩
  ·exact h.ok e q⟩
theorem Gh{fvs:List (Key × V)}{n:Nat}(nd:(fvs.map (·.1)).Nodup)(h:∀e∈fvs,∃(U:Nat) (v:V),e=(kN U,v)/\U < 2 ^ n)(n16:n<=16):fvs.length < 2 ^ 24:=by
 have hl:fvs.length<=2 ^ n:=by
  have e:(fvs.map fun e=>match e.1 with | Sum.inl z=>z.toNat | Sum.inr _=>0).length=fvs.length:=ZC ..;rw[<- e];apply CC
  ·refine ZB0.mpr (List.Pairwise.imp_of_mem ?_ (ZB0.mp nd));intro a b ha hb ne q;obtain⟨U,v,rfl,_⟩:=h a ha;obtain⟨U',v',rfl,_⟩:=h b hb;apply ne;have q':(U:Int).toNat=(U':Int).toNat:=q;rw[ZY,ZY]at q';rw[q']
  ·intro x hx;obtain⟨a,ha,rfl⟩:=ZT.mp hx;obtain⟨U,v,rfl,hU⟩:=h a ha
   show(U:Int).toNat < 2 ^ n
   rw[ZY];exact hU
 have:2 ^ n<=2 ^ 16:=Zz (by decide) n16
 lia
structure BrAt(K:W.Frag)(C:Addr)(n:Nat)(ys:List Nat)(kvs:List (Key × V))(H:Hp)(p nd fd:Addr):Prop where
 at_:∃dx yl fvs,H p=some (.ins C dx (CA (.ref yl) (.ref nd) (.ref fd)))/\H yl=some (.lst (iL ys))/\Rd H nd (.dK kvs)/\H fd=some (.dK fvs)/\FMemo n kvs fvs
 nums:NumsOk n kvs
 n16:n<=16
 y16:ys.length<=16
 ne:nd≠fd
 ylt:∀y∈ys,y < 2 ^ n
def KpB(nd fd:Addr)(H H':Hp):Prop:=(∀b o,b≠nd->b≠fd->H b=some o->H' b=some o)/\∀o u,H nd=some (.frz o u)->H' nd=some (.frz o u)
theorem KpB.refl{nd fd:Addr}{H:Hp}:KpB nd fd H H:=⟨fun _ _ _ _ e=>e,fun _ _ e=>e⟩
theorem KpB.trans{nd fd:Addr}{H H1 H2:Hp}(a:KpB nd fd H H1)(b:KpB nd fd H1 H2):KpB nd fd H H2:=⟨fun c o x y e=>b.1 c o x y (a.1 c o x y e),fun o u e=>b.2 o u (a.2 o u e)⟩
theorem KpB.same{nd fd:Addr}{H H':Hp}(s:Same H H'):KpB nd fd H H':=⟨fun b o _ _ e=>s b o e,fun o u e=>s _ _ e⟩
theorem BrAt.same{C:Addr}{n:Nat}{ys:List Nat}{kvs:List (Key × V)}{H H':Hp}{p nd fd:Addr}(r:BrAt K C n ys kvs H p nd fd)(s:Same H H'):BrAt K C n ys kvs H' p nd fd:=by
 obtain⟨dx,yl,fvs,h1,h2,h3,h4,h5⟩:=r.at_;refine⟨⟨dx,yl,fvs,s _ _ h1,s _ _ h2,?_,s _ _ h4,h5⟩,r.nums,r.n16,r.y16,r.ne,r.ylt⟩
 rcases h3 with h | ⟨o,h⟩
 ·exact .inl (s _ _ h)
 ·exact .inr ⟨o,s _ _ h⟩
theorem LJ{nd:Addr}{H:Hp}{kvs:List (Key × V)}{R:Addr->Obj->Hp->Prop}(hn:Rd H nd (.dK kvs))(h:∀o H1,H1 nd=some (.frz o (.dK kvs))->(∀b,b≠nd->H1 b=H b)->(∀o' u,H nd=some (.frz o' u)->H1 nd=some (.frz o' u))->R nd o H1):EU (.ref nd) H R:=by
 rcases hn with e | ⟨o,e⟩
 ·exact .inl ⟨kvs,e,fun o=>h o _ AD (fun b hb=>AM hb) fun o' u z=>by rw[e]at z;cases z⟩
 ·exact .inr ⟨kvs,o,e,h o H e (fun _ _=>rfl) fun _ _ z=>z⟩
theorem BrAt.held{C:Addr}{n:Nat}{ys:List Nat}{kvs:List (Key × V)}{H H1:Hp}{p nd fd:Addr}{o:Obj}(r:BrAt K C n ys kvs H p nd fd)(h1:H1 nd=some (.frz o (.dK kvs)))(h2:∀b,b≠nd->H1 b=H b):BrAt K C n ys kvs H1 p nd fd:=by
 obtain⟨dx,yl,fvs,k1,k2,k3,k4,k5⟩:=r.at_
 have no:∀{b:Addr} {u:HO},H b=some u->(u≠.dK kvs/\∀o,u≠.frz o (.dK kvs))->b≠nd:=fun hb hu z=>by
  subst z
  rcases k3 with z | ⟨o,z⟩
  ·rw[hb]at z;exact hu.1 (ZW z)
  ·rw[hb]at z;exact hu.2 o (ZW z)
 exact⟨⟨dx,yl,fvs,by rw[h2 p (no k1 ⟨(fun z=>nomatch z),(fun _ z=>nomatch z)⟩)];exact k1,by rw[h2 yl (no k2 ⟨(fun z=>nomatch z),(fun _ z=>nomatch z)⟩)];exact k2,.inr ⟨o,h1⟩,by rw[h2 fd (Ne.symm r.ne)];exact k4,k5⟩,r.nums,r.n16,r.y16,r.ne,r.ylt⟩
theorem BrAt.put{C:Addr}{n:Nat}{ys:List Nat}{kvs fvs':List (Key × V)}{H:Hp}{p nd fd:Addr}(r:BrAt K C n ys kvs H p nd fd)(m:FMemo n kvs fvs'):BrAt K C n ys kvs (upd H fd (.dK fvs')) p nd fd:=by
 obtain⟨dx,yl,fvs,k1,k2,k3,k4,k5⟩:=r.at_;refine⟨⟨dx,yl,fvs',?_,?_,?_,AD,m⟩,r.nums,r.n16,r.y16,r.ne,r.ylt⟩
 ·rw[AM (CZ k1 k4 (by intro z;cases z))];exact k1
 ·rw[AM (CZ k2 k4 (by intro z;cases z))];exact k2
 ·rcases k3 with z | ⟨o,z⟩
  ·exact .inl (by rw[AM r.ne];exact z)
  ·exact .inr ⟨o,by rw[AM r.ne];exact z⟩
def inF(U:Nat)(e:Key × V):Option Int:=match e with
 | (Sum.inl z,.int k)=>if z.toNat &&& U=z.toNat then some k else none
 | _=>none
theorem HI{U S:Nat}{k:Int}:inF U (kN S,.int k)=if S &&& U=S then some k else none:=by
 show(if (S:Int).toNat &&& U=(S:Int).toNat then some k else none)=_
 rw[ZY]
theorem Sd{n:Nat}{kvs:List (Key × V)}(h:NumsOk n kvs){U:Nat}{m:Int}:BB kvs U m ↔ ∃k∈kvs.filterMap (inF U),m<=k:=by
 constructor
 ·rintro⟨S,k,h1,h2,h3⟩;exact⟨k,ZB6.mpr ⟨_,h1,by rw[HI,if_pos h2]⟩,h3⟩
 ·rintro⟨k,hk,h3⟩;obtain⟨e,he,hf⟩:=ZB6.mp hk;obtain⟨S,k',rfl,_,_⟩:=h.ok e he;rw[HI]at hf
  by_cases z:S &&& U=S
  ·rw[if_pos z]at hf;cases hf;exact⟨S,_,he,z,h3⟩
  ·rw[if_neg z]at hf;cases hf
theorem PR{n:Nat}{kvs:List (Key × V)}(h:NumsOk n kvs){U:Nat}{M:Int}(h0:kvs.filterMap (inF U)=[]->M=0)(h1:kvs.filterMap (inF U)≠[]->M∈kvs.filterMap (inF U)/\∀a∈kvs.filterMap (inF U),a<=M):D3 kvs U M:=fun m hm=>by
 rw[Sd h]
 by_cases e:kvs.filterMap (inF U)=[]
 ·rw[e,h0 e];constructor
  ·intro;lia
  ·rintro⟨k,hk,_⟩;cases hk
 ·obtain⟨a1,a2⟩:=h1 e;exact⟨fun z=>⟨M,a1,z⟩,fun⟨k,hk,z⟩=>Z0 z (a2 k hk)⟩
def Dl(K:W.Frag)(C:Addr):Sp:=fun vs H Q _=>match vs with
 | [.ref p,.int z]=>∃n ys kvs nd fd U,BrAt K C n ys kvs H p nd fd/\z=(U:Nat)/\U < 2 ^ n/\∀(g:Int) H',D3 kvs U g->KpB nd fd H H'->BrAt K C n ys kvs H' p nd fd->Q (.int g) H'
 | _=>False
theorem Uj{C:Addr}:AQ (Dl K C):=fun vs H Q Q' E h q=>by
 unfold Dl at *;split at q
 ·revert q;repeat' first | exact h _ _ | exact A4 h | exact out_mono h | exact outT_mono h | walk_at "m"
 ·exact q.elim
theorem UA:FnOk P w K mg base CX0 2 T.f_z12 T.d_z12 ["self","things"] (Dl K T.C_Bearing):=by
 have G_z47:=@QS P w K mg base T;refine T.F_z12.ok sc_z12 (fun vs H Q E h=>by unfold Dl at h;split at h <;> first | rfl | exact h.elim) (fun cdv A outer s H vs Q E hr h=>?_);have hu:=Ag hr;have hr_z47:=hr.mono (show 1<=_ by decide);have mo1:AQ Dt:=Uy;unfold Dl at h;split at h;rotate_left
 ·exact h.elim
 rename_i p z;obtain⟨n,ys,kvs,nd,fd,U,R,e1,hT,q⟩:=h;subst e1;obtain⟨dx,yl,fvs,h1,h2,h3,h4,h5⟩:=id R.at_;refine⟨_,(@AE _ _ _ _ _ (@Ai _ _ _ _ _ _ _ _ (AX (Lj hu) (vv 1) (Ci T.cl_Bearing T.na_Bearing_found (vv 0))) (@AE _ _ _ _ _ (@DC _ _ _ _ _ _ _ (["each","number","things"]) 2 [1] _ _ _ _ 2 _ _ _ rfl sc_z12.nd rfl rfl (LG (Ci T.cl_Bearing T.na_Bearing_numbers (vv 0))) (by kernel_rfl) rfl rfl (by kernel_rfl) (fun c=>Jv (K:=K) (n:=2) rfl (B2 (AN (i:=0) (show(["each","number","things"]:List Str).Nodup by decide +kernel) rfl (by right)) (B2 (AN (i:=1) (show(["each","number","things"]:List Str).Nodup by decide +kernel) rfl (by right)) Df))) (Jy (Ey C4 (GF C4 EK) (Aj (by decide)) (Ey C4 EK (Aj (by decide)) Jk))) (fun c=>Cv (A7 (AH G_z47 hr_z47 rfl T.m_z47 T.F_z47.kp T.b_z47 .nil AG (AA (vv 0) (AA (vv 2) AB))))) (fun c=>(vv 1)) (by rfl) (by intro _;rfl)) (@AF _ _ _ (@GQ _ _ _ _ _ _ _ _ _ (Cr hu) (Ci T.cl_Bearing T.na_Bearing_found (vv 0)) (vv 1) (KQ (K:=K) (vv 2) T.z_max rfl) (by rfl)))) Ah) (@AF _ _ _ (@AK _ _ _ _ (Ls (Cr hu) (Ci T.cl_Bearing T.na_Bearing_found (vv 0)) (vv 1) (by intro _ _;rfl))))),?_⟩;refine AJ (fun σ H'=>∃(z2:Option V) (fvs':List (Key × V)) (g:Int),σ=[some (.ref p),some (.int (U:Nat)),z2]/\BrAt K T.C_Bearing n ys kvs H' p nd fd/\KpB nd fd H H'/\H' fd=some (.dK fvs')/\valV fvs' (kN U)=some (.int g)/\D3 kvs U g) ?_ ?_ (by walk_at "sm")
 ·refine⟨dx,_,_,h1,lb3 _ _ _,valV fvs (kN U),DGet.k (k:=kN U) h4,?_⟩;cases e:valV fvs (kN U) with
  | some v =>
   obtain⟨g,rfl,hg⟩:=h5.get e;exact⟨none,fvs,g,rfl,R,KpB.refl,h4,e,hg⟩
  | none =>
   refine⟨dx,_,_,h1,lb2 _ _ _,LJ h3 fun o H1 a1 a2 a3=>?_⟩;have R1:=R.held a1 a2;have kp1:KpB nd fd H H1:=⟨fun b u hb _ e=>by rw[a2 b hb];exact e,a3⟩;refine NN (kvs:=kvs) (fun j zs H'=>Same H1 H'/\zs=((kvs.take j).filterMap (inF U)).map V.int) ⟨Same.refl _,rfl⟩ (fun j zs H' _ ⟨s1,_⟩=>s1 _ _ a1) (fun j zs H' hj ⟨_,e⟩=>?_) ?_ ?_
   ·have l1:=Gh R.nums.nd (fun e he=>by obtain⟨S,k,h1,h2,_⟩:=R.nums.ok e he;exact⟨S,_,h1,h2⟩) R.n16;rw[e,ZC];refine ZBe (List.length_filterMap_le _ _) ?_;rw[ZV];have e:sizeLine=16777216:=by decide
    lia
   ·rintro j r pp zs H2 hr2 ⟨s2,rfl⟩ npp;obtain⟨S,k,rfl,hS,hk⟩:=R.nums.ok r (Zw hr2);refine⟨pp,_,rfl,.of AD,rfl,_,_,rfl,_,_,rfl,rfl,?_⟩;refine⟨S,U,rfl,rfl,?_⟩;have s3:=s2.trans (Same.upd (o:=.tup [kV (kN S),V.int k]) npp)
    have et:(kvs.take (j+1)).filterMap (inF U)=(kvs.take j).filterMap (inF U)++(if S &&& U=S then [k] else []):=by
     rw[Zi,hr2,List.filterMap_append]
     congr 1
     show List.filterMap (inF U) [(kN S,.int k)]=_;rw[ZBm,HI]
     by_cases z:S &&& U=S
     ·rw[if_pos z,if_pos z];rfl
     ·rw[if_neg z,if_neg z];rfl
    rw[et]
    by_cases z:S &&& U=S
    ·rw[if_pos z];show if decide (S &&& U=S)=true then _ else _
     rw[if_pos (ZM z)];exact⟨s3,by rw[ZK];rfl⟩
    ·rw[if_neg z];show if decide (S &&& U=S)=true then _ else _
     rw[if_neg (fun y=>z (ZN y))];exact⟨s3,by rw[Z4]⟩
   ·rintro zs H2 ⟨s2,rfl⟩ l nl;rw[Zm];have s3:=s2.trans (Same.upd (o:=.lst ((kvs.filterMap (inF U)).map V.int)) nl);have g3:=AD (H:=H2) (a:=l) (o:=.lst ((kvs.filterMap (inF U)).map V.int));generalize upd H2 l (.lst ((kvs.filterMap (inF U)).map V.int))=H3 at *;have R3:=R1.same s3;obtain⟨dx3,yl3,fvs3,b1,b2,b3,b4,b5⟩:=id R3.at_;refine⟨l,_,rfl,.of g3,fun M m0 m1=>?_⟩;have hg:=PR R.nums m0 m1;have hlen:=Gh b5.nd (fun e he=>by obtain⟨S,k,h1,h2,_⟩:=b5.ok e he;exact⟨S,_,h1,h2⟩) R.n16;refine⟨dx3,_,_,b1,lb3 _ _ _,fd,_,rfl,DPut.k (k:=kN U) b4 hlen,?_⟩;refine⟨_,_,M,rfl,R3.put (b5.put hT hg),kp1.trans ((KpB.same s3).trans ⟨fun b o x y e=>by rw[AM y];exact e,fun o u e=>by rw[AM R.ne];exact e⟩),AD,(Md fvs3 (kN U) (kN U) _).trans (if_pos rfl),hg⟩
 ·rintro σ H1 ⟨z2,fvs',g,rfl,R1,k1,f1,v1,g1⟩;obtain⟨dx1,yl1,fvs1,b1,_⟩:=id R1.at_;refine⟨dx1,_,_,b1,lb3 _ _ _,fd,.int g,rfl,?_,q g H1 g1 k1 R1⟩;rw[<- v1];exact DGet.k (k:=kN U) f1
def EY(K:W.Frag)(C:Addr):Sp:=fun vs H Q _=>match vs with
 | [.ref p,.int z,.int m]=>∃n ys kvs nd fd U,BrAt K C n ys kvs H p nd fd/\z=(U:Nat)/\U < 2 ^ n/\1<=m/\∀(b:Bool) H',(b=true ↔ BB kvs U m)->KpB nd fd H H'->BrAt K C n ys kvs H' p nd fd->Q (.bl b) H'
 | _=>False
theorem U1{C:Addr}:AQ (EY K C):=fun vs H Q Q' E h q=>by
 unfold EY at *;split at q
 ·revert q;repeat' first | exact h _ _ | exact A4 h | exact out_mono h | exact outT_mono h | walk_at "m"
 ·exact q.elim
theorem Mc{H:Hp}{a:Addr}{kvs:List (Key × V)}(h:Rd H a (.dK kvs)):IsD H a:=.inl ⟨kvs,h⟩
theorem Kx{H:Hp}{a:Addr}{kvs:List (Key × V)}{k:Key}(h:Rd H a (.dK kvs)):DGet H a (kV k) (valV kvs k):=.inl ⟨kvs,k,h,rfl,rfl⟩
theorem OX:FnOk P w K mg base CX0 3 T.f_z13 T.d_z13 ["self","things","number"] (EY K T.C_Bearing):=by
 have G_z12:=@UA P w K mg base T;refine T.F_z13.ok Nc (fun vs H Q E h=>by unfold EY at h;split at h <;> first | rfl | exact h.elim) (fun cdv A outer s H vs Q E hr h=>?_);have hu:=Ag hr;have hr_z12:=hr.mono (show 2<=_ by decide);have mo1:AQ (Dl K T.C_Bearing):=Uj
 match vs,h with
 | [.ref p,.int z,.int m],⟨n,ys,kvs,nd,fd,U,R,e1,hT,hm,q⟩ =>
 subst e1;obtain⟨dx,yl,fvs,h1,h2,h3,h4,h5⟩:=id R.at_;refine⟨_,(@AF _ _ _ (@AK _ _ _ _ (JN (A8 Ch (L5 (Cr hu) (Ci T.cl_Bearing T.na_Bearing_numbers (vv 0)) (vv 1) AC ⟨by rfl,by rfl,by rfl,by rfl⟩) (vv 2)) (CV (A8 Ch (FU (vv 0) T.cl_Bearing T.me_z12 G_z12 hr_z12 T.b_z12 .nil AG (AA (vv 1) AB)) (vv 2)))))),?_⟩;refine⟨dx,_,_,h1,lb2 _ _ _,nd,rfl,Mc h3,valV kvs (kN U),Kx (k:=kN U) h3,?_⟩;cases e:valV kvs (kN U) with
 | none =>
  have e0:¬decide (m<=(0:Int))=true:=fun z=>by have:=ZN z;lia
  show if decide (m<=(0:Int))=true then _ else _
  rw[if_neg e0];refine⟨p,dx,_,rfl,h1,nb3 _ _ _,n,ys,kvs,nd,fd,U,R,rfl,hT,fun g H1 hg kp R1=>q _ H1 ?_ kp R1⟩;rw[decide_eq_true_iff];exact hg m hm
 | some v =>
  obtain⟨S,k,ee,_,hk⟩:=R.nums.ok _ (Dq e);have e2:v=V.int k:=congrArg Prod.snd ee;subst e2;refine Ab (fun z=>?_) (fun z=>?_)
  ·exact q true H ⟨fun _=>⟨U,k,Dq e,Nat.and_self U,ZN z⟩,fun _=>rfl⟩ KpB.refl R
  ·refine⟨p,dx,_,rfl,h1,nb3 _ _ _,n,ys,kvs,nd,fd,U,R,rfl,hT,fun g H1 hg kp R1=>q _ H1 ?_ kp R1⟩;rw[decide_eq_true_iff];exact hg m hm
def DU(K:W.Frag)(C:Addr):Sp:=fun vs H Q _=>match vs with
 | [.ref p,.int z,.int m,.int v]=>∃n ys kvs nd fd U y,BrAt K C n ys kvs H p nd fd/\z=(U:Nat)/\U < 2 ^ n/\2<=m/\v=(y:Nat)/\∀(b:Bool) H',(b=true ↔ BB kvs (U &&& y) (m - 1)\/BB kvs (U - (U &&& y)) (m - 1))->KpB nd fd H H'->BrAt K C n ys kvs H' p nd fd->Q (.bl b) H'
 | _=>False
theorem RI{C:Addr}:AQ (DU K C):=fun vs H Q Q' E h q=>by
 unfold DU at *;split at q
 ·revert q;repeat' first | exact h _ _ | exact A4 h | exact out_mono h | exact outT_mono h | walk_at "m"
 ·exact q.elim
theorem RJ:FnOk P w K mg base CX0 4 T.f_z17 T.d_z17 ["self","things","number","yes"] (DU K T.C_Bearing):=by
 have G_z13:=@OX P w K mg base T;refine T.F_z17.ok sc_z17 (fun vs H Q E h=>by unfold DU at h;split at h <;> first | rfl | exact h.elim) (fun cdv A outer s H vs Q E hr h=>?_);have hu:=Ag hr;have hr_z13:=hr.mono (show 3<=_ by decide);have mo1:AQ (EY K T.C_Bearing):=U1;unfold DU at h;split at h;rotate_left
 ·exact h.elim
 rename_i p z m v;obtain⟨n,ys,kvs,nd,fd,U,y,R,e1,hT,hm,e2,q⟩:=h;subst e1 e2;refine⟨_,(@AE _ _ _ _ _ (@AS _ _ 4 _ _ _ _ sc_z17.nd rfl (by right) (AI Gd (vv 1) (vv 3)) (by rfl) (by walk_at "i")) (@AF _ _ _ (@AK _ _ _ _ (JN (FU (vv 0) T.cl_Bearing T.me_z13 G_z13 hr_z13 T.b_z13 .nil AG (AA (vv 4) (AA (AI CS (vv 2) AC) AB))) (CV (FU (vv 0) T.cl_Bearing T.me_z13 G_z13 hr_z13 T.b_z13 .nil AG (AA (AI CS (vv 1) (vv 4)) (AA (AI CS (vv 2) AC) AB)))))))),?_⟩;obtain⟨dx,yl,fvs,h1,h2,h3,h4,h5⟩:=id R.at_;have hle:=Nat.and_le_left (n:=U) (m:=y);refine AJ (fun σ H'=>σ=[some (.ref p),some (.int (U:Nat)),some (.int m),some (.int (y:Nat)),some (.int ((U &&& y:Nat):Int))]/\H=H') ?_ ?_ (by walk_at "sm")
 ·refine⟨?_,rfl⟩;show [some (V.ref p),some (V.int (U:Nat)),some (V.int m),some (V.int (y:Nat)),some (V.int (Builtin.bitAnd (U:Int) (y:Int)))]=_;rw[Lc]
 rintro σ _ ⟨rfl,rfl⟩;refine⟨p,dx,_,rfl,h1,nb2 _ _ _,n,ys,kvs,nd,fd,U &&& y,R,rfl,by lia,by lia,fun b1 H1 hb1 kp1 R1=>?_⟩;refine Ab (fun z=>?_) (fun z=>?_)
 ·exact q true H1 ⟨fun _=>.inl (hb1.mp z),fun _=>rfl⟩ kp1 R1
 ·obtain⟨dx1,yl1,fvs1,k1,_⟩:=id R1.at_;refine⟨p,dx1,_,rfl,k1,nb2 _ _ _,n,ys,kvs,nd,fd,U - (U &&& y),R1,by show(U:Int) - ((U &&& y:Nat):Int)=_;lia,by lia,by lia,fun b2 H2 hb2 kp2 R2=>q b2 H2 ?_ (kp1.trans kp2) R2⟩;rw[hb2];exact⟨.inr,fun h=>h.resolve_left fun x=>z (hb1.mpr x)⟩
def DS(K:W.Frag)(C:Addr):Sp:=fun vs H Q _=>match vs with
 | [.ref p]=>∃n ys kvs nd fd,BrAt K C n ys kvs H p nd fd/\∀(b:Bool) H',(b=true ↔ ∀(U:Nat) (m:Int),(kN U,V.int m)∈kvs->1 < m->∀y∈ys,BB kvs (U &&& y) (m - 1)\/BB kvs (U - (U &&& y)) (m - 1))->KpB nd fd H H'->Q (.bl b) H'
 | _=>False
theorem Tb{C:Addr}:AQ (DS K C):=fun vs H Q Q' E h q=>by
 unfold DS at *;split at q
 ·revert q;repeat' first | exact h _ _ | exact A4 h | exact out_mono h | exact outT_mono h | walk_at "m"
 ·exact q.elim
theorem SJ:FnOk P w K mg base CX0 5 T.f_z14 T.d_z14 ["self"] (DS K T.C_Bearing):=by
 have G_z17:=@RJ P w K mg base T;refine T.F_z14.ok sc_z14 (fun vs H Q E h=>by unfold DS at h;split at h <;> first | rfl | exact h.elim) (fun cdv A outer s H vs Q E hr h=>?_);have hu:=Ag hr;have hr_z17:=hr.mono (show 4<=_ by decide);have mo1:AQ (DU K T.C_Bearing):=RI;unfold DS at h;split at h;rotate_left
 ·exact h.elim
 rename_i p;obtain⟨n,ys,kvs,nd,fd,R,q⟩:=h;obtain⟨dx,yl,fvs,h1,h2,h3,h4,h5⟩:=id R.at_;refine⟨_,(@AE _ _ _ _ _ (@BF _ _ _ _ _ _ _ _ PassesOwn.never rfl (LG (Ci T.cl_Bearing T.na_Bearing_numbers (vv 0))) (Fe (K:=K) (n:=2) rfl (B2 (AN (i:=1) sc_z14.nd rfl (by right)) (B2 (AN (i:=2) sc_z14.nd rfl (by right)) Df))) (@AF _ _ _ (@Ai _ _ _ _ _ _ _ _ (PW.pt (Ct (AX Cg (vv 2) AC) (C2 (BQ (A7 (AT (Ke (K:=K) rfl) rfl T.z_all (by rfl) (AA (Ay (N':=["yes","self","things","number"]) (own:=1) (ix:=[0,1,2]) rfl (Az (K:=K) (Ci T.cl_Bearing T.na_Bearing_yeses (vv 0))) (by kernel_rfl) rfl rfl (by kernel_rfl) (fun c=>AN (i:=0) (show(["yes","self","things","number"]:List Str).Nodup by decide +kernel) rfl (by right)) (Aj (by decide)) (fun c=>A0) (fun c=>(FU (vv 1) T.cl_Bearing T.me_z17 G_z17 hr_z17 T.b_z17 .nil AG (AA (vv 2) (AA (vv 3) (AA (vv 0) AB)))))) AB))))))) (@AF _ _ _ (@AK _ _ _ _ A5)) Ah)) (by intro _;rfl)) (@AF _ _ _ (@AK _ _ _ _ A5))),?_⟩;refine AJ (fun σ H'=>KpB nd fd H H'/\∀(U:Nat) (m:Int),(kN U,V.int m)∈kvs->1 < m->∀y∈ys,BB kvs (U &&& y) (m - 1)\/BB kvs (U - (U &&& y)) (m - 1)) ?_ (fun σ H' ⟨kp,hall⟩=>q true H' ⟨fun _=>hall,fun _=>rfl⟩ kp) (by walk_at "sm");refine⟨dx,_,_,h1,lb2 _ _ _,LJ h3 fun o H1 a1 a2 a3=>?_⟩;have R1:=R.held a1 a2;have kp1:KpB nd fd H H1:=⟨fun b u hb _ e=>by rw[a2 b hb];exact e,a3⟩;refine Mq (kvs:=kvs) (fun j σ H'=>(∃z1 z2:Option V,σ=[some (.ref p),z1,z2])/\KpB nd fd H H'/\H' nd=some (.frz o (.dK kvs))/\BrAt K T.C_Bearing n ys kvs H' p nd fd/\∀(U:Nat) (m:Int),(kN U,V.int m)∈kvs.take j->1 < m->∀y∈ys,BB kvs (U &&& y) (m - 1)\/BB kvs (U - (U &&& y)) (m - 1)) ⟨⟨_,_,rfl⟩,kp1,a1,R1,fun U m hm=>by rw[ZB2]at hm;cases hm⟩ (fun j σ H' _ ⟨_,_,e,_⟩=>e) ?_ (fun σ H' ⟨_,kp,_,_,hall⟩=>⟨kp,by rw[Zm]at hall;exact hall⟩);rintro j r pp σ H2 hr2 ⟨⟨z1,z2,rfl⟩,kp2,f2,R2,hall⟩ npp;obtain⟨U,m,rfl,hU,hm1⟩:=R.nums.ok r (Zw hr2);have s3:=Same.upd (o:=.tup [kV (kN U),V.int m]) npp;have hmem:(kN U,V.int m)∈kvs:=Zw hr2;have R3:=R2.same s3;have kp3:=kp2.trans (KpB.same s3);have f3:=s3 _ _ f2;refine⟨_,.inr (.of AD),rfl,_,_,rfl,_,_,rfl,rfl,?_⟩
 have hstep:∀H4,(1 < m->∀y∈ys,BB kvs (U &&& y) (m - 1)\/BB kvs (U - (U &&& y)) (m - 1))->KpB nd fd H H4->H4 nd=some (.frz o (.dK kvs))->BrAt K T.C_Bearing n ys kvs H4 p nd fd->(∃z1 z2:Option V,[some (V.ref p),some (V.int (U:Nat)),some (V.int m)]=[some (V.ref p),z1,z2])/\KpB nd fd H H4/\H4 nd=some (.frz o (.dK kvs))/\BrAt K T.C_Bearing n ys kvs H4 p nd fd/\∀(U:Nat) (m:Int),(kN U,V.int m)∈kvs.take (j+1)->1 < m->∀y∈ys,BB kvs (U &&& y) (m - 1)\/BB kvs (U - (U &&& y)) (m - 1):=by
  intro H4 hh kp4 f4 R4;refine⟨⟨_,_,rfl⟩,kp4,f4,R4,fun U' m' hm'=>?_⟩;rw[Zi,hr2]at hm'
  rcases ZH.mp hm' with x | x
  ·exact hall U' m' x
  ·have x':(kN U',V.int m')=(kN U,V.int m):=by simpa using x
   have e1:kN U'=kN U:=congrArg Prod.fst x';have e2:V.int m'=V.int m:=congrArg Prod.snd x';cases e2;have e3:U'=U:=by injection e1 with z;lia
   subst e3;exact hh
 generalize upd H2 pp (.tup [kV (kN U),V.int m])=H3 at *;refine Ab (fun z=>?_) (fun z=>?_)
 ·have hm2:1 < m:=ZN z;obtain⟨dx3,yl3,fvs3,b1,b2,b3,b4,b5⟩:=id R3.at_;refine⟨dx3,_,_,b1,lb1 _ _ _,.inl ⟨⟨_,.of b2⟩,?_⟩⟩;have y16:=R.y16
  refine EZ (xs:=iL ys) (fun i zs H'=>∃bs:List Bool,zs=bs.map V.bl/\bs.length=i/\KpB nd fd H3 H'/\H' yl3=some (.lst (iL ys))/\H' nd=some (.frz o (.dK kvs))/\BrAt K T.C_Bearing n ys kvs H' p nd fd/\∀(t:Nat) (y:Nat),t < i->ys[t]? = some y->(bs[t]? = some true ↔ BB kvs (U &&& y) (m - 1)\/BB kvs (U - (U &&& y)) (m - 1))) ⟨[],rfl,rfl,KpB.refl,b2,f3,R3,fun t y h=>absurd h (ZBN _)⟩ (fun i zs H' _ ⟨_,_,_,_,e,_⟩=>.of e) (fun i zs H' hi ⟨bs,e,e2,_⟩=>by
   rw[Ax]at hi;rw[e,ZC,e2];exact Ak (by lia)) ?_ ?_
  ·rintro i x zs H4 hx ⟨bs,rfl,hbl,kp4,y4,f4,R4,hh⟩;obtain⟨y,hy,_,rfl⟩:=Cy hx;obtain⟨dx4,yl4,fvs4,c1,_⟩:=id R4.at_;refine⟨p,dx4,_,rfl,c1,nb1 _ _ _,n,ys,kvs,nd,fd,U,y,R4,rfl,hU,by lia,rfl,fun b H5 hb kp5 R5=>?_⟩;refine⟨bs++[b],by rw[ZK];rfl,by rw[ZG,hbl];rfl,kp4.trans kp5,kp5.1 _ _ (fun z=>by rw[z,f4]at y4;cases y4) (fun z=>?_) y4,kp5.2 _ _ f4,R5,fun t y' ht hy'=>?_⟩
   ·obtain⟨_,_,fvs5,_,_,_,d4,_⟩:=R4.at_;rw[z,d4]at y4;cases y4
   ·rcases Zs t i with a | a
    ·rw[ZBb (by lia)];exact hh t y' a hy'
    ·have:t=i:=by lia
     subst this;rw[hy]at hy';cases hy';rw[ZBA (by lia),hbl,Nat.sub_self];rw[<- hb];simp
  ·rintro zs H4 ⟨bs,rfl,hbl,kp4,y4,f4,R4,hh⟩ l nl;rw[Ax]at hbl hh;refine⟨bs,.of AD,?_⟩;have s5:=Same.upd (o:=.lst (bs.map V.bl)) nl
   have key:bs.all id=true ↔ ∀y∈ys,BB kvs (U &&& y) (m - 1)\/BB kvs (U - (U &&& y)) (m - 1):=by
    rw[ZBC];constructor
    ·intro h y hy;obtain⟨t,ht,rfl⟩:=Z8 hy;refine(hh t _ ht (ZE ht)).mp ?_
     have:=h _ (Zc (show t < bs.length by lia))
     rw[ZE (show t < bs.length by lia)];exact congrArg some this
    ·intro h b hb;obtain⟨t,ht,rfl⟩:=Z8 hb
     have:=(hh t ys[t] (by lia) (ZE (by lia))).mpr (h _ (Zc (by lia)))
     rw[ZE ht]at this;exact ZW this
   cases hb:bs.all id with
   | true=>exact hstep _ (fun _=>key.mp hb) (kp3.trans (kp4.trans (KpB.same s5))) (s5 _ _ f4) (R4.same s5)
   | false =>
    refine q false _ ⟨(fun z=>nomatch z),fun h=>?_⟩ (kp3.trans (kp4.trans (KpB.same s5)));exact absurd (hb.symm.trans (key.mpr (h U m hmem hm2))) (by decide)
 ·exact hstep _ (fun h=>absurd (ZM h) z) kp3 f3 R3
def EA:Sp:=fun vs H Q _=>match vs with
 | [.ref t,.int n]=>∃m N:Nat,GFeed H t N/\N<=900000000/\n=m/\1<=m/\m<=4/\∀(bs:List Bool) p H',bs.length=2 ^ m->H p=none->H' p=some (.tup (bs.map V.bl))->GFeed H' t (N+18)->Frm t H H'->Q (.ref p) H'
 | _=>False
theorem S0:AQ EA:=fun vs H Q Q' E h q=>by
 unfold EA at *;split at q
 ·revert q;repeat' first | exact h _ _ | exact A4 h | exact out_mono h | exact outT_mono h | walk_at "m"
 ·exact q.elim
theorem Aa{t:Addr}{H H':Hp}(h:∀b,b≠t->H' b=H b):Frm t H H':=fun b o n e=>by rw[h b n];exact e
theorem J4:FnOk P w K mg base CX0 2 T.f_z30 T.d_z30 ["_law_feed_here","_law_n"] EA:=by
 have G_z35:=@CT P w K mg base T;refine T.F_z30.ok sc_z30 (fun vs H Q E h=>by unfold EA at h;split at h <;> first | rfl | exact h.elim) (fun cdv A outer s H vs Q E hr h=>?_);have hu:=Ag hr;have hr_z35:=hr.mono (show 1<=_ by decide);unfold EA at h;split at h;rotate_left
 ·exact h.elim
 rename_i t n;obtain⟨m,N,F,hN,e1,m1,m4,q⟩:=h;subst e1;refine⟨_,(@AE _ _ _ _ _ (@AS _ _ 2 _ _ _ _ sc_z30.nd rfl (by right) (AI Ly AC (vv 1)) (by rfl) (by walk_at "i")) (@AE _ _ _ _ _ (@AS _ _ 3 _ _ _ _ sc_z30.nd rfl (by right) (AH G_z35 hr_z35 rfl T.m_z35 T.F_z35.kp T.b_z35 .nil AG (AA (vv 0) (AA AC AB))) (by rfl) (by walk_at "i")) (@AE _ _ _ _ _ (@Ai _ _ _ _ _ _ _ _ (AX B9 (vv 3) AC) (@AF _ _ _ (@AK _ _ _ _ (Af (BC (K:=K)) rfl T.z_tuple (by rfl) (AA (Ay (N':=["_law_k","_law_feed_here"]) (own:=1) (ix:=[0]) rfl (BA rfl T.z_range (AA (vv 2) AB)) (by kernel_rfl) rfl rfl (by kernel_rfl) (fun c=>AN (i:=0) (show(["_law_k","_law_feed_here"]:List Str).Nodup by decide +kernel) rfl (by right)) (Aj (by decide)) (fun c=>A0) (fun c=>(A8 (kEq (K:=K) hu) (AH G_z35 hr_z35 rfl T.m_z35 T.F_z35.kp T.b_z35 .nil AG (AA (vv 1) (AA AC AB))) AC))) AB)))) Ah) (@AE _ _ _ _ _ (@Ai _ _ _ _ _ _ _ _ (AX (kEq (K:=K) hu) (vv 3) AC) (@AE _ _ _ _ _ (@AS _ _ 4 _ _ _ _ sc_z30.nd rfl (by right) (AH G_z35 hr_z35 rfl T.m_z35 T.F_z35.kp T.b_z35 .nil AG (AA (vv 0) (AA (vv 2) AB))) (by rfl) (by walk_at "i")) (@AF _ _ _ (@AK _ _ _ _ (Af (BC (K:=K)) rfl T.z_tuple (by rfl) (AA (Ay (N':=["_law_k","_law_place"]) (own:=1) (ix:=[4]) rfl (BA rfl T.z_range (AA (vv 2) AB)) (by kernel_rfl) rfl rfl (by kernel_rfl) (fun c=>AN (i:=0) (show(["_law_k","_law_place"]:List Str).Nodup by decide +kernel) rfl (by right)) (Aj (by decide)) (fun c=>A0) (fun c=>(A8 (kEq (K:=K) hu) (vv 0) (vv 1)))) AB))))) Ah) (@AE _ _ _ _ _ (@Ai _ _ _ _ _ _ _ _ (AX (kEq (K:=K) hu) (vv 3) AC) (@AE _ _ _ _ _ (@AS _ _ 5 _ _ _ _ sc_z30.nd rfl (by right) (AH G_z35 hr_z35 rfl T.m_z35 T.F_z35.kp T.b_z35 .nil AG (AA (vv 0) (AA (vv 1) AB))) (by rfl) (by walk_at "i")) (@AF _ _ _ (@AK _ _ _ _ (Af (BC (K:=K)) rfl T.z_tuple (by rfl) (AA (Ay (N':=["_law_k","_law_one"]) (own:=1) (ix:=[5]) rfl (BA rfl T.z_range (AA (vv 2) AB)) (by kernel_rfl) rfl rfl (by kernel_rfl) (fun c=>AN (i:=0) (show(["_law_k","_law_one"]:List Str).Nodup by decide +kernel) rfl (by right)) (Aj (by decide)) (fun c=>A0) (fun c=>(A8 (kEq (K:=K) hu) (AI Gd (AI Ul (vv 0) (vv 1)) AC) AC))) AB))))) Ah) (@AE _ _ _ _ _ (@AS _ _ 6 _ _ _ _ sc_z30.nd rfl (by right) (A8 (kEq (K:=K) hu) (AH G_z35 hr_z35 rfl T.m_z35 T.F_z35.kp T.b_z35 .nil AG (AA (vv 0) (AA AC AB))) AC) (by rfl) (by walk_at "i")) (@AF _ _ _ (@AK _ _ _ _ (Af (BC (K:=K)) rfl T.z_tuple (by rfl) (AA (Ay (N':=["_law_k","_law_answer"]) (own:=1) (ix:=[6]) rfl (BA rfl T.z_range (AA (vv 2) AB)) (by kernel_rfl) rfl rfl (by kernel_rfl) (fun c=>AN (i:=0) (show(["_law_k","_law_answer"]:List Str).Nodup by decide +kernel) rfl (by right)) (Aj (by decide)) (fun c=>A0) (fun c=>(vv 1))) AB)))))))))),?_⟩;have e2:(1:Int) * 2 ^ ((m:Int).toNat)=((2 ^ m:Nat):Int):=by rw[ZY,Int.natCast_pow,Int.one_mul];rfl
 have h16:2 ^ m<=16:=Zz (n:=2) (by decide) m4;have h2:2<=2 ^ m:=Zz (n:=2) (i:=1) (by decide) m1;refine⟨⟨by lia,by lia,by decide⟩,?_⟩;rw[e2];generalize hM:2 ^ m=M at *;have hMd:okDiv (M:Int):=Ad (by lia) (Z0 (Int.ofNat_le.mpr h16) (by decide))
 have fin:∀(N':Nat) (H1:Hp) (bs:List Bool) (l:Addr),GFeed H1 t N'->N'<=N+18->Frm t H H1->bs.length=M->H1 l=none->∃ys,(SqL K (upd H1 l (.lst (bs.map V.bl))) l ys/\∀p,upd H1 l (.lst (bs.map V.bl)) p=none->Q (.ref p) (upd (upd H1 l (.lst (bs.map V.bl))) p (.tup ys)))\/(SqT K (upd H1 l (.lst (bs.map V.bl))) l ys/\Q (.ref l) (upd H1 l (.lst (bs.map V.bl)))):=by
  intro N' H1 bs l F1 hN' fr hb hl;refine⟨_,.inl ⟨.of AD,fun p hp=>?_⟩⟩;have f2:Frm t H (upd H1 l (.lst (bs.map V.bl))):=fr.trans (Frm.upd hl);have F2:=F1.upd (o:=.lst (bs.map V.bl)) hl;exact q bs p _ hb (F2.free f2 hp) AD ((F2.upd hp).mono (by lia)) (f2.trans (Frm.upd hp))
 refine⟨N,F,by lia,Ad (by decide) (by decide),fun way H2 w0 w1 F2 f2=>?_⟩;dsimp only[Ae];refine Ab (fun e=>?_) (fun e=>?_)
 ·refine⟨(M:Int),rfl,by lia,by lia,?_⟩
  refine Bj (fun i ys H'=>GFeed H' t (N+1+i)/\Frm t H H'/\∃bs:List Bool,ys=bs.map V.bl/\bs.length=i) ⟨F2,Aa f2,[],rfl,rfl⟩ (fun i ys H' hi ⟨_,_,bs,e,el⟩=>by
   rw[e];exact Ak (by rw[ZC];lia)) ?_ ?_
  ·rintro i ys H' hi ⟨Fi,fi,bs,rfl,rfl⟩;refine⟨_,Fi,by lia,Ad (by decide) (by decide),fun d H3 _ _ F3 f3=>?_⟩;exact⟨F3.mono (by lia),fi.trans (Aa f3),bs++[(false ^^ (d == 1))],by rw[ZK];rfl,by rw[ZG];rfl⟩
  ·rintro ys H' ⟨Fi,fi,bs,rfl,hb⟩ l' hl;exact fin _ _ bs l' Fi (by lia) fi (by lia) hl
 dsimp only[Cq];refine Ab (fun e=>?_) (fun e=>?_)
 ·refine⟨_,F2,by lia,hMd,fun pl H3 p0 p1 F3 f3=>?_⟩;dsimp only[Ae];refine⟨(M:Int),rfl,by lia,by lia,?_⟩
  refine Bj (fun i ys H'=>H'=H3/\∃bs:List Bool,ys=bs.map V.bl/\bs.length=i) ⟨rfl,[],rfl,rfl⟩ (fun i ys H' hi ⟨_,bs,e,el⟩=>by
   rw[e];exact Ak (by rw[ZC];lia)) ?_ ?_
  ·rintro i ys H' hi ⟨rfl,bs,rfl,rfl⟩;exact⟨rfl,bs++[(false ^^ ((0+(bs.length:Int)) == pl))],by rw[ZK];rfl,by rw[ZG];rfl⟩
  ·rintro ys H' ⟨rfl,bs,rfl,hb⟩ l' hl;exact fin _ _ bs l' F3 (by lia) ((Aa f2).trans (Aa f3)) (by lia) hl
 dsimp only[Cq];refine Ab (fun e=>?_) (fun e=>?_)
 ·refine⟨_,F2,by lia,Ad (by lia) (by lia),fun on H3 p0 p1 F3 f3=>?_⟩;dsimp only[Ae];refine⟨(M:Int),rfl,by lia,by lia,?_⟩
  refine Bj (fun i ys H'=>H'=H3/\∃bs:List Bool,ys=bs.map V.bl/\bs.length=i) ⟨rfl,[],rfl,rfl⟩ (fun i ys H' hi ⟨_,bs,e,el⟩=>by
   rw[e];exact Ak (by rw[ZC];lia)) ?_ ?_
  ·rintro i ys H' hi ⟨rfl,bs,rfl,rfl⟩;refine⟨p0,?_⟩;exact⟨rfl,bs++[_],by rw[ZK];rfl,by rw[ZG];rfl⟩
  ·rintro ys H' ⟨rfl,bs,rfl,hb⟩ l' hl;exact fin _ _ bs l' F3 (by lia) ((Aa f2).trans (Aa f3)) (by lia) hl
 dsimp only[Cq];refine⟨_,F2,by lia,Ad (by decide) (by decide),fun an H3 p0 p1 F3 f3=>?_⟩;dsimp only[Ae,mEq];refine⟨(M:Int),rfl,by lia,by lia,?_⟩
 refine Bj (fun i ys H'=>H'=H3/\∃bs:List Bool,ys=bs.map V.bl/\bs.length=i) ⟨rfl,[],rfl,rfl⟩ (fun i ys H' hi ⟨_,bs,e,el⟩=>by
  rw[e];exact Ak (by rw[ZC];lia)) ?_ ?_
 ·rintro i ys H' hi ⟨rfl,bs,rfl,rfl⟩;exact⟨rfl,bs++[_],by rw[ZK];rfl,by rw[ZG];rfl⟩
 ·rintro ys H' ⟨rfl,bs,rfl,hb⟩ l' hl;exact fin _ _ bs l' F3 (by lia) ((Aa f2).trans (Aa f3)) (by lia) hl
def Bx(m i:Nat):List Bool:=(List.range (2 ^ m)).map fun p=>p / 2 ^ i % 2 == 1
def GK(bs:List Bool):List Dv:=bs.map fun b=>Dv.int (if b then 1 else 0)
def Bq(bs:List Bool):List V:=bs.map fun b=>V.int (if b then 1 else 0)
def B0(m n:Nat):List Dv:=(List.range n).map fun i=>.tup ((Bx m i).map Dv.bl)
def JH(bs:List Bool)(m:Nat):Dv:=.tup [.tup (GK bs),.tup (B0 m m)]
theorem Ud(m i:Nat):(Bx m i).length=2 ^ m:=by unfold Bx;simp
theorem KY(m n:Nat):B0 m (n+1)=B0 m n++[.tup ((Bx m n).map Dv.bl)]:=by unfold B0;rw[ZBq,ZK];rfl
theorem MU(m n:Nat):(B0 m n).length=n:=by unfold B0;simp
theorem Ki{K:W.Frag}{H:Hp}:∀bs:List Bool,Reps K H (GK bs) (Bq bs)
 | []=>Am
 | b::bs=>Ap Fo (Ki bs)
theorem Nu(bs:List Bool):(Bq bs).length=bs.length:=by unfold Bq;simp
theorem RH(bs cs:List Bool):Bq (bs++cs)=Bq bs++Bq cs:=by unfold Bq;simp
theorem LW(m:Nat):∀n,BI (B0 m n)=true
 | 0=>rfl
 | n+1=>by
  rw[KY,L8,LW m n];unfold BI CN;rw[Ia];rfl
def Qh(K:W.Frag)(H:Hp)(Q:VK)(d:Dv):Prop:=∀u H',Same H H'->Rep K H' d u->Q u H'
def GV(K:W.Frag):Sp:=fun vs H Q _=>match vs with
 | [.ref p]=>∃(bs:List Bool) (m:Nat),SqT K H p (bs.map V.bl)/\bs.length=2 ^ m/\1<=m/\m<=4/\Qh K H Q (JH bs m)
 | _=>False
theorem T1:FnOk P w K mg base CX0 1 T.f_z16 T.d_z16 ["_law_table_here"] (GV K):=by
 refine T.F_z16.ok sc_z16 (fun vs H Q E h=>by unfold GV at h;split at h <;> first | rfl | exact h.elim) (fun cdv A outer s H vs Q E hr h=>?_);have hu:=Ag hr;unfold GV at h;split at h;rotate_left
 ·exact h.elim
 rename_i p;obtain⟨bs,m,hp,hb,m1,m4,q⟩:=h;have h16:2 ^ m<=16:=Zz (n:=2) (by decide) m4;have hbl:(bs.map V.bl).length=2 ^ m:=by rw[ZC];exact hb
 refine⟨_,(@AE _ _ _ _ _ (@AS _ _ 1 _ _ _ _ sc_z16.nd rfl (by right) (@A2 _ _ _ _ AB) (by rfl) (by walk_at "i")) (@AE _ _ _ _ _ (@AS _ _ 2 _ _ _ _ sc_z16.nd rfl (by right) AC (by rfl) (by walk_at "i")) (@AE _ _ _ _ _ (@GI _ _ _ _ _ _ PassesOwn.never (AX B9 (vv 2) (AT (Av (K:=K)) rfl T.z_len (by rfl) (AA (vv 0) AB))) (@AE _ _ _ _ _ (@Cw _ _ _ _ (DR (K:=K) (vv 1) (AA (Af (BC (K:=K)) rfl T.z_tuple (by rfl) (AA (Ay (N':=["_law_k","_law_many"]) (own:=1) (ix:=[2]) rfl (BA rfl T.z_range (AA (AT (Av (K:=K)) rfl T.z_len (by rfl) (AA (vv 0) AB)) AB)) (by kernel_rfl) rfl rfl (by kernel_rfl) (fun c=>AN (i:=0) (show(["_law_k","_law_many"]:List Str).Nodup by decide +kernel) rfl (by right)) (Aj (by decide)) (fun c=>A0) (fun c=>(A8 (kEq (K:=K) hu) (AI C7 (AI Ff (vv 0) (vv 1)) AC) AC))) AB)) AB)) (by rfl)) (@AF _ _ _ (@AS _ _ 2 _ _ _ _ sc_z16.nd rfl (by right) (AI Br AC (vv 2)) (by rfl) (by walk_at "i"))))) (@AF _ _ _ (@AK _ _ _ _ (AW (AA (Af (BC (K:=K)) rfl T.z_tuple (by rfl) (AA (@Ay _ _ _ _ _ _ _ ["_law_answer"] 1 [] _ _ _ _ rfl (Az (K:=K) (vv 0)) (by kernel_rfl) rfl rfl (by kernel_rfl) (fun c=>AN (i:=0) (show(["_law_answer"]:List Str).Nodup by decide +kernel) rfl (by right)) (Aj (by decide)) (fun c=>A0) (fun c=>(Af DE rfl T.z_int (by rfl) (AA (vv 0) AB))) (by intro _;rfl)) AB)) (AA (Af (BC (K:=K)) rfl T.z_tuple (by rfl) (AA (vv 1) AB)) AB)))))))),?_⟩;refine⟨smq rfl,fun l hl=>?_⟩;dsimp only[Ae];refine AJ (fun σ H'=>σ=[some (.ref p),some (.ref l),some (.int 1)]/\upd H l (.lst [])=H') ⟨rfl,rfl⟩ ?_ (by walk_at "sm");rintro σ _ ⟨rfl,rfl⟩;refine AJ (fun σ H'=>∃(z:Option V) (rs:List V),σ=[some (.ref p),some (.ref l),z]/\Same H H'/\H' l=some (.lst rs)/\Reps K H' (B0 m m) rs) ?_ ?_ (by walk_at "sm")
 ·refine⟨fun μ σ H'=>∃(i:Nat) (rs:List V),μ=m - i/\i<=m/\σ=[some (.ref p),some (.ref l),some (.int (2 ^ i:Nat))]/\Same H H'/\H' l=some (.lst rs)/\Reps K H' (B0 m i) rs,⟨m,0,[],by lia,by lia,rfl,Same.upd hl,AD,Am⟩,?_⟩;rintro μ σ H1 ⟨i,rs,rfl,hi,rfl,S1,g1,R1⟩;have hrl:rs.length=i:=by have:=R1.length;rw[MU]at this;lia
  have hpi:(0:Nat) < 2 ^ i:=Nat.two_pow_pos i;have hle:(2:Nat) ^ i<=2 ^ m:=Zz (by decide) hi;refine⟨2 ^ m,.inr ⟨_,S1.sqT hp,hbl.symm⟩,?_⟩;refine Ab (fun e=>?_) (fun e=>?_)
  ·have him:i < m:=by
    have e':((2 ^ i:Nat):Int) < ((2 ^ m:Nat):Int):=ZN e
    rcases Zs i m with z | z
    ·exact z
    ·have:i=m:=by lia
     subst this;lia
   refine⟨.inl ⟨rfl,_,.of g1⟩,?_⟩;refine⟨2 ^ m,.inr ⟨_,S1.sqT hp,hbl.symm⟩,((2 ^ m:Nat):Int),rfl,by lia,by lia,?_⟩
   refine Bj (fun k ys H'=>H'=H1/\ys=((List.range k).map (fun q=>q / 2 ^ i % 2 == 1)).map V.bl) ⟨rfl,rfl⟩ (fun k ys H' hk ⟨_,e⟩=>by
    rw[e,ZC,ZC,ZBV];exact Ak (by lia)) ?_ ?_
   ·rintro k ys H' hk ⟨rfl,rfl⟩;refine⟨Ad (by lia) (Z0 (Int.ofNat_le.mpr (ZP hle h16)) (by decide)),by decide,rfl,?_⟩
    have ee:(false ^^ (((0:Int)+(k:Int)) / ((2 ^ i:Nat):Int) % 2 == 1))=(k / 2 ^ i % 2 == 1):=by
     rw[ZBg,Int.zero_add,<- Int.natCast_ediv,ZBD];simp only[beq_iff_eq];lia
    rw[QG,<- ee]
   ·rintro ys H' ⟨rfl,rfl⟩ k hk;rw[ZY];refine⟨_,.inl ⟨.of AD,fun p3 hp3=>?_⟩⟩;have erow:((List.range (2 ^ m)).map (fun q=>q / 2 ^ i % 2 == 1)).map V.bl=(Bx m i).map V.bl:=rfl;rw[erow];have s3:=(Same.upd (o:=.lst ((Bx m i).map V.bl)) hk).trans (Same.upd (o:=.tup ((Bx m i).map V.bl)) hp3);have g3p:=AD (H:=upd H' k (.lst ((Bx m i).map V.bl))) (a:=p3) (o:=.tup ((Bx m i).map V.bl));have nl:p3≠l:=Ne.symm (CI (Same.upd (o:=.lst ((Bx m i).map V.bl)) hk _ _ g1) hp3);generalize upd (upd H' k (.lst ((Bx m i).map V.bl))) p3 (.tup ((Bx m i).map V.bl))=H3 at *;refine⟨_,s3 _ _ g1,Ak (by lia),?_⟩;dsimp only[Cq,JG,Ae];refine⟨.inr (.inl ⟨by decide,by decide⟩),?_⟩;have R3:Reps K H3 (B0 m i) rs:=Reps.same s3 _ _ R1;have fr:Frm l H3 (upd H3 l (.lst (rs++[.ref p3]))):=Frm.updT
    have R4:Reps K (upd H3 l (.lst (rs++[.ref p3]))) (B0 m (i+1)) (rs++[.ref p3]):=by
     rw[KY];refine Reps.append (Reps.frm fr ⟨_,s3 _ _ g1⟩ _ _ (LW m i) R3) (Ap ?_ Am);exact BL (by rw[AM nl];exact g3p) (CH _)
    refine⟨m - (i+1),by lia,i+1,_,rfl,him,?_,Rb (S1.trans s3) hl,AD,R4⟩
    have:(2:Int) * ((2 ^ i:Nat):Int)=((2 ^ (i+1):Nat):Int):=by rw[Nat.pow_succ];lia
    rw[<- this];rfl
  ·have him:i=m:=by
    rcases Zs i m with z | z
    ·exact absurd (ZM (show((2 ^ i:Nat):Int) < ((2 ^ m:Nat):Int) from Int.ofNat_lt.mpr (Nat.pow_lt_pow_right (by decide) z))) e
    ·lia
   subst him;exact⟨_,rs,rfl,S1,g1,R1⟩
 rintro σ H1 ⟨z,rs,rfl,S1,g1,R1⟩;have hrl:rs.length=m:=by have:=R1.length;rw[MU]at this;lia
 refine .inr ⟨⟨_,S1.sqT hp⟩,?_⟩
 refine Bk (xs:=bs.map V.bl) (fun i ys H'=>H'=H1/\ys=Bq (bs.take i)) ⟨rfl,rfl⟩ (fun i ys H' _ ⟨e,_⟩=>by rw[e];exact S1.sqT hp) (fun i ys H' hi ⟨_,e⟩=>by
  rw[e,Nu,ZV];exact Ak (by lia)) ?_ ?_
 ·rintro i x ys H' hx ⟨rfl,rfl⟩
  have hi:i < bs.length:=by
   have:=(Zb.mp hx).1
   rwa [ZC]at this
  rw[ZX,ZE hi]at hx;cases hx;refine⟨rfl,?_⟩;rw[Zi,ZE hi,RH];rfl
 ·rintro ys H' ⟨rfl,rfl⟩ k hk;rw[ZBH (by rw[ZC];exact ZD _)];refine⟨_,.inl ⟨.of AD,fun p3 hp3=>?_⟩⟩;have s3:=(Same.upd (o:=.lst (Bq bs)) hk).trans (Same.upd (o:=.tup (Bq bs)) hp3);have g3p:=AD (H:=upd H' k (.lst (Bq bs))) (a:=p3) (o:=.tup (Bq bs));generalize upd (upd H' k (.lst (Bq bs))) p3 (.tup (Bq bs))=H3 at *;refine⟨_,.inl ⟨.of (s3 _ _ g1),fun p4 hp4=>?_⟩⟩;refine⟨smq rfl,fun p5 hp5=>?_⟩;have s5:=(Same.upd (o:=.tup rs) hp4).trans (Same.upd (o:=.tup [.ref p3,.ref p4]) hp5);refine q _ _ (S1.trans (s3.trans s5)) ?_;refine BL AD (Ap (BL (s5 _ _ g3p) (Ki bs)) (Ap (BL (Same.upd hp5 _ _ AD) ?_) Am));exact Reps.same (s3.trans s5) _ _ R1
def Ac(ts:List (List Bool)):List Dv:=ts.map fun b=>.tup (b.map Dv.bl)
def gmD(ls:List Int)(rs:List (List Bool)):Dv:=.tup [.tup (ls.map Dv.int),.tup (Ac rs)]
structure Gm(ls:List Int)(rs:List (List Bool)):Prop where
 l1:1<=ls.length
 l16:ls.length<=16
 r1:1<=rs.length
 r16:rs.length<=16
 row:∀r∈rs,r.length=ls.length
 sm:∀x∈ls,x.natAbs<=100000000000000000000
theorem CW:∀ts:List (List Bool),BI (Ac ts)=true
 | []=>rfl
 | b::ts=>by
  show BI (Dv.tup (b.map Dv.bl)::Ac ts)=true;unfold BI CN;rw[Ia,CW ts];rfl
theorem D8(ts:List (List Bool)):(Ac ts).length=ts.length:=ZC ..
theorem K5{K:W.Frag}{H:Hp}:∀(k:Nat) {ds:List Dv} {xs:List V},Reps K H ds xs->Reps K H (ds.take k) (xs.take k)
 | 0,_,_,_=>by simpa using Am
 | k+1,[],xs,h=>by unfold Reps at h;subst h;simpa using Am
 | k+1,d::ds,xs,h=>by
  unfold Reps at h;obtain⟨x,r,rfl,h1,h2⟩:=h;simpa using Ap h1 (K5 k h2)
theorem MM{K:W.Frag}{H:Hp}:∀(k:Nat) {ds:List Dv} {xs:List V},Reps K H ds xs->Reps K H (ds.drop k) (xs.drop k)
 | 0,_,_,h=>by simpa using h
 | k+1,[],xs,h=>by unfold Reps at h;subst h;simpa using Am
 | k+1,d::ds,xs,h=>by
  unfold Reps at h;obtain⟨x,r,rfl,h1,h2⟩:=h;simpa using MM k h2
theorem RQ(ts:List (List Bool))(b:List Bool)(k:Nat):Ac (ts.take k++b::ts.drop k)=(Ac ts).take k++.tup (b.map Dv.bl)::(Ac ts).drop k:=by
 unfold Ac;rw[ZK,Zg,ZBs,ZB3]
theorem IU:∀bs:List Bool,A9 (bs.map Dv.bl)=0
 | []=>by simp[A9]
 | b::bs=>by
  show A9 (Dv.bl b::bs.map Dv.bl)=_;unfold A9;rw[IU bs];rfl
theorem M9(ts:List (List Bool)):∀e∈Ac ts,An e<=50:=by
 intro e he;obtain⟨b,_,rfl⟩:=ZT.mp he;unfold An;rw[IU];lia
theorem E4(xs:List V)(a:Nat)(h:a<=xs.length):A1 xs none (some (a:Int))=xs.take a:=by
 unfold A1;rw[HT.sIx_nat,HT.sIx_none,List.drop_zero,Nat.sub_zero,Nat.min_eq_left h]
theorem FF(xs:List V)(a:Nat)(h:a<=xs.length):A1 xs (some (a:Int)) none=xs.drop a:=by
 unfold A1;rw[HT.sIx_nat,HT.sIx_none,Nat.min_eq_left h,ZBH (by rw[Zr];lia)]
theorem Jc{K:W.Frag}{H:Hp}{ts:List (List Bool)}{xs:List V}(h:Reps K H (Ac ts) xs):∀ns:List Int,ns.length≠0->xs≠ns.map V.int:=by
 intro ns hn e;cases ts with
 | nil =>
  have:xs=[]:=by simpa [Ac,Reps] using h
  subst this;cases ns with
  | nil=>exact hn rfl
  | cons _ _=>cases e
 | cons b ts =>
  have h':Reps K H (Dv.tup (b.map Dv.bl)::Ac ts) xs:=h;unfold Reps at h';obtain⟨x,r,rfl,h1,_⟩:=h';unfold Rep at h1;obtain⟨a,zs,rfl,_⟩:=h1;cases ns with
  | nil=>exact hn rfl
  | cons _ _=>cases e
theorem FC{t p:Addr}{H0 H:Hp}{o:HO}(f:Frm t H0 H)(hp:H0 p=none):Frm t H0 (upd H p o):=fun b u n e=>by
 rw[AM (CI e hp)];exact f b u n e
def Gw(K:W.Frag):Sp:=fun vs H Q _=>match vs with
 | [.ref t,.int n,.int y]=>∃m M N:Nat,GFeed H t N/\N<=850000000/\n=m/\1<=m/\m<=3/\y=M/\2<=M/\M<=6/\∀(ts:List (List Bool)) xs p H',2<=ts.length->ts.length<=M->(∀b∈ts,b.length=2 ^ m)->H p=none->H' p=some (.lst xs)->Reps K H' (Ac ts) xs->GFeed H' t (N+400)->Frm t H H'->Q (.ref p) H'
 | _=>False
theorem Uk:FnOk P w K mg base CX0 3 T.f_z29 T.d_z29 ["_law_feed_here","_law_n","_law_many"] (Gw K):=by
 have G_z35:=@CT P w K mg base T;have G_z30:=@J4 P w K mg base T;refine T.F_z29.ok sc_z29 (fun vs H Q E h=>by unfold Gw at h;split at h <;> first | rfl | exact h.elim) (fun cdv A outer s H vs Q E hr h=>?_);have hu:=Ag hr;have hr_z35:=hr.mono (show 1<=_ by decide);have hr_z30:=hr.mono (show 2<=_ by decide);unfold Gw at h;split at h;rotate_left
 ·exact h.elim
 rename_i t n y;obtain⟨m,M,N,F,hN,e1,m1,m3,e2,M2,M6,q⟩:=h;subst e1 e2;refine⟨_,(@AE _ _ _ _ _ (@AS _ _ 3 _ _ _ _ sc_z29.nd rfl (by right) (@A2 _ _ _ _ (AA (AH G_z30 hr_z30 rfl T.m_z30 T.F_z30.kp T.b_z30 .nil AG (AA (vv 0) (AA (vv 1) AB))) AB)) (by rfl) (by walk_at "i")) (@AE _ _ _ _ _ (@AS _ _ 4 _ _ _ _ sc_z29.nd rfl (by right) (AH G_z35 hr_z35 rfl T.m_z35 T.F_z35.kp T.b_z35 .nil AG (AA (vv 0) (AA (AI Ly AC (vv 1)) AB))) (by rfl) (by walk_at "i")) (@AE _ _ _ _ _ (@Cw _ _ _ _ (DR (K:=K) (vv 3) (AA (AI (BD (K:=K)) (AI (BD (K:=K)) (CU (K:=K) (kIx (K:=K) (vv 3) AC) Ba (Bf (vv 4))) (AW (AA (Er (kIx (K:=K) (kIx (K:=K) (vv 3) AC) (vv 4))) AB))) (CU (K:=K) (kIx (K:=K) (vv 3) AC) (Bf (AI (BD (K:=K)) (vv 4) AC)) Ba)) AB)) (by rfl)) (@AE _ _ _ _ _ (@BF _ _ _ _ _ _ _ _ PassesOwn.never rfl (BA rfl T.z_range (AA (AI Br AC (vv 2)) AB)) (AN (i:=5) sc_z29.nd rfl (by right)) (@AE _ _ _ _ _ (@AS _ _ 6 _ _ _ _ sc_z29.nd rfl (by right) (AH G_z30 hr_z30 rfl T.m_z30 T.F_z30.kp T.b_z30 .nil AG (AA (vv 0) (AA (vv 1) AB))) (by rfl) (by walk_at "i")) (@AF _ _ _ (@Ai _ _ _ _ _ _ _ _ (PW.pt (Ct (AX B9 (AT (Av (K:=K)) rfl T.z_len (by rfl) (AA (vv 3) AB)) (vv 2)) (C2 (AX (HF (K:=K) hu) (vv 6) (vv 3))))) (@AF _ _ _ (@Cw _ _ _ _ (Mm (K:=K) (vv 3) (AA (AH G_z35 hr_z35 rfl T.m_z35 T.F_z35.kp T.b_z35 .nil AG (AA (vv 0) (AA (AI (BD (K:=K)) (AT (Av (K:=K)) rfl T.z_len (by rfl) (AA (vv 3) AB)) AC) AB))) (AA (vv 6) AB))) (by rfl))) Ah))) (by intro _;rfl)) (@AF _ _ _ (@AK _ _ _ _ (vv 3))))))),?_⟩;have hmo:=S0;have h2:2<=2 ^ m:=Zz (n:=2) (i:=1) (by decide) m1;have h8:2 ^ m<=8:=Zz (n:=2) (i:=m) (j:=3) (by decide) m3;have em:(1:Int) * 2 ^ ((m:Int).toNat)=((2 ^ m:Nat):Int):=by rw[ZY,Int.natCast_pow,Int.one_mul];rfl
 refine⟨m,N,F,by lia,rfl,m1,by lia,fun bs p1 H1 hb hp1 g1 F1 f1=>?_⟩;refine⟨smq rfl,fun l hl=>?_⟩;have hlH:H l=none:=F1.free f1 hl;have lt:l≠t:=F.neT hlH;dsimp only[Ae];refine AJ (fun σ H'=>∃a:Nat,a < 2 ^ m/\σ=[some (.ref t),some (.int m),some (.int M),some (.ref l),some (.int a),none,none]/\GFeed H' t (N+19)/\Frm t H H'/\H' l=some (.lst [.ref p1])/\H' p1=some (.tup (bs.map V.bl))) ?_ ?_ (by walk_at "sm")
 ·refine⟨⟨by lia,by lia,by decide⟩,?_⟩;rw[em];have F2:=F1.upd (o:=.lst [.ref p1]) hl;refine⟨_,F2,by lia,Ad (by lia) (by lia),fun a H3 a0 a1 F3 f3=>?_⟩;have f2:Frm t H1 (upd H1 l (.lst [.ref p1])):=Frm.upd hl;have n1:p1≠t:=F.neT hp1;have nl:p1≠l:=fun e=>by rw[e,hl]at g1;cases g1
  refine⟨a.toNat,by lia,?_,F3,f1.trans (f2.trans (Aa f3)),by rw[f3 l lt,AD],by rw[f3 p1 n1,AM nl];exact g1⟩;rw[ZCE a0];rfl
 rintro σ H2 ⟨a,ha,rfl,F2,f2,gl2,gp2⟩;have hbl:(bs.map V.bl).length=2 ^ m:=by rw[ZC];exact hb
 have hix:atI (bs.map V.bl) (a:Int)=some (.bl (bs.getD a false)):=Aq rfl (by rw[ZX,Zy,ZE (show a < bs.length by lia)];rfl);refine AJ (fun σ H'=>∃(ts:List (List Bool)) (xs:List V) (z5 z6:Option V),σ=[some (.ref t),some (.int m),some (.int M),some (.ref l),some (.int a),z5,z6]/\2<=ts.length/\ts.length<=M/\(∀b∈ts,b.length=2 ^ m)/\H' l=some (.lst xs)/\Reps K H' (Ac ts) xs/\GFeed H' t (N+19)/\Frm t H H') ?_ ?_ (by walk_at "sm")
 ·refine⟨.inl ⟨rfl,_,.of gl2⟩,?_⟩;refine⟨_,_,.inl (.of gl2),rfl,?_⟩;refine⟨(a:Int),rfl,_,.of gp2,fun q1 H3 S3 t3=>?_⟩;rw[E4 _ a (by lia)]at t3;refine⟨_,_,.inl (.of (S3 _ _ gl2)),rfl,_,_,.inr (.of (S3 _ _ gp2)),hix,?_⟩;refine⟨smq rfl,fun q2 hq2=>?_⟩;have S4:Same H3 (upd H3 q2 (.tup [.bl (!bs.getD a false)])):=Same.upd hq2;have t4:SqT K (upd H3 q2 (.tup [.bl (!bs.getD a false)])) q2 [.bl (!bs.getD a false)]:=.of AD;generalize upd H3 q2 (.tup [.bl (!bs.getD a false)])=H4 at *;refine .inr ⟨_,_,S4.sqT t3,t4,B7 (by rw[ZV];show _+1<=1000;lia),fun q3 H5 S5 t5=>?_⟩;have S25:=S3.trans (S4.trans S5);refine⟨_,_,.inl (.of (S25 _ _ gl2)),rfl,?_⟩;refine⟨(a+1:Nat),rfl,_,.of (S25 _ _ gp2),fun q4 H6 S6 t6=>?_⟩;rw[FF _ (a+1) (by lia)]at t6;refine .inr ⟨_,_,S6.sqT t5,t6,B7 (by rw[ZG,ZV,Zr];show _+1+_<=1000;lia),fun q5 H7 S7 t7=>?_⟩;have S27:=S25.trans (S6.trans S7);generalize hcs:bs.take a++(!bs.getD a false)::bs.drop (a+1)=cs
  have ecs:(bs.map V.bl).take a++[V.bl (!bs.getD a false)]++(bs.map V.bl).drop (a+1)=cs.map V.bl:=by
   rw[<- hcs,ZK,Zg,ZBs,ZB3,Z3];rfl
  have hcl:cs.length=2 ^ m:=by
   rw[<- hcs,ZG,Zj,ZV,Zr];lia
  rw[ecs]at t7;refine⟨_,S27 _ _ gl2,Ak (show 1<=1000 by decide),?_⟩;have fr:Frm l H7 (upd H7 l (.lst ([.ref p1]++[.ref q5]))):=Frm.updT;have R7:Reps K H7 (Ac [bs,cs]) [.ref p1,.ref q5]:=Ap (BL (S27 _ _ gp2) (CH bs)) (Ap (by unfold Rep;exact⟨q5,_,rfl,t7,CH cs⟩) Am);refine⟨[bs,cs],_,_,_,rfl,ZD 2,M2,?_,AD,Reps.frm fr ⟨_,S27 _ _ gl2⟩ _ _ (CW _) R7,?_,?_⟩
  ·intro b hb'
   rcases ZF.mp hb' with rfl | hb'
   ·exact hb
   ·rcases ZF.mp hb' with rfl | hb'
    ·exact hcl
    ·cases hb'
  ·exact(F2.same S27).put lt (S27 _ _ gl2) fun ns hn e=>by
    cases ns with
    | nil=>exact hn rfl
    | cons _ _=>cases e
  ·exact FC (f2.trans fun b o _ e=>S27 b o e) hlH
 rintro σ H3 ⟨ts,xs,z5,z6,rfl,t2,tM,tb,gl3,R3,F3,f3⟩;refine AJ (fun σ H'=>∃(ts:List (List Bool)) (xs:List V) (z5 z6:Option V),σ=[some (.ref t),some (.int m),some (.int M),some (.ref l),some (.int a),z5,z6]/\2<=ts.length/\ts.length<=M/\(∀b∈ts,b.length=2 ^ m)/\H' l=some (.lst xs)/\Reps K H' (Ac ts) xs/\GFeed H' t (N+400)/\Frm t H H') ?_ ?_ (by walk_at "sm")
 ·refine⟨.inr (.inl ⟨by decide,by decide⟩),2 * (M:Int),rfl,by lia,by lia,?_⟩;refine B8 (fun i σ H'=>∃(ts:List (List Bool)) (xs:List V) (z5 z6:Option V),σ=[some (.ref t),some (.int m),some (.int M),some (.ref l),some (.int a),z5,z6]/\2<=ts.length/\ts.length<=M/\(∀b∈ts,b.length=2 ^ m)/\H' l=some (.lst xs)/\Reps K H' (Ac ts) xs/\GFeed H' t (N+19+19 * i)/\Frm t H H') ⟨ts,xs,z5,z6,rfl,t2,tM,tb,gl3,R3,F3,f3⟩ ?_ ?_
  ·rintro i σ H4 hi ⟨ts,xs,z5,z6,rfl,t2,tM,tb,gl4,R4,F4,f4⟩;have hxl:xs.length=ts.length:=by rw[<- R4.length,D8]
   refine⟨m,_,F4,by lia,rfl,m1,by lia,fun bs2 p2 H5 hb2 hp2 g2 F5 f5=>?_⟩;have R5:Reps K H5 (Ac ts) xs:=Reps.frm f5 F4.lst _ _ (CW _) R4;have gl5:H5 l=some (.lst xs):=f5 _ _ lt gl4;dsimp only[Ae]
   have stay:∃(ts:List (List Bool)) (xs:List V) (z5' z6':Option V),[some (V.ref t),some (.int m),some (.int M),some (.ref l),some (.int a),some (.int (0+i)),some (.ref p2)]=[some (.ref t),some (.int m),some (.int M),some (.ref l),some (.int a),z5',z6']/\2<=ts.length/\ts.length<=M/\(∀b∈ts,b.length=2 ^ m)/\H5 l=some (.lst xs)/\Reps K H5 (Ac ts) xs/\GFeed H5 t (N+19+19 * (i+1))/\Frm t H H5 :=
    ⟨ts,xs,_,_,rfl,t2,tM,tb,gl5,R5,F5.mono (by lia),f4.trans f5⟩
   have ep2:Rep K H5 (.tup (bs2.map Dv.bl)) (.ref p2):=BL g2 (CH bs2);refine⟨_,.inl ⟨_,.of gl5,rfl⟩,?_⟩;refine Ab (fun e=>?_) (fun e=>stay);have e':(xs.length:Int) < (M:Int):=ZN e;refine⟨_,_,_,.inl (.of gl5),R5,ep2,M9 ts,?_⟩;refine Ab (fun e=>?_) (fun e=>stay);refine⟨.inl ⟨rfl,_,.of gl5⟩,?_⟩;refine⟨_,.inl ⟨_,.of gl5,rfl⟩,?_⟩;refine⟨_,F5,by lia,Ad (by lia) (Z0 (show(xs.length:Int)+1<=7 by lia) (by decide)),fun d H6 d0 d1 F6 f6=>?_⟩;have gl6:H6 l=some (.lst xs):=by rw[f6 l lt];exact gl5
   refine⟨xs,gl6,d0,by lia,by lia,?_⟩;have R6:Reps K H6 (Ac ts) xs:=Reps.frm (Aa f6) F5.lst _ _ (CW _) R5;have ep6:Reps K H6 [.tup (bs2.map Dv.bl)] [.ref p2]:=Ap (BL (by rw[f6 p2 (F4.neT hp2)];exact g2) (CH bs2)) Am
   have R7:Reps K H6 (Ac (ts.take d.toNat++bs2::ts.drop d.toNat)) (xs.take d.toNat++.ref p2::xs.drop d.toNat):=by
    rw[RQ];exact Reps.append (K5 _ R6) (Reps.append ep6 (MM _ R6))
   refine⟨_,_,_,_,rfl,?_,?_,?_,AD,Reps.frm Frm.updT ⟨_,gl6⟩ _ _ (CW _) R7,(F6.put lt gl6 (Jc R6)).mono (by lia),FC (f4.trans (f5.trans (Aa f6))) hlH⟩
   ·rw[ZG,Zj,ZV,Zr];lia
   ·rw[ZG,Zj,ZV,Zr];lia
   ·intro b hb'
    rcases ZH.mp hb' with h | h
    ·exact tb b (ZBW h)
    ·rcases ZF.mp h with rfl | h
     ·exact hb2
     ·exact tb b (ZBv h)
  ·rintro σ H4 ⟨ts,xs,z5,z6,rfl,t2,tM,tb,gl4,R4,F4,f4⟩;exact⟨ts,xs,z5,z6,rfl,t2,tM,tb,gl4,R4,F4.mono (by lia),f4⟩
 rintro σ H4 ⟨ts,xs,z5,z6,rfl,t2,tM,tb,gl4,R4,F4,f4⟩;exact q ts xs l H4 t2 tM tb hlH gl4 R4 F4 f4
theorem KD{K:W.Frag}{H:Hp}:∀(cs:List Bool) (zs:List V),Reps K H (cs.map Dv.bl) zs->zs=cs.map V.bl
 | [],zs,h=>by
  have h':Reps K H [] zs:=h;unfold Reps at h';exact h'
 | c::cs,zs,h=>by
  have h':Reps K H (Dv.bl c::cs.map Dv.bl) zs:=h;unfold Reps at h';obtain⟨x,r,rfl,h1,h2⟩:=h';unfold Rep at h1;rw[h1,KD cs r h2];rfl
theorem Fl{K:W.Frag}{H:Hp}:∀ns:List Int,Reps K H (ns.map Dv.int) (ns.map V.int)
 | []=>Am
 | _::ns=>Ap Fo (Fl ns)
def IV(K:W.Frag):Sp:=fun vs H Q _=>match vs with
 | [.ref l]=>∃(ts:List (List Bool)) (xs:List V) (M:Nat),H l=some (.lst xs)/\Reps K H (Ac ts) xs/\2<=ts.length/\ts.length<=6/\(∀b∈ts,b.length=M)/\1<=M/\M<=8/\∀ls rs u H',Gm ls rs->Same H H'->Rep K H' (gmD ls rs) u->Q u H'
 | _=>False
theorem Nf:FnOk P w K mg base CX0 1 T.f_z18 T.d_z18 ["_law_tables"] (IV K):=by
 refine T.F_z18.ok sc_z18 (fun vs H Q E h=>by unfold IV at h;split at h <;> first | rfl | exact h.elim) (fun cdv A outer s H vs Q E hr h=>?_);have hu:=Ag hr;unfold IV at h;split at h;rotate_left
 ·exact h.elim
 rename_i l;obtain⟨ts,xs,M,gl,R,t2,t6,tb,M1,M8,q⟩:=h;refine⟨_,(@AE _ _ _ _ _ (@DC _ _ _ _ _ _ _ (["_law_k","_law_tables"]) 1 [0] _ _ _ _ 1 _ _ _ rfl sc_z18.nd rfl rfl (BA rfl T.z_range (AA (AT (Av (K:=K)) rfl T.z_len (by rfl) (AA (kIx (K:=K) (vv 0) AC) AB)) AB)) (by kernel_rfl) rfl rfl (by kernel_rfl) (fun c=>AN (i:=0) (show(["_law_k","_law_tables"]:List Str).Nodup by decide +kernel) rfl (by right)) (Aj (by decide)) (fun c=>A0) (fun c=>(Af (BC (K:=K)) rfl T.z_tuple (by rfl) (AA (Ay (N':=["_law_table_here","_law_k"]) (own:=1) (ix:=[0]) rfl (Az (K:=K) (vv 1)) (by kernel_rfl) rfl rfl (by kernel_rfl) (fun c=>AN (i:=0) (show(["_law_table_here","_law_k"]:List Str).Nodup by decide +kernel) rfl (by right)) (Aj (by decide)) (fun c=>A0) (fun c=>(kIx (K:=K) (vv 0) (vv 1)))) AB))) (by rfl) (by intro _;rfl)) (@AF _ _ _ (@AK _ _ _ _ (AW (AA (Af (BC (K:=K)) rfl T.z_tuple (by rfl) (AA (@Ay _ _ _ _ _ _ _ ["_law_k"] 1 [] _ _ _ _ rfl (BA rfl T.z_range (AA (AT (Av (K:=K)) rfl T.z_len (by rfl) (AA (vv 0) AB)) AB)) (by kernel_rfl) rfl rfl (by kernel_rfl) (fun c=>AN (i:=0) (show(["_law_k"]:List Str).Nodup by decide +kernel) rfl (by right)) (Aj (by decide)) (fun c=>A0) (fun c=>(vv 0)) (by intro _;rfl)) AB)) (AA (Af (BC (K:=K)) rfl T.z_tuple (by rfl) (AA (vv 1) AB)) AB)))))),?_⟩;have hxl:xs.length=ts.length:=by rw[<- R.length,D8]
 have at_:∀(j:Nat) (x:V),xs[j]? = some x->∃(a:Addr) (bs:List Bool),x=.ref a/\SqT K H a (bs.map V.bl)/\bs.length=M:=by
  intro j x hx;have hj:j < ts.length:=by have:=(Zb.mp hx).1;lia
  obtain⟨y,h1,h2⟩:=R.get (i:=j) (d:=.tup (ts[j].map Dv.bl)) (by unfold Ac;rw[ZX,ZE hj];rfl);rw[hx]at h1;cases h1;unfold Rep at h2;obtain⟨a,zs,rfl,h3,h4⟩:=h2;rw[KD _ _ h4]at h3;exact⟨a,ts[j],rfl,h3,tb _ (Zc hj)⟩
 obtain⟨x0,hx0⟩:∃x,xs[0]? = some x:=⟨_,ZE (show 0 < xs.length by lia)⟩;obtain⟨a0,bs0,rfl,q0,l0⟩:=at_ 0 _ hx0;refine⟨_,_,.inl (.of gl),Aq (n:=0) rfl hx0,_,.inr ⟨_,q0,rfl⟩,?_⟩;rw[ZC,l0];refine⟨(M:Int),rfl,by lia,by lia,?_⟩
 refine Bj (fun i ys H'=>Same H H'/\∃rs:List (List Bool),rs.length=i/\(∀r∈rs,r.length=ts.length)/\Reps K H' (Ac rs) ys) ⟨fun _ _ e=>e,[],rfl,nofun,Am⟩ (fun i ys H' hi ⟨_,rs,e,_,R'⟩=>by
  rw[<- R'.length,D8];exact Ak (by lia)) ?_ ?_
 ·rintro i ys H1 hi ⟨S1,rs,rfl,hr1,R1⟩;refine .inl ⟨⟨_,.of (S1 _ _ gl)⟩,?_⟩
  refine EZ (xs:=xs) (fun j zs H'=>H'=H1/\∃bs:List Bool,zs=bs.map V.bl/\bs.length=j) ⟨rfl,[],rfl,rfl⟩ (fun j zs H' _ ⟨e,_⟩=>by rw[e];exact .of (S1 _ _ gl)) (fun j zs H' hj ⟨_,bs,e,el⟩=>by
   rw[e,ZC,el];exact Ak (by lia)) ?_ ?_
  ·rintro j x zs H' hx ⟨rfl,bs,rfl,rfl⟩;obtain⟨a,cs,rfl,h1,h2⟩:=at_ _ _ hx;refine⟨_,_,.inr (S1.sqT h1),Aq (n:=rs.length) (by lia) (by rw[ZX,ZE (show rs.length < cs.length by lia)];rfl),?_⟩;exact⟨rfl,bs++[_],by rw[ZK];rfl,by rw[ZG];rfl⟩
  ·rintro zs H' ⟨rfl,bs,rfl,hb⟩ k hk;refine⟨_,.inl ⟨.of AD,fun p hp=>?_⟩⟩;have s3:=(Same.upd (o:=.lst (bs.map V.bl)) hk).trans (Same.upd (o:=.tup (bs.map V.bl)) hp);refine⟨S1.trans s3,rs++[bs],by rw[ZG];rfl,?_,?_⟩
   ·intro r hr'
    rcases ZH.mp hr' with h | h
    ·exact hr1 r h
    ·rw[ZO.mp h];lia
   ·have e:Ac (rs++[bs])=Ac rs++[.tup (bs.map Dv.bl)]:=by unfold Ac;rw[ZK];rfl
    rw[e];exact Reps.append (Reps.same s3 _ _ R1) (Ap (BL AD (CH bs)) Am)
 ·rintro ys H1 ⟨S1,rs,hrl,hr1,R1⟩ k hk;have s2:Same H1 (upd H1 k (.lst ys)):=Same.upd hk;have g2:upd H1 k (.lst ys) k=some (.lst ys):=AD;generalize upd H1 k (.lst ys)=H2 at *;dsimp only[Ae];refine⟨_,.inl ⟨_,.of (s2 _ _ (S1 _ _ gl)),rfl⟩,(xs.length:Int),rfl,by lia,by lia,?_⟩
  refine Bj (fun i ys H'=>H'=H2/\∃ls:List Int,ys=ls.map V.int/\ls.length=i/\∀x∈ls,x.natAbs<=6) ⟨rfl,[],rfl,rfl,nofun⟩ (fun i ys H' hi ⟨_,ls,e,el,_⟩=>by
   rw[e,ZC,el];exact Ak (by lia)) ?_ ?_
  ·rintro i ys H' hi ⟨rfl,ls,rfl,el,hs⟩;refine⟨rfl,ls++[0+(i:Int)],by rw[ZK];rfl,by rw[ZG,el];rfl,?_⟩;intro x hx
   rcases ZH.mp hx with h | h
   ·exact hs x h
   ·rw[ZO.mp h];lia
  ·rintro ys' H' ⟨rfl,ls,rfl,el,hs⟩ k3 hk3;refine⟨_,.inl ⟨.of AD,fun p hp=>?_⟩⟩;have s3:=(Same.upd (o:=.lst (ls.map V.int)) hk3).trans (Same.upd (o:=.tup (ls.map V.int)) hp);have g3:upd (upd H' k3 (.lst (ls.map V.int))) p (.tup (ls.map V.int)) p=some (.tup (ls.map V.int)):=AD;generalize upd (upd H' k3 (.lst (ls.map V.int))) p (.tup (ls.map V.int))=H3 at *;refine⟨_,.inl ⟨.of (s3 _ _ g2),fun p4 hp4=>?_⟩⟩;refine⟨smq rfl,fun p5 hp5=>?_⟩;have s5:=(Same.upd (o:=.tup ys) hp4).trans (Same.upd (o:=.tup [.ref p,.ref p4]) hp5);refine q ls rs _ _ ⟨by lia,by lia,by lia,by lia,fun r h=>by rw[hr1 r h];lia,fun x h=>ZP (hs x h) (by decide)⟩ (S1.trans (s2.trans (s3.trans s5))) ?_;exact BL AD (Ap (BL (s5 _ _ g3) (Fl ls)) (Ap (BL (Same.upd hp5 _ _ AD) (Reps.same (s2.trans (s3.trans s5)) _ _ R1)) Am))
def By(K:W.Frag)(n b:Nat):Sp:=fun vs H Q _=>match vs with
 | [.ref t]=>∃N:Nat,GFeed H t N/\N<=b/\∀ls rs u H',Gm ls rs->Rep K H' (gmD ls rs) u->GFeed H' t (N+n)->Frm t H H'->Q u H'
 | _=>False
theorem Ob{n b:Nat}:AQ (By K n b):=fun vs H Q Q' E h q=>by
 unfold By at *;split at q
 ·revert q;repeat' first | exact h _ _ | exact A4 h | exact out_mono h | exact outT_mono h | walk_at "m"
 ·exact q.elim
theorem Tq:FnOk P w K mg base CX0 2 T.f_z27 T.d_z27 ["_law_feed_here"] (By K 10 850000000):=by
 have G_z35:=@CT P w K mg base T;have G_z35:=@LZ P w K mg base T;refine T.F_z27.ok sc_z27 (fun vs H Q E h=>by unfold By at h;split at h <;> first | rfl | exact h.elim) (fun cdv A outer s H vs Q E hr h=>?_);have hu:=Ag hr;have hr_z35:=hr.mono (show 1<=_ by decide);unfold By at h;split at h;rotate_left
 ·exact h.elim
 rename_i t;obtain⟨N,F,hN,q⟩:=h;refine⟨_,(@AE _ _ _ _ _ (@AS _ _ 1 _ _ _ _ sc_z27.nd rfl (by right) (AI (BH (K:=K)) AC (AH G_z35 hr_z35 rfl T.m_z35 T.F_z35.kp T.b_z35 .nil AG (AA (vv 0) (AA AC AB)))) (by rfl) (by walk_at "i")) (@AE _ _ _ _ _ (@AS _ _ 2 _ _ _ _ sc_z27.nd rfl (by right) (AH G_z35 hr_z35 rfl T.m_z35 T.F_z35.kp T.b_z35 .nil AG (AA (vv 0) (AA AC AB))) (by rfl) (by walk_at "i")) (@AE _ _ _ _ _ (@DC _ _ _ _ _ _ _ ["_law_k"] 1 [] _ _ _ _ 3 _ _ _ rfl sc_z27.nd rfl rfl (BA rfl T.z_range (AA (vv 1) AB)) (by kernel_rfl) rfl rfl (by kernel_rfl) (fun c=>AN (i:=0) (show(["_law_k"]:List Str).Nodup by decide +kernel) rfl (by right)) (Aj (by decide)) (fun c=>A0) (fun c=>(vv 0)) (by rfl) (by intro _;rfl)) (@AE _ _ _ _ _ (@Ai _ _ _ _ _ _ _ _ (AX (kEq (K:=K) hu) (AH G_z35 hr_z35 rfl T.m_z35 T.F_z35.kp T.b_z35 .nil AG (AA (vv 0) (AA AC AB))) AC) (@AF _ _ _ (@C9 _ _ _ _ _ _ (AH G_z35 hr_z35 rfl T.m_z35 T.F_z35.kp T.b_z35 .nil AG (AA (vv 0) (AA (vv 1) AB))) (D1 (vv 3) (AH G_z35 hr_z35 rfl T.m_z35 T.F_z35.kp T.b_z35 .nil AG (AA (vv 0) (AA (vv 1) AB))) Dp) (by rfl) (by rfl) (by rfl))) Ah) (@AE _ _ _ _ _ (@DC _ _ _ _ _ _ _ (["_law_one","_law_many"]) 1 [1] _ _ _ _ 4 _ _ _ rfl sc_z27.nd rfl rfl (MJ rfl T.z_range (AA (vv 2) (AA (vv 1) AB))) (by kernel_rfl) rfl rfl (by kernel_rfl) (fun c=>AN (i:=0) (show(["_law_one","_law_many"]:List Str).Nodup by decide +kernel) rfl (by right)) (Aj (by decide)) (fun c=>A0) (fun c=>(Af (BC (K:=K)) rfl T.z_tuple (by rfl) (AA (Ay (N':=["_law_k","_law_one"]) (own:=1) (ix:=[0]) rfl (BA rfl T.z_range (AA (vv 1) AB)) (by kernel_rfl) rfl rfl (by kernel_rfl) (fun c=>AN (i:=0) (show(["_law_k","_law_one"]:List Str).Nodup by decide +kernel) rfl (by right)) (Aj (by decide)) (fun c=>A0) (fun c=>(A8 (kEq (K:=K) hu) (vv 0) (vv 1)))) AB))) (by rfl) (by intro _;rfl)) (@AF _ _ _ (@AK _ _ _ _ (AW (AA (Af (BC (K:=K)) rfl T.z_tuple (by rfl) (AA (vv 3) AB)) (AA (Af (BC (K:=K)) rfl T.z_tuple (by rfl) (AA (vv 4) AB)) AB)))))))))),?_⟩;obtain⟨c,F⟩:=F.told;refine⟨c,N,F,by lia,Ad (by decide) (by decide),fun d1 H1 a0 a1 F1 f1=>?_⟩;dsimp only[Ae,DP];obtain⟨M,rfl⟩:∃M:Nat,d1=M:=⟨d1.toNat,by lia⟩;refine⟨c,_,F1,by lia,Ad (by decide) (by decide),fun d2 H2 b0 b1 F2 f2=>?_⟩;dsimp only[Ae];have f2':Frm t H H2:=(Aa f1).trans (Aa f2);refine AJ (fun σ H'=>∃(l:Addr) (ls:List Int),σ=[some (.ref t),some (.int (2+M)),some (.int d2),some (.ref l),none]/\H l=none/\l≠t/\l≠c/\H' l=some (.lst (ls.map V.int))/\ls.length=M+2/\(∀x∈ls,x.natAbs<=10)/\GFd H' t c (N+2)/\Frm t H H') ?_ ?_ (by walk_at "sm")
 ·refine⟨(2+M:Int),rfl,by lia,by lia,?_⟩
  refine Bj (fun i ys H'=>H'=H2/\∃ls:List Int,ys=ls.map V.int/\ls.length=i/\∀x∈ls,x.natAbs<=10) ⟨rfl,[],rfl,rfl,nofun⟩ (fun i ys H' hi ⟨_,ls,e,el,_⟩=>by
   rw[e,ZC,el];exact Ak (by lia)) ?_ ?_
  ·rintro i ys H' hi ⟨rfl,ls,rfl,el,hs⟩;refine⟨rfl,ls++[0+(i:Int)],by rw[ZK];rfl,by rw[ZG,el];rfl,?_⟩;intro x hx
   rcases ZH.mp hx with h | h
   ·exact hs x h
   ·rw[ZO.mp h];lia
  ·rintro ys H' ⟨rfl,ls,rfl,el,hs⟩ l hl;have hne:=F2.ne hl;exact⟨l,ls,rfl,F2.feed.free f2' hl,hne.1,hne.2,AD,by lia,hs,F2.upd hl,f2'.trans (Frm.upd hl)⟩
 rintro σ H3 ⟨l,ls,rfl,hl,lt,lc,gl3,ll,hs,F3,f3⟩;refine AJ (fun σ H'=>∃(ls:List Int),σ=[some (.ref t),some (.int (2+M)),some (.int d2),some (.ref l),none]/\H' l=some (.lst (ls.map V.int))/\ls.length=M+2/\(∀x∈ls,x.natAbs<=10)/\GFeed H' t (N+10)/\Frm t H H') ?_ ?_ (by walk_at "sm")
 ·refine⟨c,_,F3,by lia,Ad (by decide) (by decide),fun d3 H4 _ _ F4 f4=>?_⟩;have gl4:H4 l=some (.lst (ls.map V.int)):=by rw[f4 l lt];exact gl3
  refine Ab (fun e=>?_) (fun e=>⟨ls,rfl,gl4,ll,hs,F4.feed.mono (by lia),f3.trans (Aa f4)⟩);refine⟨c,_,F4,by lia,Ad (by lia) (by lia),fun d4 H5 p0 p1 F5 f5=>?_⟩;refine⟨c,_,F5,by lia,Ad (by lia) (by lia),fun d5 H6 q0 q1 F6 f6=>?_⟩;have gl6:H6 l=some (.lst (ls.map V.int)):=by rw[f6 l lt,f5 l lt];exact gl4
  have hd5:ixN (ls.map V.int).length d5=some d5.toNat:=by
   rw[ZC];unfold ixN;rw[if_pos (by lia),if_pos (by lia)]
  refine⟨_,_,gl6,hd5,ls.set d5.toNat d4,rfl,by rw[AD,List.map_set],by rw[ZBL];exact ll,?_,(F6.put ⟨lt,lc⟩).feed.mono (by lia),FC (f3.trans ((Aa f4).trans ((Aa f5).trans (Aa f6)))) hl⟩;intro x hx
  rcases List.mem_or_eq_of_mem_set hx with h | h
  ·exact hs x h
  ·rw[h];lia
 rintro σ H4 ⟨ls,rfl,gl4,ll,hs,F4,f4⟩;have n0:(0:Int)<=2+M - d2:=by lia
 refine⟨d2,2+M,rfl,⟨by lia,by lia,by lia,by lia⟩,?_⟩;obtain⟨W,hW,w1,w7⟩:∃W:Nat,(2+(M:Int) - d2).toNat=W/\1<=W/\W<=7:=⟨_,rfl,by lia,by lia⟩;rw[hW]
 refine Bj (fun i ys H'=>Same H4 H'/\∃rs:List (List Bool),rs.length=i/\(∀r∈rs,r.length=M+2)/\Reps K H' (Ac rs) ys) ⟨fun _ _ e=>e,[],rfl,nofun,Am⟩ (fun i ys H' hi ⟨_,rs,e,_,R'⟩=>by
  rw[<- R'.length,D8];exact Ak (by lia)) ?_ ?_
 ·rintro i ys H1 hi ⟨S1,rs,rfl,hr1,R1⟩;refine⟨(2+M:Int),rfl,by lia,by lia,?_⟩
  refine Bj (fun j zs H'=>H'=H1/\∃bs:List Bool,zs=bs.map V.bl/\bs.length=j) ⟨rfl,[],rfl,rfl⟩ (fun j zs H' hj ⟨_,bs,e,el⟩=>by
   rw[e,ZC,el];exact Ak (by lia)) ?_ ?_
  ·rintro j zs H' hj ⟨rfl,bs,rfl,rfl⟩;exact⟨rfl,bs++[_],by rw[ZK];rfl,by rw[ZG];rfl⟩
  ·rintro zs H' ⟨rfl,bs,rfl,hb⟩ k hk;refine⟨_,.inl ⟨.of AD,fun p hp=>?_⟩⟩;have s3:=(Same.upd (o:=.lst (bs.map V.bl)) hk).trans (Same.upd (o:=.tup (bs.map V.bl)) hp);refine⟨S1.trans s3,rs++[bs],by rw[ZG];rfl,?_,?_⟩
   ·intro r hr'
    rcases ZH.mp hr' with h | h
    ·exact hr1 r h
    ·rw[ZO.mp h];lia
   ·have e:Ac (rs++[bs])=Ac rs++[.tup (bs.map Dv.bl)]:=by unfold Ac;rw[ZK];rfl
    rw[e];exact Reps.append (Reps.same s3 _ _ R1) (Ap (BL AD (CH bs)) Am)
 ·rintro ys H1 ⟨S1,rs,hrl,hr1,R1⟩ k hk;have s2:Same H1 (upd H1 k (.lst ys)):=Same.upd hk;have g2:upd H1 k (.lst ys) k=some (.lst ys):=AD;generalize upd H1 k (.lst ys)=H2' at *;dsimp only[Ae];refine⟨_,.inl ⟨.of (s2 _ _ (S1 _ _ gl4)),fun p hp=>?_⟩⟩;have s3:Same H2' (upd H2' p (.tup (ls.map V.int))):=Same.upd hp;have g3:upd H2' p (.tup (ls.map V.int)) p=some (.tup (ls.map V.int)):=AD;generalize upd H2' p (.tup (ls.map V.int))=H3' at *;refine⟨_,.inl ⟨.of (s3 _ _ g2),fun p4 hp4=>?_⟩⟩;refine⟨smq rfl,fun p5 hp5=>?_⟩;have s5:=(Same.upd (o:=.tup ys) hp4).trans (Same.upd (o:=.tup [.ref p,.ref p4]) hp5);have S5:=S1.trans (s2.trans (s3.trans s5));refine q ls rs _ _ ⟨by lia,by lia,by lia,by lia,fun r h=>by rw[hr1 r h];lia,fun x h=>ZP (hs x h) (by decide)⟩ ?_ (F4.same S5) (f4.trans fun b o _ e=>S5 b o e);exact BL AD (Ap (BL (s5 _ _ g3) (Fl ls)) (Ap (BL (Same.upd hp5 _ _ AD) (Reps.same (s2.trans (s3.trans s5)) _ _ R1)) Am))
theorem K2{ns:List Int}{i lo hi:Int}(h0:0<=i)(h1:i < ns.length)(h:∀x∈ns,lo<=x/\x<=hi):∃z,atI (ns.map V.int) i=some (.int z)/\lo<=z/\z<=hi:=by
 have hi':i.toNat < ns.length:=by lia
 exact⟨ns[i.toNat],Aq (n:=i.toNat) (by lia) (by rw[ZX,ZE hi'];rfl),h _ (Zc hi')⟩
theorem TC{a b c:V}{i:Int}(h0:0<=i)(h1:i < 3):∃z,atI [a,b,c] i=some z/\(z=a\/z=b\/z=c):=by
 obtain⟨n,rfl⟩:∃n:Nat,i=n:=⟨i.toNat,by lia⟩
 match n,h1 with
 | 0,_=>exact⟨a,rfl,.inl rfl⟩
 | 1,_=>exact⟨b,rfl,.inr (.inl rfl)⟩
 | 2,_=>exact⟨c,rfl,.inr (.inr rfl)⟩
 | n+3,h=>lia
theorem PD:FnOk P w K mg base CX0 2 T.f_z21 T.d_z21 ["_law_feed_here"] (By K 300 850000000):=by
 have G_z35:=@CT P w K mg base T;refine T.F_z21.ok sc_z21 (fun vs H Q E h=>by unfold By at h;split at h <;> first | rfl | exact h.elim) (fun cdv A outer s H vs Q E hr h=>?_);have hu:=Ag hr;have hr_z35:=hr.mono (show 1<=_ by decide);unfold By at h;split at h;rotate_left
 ·exact h.elim
 rename_i t;obtain⟨N,F,hN,q⟩:=h;refine⟨_,(@AE _ _ _ _ _ (@AS _ _ 1 _ _ _ _ sc_z21.nd rfl (by right) (@A2 _ _ _ _ (AA (AI (BH (K:=K)) AC (AH G_z35 hr_z35 rfl T.m_z35 T.F_z35.kp T.b_z35 .nil AG (AA (vv 0) (AA AC AB)))) (AA (AI (BH (K:=K)) AC (AH G_z35 hr_z35 rfl T.m_z35 T.F_z35.kp T.b_z35 .nil AG (AA (vv 0) (AA AC AB)))) (AA (AI (BH (K:=K)) AC (AH G_z35 hr_z35 rfl T.m_z35 T.F_z35.kp T.b_z35 .nil AG (AA (vv 0) (AA AC AB)))) (AA (AI (BH (K:=K)) AC (AH G_z35 hr_z35 rfl T.m_z35 T.F_z35.kp T.b_z35 .nil AG (AA (vv 0) (AA AC AB)))) AB))))) (by rfl) (by walk_at "i")) (@AE _ _ _ _ _ (@AS _ _ 1 _ _ _ _ sc_z21.nd rfl (by right) (kIx (K:=K) (vv 1) (AH G_z35 hr_z35 rfl T.m_z35 T.F_z35.kp T.b_z35 .nil AG (AA (vv 0) (AA AC AB)))) (by rfl) (by walk_at "i")) (@AE _ _ _ _ _ (@AS _ _ 2 _ _ _ _ sc_z21.nd rfl (by right) (kIx (K:=K) (@A2 _ _ _ _ (AA (AI (BH (K:=K)) AC (AH G_z35 hr_z35 rfl T.m_z35 T.F_z35.kp T.b_z35 .nil AG (AA (vv 0) (AA AC AB)))) (AA (AI (BH (K:=K)) AC (AH G_z35 hr_z35 rfl T.m_z35 T.F_z35.kp T.b_z35 .nil AG (AA (vv 0) (AA AC AB)))) (AA (AI (BH (K:=K)) AC (AH G_z35 hr_z35 rfl T.m_z35 T.F_z35.kp T.b_z35 .nil AG (AA (vv 0) (AA AC AB)))) AB)))) (AH G_z35 hr_z35 rfl T.m_z35 T.F_z35.kp T.b_z35 .nil AG (AA (vv 0) (AA AC AB)))) (by rfl) (by walk_at "i")) (@AE _ _ _ _ _ (@P7 _ _ 3 _ _ _ _ sc_z21.nd rfl (by right) (@kIx _ K _ _ _ _ _ (@A2 _ _ _ _ (@AA _ _ _ _ _ (@A2 _ _ _ _ (@AA _ _ _ _ _ AC (@pa1 _ _ _ AC (by rfl)) (by rfl))) (@AA _ _ _ _ _ (@A2 _ _ _ _ (@AA _ _ _ _ _ (CM CP AC) (@AA _ _ _ _ _ (AI IG AC AC) (@pa1 _ _ _ AC (by rfl)) (by rfl)) (by rfl))) (@AA _ _ _ _ _ (@A2 _ _ _ _ (@AA _ _ _ _ _ AC (@AA _ _ _ _ _ AC (@AA _ _ _ _ _ AC (@AA _ _ _ _ _ AC (@AA _ _ _ _ _ AC (@AA _ _ _ _ _ AC (@AA _ _ _ _ _ AC (@AA _ _ _ _ _ AC (@AA _ _ _ _ _ AC (@pa1 _ _ _ AC (by rfl)) (by rfl)) (by rfl)) (by rfl)) (by rfl)) (by rfl)) (by rfl)) (by rfl)) (by rfl)) (by rfl))) (@AB _) L2.star_lst) L2.star_lst) L2.star_lst)) (AH G_z35 hr_z35 rfl T.m_z35 T.F_z35.kp T.b_z35 .nil AG (AA (vv 0) (AA AC AB))) (by intro _ _;rfl) (by rfl)) rfl (by first | exact .inl rfl | exact .inr rfl)) (@AE _ _ _ _ _ (@DC _ _ _ _ _ _ _ (["_law_k","_law_names","_law_feed_here"]) 1 ([3,0]) _ _ _ _ 4 _ _ _ rfl sc_z21.nd rfl rfl (BA rfl T.z_range (AA (vv 1) AB)) (by kernel_rfl) rfl rfl (by kernel_rfl) (fun c=>AN (i:=0) (show(["_law_k","_law_names","_law_feed_here"]:List Str).Nodup by decide +kernel) rfl (by right)) (Aj (by decide)) (fun c=>A0) (fun c=>(kIx (K:=K) (vv 1) (AH G_z35 hr_z35 rfl T.m_z35 T.F_z35.kp T.b_z35 .nil AG (AA (vv 2) (AA (AT (Av (K:=K)) rfl T.z_len (by rfl) (AA (vv 1) AB)) AB))))) (by rfl) (by intro _;rfl)) (@AE _ _ _ _ _ (@AS _ _ 5 _ _ _ _ sc_z21.nd rfl (by right) (@A2 _ _ _ _ AB) (by rfl) (by walk_at "i")) (@AE _ _ _ _ _ (@BF _ _ _ _ _ _ _ _ PassesOwn.never rfl (BA rfl T.z_range (AA (vv 2) AB)) (AN (i:=6) sc_z21.nd rfl (by right)) (@AF _ _ _ (@Cw _ _ _ _ (DR (K:=K) (vv 5) (AA (Af (BC (K:=K)) rfl T.z_tuple (by rfl) (AA (Ay (N':=["_law_thing","_law_feed_here"]) (own:=1) (ix:=[0]) rfl (BA rfl T.z_range (AA (vv 1) AB)) (by kernel_rfl) rfl rfl (by kernel_rfl) (fun c=>AN (i:=0) (show(["_law_thing","_law_feed_here"]:List Str).Nodup by decide +kernel) rfl (by right)) (Aj (by decide)) (fun c=>A0) (fun c=>(A8 (kEq (K:=K) hu) (AH G_z35 hr_z35 rfl T.m_z35 T.F_z35.kp T.b_z35 .nil AG (AA (vv 1) (AA AC AB))) AC))) AB)) AB)) (by rfl))) (by intro _;rfl)) (@AF _ _ _ (@AK _ _ _ _ (AW (AA (Af (BC (K:=K)) rfl T.z_tuple (by rfl) (AA (vv 4) AB)) (AA (Af (BC (K:=K)) rfl T.z_tuple (by rfl) (AA (vv 5) AB)) AB)))))))))))),?_⟩;have d4:okDiv 4:=Ad (by decide) (by decide);have d5:okDiv 5:=Ad (by decide) (by decide);have d6:okDiv 6:=Ad (by decide) (by decide);have d3:okDiv 3:=Ad (by decide) (by decide);have d16:okDiv 16:=Ad (by decide) (by decide);refine AJ (fun σ H'=>∃(l:Addr) (a b c d:Int),σ=[some (.ref t),some (.ref l),none,none,none,none,none]/\H' l=some (.lst ([a,b,c,d].map V.int))/\l≠t/\(∀x∈[a,b,c,d],1<=x/\x<=10)/\GFeed H' t (N+4)/\Frm t H H') ?_ ?_ (by walk_at "sm")
 ·refine⟨_,F,by lia,d6,fun a H1 a0 a1 F1 f1=>?_⟩;refine⟨_,F1,by lia,d6,fun b H2 b0 b1 F2 f2=>?_⟩;refine⟨_,F2,by lia,d6,fun c H3 c0 c1 F3 f3=>?_⟩;refine⟨_,F3,by lia,d4,fun d H4 d0 d1 F4 f4=>?_⟩;refine⟨smq rfl,fun l hl=>?_⟩;refine⟨l,1+a,2+b,2+c,7+d,rfl,AD,F4.neT hl,?_,F4.upd hl,(((Aa f1).trans (Aa f2)).trans ((Aa f3).trans (Aa f4))).trans (Frm.upd hl)⟩;simp only[ZF,Zn,or_false];lia
 rintro σ H1 ⟨l,a,b,c,d,rfl,gl,lt,hb,F1,f1⟩;refine AJ (fun σ H'=>∃M:Nat,σ=[some (.ref t),some (.int M),none,none,none,none,none]/\1<=M/\M<=10/\GFeed H' t (N+5)/\Frm t H H') ?_ ?_ (by walk_at "sm")
 ·refine⟨_,F1,by lia,d4,fun i H2 i0 i1 F2 f2=>?_⟩;obtain⟨z,hz,z1,z2⟩:=K2 (ns:=[a,b,c,d]) i0 i1 hb;refine⟨_,_,.inl (.of (by rw[f2 l lt];exact gl)),hz,z.toNat,?_,by lia,by lia,F2,f1.trans (Aa f2)⟩;rw[ZCE (by lia)];rfl
 clear gl lt hb F1 f1;rintro σ H1 ⟨M,rfl,M1,M10,F1,f1⟩;refine AJ (fun σ H'=>∃W:Nat,σ=[some (.ref t),some (.int M),some (.int W),none,none,none,none]/\1<=W/\W<=16/\GFeed H' t (N+9)/\Frm t H H') ?_ ?_ (by walk_at "sm")
 ·refine⟨_,F1,by lia,d5,fun a H2 a0 a1 F2 f2=>?_⟩;refine⟨_,F2,by lia,d4,fun b H3 b0 b1 F3 f3=>?_⟩;refine⟨_,F3,by lia,d16,fun c H4 c0 c1 F4 f4=>?_⟩;refine⟨smq rfl,fun l hl=>?_⟩;have F5:=F4.upd (o:=.lst [.int (1+a),.int (2+b),.int (1+c)]) hl;refine⟨_,F5,by lia,d3,fun i H6 i0 i1 F6 f6=>?_⟩
  obtain⟨z,hz,z1,z2⟩:=K2 (ns:=[1+a,2+b,1+c]) (lo:=1) (hi:=16) i0 i1 (by
   simp only[ZF,Zn,or_false];lia)
  refine⟨_,_,.inl (.of (by rw[f6 l (F4.neT hl)];exact AD)),hz,z.toNat,?_,by lia,by lia,F6.mono (by lia),f1.trans (((Aa f2).trans ((Aa f3).trans (Aa f4))).trans ((Frm.upd hl).trans (Aa f6)))⟩;rw[ZCE (by lia)];rfl
 clear F1 f1;rintro σ H1 ⟨W,rfl,W1,W16,F1,f1⟩;refine AJ (fun σ H'=>∃(l:Addr) (ns:List Int),σ=[some (.ref t),some (.int M),some (.int W),some (.ref l),none,none,none]/\H' l=some (.lst (ns.map V.int))/\l≠t/\1<=ns.length/\ns.length<=10/\(∀x∈ns,x.natAbs<=100000000000000000000)/\GFeed H' t (N+10)/\Frm t H H') ?_ ?_ (by walk_at "sm")
 ·have bound:∀(x:V) (l:Addr) (ns:List Int) (H':Hp),x=.ref l->H' l=some (.lst (ns.map V.int))->l≠t->1<=ns.length->ns.length<=10->(∀x∈ns,x.natAbs<=100000000000000000000)->GFeed H' t (N+10)->Frm t H H'->∃(l:Addr) (ns:List Int),[some (V.ref t),some (.int M),some (.int W),some x,none,none,none]=[some (.ref t),some (.int M),some (.int W),some (.ref l),none,none,none]/\H' l=some (.lst (ns.map V.int))/\l≠t/\1<=ns.length/\ns.length<=10/\(∀x∈ns,x.natAbs<=100000000000000000000)/\GFeed H' t (N+10)/\Frm t H H' :=
   fun x l ns H' e h1 h2 h3 h4 h5 h6 h7=>⟨l,ns,by rw[e],h1,h2,h3,h4,h5,h6,h7⟩
  refine⟨smq rfl,fun p hp=>?_⟩;have sa:Same H1 (upd H1 p (.lst [.int 0,.int 1])):=Same.upd hp;have ga:upd H1 p (.lst [.int 0,.int 1]) p=some (.lst [.int 0,.int 1]):=AD;generalize upd H1 p (.lst [.int 0,.int 1])=Ha at *;refine⟨⟨by decide,by decide,by decide⟩,?_⟩;refine⟨smq rfl,fun p2 hp2=>?_⟩;generalize hten:(10:Int) ^ Int.toNat 20=ten;have sb:Same Ha (upd Ha p2 (.lst [.int (-7),.int ten,.int 3])):=Same.upd hp2;have gb:upd Ha p2 (.lst [.int (-7),.int ten,.int 3]) p2=some (.lst [.int (-7),.int ten,.int 3]):=AD;generalize upd Ha p2 (.lst [.int (-7),.int ten,.int 3])=Hb at *;refine⟨smq rfl,fun p3 hp3=>?_⟩;have sc:Same Hb (upd Hb p3 (.lst ([5,1,4,2,3,0,7,6,8,9].map V.int))):=Same.upd hp3;have gc:upd Hb p3 (.lst ([5,1,4,2,3,0,7,6,8,9].map V.int)) p3=some (.lst ([5,1,4,2,3,0,7,6,8,9].map V.int)):=AD;refine(show ∀Hc,Same Hb Hc->Hc p3=some (.lst ([5,1,4,2,3,0,7,6,8,9].map V.int))->_ from ?_) (upd Hb p3 (.lst ([5,1,4,2,3,0,7,6,8,9].map V.int))) sc gc;clear sc gc;intro Hc sc gc;refine⟨smq rfl,fun p4 hp4=>?_⟩;have sd:Same Hc (upd Hc p4 (.lst [.ref p,.ref p2,.ref p3])):=Same.upd hp4;have gd:upd Hc p4 (.lst [.ref p,.ref p2,.ref p3]) p4=some (.lst [.ref p,.ref p2,.ref p3]):=AD;have Fc:=F1.same (sa.trans (sb.trans sc));have pt:p≠t:=F1.neT hp;have pt2:p2≠t:=(F1.same sa).neT hp2;have pt3:p3≠t:=(F1.same (sa.trans sb)).neT hp3;have pt4:p4≠t:=Fc.neT hp4;generalize upd Hc p4 (.lst [.ref p,.ref p2,.ref p3])=Hd at *;have S:=sa.trans (sb.trans (sc.trans sd));refine⟨_,F1.same S,by lia,d3,fun i H5 i0 i1 F5 f5=>?_⟩;obtain⟨z,hz,hz3⟩:=TC (a:=V.ref p) (b:=V.ref p2) (c:=V.ref p3) i0 i1;refine⟨_,_,.inl (.of (by rw[f5 p4 pt4];exact gd)),hz,?_⟩;have f:Frm t H H5:=f1.trans (Frm.trans (fun b o _ e=>S b o e) (Aa f5))
  rcases hz3 with e | e | e
  ·exact bound z p [0,1] H5 e (by rw[f5 p pt];exact(sb.trans (sc.trans sd)) _ _ ga) pt (by decide) (by decide) (by decide) F5 f
  ·refine bound z p2 [-7,ten,3] H5 e (by rw[f5 p2 pt2];exact(sc.trans sd) _ _ gb) pt2 (show 1<=3 by decide) (show 3<=10 by decide) ?_ F5 f;rw[<- hten];decide
  ·exact bound z p3 [5,1,4,2,3,0,7,6,8,9] H5 e (by rw[f5 p3 pt3];exact sd _ _ gc) pt3 (by decide) (by decide) (by decide) F5 f
 rintro σ H2 ⟨l,ns,rfl,gl,lt,n1,n10,hn,F2,f2⟩;refine AJ (fun σ H'=>∃(z:V) (k:Addr) (ls:List Int),σ=[some (.ref t),some (.int M),some (.int W),z,some (.ref k),none,none]/\H' k=some (.lst (ls.map V.int))/\k≠t/\ls.length=M/\(∀x∈ls,x.natAbs<=100000000000000000000)/\GFeed H' t (N+10+M)/\Frm t H H') ?_ ?_ (by walk_at "sm")
 ·refine⟨(M:Int),rfl,by lia,by lia,?_⟩
  refine Bj (fun i ys H'=>GFeed H' t (N+10+i)/\Frm t H H'/\H' l=some (.lst (ns.map V.int))/\∃ls:List Int,ys=ls.map V.int/\ls.length=i/\∀x∈ls,x.natAbs<=100000000000000000000) ⟨F2,f2,gl,[],rfl,rfl,nofun⟩ (fun i ys H' hi ⟨_,_,_,ls,e,el,_⟩=>by
   rw[e,ZC,el];exact Ak (by lia)) ?_ ?_
  ·rintro i ys H3 hi ⟨F3,f3,gl3,ls,rfl,el,hs⟩;refine⟨_,.inl ⟨_,.of gl3,rfl⟩,?_⟩;refine⟨_,F3,by lia,Ad (by rw[ZC];lia) (by rw[ZC];lia),fun d H4 x0 x1 F4 f4=>?_⟩;rw[ZC]at x1;have hd:d.toNat < ns.length:=by lia
   refine⟨_,_,.inl (.of (by rw[f4 l lt];exact gl3)),Aq (n:=d.toNat) (by lia) (by rw[ZX,ZE hd];rfl),F4.mono (by lia),f3.trans (Aa f4),by rw[f4 l lt];exact gl3,ls++[ns[d.toNat]],by rw[ZK];rfl,by rw[ZG,el];rfl,?_⟩;intro x hx
   rcases ZH.mp hx with h | h
   ·exact hs x h
   ·rw[ZO.mp h];exact hn _ (Zc hd)
  ·rintro ys H3 ⟨F3,f3,gl3,ls,rfl,el,hs⟩ k hk;rw[ZY]at el F3;exact⟨_,k,ls,rfl,AD,F3.neT hk,el,hs,F3.upd hk,f3.trans (Frm.upd hk)⟩
 clear F2 f2 gl;rintro σ H2 ⟨z,k,ls,rfl,gk,kt,ll,hs,F2,f2⟩;refine⟨smq rfl,fun r hr'=>?_⟩;have hrH:H r=none:=F2.free f2 hr';have rt:r≠t:=F2.neT hr';have rk:k≠r:=fun e=>by rw[e,hr']at gk;cases gk
 dsimp only[Ae];refine AJ (fun σ H'=>∃(z6:Option V) (rs:List (List Bool)) (ys:List V),σ=[some (.ref t),some (.int M),some (.int W),z,some (.ref k),some (.ref r),z6]/\H' k=some (.lst (ls.map V.int))/\H' r=some (.lst ys)/\rs.length=W/\(∀b∈rs,b.length=M)/\Reps K H' (Ac rs) ys/\GFeed H' t (N+300)/\Frm t H H') ?_ ?_ (by walk_at "sm")
 ·refine⟨(W:Int),rfl,by lia,by lia,?_⟩;refine B8 (fun i σ H'=>∃(z6:Option V) (rs:List (List Bool)) (ys:List V),σ=[some (.ref t),some (.int M),some (.int W),z,some (.ref k),some (.ref r),z6]/\H' k=some (.lst (ls.map V.int))/\H' r=some (.lst ys)/\rs.length=i/\(∀b∈rs,b.length=M)/\Reps K H' (Ac rs) ys/\GFeed H' t (N+10+M+M * i)/\Frm t H H') ⟨none,[],[],rfl,by rw[AM rk];exact gk,AD,rfl,nofun,Am,F2.upd hr',f2.trans (Frm.upd hr')⟩ ?_ ?_
  ·rintro i σ H3 hi ⟨z6,rs,ys,rfl,gk3,gr3,rl,hb,R3,F3,f3⟩;have hMi:M * i<=160:=ZP (Nat.mul_le_mul M10 (show i<=16 by lia)) (by decide);have hyl:ys.length=i:=by rw[<- R3.length,D8,rl]
   refine⟨.inl ⟨rfl,_,.of gr3⟩,?_⟩;refine⟨(M:Int),rfl,by lia,by lia,?_⟩
   refine Bj (fun j zs H'=>GFeed H' t (N+10+M+M * i+j)/\Frm t H3 H'/\∃bs:List Bool,zs=bs.map V.bl/\bs.length=j) ⟨F3,Frm.refl,[],rfl,rfl⟩ (fun j zs H' hj ⟨_,_,bs,e,el⟩=>by
    rw[e,ZC,el];exact Ak (by lia)) ?_ ?_
   ·rintro j zs H4 hj ⟨F4,f4,bs,rfl,rfl⟩;refine⟨_,F4,by lia,Ad (by decide) (by decide),fun d H5 _ _ F5 f5=>?_⟩;exact⟨F5.mono (by lia),f4.trans (Aa f5),bs++[_],by rw[ZK];rfl,by rw[ZG];rfl⟩
   ·rintro zs H4 ⟨F4,f4,bs,rfl,el⟩ k4 hk4;rw[ZY]at el F4;refine⟨_,.inl ⟨.of AD,fun p hp=>?_⟩⟩;have s5:=(Same.upd (o:=.lst (bs.map V.bl)) hk4).trans (Same.upd (o:=.tup (bs.map V.bl)) hp);have g5:=AD (H:=upd H4 k4 (.lst (bs.map V.bl))) (a:=p) (o:=.tup (bs.map V.bl));generalize upd (upd H4 k4 (.lst (bs.map V.bl))) p (.tup (bs.map V.bl))=H5 at *;have f35:Frm t H3 H5:=f4.trans fun b o _ e=>s5 b o e
    have gr5:H5 r=some (.lst ys):=f35 _ _ rt gr3
    have R5:Reps K H5 (Ac (rs++[bs])) (ys++[.ref p]):=by
     have e:Ac (rs++[bs])=Ac rs++[.tup (bs.map Dv.bl)]:=by unfold Ac;rw[ZK];rfl
     rw[e];exact Reps.append (Reps.frm f35 F3.lst _ _ (CW _) R3) (Ap (BL g5 (CH bs)) Am)
    refine⟨_,gr5,Ak (by lia),?_⟩;refine⟨_,rs++[bs],_,rfl,by rw[AM rk];exact f35 _ _ kt gk3,AD,by rw[ZG,rl];rfl,?_,Reps.frm Frm.updT ⟨_,gr5⟩ _ _ (CW _) R5,((F4.same s5).put rt gr5 (Jc (Reps.frm f35 F3.lst _ _ (CW _) R3))).mono (by rw[Nat.mul_succ];lia),FC (f3.trans f35) hrH⟩;intro b hb'
    rcases ZH.mp hb' with h | h
    ·exact hb b h
    ·rw[ZO.mp h];exact el
  ·rintro σ H3 ⟨z6,rs,ys,rfl,gk3,gr3,rl,hb,R3,F3,f3⟩;rw[ZY]at rl F3;have hMi:M * W<=160:=ZP (Nat.mul_le_mul M10 W16) (by decide);exact⟨z6,rs,ys,rfl,gk3,gr3,rl,hb,R3,F3.mono (by lia),f3⟩
 rintro σ H3 ⟨z6,rs,ys,rfl,gk3,gr3,rl,hb,R3,F3,f3⟩;refine⟨_,.inl ⟨.of gk3,fun p hp=>?_⟩⟩;have s4:Same H3 (upd H3 p (.tup (ls.map V.int))):=Same.upd hp;have g4:upd H3 p (.tup (ls.map V.int)) p=some (.tup (ls.map V.int)):=AD;generalize upd H3 p (.tup (ls.map V.int))=H4 at *;refine⟨_,.inl ⟨.of (s4 _ _ gr3),fun p4 hp4=>?_⟩⟩;refine⟨smq rfl,fun p5 hp5=>?_⟩;have s5:=(Same.upd (o:=.tup ys) hp4).trans (Same.upd (o:=.tup [.ref p,.ref p4]) hp5);have S5:=s4.trans s5;refine q ls rs _ _ ⟨by lia,by lia,by lia,by lia,fun r h=>by rw[hb r h];lia,hs⟩ ?_ (F3.same S5) (f3.trans fun b o _ e=>S5 b o e);exact BL AD (Ap (BL (s5 _ _ g4) (Fl ls)) (Ap (BL (Same.upd hp5 _ _ AD) (Reps.same S5 _ _ R3)) Am))
theorem Pd(bs:List Bool)(m:Nat)(h:bs.length=2 ^ m)(m1:1<=m)(m4:m<=4):∃ls rs,JH bs m=gmD ls rs/\Gm ls rs:=by
 have h16:2 ^ m<=16:=Zz (n:=2) (j:=4) (by decide) m4;have h2:2<=2 ^ m:=Zz (n:=2) (i:=1) (by decide) m1;refine⟨bs.map fun b=>if b then 1 else 0,(List.range m).map (Bx m),?_,?_⟩
 ·unfold JH gmD GK B0 Ac;rw[Z5,Z5];rfl
 ·refine⟨by rw[ZC];lia,by rw[ZC];lia,by rw[ZC,ZBV];lia,by rw[ZC,ZBV];lia,?_,?_⟩
  ·intro r hr;obtain⟨i,_,rfl⟩:=ZT.mp hr;rw[Ud,ZC,h]
  ·intro x hx;obtain⟨b,_,rfl⟩:=ZT.mp hx;cases b <;> decide
theorem T6:FnOk P w K mg base CX0 4 T.f_z41 T.d_z41 ["_law_feed_here"] (By K 500 800000000):=by
 have G_z35:=@CT P w K mg base T;have G_z16:=@T1 P w K mg base T;have G_z18:=@Nf P w K mg base T;have G_z27:=@Tq P w K mg base T;have G_z21:=@PD P w K mg base T;have G_z30:=@J4 P w K mg base T;have G_z29:=@Uk P w K mg base T;refine T.F_z41.ok sc_z41 (fun vs H Q E h=>by unfold By at h;split at h <;> first | rfl | exact h.elim) (fun cdv A outer s H vs Q E hr h=>?_);have hu:=Ag hr;have hr_z35:=hr.mono (show 1<=_ by decide);have hr_z16:=hr.mono (show 1<=_ by decide);have hr_z18:=hr.mono (show 1<=_ by decide);have hr_z27:=hr.mono (show 2<=_ by decide);have hr_z21:=hr.mono (show 2<=_ by decide);have hr_z30:=hr.mono (show 2<=_ by decide);have hr_z29:=hr.mono (show 3<=_ by decide);unfold By at h;split at h;rotate_left
 ·exact h.elim
 rename_i t;obtain⟨N,F,hN,q⟩:=h;refine⟨_,(@AE _ _ _ _ _ (@AS _ _ 1 _ _ _ _ sc_z41.nd rfl (by right) (AH G_z35 hr_z35 rfl T.m_z35 T.F_z35.kp T.b_z35 .nil AG (AA (vv 0) (AA AC AB))) (by rfl) (by walk_at "i")) (@AE _ _ _ _ _ (@Ai _ _ _ _ _ _ _ _ (AX (kEq (K:=K) hu) (vv 1) AC) (@AF _ _ _ (@AK _ _ _ _ (AH G_z16 hr_z16 rfl T.m_z16 T.F_z16.kp T.b_z16 .nil AG (AA (AH G_z30 hr_z30 rfl T.m_z30 T.F_z30.kp T.b_z30 .nil AG (AA (vv 0) (AA (AI (BH (K:=K)) AC (AH G_z35 hr_z35 rfl T.m_z35 T.F_z35.kp T.b_z35 .nil AG (AA (vv 0) (AA AC AB)))) AB))) AB)))) Ah) (@AE _ _ _ _ _ (@Ai _ _ _ _ _ _ _ _ (AX (kEq (K:=K) hu) (vv 1) AC) (@AF _ _ _ (@AK _ _ _ _ (AH G_z18 hr_z18 rfl T.m_z18 T.F_z18.kp T.b_z18 .nil AG (AA (AH G_z29 hr_z29 rfl T.m_z29 T.F_z29.kp T.b_z29 .nil AG (AA (vv 0) (AA (AI (BH (K:=K)) AC (AH G_z35 hr_z35 rfl T.m_z35 T.F_z35.kp T.b_z35 .nil AG (AA (vv 0) (AA AC AB)))) (AA (AI (BH (K:=K)) AC (AH G_z35 hr_z35 rfl T.m_z35 T.F_z35.kp T.b_z35 .nil AG (AA (vv 0) (AA AC AB)))) AB)))) AB)))) Ah) (@AF _ _ _ (@AK _ _ _ _ (Gq (AX (kEq (K:=K) hu) (vv 1) AC) (AH G_z27 hr_z27 rfl T.m_z27 T.F_z27.kp T.b_z27 .nil AG (AA (vv 0) AB)) (AH G_z21 hr_z21 rfl T.m_z21 T.F_z21.kp T.b_z21 .nil AG (AA (vv 0) AB)))))))),?_⟩;have d4:okDiv 4:=Ad (by decide) (by decide);have d5:okDiv 5:=Ad (by decide) (by decide);have d6:okDiv 6:=Ad (by decide) (by decide);have d3:okDiv 3:=Ad (by decide) (by decide);refine⟨_,F,by lia,d6,fun way H1 w0 w1 F1 f1=>?_⟩;dsimp only[Ae];refine Ab (fun e=>?_) (fun e=>?_)
 ·refine⟨_,F1,by lia,d4,fun a H2 a0 a1 F2 f2=>?_⟩;obtain⟨m,hm⟩:∃m:Nat,1+a=m:=⟨(1+a).toNat,by lia⟩;rw[show DP K (V.int 1) (V.int a) H2=fun Q=>Q (.int (1+a)) H2 from rfl];rw[hm];refine⟨m,_,F2,by lia,rfl,by lia,by lia,fun bs p H3 hb hp g3 F3 f3=>?_⟩;refine⟨bs,m,.of g3,hb,by lia,by lia,fun u H4 s4 r4=>?_⟩;obtain⟨ls,rs,e,g⟩:=Pd bs m hb (by lia) (by lia);rw[e]at r4;exact q ls rs u H4 g r4 ((F3.same s4).mono (by lia)) ((Aa f1).trans ((Aa f2).trans (f3.trans fun b o _ e=>s4 b o e)))
 dsimp only[Cq];refine Ab (fun e=>?_) (fun e=>?_)
 ·refine⟨_,F1,by lia,d3,fun a H2 a0 a1 F2 f2=>?_⟩;refine⟨_,F2,by lia,d5,fun b H3 b0 b1 F3 f3=>?_⟩;obtain⟨m,hm⟩:∃m:Nat,1+a=m:=⟨(1+a).toNat,by lia⟩;obtain⟨M,hM⟩:∃M:Nat,2+b=M:=⟨(2+b).toNat,by lia⟩;refine⟨m,M,_,F3,by lia,hm,by lia,by lia,hM,by lia,by lia,fun ts xs p H4 t2 tM tb hp g4 R4 F4 f4=>?_⟩;have h8:2 ^ m<=8:=Zz (n:=2) (j:=3) (by decide) (by lia);refine⟨ts,xs,2 ^ m,g4,R4,t2,by lia,tb,Nat.two_pow_pos m,h8,fun ls rs u H5 g s5 r5=>?_⟩;exact q ls rs u H5 g r5 ((F4.same s5).mono (by lia)) ((Aa f1).trans ((Aa f2).trans ((Aa f3).trans (f4.trans fun b o _ e=>s5 b o e))))
 dsimp only[Cq];refine Ab (fun e=>?_) (fun e=>?_)
 ·exact⟨_,F1,by lia,fun ls rs u H2 g r2 F2 f2=>q ls rs u H2 g r2 (F2.mono (by lia)) ((Aa f1).trans f2)⟩
 ·exact⟨_,F1,by lia,fun ls rs u H2 g r2 F2 f2=>q ls rs u H2 g r2 (F2.mono (by lia)) ((Aa f1).trans f2)⟩
def AR(rb:List Bool)(ans:Bool)(ts:List Nat):List Nat:=ts.filter fun k=>gB rb k == ans
theorem Rm{rb:List Bool}{ans:Bool}{ts:List Nat}{i k:Nat}(h:ts[i]? = some k):AR rb ans (ts.take (i+1))=AR rb ans (ts.take i)++(if (gB rb k == ans)=true then [k] else []):=by
 unfold AR;rw[Zi,h,ZB1]
 congr 1
 simp only[Option.toList_some,ZBI,ZB4]
theorem Lp(rb:List Bool)(ans:Bool)(ts:List Nat):(AR rb ans ts).length<=ts.length:=ZBu _ _
theorem KP{K:W.Frag}{H:Hp}{d1 d2:Dv}{v:V}(h:Rep K H (.tup [d1,d2]) v):∃a x1 x2,v=.ref a/\SqT K H a [x1,x2]/\Rep K H d1 x1/\Rep K H d2 x2:=by
 obtain⟨a,xs,rfl,hs,hx⟩:=EE h;obtain⟨x1,r1,rfl,hx1,hx'⟩:=(show ∃x r,xs=x::r/\Rep K H d1 x/\Reps K H [d2] r by unfold Reps at hx;exact hx);obtain⟨x2,r2,rfl,hx2,hx''⟩:=(show ∃x r,r1=x::r/\Rep K H d2 x/\Reps K H [] r by unfold Reps at hx';exact hx');obtain rfl:r2=[]:=by unfold Reps at hx'';exact hx''
 exact⟨a,x1,x2,rfl,hs,hx1,hx2⟩
theorem LP{K:W.Frag}{H:Hp}:∀{bs:List Bool} {xs:List V},Reps K H (bs.map Dv.bl) xs->xs=bs.map V.bl
 | [],xs,h=>by unfold Reps at h;exact h
 | b::bs,xs,h=>by
  rw[Zg]at h;unfold Reps at h;obtain⟨x,r,rfl,h1,h2⟩:=h;unfold Rep at h1;rw[h1,LP h2];rfl
theorem HG{K:W.Frag}{H:Hp}:∀{bs:List Int} {xs:List V},Reps K H (bs.map Dv.int) xs->xs=bs.map V.int
 | [],xs,h=>by unfold Reps at h;exact h
 | b::bs,xs,h=>by
  rw[Zg]at h;unfold Reps at h;obtain⟨x,r,rfl,h1,h2⟩:=h;unfold Rep at h1;rw[h1,HG h2];rfl
structure GmAt(K:W.Frag)(H:Hp)(ls:List Int)(rs:List (List Bool))(a tl rl:Addr)(ps:List Addr):Prop where
 two:SqT K H a [.ref tl,.ref rl]
 lab:SqT K H tl (ls.map V.int)
 rows:SqT K H rl (ps.map V.ref)
 len:ps.length=rs.length
 row:∀(i:Nat) (q:Addr) (r:List Bool),ps[i]? = some q->rs[i]? = some r->SqT K H q (r.map V.bl)
theorem MS{K:W.Frag}{H:Hp}:∀{rs:List (List Bool)} {xs:List V},Reps K H (Ac rs) xs->∃ps:List Addr,xs=ps.map V.ref/\ps.length=rs.length/\∀(i:Nat) (q:Addr) (r:List Bool),ps[i]? = some q->rs[i]? = some r->SqT K H q (r.map V.bl)
 | [],xs,h=>by
  have:xs=[]:=by simpa [Ac,Reps] using h
  exact⟨[],this,rfl,fun i q r z=>by simp at z⟩
 | r::rs,xs,h=>by
  have h':Reps K H (Dv.tup (r.map Dv.bl)::Ac rs) xs:=h;unfold Reps at h';obtain⟨x,ys,rfl,h1,h2⟩:=h';obtain⟨a,zs,rfl,hs,hz⟩:=EE h1;obtain rfl:=LP hz;obtain⟨ps,rfl,hl,hr⟩:=MS h2;refine⟨a::ps,rfl,by rw[Zj,Zj,hl],fun i q r' hi hr'=>?_⟩;cases i with
  | zero=>cases hi;cases hr';exact hs
  | succ i=>exact hr i q r' hi hr'
theorem Bh{K:W.Frag}{H:Hp}{ls:List Int}{rs:List (List Bool)}{v:V}(h:Rep K H (gmD ls rs) v):∃a tl rl ps,v=.ref a/\GmAt K H ls rs a tl rl ps:=by
 obtain⟨a,x1,x2,rfl,hs,h1,h2⟩:=KP h;obtain⟨tl,zs,rfl,hl,hz⟩:=EE h1;obtain rfl:=HG hz;obtain⟨rl,ws,rfl,hr,hw⟩:=EE h2;obtain⟨ps,rfl,e,hp⟩:=MS hw;exact⟨a,tl,rl,ps,rfl,hs,hl,hr,e,hp⟩
theorem GmAt.same{K:W.Frag}{H H':Hp}{ls:List Int}{rs:List (List Bool)}{a tl rl:Addr}{ps:List Addr}(g:GmAt K H ls rs a tl rl ps)(s:Same H H'):GmAt K H' ls rs a tl rl ps :=
 ⟨s.sqT g.two,s.sqT g.lab,s.sqT g.rows,g.len,fun i q r x y=>s.sqT (g.row i q r x y)⟩
theorem GmAt.frm{K:W.Frag}{H H':Hp}{ls:List Int}{rs:List (List Bool)}{a tl rl t:Addr}{ps:List Addr}{o:HO}(g:GmAt K H ls rs a tl rl ps)(f:Frm t H H')(ht:H t=some o)(no:DD o):GmAt K H' ls rs a tl rl ps :=
 ⟨BS f ht no g.two,BS f ht no g.lab,BS f ht no g.rows,g.len,fun i q r x y=>BS f ht no (g.row i q r x y)⟩
def Bd(r:List Bool):Nat:=msk (whr (r.map (· == true)) r.length)
theorem Ft(r:List Bool)(k:Nat):(Bd r).testBit k=gB r k:=by
 unfold Bd;rw[(DF (LM _ _) (fun t ht=>GZ ht)).2 k,ZBD,decide_eq_true_eq,Tt]
 by_cases h:k < r.length
 ·have e:gB (r.map (· == true)) k=gB r k:=by
   rw[Kd (x:=r[k]) (ZE h)];unfold gB;rw[Zy,ZE h];simp
  rw[e];simp[h]
 ·have e:gB r k=false:=by unfold gB;rw[Zy,List.getElem?_eq_none (by lia)];rfl
  rw[e];simp[h]
abbrev Aw:=List (List Nat × Int)
def AL(e:List Nat × Int):Dw:=.tup [.tup (e.1.map fun(t:Nat)=>Dw.int (t:Int)),.int e.2]
structure EntOk(n:Nat)(e:List Nat × Int):Prop where
 up:e.1.Pairwise (· < ·)
 lt:∀t∈e.1,t < n
 one:1<=e.2
structure NumsOf(n:Nat)(es:Aw)(kvs:List (Key × V)):Prop extends NumsOk n kvs where
 fro:∀(S:Nat) (k:Int),(kN S,V.int k)∈kvs->∃e∈es,S=msk e.1/\k=e.2
 to_:∀e∈es,∃k:Int,(kN (msk e.1),V.int k)∈kvs/\e.2<=k
theorem NumsOf.put{n:Nat}{es:Aw}{kvs:List (Key × V)}(h:NumsOf n es kvs){e:List Nat × Int}(he:EntOk n e){k0:Int}(hk:(valV kvs (kN (msk e.1))=none/\k0=0)\/valV kvs (kN (msk e.1))=some (.int k0)) :
 NumsOf n (es++[e]) (Ar kvs (kN (msk e.1)) (.int (max k0 e.2))):=by
 obtain⟨hS,_⟩:=DF he.up he.lt;have one:=he.one;refine⟨⟨LO h.nd,fun x hx=>?_⟩,fun S k hx=>?_,fun x hx=>?_⟩
 ·rcases put_mem hx with rfl | ⟨q,_⟩
  ·exact⟨_,_,rfl,hS,by lia⟩
  ·exact h.ok x q
 ·rcases put_mem hx with q | ⟨q,_⟩
  ·have e1:kN S=kN (msk e.1):=congrArg Prod.fst q;have e2:V.int k=V.int (max k0 e.2):=congrArg Prod.snd q;have e3:S=msk e.1:=by injection e1 with z;lia
   cases e2
   by_cases z:k0<=e.2
   ·exact⟨e,by simp,e3,by lia⟩
   ·rcases hk with ⟨_,y⟩ | y
    ·lia
    ·obtain⟨x,hx1,hx2,hx3⟩:=h.fro _ _ (Dq y);exact⟨x,Z1 _ hx1,by lia,by lia⟩
  ·obtain⟨x,hx1,hx2⟩:=h.fro S k q;exact⟨x,Z1 _ hx1,hx2⟩
 ·rcases ZH.mp hx with q | q
  ·obtain⟨k,a,b⟩:=h.to_ x q
   by_cases z:kN (msk x.1)=kN (msk e.1)
   ·rw[z]at a ⊢;refine⟨_,Km,?_⟩
    have:=Qy h.nd a
    rcases hk with ⟨y,_⟩ | y
    ·rw[y]at this;cases this
    ·rw[y]at this;cases this;lia
   ·exact⟨k,R9 a z,b⟩
  ·have:x=e:=by simpa using q
   subst this;exact⟨_,Km,by lia⟩
def EntAt(K:W.Frag)(H:Hp)(e:List Nat × Int)(x:V):Prop:=∃b c,x=.ref b/\SqT K H b [.ref c,.int e.2]/\SqT K H c (iL e.1)
structure EntsAt(K:W.Frag)(H:Hp)(es:Aw)(ua:Addr)(xs:List V):Prop where
 sq:SqT K H ua xs
 len:xs.length=es.length
 at_:∀(i:Nat) (e:List Nat × Int),es[i]? = some e->∃x,xs[i]? = some x/\EntAt K H e x
theorem Gy{H:Hp}:∀{ts:List Nat} {xs:List V},RepsW K H (ts.map fun(t:Nat)=>Dw.int (t:Int)) xs->xs=iL ts
 | [],xs,h=>by unfold RepsW at h;exact h
 | t::ts,xs,h=>by
  rw[Zg]at h;unfold RepsW at h;obtain⟨x,r,rfl,h1,h2⟩:=h;unfold RepW at h1;rw[h1,Gy h2];rfl
theorem GH{H:Hp}{e:List Nat × Int}{x:V}(h:RepW K H (AL e) x):EntAt K H e x:=by
 obtain⟨b,xs,rfl,hb,hx⟩:=Bg h;unfold RepsW at hx;obtain⟨x0,l0,rfl,r0,hx⟩:=hx;unfold RepsW at hx;obtain⟨x1,l1,rfl,r1,hx⟩:=hx;unfold RepsW at hx;subst hx;obtain⟨c,zs,rfl,hc,hz⟩:=Bg r0;unfold RepW at r1;subst r1;rw[Gy hz]at hc;exact⟨b,c,rfl,hb,hc⟩
theorem Hf{H:Hp}{es:Aw}{u:V}(h:RepW K H (.tup (es.map AL)) u):∃ua xs,u=.ref ua/\EntsAt K H es ua xs:=by
 obtain⟨ua,xs,rfl,hs,hx⟩:=Bg h;refine⟨ua,xs,rfl,hs,by rw[<- hx.length,ZC],fun i e he=>?_⟩;obtain⟨x,h1,h2⟩:=hx.get (i:=i) (d:=AL e) (by rw[ZX,he];rfl);exact⟨x,h1,GH h2⟩
theorem EntsAt.same{H H':Hp}{es:Aw}{ua:Addr}{xs:List V}(h:EntsAt K H es ua xs)(s:Same H H'):EntsAt K H' es ua xs:=⟨s.sqT h.sq,h.len,fun i e he=>by
 obtain⟨x,h1,b,c,h2,h3,h4⟩:=h.at_ i e he;exact⟨x,h1,b,c,h2,s.sqT h3,s.sqT h4⟩⟩
theorem EntsAt.frm{H H':Hp}{es:Aw}{ua d:Addr}{xs:List V}{o:HO}(h:EntsAt K H es ua xs)(f:Frm d H H')(hd:H d=some o)(no:DD o):EntsAt K H' es ua xs:=⟨BS f hd no h.sq,h.len,fun i e he=>by
 obtain⟨x,h1,b,c,h2,h3,h4⟩:=h.at_ i e he;exact⟨x,h1,b,c,h2,BS f hd no h3,BS f hd no h4⟩⟩
def DQ(K:W.Frag)(C:Addr):Sp:=fun vs H Q _=>match vs with
 | [.ref p,v,u]=>∃ls rs dx es,H p=some (.ins C dx [])/\Rep K H (gmD ls rs) v/\Gm ls rs/\RepW K H (.tup (es.map AL)) u/\(∀e∈es,EntOk ls.length e)/\es.length<=100000/\∀kvs nd fd H',H nd=none->H fd=none->nd≠p->fd≠p->NumsOf ls.length es kvs->BrAt K C ls.length (rs.map Bd) kvs H' p nd fd->Frm p H H'->Q .non H'
 | _=>False
theorem Qg{C:Addr}:AQ (DQ K C):=fun vs H Q Q' E h q=>by
 unfold DQ at *;split at q
 ·revert q;repeat' first | exact h _ _ | exact A4 h | exact out_mono h | exact outT_mono h | walk_at "m"
 ·exact q.elim
theorem NO:FnOk P w K mg base CX0 4 T.f_z20 T.d_z20 ["self","game","entries"] (DQ K T.C_Bearing):=by
 have G_z24:=@Rk P w K mg base T;refine T.F_z20.ok sc_z20 (fun vs H Q E h=>by unfold DQ at h;split at h <;> first | rfl | exact h.elim) (fun cdv A outer s H vs Q E hr h=>?_);have hu:=Ag hr;have hr_z24:=hr.mono (show 3<=_ by decide);have mo1:AQ (Dj K):=Qz;unfold DQ at h;split at h;rotate_left
 ·exact h.elim
 rename_i p v u;obtain⟨ls,rs,dx,es,hp,hv,G,hes,hok,hel,q⟩:=h;obtain⟨a,tl,rl,ps,rfl,g⟩:=Bh hv;have l16:=G.l16;have r16:=G.r16;have hpl:=g.len;refine⟨_,(@AE _ _ _ _ _ (GS T.cl_Bearing T.na_Bearing_yeses (vv 0) (Ay (N':=["row"]) (own:=1) (ix:=[]) rfl (Az (K:=K) (kIx (K:=K) (vv 1) AC)) (by kernel_rfl) rfl rfl (by kernel_rfl) (fun c=>AN (i:=0) (show(["row"]:List Str).Nodup by decide +kernel) rfl (by right)) (Aj (by decide)) (fun c=>A0) (fun c=>(AH G_z24 hr_z24 rfl T.m_z24 T.F_z24.kp T.b_z24 .nil AG (AA (Ay (N':=["each","answer"]) (own:=2) (ix:=[]) rfl (P0 (K:=K) rfl T.z_enumerate (AA (vv 0) AB)) (by kernel_rfl) rfl rfl (by kernel_rfl) (fun c=>Jv (K:=K) (n:=2) rfl (B2 (AN (i:=0) (show(["each","answer"]:List Str).Nodup by decide +kernel) rfl (by right)) (B2 (AN (i:=1) (show(["each","answer"]:List Str).Nodup by decide +kernel) rfl (by right)) Df))) (Jy (Ey C4 (GF C4 EK) (Aj (by decide)) (Ey C4 EK (Aj (by decide)) Jk))) (fun c=>Cv (A7 (vv 1))) (fun c=>(vv 0))) AB))))) (@AE _ _ _ _ _ (GS T.cl_Bearing T.na_Bearing_numbers (vv 0) Hl) (@AE _ _ _ _ _ (GS T.cl_Bearing T.na_Bearing_found (vv 0) Hl) (@AF _ _ _ (@BF _ _ _ _ _ _ _ _ PassesOwn.never rfl (Az (K:=K) (vv 2)) (AN (i:=3) sc_z20.nd rfl (by right)) (@AE _ _ _ _ _ (@AS _ _ 4 _ _ _ _ sc_z20.nd rfl (by right) (AH G_z24 hr_z24 rfl T.m_z24 T.F_z24.kp T.b_z24 .nil AG (AA (kIx (K:=K) (vv 3) AC) AB)) (by rfl) (by walk_at "i")) (@AF _ _ _ (@GQ _ _ _ _ _ _ _ _ _ (Cr hu) (Ci T.cl_Bearing T.na_Bearing_numbers (vv 0)) (vv 4) (AT (L0 rfl) rfl T.z_max (by rfl) (AA (L5 (Cr hu) (Ci T.cl_Bearing T.na_Bearing_numbers (vv 0)) (vv 4) AC ⟨by rfl,by rfl,by rfl,by rfl⟩) (AA (kIx (K:=K) (vv 3) AC) AB))) (by rfl)))) (by intro _;rfl)))))),?_⟩;obtain⟨ua,xs,rfl,E0'⟩:=Hf hes
 -- the rows
 refine⟨_,.ref rl,.inr g.two,rfl,.inr ⟨⟨_,g.rows⟩,?_⟩⟩
 refine Bk (xs:=ps.map V.ref) (fun k zs H'=>Same H H'/\zs=iL ((rs.take k).map Bd)) ⟨Same.refl _,rfl⟩ (fun k zs H' _ ⟨s,_⟩=>s.sqT g.rows) (fun k zs H' hk ⟨_,e⟩=>by
  rw[ZC]at hk;rw[e,Ax,ZC,ZV];exact Ak (by lia)) ?_ ?_
 ·rintro k x zs H' hx ⟨s1,rfl⟩;rw[ZX]at hx;cases e0:ps[k]? with
  | none=>rw[e0]at hx;cases hx
  | some b =>
   rw[e0]at hx;cases hx;have hk:k < rs.length:=by rw[<- hpl];exact(Zb.mp e0).1
   have er:rs[k]? = some rs[k]:=ZE hk;have hrow:=G.row _ (Zc hk);have hp0:=s1.sqT (g.row k b _ e0 er);generalize hrb:rs[k]=rb at *;refine⟨⟨_,hp0⟩,?_⟩
   refine QH (xs:=rb.map V.bl) (fun i zs H''=>Same H' H''/\zs=iL (whr (rb.map (· == true)) i)) ⟨Same.refl _,rfl⟩ (fun i zs H'' _ ⟨s,_⟩=>s.sqT hp0) (fun i zs H'' hi ⟨_,e⟩=>by
    rw[ZC]at hi
    have:=LQ (rb.map (· == true)) i
    rw[e,Ax];exact Ak (by lia)) ?_ ?_
   ·rintro i x zs H2 pp hx ⟨s2,rfl⟩ hpp;rw[ZX]at hx;cases e0:rb[i]? with
    | none=>rw[e0]at hx;cases hx
    | some r =>
     rw[e0]at hx;cases hx;have eg:gB (rb.map (· == true)) i=(r == true):=Kd e0;refine⟨pp,_,rfl,.of AD,rfl,_,_,rfl,_,_,rfl,rfl,?_⟩;rw[No,DG,eg];cases r with
     | true=>exact⟨s2.trans (Same.upd hpp),rfl⟩
     | false=>exact⟨s2.trans (Same.upd hpp),by show _=_++[];rw[Z4]⟩
   ·rintro zs H2 ⟨s2,rfl⟩ l hl;rw[ZC];refine⟨_,.inl (.of AD),by have:=LQ (rb.map (· == true)) rb.length;lia,fun t ht=>by have:=GZ ht;lia,fun H3 s3=>?_⟩;refine⟨s1.trans (s2.trans ((Same.upd hl).trans s3)),?_⟩;rw[Zi,er,ZK,DG];rfl
 rintro zs H2' ⟨s1,rfl⟩ yl hyl;rw[ZC,hpl,Zm];have s2:Same H (upd H2' yl (.lst (iL (rs.map Bd)))):=s1.trans (Same.upd hyl);have gy2:upd H2' yl (.lst (iL (rs.map Bd))) yl=some (.lst (iL (rs.map Bd))):=AD;generalize upd H2' yl (.lst (iL (rs.map Bd)))=H2 at *;have hp2:=s2 _ _ hp;have ny:yl≠p:=CZ gy2 hp2 (by intro z;cases z);refine⟨dx,_,hp2,(show 0 < 1000 by decide),?_⟩;have f3:Frm p H2 (upd H2 p (.ins T.C_Bearing dx (At "yeses" (.ref yl) []))):=Frm.updT;have hp3:upd H2 p (.ins T.C_Bearing dx (At "yeses" (.ref yl) [])) p=some (.ins T.C_Bearing dx [("yeses",.ref yl)]):=by rw[pb1];exact AD
 have E3:=(E0'.same s2).frm f3 hp2 HK;have gy3:=f3 _ _ ny gy2;have F3:Frm p H (upd H2 p (.ins T.C_Bearing dx (At "yeses" (.ref yl) []))):=(Cu s2).trans f3;generalize upd H2 p (.ins T.C_Bearing dx (At "yeses" (.ref yl) []))=H3 at *
 -- the dicts
 intro nd hnd;have s4:Same H3 (upd H3 nd (.dK [])):=Same.upd hnd;have nnp:nd≠p:=fun e=>by rw[e,hp3]at hnd;cases hnd
 have gn4:upd H3 nd (.dK []) nd=some (.dK []):=AD
 have hn0:H nd=none:=by
  cases e:H nd with
  | none=>rfl
  | some o=>rw[F3 nd o nnp e]at hnd;cases hnd
 generalize upd H3 nd (.dK [])=H4 at *;have hp4:=s4 _ _ hp3;refine⟨dx,_,hp4,(show 1 < 1000 by decide),?_⟩;have f5:Frm p H4 (upd H4 p (.ins T.C_Bearing dx (At "numbers" (.ref nd) [("yeses",.ref yl)]))):=Frm.updT;have hp5:upd H4 p (.ins T.C_Bearing dx (At "numbers" (.ref nd) [("yeses",.ref yl)])) p=some (.ins T.C_Bearing dx [("yeses",.ref yl),("numbers",.ref nd)]):=by rw[pb2];exact AD
 have E5:=(E3.same s4).frm f5 hp4 HK;have gy5:=f5 _ _ ny (s4 _ _ gy3);have gn5:=f5 _ _ nnp gn4;have F5:Frm p H (upd H4 p (.ins T.C_Bearing dx (At "numbers" (.ref nd) [("yeses",.ref yl)]))):=F3.trans ((Cu s4).trans f5);generalize upd H4 p (.ins T.C_Bearing dx (At "numbers" (.ref nd) [("yeses",.ref yl)]))=H5 at *;intro fd hfd;have s6:Same H5 (upd H5 fd (.dK [])):=Same.upd hfd;have nfp:fd≠p:=fun e=>by rw[e,hp5]at hfd;cases hfd
 have nnf:nd≠fd:=fun e=>by rw[<- e,gn5]at hfd;cases hfd
 have gf6:upd H5 fd (.dK []) fd=some (.dK []):=AD
 have hf0:H fd=none:=by
  cases e:H fd with
  | none=>rfl
  | some o=>rw[F5 fd o nfp e]at hfd;cases hfd
 generalize upd H5 fd (.dK [])=H6 at *;have hp6:=s6 _ _ hp5;refine⟨dx,_,hp6,(show 2 < 1000 by decide),?_⟩;have f7:Frm p H6 (upd H6 p (.ins T.C_Bearing dx (At "found" (.ref fd) [("yeses",.ref yl),("numbers",.ref nd)]))):=Frm.updT;have hp7:upd H6 p (.ins T.C_Bearing dx (At "found" (.ref fd) [("yeses",.ref yl),("numbers",.ref nd)])) p=some (.ins T.C_Bearing dx (CA (.ref yl) (.ref nd) (.ref fd))):=by rw[pb3];exact AD
 have E7:=(E5.same s6).frm f7 hp6 HK;have gy7:=f7 _ _ ny (s6 _ _ gy5);have gn7:=f7 _ _ nnp (s6 _ _ gn5);have gf7:=f7 _ _ nfp gf6;have F7:Frm p H (upd H6 p (.ins T.C_Bearing dx (At "found" (.ref fd) [("yeses",.ref yl),("numbers",.ref nd)]))):=F5.trans ((Cu s6).trans f7);generalize upd H6 p (.ins T.C_Bearing dx (At "found" (.ref fd) [("yeses",.ref yl),("numbers",.ref nd)]))=H7 at *;clear f3 f5 f7 s4 s6 hp2 hp3 hp4 hp5 hp6 gy2 gy3 gy5 gn4 gn5 gf6 F3 F5 E3 E5
 -- the entries
 refine .inr ⟨⟨_,E7.sq⟩,?_⟩;refine D7 (xs:=xs) (fun j σ H'=>∃(z3 z4:Option V) (kvs:List (Key × V)),σ=[some (.ref p),some (.ref a),some (.ref ua),z3,z4]/\EntsAt K H' es ua xs/\H' p=some (.ins T.C_Bearing dx (CA (.ref yl) (.ref nd) (.ref fd)))/\H' yl=some (.lst (iL (rs.map Bd)))/\H' nd=some (.dK kvs)/\H' fd=some (.dK [])/\NumsOf ls.length (es.take j) kvs/\Frm p H H') ⟨none,none,[],rfl,E7,hp7,gy7,gn7,gf7,⟨⟨by simp,(fun e he=>by cases he)⟩,(fun S k he=>by cases he),(fun e he=>by rw[ZB2]at he;cases he)⟩,F7⟩ (fun j σ H' _ ⟨_,_,_,_,e,_⟩=>e.sq) ?_ ?_
 ·rintro j x σ H8 hx ⟨z3,z4,kvs,rfl,E8,hp8,gy8,gn8,gf8,N8,F8⟩;have hj:j < es.length:=by rw[<- E7.len];exact(Zb.mp hx).1
  have ee:es[j]? = some es[j]:=ZE hj;obtain⟨x',ex,b,c,rfl,hb,hc⟩:=E8.at_ j _ ee;rw[hx]at ex;cases ex;have he:=hok _ (Zc hj);generalize es[j]=e at *;have hlen:e.1.length<=ls.length:=CC ls.length e.1 (he.up.imp fun h=>ZQ h) he.lt;refine⟨_,.ref c,.inr hb,rfl,e.1,.inr hc,by lia,fun t ht=>by have:=he.lt t ht;lia,fun H9 s9=>?_⟩;have hp9:=s9 _ _ hp8;have gn9:=s9 _ _ gn8;dsimp only[Ae];refine⟨dx,_,_,hp9,lb2 _ _ _,nd,rfl,Mc (.inl gn9),valV kvs (kN (msk e.1)),Kx (k:=kN (msk e.1)) (.inl gn9),?_⟩;have hb9:=s9.sqT hb;have hkl:=Gh N8.nd (fun e he=>by obtain⟨S,k,h1,h2,_⟩:=N8.ok e he;exact⟨S,_,h1,h2⟩) l16
  have fin:∀(k0:Int),((valV kvs (kN (msk e.1))=none/\k0=0)\/valV kvs (kN (msk e.1))=some (.int k0))->∃(z3 z4:Option V) (kvs':List (Key × V)),[some (V.ref p),some (V.ref a),some (V.ref ua),some (V.ref b),some (V.int (msk e.1:Nat))]=[some (V.ref p),some (V.ref a),some (V.ref ua),z3,z4]/\EntsAt K (upd H9 nd (.dK (Ar kvs (kN (msk e.1)) (.int (max k0 e.2))))) es ua xs/\upd H9 nd (.dK (Ar kvs (kN (msk e.1)) (.int (max k0 e.2)))) p=some (.ins T.C_Bearing dx (CA (.ref yl) (.ref nd) (.ref fd)))/\upd H9 nd (.dK (Ar kvs (kN (msk e.1)) (.int (max k0 e.2)))) yl=some (.lst (iL (rs.map Bd)))/\upd H9 nd (.dK (Ar kvs (kN (msk e.1)) (.int (max k0 e.2)))) nd=some (.dK kvs')/\upd H9 nd (.dK (Ar kvs (kN (msk e.1)) (.int (max k0 e.2)))) fd=some (.dK [])/\NumsOf ls.length (es.take (j+1)) kvs'/\Frm p H (upd H9 nd (.dK (Ar kvs (kN (msk e.1)) (.int (max k0 e.2))))):=by
   intro k0 hk0;have fu:Frm nd H9 (upd H9 nd (.dK (Ar kvs (kN (msk e.1)) (.int (max k0 e.2))))):=Frm.updT;refine⟨_,_,_,rfl,(E8.same s9).frm fu gn9 NL,fu _ _ (Ne.symm nnp) hp9,fu _ _ (CZ (s9 _ _ gy8) gn9 (by intro z;cases z)) (s9 _ _ gy8),AD,fu _ _ (Ne.symm nnf) (s9 _ _ gf8),?_,fun b' o hb' e'=>?_⟩
   ·rw[Zi,ee];exact N8.put he hk0
   ·have h8:=F8 b' o hb' e';rw[AM (fun z=>by rw[z,hn0]at e';cases e')];exact s9 _ _ h8
  cases ev:valV kvs (kN (msk e.1)) with
  | none =>
   refine⟨_,_,.inr hb9,Aq (n:=1) rfl rfl,?_⟩;refine⟨dx,_,_,hp9,lb2 _ _ _,nd,_,rfl,DPut.k (k:=kN (msk e.1)) gn9 hkl,?_⟩;exact fin 0 (.inl ⟨ev,rfl⟩)
  | some v =>
   obtain⟨S,k,e1,_,hk⟩:=N8.ok _ (Dq ev);have e2:v=V.int k:=congrArg Prod.snd e1;subst e2;refine⟨_,_,.inr hb9,Aq (n:=1) rfl rfl,?_⟩;refine⟨dx,_,_,hp9,lb2 _ _ _,nd,_,rfl,DPut.k (k:=kN (msk e.1)) gn9 hkl,?_⟩;exact fin k (.inr ev)
 ·rintro σ H8 ⟨z3,z4,kvs,rfl,E8,hp8,gy8,gn8,gf8,N8,F8⟩;rw[E7.len,Zm]at N8;refine q kvs nd fd H8 hn0 hf0 nnp nfp N8 ⟨⟨dx,yl,[],hp8,gy8,.inl gn8,gf8,⟨by simp,fun e he=>by cases he⟩⟩,N8.toNumsOk,l16,by rw[ZC];exact r16,nnf,fun y hy=>?_⟩ F8;obtain⟨r,hr',rfl⟩:=ZT.mp hy;have hrow:=G.row r hr';unfold Bd
  have:=(DF (N:=ls.length) (LM (r.map (· == true)) r.length) (fun t ht=>by rw[<- hrow];exact GZ ht)).1
  exact this
def DW(rs:List (List Bool))(k:Nat):List Bool:=rs.map fun r=>gB r k
def Ck(rs:List (List Bool))(n:Nat):List Dv:=(List.range n).map fun k=>.lst ((DW rs k).map Dv.bl)
def CL(ls:List Int)(rs:List (List Bool))(i j:Nat):Prop:=i < j/\j < ls.length/\AO ls i≠AO ls j/\DW rs i=DW rs j
def Eo(ls:List Int)(rs:List (List Bool))(i j:Nat):Prop:=CL ls rs i j/\∀i' j',CL ls rs i' j'->i < i'\/i=i'/\j<=j'
def Bv(ls:List Int)(rs:List (List Bool)):Prop:=∀i j,¬CL ls rs i j
theorem LF:∀as bs:List Bool,BN (as.map Dv.bl) (bs.map Dv.bl)=true->as=bs
 | [],[],_=>rfl
 | [],u::us,h=>by simp[BN]at h
 | t::ts,[],h=>by simp[BN]at h
 | t::ts,u::us,h=>by
  rw[Zg,Zg,BN,eqD,Ze,beq_iff_eq]at h;rw[h.1,LF ts us h.2]
theorem Rr(a b:List Bool):eqD (.lst (a.map Dv.bl)) (.lst (b.map Dv.bl))=decide (a=b):=by
 rw[EI,ZBD,decide_eq_true_eq];exact⟨LF a b,fun e=>by rw[e];exact Ex _⟩
theorem RB(rs:List (List Bool))(n:Nat):Ck rs (n+1)=Ck rs n++[.lst ((DW rs n).map Dv.bl)]:=by unfold Ck;rw[ZBq,ZK];rfl
theorem G6(rs:List (List Bool))(n:Nat):(Ck rs n).length=n:=by unfold Ck;rw[ZC,ZBV]
theorem Kl(rs:List (List Bool)){n k:Nat}(h:k < n):(Ck rs n)[k]? = some (.lst ((DW rs k).map Dv.bl)):=by unfold Ck;rw[ZX,List.getElem?_range h];rfl
theorem Dc{ls:List Int}{i:Nat}(h:i < ls.length):atI (ls.map V.int) ((i:Nat):Int)=some (.int (AO ls i)):=by
 refine Aq rfl ?_;rw[ZX,ZE h];unfold AO;rw[Zy,ZE h];rfl
def D6(K:W.Frag):Sp:=fun vs H Q _=>match vs with
 | [v]=>∃ls rs,Rep K H (gmD ls rs) v/\Gm ls rs/\(∀H',Same H H'->Bv ls rs->Q .non H')/\∀(i j:Nat) t H',Eo ls rs i j->H t=none->Same H H'->H' t=some (.tup [.int (i:Nat),.int (j:Nat)])->Q (.ref t) H'
 | _=>False
theorem SA:AQ (D6 K):=fun vs H Q Q' E h q=>by
 unfold D6 at *;split at q
 ·obtain⟨ls,rs,h1,h2,q1,q2⟩:=q;exact⟨ls,rs,h1,h2,fun H' x y=>h _ _ (q1 H' x y),fun i j t H' x1 x2 x3 x4=>h _ _ (q2 i j t H' x1 x2 x3 x4)⟩
 ·exact q.elim
theorem Nq{K:W.Frag}{H:Hp}{ls:List Int}{rs:List (List Bool)}{a tl rl:Addr}{ps:List Addr}(g:GmAt K H ls rs a tl rl ps)(G:Gm ls rs){k:Nat}(hk:k < ls.length){j:Nat}{q:Addr}(hj:ps[j]? = some q) :
 ∃r,rs[j]? = some r/\SqT K H q (r.map V.bl)/\atI (r.map V.bl) ((k:Nat):Int)=some (.bl (gB r k)):=by
 have hj':j < rs.length:=by rw[<- g.len];exact(Zb.mp hj).1
 have er:rs[j]? = some rs[j]:=ZE hj';exact⟨rs[j],er,g.row j q _ hj er,Mj (by rw[G.row _ (Zc hj')];exact hk)⟩
theorem Se{ps:List Addr}{k:Nat}{x:V}(h:(ps.map V.ref)[k]? = some x):∃q,ps[k]? = some q/\x=.ref q:=by
 rw[ZX]at h;cases e:ps[k]? with
 | none=>rw[e]at h;cases h
 | some q=>rw[e]at h;cases h;exact⟨q,rfl,rfl⟩
theorem SW:FnOk P w K mg base CX0 1 T.f_z34 T.d_z34 ["_law_game_here"] (D6 K):=by
 refine T.F_z34.ok sc_z34 (fun vs H Q E h=>by unfold D6 at h;split at h <;> first | rfl | exact h.elim) (fun cdv A outer s H vs Q E hr h=>?_);have hu:=Ag hr;unfold D6 at h;split at h;rotate_left
 ·exact h.elim
 rename_i v;obtain⟨ls,rs,hv,G,q1,q2⟩:=h;obtain⟨a,tl,rl,ps,rfl,g⟩:=Bh hv;have l16:=G.l16;have r16:=G.r16;refine⟨_,(@AE _ _ _ _ _ (@DC _ _ _ _ _ _ _ (["_law_k","_law_game_here"]) 1 [0] _ _ _ _ 1 _ _ _ rfl sc_z34.nd rfl rfl (BA rfl T.z_range (AA (AT (Av (K:=K)) rfl T.z_len (by rfl) (AA (kIx (K:=K) (vv 0) AC) AB)) AB)) (by kernel_rfl) rfl rfl (by kernel_rfl) (fun c=>AN (i:=0) (show(["_law_k","_law_game_here"]:List Str).Nodup by decide +kernel) rfl (by right)) (Aj (by decide)) (fun c=>A0) (fun c=>(@Ay _ _ _ _ _ _ _ (["_law_row","_law_k"]) 1 [0] _ _ _ _ rfl (Az (K:=K) (kIx (K:=K) (vv 1) AC)) (by kernel_rfl) rfl rfl (by kernel_rfl) (fun c=>AN (i:=0) (show(["_law_row","_law_k"]:List Str).Nodup by decide +kernel) rfl (by right)) (Aj (by decide)) (fun c=>A0) (fun c=>(kIx (K:=K) (vv 0) (vv 1))) (by intro _;rfl))) (by rfl) (by intro _;rfl)) (@AE _ _ _ _ _ (@BF _ _ _ _ _ _ _ _ PassesOwn.never rfl (BA rfl T.z_range (AA (AT (Av (K:=K)) rfl T.z_len (by rfl) (AA (vv 1) AB)) AB)) (AN (i:=2) sc_z34.nd rfl (by right)) (@AF _ _ _ (@BF _ _ _ _ _ _ _ _ PassesOwn.never rfl (MJ rfl T.z_range (AA (AI (BH (K:=K)) (vv 2) AC) (AA (AT (Av (K:=K)) rfl T.z_len (by rfl) (AA (vv 1) AB)) AB))) (AN (i:=3) sc_z34.nd rfl (by right)) (@AF _ _ _ (@Ai _ _ _ _ _ _ _ _ (PW.pt (Ct (AX (kEq (K:=K) hu) (kIx (K:=K) (vv 1) (vv 2)) (kIx (K:=K) (vv 1) (vv 3))) (C2 (AX (kNe (K:=K) hu) (kIx (K:=K) (kIx (K:=K) (vv 0) AC) (vv 2)) (kIx (K:=K) (kIx (K:=K) (vv 0) AC) (vv 3)))))) (@AF _ _ _ (@AK _ _ _ _ (AW (AA (vv 2) (AA (vv 3) AB))))) Ah)) (by intro _;rfl))) (by intro _;rfl)) (@AF _ _ _ (@AK _ _ _ _ C6)))),?_⟩;refine AJ (fun σ H'=>∃(l:Addr) (xs:List V),σ=[some (.ref a),some (.ref l),none,none]/\Same H H'/\H' l=some (.lst xs)/\Reps K H' (Ck rs ls.length) xs) ?_ ?_ (by walk_at "sm")
 ·refine⟨_,.ref tl,.inr g.two,rfl,ls.length,.inr ⟨_,g.lab,by rw[ZC]⟩,(ls.length:Int),rfl,by lia,by lia,?_⟩;rw[ZY];refine Bj (fun k ys H'=>Same H H'/\Reps K H' (Ck rs k) ys) ⟨Same.refl _,Am⟩ (fun k ys H' hk ⟨_,R⟩=>by rw[<- R.length,G6];exact Ak (by lia)) ?_ ?_
  ·rintro k ys H1 hk ⟨s1,R1⟩;have g1:=g.same s1;have e0:(0:Int)+(k:Int)=((k:Nat):Int):=by lia
   rw[e0];refine⟨_,.ref rl,.inr g1.two,rfl,.inr ⟨⟨_,g1.rows⟩,?_⟩⟩
   refine Bk (xs:=ps.map V.ref) (fun j zs H'=>H'=H1/\zs=((rs.take j).map fun r=>gB r k).map V.bl) ⟨rfl,rfl⟩ (fun j zs H' _ ⟨e,_⟩=>by rw[e];exact g1.rows) (fun j zs H' hj ⟨_,e⟩=>by
    rw[ZC,g1.len]at hj;rw[e,ZC,ZC,ZV];exact Ak (by lia)) ?_ ?_
   ·rintro j x zs H' hx ⟨rfl,rfl⟩;obtain⟨b,hb,rfl⟩:=Se hx;obtain⟨r,er,hs,ha⟩:=Nq g1 G hk hb;refine⟨_,.bl (gB r k),.inr hs,ha,rfl,?_⟩;rw[Zi,er,ZK,ZK];rfl
   ·rintro zs H' ⟨rfl,rfl⟩ l hl;rw[ZC,g1.len,Zm];have s2:Same H' (upd H' l (.lst ((rs.map fun r=>gB r k).map V.bl))):=Same.upd hl;refine⟨s1.trans s2,?_⟩;rw[RB];exact Reps.append (Reps.same s2 _ _ R1) (Ap (by unfold Rep;exact⟨l,_,rfl,.of AD,CH _⟩) Am)
  ·rintro ys H1 ⟨s1,R1⟩ l hl;have s2:Same H1 (upd H1 l (.lst ys)):=Same.upd hl;exact⟨l,ys,rfl,s1.trans s2,AD,Reps.same s2 _ _ R1⟩
 rintro σ H1 ⟨l,xs,rfl,s1,gl,R⟩;have g1:=g.same s1;refine AJ (fun σ H'=>H'=H1/\(∃x y,σ=[some (.ref a),some (.ref l),x,y])/\Bv ls rs) ?_ ?_ (by walk_at "sm");rotate_left
 ·rintro σ H' ⟨rfl,⟨x,y,rfl⟩,he⟩;exact q1 _ s1 he
 refine⟨ls.length,.inl ⟨_,.of gl,by rw[<- R.length,G6]⟩,(ls.length:Int),rfl,by lia,by lia,?_⟩;rw[ZY];refine B8 (fun k σ H'=>H'=H1/\(∃x y,σ=[some (.ref a),some (.ref l),x,y])/\∀i' j',i' < k->¬CL ls rs i' j') ⟨rfl,⟨none,none,rfl⟩,fun i' j' h=>absurd h (ZBN _)⟩ ?_ ?_;rotate_left
 ·rintro σ H' ⟨rfl,hσ,h⟩;exact⟨rfl,hσ,fun i j hb=>h i j (by have:=hb.1;have:=hb.2.1;lia) hb⟩
 rintro i σ H' hi ⟨rfl,⟨x,y,rfl⟩,hno⟩;have e0:(0:Int)+(i:Int)=((i:Nat):Int):=by lia
 rw[e0];refine⟨ls.length,.inl ⟨_,.of gl,by rw[<- R.length,G6]⟩,((i:Int)+1),(ls.length:Int),rfl,⟨by lia,by lia,by lia,by lia⟩,?_⟩;obtain⟨W,hW⟩:∃W:Nat,((ls.length:Int) - ((i:Int)+1)).toNat=W:=⟨_,rfl⟩;rw[hW];refine B8 (fun k σ H2=>H2=H'/\(∃y,σ=[some (.ref a),some (.ref l),some (.int (i:Nat)),y])/\∀j',j' < i+1+k->¬CL ls rs i j') ⟨rfl,⟨y,rfl⟩,fun j' h hb=>by have:=hb.1;lia⟩ ?_ ?_;rotate_left
 ·rintro σ H2 ⟨rfl,⟨y,rfl⟩,h⟩;refine⟨rfl,⟨_,y,rfl⟩,fun i' j' hi' hb=>?_⟩
  rcases Zs i' i with z | z
  ·exact hno i' j' z hb
  ·have:i'=i:=by lia
   subst this;exact h j' (by have:=hb.2.1;lia) hb
 rintro k σ H2 hk ⟨rfl,⟨y,rfl⟩,hno2⟩;have e1:(i:Int)+1+(k:Int)=((i+1+k:Nat):Int):=by lia
 rw[e1];have hj:i+1+k < ls.length:=by lia
 have next:¬CL ls rs i (i+1+k)->∀j',j' < i+1+(k+1)->¬CL ls rs i j':=fun h j' hj'=>by
  rcases Zs j' (i+1+k) with z | z
  ·exact hno2 j' z
  ·have:j'=i+1+k:=by lia
   rw[this];exact h
 obtain⟨x1,hx1,r1⟩:=R.get (Kl rs hi);obtain⟨x2,hx2,r2⟩:=R.get (Kl rs hj);refine⟨_,x1,.inl (.of gl),Aq rfl hx1,_,x2,.inl (.of gl),Aq rfl hx2,?_⟩;have r1':=r1;have r2':=r2;unfold Rep at r1' r2';obtain⟨b1,_,rfl,_⟩:=r1';obtain⟨b2,_,rfl,_⟩:=r2';refine⟨_,_,r1,r2,by unfold An;rw[IU];lia,?_⟩;rw[Rr,ZBg];refine Ab (fun e2=>?_) (fun e2=>?_)
 ·refine⟨_,.ref tl,.inr g1.two,rfl,_,.int (AO ls i),.inr g1.lab,Dc hi,_,.ref tl,.inr g1.two,rfl,_,.int (AO ls (i+1+k)),.inr g1.lab,Dc hj,?_⟩;refine Ab (fun e=>?_) (fun e=>?_)
  ·have ne:AO ls i≠AO ls (i+1+k):=by simpa using e
   have hb:CL ls rs i (i+1+k):=⟨by lia,hj,ne,ZN e2⟩;refine⟨smq rfl,fun t ht=>?_⟩;refine q2 i (i+1+k) t _ ⟨hb,fun i' j' hb'=>?_⟩ (s1.free ht) (s1.trans (Same.upd ht)) AD
   rcases ZBi i' i with z | z | z
   ·exact absurd hb' (hno i' j' z)
   ·subst z;exact .inr ⟨rfl,Nat.le_of_not_lt fun w=>hno2 j' w hb'⟩
   ·exact .inl z
  ·have eq:AO ls i=AO ls (i+1+k):=by simpa using e
   exact⟨rfl,⟨_,rfl⟩,next fun hb=>hb.2.2.1 eq⟩
 ·exact⟨rfl,⟨_,rfl⟩,next fun hb=>e2 (ZM hb.2.2.2)⟩
noncomputable def CQ(ls:List Int)(rs:List (List Bool)):Nat->Bool:=fun j=>by classical exact decide (∃i,CL ls rs i j)
theorem badS_iff{ls:List Int}{rs:List (List Bool)}{j:Nat}:CQ ls rs j=true ↔ ∃i,CL ls rs i j:=by unfold CQ;simp
theorem Pg{N:Nat}{S S':Nat->Bool}(h:∀k,S' k=true->S k=true):BJ N S'<=BJ N S:=by
 induction N with
 | zero=>exact ZD _
 | succ N ih =>
  rw[EN,EN];cases e:S' N with
  | false=>simp;lia
  | true=>rw[h N e];simp;lia
theorem Ro{ls:List Int}{j:Nat}(hj:j < ls.length)(x:Int)(k:Nat):AO (ls.set j x) k=if k=j then x else AO ls k:=by
 unfold AO;rw[Zy,Zy,List.getElem?_set]
 by_cases e:j=k
 ·subst e;simp[hj]
 ·simp[e,Ne.symm e]
theorem Nx{ls:List Int}{rs:List (List Bool)}{i j:Nat}(h:Eo ls rs i j):BJ ls.length (CQ (ls.set j (AO ls i)) rs) < BJ ls.length (CQ ls rs):=by
 obtain⟨⟨h1,h2,h3,h4⟩,h5⟩:=h;have hl:=Ro h2 (AO ls i);have len:(ls.set j (AO ls i)).length=ls.length:=ZBL
 have key:∀j',CQ (ls.set j (AO ls i)) rs j'=true->(CQ ls rs j' && !(j' == j))=true:=by
  intro j' hb;obtain⟨i',b1,b2,b3,b4⟩:=badS_iff.mp hb;rw[len]at b2;rw[hl,hl]at b3
  have hne:j'≠j:=by
   intro e;subst e;rw[if_neg (show i'≠j' by lia),if_pos rfl]at b3
   rcases ZBi i' i with z | z | z
   ·rcases h5 i' i ⟨z,by lia,b3,b4.trans h4.symm⟩ with y | y
    ·lia
    ·lia
   ·subst z;exact b3 rfl
   ·rcases h5 i i' ⟨z,by lia,Ne.symm b3,h4.trans b4.symm⟩ with y | y
    ·lia
    ·lia
  rw[if_neg hne]at b3
  have:CQ ls rs j'=true:=by
   by_cases e:i'=j
   ·subst e;rw[if_pos rfl]at b3;exact badS_iff.mpr ⟨i,by lia,b2,b3,h4.trans b4⟩
   ·rw[if_neg e]at b3;exact badS_iff.mpr ⟨i',b1,b2,b3,b4⟩
  rw[this];simpa using hne
 have c1:=Pg (N:=ls.length) key;have c2:=JI ls.length (CQ ls rs) (fun k=>k == j);have c3:=EV (S:=fun k=>CQ ls rs k && k == j) h2 (by rw[badS_iff.mpr ⟨i,h1,h2,h3,h4⟩];simp);lia
theorem Gm.set{ls:List Int}{rs:List (List Bool)}(G:Gm ls rs){i:Nat}(j:Nat)(hi:i < ls.length):Gm (ls.set j (AO ls i)) rs:=by
 refine⟨by rw[ZBL];exact G.l1,by rw[ZBL];exact G.l16,G.r1,G.r16,fun r hr=>by rw[ZBL];exact G.row r hr,fun x hx=>?_⟩
 rcases List.mem_or_eq_of_mem_set hx with h | h
 ·exact G.sm x h
 ·rw[h];unfold AO;rw[Zy,ZE hi];exact G.sm _ (Zc hi)
def D4(K:W.Frag):Sp:=fun vs H Q _=>match vs with
 | [v]=>∃ls rs,Rep K H (gmD ls rs) v/\Gm ls rs/\∀ls' u H',Same H H'->Gm ls' rs->Bv ls' rs->Rep K H' (gmD ls' rs) u->Q u H'
 | _=>False
theorem Te:AQ (D4 K):=fun vs H Q Q' E h q=>by
 unfold D4 at *;split at q
 ·revert q;repeat' first | exact h _ _ | exact A4 h | exact out_mono h | exact outT_mono h | walk_at "m"
 ·exact q.elim
theorem Jn{K:W.Frag}{H:Hp}{ls:List Int}{rs:List (List Bool)}{t tl:Addr}{x2:V}(h:H t=some (.tup [.ref tl,x2]))(h1:SqT K H tl (ls.map V.int))(h2:Rep K H (.tup (Ac rs)) x2):Rep K H (gmD ls rs) (.ref t) :=
 Bt (.of h) (Ap (Bt h1 (FJ ls)) (Ap h2 Am))
theorem P9:FnOk P w K mg base CX0 2 T.f_z23 T.d_z23 ["_law_game_here"] (D4 K):=by
 have G_z34:=@SW P w K mg base T;refine T.F_z23.ok sc_z23 (fun vs H Q E h=>by unfold D4 at h;split at h <;> first | rfl | exact h.elim) (fun cdv A outer s H vs Q E hr h=>?_);have hu:=Ag hr;have hr_z34:=hr.mono (show 1<=_ by decide);unfold D4 at h;split at h;rotate_left
 ·exact h.elim
 rename_i v;obtain⟨ls,rs,hv,G,q⟩:=h;obtain⟨a,x1,x2,rfl,hs2,hx1,hx2⟩:=KP hv;obtain⟨tl,zs,rfl,hlab,hz⟩:=EE hx1;obtain rfl:=HG hz;have mono1:AQ (D6 K):=SA;refine⟨_,(@AE _ _ _ _ _ (@AS _ _ 1 _ _ _ _ sc_z23.nd rfl (by right) (Af (Lq (K:=K)) rfl T.z_list (by rfl) (AA (kIx (K:=K) (vv 0) AC) AB)) (by rfl) (by walk_at "i")) (@AE _ _ _ _ _ (@AS _ _ 2 _ _ _ _ sc_z23.nd rfl (by right) (AH G_z34 hr_z34 rfl T.m_z34 T.F_z34.kp T.b_z34 .nil AG (AA (vv 0) AB)) (by rfl) (by walk_at "i")) (@AE _ _ _ _ _ (@GI _ _ _ _ _ _ PassesOwn.never (AX NM (vv 2) C6) (@AE _ _ _ _ _ (@C9 _ _ _ _ _ _ (kIx (K:=K) (vv 1) (kIx (K:=K) (vv 2) AC)) (D1 (vv 1) (kIx (K:=K) (vv 2) AC) Dp) (by rfl) (by rfl) (by rfl)) (@AF _ _ _ (@AS _ _ 2 _ _ _ _ sc_z23.nd rfl (by right) (AH G_z34 hr_z34 rfl T.m_z34 T.F_z34.kp T.b_z34 .nil AG (AA (AW (AA (Af (BC (K:=K)) rfl T.z_tuple (by rfl) (AA (vv 1) AB)) (AA (kIx (K:=K) (vv 0) AC) AB))) AB)) (by rfl) (by walk_at "i"))))) (@AF _ _ _ (@AK _ _ _ _ (AW (AA (Af (BC (K:=K)) rfl T.z_tuple (by rfl) (AA (vv 1) AB)) (AA (kIx (K:=K) (vv 0) AC) AB)))))))),?_⟩;refine⟨_,.ref tl,.inr hs2,rfl,_,.inr hlab,fun l hl=>?_⟩;dsimp only[Ae];have s1:Same H (upd H l (.lst (ls.map V.int))):=Same.upd hl;have gl1:upd H l (.lst (ls.map V.int)) l=some (.lst (ls.map V.int)):=AD;generalize upd H l (.lst (ls.map V.int))=H1 at *;refine AJ (fun σ H2=>∃u0,σ=[some (.ref a),some (.ref l),some u0]/\Same H H2/\H2 l=some (.lst (ls.map V.int))/\((u0=.non/\Bv ls rs)\/∃(i j:Nat) (t:Addr),u0=.ref t/\Eo ls rs i j/\H2 t=some (.tup [.int (i:Nat),.int (j:Nat)]))) ?_ ?_ (by walk_at "sm")
 ·exact⟨ls,rs,Rep.same s1 _ _ hv,G,fun H3 s3 he=>⟨_,rfl,s1.trans s3,s3 _ _ gl1,.inl ⟨rfl,he⟩⟩,fun i j t H3 hf ht s3 gt=>⟨_,rfl,s1.trans s3,s3 _ _ gl1,.inr ⟨i,j,t,rfl,hf,gt⟩⟩⟩
 rintro σ H2 ⟨u0,rfl,s2,gl2,hu2⟩;refine AJ (fun σ H3=>∃(ls1:List Int) (u:V),σ=[some (.ref a),some (.ref l),some u]/\Same H H3/\H3 l=some (.lst (ls1.map V.int))/\Gm ls1 rs/\Bv ls1 rs) ?_ ?_ (by walk_at "sm")
 ·refine⟨fun m σ H3=>∃(ls1:List Int) (u:V),σ=[some (.ref a),some (.ref l),some u]/\m=BJ ls.length (CQ ls1 rs)/\Same H H3/\H3 l=some (.lst (ls1.map V.int))/\ls1.length=ls.length/\Gm ls1 rs /\
   ((u=.non/\Bv ls1 rs)\/∃(i j:Nat) (t:Addr),u=.ref t/\Eo ls1 rs i j/\H3 t=some (.tup [.int (i:Nat),.int (j:Nat)])),⟨_,ls,u0,rfl,rfl,s2,gl2,rfl,G,hu2⟩,?_⟩
  rintro m σ H3 ⟨ls1,u,rfl,rfl,s3,gl3,ll,G1,hu3⟩
  rcases hu3 with ⟨rfl,he⟩ | ⟨i,j,t,rfl,hf,gt⟩
  ·exact⟨ls1,_,rfl,s3,gl3,G1,he⟩
  ·obtain⟨⟨b1,b2,_⟩,_⟩:=id hf;refine⟨_,.int (i:Nat),.inr (.of gt),rfl,_,.int (AO ls1 i),.inl (.of gl3),Dc (by lia),?_⟩;refine⟨_,.int (j:Nat),.inr (.of gt),rfl,_,j,gl3,by rw[ZC];unfold ixN;rw[if_pos (by lia),if_pos (by lia),ZY],?_⟩;rw[<- List.map_set]
   have s4:Same H (upd H3 l (.lst ((ls1.set j (AO ls1 i)).map V.int))):=fun b o e=>by
    rw[AM (CI e hl)];exact s3 _ _ e
   have gl4:upd H3 l (.lst ((ls1.set j (AO ls1 i)).map V.int)) l=some (.lst ((ls1.set j (AO ls1 i)).map V.int)):=AD;generalize upd H3 l (.lst ((ls1.set j (AO ls1 i)).map V.int))=H4 at *;refine⟨_,.inl ⟨.of gl4,fun t1 ht1=>?_⟩⟩;have s5:Same H4 (upd H4 t1 (.tup ((ls1.set j (AO ls1 i)).map V.int))):=Same.upd ht1;have g5:upd H4 t1 (.tup ((ls1.set j (AO ls1 i)).map V.int)) t1=some (.tup ((ls1.set j (AO ls1 i)).map V.int)):=AD;generalize upd H4 t1 (.tup ((ls1.set j (AO ls1 i)).map V.int))=H5 at *;refine⟨_,x2,.inr ((s4.trans s5).sqT hs2),rfl,smq rfl,fun t2 ht2=>?_⟩;have s6:Same H5 (upd H5 t2 (.tup [.ref t1,x2])):=Same.upd ht2;have g6:upd H5 t2 (.tup [.ref t1,x2]) t2=some (.tup [.ref t1,x2]):=AD;generalize upd H5 t2 (.tup [.ref t1,x2])=H6 at *;have S6:=s4.trans (s5.trans s6);have G2:=G1.set j (show i < ls1.length by lia);have less:=Nx hf;rw[ll]at less
   exact⟨_,rs,Jn g6 (.of (s6 _ _ g5)) (Rep.same S6 _ _ hx2),G2,fun H7 s7 he=>⟨_,less,_,_,rfl,rfl,S6.trans s7,s7 _ _ (s6 _ _ (s5 _ _ gl4)),by rw[ZBL];exact ll,G2,.inl ⟨rfl,he⟩⟩,
    fun i' j' t' H7 hf' ht' s7 gt'=>⟨_,less,_,_,rfl,rfl,S6.trans s7,s7 _ _ (s6 _ _ (s5 _ _ gl4)),by rw[ZBL];exact ll,G2,.inr ⟨i',j',t',rfl,hf',gt'⟩⟩⟩
 ·rintro σ H3 ⟨ls1,u,rfl,s3,gl3,G1,he⟩;refine⟨_,.inl ⟨.of gl3,fun t1 ht1=>?_⟩⟩;have s5:Same H3 (upd H3 t1 (.tup (ls1.map V.int))):=Same.upd ht1;have g5:upd H3 t1 (.tup (ls1.map V.int)) t1=some (.tup (ls1.map V.int)):=AD;generalize upd H3 t1 (.tup (ls1.map V.int))=H5 at *;refine⟨_,x2,.inr ((s3.trans s5).sqT hs2),rfl,smq rfl,fun t2 ht2=>?_⟩;have s6:Same H5 (upd H5 t2 (.tup [.ref t1,x2])):=Same.upd ht2;have g6:upd H5 t2 (.tup [.ref t1,x2]) t2=some (.tup [.ref t1,x2]):=AD;generalize upd H5 t2 (.tup [.ref t1,x2])=H6 at *;have S6:=s3.trans (s5.trans s6);exact q ls1 _ H6 S6 G1 he (Jn g6 (.of (s6 _ _ g5)) (Rep.same S6 _ _ hx2))
theorem IX{α:Type}[DecidableEq α]:∀{ds ls:List α},ds.Nodup->(∀z∈ds,z∈ls)->ds.length<=ls.length
 | [],ls,_,_=>ZU _
 | z::ds,ls,nd,h=>by
  obtain⟨h1,h2⟩:=ZBa.mp nd;have hz:z∈ls:=h z (by simp)
  have:=IX (ds:=ds) (ls:=ls.erase z) h2 (fun x hx=>(List.mem_erase_of_ne (fun e:x=z=>h1 (e ▸ hx))).mpr (h x (Za _ hx)))
  have e:=List.length_erase_of_mem hz
  have:0 < ls.length:=List.length_pos_of_mem hz
  rw[Zj];lia
theorem Pl{ts:List Nat}{n:Nat}(h1:ts.Pairwise (· < ·))(h2:∀t∈ts,t < n):ts.length<=n:=CC n ts (h1.imp fun h=>ZQ h) h2
theorem mem_lefts{rb:List Bool}{ans:Bool}{ts:List Nat}{k:Nat}:k∈AR rb ans ts ↔ k∈ts/\gB rb k=ans:=by unfold AR;rw[Z9,beq_iff_eq]
theorem GR(rb:List Bool)(ts:List Nat):(fun k=>decide (k∈AR rb true ts))=fun k=>decide (k∈ts) && gB rb k:=by
 funext k
 rw[ZBD,decide_eq_true_eq,mem_lefts,Ze,decide_eq_true_eq]
theorem G4(rb:List Bool)(ts:List Nat):(fun k=>decide (k∈AR rb false ts))=fun k=>decide (k∈ts) && !gB rb k:=by
 funext k
 rw[ZBD,decide_eq_true_eq,mem_lefts,Ze,decide_eq_true_eq,ZB5]
theorem Jp{rb:List Bool}{ans:Bool}{ts:List Nat}(h:ts.Pairwise (· < ·)):(AR rb ans ts).Pairwise (· < ·):=h.filter _
theorem OW{N:Nat}{ts:List Nat}:BJ N (fun k=>decide (k∈ts))<=ts.length:=by
 unfold BJ;refine IX (List.nodup_range.filter _) fun z hz=>?_
 exact ZN (Z9.mp hz).2
theorem O2{ls:List Int}{rs:List (List Bool)}(he:Bv ls rs):∀i j,i < ls.length->j < ls.length->(∀y∈rs.map gB,y i=y j)->AO ls i=AO ls j:=by
 have key:∀i j,i < j->j < ls.length->(∀y∈rs.map gB,y i=y j)->AO ls i=AO ls j:=fun i j hij hj h =>
  Classical.byContradiction fun ne=>he i j ⟨hij,hj,ne,by
   unfold DW;apply ZCD;intro r hr;exact h _ (ZT.mpr ⟨r,hr,rfl⟩)⟩
 intro i j hi hj h
 rcases ZBi i j with z | z | z
 ·exact key i j z hj h
 ·rw[z]
 ·exact(key j i z hi fun y hy=>(h y hy).symm).symm
theorem Kt{ls:List Int}{rs:List (List Bool)}(he:Bv ls rs){ts:List Nat}(hlt:∀t∈ts,t < ls.length):Can (AO ls) (rs.map gB) (ts.length - 1) (fun k=>decide (k∈ts)):=by
 refine RE (O2 he) _ _ (fun k hk=>hlt k (ZN hk)) ?_
 have:=OW (N:=ls.length) (ts:=ts)
 lia
theorem Mb{ls:List Int}{rs:List (List Bool)}(he:Bv ls rs){ts:List Nat}(hlt:∀t∈ts,t < ls.length){m:Nat}(h:A3 (AO ls) (rs.map gB) (fun k=>decide (k∈ts)) m):m<=ts.length - 1:=h.2 _ (Kt he hlt)
theorem Gi{ls:List Int}{ts:List Nat}{ds:List Int}(nd:ds.Nodup)(hm:∀k,k∈ds ↔ k∈ts.map (AO ls)):ds.length < 2 ↔ One (AO ls) (fun k=>decide (k∈ts)):=by
 constructor
 ·intro h i j hi hj;have a1:=(hm _).mpr (ZT.mpr ⟨i,ZN hi,rfl⟩);have a2:=(hm _).mpr (ZT.mpr ⟨j,ZN hj,rfl⟩)
  match ds,h with
  | [],_=>simp at a1
  | [x],_=>rw[ZO.mp a1,ZO.mp a2]
  | x::y::r,h=>simp at h;lia
 ·intro o
  have:=UU (Y:=[]) (n:=0) ds o nd fun d hd=>by
   obtain⟨k,hk,e⟩:=ZT.mp ((hm d).mp hd);exact⟨k,ZM hk,e⟩
  simp at this;lia
theorem Jj:∀(l m:List Nat),l.Pairwise (· < ·)->m.Pairwise (· < ·)->(∀k,k∈l ↔ k∈m)->l=m
 | [],[],_,_,_=>rfl
 | [],b::m,_,_,h=>absurd ((h b).mpr (by simp)) (by simp)
 | a::l,[],_,_,h=>absurd ((h a).mp (by simp)) (by simp)
 | a::l,b::m,h1,h2,h=>by
  obtain⟨p1,p2⟩:=ZCA.mp h1;obtain⟨q1,q2⟩:=ZCA.mp h2
  have e:a=b:=by
   rcases ZF.mp ((h a).mp (by simp)) with x | x
   ·exact x
   ·rcases ZF.mp ((h b).mpr (by simp)) with y | y
    ·exact y.symm
    ·have:=q1 a x
     have:=p1 b y
     lia
  subst e;rw[Jj l m p2 q2 fun k=>?_];constructor
  ·intro hk
   rcases ZF.mp ((h k).mp (Za _ hk)) with x | x
   ·have:=p1 k hk;lia
   ·exact x
  ·intro hk
   rcases ZF.mp ((h k).mpr (Za _ hk)) with x | x
   ·have:=q1 k hk;lia
   ·exact x
def BP(ts:List Nat):List Key:=ts.map fun t=>Sum.inl ((t:Nat):Int)
theorem Gp(ts:List Nat):(BP ts).map kV=iL ts:=by unfold BP iL;rw[Z5];rfl
structure NMemo(ls:List Int)(rs:List (List Bool))(kvs:List (List Key × V)):Prop where
 nd:(kvs.map (·.1)).Nodup
 ok:∀e∈kvs,∃(ts:List Nat) (m:Nat),e=(BP ts,V.int (m:Int))/\ts.Pairwise (· < ·)/\(∀t∈ts,t < ls.length)/\A3 (AO ls) (rs.map gB) (fun k=>decide (k∈ts)) m
theorem Ri{kvs:List (List Key × V)}{k:List Key}{v:V}(h:valV kvs k=some v):(k,v)∈kvs:=by
 unfold valV at h;cases e:kvs.find? fun kv=>decide (kv.1=k) with
 | none=>rw[e]at h;cases h
 | some x =>
  rw[e]at h;have h1:=List.find?_some e;have h2:=List.mem_of_find?_eq_some e;cases h
  have:x.1=k:=ZN h1
  rw[<- this];exact h2
theorem T9{ts us:List Nat}(h:BP ts=BP us):ts=us:=by
 have:=congrArg (List.map fun k:Key=>match k with | Sum.inl z=>z.toNat | Sum.inr _=>0) h
 unfold BP at this;rw[Z5,Z5]at this;have e:((fun k:Key=>match k with | Sum.inl z=>z.toNat | Sum.inr _=>0) ∘ fun t:Nat=>(Sum.inl ((t:Nat):Int):Key))=id:=by funext t;exact ZY t
 rw[e,List.map_id,List.map_id]at this;exact this
theorem NMemo.get{ls:List Int}{rs:List (List Bool)}{kvs:List (List Key × V)}(h:NMemo ls rs kvs){ts:List Nat}{v:V}(e:valV kvs (BP ts)=some v):∃m:Nat,v=.int m/\A3 (AO ls) (rs.map gB) (fun k=>decide (k∈ts)) m:=by
 obtain⟨us,m,ee,_,_,hf⟩:=h.ok _ (Ri e);have e1:BP ts=BP us:=congrArg Prod.fst ee;have e2:v=V.int m:=congrArg Prod.snd ee
 have:=T9 e1
 subst this;exact⟨m,e2,hf⟩
theorem NMemo.put{ls:List Int}{rs:List (List Bool)}{kvs:List (List Key × V)}(h:NMemo ls rs kvs){ts:List Nat}{m:Nat}(h1:ts.Pairwise (· < ·))(h2:∀t∈ts,t < ls.length)(hf:A3 (AO ls) (rs.map gB) (fun k=>decide (k∈ts)) m):NMemo ls rs (Ar kvs (BP ts) (V.int m)):=by
 unfold Ar;split
 ·refine⟨?_,?_⟩
  ·have e:(kvs.map (fun kv=>if kv.1=BP ts then (kv.1,V.int m) else kv)).map (·.1)=kvs.map (·.1):=by
    rw[Z5];apply ZCD;intro a _;simp only[Function.comp];split <;> rfl
   rw[e];exact h.nd
  ·intro e he;obtain⟨a,ha,rfl⟩:=ZT.mp he;split
   ·rename_i q;exact⟨ts,m,by rw[q],h1,h2,hf⟩
   ·exact h.ok a ha
 ·rename_i z;refine⟨?_,?_⟩
  ·rw[ZK,List.nodup_append];refine⟨h.nd,by simp,?_⟩;intro a ha b hb q;have hb':b=BP ts:=by simpa using hb
   obtain⟨x,hx,rfl⟩:=ZT.mp ha;exact z (ZBz.mpr ⟨x,hx,ZM (q.trans hb')⟩)
  ·intro e he
   rcases ZH.mp he with q | q
   ·exact h.ok e q
   ·rw[ZO]at q;exact⟨ts,m,q,h1,h2,hf⟩
def Gv(k:List Key):Nat:=msk (k.map fun x=>match x with | Sum.inl z=>z.toNat | Sum.inr _=>0)
theorem Il(ts:List Nat):Gv (BP ts)=msk ts:=by
 unfold Gv BP;rw[Z5];have e:((fun k:Key=>match k with | Sum.inl z=>z.toNat | Sum.inr _=>0) ∘ fun t:Nat=>(Sum.inl ((t:Nat):Int):Key))=id:=by funext t;exact ZY t
 rw[e,List.map_id]
theorem NMemo.len{ls:List Int}{rs:List (List Bool)}{kvs:List (List Key × V)}(h:NMemo ls rs kvs)(h16:ls.length<=16):kvs.length < 2 ^ 24:=by
 have hl:kvs.length<=2 ^ ls.length:=by
  have e:(kvs.map fun e=>Gv e.1).length=kvs.length:=ZC ..;rw[<- e];apply CC
  ·refine ZB0.mpr ?_;have nd:=ZB0.mp h.nd;refine List.Pairwise.imp_of_mem ?_ nd;intro a b ha hb ne q;obtain⟨ts,m,ea,r1,b1,_⟩:=h.ok a ha;obtain⟨us,m',eb,r2,b2,_⟩:=h.ok b hb;subst ea eb;apply ne;rw[Il,Il]at q;have x1:=(DF r1 b1).2;have x2:=(DF r2 b2).2
   have:ts=us:=Jj ts us r1 r2 fun k=>by
    have:=x1 k
    rw[q,x2 k]at this;exact⟨fun z=>ZN (this.trans (ZM z)),fun z=>ZN (this.symm.trans (ZM z))⟩
   rw[this]
  ·intro x hx;obtain⟨a,ha,rfl⟩:=ZT.mp hx;obtain⟨ts,m,ea,r1,b1,_⟩:=h.ok a ha;subst ea;rw[Il];exact(DF r1 b1).1
 have:2 ^ ls.length<=2 ^ 16:=Zz (by decide) h16
 lia
theorem R8 {L:Nat->Int} {Y:List (Nat->Bool)} {S:Nat->Bool} {F least:Nat} (ho:¬One L S) (hF:A3 L Y S F) (h1:F<=least)
 (h2:∀y∈Y,CD S y->∃b c,A3 L Y (fun k=>S k && y k) b/\A3 L Y (fun k=>S k && !y k) c/\least<=1+max b c):A3 L Y S least:=by
 have:least=F:=by
  obtain⟨hc,hmin⟩:=hF;cases F with
  | zero=>exact absurd hc ho
  | succ n =>
   rcases hc with o | ⟨y,hy,p,q⟩
   ·exact absurd o ho
   ·by_cases h:CD S y
    ·obtain⟨b,c,hb,hc',hle⟩:=h2 y hy h
     have:=hb.2 _ p
     have:=hc'.2 _ q
     lia
    ·rcases not_parts h with z | z
     ·have:=hmin n (ER z p);lia
     ·have:=hmin n (ER z q);lia
 rw[this];exact hF
theorem J1{K:W.Frag}{H:Hp}:∀{rs:List (List Bool)} {ps:List Addr},ps.length=rs.length->(∀(i:Nat) (q:Addr) (r:List Bool),ps[i]? = some q->rs[i]? = some r->SqT K H q (r.map V.bl))->Reps K H (Ac rs) (ps.map V.ref)
 | [],[],_,_=>Am
 | [],_::_,h,_=>by simp at h
 | _::_,[],h,_=>by simp at h
 | r::rs,q::ps,h,hr=>Ap (Bt (hr 0 q r rfl rfl) (CH r)) (J1 (by simpa using h) fun i q' r' a b=>hr (i+1) q' r' a b)
theorem GE{K:W.Frag}{H:Hp}{ls:List Int}{rs:List (List Bool)}{a tl rl:Addr}{ps:List Addr}(g:GmAt K H ls rs a tl rl ps):Rep K H (gmD ls rs) (.ref a) :=
 Bt g.two (Ap (Bt g.lab (FJ ls)) (Ap (Bt g.rows (J1 g.len g.row)) Am))
def Cm(K:W.Frag):Sp:=fun vs H Q _=>match vs with
 | [v,.ref p,.int z]=>∃ls rs ts j r,Rep K H (gmD ls rs) v/\Gm ls rs/\SqT K H p (iL ts)/\ts.length<=100/\(∀t∈ts,t < ls.length)/\z=(j:Nat)/\rs[j]? = some r/\∀l pn py H',H l=none->Same H H'->H' l=some (.lst [.ref pn,.ref py])->H' pn=some (.tup (iL (AR r false ts)))->H' py=some (.tup (iL (AR r true ts)))->Q (.ref l) H'
 | _=>False
theorem GM:AQ (Cm K):=fun vs H Q Q' E h q=>by
 unfold Cm at *;split at q
 ·revert q;repeat' first | exact h _ _ | exact A4 h | exact out_mono h | exact outT_mono h | walk_at "m"
 ·exact q.elim
theorem Fx:FnOk P w K mg base CX0 1 T.f_z33 T.d_z33 ["_law_game_here","_law_things","_law_question"] (Cm K):=by
 refine T.F_z33.ok sc_z33 (fun vs H Q E h=>by unfold Cm at h;split at h <;> first | rfl | exact h.elim) (fun cdv A outer s H vs Q E hr h=>?_);have hu:=Ag hr;unfold Cm at h;split at h;rotate_left
 ·exact h.elim
 rename_i v p z;obtain⟨ls,rs,ts,j,r,hv,G,hp,hl,hlt,e1,hj,q⟩:=h;subst e1;obtain⟨a,tl,rl,ps,rfl,g⟩:=Bh hv;have hj':j < rs.length:=(Zb.mp hj).1;obtain⟨b,hb⟩:∃b,ps[j]? = some b:=⟨_,ZE (by rw[g.len];exact hj')⟩;have hrow:=g.row j b r hb hj;have hrl:r.length=ls.length:=G.row r (Zw hj);refine⟨_,(@AE _ _ _ _ _ (@AS _ _ 3 _ _ _ _ sc_z33.nd rfl (by right) (kIx (K:=K) (kIx (K:=K) (vv 0) AC) (vv 2)) (by rfl) (by walk_at "i")) (@AF _ _ _ (@AK _ _ _ _ (@Ay _ _ _ _ _ _ _ (["_law_answer","_law_things","_law_row"]) 1 ([1,3]) _ _ _ _ rfl (Az (K:=K) (AW (AA A5 (AA A5 AB)))) (by kernel_rfl) rfl rfl (by kernel_rfl) (fun c=>AN (i:=0) (show(["_law_answer","_law_things","_law_row"]:List Str).Nodup by decide +kernel) rfl (by right)) (Aj (by decide)) (fun c=>A0) (fun c=>(Af (BC (K:=K)) rfl T.z_tuple (by rfl) (AA (Ay (N':=["_law_k","_law_row","_law_answer"]) (own:=1) (ix:=[2,0]) rfl (Az (K:=K) (vv 1)) (by kernel_rfl) rfl rfl (by kernel_rfl) (fun c=>AN (i:=0) (show(["_law_k","_law_row","_law_answer"]:List Str).Nodup by decide +kernel) rfl (by right)) (Aj (by decide)) (fun c=>Cv (AX (kEq (K:=K) hu) (kIx (K:=K) (vv 1) (vv 0)) (vv 2))) (fun c=>(vv 0))) AB))) (by intro _;rfl))))),?_⟩;refine⟨_,.ref rl,.inr g.two,rfl,_,.ref b,.inr g.rows,Aq rfl (by rw[ZX,hb];rfl),?_⟩;dsimp only[Ae];refine⟨smq rfl,fun t ht=>.inr ⟨⟨_,.of AD⟩,?_⟩⟩;have s1:Same H (upd H t (.tup [.bl false,.bl true])):=Same.upd ht;have gt1:upd H t (.tup [.bl false,.bl true]) t=some (.tup [.bl false,.bl true]):=AD;generalize upd H t (.tup [.bl false,.bl true])=H1 at *
 refine Bk (xs:=[.bl false,.bl true]) (fun k zs H'=>Same H1 H'/\∃qs:List Addr,zs=qs.map V.ref/\qs.length=k/\∀(i:Nat) (c:Addr),qs[i]? = some c->H' c=some (.tup (iL (AR r (i == 1) ts)))) ⟨Same.refl _,[],rfl,rfl,fun i c hc=>by simp at hc⟩ (fun k zs H' _ ⟨s,_⟩=>s.sqT (.of gt1)) (fun k zs H' hk ⟨_,qs,e,hq,_⟩=>by
  rw[e,ZC,hq];exact Ak (by simp at hk;lia)) ?_ ?_
 ·rintro k x zs H2 hx ⟨s2,qs,rfl,hq,hall⟩
  obtain⟨ans,rfl,ea⟩:∃ans:Bool,x=.bl ans/\ans=(k == 1):=by
   match k,hx with
   | 0,hx=>cases hx;exact⟨false,rfl,rfl⟩
   | 1,hx=>cases hx;exact⟨true,rfl,rfl⟩
   | k+2,hx=>simp at hx
  have S2:=s1.trans s2;refine .inr ⟨⟨_,S2.sqT hp⟩,?_⟩
  refine Bk (xs:=iL ts) (fun k ys H'=>H'=H2/\ys=iL (AR r ans (ts.take k))) ⟨rfl,rfl⟩ (fun k ys H' _ ⟨e,_⟩=>by rw[e];exact S2.sqT hp) (fun k ys H' hk ⟨_,e⟩=>by
   have:=Lp r ans (ts.take k)
   rw[ZV]at this;rw[e,Ax];exact Ak (by lia)) ?_ ?_
  ·rintro k' x ys H' hx ⟨rfl,rfl⟩;obtain⟨t,ht,hmem,rfl⟩:=Cy hx;refine⟨_,.bl (gB r t),.inr (S2.sqT hrow),Mj (by rw[hrl];exact hlt t hmem),?_⟩;rw[Rm ht,DG];refine Ab (fun e=>?_) (fun e=>?_)
   ·have e':(gB r t == ans)=true:=by rw[<- ZBg (gB r t == ans)];exact e
    rw[if_pos e'];exact⟨rfl,rfl⟩
   ·have e':¬(gB r t == ans)=true:=by rw[<- ZBg (gB r t == ans)];exact e
    rw[if_neg e'];exact⟨rfl,by show _=_++[];rw[Z4]⟩
  ·rintro ys H' ⟨rfl,rfl⟩ l hl2;rw[ZBH (by rw[Ax];exact ZD _)];refine⟨_,.inl ⟨.of AD,fun c hc=>?_⟩⟩;have s3:=(Same.upd (o:=.lst (iL (AR r ans ts))) hl2).trans (Same.upd (o:=.tup (iL (AR r ans ts))) hc);refine⟨s2.trans s3,qs++[c],by rw[ZK];rfl,by rw[ZG,hq];rfl,fun i d hd=>?_⟩
   rcases ZBi i qs.length with z | z | z
   ·rw[ZBb z]at hd;exact s3 _ _ (hall i d hd)
   ·subst z;rw[ZBA (ZD _),Nat.sub_self]at hd;cases hd;rw[hq,<- ea];exact AD
   ·rw[ZBA (Zp z),List.getElem?_eq_none (by simp;lia)]at hd;cases hd
 ·rintro zs H' ⟨s2,qs,rfl,hq,hall⟩ l hl'
  match qs,hq,hall with
  | [b0,b1],_,hall =>
  have s3:Same H' (upd H' l (.lst ([b0,b1].map V.ref))):=Same.upd hl';exact q l b0 b1 _ ((s1.trans s2).free hl') (s1.trans (s2.trans s3)) AD (s3 _ _ (hall 0 b0 rfl)) (s3 _ _ (hall 1 b1 rfl))
def Bo(K:W.Frag)(c:Nat):Sp:=fun vs H Q _=>match vs with
 | [v,.ref p,.ref d]=>∃ls rs ts kvs,Rep K H (gmD ls rs) v/\Gm ls rs/\Bv ls rs/\H p=some (.tup (iL ts))/\ts.Pairwise (· < ·)/\(∀t∈ts,t < ls.length)/\ts.length < c/\H d=some (.dT kvs)/\NMemo ls rs kvs/\∀(m:Nat) (kvs':List (List Key × V)) H',A3 (AO ls) (rs.map gB) (fun k=>decide (k∈ts)) m->Frm d H H'->H' d=some (.dT kvs')->NMemo ls rs kvs'->Q (.int (m:Nat)) H'
 | _=>False
theorem FI{c:Nat}:AQ (Bo K c):=fun vs H Q Q' E h q=>by
 unfold Bo at *;split at q
 ·revert q;repeat' first | exact h _ _ | exact A4 h | exact out_mono h | exact outT_mono h | walk_at "m"
 ·exact q.elim
theorem HH{kvs:List (List Key × V)}:DD (.dT kvs):=⟨(fun _ z=>nomatch z),(fun _ _ z=>nomatch z)⟩
theorem Kp(ts:List Nat):eqD (.tup (iD ts)) (.tup [])=decide (ts=[]):=by
 rw[GO];cases ts with
 | nil=>rfl
 | cons t ts=>rfl
theorem DK{K:W.Frag}{H:Hp}:∀ts:List Nat,Reps K H (iD ts) (iL ts)
 | []=>Am
 | t::ts=>Ap (by unfold Rep;rfl) (DK ts)
theorem Dh:∀ts:List Nat,A9 (iD ts)=0
 | []=>by simp[iD,A9]
 | t::ts=>by
  show A9 (Dv.int (t:Nat)::iD ts)=_;unfold A9;rw[Dh ts];rfl
theorem parts_lefts{r:List Bool}{ts:List Nat}:CD (fun k=>decide (k∈ts)) (gB r) ↔ AR r true ts≠[]/\AR r false ts≠[]:=by
 have key:∀ans,AR r ans ts≠[] ↔ ∃k,k∈ts/\gB r k=ans:=fun ans=>by
  constructor
  ·intro h;obtain⟨x,hx⟩:=List.exists_mem_of_ne_nil _ h;exact⟨x,mem_lefts.mp hx⟩
  ·rintro⟨k,hk⟩ e
   have:=mem_lefts.mpr hk
   rw[e]at this;simp at this
 unfold CD;rw[key true,key false];simp only[decide_eq_true_eq]
theorem Uh{r:List Bool}{ts:List Nat}(h:CD (fun k=>decide (k∈ts)) (gB r))(ans:Bool):(AR r ans ts).length < ts.length:=by
 obtain⟨⟨i,hi,yi⟩,j,hj,yj⟩:=h;have hi:=ZN hi;have hj:=ZN hj
 have key:∀(k:Nat) (b:Bool),k∈ts->gB r k=b->(AR r (!b) ts).length < ts.length:=fun k b hk hb=>by
  unfold AR;refine Nat.lt_of_le_of_ne (ZBu _ _) fun e=>?_
  have:=List.length_filter_eq_length_iff.mp e k hk
  rw[hb]at this;cases b <;> simp at this
 cases ans with
 | true=>exact key j false hj yj
 | false=>exact key i true hi yi
structure Least(ls:List Int)(rs:List (List Bool))(ts:List Nat)(k least:Nat):Prop where
 lo:∀F,A3 (AO ls) (rs.map gB) (fun k=>decide (k∈ts)) F->F<=least
 hi:∀(i:Nat) (r:List Bool),i < k->rs[i]? = some r->CD (fun k=>decide (k∈ts)) (gB r)->∃b c,A3 (AO ls) (rs.map gB) (fun k=>decide (k∈AR r true ts)) b/\A3 (AO ls) (rs.map gB) (fun k=>decide (k∈AR r false ts)) c/\least<=1+max b c
theorem Tl(c:Nat)(G_z37:FnOk P w K mg base CX0 (c+2) T.f_z37 T.d_z37 ["_law_game_here","_law_things","_law_known"] (Bo K c)) :
 FnOk P w K mg base CX0 (c+3) T.f_z37 T.d_z37 ["_law_game_here","_law_things","_law_known"] (Bo K (c+1)):=by
 have G_z33:=@Fx P w K mg base T;refine T.F_z37.ok sc_z37 (fun vs H Q E h=>by unfold Bo at h;split at h <;> first | rfl | exact h.elim) (fun cdv A outer s H vs Q E hr h=>?_);have hu:=Ag hr;have hr_z37:=hr;have hr_z33:=hr.mono (show 1<=c+2 by lia);unfold Bo at h;split at h;rotate_left
 ·exact h.elim
 rename_i v p d;obtain⟨ls,rs,ts,kvs,hv,G,he,hp,hrise,hlt,hc,hd,M,q⟩:=h;obtain⟨a,tl,rl,ps,rfl,g⟩:=Bh hv;have l16:=G.l16;have r16:=G.r16;have tl16:=Pl hrise hlt;have npd:p≠d:=CZ hp hd (by intro z;cases z);have mo1:AQ (Bo K c):=FI;have mo2:AQ (Cm K):=GM;obtain⟨F,hF⟩:=LY (Kt he hlt);refine⟨_,(@AE _ _ _ _ _ (@Ai _ _ _ _ _ _ _ _ (AX B9 (AT GX rfl T.z_len (by rfl) (AA (Af (Ic (K:=K) rfl) rfl T.z_set (by rfl) (AA (Ay (N':=["_law_k","_law_game_here"]) (own:=1) (ix:=[0]) rfl (Az (K:=K) (vv 1)) (by kernel_rfl) rfl rfl (by kernel_rfl) (fun c=>AN (i:=0) (show(["_law_k","_law_game_here"]:List Str).Nodup by decide +kernel) rfl (by right)) (Aj (by decide)) (fun c=>A0) (fun c=>(kIx (K:=K) (kIx (K:=K) (vv 1) AC) (vv 0)))) AB)) AB)) AC) (@AF _ _ _ (@AK _ _ _ _ AC)) Ah) (@AE _ _ _ _ _ (@Ai _ _ _ _ _ _ _ _ (AX (Lj hu) (vv 1) (vv 2)) (@AE _ _ _ _ _ (@AS _ _ 3 _ _ _ _ sc_z37.nd rfl (by right) (AT (Av (K:=K)) rfl T.z_len (by rfl) (AA (vv 1) AB)) (by rfl) (by walk_at "i")) (@AE _ _ _ _ _ (@BF _ _ _ _ _ _ _ _ PassesOwn.never rfl (BA rfl T.z_range (AA (AT (Av (K:=K)) rfl T.z_len (by rfl) (AA (kIx (K:=K) (vv 0) AC) AB)) AB)) (AN (i:=4) sc_z37.nd rfl (by right)) (@AE _ _ _ _ _ (@AS _ _ 5 _ _ _ _ sc_z37.nd rfl (by right) (AH G_z33 hr_z33 rfl T.m_z33 T.F_z33.kp T.b_z33 .nil AG (AA (vv 0) (AA (vv 1) (AA (vv 4) AB)))) (by rfl) (by walk_at "i")) (@AF _ _ _ (@Ai _ _ _ _ _ _ _ _ (AX (HF (K:=K) hu) (AW AB) (vv 5)) (@AF _ _ _ (@AS _ _ 3 _ _ _ _ sc_z37.nd rfl (by right) (AT (Nt rfl) rfl T.z_min (by rfl) (AA (vv 3) (AA (AI (BH (K:=K)) AC (AT (SH (K:=K) rfl) rfl T.z_max (by rfl) (AA (Ay (N':=["_law_side","_law_game_here","_law_known"]) (own:=1) (ix:=[0,2]) rfl (Az (K:=K) (vv 5)) (by kernel_rfl) rfl rfl (by kernel_rfl) (fun c=>AN (i:=0) (show(["_law_side","_law_game_here","_law_known"]:List Str).Nodup by decide +kernel) rfl (by right)) (Aj (by decide)) (fun c=>A0) (fun c=>(AH G_z37 hr_z37 rfl T.m_z37 T.F_z37.kp T.b_z37 .nil AG (AA (vv 1) (AA (vv 0) (AA (vv 2) AB)))))) AB))) AB))) (by rfl) (by walk_at "i"))) Ah))) (by intro _;rfl)) (@AF _ _ _ (@GQ _ _ _ _ _ _ _ _ _ (Cr hu) (vv 2) (vv 1) (vv 3) (by rfl))))) Ah) (@AF _ _ _ (@AK _ _ _ _ (Ls (Cr hu) (vv 2) (vv 1) (by intro _ _;rfl)))))),?_⟩;refine AJ (fun σ H'=>σ=[some (.ref a),some (.ref p),some (.ref d),none,none,none]/\Same H H'/\¬One (AO ls) (fun k=>decide (k∈ts))) ?_ ?_ (by walk_at "sm")
 ·refine .inr ⟨⟨_,.of hp⟩,?_⟩
  refine Bk (xs:=iL ts) (fun k zs H'=>H'=H/\zs=((ts.take k).map (AO ls)).map V.int) ⟨rfl,rfl⟩ (fun k zs H' _ ⟨e,_⟩=>by rw[e];exact .of hp) (fun k zs H' hk ⟨_,e⟩=>by
   rw[Ax]at hk;rw[e,ZC,ZC,ZV];exact Ak (by lia)) ?_ ?_
  ·rintro k x zs H' hx ⟨rfl,rfl⟩;obtain⟨t,ht,hmem,rfl⟩:=Cy hx;refine⟨_,.ref tl,.inr g.two,rfl,_,.int (AO ls t),.inr g.lab,Dc (hlt t hmem),rfl,?_⟩;rw[Zi,ht,ZK,ZK];rfl
  ·rintro zs H' ⟨rfl,rfl⟩ l hl';rw[Ax,Zm];refine⟨_,.of AD,by rw[ZC];lia,fun ds qs nd hmem hqs=>?_⟩;have S:=(Same.upd (o:=.lst ((ts.map (AO ls)).map V.int)) hl').trans (Same.upd (o:=DH ds) hqs);have o1:=Gi (ls:=ls) nd hmem;refine⟨ds,AD,?_⟩;refine Ab (fun e=>?_) (fun e=>⟨rfl,S,fun o=>e (ZM (by have:=o1.mpr o;lia))⟩);have e:((ds.length:Nat):Int) < 2:=ZN e;exact q 0 kvs _ ⟨o1.mp (by lia),fun _ _=>ZU _⟩ (Cu S) (S _ _ hd) M
 rintro σ H1 ⟨rfl,s1,ho⟩;have hd1:=s1 _ _ hd;have hp1:=s1 _ _ hp;refine AJ (fun σ H'=>(∃x y z,σ=[some (.ref a),some (.ref p),some (.ref d),x,y,z])/\Frm d H1 H'/\∃(kvs':List (List Key × V)) (m:Nat),H' d=some (.dT kvs')/\NMemo ls rs kvs'/\valV kvs' (BP ts)=some (.int (m:Nat))/\A3 (AO ls) (rs.map gB) (fun k=>decide (k∈ts)) m) ?_ ?_ (by walk_at "sm");rotate_left
 ·rintro σ H2 ⟨⟨x,y,z,rfl⟩,f2,kvs',m,hd2,M2,hv2,hm⟩;refine⟨d,.int (m:Nat),rfl,?_,q m kvs' H2 hm ((Cu s1).trans f2) hd2 M2⟩;rw[<- hv2];exact DGet.t hd2 (by rw[Gp];exact f2 _ _ npd hp1)
 refine⟨valV kvs (BP ts),DGet.t hd1 (by rw[Gp];exact hp1),?_⟩;cases e:valV kvs (BP ts) with
 | some v0 =>
  obtain⟨m,rfl,hm⟩:=M.get e;exact⟨⟨_,_,_,rfl⟩,Frm.refl,kvs,m,hd1,M,e,hm⟩
 | none =>
  refine⟨ts.length,.inr ⟨_,.of hp1,by rw[Ax]⟩,?_⟩;dsimp only[Ae];refine AJ (fun σ H'=>∃(y z:Option V) (least:Nat),σ=[some (.ref a),some (.ref p),some (.ref d),some (.int (least:Nat)),y,z]/\Frm d H1 H'/\(∃kvs',H' d=some (.dT kvs')/\NMemo ls rs kvs')/\Least ls rs ts rs.length least) ?_ ?_ (by walk_at "sm");rotate_left
  ·rintro σ H2 ⟨y,z,least,rfl,f2,⟨kvs',hd2,M2⟩,hL⟩
   have hm:A3 (AO ls) (rs.map gB) (fun k=>decide (k∈ts)) least:=R8 ho hF (hL.lo F hF) fun y hy hpt=>by
    obtain⟨r,hr',rfl⟩:=ZT.mp hy;obtain⟨i,hi,ei⟩:=Z8 hr';obtain⟨b,c',h1,h2,h3⟩:=hL.hi i r hi (by rw[ZE hi,ei]) hpt;rw[GR]at h1;rw[G4]at h2;exact⟨b,c',h1,h2,h3⟩
   refine⟨d,_,rfl,DPut.t hd2 (show H2 p=some (.tup ((BP ts).map kV)) by rw[Gp];exact f2 _ _ npd hp1) (M2.len l16),?_⟩;exact⟨⟨_,_,_,rfl⟩,f2.trans Frm.updT,_,least,AD,M2.put hrise hlt hm,by rw[Md,if_pos rfl],hm⟩
  have g1:=g.same s1;refine⟨_,.ref rl,.inr g1.two,rfl,rs.length,.inr ⟨_,g1.rows,by rw[ZC,g1.len]⟩,(rs.length:Int),rfl,by lia,by lia,?_⟩;rw[ZY];refine B8 (fun k σ H'=>∃(y z:Option V) (least:Nat),σ=[some (.ref a),some (.ref p),some (.ref d),some (.int (least:Nat)),y,z]/\Frm d H1 H'/\(∃kvs',H' d=some (.dT kvs')/\NMemo ls rs kvs')/\Least ls rs ts k least) ⟨none,none,ts.length,rfl,Frm.refl,⟨kvs,hd1,M⟩,fun F' hF'=>by have:=Mb he hlt hF';lia,fun i r hi=>absurd hi (ZBN _)⟩ ?_ (fun σ H' h=>h);rintro i σ H2 hi ⟨y,z,least,rfl,f2,⟨kvs2,hd2,M2⟩,hL⟩;have ez:(0:Int)+(i:Int)=((i:Nat):Int):=by lia
  rw[ez];have er:rs[i]? = some rs[i]:=ZE hi;have g2:=g1.frm f2 hd1 HH;have hp2:=f2 _ _ npd hp1
  have stay:(¬CD (fun k=>decide (k∈ts)) (gB rs[i]))->Least ls rs ts (i+1) least:=fun hn=>⟨hL.lo,fun i' r' hi' er' hpt=>by
   rcases Zs i' i with w | w
   ·exact hL.hi i' r' w er' hpt
   ·have:i'=i:=by lia
    subst this;rw[er]at er';cases er';exact absurd hpt hn⟩
  refine⟨ls,rs,ts,i,rs[i],GE g2,G,.of hp2,by lia,hlt,rfl,er,fun l pn py H3 hl s3 gl3 hn3 hy3=>?_⟩;dsimp only[Ae];refine⟨smq rfl,fun t0 ht0=>?_⟩;have s4:Same H3 (upd H3 t0 (.tup [])):=Same.upd ht0;have gt4:upd H3 t0 (.tup []) t0=some (.tup []):=AD;generalize upd H3 t0 (.tup [])=H4 at *;have S4:=s3.trans s4;refine⟨[.ref pn,.ref py],[.tup (iD (AR rs[i] false ts)),.tup (iD (AR rs[i] true ts))],.tup [],.inl (.of (s4 _ _ gl3)),Ap (Bt (.of (s4 _ _ hn3)) (DK _)) (Ap (Bt (.of (s4 _ _ hy3)) (DK _)) Am),Bt (.of gt4) Am,fun e he'=>?_,?_⟩
  ·simp only[ZF,Zn,or_false]at he'
   rcases he' with rfl | rfl <;> (unfold An;rw[Dh];lia)
  have eany:(([Dv.tup (iD (AR rs[i] false ts)),Dv.tup (iD (AR rs[i] true ts))]).any fun e=>eqD e (.tup []))=decide (AR rs[i] false ts=[]\/AR rs[i] true ts=[]):=by
   rw[ZBF,ZBF,List.any_nil,Kp,Kp,Bool.or_false,ZBD];simp
  rw[eany];refine Ab (fun e2=>?_) (fun e2=>?_)
  ·have hpt:CD (fun k=>decide (k∈ts)) (gB rs[i]):=parts_lefts.mpr (by
    have:¬(AR rs[i] false ts=[]\/AR rs[i] true ts=[]):=by
     intro w;rw[ZM w]at e2;cases e2
    exact⟨fun w=>this (.inr w),fun w=>this (.inl w)⟩)
   have gl4:=s4 _ _ gl3;have hd4:=S4 _ _ hd2;have nld:l≠d:=CZ gl4 hd4 (by intro z;cases z);have nnd:pn≠d:=CZ (s4 _ _ hn3) hd4 (by intro z;cases z);have nyd:py≠d:=CZ (s4 _ _ hy3) hd4 (by intro z;cases z);have g4:=g2.same S4;have hltL:∀ans,∀t∈AR rs[i] ans ts,t < ls.length:=fun ans t ht=>hlt t (mem_lefts.mp ht).1
   refine .inl ⟨⟨_,.of gl4⟩,?_⟩
   refine EZ (xs:=[.ref pn,.ref py]) (fun k zs H'=>Frm d H4 H'/\(∃kvs',H' d=some (.dT kvs')/\NMemo ls rs kvs')/\∃ms:List Nat,zs=iL ms/\ms.length=k/\∀(j:Nat) (b:Nat),ms[j]? = some b->A3 (AO ls) (rs.map gB) (fun k=>decide (k∈AR rs[i] (j == 1) ts)) b) ⟨Frm.refl,⟨kvs2,hd4,M2⟩,[],rfl,rfl,fun j b hb=>by simp at hb⟩ (fun k zs H' _ ⟨f,_⟩=>.of (f _ _ nld gl4)) (fun k zs H' hk ⟨_,_,ms,e,hq,_⟩=>by
    rw[e,Ax,hq];exact Ak (by simp at hk;lia)) ?_ ?_
   ·rintro k x zs H5 hx ⟨f5,⟨kvs5,hd5,M5⟩,ms,rfl,hq,hall⟩
    obtain⟨b,rfl,hb⟩:∃b,x=.ref b/\H5 b=some (.tup (iL (AR rs[i] (k == 1) ts))):=by
     match k,hx with
     | 0,hx=>cases hx;exact⟨pn,rfl,f5 _ _ nnd (s4 _ _ hn3)⟩
     | 1,hx=>cases hx;exact⟨py,rfl,f5 _ _ nyd (s4 _ _ hy3)⟩
     | k+2,hx=>simp at hx
    have g5:=g4.frm f5 hd4 HH;refine⟨ls,rs,_,kvs5,GE g5,G,he,hb,Jp hrise,hltL _,by have:=Uh hpt (k == 1);lia,hd5,M5,fun m kvs6 H6 hm f6 hd6 M6=>?_⟩;refine⟨f5.trans f6,⟨kvs6,hd6,M6⟩,ms++[m],by rw[DG];rfl,by rw[ZG,hq];rfl,fun j c' hc'=>?_⟩
    rcases ZBi j ms.length with z | z | z
    ·rw[ZBb z]at hc';exact hall j c' hc'
    ·subst z;rw[ZBA (ZD _),Nat.sub_self]at hc';cases hc';rw[hq];exact hm
    ·rw[ZBA (Zp z),List.getElem?_eq_none (by simp;lia)]at hc';cases hc'
   ·rintro zs H5 ⟨f5,⟨kvs5,hd5,M5⟩,ms,rfl,hq,hall⟩ l2 hl2
    match ms,hq,hall with
    | [m0,m1],_,hall =>
    have s6:Same H5 (upd H5 l2 (.lst (iL [m0,m1]))):=Same.upd hl2;refine⟨[(m0:Int),(m1:Int)],.of AD,by simp,fun Mx hM hle=>?_⟩;have f0:=hall 0 m0 rfl;have f1:=hall 1 m1 rfl;have h0:=hle (m0:Int) (by simp);have h1:=hle (m1:Int) (by simp)
    have hM':Mx=((max m0 m1:Nat):Int):=by
     simp only[ZF,Zn,or_false]at hM;lia
    subst hM';have el:min ((least:Nat):Int) (1+((max m0 m1:Nat):Int))=((min least (1+max m0 m1):Nat):Int):=by lia
    have sp:=Kn (ZT.mpr ⟨rs[i],Zc hi,rfl⟩) hF (by rw[<- GR];exact f1) (by rw[<- G4];exact f0);refine⟨some (.int ((i:Nat):Int)),some (.ref l),min least (1+max m0 m1),?_,f2.trans ((Cu S4).trans (f5.trans (Cu s6))),⟨kvs5,s6 _ _ hd5,M5⟩,⟨fun F' hF'=>?_,fun i' r' hi' er' hpt'=>?_⟩⟩
    ·show _=[some (V.ref a),some (.ref p),some (.ref d),some (.int ((min least (1+max m0 m1):Nat):Int)),some (.int ((i:Nat):Int)),some (.ref l)];rw[<- el];rfl
    ·have:=hL.lo F' hF'
     rw[G8 hF' hF];rw[G8 hF' hF]at this;lia
    ·rcases Zs i' i with w | w
     ·obtain⟨b,c',h1',h2',h3'⟩:=hL.hi i' r' w er' hpt';exact⟨b,c',h1',h2',by lia⟩
     ·have:i'=i:=by lia
      subst this;rw[er]at er';cases er';exact⟨m1,m0,f1,f0,by lia⟩
  ·have hn:¬CD (fun k=>decide (k∈ts)) (gB rs[i]):=fun w=>by
    obtain⟨w1,w2⟩:=parts_lefts.mp w;apply e2;rw[Zu (fun z=>z.elim w2 w1)];rfl
   exact⟨_,_,least,rfl,f2.trans (Cu S4),⟨kvs2,S4 _ _ hd2,M2⟩,stay hn⟩
theorem KR:∀c:Nat,FnOk P w K mg base CX0 (c+2) T.f_z37 T.d_z37 ["_law_game_here","_law_things","_law_known"] (Bo K c)
 | 0=>by
  have no:∀vs H Q E,¬Bo K 0 vs H Q E:=fun vs H Q E h=>by
   unfold Bo at h;split at h
   ·obtain⟨ls,rs,ts,kvs,_,_,_,_,_,_,z,_⟩:=h;exact absurd z (ZBN _)
   ·exact h
  exact⟨fun vs H Q E h=>(no _ _ _ _ h).elim,fun A outer s H args us vs Q E _ _ _ _ h=>(no _ _ _ _ h).elim⟩
 | c+1=>Tl T c (KR c)
theorem GC:FnOk P w K mg base CX0 19 T.f_z37 T.d_z37 ["_law_game_here","_law_things","_law_known"] (Bo K 17):=KR T 17
def Bw:Dw->Bool
 | .int _=>true
 | _=>false
def Bp(K:W.Frag)(f:Dw->Bool):Sp:=fun vs H Q _=>match vs with
 | [v]=>∃d,RepW K H d v/\Q (.bl (f d)) H
 | _=>False
theorem FB{f:Dw->Bool}:AQ (Bp K f):=fun vs H Q Q' E h q=>by
 unfold Bp at *;split at q
 ·revert q;repeat' first | exact h _ _ | exact A4 h | exact out_mono h | exact outT_mono h | walk_at "m"
 ·exact q.elim
theorem Ku:FnOk P w K mg base CX0 1 T.f_z43 T.d_z43 ["thing"] (Bp K Bw):=by
 refine T.F_z43.ok Pi (fun vs H Q E h=>by unfold Bp at h;split at h <;> first | rfl | exact h.elim) (fun cdv A outer s H vs Q E hr h=>?_);have hu:=Ag hr;unfold Bp at h;split at h;rotate_left
 ·exact h.elim
 rename_i v;obtain⟨d,hd,q⟩:=h;refine⟨_,(@AF _ _ _ (@AK _ _ _ _ (Cn (AT (BX (K:=K)) rfl T.z_isinstance (by rfl) (AA (vv 0) (AA (BU (v:=.ty "int") rfl T.z_int (by rfl) rfl) AB))) (CV (Er (AT (BX (K:=K)) rfl T.z_isinstance (by rfl) (AA (vv 0) (AA (BU (v:=.ty "bool") rfl T.z_bool (by rfl) rfl) AB)))))))),?_⟩;refine⟨by decide,d,hd,?_⟩;refine Ab (fun e=>⟨by decide,d,hd,?_⟩) (fun e=>?_)
 ·have:Bw d = !BG (tyW d) "bool":=by
   revert e;cases d <;> intro e <;> first | rfl | (simp[BG,tyW]at e;done)
  rw[this]at q;exact q
 ·have:Bw d=false:=by
   revert e;cases d <;> intro e <;> first | rfl | exact absurd (show BG _ _=true by simp[BG,tyW]) e
  rw[this]at q;exact q
def Gk(m:Nat):Dw->Bool
 | .int i=>decide (0<=i) && decide (i < (m:Int))
 | _=>false
def Ea(K:W.Frag):Sp:=fun vs H Q _=>match vs with
 | [.int z,v]=>∃(m:Nat) (d:Dw),z=m/\RepW K H d v/\Q (.bl (Gk m d)) H
 | _=>False
theorem UH:AQ (Ea K):=fun vs H Q Q' E h q=>by
 unfold Ea at *;split at q
 ·revert q;repeat' first | exact h _ _ | exact A4 h | exact out_mono h | exact outT_mono h | walk_at "m"
 ·exact q.elim
theorem R0:FnOk P w K mg base CX0 2 T.f_z45 T.d_z45 ["bound","thing"] (Ea K):=by
 have G_z43:=@Ku P w K mg base T;refine T.F_z45.ok Rq (fun vs H Q E h=>by unfold Ea at h;split at h <;> first | rfl | exact h.elim) (fun cdv A outer s H vs Q E hr h=>?_);have hu:=Ag hr;have hr_z43:=hr.mono (show 1<=_ by decide)
 match vs,h with
 | [.int n,v],⟨m,d,e1,hd,q⟩ =>
 subst e1;refine⟨_,(@AF _ _ _ (@AK _ _ _ _ (Cn (AH G_z43 hr_z43 rfl T.m_z43 T.F_z43.kp T.b_z43 .nil AG (AA (vv 1) AB)) (CV (Uv HC B9 AC (vv 1) (vv 0)))))),?_⟩;refine⟨d,hd,?_⟩;cases d with
 | int i =>
  unfold RepW at hd;subst hd;have q:Q (.bl (decide (0<=i) && decide (i < (m:Int)))) H:=q;refine Ab (fun e=>?_) (fun e=>?_)
  ·have e':0<=i:=ZN e;rw[ZM e',Bool.true_and]at q;exact q
  ·rw[Zu (fun z=>e (ZM z)),Bool.false_and]at q;exact q
 | _=>exact q
theorem QK{m:Nat}{d:Dw}(h:Gk m d=true):∃q:Nat,d=.int (q:Int)/\q < m:=by
 cases d with
 | int i =>
  have h':(decide (0<=i) && decide (i < (m:Int)))=true:=h;rw[Ze,decide_eq_true_iff,decide_eq_true_iff]at h';exact⟨i.toNat,by rw[ZCE h'.1],by lia⟩
 | _=>cases h
def Ec:Dw->Bool
 | .tup [_,_]=>true
 | _=>false
theorem RU{d:Dw}(h:Ec d=true):∃d0 d1,d=.tup [d0,d1]:=by
 match d,h with
 | .tup [d0,d1],_=>exact⟨d0,d1,rfl⟩
 | .tup [],h=>cases h
 | .tup [_],h=>cases h
 | .tup (_::_::_::_),h=>cases h
 | .non,h=>cases h
 | .bl _,h=>cases h
 | .int _,h=>cases h
 | .str _,h=>cases h
 | .lst _,h=>cases h
 | .emp,h=>cases h
theorem Ir{d:Dw}(h:Bw d=true):∃i,d=.int i:=by
 cases d with
 | int i=>exact⟨i,rfl⟩
 | _=>cases h
theorem Ur:FnOk P w K mg base CX0 1 T.f_z46 T.d_z46 ["thing"] (Bp K Ec):=by
 refine T.F_z46.ok RT (fun vs H Q E h=>by unfold Bp at h;split at h <;> first | rfl | exact h.elim) (fun cdv A outer s H vs Q E hr h=>?_);have hu:=Ag hr
 match vs,h with
 | [v],⟨d,hd,q⟩ =>
 refine⟨_,(@AF _ _ _ (@AK _ _ _ _ (Cn (AT (BX (K:=K)) rfl T.z_isinstance (by rfl) (AA (vv 0) (AA (BU (v:=.ty "tuple") rfl T.z_tuple (by rfl) rfl) AB))) (CV (A8 (kEq (K:=K) hu) (AT (Av (K:=K)) rfl T.z_len (by rfl) (AA (vv 0) AB)) AC))))),?_⟩;refine⟨by decide,d,hd,?_⟩;cases d with
 | tup ds =>
  obtain⟨p,xs,rfl,hp,hx⟩:=Bg hd;refine⟨_,.inr ⟨_,hp,rfl⟩,?_⟩
  have e:Ec (.tup ds)=(false ^^ ((xs.length:Int) == 2)):=by
   rw[<- hx.length]
   match ds with
   | []=>rfl
   | [_]=>rfl
   | [_,_]=>rfl
   | _::_::_::r =>
    show false=_;rw[ZBg];symm;rw[beq_eq_false_iff_ne]
    show((r.length+1+1+1:Nat):Int)≠2
    lia
  rw[e]at q;exact q
 | _=>exact q
def ThW(n:Nat)(d:Dw):Prop:=∃ts:List Nat,d=.tup (ts.map fun(t:Nat)=>Dw.int (t:Int))/\ts.Pairwise (· < ·)/\∀t∈ts,t < n
def Du(K:W.Frag):Sp:=fun vs H Q _=>match vs with
 | [.int z,v]=>∃(n:Nat) (d:Dw),z=n/\RepW K H d v/\∀b:Bool,(b=true ↔ ThW n d)->Q (.bl b) H
 | _=>False
theorem Qm:AQ (Du K):=fun vs H Q Q' E h q=>by
 unfold Du at *;split at q
 ·revert q;repeat' first | exact h _ _ | exact A4 h | exact out_mono h | exact outT_mono h | walk_at "m"
 ·exact q.elim
theorem Ih{ts:List Nat}{k:Nat}(h:ts.Pairwise (· < ·))(hl:∀t∈ts,t < k):(ts++[k]).Pairwise (· < ·):=by
 rw[ZBj];exact⟨h,by simp,fun a ha b hb=>by rw[ZO]at hb;rw[hb];exact hl a ha⟩
theorem Pk:FnOk P w K mg base CX0 3 T.f_z26 T.d_z26 ["many","thing"] (Du K):=by
 have G_z45:=@R0 P w K mg base T;refine T.F_z26.ok sc_z26 (fun vs H Q E h=>by unfold Du at h;split at h <;> first | rfl | exact h.elim) (fun cdv A outer s H vs Q E hr h=>?_);have hu:=Ag hr;have hr_z45:=hr.mono (show 2<=_ by decide);have mo1:AQ (Ea K):=UH;unfold Du at h;split at h;rotate_left
 ·exact h.elim
 rename_i z v;obtain⟨n,d,e1,hd,q⟩:=h;subst e1;refine⟨_,(@AE _ _ _ _ _ (@Ai _ _ _ _ _ _ _ _ (BQ (A7 (AT (BX (K:=K)) rfl T.z_isinstance (by rfl) (AA (vv 1) (AA (BU (v:=.ty "tuple") rfl T.z_tuple (by rfl) rfl) AB))))) (@AF _ _ _ (@AK _ _ _ _ A5)) Ah) (@AE _ _ _ _ _ (@AS _ _ 2 _ _ _ _ sc_z26.nd rfl (by right) (CM CP AC) (by rfl) (by walk_at "i")) (@AE _ _ _ _ _ (@BF _ _ _ _ _ _ _ _ PassesOwn.never rfl (Az (K:=K) (vv 1)) (AN (i:=3) sc_z26.nd rfl (by right)) (@AE _ _ _ _ _ (@Ai _ _ _ _ _ _ _ _ (PW.pt (Bz (BQ (A7 (AH G_z45 hr_z45 rfl T.m_z45 T.F_z45.kp T.b_z45 .nil AG (AA (vv 0) (AA (vv 3) AB))))) (Cz (AX HC (vv 3) (vv 2))))) (@AF _ _ _ (@AK _ _ _ _ A5)) Ah) (@AF _ _ _ (@AS _ _ 2 _ _ _ _ sc_z26.nd rfl (by right) (vv 3) (by rfl) (by walk_at "i")))) (by intro _;rfl)) (@AF _ _ _ (@AK _ _ _ _ A5))))),?_⟩;refine AJ (fun σ H'=>(∃z2 z3:Option V,σ=[some (.int (n:Nat)),some v,z2,z3])/\H=H'/\∃ds,d=.tup ds) ?_ ?_ (by walk_at "sm")
 ·refine⟨by decide,d,hd,?_⟩;cases d with
  | tup ds=>exact⟨⟨_,_,rfl⟩,rfl,ds,rfl⟩
  | _=>exact q false ⟨(fun z=>nomatch z),fun⟨ts,e,_⟩=>nomatch e⟩
 rintro σ _ ⟨⟨z2,z3,rfl⟩,rfl,ds,rfl⟩;obtain⟨p,xs,rfl,hp,hx⟩:=Bg hd;have hlen:=hx.length;refine AJ (fun σ H'=>σ=[some (.int (n:Nat)),some (.ref p),some (.int (-1)),z3]/\H=H') ⟨rfl,rfl⟩ ?_ (by walk_at "sm");rintro σ _ ⟨rfl,rfl⟩;refine AJ (fun σ H'=>H=H'/\ThW n (.tup ds)) ?_ (fun σ H' ⟨e,h⟩=>by subst e;exact q true ⟨fun _=>h,fun _=>rfl⟩) (by walk_at "sm");refine .inr ⟨⟨_,hp⟩,?_⟩;refine D7 (xs:=xs) (fun j σ H'=>∃(ts:List Nat) (lst:Int) (z3:Option V),σ=[some (.int (n:Nat)),some (.ref p),some (.int lst),z3]/\H=H'/\ds.take j=(ts.map fun(t:Nat)=>Dw.int (t:Int))/\ts.length=j/\ts.Pairwise (· < ·)/\(∀t∈ts,t < n)/\(∀t∈ts,(t:Int)<=lst)/\(lst = -1\/∃t∈ts,lst=(t:Int))) ⟨[],-1,_,rfl,rfl,rfl,rfl,by simp,(fun t ht=>by cases ht),(fun t ht=>by cases ht),.inl rfl⟩ (fun j σ H' _ ⟨_,_,_,_,e,_⟩=>by subst e;exact hp) ?_ ?_
 ·rintro j x σ H1 hxj ⟨ts,lst,z3,rfl,rfl,htk,htl,hup,hlt,hle,hla⟩;have hj:j < ds.length:=by rw[hlen];exact(Zb.mp hxj).1
  have ed:ds[j]? = some ds[j]:=ZE hj;obtain⟨x',ex,rx⟩:=hx.get ed;rw[hxj]at ex;cases ex;have htk1:ds.take (j+1)=(ts.map fun(t:Nat)=>Dw.int (t:Int))++[ds[j]]:=by rw[Zi,ed,htk];rfl
  generalize ds[j]=dj at *;refine⟨n,dj,rfl,rx,?_⟩;cases hb:Gk n dj with
  | false =>
   refine q false ⟨(fun z=>nomatch z),fun⟨ts',e,h1,h2⟩=>?_⟩;cases e;rw[ZX]at ed;cases ek:ts'[j]? with
   | none=>rw[ek]at ed;cases ed
   | some k =>
    rw[ek]at ed;cases ed
    have:=h2 k (Zw ek)
    have hb':(decide (0<=(k:Int)) && decide ((k:Int) < (n:Int)))=false:=hb;rw[ZM (by lia),ZM (by lia)]at hb';cases hb'
  | true =>
   obtain⟨k,rfl,hk⟩:=QK hb;unfold RepW at rx;subst rx;refine Ab (fun z=>?_) (fun z=>?_)
   ·have z:(k:Int)<=lst:=ZN z;refine q false ⟨(fun z=>nomatch z),fun⟨ts',e,h1,h2⟩=>?_⟩;cases e;rw[ZX]at ed;cases ek:ts'[j]? with
    | none=>rw[ek]at ed;cases ed
    | some k' =>
     rw[ek]at ed
     have:k'=k:=by
      have e:Dw.int (k':Int)=Dw.int (k:Int):=ZW ed;injection e with e
      lia
     subst this
     rcases hla with y | ⟨t,ht,y⟩
     ·lia
     ·obtain⟨i,hi,ei⟩:=Z8 ht
      have e1:((ts'.map fun(t:Nat)=>Dw.int (t:Int)).take j)[i]? = some (Dw.int (t:Int)):=by
       rw[htk,ZX,ZE hi,ei];rfl
      rw[List.getElem?_take_of_lt (by lia),ZX]at e1;cases et:ts'[i]? with
      | none=>rw[et]at e1;cases e1
      | some t' =>
       rw[et]at e1
       have e2:t'=t:=by
        have e:Dw.int (t':Int)=Dw.int (t:Int):=ZW e1;injection e with e
        lia
       subst e2;obtain⟨i1,i2⟩:=Zb.mp et;obtain⟨j1,j2⟩:=Zb.mp ek
       have:=ZB9.mp h1 i j i1 j1 (by lia)
       rw[i2,j2]at this;lia
   ·have z:¬(k:Int)<=lst:=fun y=>z (ZM y)
    refine⟨ts++[k],k,_,rfl,rfl,?_,by rw[ZG,htl];rfl,Ih hup fun t ht=>by have:=hle t ht;lia,fun t ht=>?_,fun t ht=>?_,.inr ⟨k,by simp,rfl⟩⟩
    ·rw[htk1,ZK];rfl
    ·rcases ZH.mp ht with y | y
     ·exact hlt t y
     ·rw[ZO]at y;lia
    ·rcases ZH.mp ht with y | y
     ·have:=hle t y;lia
     ·rw[ZO]at y;lia
 ·rintro σ H1 ⟨ts,lst,z3,rfl,rfl,htk,htl,hup,hlt,hle,hla⟩;rw[<- hlen,Zm]at htk;exact⟨rfl,ts,by rw[htk],hup,hlt⟩
def Co(ls:List Int)(e:List Nat × Int):Prop:=EntOk ls.length e/\¬One (AO ls) (fun k=>decide (k∈e.1))
def Di(K:W.Frag):Sp:=fun vs H Q _=>match vs with
 | [u,v]=>∃ls rs d,Rep K H (gmD ls rs) u/\Gm ls rs/\RepW K H d v/\∀(b:Bool) H',(b=true ↔ ∃e,d=AL e/\Co ls e)->Same H H'->Q (.bl b) H'
 | _=>False
theorem Ry:AQ (Di K):=fun vs H Q Q' E h q=>by
 unfold Di at *;split at q
 ·revert q;repeat' first | exact h _ _ | exact A4 h | exact out_mono h | exact outT_mono h | walk_at "m"
 ·exact q.elim
theorem Th:FnOk P w K mg base CX0 4 T.f_z42 T.d_z42 ["game","thing"] (Di K):=by
 have G_z46:=@Ur P w K mg base T;have G_z26:=@Pk P w K mg base T;have G_z43:=@Ku P w K mg base T;refine T.F_z42.ok Om (fun vs H Q E h=>by unfold Di at h;split at h <;> first | rfl | exact h.elim) (fun cdv A outer s H vs Q E hr h=>?_);have hu:=Ag hr;have hr_z46:=hr.mono (show 1<=_ by decide);have hr_z26:=hr.mono (show 3<=_ by decide);have hr_z43:=hr.mono (show 1<=_ by decide);have mo1:AQ (Bp K Ec):=FB;have mo2:AQ (Du K):=Qm;have mo3:AQ (Bp K Bw):=FB;unfold Di at h;split at h;rotate_left
 ·exact h.elim
 rename_i u v;obtain⟨ls,rs,d,hg,G,hd,q⟩:=h;obtain⟨a,tl,rl,ps,rfl,g⟩:=Bh hg;have l16:=G.l16;refine⟨_,(@AE _ _ _ _ _ (@Ai _ _ _ _ _ _ _ _ (PW.pt (Bz (BQ (A7 (AH G_z46 hr_z46 rfl T.m_z46 T.F_z46.kp T.b_z46 .nil AG (AA (vv 1) AB)))) (Bz (BQ (A7 (AH G_z26 hr_z26 rfl T.m_z26 T.F_z26.kp T.b_z26 .nil AG (AA (AT (Av (K:=K)) rfl T.z_len (by rfl) (AA (kIx (K:=K) (vv 0) AC) AB)) (AA (kIx (K:=K) (vv 1) AC) AB))))) (Cz (BQ (A7 (AH G_z43 hr_z43 rfl T.m_z43 T.F_z43.kp T.b_z43 .nil AG (AA (kIx (K:=K) (vv 1) AC) AB)))))))) (@AF _ _ _ (@AK _ _ _ _ A5)) Ah) (@AF _ _ _ (@AK _ _ _ _ (Cn (A8 Ch (kIx (K:=K) (vv 1) AC) AC) (CV (A8 Cg (AT GX rfl T.z_len (by rfl) (AA (Af (Ic (K:=K) rfl) rfl T.z_set (by rfl) (AA (Ay (N':=["each","game"]) (own:=1) (ix:=[0]) rfl (Az (K:=K) (kIx (K:=K) (vv 1) AC)) (by kernel_rfl) rfl rfl (by kernel_rfl) (fun c=>AN (i:=0) (show(["each","game"]:List Str).Nodup by decide +kernel) rfl (by right)) (Aj (by decide)) (fun c=>A0) (fun c=>(kIx (K:=K) (kIx (K:=K) (vv 1) AC) (vv 0)))) AB)) AB)) AC)))))),?_⟩;refine AJ (fun σ H'=>σ=[some (.ref a),some v]/\H=H'/\∃(ts:List Nat) (k:Int),d=.tup [.tup (ts.map fun(t:Nat)=>Dw.int (t:Int)),.int k]/\ts.Pairwise (· < ·)/\∀t∈ts,t < ls.length) ?_ ?_ (by walk_at "sm")
 ·refine⟨d,hd,?_⟩;cases hb:Ec d with
  | false=>exact q false H ⟨(fun z=>nomatch z),fun⟨e,he,_⟩=>by rw[he]at hb;cases hb⟩ (Same.refl _)
  | true =>
   obtain⟨d0,d1,rfl⟩:=RU hb;obtain⟨p,xs,rfl,hp,hx⟩:=Bg hd;unfold RepsW at hx;obtain⟨x0,l0,rfl,r0,hx⟩:=hx;unfold RepsW at hx;obtain⟨x1,l1,rfl,r1,hx⟩:=hx;unfold RepsW at hx;subst hx;refine⟨_,.ref tl,.inr g.two,rfl,ls.length,.inr ⟨_,g.lab,by rw[ZC]⟩,_,x0,.inr hp,Aq (n:=0) rfl rfl,ls.length,d0,rfl,r0,fun b hb1=>?_⟩;cases b with
   | false=>exact q false H ⟨(fun z=>nomatch z),fun⟨e,he,h⟩=>by
    unfold AL at he;injection he with he
    injection he with h0 _
    exact nomatch hb1.mpr ⟨e.1,h0,h.1.up,h.1.lt⟩⟩ (Same.refl _)
   | true =>
    refine⟨_,x1,.inr hp,Aq (n:=1) rfl rfl,d1,r1,?_⟩;cases hw:Bw d1 with
    | false=>exact q false H ⟨(fun z=>nomatch z),fun⟨e,he,h⟩=>by
     unfold AL at he;injection he with he
     injection he with _ h1
     injection h1 with h1 _
     rw[h1]at hw;cases hw⟩ (Same.refl _)
    | true =>
     obtain⟨k,rfl⟩:=Ir hw;obtain⟨ts,rfl,h1,h2⟩:=hb1.mp rfl;exact⟨rfl,rfl,ts,k,rfl,h1,h2⟩
 rintro σ _ ⟨rfl,rfl,ts,k,rfl,hup,hlt⟩;obtain⟨b,c,rfl,hb,hc⟩:=GH (e:=(ts,k)) hd;have hb:SqT K H b [.ref c,.int k]:=hb;have hc:SqT K H c (iL ts):=hc;have hlen:ts.length<=ls.length:=CC ls.length ts (hup.imp fun h=>ZQ h) hlt
 have inj:∀e:List Nat × Int,Dw.tup [.tup (ts.map fun(t:Nat)=>Dw.int (t:Int)),.int k]=AL e->e=(ts,k):=fun e he=>by
  unfold AL at he;injection he with he
  injection he with h0 h1
  injection h1 with h1 _
  injection h0 with h0
  injection h1 with h1
  have:e.1=ts:=by
   have inj':∀a b:Nat,Dw.int (a:Int)=Dw.int (b:Int)->a=b:=fun a b h=>by injection h with h;lia
   exact((List.map_inj_right fun a b h=>inj' a b h).mp h0).symm
  exact Prod.ext this h1.symm
 refine⟨_,_,.inr hb,Aq (n:=1) rfl rfl,?_⟩;refine Ab (fun z=>?_) (fun z=>?_)
 ·have z:1<=k:=ZN z;refine⟨_,_,.inr hb,Aq (n:=0) rfl rfl,.inr ⟨⟨_,hc⟩,?_⟩⟩
  refine Bk (xs:=iL ts) (fun k zs H'=>H'=H/\zs=((ts.take k).map (AO ls)).map V.int) ⟨rfl,rfl⟩ (fun k zs H' _ ⟨e,_⟩=>by rw[e];exact hc) (fun k zs H' hk ⟨_,e⟩=>by
   rw[Ax]at hk;rw[e,ZC,ZC,ZV];exact Ak (by lia)) ?_ ?_
  ·rintro k x zs H' hx ⟨rfl,rfl⟩;obtain⟨t,ht,hmem,rfl⟩:=Cy hx;refine⟨_,.ref tl,.inr g.two,rfl,_,.int (AO ls t),.inr g.lab,Dc (hlt t hmem),rfl,?_⟩;rw[Zi,ht,ZK,ZK];rfl
  ·rintro zs H' ⟨rfl,rfl⟩ l hl';rw[Ax,Zm];refine⟨_,.of AD,by rw[ZC];lia,fun ds qs nd hmem hqs=>?_⟩;have S:=(Same.upd (o:=.lst ((ts.map (AO ls)).map V.int)) hl').trans (Same.upd (o:=DH ds) hqs);have o1:=Gi (ls:=ls) nd hmem;refine⟨ds,AD,?_⟩;refine q _ _ ?_ S;rw[decide_eq_true_iff];constructor
   ·intro h;exact⟨(ts,k),rfl,⟨hup,hlt,z⟩,fun o=>by have:=o1.mpr o;lia⟩
   ·rintro⟨e,he,h1,h2⟩
    have:=inj e he
    subst this
    have:¬ds.length < 2:=fun y=>h2 (o1.mp y)
    lia
 ·refine q false H ⟨(fun z=>nomatch z),fun⟨e,he,h1,h2⟩=>?_⟩ (Same.refl _)
  have:=inj e he
  subst this;exact absurd (ZM h1.one) z
def Ii(rs:List (List Bool))(es:Aw):Prop:=∀e∈es,1 < e.2->∀r∈rs,∃(ans:Bool),∃e'∈es,e.2 - 1<=e'.2/\∀t∈e'.1,t∈e.1/\gB r t=ans
def MB(ls:List Int)(rs:List (List Bool))(z:Int)(d:Dw):Prop:=∃es:Aw,d=.tup (es.map AL)/\(∀e∈es,Co ls e)/\(z<=0\/∃e∈es,z<=e.2)/\Ii rs es
theorem sub_tb{S U:Nat}:S &&& U=S ↔ ∀k,S.testBit k=true->U.testBit k=true:=by
 constructor
 ·intro h k hk;rw[<- h,ZBt,Ze]at hk;exact hk.2
 ·intro h;apply Nat.eq_of_testBit_eq;intro k;rw[ZBt];cases e:S.testBit k with
  | false=>rfl
  | true=>rw[h k e];rfl
theorem UD{ls:List Int}{rs:List (List Bool)}{es:Aw}{kvs:List (Key × V)}(hok:∀e∈es,EntOk ls.length e)(N:NumsOf ls.length es kvs)(G:Gm ls rs) :
 (∀(U:Nat) (m:Int),(kN U,V.int m)∈kvs->1 < m->∀y∈rs.map Bd,BB kvs (U &&& y) (m - 1)\/BB kvs (U - (U &&& y)) (m - 1)) ↔ Ii rs es:=by
 have bit:∀e∈es,∀k,(msk e.1).testBit k=decide (k∈e.1):=fun e he=>(DF (hok e he).up (hok e he).lt).2
 have key:∀(e:List Nat × Int) (he:e∈es) (r:List Bool) (m:Int),(BB kvs (msk e.1 &&& Bd r) m\/BB kvs (msk e.1 - (msk e.1 &&& Bd r)) m) ↔ ∃(ans:Bool) (S:Nat) (k:Int),(kN S,V.int k)∈kvs/\m<=k/\∀t,S.testBit t=true->t∈e.1/\gB r t=ans:=by
  intro e he r m;constructor
  ·rintro(⟨S,k,h1,h2,h3⟩ | ⟨S,k,h1,h2,h3⟩)
   ·refine⟨true,S,k,h1,h3,fun t ht=>?_⟩
    have:=sub_tb.mp h2 t ht
    rw[ZBt,Ze,bit e he,decide_eq_true_iff,Ft]at this;exact this
   ·refine⟨false,S,k,h1,h3,fun t ht=>?_⟩
    have:=sub_tb.mp h2 t ht
    rw[Ja]at this;rw[Ze,bit e he,decide_eq_true_iff,Ft,ZB5]at this;exact this
  ·rintro⟨ans,S,k,h1,h3,h⟩;cases ans with
   | true =>
    refine .inl ⟨S,k,h1,sub_tb.mpr fun t ht=>?_,h3⟩;rw[ZBt,Ze,bit e he,decide_eq_true_iff,Ft];exact h t ht
   | false =>
    refine .inr ⟨S,k,h1,sub_tb.mpr fun t ht=>?_,h3⟩;rw[Ja];rw[Ze,bit e he,decide_eq_true_iff,Ft,ZB5];exact h t ht
 constructor
 ·intro h e he h1 r hr;obtain⟨k,hk,hle⟩:=N.to_ e he;obtain⟨ans,S,k',h2,h3,h4⟩:=(key e he r (k - 1)).mp (h _ k hk (by lia) _ (ZT.mpr ⟨r,hr,rfl⟩));obtain⟨e',he',rfl,rfl⟩:=N.fro S k' h2;exact⟨ans,e',he',by lia,fun t ht=>h4 t (by rw[bit e' he'];exact ZM ht)⟩
 ·intro h U m hm h1 y hy;obtain⟨r,hr,rfl⟩:=ZT.mp hy;obtain⟨e,he,rfl,rfl⟩:=N.fro U m hm;obtain⟨ans,e',he',h2,h3⟩:=h e he h1 r hr;obtain⟨k',hk',hle⟩:=N.to_ e' he';refine(key e he r _).mpr ⟨ans,_,k',hk',by lia,fun t ht=>h3 t ?_⟩;rw[bit e' he']at ht;exact ZN ht
theorem Jw{P':List Nat × Int->Prop}:∀{ds:List Dw},(∀d∈ds,∃e,d=AL e/\P' e)->∃es:Aw,ds=es.map AL/\∀e∈es,P' e
 | [],_=>⟨[],rfl,fun e he=>by cases he⟩
 | d::ds,h=>by
  obtain⟨e,rfl,h1⟩:=h d (Zo ..);obtain⟨es,rfl,h2⟩:=Jw (ds:=ds) fun x hx=>h x (Za _ hx)
  exact⟨e::es,rfl,fun x hx=>by
   rcases ZF.mp hx with rfl | hx
   ·exact h1
   ·exact h2 x hx⟩
theorem EH{e e':List Nat × Int}(he:AL e=AL e'):e=e':=by
 unfold AL at he;injection he with he
 injection he with h0 h1
 injection h1 with h1 _
 injection h0 with h0
 injection h1 with h1
 have inj':∀a b:Nat,Dw.int (a:Int)=Dw.int (b:Int)->a=b:=fun a b h=>by injection h with h;lia
 exact Prod.ext ((List.map_inj_right fun a b h=>inj' a b h).mp h0) h1
def DX(K:W.Frag):Sp:=fun vs H Q _=>match vs with
 | [u,.int z,v]=>∃ls rs d,Rep K H (gmD ls rs) u/\Gm ls rs/\RepW K H d v/\AY d<=100000/\∀(b:Bool) H',(b=true ↔ MB ls rs z d)->Same H H'->Q (.bl b) H'
 | _=>False
theorem Ue:AQ (DX K):=fun vs H Q Q' E h q=>by
 unfold DX at *;split at q
 ·revert q;repeat' first | exact h _ _ | exact A4 h | exact out_mono h | exact outT_mono h | walk_at "m"
 ·exact q.elim
theorem UG:FnOk P w K mg base CX0 6 T.f_z36 T.d_z36 ["game","d","thing"] (DX K):=by
 have G_z14:=@SJ P w K mg base T;have G_z20:=@NO P w K mg base T;have G_z42:=@Th P w K mg base T;refine T.F_z36.ok Ov (fun vs H Q E h=>by unfold DX at h;split at h <;> first | rfl | exact h.elim) (fun cdv A outer s H vs Q E hr h=>?_);have hu:=Ag hr;have hr_z14:=hr.mono (show 5<=_ by decide);have hr_z20:=hr.mono (show 4<=_ by decide);have hr1_z20:=hr.mono (show 4+1<=_ by decide);have hr_z42:=hr.mono (show 4<=_ by decide);have mo1:AQ (Di K):=Ry;have mo2:AQ (DQ K T.C_Bearing):=Qg;have mo3:AQ (DS K T.C_Bearing):=Tb;unfold DX at h;split at h;rotate_left
 ·exact h.elim
 rename_i u z v;obtain⟨ls,rs,d,hg,G,hd,hbk,q⟩:=h;refine⟨_,(@AE _ _ _ _ _ (@Ai _ _ _ _ _ _ _ _ (PW.pt (Bz (BQ (A7 (AT (BX (K:=K)) rfl T.z_isinstance (by rfl) (AA (vv 2) (AA (BU (v:=.ty "tuple") rfl T.z_tuple (by rfl) rfl) AB))))) (Cz (BQ (A7 (AT (Ke (K:=K) rfl) rfl T.z_all (by rfl) (AA (Ay (N':=["entry","game"]) (own:=1) (ix:=[0]) rfl (Az (K:=K) (vv 2)) (by kernel_rfl) rfl rfl (by kernel_rfl) (fun c=>AN (i:=0) (show(["entry","game"]:List Str).Nodup by decide +kernel) rfl (by right)) (Aj (by decide)) (fun c=>A0) (fun c=>(AH G_z42 hr_z42 rfl T.m_z42 T.F_z42.kp T.b_z42 .nil AG (AA (vv 1) (AA (vv 0) AB))))) AB))))))) (@AF _ _ _ (@AK _ _ _ _ A5)) Ah) (@AF _ _ _ (@AK _ _ _ _ (Cn (A8 Ch (KQ (K:=K) (@Ay _ _ _ _ _ _ _ ["entry"] 1 [] _ _ _ _ rfl (Az (K:=K) (vv 2)) (by kernel_rfl) rfl rfl (by kernel_rfl) (fun c=>AN (i:=0) (show(["entry"]:List Str).Nodup by decide +kernel) rfl (by right)) (Aj (by decide)) (fun c=>A0) (fun c=>(kIx (K:=K) (vv 0) AC)) (by intro _;rfl)) T.z_max rfl) (vv 1)) (CV (TH (U3 T.mk_Bearing G_z20 hr1_z20 rfl T.mC_Bearing T.b_z20 .nil AG (AA (vv 0) (AA (vv 2) AB))) T.cl_Bearing T.me_z14 G_z14 hr_z14 T.b_z14 .nil AG)))))),?_⟩;refine AJ (fun σ H'=>σ=[some u,some (.int z),some v]/\Same H H'/\∃es:Aw,d=.tup (es.map AL)/\∀e∈es,Co ls e) ?_ ?_ (by walk_at "sm")
 ·refine⟨by decide,d,hd,?_⟩;cases d with
  | tup ds =>
   obtain⟨p,xs,rfl,hp,hx⟩:=Bg hd;have hlen:=hx.length;have hdl:=ZP (DT ds) (show AV ds<=100000 from by unfold AY at hbk;exact hbk);have hsl:sizeLine=16777216:=by decide
   refine .inr ⟨⟨_,hp⟩,?_⟩;refine Bk (xs:=xs) (fun j zs H'=>∃bs:List Bool,zs=bs.map V.bl/\bs.length=j/\Same H H'/\∀(t:Nat) (dj:Dw),t < j->ds[t]? = some dj->(bs[t]? = some true ↔ ∃e,dj=AL e/\Co ls e)) ⟨[],rfl,rfl,Same.refl _,fun t dj h=>absurd h (ZBN _)⟩ (fun j zs H' _ ⟨_,_,_,s1,_⟩=>s1.sqT hp) (fun j zs H' hj ⟨bs,e,e2,_⟩=>by rw[e,ZC,e2];lia) ?_ ?_
   ·rintro j x zs H1 hxj ⟨bs,rfl,hbl,s1,hh⟩;have hj:j < ds.length:=by rw[hlen];exact(Zb.mp hxj).1
    have ed:ds[j]? = some ds[j]:=ZE hj;obtain⟨x',ex,rx⟩:=hx.get ed;rw[hxj]at ex;cases ex;refine⟨ls,rs,ds[j],hg.same s1,G,RepW.same s1 _ _ rx,fun b H2 hb s2=>?_⟩;refine⟨bs++[b],by rw[ZK];rfl,by rw[ZG,hbl];rfl,s1.trans s2,fun t dj ht hdj=>?_⟩
    rcases Zs t j with a | a
    ·rw[ZBb (by lia)];exact hh t dj a hdj
    ·have:t=j:=by lia
     subst this;rw[ed]at hdj;cases hdj;rw[ZBA (by lia),hbl,Nat.sub_self];rw[<- hb];simp
   ·rintro zs H1 ⟨bs,rfl,hbl,s1,hh⟩ l nl;have s2:=s1.trans (Same.upd (o:=.lst (bs.map V.bl)) nl);refine⟨bs,.of AD,?_⟩;cases hb:bs.all id with
    | true =>
     have hall:=ZBC.mp hb
     obtain⟨es,h1,h2⟩:=Jw (P':=Co ls) (ds:=ds) fun dj hdj=>by
      obtain⟨t,ht,rfl⟩:=Z8 hdj;refine(hh t _ (by lia) (ZE ht)).mp ?_;rw[ZE (show t < bs.length by lia)];exact congrArg some (hall _ (Zc _))
     exact⟨rfl,s2,es,by rw[h1],h2⟩
    | false =>
     refine q false _ ⟨(fun z=>nomatch z),fun⟨es,e,h1,_⟩=>?_⟩ s2
     have:bs.all id=true:=by
      rw[ZBC];intro b hb';obtain⟨t,ht,rfl⟩:=Z8 hb';have htd:t < ds.length:=by lia
      have hds:ds=es.map AL:=by injection e
      have hte:t < es.length:=by rw[hds,ZC]at htd;exact htd
      have:=(hh t ds[t] (by lia) (ZE htd)).mpr ⟨es[t],by simp only[hds,List.getElem_map],h1 _ (Zc _)⟩
      rw[ZE ht]at this;exact ZW this
     rw[hb]at this;cases this
  | _=>exact q false H ⟨(fun z=>nomatch z),fun⟨es,e,_⟩=>nomatch e⟩ (Same.refl _)
 rintro σ H1 ⟨rfl,s1,es,rfl,hes⟩;obtain⟨ua,xs,rfl,E1⟩:=Hf (RepW.same s1 _ _ hd)
 have hel:es.length<=100000:=by
  have h1:=DT (es.map AL);have h2:AV (es.map AL)<=100000:=by unfold AY at hbk;exact hbk
  rw[ZC]at h1;lia
 have hsl:sizeLine=16777216:=by decide
 have hxl:=E1.len
 have hz:∀M:Int,(es.map (·.2)=[]->M=0)->(es.map (·.2)≠[]->M∈es.map (·.2)/\∀a∈es.map (·.2),a<=M)->(z<=M ↔ z<=0\/∃e∈es,z<=e.2):=by
  intro M m0 m1
  by_cases e:es.map (·.2)=[]
  ·rw[m0 e]
   have:es=[]:=List.map_eq_nil_iff.mp e
   subst this;simp
  ·obtain⟨a1,a2⟩:=m1 e;obtain⟨x,hx,rfl⟩:=ZT.mp a1;constructor
   ·intro h;exact .inr ⟨x,hx,h⟩
   ·rintro(h | ⟨y,hy,h⟩)
    ·have:=(hes x hx).1.one;lia
    ·have:=a2 _ (ZT.mpr ⟨y,hy,rfl⟩);lia
 refine .inr ⟨⟨_,E1.sq⟩,?_⟩;refine Bk (xs:=xs) (fun j zs H'=>H'=H1/\zs=((es.take j).map (·.2)).map V.int) ⟨rfl,rfl⟩ (fun j zs H' _ ⟨e,_⟩=>by rw[e];exact E1.sq) (fun j zs H' hj ⟨_,e⟩=>by rw[e,ZC,ZC,ZV];lia) ?_ ?_
 ·rintro j x zs H2 hxj ⟨rfl,rfl⟩;have hj:j < es.length:=by rw[<- hxl];exact(Zb.mp hxj).1
  have ee:es[j]? = some es[j]:=ZE hj;obtain⟨x',ex,b,c,rfl,hb,hc⟩:=E1.at_ j _ ee;rw[hxj]at ex;cases ex;refine⟨_,_,.inr hb,Aq (n:=1) rfl rfl,rfl,?_⟩;rw[Zi,ee,ZK,ZK];rfl
 rintro zs H2 ⟨rfl,rfl⟩ l nl;rw[hxl,Zm];have s2:=Same.upd (o:=.lst ((es.map (·.2)).map V.int)) nl;have g2:=AD (H:=H2) (a:=l) (o:=.lst ((es.map (·.2)).map V.int));generalize upd H2 l (.lst ((es.map (·.2)).map V.int))=H3 at *;refine⟨l,_,rfl,.of g2,fun M m0 m1=>?_⟩;have hzM:=hz M m0 m1;have S3:=s1.trans s2;refine Ab (fun y=>?_) (fun y=>?_)
 ·have y:z<=M:=ZN y;intro x dx hx hdx hne
  have s4:Same H3 (upd (upd H3 dx (.own x)) x (.ins T.C_Bearing dx [])):=(Same.upd (o:=.own x) hdx).trans (fun b o e=>by
   have:b≠x:=fun z=>by
    rw[z,AM (Ne.symm hne),hx]at e;cases e
   rw[AM this];exact e)
  have hx4:upd (upd H3 dx (.own x)) x (.ins T.C_Bearing dx []) x=some (.ins T.C_Bearing dx []):=AD;generalize upd (upd H3 dx (.own x)) x (.ins T.C_Bearing dx [])=H4 at *;have S4:=S3.trans s4;refine⟨ls,rs,dx,es,hx4,hg.same S4,G,RepW.same S4 _ _ hd,fun e he=>(hes e he).1,hel,fun kvs nd fd H5 hn hf nnp nfp N R f5=>⟨rfl,?_⟩⟩;obtain⟨dx5,yl5,fvs5,k1,_⟩:=id R.at_;have hb:=UD (fun e he=>(hes e he).1) N G;refine⟨x,dx5,_,rfl,k1,nb4 _ _ _,ls.length,rs.map Bd,kvs,nd,fd,R,fun b H6 hb6 kp6=>q b H6 ?_ ?_⟩
  ·rw[hb6,hb];constructor
   ·intro h;exact⟨es,rfl,hes,hzM.mp y,h⟩
   ·rintro⟨es',e,_,_,h⟩;have e:es.map AL=es'.map AL:=by injection e
    have:es=es':=(List.map_inj_right fun a b h=>EH h).mp e
    rw[this];exact h
  ·intro b o e;have e4:=S4 b o e;have e5:=f5 b o (fun z=>by rw[z]at e;have:=S3 _ _ e;rw[hx]at this;cases this) e4;refine kp6.1 b o (fun z=>?_) (fun z=>?_) e5
   ·rw[z,hn]at e4;cases e4
   ·rw[z,hf]at e4;cases e4
 ·refine q false _ ⟨(fun z=>nomatch z),fun⟨es',e,_,h,_⟩=>?_⟩ S3;have e:es.map AL=es'.map AL:=by injection e
  have:es=es':=(List.map_inj_right fun a b h=>EH h).mp e
  subst this;exact absurd (ZM (hzM.mpr h)) y
theorem KW:FnOk P w K mg base CX0 1 T.f_z15 T.d_z15 ["_law_thing"] (Bp K Bw):=by
 refine T.F_z15.ok TM (fun vs H Q E h=>by unfold Bp at h;split at h <;> first | rfl | exact h.elim) (fun cdv A outer s H vs Q E hr h=>?_);have hu:=Ag hr;unfold Bp at h;split at h;rotate_left
 ·exact h.elim
 rename_i v;obtain⟨d,hd,q⟩:=h;refine⟨_,(@AF _ _ _ (@AK _ _ _ _ (Cn (AT (BX (K:=K)) rfl T.z_isinstance (by rfl) (AA (vv 0) (AA (BU (v:=.ty "int") rfl T.z_int (by rfl) rfl) AB))) (CV (Er (AT (BX (K:=K)) rfl T.z_isinstance (by rfl) (AA (vv 0) (AA (BU (v:=.ty "bool") rfl T.z_bool (by rfl) rfl) AB)))))))),?_⟩;refine⟨by decide,d,hd,?_⟩;refine Ab (fun e=>⟨by decide,d,hd,?_⟩) (fun e=>?_)
 ·have:Bw d = !BG (tyW d) "bool":=by
   revert e;cases d <;> intro e <;> first | rfl | (simp[BG,tyW]at e;done)
  rw[this]at q;exact q
 ·have:Bw d=false:=by
   revert e;cases d <;> intro e <;> first | rfl | exact absurd (show BG _ _=true by simp[BG,tyW]) e
  rw[this]at q;exact q
def Dg(K:W.Frag):Sp:=fun vs H Q _=>match vs with
 | [u,v]=>∃ls rs d,Rep K H (gmD ls rs) u/\Gm ls rs/\RepW K H d v/\AY d<=100000/\∀b:Bool,(b=true ↔ ThW ls.length d)->Q (.bl b) H
 | _=>False
theorem NI:AQ (Dg K):=fun vs H Q Q' E h q=>by
 unfold Dg at *;split at q
 ·revert q;repeat' first | exact h _ _ | exact A4 h | exact out_mono h | exact outT_mono h | walk_at "m"
 ·exact q.elim
theorem Ee{ds:List Dw}{ts':List Nat}{j:Nat}{dj:Dw}(e:ds=ts'.map fun(t:Nat)=>Dw.int (t:Int))(ed:ds[j]? = some dj):∃k,ts'[j]? = some k/\dj=.int (k:Int):=by
 subst e;rw[ZX]at ed;cases ek:ts'[j]? with
 | none=>rw[ek]at ed;cases ed
 | some k=>rw[ek]at ed;cases ed;exact⟨k,rfl,rfl⟩
theorem N7:FnOk P w K mg base CX0 2 T.f_z19 T.d_z19 ["_law_game_here","_law_thing"] (Dg K):=by
 have G_z15:=@KW P w K mg base T;refine T.F_z19.ok sc_z19 (fun vs H Q E h=>by unfold Dg at h;split at h <;> first | rfl | exact h.elim) (fun cdv A outer s H vs Q E hr h=>?_);have hu:=Ag hr;have hr_z15:=hr.mono (show 1<=_ by decide);have mo1:AQ (Bp K Bw):=FB;unfold Dg at h;split at h;rotate_left
 ·exact h.elim
 rename_i u v;obtain⟨ls,rs,d,hg,G,hd,hbk,q⟩:=h;obtain⟨a,tl,rl,ps,rfl,g⟩:=Bh hg;refine⟨_,(@AE _ _ _ _ _ (@Ai _ _ _ _ _ _ _ _ (BQ (A7 (AT (BX (K:=K)) rfl T.z_isinstance (by rfl) (AA (vv 1) (AA (BU (v:=.ty "tuple") rfl T.z_tuple (by rfl) rfl) AB))))) (@AF _ _ _ (@AK _ _ _ _ A5)) Ah) (@AE _ _ _ _ _ (@BF _ _ _ _ _ _ _ _ PassesOwn.never rfl (BA rfl T.z_range (AA (AT (Av (K:=K)) rfl T.z_len (by rfl) (AA (vv 1) AB)) AB)) (AN (i:=2) sc_z19.nd rfl (by right)) (@AE _ _ _ _ _ (@Ai _ _ _ _ _ _ _ _ (PW.pt (Bz (BQ (A7 (AH G_z15 hr_z15 rfl T.m_z15 T.F_z15.kp T.b_z15 .nil AG (AA (kIx (K:=K) (vv 1) (vv 2)) AB)))) (Bz (AX B9 (kIx (K:=K) (vv 1) (vv 2)) AC) (Cz (AX Ch (kIx (K:=K) (vv 1) (vv 2)) (AT (Av (K:=K)) rfl T.z_len (by rfl) (AA (kIx (K:=K) (vv 0) AC) AB))))))) (@AF _ _ _ (@AK _ _ _ _ A5)) Ah) (@AF _ _ _ (@Ai _ _ _ _ _ _ _ _ (PW.pt (Ct (AX Cg (vv 2) AC) (C2 (AX HC (kIx (K:=K) (vv 1) (vv 2)) (kIx (K:=K) (vv 1) (AI CS (vv 2) AC)))))) (@AF _ _ _ (@AK _ _ _ _ A5)) Ah))) (by intro _;rfl)) (@AF _ _ _ (@AK _ _ _ _ A5)))),?_⟩;refine AJ (fun σ H'=>(∃z2:Option V,σ=[some (.ref a),some v,z2])/\H=H'/\∃ds,d=.tup ds) ?_ ?_ (by walk_at "sm")
 ·refine⟨by decide,d,hd,?_⟩;cases d with
  | tup ds=>exact⟨⟨_,rfl⟩,rfl,ds,rfl⟩
  | _=>exact q false ⟨(fun z=>nomatch z),fun⟨ts,e,_⟩=>nomatch e⟩
 rintro σ _ ⟨⟨z2,rfl⟩,rfl,ds,rfl⟩;obtain⟨p,xs,rfl,hp,hx⟩:=Bg hd;have hlen:=hx.length;have hdl:=ZP (DT ds) (show AV ds<=100000 from by unfold AY at hbk;exact hbk);refine AJ (fun σ H'=>H=H'/\ThW ls.length (.tup ds)) ?_ (fun σ H' ⟨e,h⟩=>by subst e;exact q true ⟨fun _=>h,fun _=>rfl⟩) (by walk_at "sm");refine⟨xs.length,.inr ⟨_,hp,rfl⟩,xs.length,rfl,by lia,ZBP (show(xs.length:Int)<=100000 by lia) (by decide),?_⟩;rw[ZY];refine B8 (fun j σ H'=>∃(ts:List Nat) (z2:Option V),σ=[some (.ref a),some (.ref p),z2]/\H=H'/\ds.take j=(ts.map fun(t:Nat)=>Dw.int (t:Int))/\ts.length=j/\ts.Pairwise (· < ·)/\(∀t∈ts,t < ls.length)) ⟨[],_,rfl,rfl,rfl,rfl,by simp,(fun t ht=>by cases ht)⟩ ?_ ?_
 ·rintro j σ H1 hj ⟨ts,z2,rfl,rfl,htk,htl,hup,hlt⟩;have hjd:j < ds.length:=by lia
  have ed:ds[j]? = some ds[j]:=ZE hjd;obtain⟨x,hxj,rx⟩:=hx.get ed;have htk1:ds.take (j+1)=(ts.map fun(t:Nat)=>Dw.int (t:Int))++[ds[j]]:=by rw[Zi,ed,htk];rfl
  generalize ds[j]=dj at *;have hat:atI xs (0+(j:Int))=some x:=by rw[Int.zero_add];exact Aq rfl hxj
  dsimp only[Ae];refine AJ (fun σ H'=>σ=[some (.ref a),some (.ref p),some (.int (0+(j:Int)))]/\H=H'/\∃k:Nat,k < ls.length/\dj=.int (k:Int)/\x=.int (k:Int)) ?_ ?_ (by walk_at "sm")
  ·refine⟨_,x,.inr hp,hat,dj,rx,?_⟩;cases hw:Bw dj with
   | false=>exact q false ⟨(fun z=>nomatch z),fun⟨ts',e,_⟩=>by
    obtain⟨k,_,rfl⟩:=Ee (show ds=_ by injection e) ed;cases hw⟩
   | true =>
    obtain⟨i,rfl⟩:=Ir hw;unfold RepW at rx;subst rx;refine⟨_,_,.inr hp,hat,?_⟩;refine Ab (fun z=>?_) (fun z=>?_)
    ·have z:i < 0:=ZN z
     exact q false ⟨(fun z=>nomatch z),fun⟨ts',e,_⟩=>by
      obtain⟨k,_,e2⟩:=Ee (show ds=_ by injection e) ed;injection e2 with e2
      lia⟩
    have z:¬i < 0:=fun y=>z (ZM y)
    refine⟨_,_,.inr hp,hat,_,.ref tl,.inr g.two,rfl,ls.length,.inr ⟨_,g.lab,by rw[ZC]⟩,?_⟩;refine Ab (fun y=>?_) (fun y=>?_)
    ·have y:(ls.length:Int)<=i:=ZN y
     exact q false ⟨(fun z=>nomatch z),fun⟨ts',e,_,h2⟩=>by
      obtain⟨k,hk,e2⟩:=Ee (show ds=_ by injection e) ed;injection e2 with e2
      have:=h2 k (Zw hk)
      lia⟩
    have y:¬(ls.length:Int)<=i:=fun x=>y (ZM x)
    obtain⟨k,rfl⟩:=ZBO (show 0<=i by lia);exact⟨rfl,rfl,k,by lia,rfl,rfl⟩
  rintro σ _ ⟨rfl,rfl,k,hk,rfl,rfl⟩
  have next:(∀t∈ts,t < k)->∃(ts:List Nat) (z2:Option V),[some (V.ref a),some (V.ref p),some (V.int (0+(j:Int)))]=[some (.ref a),some (.ref p),z2]/\H=H/\ds.take (j+1)=(ts.map fun(t:Nat)=>Dw.int (t:Int))/\ts.length=j+1/\ts.Pairwise (· < ·)/\(∀t∈ts,t < ls.length):=fun h=>by
   refine⟨ts++[k],_,rfl,rfl,by rw[htk1,ZK];rfl,by rw[ZG,htl];rfl,Ih hup h,fun t ht=>?_⟩
   rcases ZH.mp ht with y | y
   ·exact hlt t y
   ·rw[ZO]at y;lia
  refine Ab (fun z=>?_) (fun z=>?_)
  ·have z:(0:Int) < 0+(j:Int):=ZN z;obtain⟨j',rfl⟩:∃j',j=j'+1:=⟨j - 1,by lia⟩;have hj':j' < ts.length:=by lia
   have e1:ds[j']? = some (.int (ts[j']:Int)):=by
    rw[<- List.getElem?_take_of_lt (show j' < j'+1 by lia),htk,ZX,ZE hj'];rfl
   obtain⟨x',hx',rx'⟩:=hx.get e1;unfold RepW at rx';subst rx';refine⟨_,_,.inr hp,hat,_,_,.inr hp,(show atI xs (0+((j'+1:Nat):Int) - 1)=some (.int (ts[j']:Int)) by rw[show(0+((j'+1:Nat):Int) - 1)=((j':Nat):Int) by lia];exact Aq rfl hx'),?_⟩
   have hlast:∀t∈ts,t<=ts[j']:=fun t ht=>by
    obtain⟨i,hi,rfl⟩:=Z8 ht
    rcases Zs i j' with c | c
    ·exact Zp (ZB9.mp hup i j' hi hj' c)
    ·have:i=j':=by lia
     subst this;exact ZD _
   refine Ab (fun y=>?_) (fun y=>?_)
   ·have y:(k:Int)<=(ts[j']:Int):=ZN y
    exact q false ⟨(fun z=>nomatch z),fun⟨ts',e,h1,_⟩=>by
     have hds:ds=(ts'.map fun(t:Nat)=>Dw.int (t:Int)):=by injection e
     obtain⟨k',hk',e2⟩:=Ee hds ed;obtain⟨m',hm',e3⟩:=Ee hds e1;injection e2 with e2
     injection e3 with e3
     obtain⟨i1,i2⟩:=Zb.mp hm';obtain⟨j1,j2⟩:=Zb.mp hk'
     have:=ZB9.mp h1 j' (j'+1) i1 j1 (by lia)
     rw[i2,j2]at this;lia⟩
   ·have y:¬(k:Int)<=(ts[j']:Int):=fun x=>y (ZM x)
    exact next fun t ht=>by have:=hlast t ht;lia
  ·have z:¬(0:Int) < 0+(j:Int):=fun y=>z (ZM y)
   have:ts=[]:=ZBl.mp (by lia)
   exact next fun t ht=>by rw[this]at ht;cases ht
 ·rintro σ H1 ⟨ts,z2,rfl,rfl,htk,htl,hup,hlt⟩;rw[<- hlen,Zm]at htk;exact⟨rfl,ts,by rw[htk],hup,hlt⟩
theorem S9(k:Nat):∀ts:List Nat,inV (.int (k:Int)) (iL ts)=decide (k∈ts):=by
 intro ts
 induction ts with
 | nil=>rfl
 | cons t ts ih =>
  have e:inV (.int (k:Int)) (iL (t::ts))=(((t:Int) == (k:Int)) || inV (.int (k:Int)) (iL ts)):=rfl;rw[e,ih,ZBD];simp only[Bool.or_eq_true,beq_iff_eq,decide_eq_true_iff,ZF];constructor
  ·rintro(h | h)
   ·exact .inl (by lia)
   ·exact .inr h
  ·rintro(h | h)
   ·exact .inl (by lia)
   ·exact .inr h
theorem LS:∀ts:List Nat,(iL ts).all B6=true
 | []=>rfl
 | t::ts=>by show(true && (iL ts).all B6)=true;rw[LS ts];rfl
theorem Kv{H:Hp}{p:Addr}{xs:List V}{ds:List Dv}(h:H p=some (.lst xs))(r:Reps K H ds xs):Rep K H (.lst ds) (.ref p):=by unfold Rep;exact⟨p,xs,rfl,.of h,r⟩
theorem Pj(ts:List Nat):eqD (.lst (iD ts)) (.lst [])=decide (ts=[]):=by
 rw[EI];cases ts with
 | nil=>rfl
 | cons t ts=>rfl
def Dm(K:W.Frag):Sp:=fun vs H Q _=>match vs with
 | [u,.ref ua,.ref tp,.int num,.int qz]=>∃ls rs es xs ts j r,Rep K H (gmD ls rs) u/\Gm ls rs/\EntsAt K H es ua xs/\(∀e∈es,e.1.length<=100)/\SqT K H tp (iL ts)/\ts.length<=100/\(∀t∈ts,t < ls.length)/\qz=(j:Nat)/\rs[j]? = some r/\∀(b:Bool) H',(b=true ↔ ∃ans:Bool,∃e'∈es,num - 1<=e'.2/\∀t∈e'.1,t∈ts/\gB r t=ans)->Same H H'->Q (.bl b) H'
 | _=>False
theorem OG:AQ (Dm K):=fun vs H Q Q' E h q=>by
 unfold Dm at *;split at q
 ·revert q;repeat' first | exact h _ _ | exact A4 h | exact out_mono h | exact outT_mono h | walk_at "m"
 ·exact q.elim
theorem QD:FnOk P w K mg base CX0 2 T.f_z25 T.d_z25 ["_law_game_here","_law_paper_here","_law_things","_law_number","_law_question"] (Dm K):=by
 have G_z33:=@Fx P w K mg base T;refine T.F_z25.ok sc_z25 (fun vs H Q E h=>by unfold Dm at h;split at h <;> first | rfl | exact h.elim) (fun cdv A outer s H vs Q E hr h=>?_);have hu:=Ag hr;have hr_z33:=hr.mono (show 1<=_ by decide);have mo1:AQ (Cm K):=GM;unfold Dm at h;split at h;rotate_left
 ·exact h.elim
 rename_i u ua tp num qz;obtain⟨ls,rs,es,xs,ts,j,r,hg,G,E0',hel,htp,htl,htn,e1,hr0,q⟩:=h;subst e1;refine⟨_,(@AE _ _ _ _ _ (@BF _ _ _ _ _ _ _ _ PassesOwn.never rfl (Az (K:=K) (AH G_z33 hr_z33 rfl T.m_z33 T.F_z33.kp T.b_z33 .nil AG (AA (vv 0) (AA (vv 2) (AA (vv 4) AB))))) (AN (i:=5) sc_z25.nd rfl (by right)) (@AF _ _ _ (@BF _ _ _ _ _ _ _ _ PassesOwn.never rfl (Az (K:=K) (vv 1)) (Fe (K:=K) (n:=2) rfl (B2 (AN (i:=6) sc_z25.nd rfl (by right)) (B2 (AN (i:=7) sc_z25.nd rfl (by right)) Df))) (@AF _ _ _ (@Ai _ _ _ _ _ _ _ _ (PW.pt (Ct (AX Ch (vv 7) (AI CS (vv 3) AC)) (C2 (AX (kEq (K:=K) hu) (Ay (N':=["_law_k","_law_side"]) (own:=1) (ix:=[5]) rfl (Az (K:=K) (vv 6)) (by kernel_rfl) rfl rfl (by kernel_rfl) (fun c=>AN (i:=0) (show(["_law_k","_law_side"]:List Str).Nodup by decide +kernel) rfl (by right)) (Aj (by decide)) (fun c=>Cv (AX (NU (K:=K)) (vv 0) (vv 1))) (fun c=>(vv 0))) (A2 AB))))) (@AF _ _ _ (@AK _ _ _ _ A5)) Ah)) (by intro _;rfl))) (by intro _;rfl)) (@AF _ _ _ (@AK _ _ _ _ A5))),?_⟩;let bad:Bool->Prop:=fun ans=>∀e'∈es,¬(num - 1<=e'.2/\∀t∈e'.1,t∈ts/\gB r t=ans)
 refine AJ (fun σ H'=>Same H H'/\bad false/\bad true) ?_ (fun σ H' ⟨s,b1,b2⟩=>q false H' ⟨(fun z=>nomatch z),fun⟨ans,e',he',h⟩=>by cases ans;exact(b1 e' he' h).elim;exact(b2 e' he' h).elim⟩ s) (by walk_at "sm");refine⟨ls,rs,ts,j,r,hg,G,htp,htl,htn,rfl,hr0,fun l pn py H1 nl s1 gl gn gy=>.inl ⟨⟨_,.of gl⟩,?_⟩⟩;refine Fp (xs:=[.ref pn,.ref py]) (fun i σ H'=>(∃z5 z6 z7:Option V,σ=[some u,some (.ref ua),some (.ref tp),some (.int num),some (.int (j:Nat)),z5,z6,z7])/\Same H1 H'/\(0 < i->bad false)/\(1 < i->bad true)) ⟨⟨_,_,_,rfl⟩,Same.refl _,fun h=>absurd h (ZZ _),fun h=>absurd h (by decide)⟩ (fun i σ H' _ ⟨_,s,_⟩=>.inl (.of (s _ _ gl))) ?_ (fun σ H' ⟨_,s,h1,h2⟩=>⟨s1.trans s,h1 (show 0 < 2 by decide),h2 (show 1 < 2 by decide)⟩);rintro i x σ H2 hx ⟨⟨z5,z6,z7,rfl⟩,s2,b1,b2⟩
 obtain⟨ans,ps,rfl,hps,hi⟩:∃(ans:Bool) (ps:Addr),x=.ref ps/\H1 ps=some (.tup (iL (AR r ans ts)))/\((i=0/\ans=false)\/(i=1/\ans=true)):=by
  match i,hx with
  | 0,hx=>cases hx;exact⟨false,pn,rfl,gn,.inl ⟨rfl,rfl⟩⟩
  | 1,hx=>cases hx;exact⟨true,py,rfl,gy,.inr ⟨rfl,rfl⟩⟩
  | i+2,hx=>simp at hx
 have E2:=(E0'.same s1).same s2;refine .inr ⟨⟨_,E2.sq⟩,?_⟩;refine D7 (xs:=xs) (fun jj σ H'=>(∃z6 z7:Option V,σ=[some u,some (.ref ua),some (.ref tp),some (.int num),some (.int (j:Nat)),some (.ref ps),z6,z7])/\Same H2 H'/\∀e'∈es.take jj,¬(num - 1<=e'.2/\∀t∈e'.1,t∈ts/\gB r t=ans)) ⟨⟨_,_,rfl⟩,Same.refl _,fun e' he'=>by rw[ZB2]at he';cases he'⟩ (fun jj σ H' _ ⟨_,s,_⟩=>s.sqT E2.sq) ?_ ?_
 ·rintro jj x σ H3 hxj ⟨⟨z6,z7,rfl⟩,s3,b3⟩;have hj:jj < es.length:=by rw[<- E2.len];exact(Zb.mp hxj).1
  have ee:es[jj]? = some es[jj]:=ZE hj;have hel':=hel _ (Zc hj);have hmem:es[jj]∈es:=Zc hj;obtain⟨x',ex,b,c,rfl,hb,hc⟩:=(E2.same s3).at_ jj _ ee;rw[hxj]at ex;cases ex;generalize es[jj]=e at *;have hps3:=s3 _ _ (s2 _ _ hps);have S3:=s1.trans (s2.trans s3);refine⟨_,.inr hb,rfl,_,_,rfl,_,_,rfl,rfl,?_⟩
  have step:∀H4,¬(num - 1<=e.2/\∀t∈e.1,t∈ts/\gB r t=ans)->Same H3 H4->(∃z6 z7:Option V,[some u,some (V.ref ua),some (V.ref tp),some (V.int num),some (V.int (j:Nat)),some (V.ref ps),some (V.ref c),some (V.int e.2)]=[some u,some (.ref ua),some (.ref tp),some (.int num),some (.int (j:Nat)),some (.ref ps),z6,z7])/\Same H2 H4/\∀e'∈es.take (jj+1),¬(num - 1<=e'.2/\∀t∈e'.1,t∈ts/\gB r t=ans):=fun H4 hn s4=>by
   refine⟨⟨_,_,rfl⟩,s3.trans s4,fun e' he'=>?_⟩;rw[Zi,ee]at he'
   rcases ZH.mp he' with y | y
   ·exact b3 e' y
   ·have:e'=e:=by simpa using y
    rw[this];exact hn
  refine Ab (fun z=>?_) (fun z=>?_)
  ·have z:num - 1<=e.2:=ZN z;refine .inr ⟨⟨_,hc⟩,?_⟩
   refine Bk (xs:=iL e.1) (fun t zs H'=>H'=H3/\zs=iL ((e.1.take t).filter fun k=>decide (k∉AR r ans ts))) ⟨rfl,rfl⟩ (fun t zs H' _ ⟨e,_⟩=>by rw[e];exact hc) (fun t zs H' ht ⟨_,e'⟩=>by
    rw[Ax]at ht;rw[e',Ax];exact ZBe (ZBu _ _) (by rw[ZV];exact Ak (by lia))) ?_ ?_
   ·rintro t x zs H' hx ⟨rfl,rfl⟩;obtain⟨k,hk,_,rfl⟩:=Cy hx;refine⟨_,.inr (.of hps3),rfl,LS _,?_⟩;rw[Zi,hk,ZB1]
    have e2:(true ^^ inV (.int (k:Int)) (iL (AR r ans ts)))=decide (k∉AR r ans ts):=by
     rw[S9,ZBy]
     by_cases y:k∈AR r ans ts <;> simp[y]
    show if (true ^^ inV (.int (k:Int)) (iL (AR r ans ts)))=true then _ else _
    rw[e2];refine Ab (fun h=>?_) (fun h=>?_)
    ·refine⟨rfl,?_⟩;show _=iL (_++List.filter _ [k]);rw[ZBI,if_pos h,ZB4,DG];rfl
    ·refine⟨rfl,?_⟩;show _=iL (_++List.filter _ [k]);rw[ZBI,if_neg h,ZB4,Z4]
   ·rintro zs H' ⟨rfl,rfl⟩ l4 nl4;rw[Ax,Zm];refine⟨smq rfl,fun l5 nl5=>?_⟩;have s4:=Same.upd (o:=.lst (iL (e.1.filter fun k=>decide (k∉AR r ans ts)))) nl4;have s5:=Same.upd (o:=.lst []) nl5;refine⟨.lst (iD (e.1.filter fun k=>decide (k∉AR r ans ts))),.lst [],Kv (s5 _ _ AD) (DK _),Kv AD Am,by unfold An;rw[Dh];decide,?_⟩;rw[Pj]
    have key:(e.1.filter fun k=>decide (k∉AR r ans ts))=[] ↔ ∀t∈e.1,t∈ts/\gB r t=ans:=by
     rw[List.filter_eq_nil_iff];constructor
     ·intro h t ht;exact mem_lefts.mp (by simpa using h t ht)
     ·intro h t ht;simpa using mem_lefts.mpr (h t ht)
    generalize (e.1.filter fun k=>decide (k∉AR r ans ts))=fs at *
    by_cases y:fs=[]
    ·rw[ZM y];exact q true _ ⟨fun _=>⟨ans,e,hmem,z,key.mp y⟩,fun _=>rfl⟩ (S3.trans (s4.trans s5))
    ·rw[Zu y];exact step _ (fun h=>y (key.mpr h.2)) (s4.trans s5)
  ·exact step _ (fun h=>z (ZM h.1)) (Same.refl _)
 ·rintro σ H3 ⟨⟨z6,z7,rfl⟩,s3,b3⟩;rw[E2.len,Zm]at b3;refine⟨⟨_,_,_,rfl⟩,s2.trans s3,fun h=>?_,fun h=>?_⟩
  ·rcases hi with ⟨rfl,rfl⟩ | ⟨rfl,rfl⟩
   ·exact b3
   ·exact b1 (by decide)
  ·rcases hi with ⟨rfl,rfl⟩ | ⟨rfl,rfl⟩
   ·exact absurd h (by decide)
   ·exact b3
theorem Gf{d:Dw}:∀{ds:List Dw},d∈ds->AY d+1<=AV ds
 | x::ds,h=>by
  unfold AV
  rcases ZF.mp h with rfl | h
  ·lia
  ·have:=Gf h;lia
def DV(K:W.Frag):Sp:=fun vs H Q _=>match vs with
 | [u,.int z,v]=>∃ls rs d,Rep K H (gmD ls rs) u/\Gm ls rs/\RepW K H d v/\AY d<=100000/\0<=z/\∀(b:Bool) H',(b=true ↔ MB ls rs z d)->Same H H'->Q (.bl b) H'
 | _=>False
theorem Tf:AQ (DV K):=fun vs H Q Q' E h q=>by
 unfold DV at *;split at q
 ·revert q;repeat' first | exact h _ _ | exact A4 h | exact out_mono h | exact outT_mono h | walk_at "m"
 ·exact q.elim
theorem UQ:FnOk P w K mg base CX0 3 T.f_z38 T.d_z38 ["_law_game_here","_law_d","_law_paper_here"] (DV K):=by
 have G_z19:=@N7 P w K mg base T;have G_z15:=@KW P w K mg base T;have G_z25:=@QD P w K mg base T;refine T.F_z38.ok sc_z38 (fun vs H Q E h=>by unfold DV at h;split at h <;> first | rfl | exact h.elim) (fun cdv A outer s H vs Q E hr h=>?_);have hu:=Ag hr;have hr_z19:=hr.mono (show 2<=_ by decide);have hr_z15:=hr.mono (show 1<=_ by decide);have hr_z25:=hr.mono (show 2<=_ by decide);have mo1:AQ (Dg K):=NI;have mo2:AQ (Bp K Bw):=FB;have mo3:AQ (Dm K):=OG;unfold DV at h;split at h;rotate_left
 ·exact h.elim
 rename_i u z v;obtain⟨ls,rs,d,hg,G,hd,hbk,hz0,q⟩:=h;have l16:=G.l16;have r16:=G.r16;refine⟨_,(@AE _ _ _ _ _ (@Ai _ _ _ _ _ _ _ _ (BQ (A7 (AT (BX (K:=K)) rfl T.z_isinstance (by rfl) (AA (vv 2) (AA (BU (v:=.ty "tuple") rfl T.z_tuple (by rfl) rfl) AB))))) (@AF _ _ _ (@AK _ _ _ _ A5)) Ah) (@AE _ _ _ _ _ (@BF _ _ _ _ _ _ _ _ PassesOwn.never rfl (Az (K:=K) (vv 2)) (AN (i:=3) sc_z38.nd rfl (by right)) (@AE _ _ _ _ _ (@Ai _ _ _ _ _ _ _ _ (PW.pt (Bz (BQ (A7 (AT (BX (K:=K)) rfl T.z_isinstance (by rfl) (AA (vv 3) (AA (BU (v:=.ty "tuple") rfl T.z_tuple (by rfl) rfl) AB))))) (Bz (AX (kNe (K:=K) hu) (AT (Av (K:=K)) rfl T.z_len (by rfl) (AA (vv 3) AB)) AC) (Cz (BQ (A7 (AH G_z19 hr_z19 rfl T.m_z19 T.F_z19.kp T.b_z19 .nil AG (AA (vv 0) (AA (kIx (K:=K) (vv 3) AC) AB))))))))) (@AF _ _ _ (@AK _ _ _ _ A5)) Ah) (@AF _ _ _ (@Ai _ _ _ _ _ _ _ _ (PW.pt (Bz (BQ (A7 (AH G_z15 hr_z15 rfl T.m_z15 T.F_z15.kp T.b_z15 .nil AG (AA (kIx (K:=K) (vv 3) AC) AB)))) (Bz (AX B9 (kIx (K:=K) (vv 3) AC) AC) (Cz (AX B9 (AT GX rfl T.z_len (by rfl) (AA (Af (Ic (K:=K) rfl) rfl T.z_set (by rfl) (AA (Ay (N':=["_law_k","_law_game_here"]) (own:=1) (ix:=[0]) rfl (Az (K:=K) (kIx (K:=K) (vv 3) AC)) (by kernel_rfl) rfl rfl (by kernel_rfl) (fun c=>AN (i:=0) (show(["_law_k","_law_game_here"]:List Str).Nodup by decide +kernel) rfl (by right)) (Aj (by decide)) (fun c=>A0) (fun c=>(kIx (K:=K) (kIx (K:=K) (vv 1) AC) (vv 0)))) AB)) AB)) AC))))) (@AF _ _ _ (@AK _ _ _ _ A5)) Ah))) (by intro _;rfl)) (@AE _ _ _ _ _ (@BF _ _ _ _ _ _ _ _ PassesOwn.never rfl (Az (K:=K) (vv 2)) (Fe (K:=K) (n:=2) rfl (B2 (AN (i:=4) sc_z38.nd rfl (by right)) (B2 (AN (i:=5) sc_z38.nd rfl (by right)) Df))) (@AF _ _ _ (@BF _ _ _ _ _ _ _ _ PassesOwn.never rfl (BA rfl T.z_range (AA (AI Br (AT (Av (K:=K)) rfl T.z_len (by rfl) (AA (kIx (K:=K) (vv 0) AC) AB)) (Af DE rfl T.z_int (by rfl) (AA (A8 Cg (vv 5) AC) AB))) AB)) (AN (i:=6) sc_z38.nd rfl (by right)) (@AF _ _ _ (@Ai _ _ _ _ _ _ _ _ (BQ (A7 (AH G_z25 hr_z25 rfl T.m_z25 T.F_z25.kp T.b_z25 .nil AG (AA (vv 0) (AA (vv 2) (AA (vv 4) (AA (vv 5) (AA (vv 6) AB)))))))) (@AF _ _ _ (@AK _ _ _ _ A5)) Ah)) (by intro _;rfl))) (by intro _;rfl)) (@AF _ _ _ (@AK _ _ _ _ (JN (A8 (kEq (K:=K) hu) (vv 1) AC) (CV (A8 (Gu (K:=K) hu) (Ay (N':=["_law_entry","_law_d"]) (own:=1) (ix:=[1]) rfl (Az (K:=K) (vv 2)) (by kernel_rfl) rfl rfl (by kernel_rfl) (fun c=>AN (i:=0) (show(["_law_entry","_law_d"]:List Str).Nodup by decide +kernel) rfl (by right)) (Aj (by decide)) (fun c=>Cv (AX Ch (kIx (K:=K) (vv 0) AC) (vv 1))) (fun c=>(vv 0))) (A2 AB))))))))),?_⟩;refine AJ (fun σ H'=>σ=[some u,some (.int z),some v,none,none,none,none]/\H=H'/\∃ds,d=.tup ds) ?_ ?_ (by walk_at "sm")
 ·refine⟨by decide,d,hd,?_⟩;cases d with
  | tup ds=>exact⟨rfl,rfl,ds,rfl⟩
  | _=>exact q false H ⟨(fun z=>nomatch z),fun⟨es,e,_⟩=>nomatch e⟩ (Same.refl _)
 rintro σ _ ⟨rfl,rfl,ds,rfl⟩;obtain⟨p,xs,rfl,hp,hx⟩:=Bg hd;have hlen:=hx.length;have hbk':AV ds<=100000:=by unfold AY at hbk;exact hbk
 have hdl:=ZP (DT ds) hbk';refine AJ (fun σ H'=>(∃z3:Option V,σ=[some u,some (.int z),some (.ref p),z3,none,none,none])/\Same H H'/\∃es:Aw,ds=es.map AL/\∀e∈es,Co ls e) ?_ ?_ (by walk_at "sm")
 ·refine .inr ⟨⟨_,hp⟩,?_⟩;refine D7 (xs:=xs) (fun j σ H'=>(∃z3:Option V,σ=[some u,some (.int z),some (.ref p),z3,none,none,none])/\Same H H'/\∃es:Aw,ds.take j=es.map AL/\∀e∈es,Co ls e) ⟨⟨_,rfl⟩,Same.refl _,[],rfl,fun e he=>by cases he⟩ (fun j σ H' _ ⟨_,s,_⟩=>s.sqT hp) ?_ (fun σ H' ⟨e,s,es,h1,h2⟩=>⟨e,s,es,by rw[<- hlen,Zm]at h1;exact h1,h2⟩);rintro j x σ H1 hxj ⟨⟨z3,rfl⟩,s1,es,htk,hes⟩;have hj:j < ds.length:=by rw[hlen];exact(Zb.mp hxj).1
  have ed:ds[j]? = some ds[j]:=ZE hj;have hdm:ds[j]∈ds:=Zc hj;obtain⟨x',ex,rx0⟩:=hx.get ed;rw[hxj]at ex;cases ex;have htk1:ds.take (j+1)=es.map AL++[ds[j]]:=by rw[Zi,ed,htk];rfl
  have hno:(¬ ∃e,ds[j]=AL e/\Co ls e)->∀H',Same H H'->Q (.bl false) H':=fun hn H' s=>by
   refine q false H' ⟨(fun z=>nomatch z),fun⟨es',e,h1,_⟩=>(hn ?_).elim⟩ s;have hds:ds=es'.map AL:=by injection e
   have hje:j < es'.length:=by rw[hds,ZC]at hj;exact hj
   exact⟨es'[j],by simp only[hds,List.getElem_map],h1 _ (Zc _)⟩
  have hbj:=Gf hdm;have rx:=RepW.same s1 _ _ rx0;generalize ds[j]=dj at *;refine AJ (fun σ H'=>σ=[some u,some (.int z),some (.ref p),some x,none,none,none]/\H1=H'/\∃(ts:List Nat) (d1:Dw),dj=.tup [.tup (ts.map fun(t:Nat)=>Dw.int (t:Int)),d1]/\ts.Pairwise (· < ·)/\∀t∈ts,t < ls.length) ?_ ?_ (by walk_at "sm")
  ·refine⟨by decide,dj,rx,?_⟩;cases dj with
   | tup es' =>
    obtain⟨pj,xj,rfl,hpj,hxj'⟩:=Bg rx;have hl2:=hxj'.length;refine⟨xj.length,.inr ⟨_,hpj,rfl⟩,?_⟩
    by_cases h2:es'.length=2
    ·have e0:(true ^^ ((xj.length:Int) == 2))=false:=by rw[<- hl2,h2];rfl
     show if (true ^^ ((xj.length:Int) == 2))=true then _ else _
     rw[e0]
     match es',h2 with
     | [d0,d1],_ =>
     unfold RepsW at hxj';obtain⟨x0,l0,rfl,r0,hxj'⟩:=hxj';refine⟨_,x0,.inr hpj,Aq (n:=0) rfl rfl,ls,rs,d0,hg.same s1,G,r0,?_,fun b hb=>?_⟩
     ·have h1:=Gf (d:=d0) (ds:=[d0,d1]) (by simp);have h2:AY (.tup [d0,d1])=AV [d0,d1]:=by rw[AY]
      lia
     cases b with
     | false=>exact hno (fun⟨e,he,h⟩=>by
      unfold AL at he;injection he with he
      injection he with h0 _
      exact nomatch hb.mpr ⟨e.1,h0,h.1.up,h.1.lt⟩) _ s1
     | true =>
      obtain⟨ts,rfl,h1,h2⟩:=hb.mp rfl;exact⟨rfl,rfl,ts,d1,rfl,h1,h2⟩
    ·have e0:(true ^^ ((xj.length:Int) == 2))=true:=by
      rw[ZBy,ZB5,beq_eq_false_iff_ne];lia
     show if (true ^^ ((xj.length:Int) == 2))=true then _ else _
     rw[e0];exact hno (fun⟨e,he,_⟩=>h2 (by unfold AL at he;injection he with he;rw[he];rfl)) _ s1
   | _=>exact hno (fun⟨e,he,_⟩=>nomatch he) _ s1
  rintro σ _ ⟨rfl,rfl,ts,d1,rfl,hup,hlt⟩;obtain⟨b,xs2,rfl,hb,hx2⟩:=Bg rx;unfold RepsW at hx2;obtain⟨x0,l0,rfl,r0,hx2⟩:=hx2;unfold RepsW at hx2;obtain⟨x1,l1,rfl,r1,hx2⟩:=hx2;unfold RepsW at hx2;subst hx2;obtain⟨c,zs,rfl,hc,hzs⟩:=Bg r0;rw[Gy hzs]at hc;have htl:ts.length<=ls.length:=CC ls.length ts (hup.imp fun h=>ZQ h) hlt;obtain⟨a,tl,rl,ps,rfl,g⟩:=Bh (hg.same s1);refine⟨_,x1,.inr hb,Aq (n:=1) rfl rfl,d1,r1,?_⟩;cases hw:Bw d1 with
  | false=>exact hno (fun⟨e,he,_⟩=>by
   unfold AL at he;injection he with he
   injection he with _ h1
   injection h1 with h1 _
   rw[h1]at hw;cases hw) _ s1
  | true =>
   obtain⟨k,rfl⟩:=Ir hw;unfold RepW at r1;subst r1;have inj:∀e:List Nat × Int,Dw.tup [.tup (ts.map fun(t:Nat)=>Dw.int (t:Int)),.int k]=AL e->e=(ts,k):=fun e he=>(EH (e:=(ts,k)) he).symm
   refine⟨_,_,.inr hb,Aq (n:=1) rfl rfl,?_⟩;refine Ab (fun y=>?_) (fun y=>?_)
   ·have y:k < 1:=ZN y;exact hno (fun⟨e,he,h⟩=>by have:=inj e he;subst this;have:=h.1.one;lia) _ s1
   have y:¬k < 1:=fun x=>y (ZM x)
   refine⟨_,_,.inr hb,Aq (n:=0) rfl rfl,.inr ⟨⟨_,hc⟩,?_⟩⟩
   refine Bk (xs:=iL ts) (fun k zs H'=>H'=H1/\zs=((ts.take k).map (AO ls)).map V.int) ⟨rfl,rfl⟩ (fun k zs H' _ ⟨e,_⟩=>by rw[e];exact hc) (fun k zs H' hk ⟨_,e⟩=>by
    rw[Ax]at hk;rw[e,ZC,ZC,ZV];exact Ak (by lia)) ?_ ?_
   ·rintro k x zs H' hx ⟨rfl,rfl⟩;obtain⟨t,ht,hmem,rfl⟩:=Cy hx;refine⟨_,.ref tl,.inr g.two,rfl,_,.int (AO ls t),.inr g.lab,Dc (hlt t hmem),rfl,?_⟩;rw[Zi,ht,ZK,ZK];rfl
   ·rintro zs H' ⟨rfl,rfl⟩ l hl';rw[Ax,Zm];refine⟨_,.of AD,by rw[ZC];lia,fun ds' qs nd hmem hqs=>?_⟩;have S:=(Same.upd (o:=.lst ((ts.map (AO ls)).map V.int)) hl').trans (Same.upd (o:=DH ds') hqs);have o1:=Gi (ls:=ls) nd hmem;refine⟨ds',AD,?_⟩;refine Ab (fun w=>?_) (fun w=>?_)
    ·have w:((ds'.length:Nat):Int) < 2:=ZN w;exact hno (fun⟨e,he,h⟩=>by have:=inj e he;subst this;exact h.2 (o1.mp (by lia))) _ (s1.trans S)
    ·have w:¬((ds'.length:Nat):Int) < 2:=fun x=>w (ZM x)
     refine⟨⟨_,rfl⟩,s1.trans S,es++[(ts,k)],by rw[htk1,ZK];rfl,fun e he=>?_⟩
     rcases ZH.mp he with x | x
     ·exact hes e x
     ·rw[ZO]at x;rw[x];exact⟨⟨hup,hlt,by show 1<=k;lia⟩,fun o=>by have:=o1.mpr o;lia⟩
 rintro σ H1 ⟨⟨z3,rfl⟩,s1,es,rfl,hes⟩;obtain⟨ua,xs',e',E1⟩:=Hf (RepW.same s1 _ _ hd);cases e';have hxl:=E1.len
 have hok:∀e∈es,e.1.length<=100:=fun e he=>by
  have:=CC ls.length e.1 ((hes e he).1.up.imp fun h=>ZQ h) (hes e he).1.lt
  lia
 let Bc:List Nat × Int->List Bool->Prop:=fun e r=>∃ans:Bool,∃e'∈es,e.2 - 1<=e'.2/\∀t∈e'.1,t∈e.1/\gB r t=ans
 refine AJ (fun σ H'=>(∃z3 z4 z5 z6:Option V,σ=[some u,some (.int z),some (.ref p),z3,z4,z5,z6])/\Same H1 H'/\Ii rs es) ?_ ?_ (by walk_at "sm")
 ·refine .inr ⟨⟨_,E1.sq⟩,?_⟩;refine D7 (xs:=xs') (fun j σ H'=>(∃z3 z4 z5 z6:Option V,σ=[some u,some (.int z),some (.ref p),z3,z4,z5,z6])/\Same H1 H'/\∀e∈es.take j,1 < e.2->∀r∈rs,Bc e r) ⟨⟨_,_,_,_,rfl⟩,Same.refl _,fun e he=>by rw[ZB2]at he;cases he⟩ (fun j σ H' _ ⟨_,s,_⟩=>s.sqT E1.sq) ?_ (fun σ H' ⟨e,s,h⟩=>⟨e,s,by rw[hxl,Zm]at h;exact h⟩);rintro j x σ H2 hxj ⟨⟨z3,z4,z5,z6,rfl⟩,s2,hB⟩;have hj:j < es.length:=by rw[<- hxl];exact(Zb.mp hxj).1
  have ee:es[j]? = some es[j]:=ZE hj;have hmem:es[j]∈es:=Zc hj;have E2:=E1.same s2;obtain⟨x',ex,b,c,rfl,hb,hc⟩:=E2.at_ j _ ee;rw[hxj]at ex;cases ex;generalize es[j]=e at *;have he:=hes e hmem;refine⟨_,.inr hb,rfl,_,_,rfl,_,_,rfl,rfl,?_⟩;obtain⟨a,tl,rl,ps,rfl,g⟩:=Bh (hg.same (s1.trans s2));refine⟨_,.ref rl,.inr g.two,rfl,rs.length,.inr ⟨_,g.rows,by rw[ZC,g.len]⟩,?_⟩
  obtain⟨cnt,ec,c1,c2,c3⟩:∃cnt:Nat,((rs.length:Nat):Int) * (if decide ((1:Int) < e.2)=true then 1 else 0)=(cnt:Int)/\cnt<=rs.length/\(1 < e.2->cnt=rs.length)/\(0 < cnt->1 < e.2):=by
   by_cases h:1 < e.2
   ·exact⟨rs.length,by rw[if_pos (ZM h),Int.mul_one],ZD _,fun _=>rfl,fun _=>h⟩
   ·exact⟨0,by rw[if_neg (fun x=>h (ZN x)),Int.mul_zero];rfl,ZU _,fun y=>absurd y h,fun y=>absurd y (ZZ _)⟩
  refine⟨.inr (.inl ⟨Int.lt_of_lt_of_le (show -(2 ^ 64) < (0:Int) by decide) (by lia),ZBP (show(rs.length:Int)<=16 by lia) (by decide)⟩),(cnt:Int),congrArg (fun x=>[V.int x]) ec,by lia,ZBP (show(cnt:Int)<=16 by lia) (by decide),?_⟩;rw[ZY];refine B8 (fun i σ H'=>(∃z6:Option V,σ=[some (.ref a),some (.int z),some (.ref p),z3,some (.ref c),some (.int e.2),z6])/\Same H2 H'/\∀(i':Nat) (r:List Bool),i' < i->rs[i']? = some r->Bc e r) ⟨⟨_,rfl⟩,Same.refl _,fun i' r h=>absurd h (ZBN _)⟩ ?_ ?_
  ·rintro i σ H3 hi ⟨⟨z6,rfl⟩,s3,hb3⟩;have hi':i < rs.length:=by lia
   have er:rs[i]? = some rs[i]:=ZE hi';have S3:=s1.trans (s2.trans s3);refine⟨ls,rs,es,xs',e.1,i,rs[i],hg.same S3,G,E2.same s3,hok,s3.sqT hc,hok e hmem,he.1.lt,by rw[Int.zero_add],er,fun b4 H4 hb4 s4=>?_⟩;cases b4 with
   | true =>
    refine⟨⟨_,rfl⟩,s3.trans s4,fun i' r hi2 hr2=>?_⟩
    rcases Zs i' i with y | y
    ·exact hb3 i' r y hr2
    ·have:i'=i:=by lia
     subst this;rw[er]at hr2;cases hr2;exact hb4.mp rfl
   | false =>
    refine q false _ ⟨(fun z=>nomatch z),fun⟨es',e',_,_,hB'⟩=>?_⟩ (S3.trans s4);have e':es.map AL=es'.map AL:=by injection e'
    have:es=es':=(List.map_inj_right fun a b h=>EH h).mp e'
    subst this;exact nomatch hb4.mpr (hB' e hmem (c3 (by lia)) _ (Zc hi'))
  ·rintro σ H3 ⟨⟨z6,rfl⟩,s3,hb3⟩;refine⟨⟨_,_,_,_,rfl⟩,s2.trans s3,fun e' he' h1 r hr'=>?_⟩;rw[Zi,ee]at he'
   rcases ZH.mp he' with y | y
   ·exact hB e' y h1 r hr'
   ·have:e'=e:=by simpa using y
    subst this;obtain⟨i',hi2,rfl⟩:=Z8 hr';exact hb3 i' _ (by rw[c2 h1];exact hi2) (ZE hi2)
 rintro σ H2 ⟨⟨z3,z4,z5,z6,rfl⟩,s2,hB⟩;have E2:=E1.same s2
 have hfin:∀(b:Bool) H',(b=true ↔ (z<=0\/∃e∈es,z<=e.2))->Same H2 H'->Q (.bl b) H':=fun b H' h s=>by
  refine q b H' ?_ (s1.trans (s2.trans s));rw[h];constructor
  ·intro h;exact⟨es,rfl,hes,h,hB⟩
  ·rintro⟨es',e,_,h,_⟩;have e:es.map AL=es'.map AL:=by injection e
   have:es=es':=(List.map_inj_right fun a b h=>EH h).mp e
   rw[this];exact h
 by_cases hz:z=0
 ·subst hz;exact hfin true H2 ⟨fun _=>.inl (Int.le_refl _),fun _=>rfl⟩ (Same.refl _)
 have e0:(false ^^ (z == (0:Int)))=false:=by simp[hz]
 show if (false ^^ (z == (0:Int)))=true then _ else _
 rw[e0];have hsl:sizeLine=16777216:=by decide
 have hel:es.length<=100000:=by rw[ZC]at hdl;exact hdl
 refine .inr ⟨⟨_,E2.sq⟩,?_⟩;refine Bk (xs:=xs') (fun j zs H'=>H'=H2/\zs.length<=j/\(zs=[] ↔ ∀e∈es.take j,¬z<=e.2)) ⟨rfl,ZD _,⟨(fun _ e he=>by rw[ZB2]at he;cases he),fun _=>rfl⟩⟩ (fun j zs H' _ ⟨e,_⟩=>by rw[e];exact E2.sq) (fun j zs H' hj ⟨_,e,_⟩=>by lia) ?_ ?_
 ·rintro j x zs H3 hxj ⟨rfl,hzl,hzs⟩;have hj:j < es.length:=by rw[<- hxl];exact(Zb.mp hxj).1
  have ee:es[j]? = some es[j]:=ZE hj;obtain⟨x',ex,b,c,rfl,hb,hc⟩:=E2.at_ j _ ee;rw[hxj]at ex;cases ex;generalize es[j]=e at *;refine⟨_,_,.inr hb,Aq (n:=1) rfl rfl,?_⟩;rw[Zi,ee];refine Ab (fun y=>?_) (fun y=>?_)
  ·have y:z<=e.2:=ZN y;refine⟨rfl,by rw[ZG];show _+1<=_;lia,?_⟩;constructor
   ·intro h;simp at h
   ·intro h;exact absurd y (h e (Zh _ (by simp)))
  ·have y:¬z<=e.2:=fun x=>y (ZM x)
   refine⟨rfl,by lia,hzs.trans ?_⟩;constructor
   ·intro h e' he'
    rcases ZH.mp he' with x | x
    ·exact h e' x
    ·have:e'=e:=by simpa using x
     rw[this];exact y
   ·intro h e' he';exact h e' (Z1 _ he')
 ·rintro zs H3 ⟨rfl,hzl,hzs⟩ l nl;rw[hxl,Zm]at hzs;refine⟨smq rfl,fun l2 nl2=>?_⟩;have s3:=Same.upd (o:=.lst zs) nl;have s4:=Same.upd (o:=.lst []) nl2;refine⟨zs,.inr ⟨.of (s4 _ _ AD),.of AD⟩,hfin _ _ ?_ (s3.trans s4)⟩;rw[ZB5];constructor
  ·intro h
   have:zs≠[]:=fun y=>by rw[y]at h;cases h
   have h2:¬ ∀e∈es,¬z<=e.2:=fun y=>this (hzs.mpr y)
   refine .inr (Classical.byContradiction fun y=>h2 fun e he w=>y ⟨e,he,w⟩)
  ·rintro(h | ⟨e,he,h⟩)
   ·lia
   ·cases zs with
    | nil=>exact absurd h (hzs.mp rfl e he)
    | cons _ _=>rfl
theorem Cj(ls:List Int)(rs:List (List Bool)):CN (gmD ls rs)=true:=by
 have e1:∀ls:List Int,BI (ls.map Dv.int)=true:=by
  intro ls
  induction ls with
  | nil=>rfl
  | cons x r ih=>show(true && BI (r.map Dv.int))=true;rw[ih];rfl
 unfold gmD;simp[CN,BI,e1,CW]
theorem CJ{xs:List V}:DD (.lst xs):=⟨(fun _ z=>nomatch z),(fun _ _ z=>nomatch z)⟩
structure Now(K:W.Frag)(H:Hp)(t:Addr)(N:Nat)(u:V)(ls:List Int)(rs:List (List Bool)):Prop where
 F:GFeed H t N
 r:Rep K H (gmD ls rs) u
theorem Bi{t:Addr}{H H':Hp}(h:∀b,b≠t->H' b=H b):Frm t H H':=fun b o n e=>by rw[h b n];exact e
theorem SZ(ts:List Nat)(a:Nat)(h:a < ts.length):A1 (iL ts) none (some ((a:Nat):Int))++A1 (iL ts) (some ((a:Int)+1)) none=iL (ts.eraseIdx a):=by
 have hl:=Ax ts;rw[E4 _ _ (by lia),show(a:Int)+1=((a+1:Nat):Int) by lia,FF _ _ (by lia),List.eraseIdx_eq_take_drop_succ];unfold iL;rw[ZK,ZBs,ZB3]
structure Ps(K:W.Frag)(H:Hp)(t d:Addr)(N:Nat)(u:V)(ls:List Int)(rs:List (List Bool)):Prop where
 F:GFeed H t N
 r:Rep K H (gmD ls rs) u
 m:∃kvs,H d=some (.dT kvs)/\NMemo ls rs kvs
def Fr2(t d:Addr)(H H':Hp):Prop:=∀b o,b≠t->b≠d->H b=some o->H' b=some o
section
variable {H H' H1:Hp}{t d:Addr}{N N':Nat}{u:V}{ls:List Int}{rs:List (List Bool)}
theorem Fr2.refl:Fr2 t d H H:=fun _ _ _ _ e=>e
theorem Fr2.trans(a:Fr2 t d H H1)(b:Fr2 t d H1 H'):Fr2 t d H H':=fun c o x y e=>b c o x y (a c o x y e)
theorem Fr2.same(s:Same H H'):Fr2 t d H H':=fun b o _ _ e=>s b o e
theorem Ps.same(n:Ps K H t d N u ls rs)(s:Same H H'):Ps K H' t d N u ls rs:=by
 obtain⟨kvs,h1,h2⟩:=n.m;exact⟨n.F.same s,Rep.same s _ _ n.r,kvs,s _ _ h1,h2⟩
theorem Ps.mono(n:Ps K H t d N u ls rs)(h:N<=N'):Ps K H t d N' u ls rs:=⟨n.F.mono h,n.r,n.m⟩
theorem Ps.ne(n:Ps K H t d N u ls rs):d≠t:=fun z=>by
 obtain⟨kvs,h1,h2⟩:=n.m;obtain⟨zs,hz⟩:=n.F.lst;rw[z,hz]at h1;cases h1
theorem Ps.draw(n:Ps K H t d N u ls rs)(F:GFeed H' t N')(f:∀b,b≠t->H' b=H b):Ps K H' t d N' u ls rs:=by
 obtain⟨kvs,h1,h2⟩:=n.m;exact⟨F,Rep.frm (Bi f) n.F.lst _ _ (Cj ls rs) n.r,kvs,by rw[f d n.ne];exact h1,h2⟩
theorem DJ(f:∀b,b≠t->H' b=H b):Fr2 t d H H':=fun b o h1 _ e=>by rw[f b h1];exact e
theorem Ps.need(n:Ps K H t d N u ls rs)(f:Frm d H H'){kvs':List (List Key × V)}(hd:H' d=some (.dT kvs'))(m:NMemo ls rs kvs'):Ps K H' t d N u ls rs:=by
 obtain⟨kvs,h1,h2⟩:=n.m;refine⟨?_,?_,kvs',hd,m⟩
 ·obtain⟨l,i,gg,c,ns,g1,g2,g3,g4,g5,g6,g7,g8⟩:=n.F.at_;exact⟨l,i,gg,c,ns,g1,g2,g3,g4,f _ _ (fun z=>by rw[z,h1]at g5;cases g5) g5,g6,f _ _ (fun z=>by rw[z,h1]at g7;cases g7) g7,g8⟩
 ·obtain⟨a,tl,rl,ps,rfl,g⟩:=Bh n.r;exact GE (g.frm f h1 HH)
theorem Hn(f:Frm d H H'):Fr2 t d H H':=fun b o _ h2 e=>f b o h2 e
theorem Ps.tup(n:Ps K H t d N u ls rs){p:Addr}{xs:List V}(f:Fr2 t d H H')(h:H p=some (.tup xs)):H' p=some (.tup xs):=by
 obtain⟨kvs,h1,h2⟩:=n.m;obtain⟨zs,hz⟩:=n.F.lst;exact f _ _ (fun z=>by rw[z,hz]at h;cases h) (fun z=>by rw[z,h1]at h;cases h) h
end
def Ned(ls:List Int)(rs:List (List Bool))(ts:List Nat)(k:Int):Prop:=∃m:Nat,A3 (AO ls) (rs.map gB) (fun k=>decide (k∈ts)) m/\k<=(m:Int)
theorem QZ{ls:List Int}{rs:List (List Bool)}{ts:List Nat}{k:Int}(h:Ned ls rs ts k)(hk:1<=k):1<=ts.length:=by
 obtain⟨m,h1,h2⟩:=h
 rcases Nat.eq_zero_or_pos ts.length with z | z
 ·have:ts=[]:=ZBl.mp z
  subst this
  have:=h1.2 0 (show One _ _ from fun i j hi=>by simp at hi)
  lia
 ·exact z
def Dz(K:W.Frag):Sp:=fun vs H Q _=>match vs with
 | [.ref t,u,.ref p,.int k,.ref d]=>∃N ls rs ts,Ps K H t d N u ls rs/\N<=700000000/\Gm ls rs/\Bv ls rs/\H p=some (.tup (iL ts))/\ts.Pairwise (· < ·)/\(∀x∈ts,x < ls.length)/\Ned ls rs ts k/\1<=k/\∀ts' p' H',H' p'=some (.tup (iL ts'))->ts'.Pairwise (· < ·)->(∀x∈ts',x < ls.length)->Ned ls rs ts' k->Ps K H' t d (N+10) u ls rs->Fr2 t d H H'->Q (.ref p') H'
 | _=>False
theorem Ms:AQ (Dz K):=fun vs H Q Q' E h q=>by
 unfold Dz at *;split at q
 ·revert q;repeat' first | exact h _ _ | exact A4 h | exact out_mono h | exact outT_mono h | walk_at "m"
 ·exact q.elim
theorem Mu:FnOk P w K mg base CX0 20 T.f_z31 T.d_z31 ["_law_feed_here","_law_game_here","_law_things","_law_number","_law_known"] (Dz K):=by
 have G_z35:=@CT P w K mg base T;have G_z37:=@GC P w K mg base T;refine T.F_z31.ok sc_z31 (fun vs H Q E h=>by unfold Dz at h;split at h <;> first | rfl | exact h.elim) (fun cdv A outer s H vs Q E hr h=>?_);have hu:=Ag hr;have hr_z35:=hr.mono (show 1<=_ by decide);have hr_z37:=hr.mono (show 19<=_ by decide);have mo1:AQ (Bo K 17):=FI;unfold Dz at h;split at h;rotate_left
 ·exact h.elim
 rename_i t u p k d;obtain⟨N,ls,rs,ts,n0,hN,G,hE,hp,hup,hlt,hned,hk,q⟩:=h;have l16:=G.l16;refine⟨_,(@AE _ _ _ _ _ (@BF _ _ _ _ _ _ _ _ PassesOwn.never rfl (BA rfl T.z_range (AA (AH G_z35 hr_z35 rfl T.m_z35 T.F_z35.kp T.b_z35 .nil AG (AA (vv 0) (AA AC AB))) AB)) (AN (i:=5) sc_z31.nd rfl (by right)) (@AE _ _ _ _ _ (@AS _ _ 6 _ _ _ _ sc_z31.nd rfl (by right) (AH G_z35 hr_z35 rfl T.m_z35 T.F_z35.kp T.b_z35 .nil AG (AA (vv 0) (AA (AT (Av (K:=K)) rfl T.z_len (by rfl) (AA (vv 2) AB)) AB))) (by rfl) (by walk_at "i")) (@AF _ _ _ (@Ai _ _ _ _ _ _ _ _ (AX Ch (AH G_z37 hr_z37 rfl T.m_z37 T.F_z37.kp T.b_z37 .nil AG (AA (vv 1) (AA (AI Fu (Ej (vv 2) Ba (Bf (vv 6))) (Ej (vv 2) (Bf (AI Fu (vv 6) AC)) Ba)) (AA (vv 4) AB)))) (vv 3)) (@AF _ _ _ (@AS _ _ 2 _ _ _ _ sc_z31.nd rfl (by right) (AI Fu (Ej (vv 2) Ba (Bf (vv 6))) (Ej (vv 2) (Bf (AI Fu (vv 6) AC)) Ba)) (by rfl) (by walk_at "i"))) Ah))) (by intro _;rfl)) (@AF _ _ _ (@AK _ _ _ _ (vv 2)))),?_⟩;refine⟨_,n0.F,by lia,Ad (by decide) (by decide),fun y H1 y0 y3 F1 f1=>?_⟩;obtain⟨c,rfl⟩:=ZBO y0;refine⟨(c:Int),rfl,by lia,by lia,?_⟩;rw[ZY];have n1:=n0.draw F1 f1;refine B8 (fun i σ H'=>∃(ts':List Nat) (p':Addr) (z5 z6:Option V),σ=[some (.ref t),some u,some (.ref p'),some (.int k),some (.ref d),z5,z6]/\H' p'=some (.tup (iL ts'))/\ts'.Pairwise (· < ·)/\(∀x∈ts',x < ls.length)/\Ned ls rs ts' k/\Ps K H' t d (N+1+i) u ls rs/\Fr2 t d H H') ⟨ts,p,none,none,rfl,n0.tup (DJ f1) hp,hup,hlt,hned,n1,DJ f1⟩ ?_ ?_
 ·rintro i σ H2 hi ⟨ts',p',z5,z6,rfl,hp',hup',hlt',hned',n2,fr2⟩;have hpos:=QZ hned' hk;have htl:ts'.length<=ls.length:=CC ls.length ts' (hup'.imp fun h=>ZQ h) hlt';refine⟨ts'.length,.inr ⟨_,.of hp',by rw[Ax]⟩,_,n2.F,by lia,Ad (by lia) (Z0 (show(ts'.length:Int)<=16 by lia) (by decide)),fun y H3 y0 y1 F3 f3=>?_⟩;obtain⟨a,rfl⟩:=ZBO y0;have ha:a < ts'.length:=by lia
  have n3:=n2.draw F3 f3;have hp3:=n2.tup (DJ f3) hp';have er:=SZ ts' a ha;have hsub:(ts'.eraseIdx a).Sublist ts':=List.eraseIdx_sublist ts' a;have hupE:=hup'.sublist hsub;have hltE:∀x∈ts'.eraseIdx a,x < ls.length:=fun x hx=>hlt' x (hsub.subset hx)
  have hlE:(ts'.eraseIdx a).length < 17:=by have:=hsub.length_le;lia
  have hsz:∀xs ys:List V,xs++ys=iL (ts'.eraseIdx a)->xs.length+ys.length<=sizeLine:=fun xs ys h=>by
   have:=congrArg List.length h
   rw[ZG,Ax]at this;exact B7 (by lia)
  dsimp only[Ae];refine⟨_,rfl,_,hp3,fun c1 H4 s4 g4=>⟨_,rfl,_,s4 _ _ hp3,fun c2 H5 s5 g5=>.inr ⟨_,_,s5 _ _ g4,g5,hsz _ _ er,fun c3 H6 s6 g6=>?_⟩⟩⟩;have g6':H6 c3=some (.tup (iL (ts'.eraseIdx a))):=er ▸ g6;have s36:=s4.trans (s5.trans s6);have n6:=n3.same s36;obtain⟨kvs,k1,k2⟩:=n6.m;refine⟨ls,rs,_,kvs,n6.r,G,hE,g6',hupE,hltE,hlE,k1,k2,fun m kvs' H7 hm f7 hd7 M7=>?_⟩;have n7:=n6.need f7 hd7 M7;have fr7:Fr2 t d H2 H7:=(DJ f3).trans ((Fr2.same s36).trans (Hn f7));have hp7:=n2.tup fr7 hp';refine Ab (fun z=>?_) (fun z=>?_)
  ·have z:k<=(m:Int):=ZN z;refine⟨_,rfl,_,hp7,fun c4 H8 s8 g8=>⟨_,rfl,_,s8 _ _ hp7,fun c5 H9 s9 g9=>.inr ⟨_,_,s9 _ _ g8,g9,hsz _ _ er,fun c6 H10 s10 g10=>?_⟩⟩⟩;have g10':H10 c6=some (.tup (iL (ts'.eraseIdx a))):=er ▸ g10;have s710:=s8.trans (s9.trans s10);exact⟨_,c6,_,_,rfl,g10',hupE,hltE,⟨m,hm,z⟩,(n7.same s710).mono (by lia),fr2.trans (fr7.trans (Fr2.same s710))⟩
  ·exact⟨ts',p',_,_,rfl,hp7,hup',hlt',hned',n7.mono (by lia),fr2.trans fr7⟩
 ·rintro σ H2 ⟨ts',p',z5,z6,rfl,hp',hup',hlt',hned',n2,fr2⟩;exact q ts' p' H2 hp' hup' hlt' hned' (n2.mono (by lia)) fr2
theorem Gs{xs:List V}{i:Int}(h0:0<=i)(h1:i < xs.length):∃z,atI xs i=some z/\z∈xs:=by
 obtain⟨n,rfl⟩:=ZBO h0;have hn:n < xs.length:=by lia
 exact⟨xs[n],Aq rfl (ZE hn),Zc hn⟩
section
variable {H H':Hp}{t d q:Addr}{N:Nat}{u:V}{ls:List Int}{rs:List (List Bool)}
theorem Ce(n:Ps K H t d N u ls rs)(f:Fr2 t d H H'){b:Addr}{xs:List V}(h:SqT K H b xs):SqT K H' b xs:=by
 obtain⟨kvs,h1,h2⟩:=n.m;obtain⟨zs,hz⟩:=n.F.lst
 rcases h with (h | ⟨o,h⟩) | h
 ·exact .inl (.inl (f _ _ (fun z=>by rw[z,hz]at h;cases h) (fun z=>by rw[z,h1]at h;cases h) h))
 ·exact .inl (.inr ⟨o,f _ _ (fun z=>by rw[z,hz]at h;cases h) (fun z=>by rw[z,h1]at h;cases h) h⟩)
 ·exact .inr h
theorem EntAt.fr2(n:Ps K H t d N u ls rs)(f:Fr2 t d H H'){e:List Nat × Int}{x:V}(h:EntAt K H e x):EntAt K H' e x:=by
 obtain⟨b,c,h1,h2,h3⟩:=h;exact⟨b,c,h1,Ce n f h2,Ce n f h3⟩
theorem EntAt.same{e:List Nat × Int}{x:V}(h:EntAt K H e x)(s:Same H H'):EntAt K H' e x:=by
 obtain⟨b,c,h1,h2,h3⟩:=h;exact⟨b,c,h1,s.sqT h2,s.sqT h3⟩
theorem EntAt.frm{e:List Nat × Int}{x:V}(h:EntAt K H e x)(f:Frm q H H'){xs:List V}(hq:H q=some (.lst xs)):EntAt K H' e x:=by
 obtain⟨b,c,h1,h2,h3⟩:=h;exact⟨b,c,h1,BS f hq CJ h2,BS f hq CJ h3⟩
theorem Ps.putL(n:Ps K H t d N u ls rs){o:HO}{xs:List V}(hp:q≠t)(hx:H q=some (.lst xs))(hn:∀ns:List Int,ns.length≠0->xs≠ns.map V.int):Ps K (upd H q o) t d N u ls rs:=by
 obtain⟨kvs,h1,h2⟩:=n.m;have f:Frm q H (upd H q o):=Frm.updT;exact⟨n.F.put hp hx hn,Rep.frm f ⟨_,hx⟩ _ _ (Cj ls rs) n.r,kvs,f _ _ (fun z=>by rw[z,hx]at h1;cases h1) h1,h2⟩
end
def It(K:W.Frag)(H:Hp)(xs:List V)(P':List Nat × Int->Prop):Prop:=∀x∈xs,∃e,EntAt K H e x/\P' e
theorem IZ{H:Hp}{xs:List V}{P':List Nat × Int->Prop}(h:It K H xs P'):∀ns:List Int,ns.length≠0->xs≠ns.map V.int:=fun ns hn e=>by
 cases ns with
 | nil=>exact hn rfl
 | cons z ns =>
  obtain⟨e',⟨b,c,h1,_⟩,_⟩:=h (.int z) (by rw[e];simp);cases h1
theorem CK{H H':Hp}{xs:List V}{P':List Nat × Int->Prop}(h:It K H xs P')(f:∀e x,EntAt K H e x->EntAt K H' e x):It K H' xs P':=fun x hx=>by
 obtain⟨e,h1,h2⟩:=h x hx;exact⟨e,f e x h1,h2⟩
def BZ(e:List Nat × Int):Dv:=.tup [.tup (iD e.1),.int e.2]
theorem HX{H:Hp}{e:List Nat × Int}{x:V}(h:EntAt K H e x):Rep K H (BZ e) x:=by
 obtain⟨b,c,rfl,h2,h3⟩:=h;exact Bt h2 (Ap (Bt h3 (DK _)) (Ap Fo Am))
theorem Kc(e:List Nat × Int):An (BZ e)<=50:=by
 have:An (BZ e)=max (A9 (iD e.1)+1) (max 0 0)+1:=rfl
 rw[this,Dh];decide
theorem LK{H:Hp}{P':List Nat × Int->Prop}:∀{xs:List V},It K H xs P'->∃ds:List Dv,Reps K H ds xs/\∀e∈ds,An e<=50
 | [],_=>⟨[],Am,fun e he=>by cases he⟩
 | x::xs,h=>by
  obtain⟨e,h1,_⟩:=h x (Zo ..);obtain⟨ds,h2,h3⟩:=LK (xs:=xs) fun y hy=>h y (Za _ hy)
  exact⟨BZ e::ds,Ap (HX h1) h2,fun y hy=>by
   rcases ZF.mp hy with rfl | hy
   ·exact Kc e
   ·exact h3 y hy⟩
theorem HS{H:Hp}:∀ts:List Nat,RepsW K H (ts.map fun(t:Nat)=>Dw.int (t:Int)) (iL ts)
 | []=>Al
 | t::ts=>Ao BE (HS ts)
theorem EC{H:Hp}{e:List Nat × Int}{x:V}(h:EntAt K H e x):RepW K H (AL e) x:=by
 obtain⟨b,c,rfl,h2,h3⟩:=h;exact As h2 (Ao (As h3 (HS _)) (Ao BE Al))
theorem K7{H:Hp}{P':List Nat × Int->Prop}:∀{xs:List V},It K H xs P'->∃es:Aw,RepsW K H (es.map AL) xs/\es.length=xs.length/\∀e∈es,P' e
 | [],_=>⟨[],Al,rfl,fun e he=>by cases he⟩
 | x::xs,h=>by
  obtain⟨e,h1,hp⟩:=h x (Zo ..);obtain⟨es,h2,h3,h4⟩:=K7 (xs:=xs) fun y hy=>h y (Za _ hy)
  exact⟨e::es,Ao (EC h1) h2,by rw[Zj,h3];rfl,fun y hy=>by
   rcases ZF.mp hy with rfl | hy
   ·exact hp
   ·exact h4 y hy⟩
structure GoodE(ls:List Int)(rs:List (List Bool))(e:List Nat × Int):Prop where
 up:e.1.Pairwise (· < ·)
 lt:∀x∈e.1,x < ls.length
 ned:Ned ls rs e.1 e.2
 one:1<=e.2
 le:e.2<=16
theorem Rp{ls:List Int}{rs:List (List Bool)}{ts:List Nat}{k:Int}{r:List Bool}(h:Ned ls rs ts k)(hr:r∈rs):∃ans,Ned ls rs (AR r ans ts) (k - 1):=by
 obtain⟨m,h1,h2⟩:=h
 have sub:∀ans,∃b,A3 (AO ls) (rs.map gB) (fun k=>decide (k∈AR r ans ts)) b:=fun ans=>by
  refine LY (ER (fun x hx=>?_) h1.1);exact ZM (mem_lefts.mp (ZN hx)).1
 obtain⟨b,hb⟩:=sub true;obtain⟨c,hc⟩:=sub false;have e1:=GR r ts;have e2:=G4 r ts;have hb':=hb;have hc':=hc;rw[e1]at hb';rw[e2]at hc'
 have:=Kn (ZT.mpr ⟨r,hr,rfl⟩) h1 hb' hc'
 by_cases z:(k - 1)<=(b:Int)
 ·exact⟨true,b,hb,z⟩
 ·exact⟨false,c,hc,by lia⟩
def Dy(K:W.Frag):Sp:=fun vs H Q _=>match vs with
 | [.ref t,u,.ref p,.int k,.ref d]=>∃N ls rs ts,Ps K H t d N u ls rs/\N<=600000000/\Gm ls rs/\Bv ls rs/\H p=some (.tup (iL ts))/\ts.Pairwise (· < ·)/\(∀x∈ts,x < ls.length)/\(1<=k->Ned ls rs ts k)/\k<=16/\∀(es:Aw) p' H',RepW K H' (.tup (es.map AL)) (.ref p')->es.length<=60->(∀e∈es,GoodE ls rs e)->Ps K H' t d (N+20000) u ls rs->Fr2 t d H H'->Q (.ref p') H'
 | _=>False
theorem NS:AQ (Dy K):=fun vs H Q Q' E h q=>by
 unfold Dy at *;split at q
 ·revert q;repeat' first | exact h _ _ | exact A4 h | exact out_mono h | exact outT_mono h | walk_at "m"
 ·exact q.elim
theorem Mp:FnOk P w K mg base CX0 21 T.f_z28 T.d_z28 ["_law_feed_here","_law_game_here","_law_things","_law_number","_law_known"] (Dy K):=by
 have G_z35:=@CT P w K mg base T;have G_z33:=@Fx P w K mg base T;have G_z31:=@Mu P w K mg base T;have G_z37:=@GC P w K mg base T;refine T.F_z28.ok sc_z28 (fun vs H Q E h=>by unfold Dy at h;split at h <;> first | rfl | exact h.elim) (fun cdv A outer s H vs Q E hr h=>?_);have hu:=Ag hr;have hr_z35:=hr.mono (show 1<=_ by decide);have hr_z33:=hr.mono (show 1<=_ by decide);have hr_z31:=hr.mono (show 20<=_ by decide);have hr_z37:=hr.mono (show 19<=_ by decide);have mo1:AQ (Bo K 17):=FI;have mo2:AQ (Dz K):=Ms;have mo3:AQ (Cm K):=GM;unfold Dy at h;split at h;rotate_left
 ·exact h.elim
 rename_i t u p k d;obtain⟨N,ls,rs,ts,n0,hN,G,hE,hp,hup,hlt,hned,hk,q⟩:=h;have l16:=G.l16;have r16:=G.r16;refine⟨_,(@AE _ _ _ _ _ (@AS _ _ 5 _ _ _ _ sc_z28.nd rfl (by right) (@A2 _ _ _ _ AB) (by rfl) (by walk_at "i")) (@AE _ _ _ _ _ (@AS _ _ 6 _ _ _ _ sc_z28.nd rfl (by right) (AI Br (@A2 _ _ _ _ (AA (AW (AA (vv 2) (AA (vv 3) AB))) AB)) (Af DE rfl T.z_int (by rfl) (AA (A8 Cg (vv 3) AC) AB))) (by rfl) (by walk_at "i")) (@AE _ _ _ _ _ (@GI _ _ _ _ _ _ PassesOwn.never (PW.pt (Ct (AX (Gu (K:=K) hu) (vv 6) (@A2 _ _ _ _ AB)) (C2 (AX B9 (AT (Av (K:=K)) rfl T.z_len (by rfl) (AA (vv 5) AB)) AC)))) (@AE _ _ _ _ _ (@AS _ _ 7 _ _ _ _ sc_z28.nd rfl (by right) (OJ (K:=K) (vv 6)) (by rfl) (by walk_at "i")) (@AF _ _ _ (@Ai _ _ _ _ _ _ _ _ (AX (HF (K:=K) hu) (vv 7) (vv 5)) (@AE _ _ _ _ _ (@Cw _ _ _ _ (Mm (K:=K) (vv 5) (AA (AH G_z35 hr_z35 rfl T.m_z35 T.F_z35.kp T.b_z35 .nil AG (AA (vv 0) (AA (AI (BH (K:=K)) (AT (Av (K:=K)) rfl T.z_len (by rfl) (AA (vv 5) AB)) AC) AB))) (AA (vv 7) AB))) (by rfl)) (@AF _ _ _ (@BF _ _ _ _ _ _ _ _ PassesOwn.never rfl (BA rfl T.z_range (AA (AI Br (AT (Av (K:=K)) rfl T.z_len (by rfl) (AA (kIx (K:=K) (vv 1) AC) AB)) (Af DE rfl T.z_int (by rfl) (AA (A8 Cg (kIx (K:=K) (vv 7) AC) AC) AB))) AB)) (AN (i:=8) sc_z28.nd rfl (by right)) (@AE _ _ _ _ _ (@AS _ _ 9 _ _ _ _ sc_z28.nd rfl (by right) (AH G_z33 hr_z33 rfl T.m_z33 T.F_z33.kp T.b_z33 .nil AG (AA (vv 1) (AA (kIx (K:=K) (vv 7) AC) (AA (vv 8) AB)))) (by rfl) (by walk_at "i")) (@AE _ _ _ _ _ (@DC _ _ _ _ _ _ _ (["_law_side","_law_game_here","_law_known","_law_entry"]) 1 ([1,4,7]) _ _ _ _ 9 _ _ _ rfl sc_z28.nd rfl rfl (Az (K:=K) (vv 9)) (by kernel_rfl) rfl rfl (by kernel_rfl) (fun c=>AN (i:=0) (show(["_law_side","_law_game_here","_law_known","_law_entry"]:List Str).Nodup by decide +kernel) rfl (by right)) (Aj (by decide)) (fun c=>Cv (AX Ch (AH G_z37 hr_z37 rfl T.m_z37 T.F_z37.kp T.b_z37 .nil AG (AA (vv 1) (AA (vv 0) (AA (vv 2) AB)))) (AI CS (kIx (K:=K) (vv 3) AC) AC))) (fun c=>(vv 0)) (by rfl) (by intro _;rfl)) (@AE _ _ _ _ _ (@AS _ _ 10 _ _ _ _ sc_z28.nd rfl (by right) (kIx (K:=K) (vv 9) (AH G_z35 hr_z35 rfl T.m_z35 T.F_z35.kp T.b_z35 .nil AG (AA (vv 0) (AA (AT (Av (K:=K)) rfl T.z_len (by rfl) (AA (vv 9) AB)) AB)))) (by rfl) (by walk_at "i")) (@AF _ _ _ (@Cw _ _ _ _ (DR (K:=K) (vv 6) (AA (AW (AA (AH G_z31 hr_z31 rfl T.m_z31 T.F_z31.kp T.b_z31 .nil AG (AA (vv 0) (AA (vv 1) (AA (vv 10) (AA (AI CS (kIx (K:=K) (vv 7) AC) AC) (AA (vv 4) AB)))))) (AA (AI CS (kIx (K:=K) (vv 7) AC) AC) AB))) AB)) (by rfl)))))) (by intro _;rfl)))) Ah)))) (@AF _ _ _ (@AK _ _ _ _ (Af (BC (K:=K)) rfl T.z_tuple (by rfl) (AA (vv 5) AB))))))),?_⟩;refine⟨smq rfl,fun el nel=>?_⟩;have s1:=Same.upd (o:=.lst []) nel;dsimp only[Ae];refine AJ (fun σ H'=>∃(pl:Addr) (ys:List V),σ=[some (.ref t),some u,some (.ref p),some (.int k),some (.ref d),some (.ref el),some (.ref pl),none,none,none,none]/\H' el=some (.lst [])/\H' pl=some (.lst ys)/\el≠pl/\el≠t/\pl≠t/\It K H' ys (GoodE ls rs)/\ys.length<=1/\Ps K H' t d N u ls rs/\Fr2 t d H H'/\H pl=none) ?_ ?_ (by walk_at "sm")
 ·have n1:=n0.same s1;have gel:=AD (H:=H) (a:=el) (o:=.lst []);have het:=n0.F.neT nel;refine⟨smq rfl,fun b nb=>⟨smq rfl,fun l nl=>?_⟩⟩;have s2:=Same.upd (o:=.tup [.ref p,.int k]) nb;have s3:=Same.upd (o:=.lst [.ref b]) nl;have S:=s2.trans s3;have S1:=s1.trans S;have gb:=s3 _ _ (AD (H:=upd H el (.lst [])) (a:=b) (o:=.tup [.ref p,.int k]));have gl:=AD (H:=upd (upd H el (.lst [])) b (.tup [.ref p,.int k])) (a:=l) (o:=.lst [.ref b]);have gel3:=S _ _ gel;have hp3:=S1 _ _ hp;have n3:=n1.same S
  obtain⟨jj,ej,hj⟩:∃jj:Int,(if decide ((0:Int) < k)=true then (1:Int) else 0)=jj/\((jj=1/\0 < k)\/(jj=0/\¬0 < k)):=by
   by_cases h:0 < k
   ·exact⟨1,if_pos (ZM h),.inl ⟨rfl,h⟩⟩
   ·exact⟨0,if_neg (fun x=>h (ZN x)),.inr ⟨rfl,h⟩⟩
  refine⟨l,jj,_,rfl,congrArg V.int ej,gl,?_,?_,B7 (show 1 * jj.toNat<=1000 by lia),fun pl npl=>?_⟩
  ·exact Z0 (show -(2 ^ 63)<=(0:Int) by decide) (by lia)
  ·exact ZBP (show jj<=1 by lia) (by decide)
  rcases hj with ⟨rfl,hk0⟩ | ⟨rfl,hk0⟩
  ·have s4:=Same.upd (o:=.lst [.ref b]) npl;refine⟨pl,[.ref b],rfl,s4 _ _ gel3,AD,(fun z=>by rw[<- z,gel3]at npl;cases npl),het,n3.F.neT npl,fun x hx=>?_,ZD _,n3.same s4,Fr2.same (S1.trans s4),S1.free npl⟩;rw[ZO]at hx;subst hx;exact⟨(ts,k),⟨b,p,rfl,.of (s4 _ _ gb),.of (s4 _ _ hp3)⟩,hup,hlt,hned hk0,hk0,hk⟩
  ·have s4:=Same.upd (o:=.lst []) npl;exact⟨pl,[],rfl,s4 _ _ gel3,AD,(fun z=>by rw[<- z,gel3]at npl;cases npl),het,n3.F.neT npl,(fun x hx=>by cases hx),ZU _,n3.same s4,Fr2.same (S1.trans s4),S1.free npl⟩
 rintro σ H1 ⟨pl,ys,rfl,gel,gpl,hne,het,hpt,hI,hyl,n1,fr1,hpl0⟩;refine AJ (fun σ H'=>∃(xs:List V) (z6 z7 z8 z9 z10:Option V),σ=[some (.ref t),some u,some (.ref p),some (.int k),some (.ref d),some (.ref el),z6,z7,z8,z9,z10]/\H' el=some (.lst xs)/\It K H' xs (GoodE ls rs)/\xs.length<=60/\Ps K H' t d (N+177 * xs.length) u ls rs/\Fr2 t d H H') ?_ ?_ (by walk_at "sm");rotate_left
 ·rintro σ H2 ⟨xs,z6,z7,z8,z9,z10,rfl,g2,hI2,hxl,n2,fr2⟩;refine⟨_,.inl ⟨.of g2,fun tp ntp=>?_⟩⟩;have s3:=Same.upd (o:=.tup xs) ntp;obtain⟨es,h1,h2,h3⟩:=K7 (CK hI2 fun e x h=>h.same s3);exact q es tp _ (As (.of AD) h1) (by lia) h3 ((n2.same s3).mono (by lia)) (fr2.trans (Fr2.same s3))
 refine⟨fun mm σ H'=>∃(xs ys:List V) (z7 z8 z9 z10:Option V),σ=[some (.ref t),some u,some (.ref p),some (.int k),some (.ref d),some (.ref el),some (.ref pl),z7,z8,z9,z10]/\H' el=some (.lst xs)/\H' pl=some (.lst ys)/\It K H' xs (GoodE ls rs)/\It K H' ys (GoodE ls rs)/\xs.length<=60/\ys.length<=1+16 * xs.length/\Ps K H' t d (N+177 * xs.length) u ls rs/\Fr2 t d H H'/\mm=(60 - xs.length) * 17+ys.length,⟨_,[],ys,none,none,none,none,rfl,gel,gpl,(fun x hx=>by cases hx),hI,ZU _,hyl,n1,fr1,rfl⟩,?_⟩;clear gel gpl hI hyl n1 fr1;rintro mm σ H2 ⟨xs,ys,z7,z8,z9,z10,rfl,gel,gpl,hX,hY,hxl,hyl,n2,fr2,rfl⟩;refine⟨smq rfl,fun l0 nl0=>?_⟩;have s0:=Same.upd (o:=.lst []) nl0;refine⟨ys,.inr ⟨.of (s0 _ _ gpl),.of AD⟩,?_⟩
 replace gel:=s0 _ _ gel
 replace gpl:=s0 _ _ gpl
 replace hX:=CK hX fun e x h=>h.same s0
 replace hY:=CK hY fun e x h=>h.same s0
 replace n2:=n2.same s0
 replace fr2:=fr2.trans (Fr2.same s0)
 generalize upd H2 l0 (.lst [])=H3 at *
 rcases List.eq_nil_or_concat ys with rfl | ⟨ys',y,rfl⟩
 ·exact⟨xs,_,_,_,_,_,rfl,gel,hX,hxl,n2,fr2⟩
 have hne':(ys'++[y]).isEmpty=false:=by simp
 rw[List.concat_eq_append] at *;show if (!(ys'++[y]).isEmpty)=true then _ else _
 rw[hne'];refine⟨_,.inl ⟨_,.of gel,rfl⟩,?_⟩;refine Ab (fun hc=>?_) (fun _=>⟨xs,_,_,_,_,_,rfl,gel,hX,hxl,n2,fr2⟩);have hc:(xs.length:Int) < 60:=ZN hc;rw[ZG] at *;have hy1:[y].length=1:=rfl;rw[hy1] at *;refine⟨.inl ⟨rfl,_,.of gpl⟩,ys',y,gpl,?_⟩;have fu:Frm pl H3 (upd H3 pl (.lst ys')):=Frm.updT;obtain⟨e,hey,he⟩:=hY y (by simp);have n4:=n2.putL (o:=.lst ys') hpt gpl (IZ hY);have gel4:=fu _ _ hne gel;have gpl4:=AD (H:=H3) (a:=pl) (o:=.lst ys');have hX4:=CK hX fun e x h=>h.frm fu gpl
 have hY4:It K (upd H3 pl (.lst ys')) ys' (GoodE ls rs):=CK (fun x hx=>hY x (Z1 _ hx)) fun e x h=>h.frm fu gpl
 have hey4:=hey.frm fu gpl
 have fr4:Fr2 t d H (upd H3 pl (.lst ys')):=fun b o h1 h2 e=>by
  exact fu _ _ (fun z=>by rw[z,hpl0]at e;cases e) (fr2 b o h1 h2 e)
 generalize upd H3 pl (.lst ys')=H4 at *;clear fu gel gpl hX hY n2 fr2 s0 hey nl0 H2 H3;dsimp only[Ae];obtain⟨ds,hds,hdep⟩:=LK hX4;refine⟨xs,ds,BZ e,.inl (.of gel4),hds,HX hey4,hdep,?_⟩;generalize (ds.any fun e'=>eqD e' (BZ e))=inb;refine Ab (fun _=>?_) (fun _=>⟨_,by lia,xs,ys',_,_,_,_,rfl,gel4,gpl4,hX4,hY4,hxl,by lia,n4,fr4,rfl⟩);clear hds hdep ds;refine AJ (fun σ H'=>∃xs':List V,σ=[some (.ref t),some u,some (.ref p),some (.int k),some (.ref d),some (.ref el),some (.ref pl),some y,z8,z9,z10]/\xs'.length=xs.length+1/\H' el=some (.lst xs')/\H' pl=some (.lst ys')/\It K H' xs' (GoodE ls rs)/\It K H' ys' (GoodE ls rs)/\EntAt K H' e y/\Ps K H' t d (N+177 * xs.length+1) u ls rs/\Fr2 t d H H') ?_ ?_ (by walk_at "sm")
 ·refine⟨.inl ⟨rfl,_,.of gel4⟩,_,.inl ⟨_,.of gel4,rfl⟩,_,n4.F,by lia,Ad (by lia) (Z0 (show(xs.length:Int)+1<=60 by lia) (by decide)),fun z H5 z0 z1 F5 f5=>?_⟩;have n5:=n4.draw F5 f5;have fd5:=DJ (d:=d) f5;have gel5:H5 el=some (.lst xs):=by rw[f5 el het];exact gel4
  have hX5:=CK hX4 fun e x h=>h.fr2 n4 fd5
  have hY5:=CK hY4 fun e x h=>h.fr2 n4 fd5
  have hey5:=hey4.fr2 n4 fd5;refine⟨xs,gel5,z0,by lia,by lia,?_⟩;have fu:Frm el H5 (upd H5 el (.lst (xs.take z.toNat++y::xs.drop z.toNat))):=Frm.updT;refine⟨_,rfl,?_,AD,fu _ _ (Ne.symm hne) (by rw[f5 pl hpt];exact gpl4),fun x hx=>?_,CK hY5 fun e x h=>h.frm fu gel5,hey5.frm fu gel5,n5.putL het gel5 (IZ hX5),fun b o h1 h2 e=>fu _ _ (fun z=>by rw[z,nel]at e;cases e) (fd5 b o h1 h2 (fr4 b o h1 h2 e))⟩
  ·rw[ZG,Zj,ZV,Zr];lia
  ·rcases ZH.mp hx with w | w
   ·obtain⟨e',a1,a2⟩:=hX5 x (ZBW w);exact⟨e',a1.frm fu gel5,a2⟩
   ·rcases ZF.mp w with rfl | w
    ·exact⟨e,hey5.frm fu gel5,he⟩
    ·obtain⟨e',a1,a2⟩:=hX5 x (ZBv w);exact⟨e',a1.frm fu gel5,a2⟩
 clear gel4 gpl4 hX4 hY4 n4 hey4 fr4 H4;rintro σ H4 ⟨xs',rfl,hxl',gel4,gpl4,hX4,hY4,hey4,n4,fr4⟩;have htl:e.1.length<=ls.length:=CC ls.length e.1 (he.up.imp fun h=>ZQ h) he.lt;obtain⟨b,c,rfl,hb,hc'⟩:=id hey4;obtain⟨a,tl,rl,ps,rfl,g⟩:=Bh n4.r
 obtain⟨cnt,ec,c1,c3⟩:∃cnt:Nat,((rs.length:Nat):Int) * (if decide ((1:Int) < e.2)=true then 1 else 0)=(cnt:Int)/\cnt<=rs.length/\(0 < cnt->1 < e.2):=by
  by_cases h:1 < e.2
  ·exact⟨rs.length,by rw[if_pos (ZM h),Int.mul_one],ZD _,fun _=>h⟩
  ·exact⟨0,by rw[if_neg (fun x=>h (ZN x)),Int.mul_zero];rfl,ZU _,fun y=>absurd y (ZZ _)⟩
 refine⟨_,.ref rl,.inr g.two,rfl,rs.length,.inr ⟨_,g.rows,by rw[ZC,g.len]⟩,_,_,.inr hb,Aq (n:=1) rfl rfl,.inr (.inl ⟨Int.lt_of_lt_of_le (show -(2 ^ 64) < (0:Int) by decide) (by lia),ZBP (show(rs.length:Int)<=16 by lia) (by decide)⟩),(cnt:Int),congrArg (fun x=>[V.int x]) ec,by lia,ZBP (show(cnt:Int)<=16 by lia) (by decide),?_⟩;rw[ZY];clear g;refine B8 (fun i σ H'=>∃(ys2:List V) (z8 z9 z10:Option V),σ=[some (.ref t),some (.ref a),some (.ref p),some (.int k),some (.ref d),some (.ref el),some (.ref pl),some (.ref b),z8,z9,z10]/\H' el=some (.lst xs')/\H' pl=some (.lst ys2)/\It K H' xs' (GoodE ls rs)/\It K H' ys2 (GoodE ls rs)/\ys2.length<=ys'.length+i/\SqT K H' b [.ref c,.int e.2]/\SqT K H' c (iL e.1)/\Ps K H' t d (N+177 * xs.length+1+11 * i) (.ref a) ls rs/\Fr2 t d H H') ⟨ys',_,_,_,rfl,gel4,gpl4,hX4,hY4,ZD _,hb,hc',n4,fr4⟩ ?_ ?_;rotate_left
 ·rintro σ H5 ⟨ys2,z8,z9,z10,rfl,gel5,gpl5,hX5,hY5,hyl5,_,_,n5,fr5⟩;exact⟨(60 - xs'.length) * 17+ys2.length,by lia,xs',ys2,_,_,_,_,rfl,gel5,gpl5,hX5,hY5,by lia,by lia,n5.mono (by lia),fr5,rfl⟩
 clear gel4 gpl4 hX4 hY4 n4 hey4 fr4 hb hc' z8 z9 z10;rintro i σ H5 hi ⟨ys2,z8,z9,z10,rfl,gel5,gpl5,hX5,hY5,hyl5,hb5,hc5,n5,fr5⟩;have he2:1 < e.2:=c3 (by lia);have hir:i < rs.length:=by lia
 have er:rs[i]? = some rs[i]:=ZE hir;have hrm:rs[i]∈rs:=Zc hir;generalize rs[i]=r at *;have hsl:sizeLine=16777216:=by decide
 have nod:∀{N':Nat} {Hx:Hp} {q:Addr} {zs:List V},Ps K Hx t d N' (.ref a) ls rs->Hx q=some (.lst zs)->q≠d:=fun n h z=>by
  obtain⟨kvs,h1,_⟩:=n.m;rw[z,h1]at h;cases h
 have hpd:=nod n5 gpl5;have hed:=nod n5 gel5;have hll:∀ans,(AR r ans e.1).length<=16:=fun ans=>by have:=Lp r ans e.1;lia
 have hlr:∀ans,(AR r ans e.1).Pairwise (· < ·):=fun ans=>Jp he.up
 have hlx:∀ans,∀x∈AR r ans e.1,x < ls.length:=fun ans x hx=>he.lt x (mem_lefts.mp hx).1
 dsimp only[Ae];refine AJ (fun σ H'=>∃(l pn py:Addr),σ=[some (.ref t),some (.ref a),some (.ref p),some (.int k),some (.ref d),some (.ref el),some (.ref pl),some (.ref b),some (.int (0+(i:Int))),some (.ref l),z10]/\Same H5 H'/\H' l=some (.lst [.ref pn,.ref py])/\H' pn=some (.tup (iL (AR r false e.1)))/\H' py=some (.tup (iL (AR r true e.1)))/\l≠t) ?_ ?_ (by walk_at "sm")
 ·exact⟨_,.ref c,.inr hb5,Aq (n:=0) rfl rfl,ls,rs,e.1,i,r,n5.r,G,hc5,by lia,he.lt,by rw[Int.zero_add],er,fun l pn py H6 nl s6 gl gn gy=>⟨l,pn,py,rfl,s6,gl,gn,gy,n5.F.neT nl⟩⟩
 rintro σ H6 ⟨l,pn,py,rfl,s6,gl6,gn6,gy6,hlt6⟩;have n6:=n5.same s6;have hld:=nod n6 gl6;refine AJ (fun σ H'=>∃(l2:Addr) (zs:List V),σ=[some (.ref t),some (.ref a),some (.ref p),some (.int k),some (.ref d),some (.ref el),some (.ref pl),some (.ref b),some (.int (0+(i:Int))),some (.ref l2),z10]/\H' l2=some (.lst zs)/\l2≠t/\zs≠[]/\zs.length<=2/\(∀x∈zs,∃(ans:Bool) (ps:Addr),x=.ref ps/\H' ps=some (.tup (iL (AR r ans e.1)))/\Ned ls rs (AR r ans e.1) (e.2 - 1))/\Ps K H' t d (N+177 * xs.length+1+11 * i) (.ref a) ls rs/\Fr2 t d H6 H') ?_ ?_ (by walk_at "sm")
 ·refine .inl ⟨⟨_,.of gl6⟩,?_⟩;refine EZ (xs:=[.ref pn,.ref py]) (fun j zs H'=>Ps K H' t d (N+177 * xs.length+1+11 * i) (.ref a) ls rs/\Fr2 t d H6 H'/\zs.length<=j/\(∀x∈zs,∃(ans:Bool) (ps:Addr),x=.ref ps/\H' ps=some (.tup (iL (AR r ans e.1)))/\Ned ls rs (AR r ans e.1) (e.2 - 1))/\(∀ans:Bool,(if ans=true then 1 else 0) < j->Ned ls rs (AR r ans e.1) (e.2 - 1)->zs≠[])) ⟨n6,Fr2.refl,ZD _,(fun x hx=>by cases hx),fun ans h=>absurd h (ZBN _)⟩ (fun j zs H' _ ⟨_,f,_⟩=>.of (f _ _ hlt6 hld gl6)) (fun j zs H' hj ⟨_,_,hz,_⟩=>by have:j < 2:=hj;lia) ?_ ?_
  ·rintro j x zs H7 hx ⟨n7,fr7,hzl,hzs,hze⟩
   obtain⟨ans,ps2,rfl,hps,hji⟩:∃(ans:Bool) (ps:Addr),x=.ref ps/\H6 ps=some (.tup (iL (AR r ans e.1)))/\j=(if ans=true then 1 else 0):=by
    match j,hx with
    | 0,hx=>cases hx;exact⟨false,pn,rfl,gn6,rfl⟩
    | 1,hx=>cases hx;exact⟨true,py,rfl,gy6,rfl⟩
    | j+2,hx=>simp at hx
   have hps7:=n6.tup fr7 hps;obtain⟨kvs,k1,k2⟩:=n7.m;refine⟨ls,rs,_,kvs,n7.r,G,hE,hps7,hlr ans,hlx ans,by have:=hll ans;lia,k1,k2,fun m kvs' H8 hm f8 hd8 M8=>?_⟩;have n8:=n7.need f8 hd8 M8;have fr8:=Hn (t:=t) f8;have hb8:=Ce n7 fr8 (Ce n6 fr7 (s6.sqT hb5));refine⟨_,_,.inr hb8,Aq (n:=1) rfl rfl,?_⟩
   have hzs8:∀x∈zs,∃(ans:Bool) (ps:Addr),x=.ref ps/\H8 ps=some (.tup (iL (AR r ans e.1)))/\Ned ls rs (AR r ans e.1) (e.2 - 1):=fun x hx=>by
    obtain⟨a',p',h1,h2,h3⟩:=hzs x hx;exact⟨a',p',h1,n7.tup fr8 h2,h3⟩
   refine Ab (fun w=>?_) (fun w=>?_)
   ·have w:e.2 - 1<=(m:Int):=ZN w;refine⟨n8,fr7.trans fr8,by rw[ZG];show _+1<=_;lia,fun x hx=>?_,fun _ _ _=>by simp⟩
    rcases ZH.mp hx with y | y
    ·exact hzs8 x y
    ·rw[ZO]at y;exact⟨ans,ps2,y,n7.tup fr8 hps7,m,hm,w⟩
   ·have w:¬e.2 - 1<=(m:Int):=fun x=>w (ZM x)
    refine⟨n8,fr7.trans fr8,by lia,hzs8,fun ans' h1 h2=>?_⟩
    by_cases y:(if ans'=true then 1 else 0) < j
    ·exact hze ans' y h2
    ·have:ans'=ans:=by cases ans <;> cases ans' <;> simp at hji h1 y ⊢ <;> lia
     subst this;obtain⟨m',h3,h4⟩:=h2
     have:=G8 hm h3
     lia
  ·rintro zs H7 ⟨n7,fr7,hzl,hzs,hze⟩ l2 nl2;have s8:=Same.upd (o:=.lst zs) nl2;obtain⟨ans,ha⟩:=Rp he.ned hrm;refine⟨l2,zs,rfl,AD,n7.F.neT nl2,hze ans (show(if ans=true then 1 else 0) < 2 by cases ans <;> decide) ha,hzl,fun x hx=>?_,n7.same s8,fr7.trans (Fr2.same s8)⟩;obtain⟨a',p',h1,h2,h3⟩:=hzs x hx;exact⟨a',p',h1,s8 _ _ h2,h3⟩
 rintro σ H7 ⟨l2,zs,rfl,gl7,hl2t,hzne,hzl,hzs,n7,fr7⟩;have hz1:1<=zs.length:=by cases zs with | nil=>exact absurd rfl hzne | cons _ _=>simp
 have fr57:Fr2 t d H5 H7:=(Fr2.same s6).trans fr7;refine AJ (fun σ H'=>∃(ans:Bool) (ps:Addr),σ=[some (.ref t),some (.ref a),some (.ref p),some (.int k),some (.ref d),some (.ref el),some (.ref pl),some (.ref b),some (.int (0+(i:Int))),some (.ref l2),some (.ref ps)]/\H' ps=some (.tup (iL (AR r ans e.1)))/\Ned ls rs (AR r ans e.1) (e.2 - 1)/\Ps K H' t d (N+177 * xs.length+1+11 * i+1) (.ref a) ls rs/\Fr2 t d H5 H') ?_ ?_ (by walk_at "sm")
 ·refine⟨zs.length,.inl ⟨_,.of gl7,rfl⟩,_,n7.F,by lia,Ad (by lia) (Z0 (show(zs.length:Int)<=2 by lia) (by decide)),fun z H8 z0 z1 F8 f8=>?_⟩;obtain⟨x,h1,h2⟩:=Gs z0 z1;obtain⟨ans,ps2,rfl,h3,h4⟩:=hzs x h2;have fd8:=DJ (d:=d) f8;exact⟨_,_,.inl (.of (by rw[f8 l2 hl2t];exact gl7)),h1,ans,ps2,rfl,n7.tup fd8 h3,h4,n7.draw F8 f8,fr57.trans fd8⟩
 clear gl7 hzs n7 fr57 fr7 hz1 hzne hzl zs H7;rintro σ H7 ⟨ans,ps2,rfl,g7,hned7,n7,fr7⟩;have gpl7:=fr7 _ _ hpt hpd gpl5;have gel7:=fr7 _ _ het hed gel5;have hb7:=Ce n5 fr7 hb5;have hc7:=Ce n5 fr7 hc5;refine⟨.inl ⟨rfl,_,.of gpl7⟩,_,_,.inr hb7,Aq (n:=1) rfl rfl,_,ls,rs,_,n7,by lia,G,hE,g7,hlr ans,hlx ans,hned7,by lia,fun ts2 p2 H8 g8 u8 x8 d8 n8 fr8=>?_⟩;have hb8:=Ce n7 fr8 hb7;refine⟨_,_,.inr hb8,Aq (n:=1) rfl rfl,smq rfl,fun q2 nq2=>?_⟩;have s9:=Same.upd (o:=.tup [.ref p2,.int (e.2 - 1)]) nq2;have gq9:=AD (H:=H8) (a:=q2) (o:=.tup [.ref p2,.int (e.2 - 1)]);have gpl9:=s9 _ _ (fr8 _ _ hpt hpd gpl7);have gel9:=s9 _ _ (fr8 _ _ het hed gel7);have fr59:Fr2 t d H5 (upd H8 q2 (.tup [.ref p2,.int (e.2 - 1)])):=fr7.trans (fr8.trans (Fr2.same s9));have n9:=n8.same s9;have gp9:=s9 _ _ g8;generalize upd H8 q2 (.tup [.ref p2,.int (e.2 - 1)])=H9 at *;have hX9:=CK hX5 fun e x h=>h.fr2 n5 fr59
 have hY9:=CK hY5 fun e x h=>h.fr2 n5 fr59
 refine⟨ys2,gpl9,by lia,?_⟩;have fu:Frm pl H9 (upd H9 pl (.lst (ys2++[.ref q2]))):=Frm.updT;refine⟨_,_,_,_,rfl,fu _ _ hne gel9,AD,CK hX9 fun e x h=>h.frm fu gpl9,fun x hx=>?_,by rw[ZG];show _+1<=_;lia,BS fu gpl9 CJ (Ce n5 fr59 hb5),BS fu gpl9 CJ (Ce n5 fr59 hc5),(n9.putL hpt gpl9 (IZ hY9)).mono (by lia),fun b' o h1 h2 e'=>fu _ _ (fun z=>by rw[z,hpl0]at e';cases e') (fr59 b' o h1 h2 (fr5 b' o h1 h2 e'))⟩
 rcases ZH.mp hx with w | w
 ·obtain⟨e',a1,a2⟩:=hY9 x w;exact⟨e',a1.frm fu gpl9,a2⟩
 ·rw[ZO]at w;have hle:=he.le;exact⟨(ts2,e.2 - 1),⟨q2,p2,w,BS fu gpl9 CJ (.of gq9),BS fu gpl9 CJ (.of gp9)⟩,u8,x8,d8,by show 1<=e.2 - 1;lia,by show e.2 - 1<=16;lia⟩
structure FE(L:Nat)(M:Int)(e:List Nat × Int):Prop where
 len:e.1.length<=L
 lt:∀x∈e.1,x < 16
 lo:0<=e.2
 hi:e.2<=M
theorem FE.up{L L':Nat}{M M':Int}{e:List Nat × Int}(h:FE L M e)(h1:L<=L')(h2:M<=M'):FE L' M' e:=⟨ZP h.len h1,h.lt,h.lo,Z0 h.hi h2⟩
def Db(K:W.Frag):Sp:=fun vs H Q _=>match vs with
 | [.ref t,u,.ref p]=>∃(N:Nat) (ls:List Int) (rs:List (List Bool)) (es:Aw) (L:Nat) (M:Int),GFeed H t N/\N<=700000000/\Rep K H (gmD ls rs) u/\Gm ls rs/\RepW K H (.tup (es.map AL)) (.ref p)/\(∀e∈es,FE L M e)/\es.length<=100/\L<=30/\6<=M/\M<=1000/\∀(es':Aw) p' H',RepW K H' (.tup (es'.map AL)) (.ref p')->(∀e∈es',FE (L+1) (M+2) e)->es'.length<=es.length+2->GFeed H' t (N+5)->Frm t H H'->Q (.ref p') H'
 | _=>False
theorem SE:AQ (Db K):=fun vs H Q Q' E h q=>by
 unfold Db at *;split at q
 ·revert q;repeat' first | exact h _ _ | exact A4 h | exact out_mono h | exact outT_mono h | walk_at "m"
 ·exact q.elim
theorem UE{H:Hp}{es:Aw}{ua:Addr}{xs:List V}(h:EntsAt K H es ua xs):Reps K H (es.map BZ) xs:=by
 have key:∀(es:Aw) (xs:List V),xs.length=es.length->(∀(i:Nat) (e:List Nat × Int),es[i]? = some e->∃x,xs[i]? = some x/\EntAt K H e x)->Reps K H (es.map BZ) xs:=by
  intro es
  induction es with
  | nil=>intro xs hl _;rw[ZBl.mp hl];exact Am
  | cons e es ih =>
   intro xs hl h;cases xs with
   | nil=>simp at hl
   | cons x xs =>
    obtain⟨x',h1,h2⟩:=h 0 e rfl;cases h1
    exact Ap (HX h2) (ih xs (by simpa using hl) fun i e' he'=>by
     obtain⟨y,a,b⟩:=h (i+1) e' (by simpa using he');exact⟨y,by simpa using a,b⟩)
 exact key es xs h.len h.at_
theorem OU(es:Aw):An (.tup (es.map BZ))<=60:=by
 have:A9 (es.map BZ)<=50:=by
  induction es with
  | nil=>exact ZU _
  | cons e es ih =>
   have h:=Kc e;show max (An (BZ e)) (A9 (es.map BZ))<=50;lia
 show A9 (es.map BZ)+1<=60;lia
theorem Rz(es:Aw):eqD (.tup (es.map BZ)) (.tup [])=decide (es=[]):=by
 rw[GO];cases es with
 | nil=>rfl
 | cons t ts=>rfl
theorem TZ{H:Hp}{es:Aw}{u:V}(h:RepW K H (.tup (es.map AL)) u):∃ua xs,u=.ref ua/\EntsAt K H es ua xs/\RepsW K H (es.map AL) xs:=by
 obtain⟨ua,xs,rfl,hs,hx⟩:=Bg h;refine⟨ua,xs,rfl,⟨hs,by rw[<- hx.length,ZC],fun i e he=>?_⟩,hx⟩;obtain⟨x,h1,h2⟩:=hx.get (i:=i) (d:=AL e) (by rw[ZX,he];rfl);exact⟨x,h1,GH h2⟩
structure Fs(K:W.Frag)(H:Hp)(t:Addr)(N:Nat)(ga:Addr)(ls:List Int)(rs:List (List Bool))(p:Addr)(es:Aw)(xs:List V):Prop where
 F:GFeed H t N
 r:Rep K H (gmD ls rs) (.ref ga)
 E:EntsAt K H es p xs
 w:RepsW K H (es.map AL) xs
section
variable {H H':Hp}{t:Addr}{N N':Nat}{ga p:Addr}{ls:List Int}{rs:List (List Bool)}{es:Aw}{xs:List V}
theorem Fs.same(n:Fs K H t N ga ls rs p es xs)(s:Same H H'):Fs K H' t N ga ls rs p es xs:=⟨n.F.same s,Rep.same s _ _ n.r,n.E.same s,RepsW.same s _ _ n.w⟩
theorem Fs.draw(n:Fs K H t N ga ls rs p es xs)(F:GFeed H' t N')(f:∀b,b≠t->H' b=H b):Fs K H' t N' ga ls rs p es xs:=by
 obtain⟨zs,hz⟩:=n.F.lst;exact⟨F,Rep.frm (Bi f) n.F.lst _ _ (Cj ls rs) n.r,n.E.frm (Bi f) hz CJ,RepsW.frm (Bi f) n.F.lst _ _ n.w⟩
end
theorem UL:FnOk P w K mg base CX0 2 T.f_z22 T.d_z22 ["_law_feed_here","_law_game_here","_law_paper_here"] (Db K):=by
 have G_z35:=@CT P w K mg base T;refine T.F_z22.ok sc_z22 (fun vs H Q E h=>by unfold Db at h;split at h <;> first | rfl | exact h.elim) (fun cdv A outer s H vs Q E hr h=>?_);have hu:=Ag hr;have hr_z35:=hr.mono (show 1<=_ by decide);unfold Db at h;split at h;rotate_left
 ·exact h.elim
 rename_i t u p;obtain⟨N,ls,rs,es,L,M,F,hN,hg,G,hp,hes,hel,hL,hM6,hM,q⟩:=h;obtain⟨ga,tl,rl,ps,rfl,g⟩:=Bh hg;have l16:=G.l16;have l1:=G.l1;obtain⟨ua,xs,ea,E0',hw0⟩:=TZ hp;cases ea;refine⟨_,(@AE _ _ _ _ _ (@Ai _ _ _ _ _ _ _ _ (AX (kEq (K:=K) hu) (vv 2) (AW AB)) (@AF _ _ _ (@AK _ _ _ _ (AW (AA (AW (AA (AW (AA (AH G_z35 hr_z35 rfl T.m_z35 T.F_z35.kp T.b_z35 .nil AG (AA (vv 0) (AA (AT (Av (K:=K)) rfl T.z_len (by rfl) (AA (kIx (K:=K) (vv 1) AC) AB)) AB))) AB)) (AA (AI (BD (K:=K)) AC (AH G_z35 hr_z35 rfl T.m_z35 T.F_z35.kp T.b_z35 .nil AG (AA (vv 0) (AA AC AB)))) AB))) AB)))) Ah) (@AE _ _ _ _ _ (@AS _ _ 3 _ _ _ _ sc_z22.nd rfl (by right) (AH G_z35 hr_z35 rfl T.m_z35 T.F_z35.kp T.b_z35 .nil AG (AA (vv 0) (AA (AT (Av (K:=K)) rfl T.z_len (by rfl) (AA (vv 2) AB)) AB))) (by rfl) (by walk_at "i")) (@AE _ _ _ _ _ (@C9 _ _ _ _ _ _ (kIx (K:=K) (vv 2) (vv 3)) (Fe (K:=K) (n:=2) rfl (B2 (AN (i:=4) sc_z22.nd rfl (by right)) (B2 (AN (i:=5) sc_z22.nd rfl (by right)) Df))) (by rfl) (by rfl) (by rfl)) (@AE _ _ _ _ _ (@AS _ _ 6 _ _ _ _ sc_z22.nd rfl (by right) (AH G_z35 hr_z35 rfl T.m_z35 T.F_z35.kp T.b_z35 .nil AG (AA (vv 0) (AA AC AB))) (by rfl) (by walk_at "i")) (@AE _ _ _ _ _ (@AS _ _ 7 _ _ _ _ sc_z22.nd rfl (by right) (AH G_z35 hr_z35 rfl T.m_z35 T.F_z35.kp T.b_z35 .nil AG (AA (vv 0) (AA (AT (Av (K:=K)) rfl T.z_len (by rfl) (AA (kIx (K:=K) (vv 1) AC) AB)) AB))) (by rfl) (by walk_at "i")) (@AE _ _ _ _ _ (@AS _ _ 8 _ _ _ _ sc_z22.nd rfl (by right) (@A2 _ _ _ _ (AA (AW (AA (vv 4) (AA (AI (BD (K:=K)) (vv 5) AC) AB))) (AA (AW (AA (vv 4) (AA (AI (BD (K:=K)) (vv 5) AC) AB))) (AA (AW (AA (Af (BC (K:=K)) rfl T.z_tuple (by rfl) (AA (AT (Nd (P:=P) (w:=w) rfl) rfl T.z_sorted (by rfl) (AA (Af (Rt (K:=K) (P:=P) (w:=w) rfl) rfl T.z_set (by rfl) (AA (AI (BD (K:=K)) (vv 4) (AW (AA (vv 7) AB))) AB)) AB)) AB)) (AA (vv 5) AB))) (AA (AW (AA (vv 4) (AA AC AB))) AB))))) (by rfl) (by walk_at "i")) (@AE _ _ _ _ _ (@AS _ _ 8 _ _ _ _ sc_z22.nd rfl (by right) (AI (BD (K:=K)) (vv 8) (A2 (AA (AW (AA (Af (BC (K:=K)) rfl T.z_tuple (by rfl) (AA (Ay (N':=["_law_k","_law_one"]) (own:=1) (ix:=[7]) rfl (Az (K:=K) (vv 4)) (by kernel_rfl) rfl rfl (by kernel_rfl) (fun c=>AN (i:=0) (show(["_law_k","_law_one"]:List Str).Nodup by decide +kernel) rfl (by right)) (Aj (by decide)) (fun c=>Cv (AX (kNe (K:=K) hu) (vv 0) (vv 1))) (fun c=>(vv 0))) AB)) (AA (vv 5) AB))) (AA (AW (AA (AW (AA (vv 7) AB)) (AA (vv 5) AB))) (AA (AW (AA (GB (K:=K) (vv 4) (CM CP AC)) (AA (vv 5) AB))) AB))))) (by rfl) (by walk_at "i")) (@AE _ _ _ _ _ (@Ai _ _ _ _ _ _ _ _ (AX B9 (vv 6) AC) (@AF _ _ _ (@AK _ _ _ _ (AI (BD (K:=K)) (AI (BD (K:=K)) (CU (K:=K) (vv 2) Ba (Bf (vv 3))) (AW (AA (kIx (K:=K) (vv 8) (vv 6)) AB))) (CU (K:=K) (vv 2) (Bf (AI (BD (K:=K)) (vv 3) AC)) Ba)))) Ah) (@AF _ _ _ (@AK _ _ _ _ (Gq (AX (kEq (K:=K) hu) (vv 6) AC) (AI (BD (K:=K)) (CU (K:=K) (vv 2) Ba (Bf (vv 3))) (CU (K:=K) (vv 2) (Bf (AI (BD (K:=K)) (vv 3) AC)) Ba)) (AI (BD (K:=K)) (AI (BD (K:=K)) (vv 2) (AW (AA (kIx (K:=K) (vv 2) (vv 3)) AB))) (AW (AA (AW (AA (vv 4) (AA AC AB))) AB)))))))))))))),?_⟩;refine AJ (fun σ H'=>σ=[some (.ref t),some (.ref ga),some (.ref p),none,none,none,none,none,none]/\Same H H'/\es≠[]) ?_ ?_ (by walk_at "sm")
 ·refine⟨smq rfl,fun p0 n0=>?_⟩;have s1:=Same.upd (o:=.tup []) n0;refine⟨.tup (es.map BZ),.tup [],Bt (s1.sqT E0'.sq) (UE (E0'.same s1)),Bt (.of AD) Am,OU es,?_⟩;rw[Rz]
  by_cases he:es=[]
  ·rw[ZM he];have g1:=g.same s1;have F1:=F.same s1;generalize upd H p0 (.tup [])=H1 at *;refine⟨_,.ref tl,.inr g1.two,rfl,ls.length,.inr ⟨_,g1.lab,by rw[ZC]⟩,_,F1,by lia,Ad (by lia) (Z0 (show(ls.length:Int)<=16 by lia) (by decide)),fun y H2 y0 y1 F2 f2=>?_⟩;obtain⟨a,rfl⟩:=ZBO y0;refine⟨smq rfl,fun p1 n1=>?_⟩;have s3:=Same.upd (o:=.tup [.int (a:Int)]) n1;have e3:=AD (H:=H2) (a:=p1) (o:=.tup [.int (a:Int)]);have F3:=F2.same s3;have n1t:=F2.neT n1;generalize upd H2 p1 (.tup [.int (a:Int)])=H3 at *;refine⟨_,F3,by lia,Ad (by decide) (by decide),fun z H4 z0 z1 F4 f4=>⟨smq rfl,fun p2 n2=>⟨smq rfl,fun p3 n3=>?_⟩⟩⟩;have s5:=Same.upd (o:=.tup [.ref p1,.int (1+z)]) n2;have s6:=Same.upd (o:=.tup [.ref p2]) n3;have fr:Frm t H H4:=s1.frm.trans ((Bi f2).trans (s3.frm.trans (Bi f4)));refine q [([a],1+z)] p3 _ (As (.of AD) (Ao (EC ⟨p2,p1,rfl,.of (s6 _ _ AD),.of ((s5.trans s6) _ _ (by rw[f4 p1 n1t];exact e3))⟩) Al)) (fun e he'=>?_) (by show 1<=_;lia) ((F4.same (s5.trans s6)).mono (by lia)) (fr.trans (s5.trans s6).frm);rw[ZO]at he';subst he';exact⟨by show 1<=_;lia,fun x hx=>by rw[ZO]at hx;lia,by show 0<=1+z;lia,by show 1+z<=_;lia⟩
  ·rw[Zu he];exact⟨rfl,s1,he⟩
 rintro σ H1 ⟨rfl,s1,hne⟩;have hl1:1<=es.length:=by cases es with | nil=>exact absurd rfl hne | cons _ _=>simp
 have n1:Fs K H1 t N ga ls rs p es xs:=(show Fs K H t N ga ls rs p es xs from⟨F,hg,E0',hw0⟩).same s1;have hxl:=E0'.len;have frm1:Frm t H H1:=s1.frm;clear g E0' F hg hp hw0;refine AJ (fun σ H'=>∃a:Nat,σ=[some (.ref t),some (.ref ga),some (.ref p),some (.int (a:Int)),none,none,none,none,none]/\a < es.length/\Fs K H' t (N+1) ga ls rs p es xs/\Frm t H H') ?_ ?_ (by walk_at "sm")
 ·refine⟨xs.length,.inr ⟨_,n1.E.sq,rfl⟩,_,n1.F,by lia,Ad (by lia) (Z0 (show(xs.length:Int)<=100 by lia) (by decide)),fun y H2 y0 y1 F2 f2=>?_⟩;obtain⟨a,rfl⟩:=ZBO y0;exact⟨a,rfl,by lia,n1.draw F2 f2,frm1.trans (Bi f2)⟩
 rintro σ H2 ⟨a,rfl,ha,n2,f2⟩;have ee:es[a]? = some es[a]:=ZE ha;have hem:es[a]∈es:=Zc ha;have htkE:es.take a++es.drop (a+1)=es.eraseIdx a:=(List.eraseIdx_eq_take_drop_succ ..).symm;generalize es[a]=e at *;have he:=hes e hem;obtain⟨x,hxa,b,c,rfl,hb,hc⟩:=n2.E.at_ a e ee;have hxat:atI xs (a:Int)=some (.ref b):=Aq rfl hxa;refine AJ (fun σ H'=>σ=[some (.ref t),some (.ref ga),some (.ref p),some (.int (a:Int)),some (.ref c),some (.int e.2),none,none,none]/\H2=H') ?_ ?_ (by walk_at "sm")
 ·exact⟨_,_,.inr n2.E.sq,hxat,_,.inr hb,rfl,_,_,rfl,_,_,rfl,rfl,rfl,rfl⟩
 rintro σ _ ⟨rfl,rfl⟩;refine AJ (fun σ H'=>∃way:Int,σ=[some (.ref t),some (.ref ga),some (.ref p),some (.int (a:Int)),some (.ref c),some (.int e.2),some (.int way),none,none]/\0<=way/\way < 9/\Fs K H' t (N+2) ga ls rs p es xs/\SqT K H' b [.ref c,.int e.2]/\SqT K H' c (iL e.1)/\Frm t H H') ?_ ?_ (by walk_at "sm")
 ·refine⟨_,n2.F,by lia,Ad (by decide) (by decide),fun y H3 y0 y1 F3 f3=>?_⟩;obtain⟨zs,hz⟩:=n2.F.lst;exact⟨y,rfl,y0,y1,n2.draw F3 f3,BS (Bi f3) hz CJ hb,BS (Bi f3) hz CJ hc,f2.trans (Bi f3)⟩
 clear n2 hb hc f2 H2;rintro σ H2 ⟨way,rfl,w0,w9,n2,hb,hc,f2⟩;refine AJ (fun σ H'=>∃o:Nat,σ=[some (.ref t),some (.ref ga),some (.ref p),some (.int (a:Int)),some (.ref c),some (.int e.2),some (.int way),some (.int (o:Int)),none]/\o < 16/\Fs K H' t (N+3) ga ls rs p es xs/\SqT K H' b [.ref c,.int e.2]/\SqT K H' c (iL e.1)/\Frm t H H') ?_ ?_ (by walk_at "sm")
 ·obtain⟨ga',tl,rl,ps,eg,g⟩:=Bh n2.r;cases eg;refine⟨_,.ref tl,.inr g.two,rfl,ls.length,.inr ⟨_,g.lab,by rw[ZC]⟩,_,n2.F,by lia,Ad (by lia) (Z0 (show(ls.length:Int)<=16 by lia) (by decide)),fun y H3 y0 y1 F3 f3=>?_⟩;obtain⟨o,rfl⟩:=ZBO y0;obtain⟨zs,hz⟩:=n2.F.lst;exact⟨o,rfl,by lia,n2.draw F3 f3,BS (Bi f3) hz CJ hb,BS (Bi f3) hz CJ hc,f2.trans (Bi f3)⟩
 clear n2 hb hc f2 H2;rintro σ H2 ⟨o,rfl,ho,n2,hb,hc,f2⟩;have hel1:=he.len;have helt:=he.lt;have helo:=he.lo;have hehi:=he.hi;have fe:∀(ts:List Nat) (k:Int),ts.length<=L+1->(∀x∈ts,x < 16)->0<=k->k<=M+2->FE (L+1) (M+2) (ts,k):=fun ts k h1 h2 h3 h4=>⟨h1,h2,h3,h4⟩
 refine AJ (fun σ H'=>∃(l:Addr) (zs:List V),σ=[some (.ref t),some (.ref ga),some (.ref p),some (.int (a:Int)),some (.ref c),some (.int e.2),some (.int way),some (.int (o:Int)),some (.ref l)]/\H' l=some (.lst zs)/\zs.length=4/\It K H' zs (FE (L+1) (M+2))/\Fs K H' t (N+3) ga ls rs p es xs/\SqT K H' b [.ref c,.int e.2]/\SqT K H' c (iL e.1)/\Frm t H H') ?_ ?_ (by walk_at "sm")
 ·refine⟨smq rfl,fun p1 m1=>⟨smq rfl,fun p2 m2=>⟨smq rfl,fun p3 m3=>?_⟩⟩⟩;have s1':=Same.upd (o:=.tup [.ref c,.int (e.2+1)]) m1;have s2':=Same.upd (o:=.tup [.ref c,.int (e.2+2)]) m2;have s3':=Same.upd (o:=.tup [.int (o:Int)]) m3;have S3:=s1'.trans (s2'.trans s3');have g1':=(s2'.trans s3') _ _ (AD (H:=H2) (a:=p1) (o:=.tup [.ref c,.int (e.2+1)]));have g2':=s3' _ _ (AD (H:=upd H2 p1 (.tup [.ref c,.int (e.2+1)])) (a:=p2) (o:=.tup [.ref c,.int (e.2+2)]));have g3':=AD (H:=upd (upd H2 p1 (.tup [.ref c,.int (e.2+1)])) p2 (.tup [.ref c,.int (e.2+2)])) (a:=p3) (o:=.tup [.int (o:Int)]);generalize upd (upd (upd H2 p1 (.tup [.ref c,.int (e.2+1)])) p2 (.tup [.ref c,.int (e.2+2)])) p3 (.tup [.int (o:Int)])=H3 at *;refine .inr ⟨_,_,S3.sqT hc,.of g3',B7 (by rw[Ax];show _+1<=_;lia),fun p4 H4 s4 t4=>?_⟩
  have t4':SqT K H4 p4 (((e.1++[o]).map fun(t:Nat)=>((t:Nat):Int)).map V.int):=by
   have:iL e.1++[V.int (o:Int)]=((e.1++[o]).map fun(t:Nat)=>((t:Nat):Int)).map V.int:=by
    rw[ZK,ZK,Z5];rfl
   rw[<- this];exact t4
  refine⟨_,t4',by rw[ZC,ZG];show _+1<=_;lia,fun ds qs nd hmem hqs=>?_⟩
  have hdl:ds.length<=L+1:=by
   have:=IX nd fun z hz=>(hmem z).mp hz
   rw[ZC,ZG]at this;exact ZP this (show e.1.length+1<=L+1 by lia)
  refine⟨ds,AD,by lia,fun ms l2 hml hmm _ hl2=>⟨_,.inl ⟨.of AD,fun p5 n5=>?_⟩⟩⟩;have s5:=Same.upd (o:=.ext (Cf P w qs ds)) hqs;have s6:=Same.upd (o:=.lst (ms.map V.int)) hl2;have s7:=Same.upd (o:=.tup (ms.map V.int)) n5;have S47:=s5.trans (s6.trans s7);have g7:=AD (H:=upd (upd H4 qs (.ext (Cf P w qs ds))) l2 (.lst (ms.map V.int))) (a:=p5) (o:=.tup (ms.map V.int))
  obtain⟨us,hus⟩:∃us:List Nat,ms=us.map fun(t:Nat)=>((t:Nat):Int):=by
   refine⟨ms.map Int.toNat,?_⟩;rw[Z5];symm;rw[ZCD (g:=id) fun z hz=>?_,List.map_id];obtain⟨y,_,rfl⟩:=ZT.mp ((hmem z).mp ((hmm z).mp hz))
   show((Int.toNat (y:Int):Nat):Int)=(y:Int)
   rw[ZY]
  have hul:us.length<=L+1:=by rw[hus,ZC]at hml;lia
  have hult:∀x∈us,x < 16:=fun x hx=>by
   have h1:((x:Nat):Int)∈ms:=by rw[hus];exact ZT.mpr ⟨x,hx,rfl⟩
   obtain⟨y,hy,e1⟩:=ZT.mp ((hmem _).mp ((hmm _).mp h1));have e2:y=x:=by have e1:(y:Int)=(x:Int):=e1;lia
   rw[<- e2]
   rcases ZH.mp hy with z | z
   ·exact helt y z
   ·rw[ZO]at z;lia
  have hms:ms.map V.int=iL us:=by rw[hus,Z5];rfl
  rw[hms]at g7;rw[hms]at s7 S47;rw[hms];generalize upd (upd (upd H4 qs (.ext (Cf P w qs ds))) l2 (.lst (iL us))) p5 (.tup (iL us))=H7 at *;refine⟨smq rfl,fun p6 n6=>⟨smq rfl,fun p7 n7=>⟨smq rfl,fun l nl=>?_⟩⟩⟩;have s8:=Same.upd (o:=.tup [.ref p5,.int e.2]) n6;have s9:=Same.upd (o:=.tup [.ref c,.int 0]) n7;have s10:=Same.upd (o:=.lst [.ref p1,.ref p2,.ref p6,.ref p7]) nl;have S:=s8.trans (s9.trans s10);have S37:=s4.trans S47;have S7:=S3.trans S37;have hcS:=(S7.trans S).sqT hc;refine⟨l,_,rfl,AD,rfl,fun x hx=>?_,n2.same (S7.trans S),(S7.trans S).sqT hb,hcS,f2.trans (S7.trans S).frm⟩;simp only[ZF,Zn,or_false]at hx
  rcases hx with rfl | rfl | rfl | rfl
  ·exact⟨(e.1,e.2+1),⟨p1,c,rfl,.of ((S37.trans S) _ _ g1'),hcS⟩,fe _ _ (by lia) helt (by lia) (by lia)⟩
  ·exact⟨(e.1,e.2+2),⟨p2,c,rfl,.of ((S37.trans S) _ _ g2'),hcS⟩,fe _ _ (by lia) helt (by lia) (by lia)⟩
  ·exact⟨(us,e.2),⟨p6,p5,rfl,.of ((s9.trans s10) _ _ AD),.of (S _ _ g7)⟩,fe _ _ hul hult (by lia) (by lia)⟩
  ·exact⟨(e.1,0),⟨p7,c,rfl,.of (s10 _ _ AD),hcS⟩,fe _ _ (by lia) helt (by lia) (by lia)⟩
 clear n2 hb hc f2 H2;rintro σ H2 ⟨l,zs,rfl,gl,hzl,hI,n2,hb,hc,f2⟩;refine AJ (fun σ H'=>∃(l:Addr) (zs:List V),σ=[some (.ref t),some (.ref ga),some (.ref p),some (.int (a:Int)),some (.ref c),some (.int e.2),some (.int way),some (.int (o:Int)),some (.ref l)]/\H' l=some (.lst zs)/\zs.length=7/\It K H' zs (FE (L+1) (M+2))/\Fs K H' t (N+3) ga ls rs p es xs/\SqT K H' b [.ref c,.int e.2]/\SqT K H' c (iL e.1)/\Frm t H H') ?_ ?_ (by walk_at "sm")
 ·refine .inr ⟨⟨_,hc⟩,?_⟩
  refine Bk (xs:=iL e.1) (fun j ys H'=>H'=H2/\ys=iL ((e.1.take j).filter fun k=>decide (k≠o))) ⟨rfl,rfl⟩ (fun j ys H' _ ⟨e,_⟩=>by rw[e];exact hc) (fun j ys H' hj ⟨_,e'⟩=>by
   rw[Ax]at hj;rw[e',Ax];exact ZBe (ZBu _ _) (by rw[ZV];exact Ak (by lia))) ?_ ?_
  ·rintro j x ys H' hx ⟨rfl,rfl⟩;obtain⟨k,hk,_,rfl⟩:=Cy hx;rw[Zi,hk,ZB1]
   have e2:(true ^^ ((k:Int) == (o:Int)))=decide (k≠o):=by
    by_cases y:k=o
    ·subst y;simp
    ·have:¬(k:Int)=(o:Int):=by lia
     simp[y,this]
   show if (true ^^ ((k:Int) == (o:Int)))=true then _ else _
   rw[e2];refine Ab (fun h=>?_) (fun h=>?_)
   ·refine⟨rfl,?_⟩;show _=iL (_++List.filter _ [k]);rw[ZBI,if_pos h,ZB4,DG];rfl
   ·refine⟨rfl,?_⟩;show _=iL (_++List.filter _ [k]);rw[ZBI,if_neg h,ZB4,Z4]
  ·rintro ys H' ⟨rfl,rfl⟩ l4 nl4;rw[Ax,Zm];have hfl:(e.1.filter fun k=>decide (k≠o)).length<=L+1:=ZP (ZBu _ _) (by lia);have hflt:∀x∈(e.1.filter fun k=>decide (k≠o)),x < 16:=fun x hx=>helt x (Z9.mp hx).1
   generalize (e.1.filter fun k=>decide (k≠o))=fs at *;refine⟨_,.inl ⟨.of AD,fun p1 m1=>⟨smq rfl,fun p2 m2=>⟨smq rfl,fun p3 m3=>⟨smq rfl,fun p4 m4=>?_⟩⟩⟩⟩⟩;have s0:=Same.upd (o:=.lst (iL fs)) nl4;have s1':=Same.upd (o:=.tup (iL fs)) m1;have s2':=Same.upd (o:=.tup [.ref p1,.int e.2]) m2;have s3':=Same.upd (o:=.tup [.int (o:Int)]) m3;have s4':=Same.upd (o:=.tup [.ref p3,.int e.2]) m4;have S4:=s0.trans (s1'.trans (s2'.trans (s3'.trans s4')));have g1:=(s2'.trans (s3'.trans s4')) _ _ (AD (H:=upd H' l4 (.lst (iL fs))) (a:=p1) (o:=.tup (iL fs)));have g2:=(s3'.trans s4') _ _ (AD (H:=upd (upd H' l4 (.lst (iL fs))) p1 (.tup (iL fs))) (a:=p2) (o:=.tup [.ref p1,.int e.2]));have g3:=s4' _ _ (AD (H:=upd (upd (upd H' l4 (.lst (iL fs))) p1 (.tup (iL fs))) p2 (.tup [.ref p1,.int e.2])) (a:=p3) (o:=.tup [.int (o:Int)]));have g4:=AD (H:=upd (upd (upd (upd H' l4 (.lst (iL fs))) p1 (.tup (iL fs))) p2 (.tup [.ref p1,.int e.2])) p3 (.tup [.int (o:Int)])) (a:=p4) (o:=.tup [.ref p3,.int e.2]);generalize upd (upd (upd (upd (upd H' l4 (.lst (iL fs))) p1 (.tup (iL fs))) p2 (.tup [.ref p1,.int e.2])) p3 (.tup [.int (o:Int)])) p4 (.tup [.ref p3,.int e.2])=H4 at *;refine⟨rfl,_,S4.sqT hc,fun p5 m5=>⟨smq rfl,fun p6 m6=>⟨smq rfl,fun l5 m7=>?_⟩⟩⟩;have erev:(iL e.1).reverse=iL e.1.reverse:=by unfold iL;rw[List.map_reverse]
   have s5':=Same.upd (o:=.tup (iL e.1).reverse) m5;have s6':=Same.upd (o:=.tup [.ref p5,.int e.2]) m6;have s7':=Same.upd (o:=.lst [.ref p2,.ref p4,.ref p6]) m7;have S57:=s5'.trans (s6'.trans s7');have g5:=(s6'.trans s7') _ _ (AD (H:=H4) (a:=p5) (o:=.tup (iL e.1).reverse));have g6:=s7' _ _ (AD (H:=upd H4 p5 (.tup (iL e.1).reverse)) (a:=p6) (o:=.tup [.ref p5,.int e.2]));have g7:=AD (H:=upd (upd H4 p5 (.tup (iL e.1).reverse)) p6 (.tup [.ref p5,.int e.2])) (a:=l5) (o:=.lst [.ref p2,.ref p4,.ref p6]);have S7:=S4.trans S57;refine .inl ⟨l,l5,_,_,rfl,rfl,S7 _ _ gl,g7,B7 (by rw[hzl];show 4+3<=1000;decide),fun l6 m8=>?_⟩;have s8:=Same.upd (o:=.lst (zs++[.ref p2,.ref p4,.ref p6])) m8;have S8:=S7.trans s8;refine⟨l6,_,rfl,AD,by rw[ZG,hzl];rfl,fun x hx=>?_,n2.same S8,S8.sqT hb,S8.sqT hc,f2.trans S8.frm⟩
   rcases ZH.mp hx with y | y
   ·obtain⟨e',h1,h2⟩:=hI x y;exact⟨e',h1.same S8,h2⟩
   ·simp only[ZF,Zn,or_false]at y;have S58:=S57.trans s8
    rcases y with rfl | rfl | rfl
    ·exact⟨(fs,e.2),⟨p2,p1,rfl,.of (S58 _ _ g2),.of (S58 _ _ g1)⟩,fe _ _ hfl hflt (by lia) (by lia)⟩
    ·exact⟨([o],e.2),⟨p4,p3,rfl,.of (S58 _ _ g4),.of (S58 _ _ g3)⟩,fe _ _ (by show 1<=_;lia) (fun x hx=>by rw[ZO]at hx;lia) (by lia) (by lia)⟩
    ·exact⟨(e.1.reverse,e.2),⟨p6,p5,rfl,.of (s8 _ _ g6),(show SqT K _ p5 (iL e.1.reverse) from by rw[<- erev];exact .of (s8 _ _ g5))⟩,fe _ _ (by rw[List.length_reverse];lia) (fun x hx=>helt x (ZBX.mp hx)) (by lia) (by lia)⟩
 clear n2 hb hc f2 gl hzl hI zs l H2;rintro σ H2 ⟨l,zs,rfl,gl,hzl,hI,n2,hb,hc,f2⟩;have hsl:sizeLine=16777216:=by decide
 have ea1:((a:Int)+1)=((a+1:Nat):Int):=by lia
 have c1:A1 xs none (some ((a:Nat):Int))=xs.take a:=E4 _ _ (by lia);have c2:A1 xs (some ((a:Int)+1)) none=xs.drop (a+1):=by rw[ea1];exact FF _ _ (by lia)
 have tl1:(xs.take a).length<=100:=by rw[ZV];lia
 have dl1:(xs.drop (a+1)).length<=100:=by rw[Zr];lia
 have hes':∀e'∈es,FE (L+1) (M+2) e':=fun e' h=>(hes e' h).up (by lia) (by lia)
 refine Ab (fun w=>?_) (fun w=>?_)
 ·have w:way < 7:=ZN w;obtain⟨x,h1,h2⟩:=Gs (xs:=zs) w0 (by lia);obtain⟨e',hx',hfe⟩:=hI x h2;refine⟨_,rfl,_,n2.E.sq,fun q1 H3 s3 t3=>⟨_,_,.inl (.of (s3 _ _ gl)),h1,smq rfl,fun q2 m2=>.inr ⟨_,_,(Same.upd m2).sqT t3,.of AD,by rw[c1];show _+1<=_;lia,fun q3 H4 s4 t4=>⟨_,rfl,_,(((s3.trans (Same.upd m2)).trans s4)).sqT n2.E.sq,fun q4 H5 s5 t5=>.inr ⟨_,_,s5.sqT t4,t5,by rw[c1,c2,ZG];show _+1+_<=_;lia,fun q5 H6 s6 t6=>?_⟩⟩⟩⟩⟩;have S6:=((s3.trans (Same.upd (o:=.tup [x]) m2)).trans s4).trans (s5.trans s6);rw[c1,c2]at t6;have hw6:=RepsW.same S6 _ _ n2.w
  have r6:RepsW K H6 ((es.take a++[e']++es.drop (a+1)).map AL) (xs.take a++[x]++xs.drop (a+1)):=by
   rw[ZK,ZK,ZBs,ZB3];exact RepsW.append (RepsW.append (hw6.take a) (Ao (EC (hx'.same S6)) Al)) (hw6.drop (a+1))
  refine q _ q5 H6 (As t6 r6) (fun y hy=>?_) (by rw[ZG,ZG,ZV,Zr];show _+1+_<=_;lia) ((n2.F.same S6).mono (by lia)) (f2.trans S6.frm)
  rcases ZH.mp hy with hy | hy
  ·rcases ZH.mp hy with hy | hy
   ·exact hes' y (ZBW hy)
   ·rw[ZO]at hy;rw[hy];exact hfe
  ·exact hes' y (ZBv hy)
 ·by_cases w7:way=7
  ·subst w7;refine⟨_,rfl,_,n2.E.sq,fun q1 H3 s3 t3=>⟨_,rfl,_,s3.sqT n2.E.sq,fun q2 H4 s4 t4=>.inr ⟨_,_,s4.sqT t3,t4,by rw[c1,c2];lia,fun q3 H5 s5 t5=>?_⟩⟩⟩;have S5:=s3.trans (s4.trans s5);rw[c1,c2]at t5;have hw5:=RepsW.same S5 _ _ n2.w
   have r5:RepsW K H5 ((es.take a++es.drop (a+1)).map AL) (xs.take a++xs.drop (a+1)):=by
    rw[ZK,ZBs,ZB3];exact RepsW.append (hw5.take a) (hw5.drop (a+1))
   refine q _ q3 H5 (As t5 r5) (fun y hy=>?_) (by rw[ZG,ZV,Zr];lia) ((n2.F.same S5).mono (by lia)) (f2.trans S5.frm)
   rcases ZH.mp hy with hy | hy
   ·exact hes' y (ZBW hy)
   ·exact hes' y (ZBv hy)
  ·have e0:(false ^^ (way == (7:Int)))=false:=by simp[w7]
   show if (false ^^ (way == (7:Int)))=true then _ else _
   rw[e0];refine⟨_,_,.inr n2.E.sq,hxat,smq rfl,fun q1 m1=>.inr ⟨_,_,(Same.upd m1).sqT n2.E.sq,.of AD,by show _+1<=_;lia,fun q2 H3 s3 t3=>⟨smq rfl,fun q3 m3=>⟨smq rfl,fun q4 m4=>.inr ⟨_,_,((Same.upd m3).trans (Same.upd m4)).sqT t3,.of AD,by rw[ZG];show _+1+1<=_;lia,fun q5 H6 s6 t6=>?_⟩⟩⟩⟩⟩;have s1':=Same.upd (o:=.tup [.ref b]) m1;have s3':=Same.upd (o:=.tup [.ref c,.int 1]) m3;have s4':=Same.upd (o:=.tup [.ref q3]) m4;have S6:=(s1'.trans s3).trans ((s3'.trans s4').trans s6);have hw6:=RepsW.same S6 _ _ n2.w
   have r6:RepsW K H6 ((es++[e]++[(e.1,1)]).map AL) (xs++[.ref b]++[.ref q3]):=by
    rw[ZK,ZK];exact RepsW.append (RepsW.append hw6 (Ao (EC ⟨b,c,rfl,S6.sqT hb,S6.sqT hc⟩) Al)) (Ao (EC ⟨q3,c,rfl,.of ((s4'.trans s6) _ _ AD),S6.sqT hc⟩) Al)
   refine q _ q5 H6 (As t6 r6) (fun y hy=>?_) (by rw[ZG,ZG];exact ZD _) ((n2.F.same S6).mono (by lia)) (f2.trans S6.frm)
   rcases ZH.mp hy with hy | hy
   ·rcases ZH.mp hy with hy | hy
    ·exact hes' y hy
    ·rw[ZO]at hy;rw[hy];exact he.up (by lia) (by lia)
   ·rw[ZO]at hy;rw[hy];exact fe _ _ (by lia) helt (by lia) (by lia)
theorem JM{K:W.Frag}{H:Hp}{ds:List Dw}{xs:List V}(lo hi:Option Int)(r:RepsW K H ds xs):∃i k,RepsW K H ((ds.drop i).take k) (A1 xs lo hi):=by
 unfold A1;exact⟨_,_,(r.drop _).take _⟩
theorem De{K:W.Frag}{H H':Hp}{t a:Addr}{xs:List V}(f:Frm t H H')(ht:∃zs,H t=some (.lst zs))(h:SqT K H a xs):SqT K H' a xs:=by
 obtain⟨zs,hz⟩:=ht
 rcases h with (h1 | ⟨o,h1⟩) | h1
 ·exact .inl (.inl (f a _ (fun q=>by rw[q,hz]at h1;cases h1) h1))
 ·exact .inl (.inr ⟨o,f a _ (fun q=>by rw[q,hz]at h1;cases h1) h1⟩)
 ·exact .inr h1
theorem szl{n:Nat}(h:n<=100000):n<=sizeLine:=by
 have e:sizeLine=16777216:=by decide
 lia
def spB(K:W.Frag)(D:Nat):Sp:=fun vs H Q _=>match vs with
 | [.ref t,v]=>∃(d:Dw) (N n D' B:Nat),GFeed H t N/\N+2 * D<=700000000/\RepW K H d v/\Fit n D' B d/\D' < D/\B<=8000/\100000000000000000000<=n/\n<=1000000000000000000000/\∀d' u H',RepW K H' d' u->Fit (n+1) (D'+1) (2 * B+62) d'->GFeed H' t (N+2 * D)->Frm t H H'->Q u H'
 | _=>False
theorem Ld{D:Nat}:AQ (spB K D):=fun vs H Q Q' E h q=>by
 unfold spB at *;split at q
 ·revert q;repeat' first | exact h _ _ | exact A4 h | exact out_mono h | exact outT_mono h | walk_at "m"
 ·exact q.elim
theorem Mt:∀D:Nat,FnOk P w K mg base CX0 (1+D) T.f_z39 T.d_z39 ["_law_feed_here","_law_thing"] (spB K D):=by
 intro D
 induction D with
 | zero =>
  refine T.F_z39.ok sc_z39 (fun vs H Q E h=>by unfold spB at h;split at h <;> first | rfl | exact h.elim) (fun cdv A outer s H vs Q E hr h=>?_);refine⟨LC,Qq,?_⟩;unfold spB at h;split at h
  ·obtain⟨d,N,n,D',B,h1,h2,h3,h4,h5,_⟩:=h;exact absurd h5 (by lia)
  ·exact h
 | succ D ih =>
  have G_z39:=ih;have G_z35:=@CT P w K mg base T;refine T.F_z39.ok sc_z39 (fun vs H Q E h=>by unfold spB at h;split at h <;> first | rfl | exact h.elim) (fun cdv A outer s H vs Q E hr h=>?_);have hu:=Ag hr;have hr_z39:=hr;have hr_z35:=hr.mono (show 1<=1+D by lia);have mo:AQ (spB K D):=Ld
  match vs,h with
  | [.ref t,v],h =>
  obtain⟨d,N,n,D',B,F,hN,hd,fit,hD,hB,n20,n21,q⟩:=h;refine⟨_,(@AE _ _ _ _ _ (@Ai _ _ _ _ _ _ _ _ (PW.pt (Ct (A7 (AT (BX (K:=K)) rfl T.z_isinstance (by rfl) (AA (vv 1) (AA (BU (v:=.ty "tuple") rfl T.z_tuple (by rfl) rfl) AB)))) (Ct (AX (Gu (K:=K) hu) (vv 1) (AW AB)) (C2 (AX Cg (AH G_z35 hr_z35 rfl T.m_z35 T.F_z35.kp T.b_z35 .nil AG (AA (vv 0) (AA AC AB))) AC))))) (@AE _ _ _ _ _ (@AS _ _ 2 _ _ _ _ sc_z39.nd rfl (by right) (AH G_z35 hr_z35 rfl T.m_z35 T.F_z35.kp T.b_z35 .nil AG (AA (vv 0) (AA (AT (Av (K:=K)) rfl T.z_len (by rfl) (AA (vv 1) AB)) AB))) (by rfl) (by walk_at "i")) (@AF _ _ _ (@AK _ _ _ _ (AI (BD (K:=K)) (AI (BD (K:=K)) (CU (K:=K) (vv 1) Ba (Bf (vv 2))) (AW (AA (AH G_z39 hr_z39 rfl T.m_z39 T.F_z39.kp T.b_z39 .nil AG (AA (vv 0) (AA (kIx (K:=K) (vv 1) (vv 2)) AB))) AB))) (CU (K:=K) (vv 1) (Bf (AI (BD (K:=K)) (vv 2) AC)) Ba))))) Ah) (@AE _ _ _ _ _ (@Ai _ _ _ _ _ _ _ _ (A7 (AT (BX (K:=K)) rfl T.z_isinstance (by rfl) (AA (vv 1) (AA (BU (v:=.ty "tuple") rfl T.z_tuple (by rfl) rfl) AB)))) (@AE _ _ _ _ _ (@AS _ _ 3 _ _ _ _ sc_z39.nd rfl (by right) (AH G_z35 hr_z35 rfl T.m_z35 T.F_z35.kp T.b_z35 .nil AG (AA (vv 0) (AA AC AB))) (by rfl) (by walk_at "i")) (@AF _ _ _ (@AK _ _ _ _ (kIx (K:=K) (@A2 _ _ _ _ (AA (Af (Rl (K:=K)) rfl T.z_list (by rfl) (AA (vv 1) AB)) (AA (CU (K:=K) (vv 1) (Bf AC) Ba) (AA (AI (BD (K:=K)) (vv 1) (CU (K:=K) (vv 1) (Bf (CM CP AC)) Ba)) (AA (GB (K:=K) (vv 1) (CM CP AC)) (AA (AI (BD (K:=K)) (vv 1) (AW (AA AC AB))) (AA (AW AB) AB))))))) (vv 3))))) Ah) (@AE _ _ _ _ _ (@Ai _ _ _ _ _ _ _ _ (A7 (AT (BX (K:=K)) rfl T.z_isinstance (by rfl) (AA (vv 1) (AA (BU (v:=.ty "bool") rfl T.z_bool (by rfl) rfl) AB)))) (@AF _ _ _ (@AK _ _ _ _ (kIx (K:=K) (@A2 _ _ _ _ (AA (Er (vv 1)) (AA (Af DE rfl T.z_int (by rfl) (AA (vv 1) AB)) (AA C6 AB)))) (AH G_z35 hr_z35 rfl T.m_z35 T.F_z35.kp T.b_z35 .nil AG (AA (vv 0) (AA AC AB)))))) Ah) (@AE _ _ _ _ _ (@Ai _ _ _ _ _ _ _ _ (A7 (AT (BX (K:=K)) rfl T.z_isinstance (by rfl) (AA (vv 1) (AA (BU (v:=.ty "int") rfl T.z_int (by rfl) rfl) AB)))) (@AF _ _ _ (@AK _ _ _ _ (kIx (K:=K) (@A2 _ _ _ _ (AA (AI (BD (K:=K)) (vv 1) AC) (AA (AI CS (vv 1) AC) (AA (A8 (kEq (K:=K) hu) (vv 1) AC) (AA (CM CP (vv 1)) (AA (Af Os rfl T.z_str (by rfl) (AA (vv 1) AB)) (AA C6 (AA AC (AA (AI IG AC AC) AB))))))))) (AH G_z35 hr_z35 rfl T.m_z35 T.F_z35.kp T.b_z35 .nil AG (AA (vv 0) (AA AC AB)))))) Ah) (@AF _ _ _ (@AK _ _ _ _ (@kIx _ K _ _ _ _ _ (@A2 _ _ _ _ (AA C6 (AA A5 (AA A5 (AA AC (AA AC (AA (CM CP AC) (AA FS (AA FS (AA FS (AA (AW AB) (AA (@Gc _ _ _ _ AB) (AA Hl (AA (AW (AA AC AB)) (AA FS AB))))))))))))))) (AH G_z35 hr_z35 rfl T.m_z35 T.F_z35.kp T.b_z35 .nil AG (AA (vv 0) (AA AC AB))) (by intro _ _;rfl) (by rfl)))))))),?_⟩
  have fin:∀(H1 H2:Hp) (N1:Nat) (l:Addr) (zs:List V) (i:Int),0<=i->i < zs.length->H1 l=some (.lst zs)->l≠t->(∃ys,H1 t=some (.lst ys))->GFeed H2 t N1->N1<=N+2 * (D+1)->(∀b,b≠t->H2 b=H1 b)->Frm t H H1 ->
   (∀z∈zs,∃d',RepW K H1 d' z/\Fit (n+1) (D'+1) (2 * B+62) d')->mIx K (.ref l) (.int i) H2 Q:=by
   intro H1 H2 N1 l zs i i0 i1 gl lt ht F2 hN1 f2 f1 hz;obtain⟨z,h1,h2⟩:=Gs i0 i1;obtain⟨d',r,ft⟩:=hz z h2;exact⟨_,z,.inl (.of (by rw[f2 l lt];exact gl)),h1,q d' z H2 (RepW.frm (Aa f2) ht _ _ r) ft (F2.mono (by lia)) (f1.trans (Aa f2))⟩
  by_cases ht:∃ds,d=.tup ds
  ·obtain⟨ds,rfl⟩:=ht;obtain⟨a,xs,rfl,hs,hx⟩:=Bg hd;have hxl:=hx.length
   obtain⟨D0,rfl⟩:∃D0,D'=D0+1:=⟨D' - 1,by
    have:=fit.dep
    unfold Au at this;lia⟩
   obtain⟨fi,fb⟩:=fit_tup.mp fit;have hlen:=DT ds;have fi':∀e∈ds,okW (n+1) e=true/\Au e<=D0+1:=fun e he=>⟨IS (by lia) _ (fi e he).1,by have:=(fi e he).2;lia⟩
   refine AJ (fun σ H'=>σ=[some (.ref t),some (.ref a),none,none]/\GFeed H' t (N+1)/\Frm t H H') ?_ ?_ (by walk_at "sm")
   ·refine⟨by decide,_,hd,?_⟩;refine⟨smq rfl,fun p0 hp0=>?_⟩;have s0:Same H (upd H p0 (.tup [])):=Same.upd hp0;have g0:upd H p0 (.tup []) p0=some (.tup []):=AD;generalize upd H p0 (.tup [])=H0 at *;have f0:Frm t H H0:=fun b o _ e=>s0 b o e
    have F0:=F.same s0;refine⟨xs,.inl ⟨s0.sqT hs,.of g0⟩,?_⟩;refine Ab (fun e=>?_) (fun e=>⟨rfl,F0.mono (by lia),f0⟩);refine⟨_,F0,by lia,Ad (by decide) (by decide),fun k H1 _ _ F1 f1=>?_⟩;have f01:=f0.trans (Aa f1);refine Ab (fun e'=>?_) (fun e'=>⟨rfl,F1,f01⟩);have hs1:SqT K H1 a xs:=De f01 F.lst hs;have hx1:RepsW K H1 ds xs:=RepsW.frm f01 F.lst _ _ hx;have hne:1<=xs.length:=by cases xs with | nil=>simp at e | cons _ _=>simp
    refine⟨xs.length,.inr ⟨xs,hs1,rfl⟩,?_⟩;refine⟨_,F1,by lia,Ad (by lia) (Z0 (show(xs.length:Int)<=8000 by lia) (by decide)),fun k2 H2 k0 k1 F2 f2=>?_⟩;obtain⟨j,rfl⟩:∃j:Nat,k2=j:=⟨k2.toNat,by lia⟩;have hj:j < xs.length:=by lia
    have hs2:SqT K H2 a xs:=De (Aa f2) F1.lst hs1;have hx2:RepsW K H2 ds xs:=RepsW.frm (Aa f2) F1.lst _ _ hx1;dsimp only[Ae];refine⟨(j:Int),rfl,xs,hs2,fun q1 H3 s3 t3=>?_⟩;rw[E4 _ j (by lia)]at t3;have hjd:j < ds.length:=by lia
    have hk:=ZE hjd;obtain⟨y,hy,ry⟩:=hx2.get hk;have hmem:=Zc hjd;have hat:=RV hk;generalize ds[j]=e0 at *;refine⟨_,y,.inr (s3.sqT hs2),Aq rfl hy,?_⟩;have F3:=F2.same s3;refine⟨e0,_,n,D0,AY e0,F3,by lia,RepW.same s3 _ _ ry,⟨(fi e0 hmem).1,(fi e0 hmem).2,ZD _⟩,by lia,by lia,n20,n21,fun d' u H4 r4 ft4 F4 f4=>?_⟩;have t4:SqT K H4 q1 (xs.take j):=De f4 F3.lst t3;have hs4:SqT K H4 a xs:=De f4 F3.lst (s3.sqT hs2);have hx4:RepsW K H4 ds xs:=RepsW.frm f4 F3.lst _ _ (RepsW.same s3 _ _ hx2);refine⟨smq rfl,fun q2 hq2=>?_⟩;have s5:Same H4 (upd H4 q2 (.tup [u])):=Same.upd hq2;have t5:SqT K (upd H4 q2 (.tup [u])) q2 [u]:=.of AD;generalize upd H4 q2 (.tup [u])=H5 at *;refine .inr ⟨_,_,s5.sqT t4,t5,szl (by rw[ZV];show _+1<=_;lia),fun q3 H6 s6 t6=>?_⟩;have s46:=s5.trans s6;refine⟨(j+1:Nat),rfl,xs,s46.sqT hs4,fun q4 H7 s7 t7=>?_⟩;rw[FF _ (j+1) (by lia)]at t7;refine .inr ⟨_,_,s7.sqT t6,t7,szl (by rw[ZG,ZV,Zr];show _+1+_<=_;lia),fun q5 H8 s8 t8=>?_⟩;have s48:=s46.trans (s7.trans s8);have hx8:=RepsW.same s48 _ _ hx4;have ft:=ft4;refine q (.tup (ds.take j++[d']++ds.drop (j+1))) _ H8 (As t8 (((hx8.take j).append (Ao (RepW.same s48 _ _ r4) Al)).append (hx8.drop (j+1)))) (fit_tup.mpr ⟨?_,?_⟩) ((F4.same s48).mono (by lia)) (f01.trans ((Aa f2).trans (Frm.trans (fun b o _ e=>s3 b o e) (f4.trans fun b o _ e=>s48 b o e))))
    ·intro e' he'
     rcases ZH.mp he' with h | h
     ·rcases ZH.mp h with h | h
      ·exact fi' e' (ZBW h)
      ·rw[ZO.mp h];exact⟨ft.ok,ft.dep⟩
     ·exact fi' e' (ZBv h)
    ·rw[Cc,Cc];have e1:AV [d']=AY d'+1+0:=rfl;have e2:=ft.bulk;lia
   rintro σ H1 ⟨rfl,F1,f1⟩;have hs1:SqT K H1 a xs:=De f1 F.lst hs;have hd1:RepW K H1 (.tup ds) (.ref a):=RepW.frm f1 F.lst _ _ hd;have hx1:RepsW K H1 ds xs:=RepsW.frm f1 F.lst _ _ hx;refine⟨by decide,_,hd1,?_⟩;refine⟨_,F1,by lia,Ad (by decide) (by decide),fun way H2 w0 w1 F2 f2=>?_⟩;have hs2:SqT K H2 a xs:=De (Aa f2) F1.lst hs1;have hx2:RepsW K H2 ds xs:=RepsW.frm (Aa f2) F1.lst _ _ hx1;dsimp only[Ae];refine⟨xs,hs2,fun l hl=>?_⟩;have s3:Same H2 (upd H2 l (.ext (A6 l xs))):=Same.upd hl;have g3:upd H2 l (.ext (A6 l xs)) l=some (.ext (A6 l xs)):=AD;generalize upd H2 l (.ext (A6 l xs))=H3 at *;refine⟨1,rfl,xs,s3.sqT hs2,fun q1 H4 s4 t4=>?_⟩;have S4:=s3.trans s4;refine⟨-1,rfl,xs,S4.sqT hs2,fun q2 H5 s5 t5=>?_⟩;have S5:=S4.trans s5;have hc2:=IF xs (some (-1)) none;refine .inr ⟨_,_,S5.sqT hs2,t5,szl (by lia),fun q3 H6 s6 t6=>?_⟩;have S6:=S5.trans s6;refine⟨rfl,xs,S6.sqT hs2,fun q4 hq4=>?_⟩;have s7:Same H6 (upd H6 q4 (.tup xs.reverse)):=Same.upd hq4;have t7:SqT K (upd H6 q4 (.tup xs.reverse)) q4 xs.reverse:=.of AD;generalize upd H6 q4 (.tup xs.reverse)=H7 at *;refine⟨smq rfl,fun q5 hq5=>?_⟩;have s8:Same H7 (upd H7 q5 (.tup [.int 0])):=Same.upd hq5;have t8:SqT K (upd H7 q5 (.tup [.int 0])) q5 [.int 0]:=.of AD;generalize upd H7 q5 (.tup [.int 0])=H8 at *;refine .inr ⟨_,_,(S6.trans (s7.trans s8)).sqT hs2,t8,szl (by show _+1<=_;lia),fun q6 H9 s9 t9=>?_⟩;refine⟨smq rfl,fun q7 hq7=>?_⟩;have s10:Same H9 (upd H9 q7 (.tup [])):=Same.upd hq7;have t10:SqT K (upd H9 q7 (.tup [])) q7 []:=.of AD;generalize upd H9 q7 (.tup [])=H10 at *;refine⟨smq rfl,fun l2 hl2=>?_⟩;have s7':=s8.trans (s9.trans s10);have s5':=s6.trans (s7.trans s7');have S10:=S5.trans s5';have F10:=F2.same S10;have s11:Same H10 (upd H10 l2 (.lst [.ref l,.ref q1,.ref q3,.ref q4,.ref q6,.ref q7])):=Same.upd hl2;have g11:upd H10 l2 (.lst [.ref l,.ref q1,.ref q3,.ref q4,.ref q6,.ref q7]) l2=some (.lst [.ref l,.ref q1,.ref q3,.ref q4,.ref q6,.ref q7]):=AD;have l2t:=F10.neT hl2;generalize upd H10 l2 (.lst [.ref l,.ref q1,.ref q3,.ref q4,.ref q6,.ref q7])=H11 at *;have S11:=S10.trans s11;have F11:=F2.same S11;have hx11:=RepsW.same S11 _ _ hx2;refine fin H11 H11 _ l2 [.ref l,.ref q1,.ref q3,.ref q4,.ref q6,.ref q7] way w0 w1 g11 l2t F11.lst F11 (by lia) (fun _ _=>rfl) (f1.trans ((Aa f2).trans fun b o _ e=>S11 b o e)) ?_;have sub:∀(i k:Nat),∀e∈(ds.drop i).take k,okW (n+1) e=true/\Au e<=D0+1:=fun i k e he=>fi' e (ZBv (ZBW he))
   have subB:∀(i k:Nat),AV ((ds.drop i).take k)<=B:=fun i k=>ZP (T2 _ _) (ZP (NH _ _) fb)
   have hrest:=s5'.trans s11;intro z hz;simp only[ZF,Zn,or_false]at hz
   rcases hz with rfl | rfl | rfl | rfl | rfl | rfl
   ·exact⟨.lst ds,Fm ((s4.trans (s5.trans hrest)) _ _ g3) hx11,fit_lst.mpr (fit_tup.mpr ⟨fi',by lia⟩)⟩
   ·obtain⟨i,k,rc⟩:=JM (some 1) none hx11;exact⟨_,As ((s5.trans hrest).sqT t4) rc,fit_tup.mpr ⟨sub i k,by have:=subB i k;lia⟩⟩
   ·obtain⟨i,k,rc⟩:=JM (some (-1)) none hx11;refine⟨_,As (((s7.trans s7').trans s11).sqT t6) (hx11.append rc),fit_tup.mpr ⟨?_,?_⟩⟩
    ·intro e he
     rcases ZH.mp he with h | h
     ·exact fi' e h
     ·exact sub i k e h
    ·rw[Cc]
     have:=subB i k
     lia
   ·exact⟨_,As ((s7'.trans s11).sqT t7) hx11.reverse,fit_tup.mpr ⟨fun e he=>fi' e (ZBX.mp he),by rw[L6];lia⟩⟩
   ·refine⟨_,As ((s10.trans s11).sqT t9) (hx11.append (Ao BE Al)),fit_tup.mpr ⟨?_,?_⟩⟩
    ·intro e he
     rcases ZH.mp he with h | h
     ·exact fi' e h
     ·rw[ZO.mp h];exact⟨by unfold okW;simp,by unfold Au;lia⟩
    ·rw[Cc]
     have:AV [Dw.int 0]=1:=rfl
     lia
   ·exact⟨.tup [],As (s11.sqT t10) Al,fit_tup.mpr ⟨nofun,ZU _⟩⟩
  ·have hleaf:BG (tyW d) "tuple" = false:=by
    cases d with
    | tup ds=>exact absurd ⟨ds,rfl⟩ ht
    | _=>rfl
   refine AJ (fun σ H'=>σ=[some (.ref t),some v,none,none]/\H=H') ?_ ?_ (by walk_at "sm")
   ·refine⟨by decide,d,hd,?_⟩;rw[hleaf];exact⟨rfl,rfl⟩
   rintro σ _ ⟨rfl,rfl⟩;refine AJ (fun σ H'=>σ=[some (.ref t),some v,none,none]/\H=H') ?_ ?_ (by walk_at "sm")
   ·refine⟨by decide,d,hd,?_⟩;rw[hleaf];exact⟨rfl,rfl⟩
   rintro σ _ ⟨rfl,rfl⟩
   by_cases hb:∃b,d=.bl b
   ·obtain⟨b,rfl⟩:=hb;unfold RepW at hd;subst hd;refine⟨by decide,.bl b,DB,?_⟩;refine⟨smq rfl,fun l hl=>?_⟩;have F1:=F.upd (o:=.lst [.bl (!b),.int (if b then 1 else 0),.non]) hl;refine⟨_,F1,by lia,Ad (by decide) (by decide),fun i H2 i0 i1 F2 f2=>?_⟩;refine fin _ H2 _ l [.bl (!b),.int (if b then 1 else 0),.non] i i0 i1 AD (F.neT hl) F1.lst F2 (by lia) f2 (Frm.upd hl) ?_;intro z hz;simp only[ZF,Zn,or_false]at hz
    rcases hz with rfl | rfl | rfl
    ·exact⟨_,DB,FV⟩
    ·exact⟨_,BE,B3 (by cases b <;> simp <;> lia)⟩
    ·exact⟨_,EX,Em⟩
   have hnb:BG (tyW d) "bool" = false:=by
    cases d with
    | bl b=>exact absurd ⟨b,rfl⟩ hb
    | _=>rfl
   refine AJ (fun σ H'=>σ=[some (.ref t),some v,none,none]/\H=H') ?_ ?_ (by walk_at "sm")
   ·refine⟨by decide,d,hd,?_⟩;rw[hnb];exact⟨rfl,rfl⟩
   rintro σ _ ⟨rfl,rfl⟩
   by_cases hi:∃i,d=.int i
   ·obtain⟨i,rfl⟩:=hi;unfold RepW at hd;subst hd
    have hin:i.natAbs<=n:=by
     have:=fit.ok
     unfold okW at this;exact ZN this
    refine⟨by decide,.int i,BE,?_⟩;have h30:i.natAbs < 10 ^ 30:=ZBe (ZP hin n21) (by decide);refine⟨?_,⟨by decide,by decide,by decide⟩,?_⟩
    ·by_cases h0:i.natAbs=0
     ·rw[h0];decide
     ·have:=(Nat.log2_lt h0).mpr (Z7 h30 (show 10 ^ 30 < 2 ^ 100 by decide))
      lia
    generalize hten:(10:Int) ^ Int.toNat 20=ten;refine⟨smq rfl,fun l hl=>?_⟩;have hten':ten.natAbs<=n+1:=by rw[<- hten];exact ZP (by decide) (Nat.le_succ_of_le n20)
    have F1:=F.upd (o:=.lst [.int (i+1),.int (i - 1),.bl (false ^^ (i == 1)),.int (-i),.str ((toString i:String):Str),.non,.int 16,.int ten]) hl;refine⟨_,F1,by lia,Ad (by decide) (by decide),fun k H2 k0 k1 F2 f2=>?_⟩;refine fin _ H2 _ l [.int (i+1),.int (i - 1),.bl (false ^^ (i == 1)),.int (-i),.str ((toString i:String):Str),.non,.int 16,.int ten] k k0 k1 AD (F.neT hl) F1.lst F2 (by lia) f2 (Frm.upd hl) ?_;intro z hz;simp only[ZF,Zn,or_false]at hz
    rcases hz with rfl | rfl | rfl | rfl | rfl | rfl | rfl | rfl
    ·exact⟨_,BE,B3 (by lia)⟩
    ·exact⟨_,BE,B3 (by lia)⟩
    ·exact⟨_,DB,FV⟩
    ·exact⟨_,BE,B3 (by lia)⟩
    ·exact⟨_,EW,TX h30 (by lia)⟩
    ·exact⟨_,EX,Em⟩
    ·exact⟨_,BE,B3 (by lia)⟩
    ·exact⟨_,BE,B3 hten'⟩
   have hni:BG (tyW d) "int" = false:=by
    cases d with
    | bl b=>exact absurd ⟨b,rfl⟩ hb
    | int i=>exact absurd ⟨i,rfl⟩ hi
    | _=>rfl
   refine AJ (fun σ H'=>σ=[some (.ref t),some v,none,none]/\H=H') ?_ ?_ (by walk_at "sm")
   ·refine⟨by decide,d,hd,?_⟩;rw[hni];exact⟨rfl,rfl⟩
   rintro σ _ ⟨rfl,rfl⟩;refine⟨smq rfl,fun q1 hq1=>?_⟩;have s1:Same H (upd H q1 (.tup [])):=Same.upd hq1;have t1:SqT K (upd H q1 (.tup [])) q1 []:=.of AD;generalize upd H q1 (.tup [])=H1 at *;refine⟨smq rfl,fun q2 hq2=>?_⟩;have s2:Same H1 (upd H1 q2 (.ext (A6 q2 []))):=Same.upd hq2;have g2:upd H1 q2 (.ext (A6 q2 [])) q2=some (.ext (A6 q2 [])):=AD;generalize upd H1 q2 (.ext (A6 q2 []))=H2 at *;refine fun q3 hq3=>?_
   have s3:Same H2 (upd H2 q3 (.dK [])):=Same.upd hq3;have g3:upd H2 q3 (.dK []) q3=some (.dK []):=AD;generalize upd H2 q3 (.dK [])=H3 at *;refine⟨smq rfl,fun q4 hq4=>?_⟩;have s4:Same H3 (upd H3 q4 (.tup [.int 0])):=Same.upd hq4;have t4:SqT K (upd H3 q4 (.tup [.int 0])) q4 [.int 0]:=.of AD;generalize upd H3 q4 (.tup [.int 0])=H4 at *;refine⟨smq rfl,fun l hl=>?_⟩;have S4:=s1.trans (s2.trans (s3.trans s4));have F4:=F.same S4;have s5:Same H4 (upd H4 l (.lst [.non,.bl true,.bl false,.int 0,.int 1,.int (-1),.str (Str.ofString ""),.str (Str.ofString "say"),.str (Str.ofString "ask"),.ref q1,.ref q2,.ref q3,.ref q4,.str (Str.ofString "yes")])):=Same.upd hl;have F5:=F4.same s5;refine⟨_,F5,by lia,Ad (by decide) (by decide),fun k H6 k0 k1 F6 f6=>?_⟩;refine fin _ H6 _ l [.non,.bl true,.bl false,.int 0,.int 1,.int (-1),.str (Str.ofString ""),.str (Str.ofString "say"),.str (Str.ofString "ask"),.ref q1,.ref q2,.ref q3,.ref q4,.str (Str.ofString "yes")] k k0 k1 AD (F4.neT hl) F5.lst F6 (by lia) f6 (fun b o _ e=>(S4.trans s5) b o e) ?_;generalize upd H4 l (.lst [.non,.bl true,.bl false,.int 0,.int 1,.int (-1),.str (Str.ofString ""),.str (Str.ofString "say"),.str (Str.ofString "ask"),.ref q1,.ref q2,.ref q3,.ref q4,.str (Str.ofString "yes")])=H5 at *;intro z hz;simp only[ZF,Zn,or_false]at hz
   rcases hz with rfl | rfl | rfl | rfl | rfl | rfl | rfl | rfl | rfl | rfl | rfl | rfl | rfl | rfl
   ·exact⟨_,EX,Em⟩
   ·exact⟨_,DB,FV⟩
   ·exact⟨_,DB,FV⟩
   ·exact⟨_,BE,B3 (by lia)⟩
   ·exact⟨_,BE,B3 (by lia)⟩
   ·exact⟨_,BE,B3 (by lia)⟩
   ·exact⟨_,EW,EJ (ZP (show "".length<=3 by decide) (by lia))⟩
   ·exact⟨_,EW,EJ (ZP (show "say".length<=3 by decide) (by lia))⟩
   ·exact⟨_,EW,EJ (ZP (show "ask".length<=3 by decide) (by lia))⟩
   ·exact⟨.tup [],As ((s2.trans (s3.trans (s4.trans s5))).sqT t1) Al,fit_tup.mpr ⟨nofun,ZU _⟩⟩
   ·exact⟨.lst [],Fm ((s3.trans (s4.trans s5)) _ _ g2) Al,fit_lst.mpr (fit_tup.mpr ⟨nofun,ZU _⟩)⟩
   ·exact⟨.emp,NB ((s4.trans s5) _ _ g3),OL⟩
   ·refine⟨.tup [.int 0],As (s5.sqT t4) (Ao BE Al),fit_tup.mpr ⟨?_,?_⟩⟩
    ·intro e he;rw[ZO.mp he];exact⟨by unfold okW;simp,by unfold Au;lia⟩
    ·have:AV [Dw.int 0]=1:=rfl
     lia
   ·exact⟨_,EW,EJ (ZP (show "yes".length<=3 by decide) (by lia))⟩
theorem Oj:FnOk P w K mg base CX0 12 T.f_z39 T.d_z39 ["_law_feed_here","_law_thing"] (spB K 11):=Mt T 11
def Dk(K:W.Frag):Sp:=fun vs H Q _=>match vs with
 | [u,.int z,v]=>∃(ls:List Int) (rs:List (List Bool)) (d:Dw),Rep K H (gmD ls rs) u/\Gm ls rs/\RepW K H d v/\Fit 100000000000000000001 50 100000 d/\0<=z/\∀H',Same H H'->Q (.bl true) H'
 | _=>False
theorem RO:AQ (Dk K):=fun vs H Q Q' E h q=>by
 unfold Dk at *;split at q
 ·revert q;repeat' first | exact h _ _ | exact A4 h | exact out_mono h | exact outT_mono h | walk_at "m"
 ·exact q.elim
theorem Pc:FnOk P w K mg base CX0 7 T.f_z32 T.d_z32 ["_law_game_here","_law_d","_law_thing"] (Dk K):=by
 have G_z36:=@UG P w K mg base T;have G_z38:=@UQ P w K mg base T;refine T.F_z32.ok sc_z32 (fun vs H Q E h=>by unfold Dk at h;split at h <;> first | rfl | exact h.elim) (fun cdv A outer s H vs Q E hr h=>?_);have hu:=Ag hr;have hr_z36:=hr.mono (show 6<=_ by decide);have hr_z38:=hr.mono (show 3<=_ by decide);have mo1:AQ (DX K):=Ue;have mo2:AQ (DV K):=Tf;unfold Dk at h;split at h;rotate_left
 ·exact h.elim
 rename_i u z v;obtain⟨ls,rs,d,hg,G,hd,ft,hz,q⟩:=h;refine⟨_,(@AE _ _ _ _ _ (@AS _ _ 3 _ _ _ _ sc_z32.nd rfl (by right) (AT (Jt (K:=K) hr) rfl T.z_repr (by rfl) (AA (vv 2) AB)) (by rfl) (by walk_at "i")) (@AE _ _ _ _ _ (@AS _ _ 4 _ _ _ _ sc_z32.nd rfl (by right) (AH G_z36 hr_z36 rfl T.m_z36 T.F_z36.kp T.b_z36 .nil AG (AA (vv 0) (AA (vv 1) (AA (vv 2) AB)))) (by rfl) (by walk_at "i")) (@AF _ _ _ (@AK _ _ _ _ (Cn (AT (BX (K:=K)) rfl T.z_isinstance (by rfl) (AA (vv 4) (AA (BU (v:=.ty "bool") rfl T.z_bool (by rfl) rfl) AB))) (Cn (A8 (kEq (K:=K) hu) (vv 4) (AH G_z38 hr_z38 rfl T.m_z38 T.F_z38.kp T.b_z38 .nil AG (AA (vv 0) (AA (vv 1) (AA (vv 2) AB))))) (CV (A8 (kEq (K:=K) hu) (AT (Jt (K:=K) hr) rfl T.z_repr (by rfl) (AA (vv 2) AB)) (vv 3))))))))),?_⟩;have hb:AY d<=400000:=ZP ft.bulk (by decide);have hdp:Au d<=60:=ZP ft.dep (by decide);refine⟨d,_,hd,ft.ok,by decide,hb,hdp,?_⟩;generalize htx:Bl d=tx;dsimp only[Ae];refine⟨ls,rs,d,hg,G,hd,ft.bulk,fun b H1 hb1 s1=>?_⟩;dsimp only[Ae];refine⟨by decide,.bl b,DB,?_⟩;refine⟨ls,rs,d,hg.same s1,G,RepW.same s1 _ _ hd,ft.bulk,hz,fun b2 H2 hb2 s2=>?_⟩;have eb:b2=b:=by rw[ZBD,hb1,hb2]
 subst eb;show if (false ^^ (b2 == b2))=true then _ else _
 rw[show(false ^^ (b2 == b2))=true by simp];refine⟨d,_,RepW.same (s1.trans s2) _ _ hd,ft.ok,by decide,hb,hdp,?_⟩;rw[htx];show Q (.bl (false ^^ (tx == tx))) H2;rw[show(false ^^ (tx == tx))=true by simp];exact q H2 (s1.trans s2)
theorem FO{L:Nat}{M:Int}{es:Aw}(h:∀e∈es,FE L M e)(hL:L<=30)(hM:M<=1000)(hl:es.length<=70):Fit 100000000000000000000 3 3000 (.tup (es.map AL)):=by
 have fe:∀e:List Nat × Int,FE L M e->Fit 100000000000000000000 2 32 (AL e):=fun e he=>by
  have h1:=he.len;have h2:=he.lo;have h3:=he.hi;unfold AL
  have bi:∀ts:List Nat,AV (ts.map fun(t:Nat)=>Dw.int (t:Int))=ts.length:=fun ts=>by
   induction ts with
   | nil=>rfl
   | cons t ts ih=>show 0+1+AV (ts.map fun(t:Nat)=>Dw.int (t:Int))=ts.length+1;rw[ih];lia
  have f1:Fit 100000000000000000000 1 30 (.tup (e.1.map fun(t:Nat)=>Dw.int (t:Int))):=fit_tup.mpr ⟨fun x hx=>by
   obtain⟨t,ht,rfl⟩:=ZT.mp hx
   have:=he.lt t ht
   have f:Fit 100000000000000000000 0 0 (.int (t:Int)):=B3 (by lia);exact⟨f.ok,f.dep⟩,by rw[bi];lia⟩
  have f2:Fit 100000000000000000000 1 0 (.int e.2):=B3 (by lia);refine fit_tup.mpr ⟨fun x hx=>?_,?_⟩
  ·simp only[ZF,Zn,or_false]at hx
   rcases hx with rfl | rfl
   ·exact⟨f1.ok,f1.dep⟩
   ·exact⟨f2.ok,f2.dep⟩
  ·have e0:AV [.tup (e.1.map fun(t:Nat)=>Dw.int (t:Int)),.int e.2]=AY (.tup (e.1.map fun(t:Nat)=>Dw.int (t:Int)))+1+(0+1+0):=rfl
   have:=f1.bulk
   rw[e0];lia
 refine fit_tup.mpr ⟨fun x hx=>?_,?_⟩
 ·obtain⟨e,he,rfl⟩:=ZT.mp hx
  have:=fe e (h e he)
  exact⟨this.ok,this.dep⟩
 ·have key:∀es:Aw,(∀e∈es,FE L M e)->AV (es.map AL)<=33 * es.length:=fun es h=>by
   induction es with
   | nil=>exact ZD _
   | cons e es ih =>
    have h1:=(fe e (h e (Zo ..))).bulk;have h2:=ih fun x hx=>h x (Za _ hx)
    show AY (AL e)+1+AV (es.map AL)<=33 * (es.length+1);lia
  have:=key es h
  lia
def AllD(K:W.Frag)(H:Hp)(zs:List V):Prop:=∀x∈zs,∃d,RepW K H d x/\Fit 100000000000000000001 50 100000 d
theorem AllD.frm{H H':Hp}{zs:List V}{q:Addr}(h:AllD K H zs)(f:Frm q H H')(hq:∃ys,H q=some (.lst ys)):AllD K H' zs:=fun x hx=>by
 obtain⟨d,r,ft⟩:=h x hx;exact⟨d,RepW.frm f hq _ _ r,ft⟩
theorem JA{ws:List V}{x:V}:atI (ws++[x]) (-1)=some x:=by
 unfold atI ixN;rw[if_neg (by decide),ZG];have h : -((ws.length+[x].length:Nat):Int) <= -1:=by show -((ws.length+1:Nat):Int) <= -1;lia
 rw[if_pos h];have e:((-1:Int)+((ws.length+[x].length:Nat):Int)).toNat=ws.length:=by show((-1:Int)+((ws.length+1:Nat):Int)).toNat=ws.length;lia
 show(ws++[x])[_]? = _
 rw[e,ZBA (ZD _),Nat.sub_self];rfl
theorem TU:FnOk P w K mg base CX0 22 T.f_law T.d_law ["_law_script"] (Et K):=by
 have G_z40:=@Uo P w K mg base T;have G_z23:=@P9 P w K mg base T;have G_z37:=@GC P w K mg base T;have G_z28:=@Mp P w K mg base T;have G_z41:=@T6 P w K mg base T;have G_z39:=@Oj P w K mg base T;have G_z22:=@UL P w K mg base T;have G_z35:=@CT P w K mg base T;have G_z32:=@Pc P w K mg base T;refine T.F_law.ok sc_law (fun vs H Q E h=>by obtain⟨a,ns,rfl,_⟩:=h;rfl) (fun cdv A outer s H vs Q E hr h=>?_);have hu:=Ag hr;have hr_z40:=hr.mono (show 1<=_ by decide);have hr_z23:=hr.mono (show 2<=_ by decide);have hr_z37:=hr.mono (show 19<=_ by decide);have hr_z28:=hr.mono (show 21<=_ by decide);have hr_z41:=hr.mono (show 4<=_ by decide);have hr_z39:=hr.mono (show 12<=_ by decide);have hr_z22:=hr.mono (show 2<=_ by decide);have hr_z35:=hr.mono (show 1<=_ by decide);have hr_z32:=hr.mono (show 7<=_ by decide);obtain⟨a,ns,rfl,hS,hlen,q⟩:=h;refine⟨_,(@AE _ _ _ _ _ (@AS _ _ 1 _ _ _ _ sc_law.nd rfl (by right) (@AH _ _ _ _ _ _ _ _ _ _ _ _ _ _ _ _ G_z40 hr_z40 rfl T.m_z40 T.F_z40.kp T.b_z40 .nil AG (@pa1 _ _ _ (@vw _ 0 _ _ (by left)) (by rfl)) (by decide) (by rfl) (by rfl)) (by rfl) (by walk_at "i")) (@AE _ _ _ _ _ (@BF _ _ _ _ _ _ _ _ PassesOwn.never rfl (@BA _ _ _ _ _ _ rfl T.z_range (@pa1 _ _ _ (@AC _ _ _ _) (by rfl)) (by rfl)) (@AN _ _ 2 _ sc_law.nd rfl (by right) (by walk_at "i")) (@AE _ _ _ _ _ (@AS _ _ 3 _ _ _ _ sc_law.nd rfl (by right) (@AH _ _ _ _ _ _ _ _ _ _ _ _ _ _ _ _ G_z23 hr_z23 rfl T.m_z23 T.F_z23.kp T.b_z23 .nil AG (@pa1 _ _ _ (@AH _ _ _ _ _ _ _ _ _ _ _ _ _ _ _ _ G_z41 hr_z41 rfl T.m_z41 T.F_z41.kp T.b_z41 .nil AG (@pa1 _ _ _ (@vw _ 1 _ _ (by left)) (by rfl)) (by decide) (by rfl) (by rfl)) (by rfl)) (by decide) (by rfl) (by rfl)) (by rfl) (by walk_at "i")) (@AE _ _ _ _ _ (@AS _ _ 4 _ _ _ _ sc_law.nd rfl (by right) (@Af _ _ _ _ _ _ _ _ _ (BC (K:=K)) rfl T.z_tuple (by rfl) (@pa1 _ _ _ (@Ay _ _ _ _ _ _ _ (["_law_one","_law_k","_law_feed_here"]) 1 ([2,1]) _ _ _ _ rfl (@BA _ _ _ _ _ _ rfl T.z_range (@pa1 _ _ _ (@AT _ _ _ _ _ _ _ _ _ (Av (K:=K)) rfl T.z_len (by rfl) (@pa1 _ _ _ (@kIx _ K _ _ _ _ _ (@vw _ 3 _ _ (by left)) (@AC _ _ _ _) (by intro _ _;rfl) (by rfl)) (by rfl)) (by decide) (by decide) (by rfl) (by rfl)) (by rfl)) (by rfl)) (by kernel_rfl) rfl rfl (by kernel_rfl) (fun c=>@AN _ _ 0 _ (show(["_law_one","_law_k","_law_feed_here"]:List Str).Nodup by decide +kernel) rfl (by right) (by walk_at "i")) (Aj (by decide)) (fun c=>@Cv _ _ _ (PW.pt (@Bz _ _ _ _ _ _ _ (@AX _ _ _ _ _ _ _ _ B9 (@vw _ 1 _ _ (by left)) (@AC _ _ _ _) (by exfalso)) (@Cz _ _ _ _ (@AX _ _ _ _ _ _ _ _ Cg (@AH _ _ _ _ _ _ _ _ _ _ _ _ _ _ _ _ G_z35 hr_z35 rfl T.m_z35 T.F_z35.kp T.b_z35 .nil AG (@AA _ _ _ _ _ (@vw _ 2 _ _ (by left)) (@pa1 _ _ _ (@AC _ _ _ _) (by rfl)) (by rfl)) (by decide) (by rfl) (by rfl)) (@AC _ _ _ _) (by exfalso)))))) (fun c=>(@vw _ 0 _ _ (by left))) (by intro _;rfl)) (by rfl)) (by decide) (by decide) (by rfl) (by rfl)) (by rfl) (by walk_at "i")) (@AE _ _ _ _ _ (@AS _ _ 5 _ _ _ _ sc_law.nd rfl (by right) (@OZ _ _) (by rfl) (by walk_at "i")) (@AE _ _ _ _ _ (@AS _ _ 6 _ _ _ _ sc_law.nd rfl (by right) (@AH _ _ _ _ _ _ _ _ _ _ _ _ _ _ _ _ G_z37 hr_z37 rfl T.m_z37 T.F_z37.kp T.b_z37 .nil AG (@AA _ _ _ _ _ (@vw _ 3 _ _ (by left)) (@AA _ _ _ _ _ (@vw _ 4 _ _ (by left)) (@pa1 _ _ _ (@vw _ 5 _ _ (by left)) (by rfl)) (by rfl)) (by rfl)) (by decide) (by rfl) (by rfl)) (by rfl) (by walk_at "i")) (@AE _ _ _ _ _ (@AS _ _ 7 _ _ _ _ sc_law.nd rfl (by right) (@AH _ _ _ _ _ _ _ _ _ _ _ _ _ _ _ _ G_z28 hr_z28 rfl T.m_z28 T.F_z28.kp T.b_z28 .nil AG (@AA _ _ _ _ _ (@vw _ 1 _ _ (by left)) (@AA _ _ _ _ _ (@vw _ 3 _ _ (by left)) (@AA _ _ _ _ _ (@vw _ 4 _ _ (by left)) (@AA _ _ _ _ _ (@AI _ _ _ _ _ _ _ _ CS (@vw _ 6 _ _ (by left)) (@AI _ _ _ _ _ _ _ _ Br (@Af _ _ _ _ _ _ _ _ _ DE rfl T.z_int (by rfl) (@pa1 _ _ _ (@A8 _ _ _ _ _ _ _ _ Cg (@vw _ 6 _ _ (by left)) (@AC _ _ _ _) (by exfalso)) (by rfl)) (by decide) (by decide) (by rfl) (by rfl)) (@AH _ _ _ _ _ _ _ _ _ _ _ _ _ _ _ _ G_z35 hr_z35 rfl T.m_z35 T.F_z35.kp T.b_z35 .nil AG (@AA _ _ _ _ _ (@vw _ 1 _ _ (by left)) (@pa1 _ _ _ (@AC _ _ _ _) (by rfl)) (by rfl)) (by decide) (by rfl) (by rfl)))) (@pa1 _ _ _ (@vw _ 5 _ _ (by left)) (by rfl)) (by rfl)) (by rfl)) (by rfl)) (by rfl)) (by decide) (by rfl) (by rfl)) (by rfl) (by walk_at "i")) (@AE _ _ _ _ _ (@AS _ _ 8 _ _ _ _ sc_law.nd rfl (by right) (@A2 _ _ _ _ (@AA _ _ _ _ _ (@vw _ 7 _ _ (by left)) (@AA _ _ _ _ _ (@GB _ K _ _ _ _ _ _ (@vw _ 7 _ _ (by left)) (@CM _ _ _ _ _ _ CP (@AC _ _ _ _)) (by rfl)) (@AA _ _ _ _ _ (@AW _ _ _ _ _ (@AB _)) (@pa1 _ _ _ (@AH _ _ _ _ _ _ _ _ _ _ _ _ _ _ _ _ G_z39 hr_z39 rfl T.m_z39 T.F_z39.kp T.b_z39 .nil AG (@AA _ _ _ _ _ (@vw _ 1 _ _ (by left)) (@pa1 _ _ _ (@vw _ 7 _ _ (by left)) (by rfl)) (by rfl)) (by decide) (by rfl) (by rfl)) (by rfl)) (by rfl)) (by rfl)) (by rfl))) (by rfl) (by walk_at "i")) (@AE _ _ _ _ _ (@BF _ _ _ _ _ _ _ _ PassesOwn.never rfl (@BA _ _ _ _ _ _ rfl T.z_range (@pa1 _ _ _ (@AC _ _ _ _) (by rfl)) (by rfl)) (@AN _ _ 9 _ sc_law.nd rfl (by right) (by walk_at "i")) (@AF _ _ _ (@Cw _ _ _ _ (@DR _ K _ _ _ _ _ _ (@vw _ 8 _ _ (by left)) (@pa1 _ _ _ (@AH _ _ _ _ _ _ _ _ _ _ _ _ _ _ _ _ G_z22 hr_z22 rfl T.m_z22 T.F_z22.kp T.b_z22 .nil AG (@AA _ _ _ _ _ (@vw _ 1 _ _ (by left)) (@AA _ _ _ _ _ (@vw _ 3 _ _ (by left)) (@pa1 _ _ _ (@vw _ 7 _ _ (by left)) (by rfl)) (by rfl)) (by rfl)) (by decide) (by rfl) (by rfl)) (by rfl)) (by rfl) (by rfl) (by rfl) (by rfl) (by rfl) (by rfl)) (by rfl))) (by intro _;rfl)) (@AE _ _ _ _ _ (@Cw _ _ _ _ (@DR _ K _ _ _ _ _ _ (@vw _ 8 _ _ (by left)) (@pa1 _ _ _ (@Gq _ _ _ _ _ _ _ _ (@A7 _ _ _ (@AT _ _ _ _ _ _ _ _ _ (BX (K:=K)) rfl T.z_isinstance (by rfl) (@AA _ _ _ _ _ (@kIx _ K _ _ _ _ _ (@vw _ 8 _ _ (by left)) (@CM _ _ _ _ _ _ CP (@AC _ _ _ _)) (by intro _ _;rfl) (by rfl)) (@pa1 _ _ _ (@BU _ _ (.ty "tuple") _ _ rfl T.z_tuple (by rfl) rfl (by decide) (by decide)) (by rfl)) (by rfl)) (by decide) (by decide) (by rfl) (by rfl)) (by intro _;rfl)) (@AH _ _ _ _ _ _ _ _ _ _ _ _ _ _ _ _ G_z22 hr_z22 rfl T.m_z22 T.F_z22.kp T.b_z22 .nil AG (@AA _ _ _ _ _ (@vw _ 1 _ _ (by left)) (@AA _ _ _ _ _ (@vw _ 3 _ _ (by left)) (@pa1 _ _ _ (@kIx _ K _ _ _ _ _ (@vw _ 8 _ _ (by left)) (@CM _ _ _ _ _ _ CP (@AC _ _ _ _)) (by intro _ _;rfl) (by rfl)) (by rfl)) (by rfl)) (by rfl)) (by decide) (by rfl) (by rfl)) (@AW _ _ _ _ _ (@AB _))) (by rfl)) (by rfl) (by rfl) (by rfl) (by rfl) (by rfl) (by rfl)) (by rfl)) (@AE _ _ _ _ _ (@BF _ _ _ _ _ _ _ _ PassesOwn.never rfl (@Az _ K _ _ _ (@vw _ 8 _ _ (by left)) (by rfl)) (@AN _ _ 10 _ sc_law.nd rfl (by right) (by walk_at "i")) (@AF _ _ _ (@BF _ _ _ _ _ _ _ _ PassesOwn.never rfl (@Az _ K _ _ _ (@A2 _ _ _ _ (@AA _ _ _ _ _ (@AC _ _ _ _) (@AA _ _ _ _ _ (@AC _ _ _ _) (@AA _ _ _ _ _ (@AT _ _ _ _ _ _ _ _ _ (L0 rfl) rfl T.z_max (by rfl) (@AA _ _ _ _ _ (@AC _ _ _ _) (@pa1 _ _ _ (@vw _ 6 _ _ (by left)) (by rfl)) (by rfl)) (by decide) (by decide) (by rfl) (by rfl)) (@pa1 _ _ _ (@AI _ _ _ _ _ _ _ _ (BH (K:=K)) (@vw _ 6 _ _ (by left)) (@AC _ _ _ _)) (by rfl)) (by rfl)) (by rfl)) (by rfl))) (by rfl)) (@AN _ _ 11 _ sc_law.nd rfl (by right) (by walk_at "i")) (@AF _ _ _ (@Ai _ _ _ _ _ _ _ _ (@BQ _ _ _ _ (@A7 _ _ _ (@AH _ _ _ _ _ _ _ _ _ _ _ _ _ _ _ _ G_z32 hr_z32 rfl T.m_z32 T.F_z32.kp T.b_z32 .nil AG (@AA _ _ _ _ _ (@vw _ 3 _ _ (by left)) (@AA _ _ _ _ _ (@vw _ 11 _ _ (by left)) (@pa1 _ _ _ (@vw _ 10 _ _ (by left)) (by rfl)) (by rfl)) (by rfl)) (by decide) (by rfl) (by rfl)) (by intro _;rfl))) (@AF _ _ _ (@AK _ _ _ _ (@A5 _ _ _ _))) (@Ah _))) (by intro _;rfl))) (by intro _;rfl)) (@AF _ _ _ (@BF _ _ _ _ _ _ _ _ PassesOwn.never rfl (@Az _ K _ _ _ (@A2 _ _ _ _ (@AA _ _ _ _ _ (@C6 _ _ _) (@AA _ _ _ _ _ (@Gc _ _ _ _ (@AB _)) (@AA _ _ _ _ _ (@Gc _ _ _ _ (@pa1 _ _ _ (@AW _ _ _ _ _ (@AA _ _ _ _ _ (@AW _ _ _ _ _ (@pa1 _ _ _ (@AC _ _ _ _) (by rfl))) (@pa1 _ _ _ (@AC _ _ _ _) (by rfl)) (by rfl))) (by rfl))) (@AA _ _ _ _ _ (@AW _ _ _ _ _ (@pa1 _ _ _ (@C6 _ _ _) (by rfl))) (@AA _ _ _ _ _ (@AW _ _ _ _ _ (@pa1 _ _ _ (@AW _ _ _ _ _ (@AA _ _ _ _ _ (@AW _ _ _ _ _ (@AB _)) (@pa1 _ _ _ (@AC _ _ _ _) (by rfl)) (by rfl))) (by rfl))) (@AA _ _ _ _ _ (@AW _ _ _ _ _ (@pa1 _ _ _ (@AW _ _ _ _ _ (@AA _ _ _ _ _ (@AW _ _ _ _ _ (@pa1 _ _ _ (@AC _ _ _ _) (by rfl))) (@pa1 _ _ _ (@AC _ _ _ _) (by rfl)) (by rfl))) (by rfl))) (@AA _ _ _ _ _ (@AW _ _ _ _ _ (@pa1 _ _ _ (@AW _ _ _ _ _ (@AA _ _ _ _ _ (@AW _ _ _ _ _ (@AA _ _ _ _ _ (@AC _ _ _ _) (@pa1 _ _ _ (@AC _ _ _ _) (by rfl)) (by rfl))) (@pa1 _ _ _ (@AC _ _ _ _) (by rfl)) (by rfl))) (by rfl))) (@pa1 _ _ _ (@AW _ _ _ _ _ (@pa1 _ _ _ (@AW _ _ _ _ _ (@AA _ _ _ _ _ (@vw _ 4 _ _ (by left)) (@pa1 _ _ _ (@A5 _ _ _ _) (by rfl)) (by rfl))) (by rfl))) (by rfl)) (by rfl)) (by rfl)) (by rfl)) (by rfl)) (by rfl)) (by rfl)) (by rfl))) (by rfl)) (@AN _ _ 10 _ sc_law.nd rfl (by right) (by walk_at "i")) (@AF _ _ _ (@Ai _ _ _ _ _ _ _ _ (PW.pt (@Bz _ _ _ _ _ _ _ (@BQ _ _ _ _ (@A7 _ _ _ (@AH _ _ _ _ _ _ _ _ _ _ _ _ _ _ _ _ G_z32 hr_z32 rfl T.m_z32 T.F_z32.kp T.b_z32 .nil AG (@AA _ _ _ _ _ (@vw _ 3 _ _ (by left)) (@AA _ _ _ _ _ (@AC _ _ _ _) (@pa1 _ _ _ (@vw _ 10 _ _ (by left)) (by rfl)) (by rfl)) (by rfl)) (by decide) (by rfl) (by rfl)) (by intro _;rfl))) (@Cz _ _ _ _ (@BQ _ _ _ _ (@A7 _ _ _ (@AH _ _ _ _ _ _ _ _ _ _ _ _ _ _ _ _ G_z32 hr_z32 rfl T.m_z32 T.F_z32.kp T.b_z32 .nil AG (@AA _ _ _ _ _ (@vw _ 3 _ _ (by left)) (@AA _ _ _ _ _ (@AC _ _ _ _) (@pa1 _ _ _ (@vw _ 10 _ _ (by left)) (by rfl)) (by rfl)) (by rfl)) (by decide) (by rfl) (by rfl)) (by intro _;rfl)))))) (@AF _ _ _ (@AK _ _ _ _ (@A5 _ _ _ _))) (@Ah _))) (by intro _;rfl)))))))))))) (by intro _;rfl)) (@AF _ _ _ (@AK _ _ _ _ (@A5 _ _ _ _))))),?_⟩;have mo1:AQ (By K 500 800000000):=Ob;have mo2:AQ (D4 K):=Te;have mo3:AQ (Bo K 17):=FI;have mo4:AQ (Dy K):=NS;have mo5:AQ (spB K 11):=Ld;have mo6:AQ (Db K):=SE;have mo7:AQ (Dk K):=RO;refine⟨ns,hS,fun t H1 ht s1 F1=>?_⟩;dsimp only[Ae];refine AJ (fun σ H'=>∃z:List (Option V),σ=some (.ref a)::some (.ref t)::z) ?_ (fun σ H' _=>q H') (by walk_at "sm");refine⟨3,rfl,by decide,by decide,?_⟩;refine B8 (fun i σ H'=>(∃z2 z3 z4 z5 z6 z7 z8 z9 z10 z11:Option V,σ=[some (.ref a),some (.ref t),z2,z3,z4,z5,z6,z7,z8,z9,z10,z11])/\GFeed H' t (30000 * i)) ⟨⟨none,none,none,none,none,none,none,none,none,none,rfl⟩,F1⟩ ?_ (fun σ H' ⟨⟨z2,z3,z4,z5,z6,z7,z8,z9,z10,z11,e⟩,_⟩=>⟨_,e⟩);rintro i σ H2 hi ⟨⟨z2,z3,z4,z5,z6,z7,z8,z9,z10,z11,rfl⟩,F2⟩;have hi3:i < 3:=hi;clear s1 F1 hS;dsimp only[Ae];refine AJ (fun σ H'=>∃(ls:List Int) (rs:List (List Bool)) (ga:Addr),σ=[some (.ref a),some (.ref t),some (.int (0+(i:Int))),some (.ref ga),z4,z5,z6,z7,z8,z9,z10,z11]/\GFeed H' t (30000 * i+500)/\Rep K H' (gmD ls rs) (.ref ga)/\Gm ls rs/\Bv ls rs) ?_ ?_ (by walk_at "sm")
 ·refine⟨_,F2,by lia,fun ls rs u H3 G r3 F3 f3=>⟨ls,rs,r3,G,fun ls' u' H4 s4 G' hE r4=>?_⟩⟩;obtain⟨ga,tl,rl,ps,rfl,g⟩:=Bh r4;exact⟨ls',rs,ga,rfl,F3.same s4,r4,G',hE⟩
 clear F2 H2;rintro σ H2 ⟨ls,rs,ga,rfl,F2,r2,G,hE⟩;have l16:=G.l16;have l1:=G.l1;obtain⟨ga',tl,rl,ps,ea,g⟩:=Bh r2;cases ea;refine AJ (fun σ H'=>∃(tp:Addr) (ts:List Nat),σ=[some (.ref a),some (.ref t),some (.int (0+(i:Int))),some (.ref ga),some (.ref tp),z5,z6,z7,z8,z9,z10,z11]/\H' tp=some (.tup (iL ts))/\ts.Pairwise (· < ·)/\(∀x∈ts,x < ls.length)/\GFeed H' t (30000 * i+600)/\Rep K H' (gmD ls rs) (.ref ga)) ?_ ?_ (by walk_at "sm")
 ·refine⟨_,.ref tl,.inr g.two,rfl,ls.length,.inr ⟨_,g.lab,by rw[ZC]⟩,ls.length,rfl,by lia,by lia,?_⟩
  refine Bj (fun j ys H'=>∃ts:List Nat,ys=iL ts/\ts.Pairwise (· < ·)/\(∀x∈ts,x < j)/\ts.length<=j/\GFeed H' t (30000 * i+500+j)/\Rep K H' (gmD ls rs) (.ref ga)) ⟨[],rfl,by simp,(fun x hx=>by cases hx),ZD _,F2,r2⟩ (fun j ys H' hj ⟨ts,e,_,_,h,_⟩=>by
   rw[ZY]at hj;rw[e,Ax];exact Ak (by lia)) ?_ ?_
  ·rintro j ys H3 hj ⟨ts,rfl,hup,hlt,hl,F3,r3⟩;rw[ZY]at hj
   have add:∀H4,GFeed H4 t (30000 * i+500+(j+1))->Rep K H4 (gmD ls rs) (.ref ga)->∃ts':List Nat,iL ts++[V.int (0+(j:Int))]=iL ts'/\ts'.Pairwise (· < ·)/\(∀x∈ts',x < j+1)/\ts'.length<=j+1/\GFeed H4 t (30000 * i+500+(j+1))/\Rep K H4 (gmD ls rs) (.ref ga):=fun H4 F4 r4=>by
    refine⟨ts++[j],by rw[DG,Int.zero_add];rfl,Ih hup hlt,fun x hx=>?_,by rw[ZG];show _+1<=_;lia,F4,r4⟩
    rcases ZH.mp hx with y | y
    ·have:=hlt x y;lia
    ·rw[ZO]at y;lia
   refine Ab (fun _=>add _ (F3.mono (by lia)) r3) (fun _=>?_);refine⟨_,F3,by lia,Ad (by decide) (by decide),fun y H4 y0 y1 F4 f4=>?_⟩;have r4:=Rep.frm (Bi f4) F3.lst _ _ (Cj ls rs) r3;exact Ab (fun _=>add _ F4 r4) (fun _=>⟨ts,rfl,hup,(fun x hx=>by have:=hlt x hx;lia),by lia,F4,r4⟩)
  ·rintro ys H3 ⟨ts,rfl,hup,hlt,hl,F3,r3⟩ l nl;rw[ZY]at hlt hl F3;refine⟨_,.inl ⟨.of AD,fun tp ntp=>?_⟩⟩;have S:=(Same.upd (o:=.lst (iL ts)) nl).trans (Same.upd (o:=.tup (iL ts)) ntp);exact⟨tp,ts,rfl,AD,hup,hlt,(F3.same S).mono (by lia),Rep.same S _ _ r3⟩
 clear F2 r2 g H2;rintro σ H2 ⟨tp,ts,rfl,gtp,hup,hlt,F2,r2⟩;have htl:ts.length<=ls.length:=CC ls.length ts (hup.imp fun h=>ZQ h) hlt;refine AJ (fun σ H'=>∃kd:Addr,σ=[some (.ref a),some (.ref t),some (.int (0+(i:Int))),some (.ref ga),some (.ref tp),some (.ref kd),z6,z7,z8,z9,z10,z11]/\H' tp=some (.tup (iL ts))/\Ps K H' t kd (30000 * i+600) (.ref ga) ls rs) ?_ ?_ (by walk_at "sm")
 ·intro kd nkd;have s3:=Same.upd (o:=.dT []) nkd;exact⟨kd,rfl,s3 _ _ gtp,F2.same s3,Rep.same s3 _ _ r2,[],AD,⟨by simp,fun e he=>by cases he⟩⟩
 clear gtp F2 r2 H2;rintro σ H2 ⟨kd,rfl,gtp,n2⟩;refine AJ (fun σ H'=>∃m:Nat,σ=[some (.ref a),some (.ref t),some (.int (0+(i:Int))),some (.ref ga),some (.ref tp),some (.ref kd),some (.int (m:Nat)),z7,z8,z9,z10,z11]/\A3 (AO ls) (rs.map gB) (fun k=>decide (k∈ts)) m/\H' tp=some (.tup (iL ts))/\Ps K H' t kd (30000 * i+600) (.ref ga) ls rs) ?_ ?_ (by walk_at "sm")
 ·obtain⟨kvs,k1,k2⟩:=n2.m;refine⟨ls,rs,ts,kvs,n2.r,G,hE,gtp,hup,hlt,by lia,k1,k2,fun m kvs' H3 hm f3 hd3 M3=>?_⟩;exact⟨m,rfl,hm,n2.tup (Hn f3) gtp,n2.need f3 hd3 M3⟩
 clear gtp n2 H2;rintro σ H2 ⟨m,rfl,hm,gtp,n2⟩;have hm16:m<=16:=by have:=Mb hE hlt hm;lia
 refine AJ (fun σ H'=>∃(es:Aw) (pp:Addr),σ=[some (.ref a),some (.ref t),some (.int (0+(i:Int))),some (.ref ga),some (.ref tp),some (.ref kd),some (.int (m:Nat)),some (.ref pp),z8,z9,z10,z11]/\RepW K H' (.tup (es.map AL)) (.ref pp)/\es.length<=60/\(∀e∈es,FE 16 16 e)/\H' tp=some (.tup (iL ts))/\GFeed H' t (30000 * i+20700)/\Rep K H' (gmD ls rs) (.ref ga)) ?_ ?_ (by walk_at "sm")
 ·refine⟨_,n2.F,by lia,Ad (by decide) (by decide),fun y H3 y0 y1 F3 f3=>?_⟩;have n3:=n2.draw F3 f3;have gtp3:=n2.tup (DJ f3) gtp
  obtain⟨g1,eg,g2,g3⟩:∃g1:Int,(if decide ((1:Int) < (m:Int))=true then (1:Int) else 0)=g1/\0<=g1/\g1<=1:=by
   by_cases h:(1:Int) < (m:Int)
   ·exact⟨1,if_pos (ZM h),by decide,by decide⟩
   ·exact⟨0,if_neg (fun x=>h (ZN x)),by decide,by decide⟩
  have hk:(m:Int) - (if decide ((1:Int) < (m:Int))=true then (1:Int) else 0) * y<=(m:Int):=by
   rw[eg]
   have:0<=g1 * y:=Int.mul_nonneg g2 y0
   lia
  refine⟨.inr (.inr ⟨Int.lt_of_lt_of_le (show -(2 ^ 64) < (0:Int) by decide) y0,ZBP (show y<=1 by lia) (by decide)⟩),_,ls,rs,ts,n3,by lia,G,hE,gtp3,hup,hlt,fun _=>⟨m,hm,hk⟩,Z0 hk (by lia),fun es pp H4 r4 hl4 hg4 n4 f4=>?_⟩;refine⟨es,pp,rfl,r4,hl4,fun e he=>?_,n3.tup f4 gtp3,n4.F.mono (by lia),n4.r⟩;have ge:=hg4 e he
  have:=CC ls.length e.1 (ge.up.imp fun h=>ZQ h) ge.lt
  exact⟨by lia,fun x hx=>by have:=ge.lt x hx;lia,by have:=ge.one;lia,ge.le⟩
 clear gtp n2 H2;rintro σ H2 ⟨es,pp,rfl,rp,hel,hes,gtp,F2,r2⟩;have hFp:Fit 100000000000000000000 3 3000 (.tup (es.map AL)):=FO hes (by decide) (by decide) (by lia);have up:∀{n' D' B':Nat} {d:Dw},Fit n' D' B' d->n'<=100000000000000000001->D'<=50->B'<=100000->Fit 100000000000000000001 50 100000 d:=fun h h1 h2 h3=>⟨IS h1 _ h.ok,ZP h.dep h2,ZP h.bulk h3⟩
 have htpt:tp≠t:=fun z=>by
  obtain⟨zs,hz⟩:=F2.lst;rw[z,hz]at gtp;cases gtp
 refine AJ (fun σ H'=>∃(l r0:Addr) (zs:List V),σ=[some (.ref a),some (.ref t),some (.int (0+(i:Int))),some (.ref ga),some (.ref tp),some (.ref kd),some (.int (m:Nat)),some (.ref pp),some (.ref l),z9,z10,z11]/\H' l=some (.lst (.ref r0::zs))/\zs.length=3/\l≠t/\AllD K H' (.ref r0::zs)/\RepW K H' (.tup (es.map AL)) (.ref pp)/\H' tp=some (.tup (iL ts))/\GFeed H' t (30000 * i+20800)/\Rep K H' (gmD ls rs) (.ref ga)) ?_ ?_ (by walk_at "sm")
 ·obtain⟨p',xs,ep,hs,hx⟩:=Bg rp;cases ep;refine⟨rfl,xs,hs,fun p1 m1=>⟨smq rfl,fun p2 m2=>?_⟩⟩;have s1:=Same.upd (o:=.tup xs.reverse) m1;have s2:=Same.upd (o:=.tup []) m2;have S:=s1.trans s2;have g1:=s2 _ _ (AD (H:=H2) (a:=p1) (o:=.tup xs.reverse));have g2:=AD (H:=upd H2 p1 (.tup xs.reverse)) (a:=p2) (o:=.tup []);have F3:=F2.same S;have rp3:=RepW.same S _ _ rp;have r3:=Rep.same S _ _ r2;have gtp3:=S _ _ gtp;have hx3:=RepsW.same S _ _ hx;have m1t:=F2.neT m1;have m2t:=(F2.same s1).neT m2;generalize upd (upd H2 p1 (.tup xs.reverse)) p2 (.tup [])=H3 at *;refine⟨.tup (es.map AL),_,100000000000000000000,3,3000,F3,by lia,rp3,hFp,by decide,by decide,by decide,by decide,fun d' u' H4 r4 ft4 F4 f4=>⟨smq rfl,fun l nl=>?_⟩⟩;have s5:=Same.upd (o:=.lst [.ref pp,.ref p1,.ref p2,u']) nl;have fr5:=f4.trans s5.frm;refine⟨l,pp,[.ref p1,.ref p2,u'],rfl,AD,rfl,F4.neT nl,fun x hx'=>?_,RepW.frm fr5 F3.lst _ _ rp3,s5 _ _ (f4 _ _ htpt gtp3),(F4.same s5).mono (by lia),Rep.frm fr5 F3.lst _ _ (Cj ls rs) r3⟩;simp only[ZF,Zn,or_false]at hx'
  rcases hx' with rfl | rfl | rfl | rfl
  ·exact⟨_,RepW.frm fr5 F3.lst _ _ rp3,up hFp (by decide) (by decide) (by decide)⟩
  ·refine⟨.tup (es.reverse.map AL),?_,up (FO (es:=es.reverse) (fun e he=>hes e (ZBX.mp he)) (by decide) (by decide) (by rw[List.length_reverse];lia)) (by decide) (by decide) (by decide)⟩;rw[List.map_reverse];exact As (.of (s5 _ _ (f4 _ _ m1t g1))) (RepsW.frm fr5 F3.lst _ _ hx3.reverse)
  ·exact⟨.tup [],As (.of (s5 _ _ (f4 _ _ m2t g2))) Al,fit_tup.mpr ⟨fun e he=>by simp at he,by unfold AV;lia⟩⟩
  ·exact⟨d',RepW.same s5 _ _ r4,up ft4 (by decide) (by decide) (by decide)⟩
 clear rp gtp F2 r2 H2;rintro σ H2 ⟨l,r0,zs,rfl,gl,hzl,hlt',hA,rp,gtp,F2,r2⟩
 have hni:∀zs':List V,∀ns:List Int,ns.length≠0->(V.ref r0::zs')≠ns.map V.int:=fun zs' ns hn e=>by
  cases ns with
  | nil=>exact hn rfl
  | cons _ _=>cases e
 have htpl:tp≠l:=fun z=>by rw[z,gl]at gtp;cases gtp
 refine AJ (fun σ H'=>∃(ws:List V) (es5:Aw) (p5:Addr) (z9:Option V),σ=[some (.ref a),some (.ref t),some (.int (0+(i:Int))),some (.ref ga),some (.ref tp),some (.ref kd),some (.int (m:Nat)),some (.ref pp),some (.ref l),z9,z10,z11]/\H' l=some (.lst ((.ref r0::ws)++[.ref p5]))/\ws.length=7/\AllD K H' ((.ref r0::ws)++[.ref p5])/\RepW K H' (.tup (es5.map AL)) (.ref p5)/\(∀e∈es5,FE 17 18 e)/\es5.length<=62/\H' tp=some (.tup (iL ts))/\GFeed H' t (30000 * i+20850)/\Rep K H' (gmD ls rs) (.ref ga)) ?_ ?_ (by walk_at "sm")
 ·refine⟨5,rfl,by decide,by decide,?_⟩;refine B8 (fun j σ H'=>∃(ws:List V) (z9:Option V),σ=[some (.ref a),some (.ref t),some (.int (0+(i:Int))),some (.ref ga),some (.ref tp),some (.ref kd),some (.int (m:Nat)),some (.ref pp),some (.ref l),z9,z10,z11]/\H' l=some (.lst (.ref r0::ws))/\ws.length=3+j/\AllD K H' (.ref r0::ws)/\RepW K H' (.tup (es.map AL)) (.ref pp)/\H' tp=some (.tup (iL ts))/\GFeed H' t (30000 * i+20800+5 * j)/\Rep K H' (gmD ls rs) (.ref ga)/\(0 < j->∃(ws':List V) (es5:Aw) (p5:Addr),ws=ws'++[.ref p5]/\RepW K H' (.tup (es5.map AL)) (.ref p5)/\(∀e∈es5,FE 17 18 e)/\es5.length<=62)) ⟨zs,_,rfl,gl,by rw[hzl],hA,rp,gtp,F2,r2,fun h=>absurd h (ZZ _)⟩ ?_ ?_
  ·rintro j σ H3 hj ⟨ws,z9,rfl,gl3,hwl,hA3,rp3,gtp3,F3,r3,-⟩;have hj5:j < 5:=hj;refine⟨.inl ⟨rfl,_,.of gl3⟩,_,ls,rs,es,16,16,F3,by lia,r3,G,rp3,hes,by lia,by decide,by decide,by decide,fun es5 p5 H4 r4 hf4 hl4 F4 f4=>?_⟩;have gl4:=f4 _ _ hlt' gl3;refine⟨_,gl4,Ak (by show ws.length+1<=1000;lia),?_⟩;have fu:Frm l H4 (upd H4 l (.lst ((.ref r0::ws)++[.ref p5]))):=Frm.updT;have r5:=RepW.frm fu ⟨_,gl4⟩ _ _ r4;have hF5:Fit 100000000000000000000 3 3000 (.tup (es5.map AL)):=FO hf4 (by decide) (by decide) (by lia);refine⟨ws++[.ref p5],_,rfl,AD,by rw[ZG];show _+1=_;lia,fun x hx=>?_,RepW.frm fu ⟨_,gl4⟩ _ _ (RepW.frm f4 F3.lst _ _ rp3),fu _ _ htpl (f4 _ _ htpt gtp3),(F4.put hlt' gl4 (hni ws)).mono (by lia),Rep.frm fu ⟨_,gl4⟩ _ _ (Cj ls rs) (Rep.frm f4 F3.lst _ _ (Cj ls rs) r3),fun _=>⟨ws,es5,p5,rfl,r5,hf4,by lia⟩⟩
   rcases ZH.mp (show x∈(.ref r0::ws)++[.ref p5] from hx) with y | y
   ·exact((hA3.frm f4 F3.lst).frm fu ⟨_,gl4⟩) x y
   ·rw[ZO]at y;subst y;exact⟨_,r5,up hF5 (by decide) (by decide) (by decide)⟩
  ·rintro σ H3 ⟨ws,z9,rfl,gl3,hwl,hA3,rp3,gtp3,F3,r3,hlast⟩;obtain⟨ws',es5,p5,rfl,r5,hf5,hl5⟩:=hlast (by decide);have hwl:ws'.length+1=8:=by rw[ZG]at hwl;exact hwl
   exact⟨ws',es5,p5,_,rfl,gl3,by lia,hA3,r5,hf5,hl5,gtp3,F3.mono (by have:Int.toNat 5=5:=rfl;lia),r3⟩
 clear gl hzl hA rp gtp F2 r2 z9 zs H2;rintro σ H2 ⟨ws,es5,p5,z9,rfl,gl,hwl,hA,r5,hf5,hl5,gtp,F2,r2⟩;refine AJ (fun σ H'=>∃(zs:List V),σ=[some (.ref a),some (.ref t),some (.int (0+(i:Int))),some (.ref ga),some (.ref tp),some (.ref kd),some (.int (m:Nat)),some (.ref pp),some (.ref l),z9,z10,z11]/\H' l=some (.lst zs)/\AllD K H' zs/\H' tp=some (.tup (iL ts))/\GFeed H' t (30000 * i+20900)/\Rep K H' (gmD ls rs) (.ref ga)) ?_ ?_ (by walk_at "sm")
 ·refine⟨.inl ⟨rfl,_,.of gl⟩,_,_,.inl (.of gl),JA,by decide,_,r5,?_⟩;refine⟨_,_,.inl (.of gl),JA,_,ls,rs,es5,17,18,F2,by lia,r2,G,r5,hf5,by lia,by decide,by decide,by decide,fun es6 p6 H4 r4 hf4 hl4 F4 f4=>?_⟩;have gl4:=f4 _ _ hlt' gl;refine⟨_,gl4,Ak (by rw[ZG];show ws.length+1+1<=1000;lia),?_⟩;have fu:Frm l H4 (upd H4 l (.lst (((.ref r0::ws)++[.ref p5])++[.ref p6]))):=Frm.updT;have r6:=RepW.frm fu ⟨_,gl4⟩ _ _ r4;have hF6:Fit 100000000000000000000 3 3000 (.tup (es6.map AL)):=FO hf4 (by decide) (by decide) (by lia);refine⟨_,rfl,AD,fun x hx=>?_,fu _ _ htpl (f4 _ _ htpt gtp),(F4.put hlt' gl4 (hni _)).mono (by lia),Rep.frm fu ⟨_,gl4⟩ _ _ (Cj ls rs) (Rep.frm f4 F2.lst _ _ (Cj ls rs) r2)⟩
  rcases ZH.mp hx with y | y
  ·exact((hA.frm f4 F2.lst).frm fu ⟨_,gl4⟩) x y
  ·rw[ZO]at y;subst y;exact⟨_,r6,up hF6 (by decide) (by decide) (by decide)⟩
 clear gl hwl hA r5 hf5 hl5 gtp F2 r2 H2 ws es5 p5;rintro σ H2 ⟨zs,rfl,gl,hA,gtp,F2,r2⟩;refine AJ (fun σ H'=>(∃z10 z11:Option V,σ=[some (.ref a),some (.ref t),some (.int (0+(i:Int))),some (.ref ga),some (.ref tp),some (.ref kd),some (.int (m:Nat)),some (.ref pp),some (.ref l),z9,z10,z11])/\Same H2 H') ?_ ?_ (by walk_at "sm")
 ·refine .inl ⟨⟨_,.of gl⟩,?_⟩;refine Fp (xs:=zs) (fun j σ H'=>(∃z10 z11:Option V,σ=[some (.ref a),some (.ref t),some (.int (0+(i:Int))),some (.ref ga),some (.ref tp),some (.ref kd),some (.int (m:Nat)),some (.ref pp),some (.ref l),z9,z10,z11])/\Same H2 H') ⟨⟨_,_,rfl⟩,Same.refl _⟩ (fun j σ H' _ ⟨_,s⟩=>.inl (.of (s _ _ gl))) ?_ (fun σ H' h=>h);rintro j x σ H3 hx ⟨⟨z10,z11,rfl⟩,s3⟩;obtain⟨d,rd,fd⟩:=hA x (Zw hx);refine⟨smq rfl,fun l2 nl2=>?_⟩;have s4:=Same.upd (o:=.lst [.int 0,.int 1,.int (max 1 (m:Int)),.int ((m:Int)+1)]) nl2;have g4:=AD (H:=H3) (a:=l2) (o:=.lst [.int 0,.int 1,.int (max 1 (m:Int)),.int ((m:Int)+1)])
  have hpos:∀y∈([.int 0,.int 1,.int (max 1 (m:Int)),.int ((m:Int)+1)]:List V),∃z:Int,y=.int z/\0<=z:=fun y hy=>by
   simp only[ZF,Zn,or_false]at hy
   rcases hy with rfl | rfl | rfl | rfl
   ·exact⟨0,rfl,by decide⟩
   ·exact⟨1,rfl,by decide⟩
   ·exact⟨_,rfl,by lia⟩
   ·exact⟨_,rfl,by lia⟩
  refine .inl ⟨⟨_,.of g4⟩,?_⟩;refine Fp (xs:=[.int 0,.int 1,.int (max 1 (m:Int)),.int ((m:Int)+1)]) (fun j σ H'=>(∃z11:Option V,σ=[some (.ref a),some (.ref t),some (.int (0+(i:Int))),some (.ref ga),some (.ref tp),some (.ref kd),some (.int (m:Nat)),some (.ref pp),some (.ref l),z9,some x,z11])/\Same (upd H3 l2 (.lst [.int 0,.int 1,.int (max 1 (m:Int)),.int ((m:Int)+1)])) H') ⟨⟨_,rfl⟩,Same.refl _⟩ (fun j σ H' _ ⟨_,s⟩=>.inl (.of (s _ _ g4))) ?_ (fun σ H' ⟨⟨z11,e⟩,s⟩=>⟨⟨_,_,e⟩,s3.trans (s4.trans s)⟩);rintro j2 y σ H5 hy ⟨⟨z11,rfl⟩,s5⟩;obtain⟨z,rfl,hz⟩:=hpos y (Zw hy);have S5:=s3.trans (s4.trans s5);exact⟨ls,rs,d,r2.same S5,G,RepW.same S5 _ _ rd,fd,hz,fun H6 s6=>⟨⟨_,rfl⟩,s5.trans s6⟩⟩
 rintro σ H3 ⟨⟨z10,z11,rfl⟩,s3⟩;have gtp3:=s3 _ _ gtp;have F3:=F2.same s3;have r3:=Rep.same s3 _ _ r2;refine⟨smq rfl,fun p1 m1=>⟨smq rfl,fun p2 m2=>⟨smq rfl,fun p3 m3=>⟨smq rfl,fun p4 m4=>⟨smq rfl,fun p5 m5=>⟨smq rfl,fun p6 m6=>⟨smq rfl,fun p7 m7=>⟨smq rfl,fun p8 m8=>⟨smq rfl,fun p9 m9=>⟨smq rfl,fun p10 m10=>⟨smq rfl,fun p11 m11=>⟨smq rfl,fun p12 m12=>⟨smq rfl,fun p13 m13=>⟨smq rfl,fun p14 m14=>⟨smq rfl,fun p15 m15=>⟨smq rfl,fun p16 m16=>⟨smq rfl,fun lz mz=>.inl ⟨⟨_,.inl (.of AD)⟩,?_⟩⟩⟩⟩⟩⟩⟩⟩⟩⟩⟩⟩⟩⟩⟩⟩⟩⟩;have a1:=Same.upd (o:=.ext (A6 p1 [])) m1;have a2:=Same.upd (o:=.tup [.int 0]) m2;have a3:=Same.upd (o:=.tup [.ref p2,.int 1]) m3;have a4:=Same.upd (o:=.ext (A6 p4 [.ref p3])) m4;have a5:=Same.upd (o:=.tup [.non]) m5;have a6:=Same.upd (o:=.tup []) m6;have a7:=Same.upd (o:=.tup [.ref p6,.int 1]) m7;have a8:=Same.upd (o:=.tup [.ref p7]) m8;have a9:=Same.upd (o:=.tup [.int 0]) m9;have a10:=Same.upd (o:=.tup [.ref p9,.int 5]) m10;have a11:=Same.upd (o:=.tup [.ref p10]) m11;have a12:=Same.upd (o:=.tup [.int 0,.int 0]) m12;have a13:=Same.upd (o:=.tup [.ref p12,.int 1]) m13;have a14:=Same.upd (o:=.tup [.ref p13]) m14;have a15:=Same.upd (o:=.tup [.ref tp,.bl true]) m15;have a16:=Same.upd (o:=.tup [.ref p15]) m16;have az:=Same.upd (o:=.lst [.non,.ref p1,.ref p4,.ref p5,.ref p8,.ref p11,.ref p14,.ref p16]) mz;have b16:=az;have b15:=a16.trans b16;have b14:=a15.trans b15;have b13:=a14.trans b14;have b12:=a13.trans b13;have b11:=a12.trans b12;have b10:=a11.trans b11;have b9:=a10.trans b10;have b8:=a9.trans b9;have b7:=a8.trans b8;have b6:=a7.trans b7;have b5:=a6.trans b6;have b4:=a5.trans b5;have b3:=a4.trans b4;have b2:=a3.trans b3;have b1:=a2.trans b2;have b0:=a1.trans b1;have g1:=b1 _ _ (AD (H:=_) (a:=p1) (o:=.ext (A6 p1 [])));have g2:=b2 _ _ (AD (H:=_) (a:=p2) (o:=.tup [.int 0]));have g3:=b3 _ _ (AD (H:=_) (a:=p3) (o:=.tup [.ref p2,.int 1]));have g4:=b4 _ _ (AD (H:=_) (a:=p4) (o:=.ext (A6 p4 [.ref p3])));have g5:=b5 _ _ (AD (H:=_) (a:=p5) (o:=.tup [.non]));have g6:=b6 _ _ (AD (H:=_) (a:=p6) (o:=.tup []));have g7:=b7 _ _ (AD (H:=_) (a:=p7) (o:=.tup [.ref p6,.int 1]));have g8:=b8 _ _ (AD (H:=_) (a:=p8) (o:=.tup [.ref p7]));have g9:=b9 _ _ (AD (H:=_) (a:=p9) (o:=.tup [.int 0]));have g10:=b10 _ _ (AD (H:=_) (a:=p10) (o:=.tup [.ref p9,.int 5]));have g11:=b11 _ _ (AD (H:=_) (a:=p11) (o:=.tup [.ref p10]));have g12:=b12 _ _ (AD (H:=_) (a:=p12) (o:=.tup [.int 0,.int 0]));have g13:=b13 _ _ (AD (H:=_) (a:=p13) (o:=.tup [.ref p12,.int 1]));have g14:=b14 _ _ (AD (H:=_) (a:=p14) (o:=.tup [.ref p13]));have g15:=b15 _ _ (AD (H:=_) (a:=p15) (o:=.tup [.ref tp,.bl true]));have g16:=b16 _ _ (AD (H:=_) (a:=p16) (o:=.tup [.ref p15]));have r4:=Rep.same b0 _ _ r3;have F4:=F3.same b0;have gtp4:=b0 _ _ gtp3;have gz:=AD (H:=(upd (upd (upd (upd (upd (upd (upd (upd (upd (upd (upd (upd (upd (upd (upd (upd H3 p1 (.ext (A6 p1 []))) p2 (.tup [.int 0])) p3 (.tup [.ref p2,.int 1])) p4 (.ext (A6 p4 [.ref p3]))) p5 (.tup [.non])) p6 (.tup [])) p7 (.tup [.ref p6,.int 1])) p8 (.tup [.ref p7])) p9 (.tup [.int 0])) p10 (.tup [.ref p9,.int 5])) p11 (.tup [.ref p10])) p12 (.tup [.int 0,.int 0])) p13 (.tup [.ref p12,.int 1])) p14 (.tup [.ref p13])) p15 (.tup [.ref tp,.bl true])) p16 (.tup [.ref p15]))) (a:=lz) (o:=.lst [.non,.ref p1,.ref p4,.ref p5,.ref p8,.ref p11,.ref p14,.ref p16]);generalize upd (upd (upd (upd (upd (upd (upd (upd (upd (upd (upd (upd (upd (upd (upd (upd (upd H3 p1 (.ext (A6 p1 []))) p2 (.tup [.int 0])) p3 (.tup [.ref p2,.int 1])) p4 (.ext (A6 p4 [.ref p3]))) p5 (.tup [.non])) p6 (.tup [])) p7 (.tup [.ref p6,.int 1])) p8 (.tup [.ref p7])) p9 (.tup [.int 0])) p10 (.tup [.ref p9,.int 5])) p11 (.tup [.ref p10])) p12 (.tup [.int 0,.int 0])) p13 (.tup [.ref p12,.int 1])) p14 (.tup [.ref p13])) p15 (.tup [.ref tp,.bl true])) p16 (.tup [.ref p15])) lz (.lst [.non,.ref p1,.ref p4,.ref p5,.ref p8,.ref p11,.ref p14,.ref p16])=H4 at *;have fz:∀d:Dw,okW 100000000000000000001 d=true->Au d<=50->AY d<=100000->Fit 100000000000000000001 50 100000 d:=fun d a b c=>⟨a,b,c⟩
 have ftw:Fit 100000000000000000001 3 30 (.tup [.tup [.tup (ts.map fun(t:Nat)=>Dw.int (t:Int)),.bl true]]):=by
  have bi:∀ts:List Nat,AV (ts.map fun(t:Nat)=>Dw.int (t:Int))=ts.length:=fun ts=>by
   induction ts with
   | nil=>rfl
   | cons t ts ih=>show 0+1+AV (ts.map fun(t:Nat)=>Dw.int (t:Int))=ts.length+1;rw[ih];lia
  have f1:Fit 100000000000000000001 1 16 (.tup (ts.map fun(t:Nat)=>Dw.int (t:Int))):=fit_tup.mpr ⟨fun x hx=>by
   obtain⟨t',ht',rfl⟩:=ZT.mp hx
   have:=hlt t' ht'
   have f:Fit 100000000000000000001 0 0 (.int (t':Int)):=B3 (by lia);exact⟨f.ok,f.dep⟩,by rw[bi];lia⟩
  have f2:Fit 100000000000000000001 2 20 (.tup [.tup (ts.map fun(t:Nat)=>Dw.int (t:Int)),.bl true]):=fit_tup.mpr ⟨fun x hx=>by
   simp only[ZF,Zn,or_false]at hx
   rcases hx with rfl | rfl
   ·exact⟨f1.ok,f1.dep⟩
   ·exact⟨by simp[okW],by simp[Au]⟩,by
   have e0:AV [.tup (ts.map fun(t:Nat)=>Dw.int (t:Int)),.bl true]=AY (.tup (ts.map fun(t:Nat)=>Dw.int (t:Int)))+1+(0+1+0):=rfl
   have:=f1.bulk
   rw[e0];lia⟩
  exact fit_tup.mpr ⟨fun x hx=>by
   rw[ZO]at hx;subst hx;exact⟨f2.ok,f2.dep⟩,by
   have e0:AV [.tup [.tup (ts.map fun(t:Nat)=>Dw.int (t:Int)),.bl true]]=AY (.tup [.tup (ts.map fun(t:Nat)=>Dw.int (t:Int)),.bl true])+1+0:=rfl
   have:=f2.bulk
   rw[e0];lia⟩
 have hall:AllD K H4 [.non,.ref p1,.ref p4,.ref p5,.ref p8,.ref p11,.ref p14,.ref p16]:=fun x hx=>by
  simp only[ZF,Zn,or_false]at hx
  rcases hx with rfl | rfl | rfl | rfl | rfl | rfl | rfl | rfl
  ·exact⟨.non,EX,Em⟩
  ·exact⟨.lst [],Fm g1 Al,fz _ (by decide) (by decide) (by decide)⟩
  ·exact⟨.lst [.tup [.tup [.int 0],.int 1]],Fm g4 (Ao (As (.of g3) (Ao (As (.of g2) (Ao BE Al)) (Ao BE Al))) Al),fz _ (by decide) (by decide) (by decide)⟩
  ·exact⟨.tup [.non],As (.of g5) (Ao EX Al),fz _ (by decide) (by decide) (by decide)⟩
  ·exact⟨.tup [.tup [.tup [],.int 1]],As (.of g8) (Ao (As (.of g7) (Ao (As (.of g6) Al) (Ao BE Al))) Al),fz _ (by decide) (by decide) (by decide)⟩
  ·exact⟨.tup [.tup [.tup [.int 0],.int 5]],As (.of g11) (Ao (As (.of g10) (Ao (As (.of g9) (Ao BE Al)) (Ao BE Al))) Al),fz _ (by decide) (by decide) (by decide)⟩
  ·exact⟨.tup [.tup [.tup [.int 0,.int 0],.int 1]],As (.of g14) (Ao (As (.of g13) (Ao (As (.of g12) (Ao BE (Ao BE Al))) (Ao BE Al))) Al),fz _ (by decide) (by decide) (by decide)⟩
  ·exact⟨_,As (.of g16) (Ao (As (.of g15) (Ao (As (.of gtp4) (HS ts)) (Ao DB Al))) Al),up ftw (by decide) (by decide) (by decide)⟩
 generalize ([.non,.ref p1,.ref p4,.ref p5,.ref p8,.ref p11,.ref p14,.ref p16]:List V)=zs2 at *;refine Fp (xs:=zs2) (fun j σ H'=>(∃z10:Option V,σ=[some (.ref a),some (.ref t),some (.int (0+(i:Int))),some (.ref ga),some (.ref tp),some (.ref kd),some (.int (m:Nat)),some (.ref pp),some (.ref l),z9,z10,z11])/\Same H4 H') ⟨⟨_,rfl⟩,Same.refl _⟩ (fun j σ H' _ ⟨_,s⟩=>.inl (.of (s _ _ gz))) ?_ (fun σ H' ⟨⟨z10,e⟩,s⟩=>⟨⟨_,_,_,_,_,_,_,_,_,_,e⟩,(F4.same s).mono (by lia)⟩);rintro j x σ H5 hx ⟨⟨z10,rfl⟩,s5⟩;obtain⟨d,rd,fd⟩:=hall x (Zw hx);refine⟨ls,rs,d,r4.same s5,G,RepW.same s5 _ _ rd,fd,by decide,fun H6 s6=>?_⟩;refine⟨ls,rs,d,r4.same (s5.trans s6),G,RepW.same (s5.trans s6) _ _ rd,fd,by decide,fun H7 s7=>?_⟩;exact⟨⟨_,rfl⟩,s5.trans (s6.trans s7)⟩
end
abbrev DI(K:W.Frag)(n:Str)(st:Stmt)(f:Addr):Prop:=∃(oc kV dc pm cd ct:Value) (od an:Option Addr) (sl:Array (Option Value)),W.nsIn K mainGlobals n=some (some (.ref f))/\K.lookup f=some ⟨oc,od,.func (W.fnOf n n (CB st) (Bu st) (AU st) .none kV dc pm an cd ct),sl⟩/\W.codeIn K cd n=true/\W.keepIn K (.ref f)=true
structure FD(K:W.Frag)(mg:Str->Option Value)(n:Str)(st:Stmt)(ps:List Str)(f:Addr) where
 d:FuncData
 F:Fun K n n st f d
 b:Binds K d ps []
 m:mg n=some (.ref f)
theorem DI.fd{K:W.Frag}{h:Heap}{mg:Str->Option Value}{n:Str}{st:Stmt}{f:Addr}{ps:List Str}(i:DI K n st f)(X:K.In h)(G:h.Ns mainGlobals mg)(hb:∀(kV doc pm:Value) (an:Option Addr) (cdv ct:Value) (us:List Value),us.length=ps.length->bindArgs (W.fnOf n n (CB st) (Bu st) (AU st) .none kV doc pm an cdv ct) ⟨us,[]⟩=pure (ps.zip us)):Nonempty (FD K mg n st ps f):=by
 obtain⟨oc,kV,dc,pm,cd,ct,od,an,sl,a,l,c,k⟩:=i;exact⟨⟨_,EQ l c k,(EQ l c k).binds hb,W.mg_of X G a⟩⟩
abbrev DM(K:W.Frag)(C:Addr)(n q:Str)(st:Stmt)(f:Addr):Prop:=∃(oc kV dc pm cd ct:Value) (od an:Option Addr) (sl:Array (Option Value)),W.findIn K (.ref C) n=some (some (.ref f))/\W.isFn K (.ref f)=true/\K.lookup f=some ⟨oc,od,.func (W.fnOf n q (CB st) (Bu st) (AU st) .none kV dc pm an cd ct),sl⟩/\W.codeIn K cd q=true/\W.keepIn K (.ref f)=true
structure FM(K:W.Frag)(C:Addr)(n q:Str)(st:Stmt)(ps:List Str)(f:Addr) where
 d:FuncData
 F:Fun K n q st f d
 b:Binds K d ps []
 m:Meth K C n f
theorem DM.fm{K:W.Frag}{C:Addr}{n q:Str}{st:Stmt}{f:Addr}{ps:List Str}(i:DM K C n q st f)(hb:∀(kV doc pm:Value) (an:Option Addr) (cdv ct:Value) (us:List Value),us.length=ps.length->bindArgs (W.fnOf n q (CB st) (Bu st) (AU st) .none kV doc pm an cdv ct) ⟨us,[]⟩=pure (ps.zip us)):Nonempty (FM K C n q st ps f):=by
 obtain⟨oc,kV,dc,pm,cd,ct,od,an,sl,a,i,l,c,k⟩:=i;exact⟨⟨_,EQ l c k,(EQ l c k).binds hb,⟨a,i,k⟩⟩⟩
theorem all_di{K:W.Frag}{n:Str}{st:Stmt}{f:Addr}{oc kV dc pm cd ct:Value}{od an:Option Addr}{sl:Array (Option Value)}(a:W.nsIn K mainGlobals n=some (some (.ref f)))(l:K.lookup f=some ⟨oc,od,.func (W.fnOf n n (CB st) (Bu st) (AU st) .none kV dc pm an cd ct),sl⟩)(c:W.codeIn K cd n=true)(k:W.keepIn K (.ref f)=true):DI K n st f:=⟨_,_,_,_,_,_,_,_,_,a,l,c,k⟩
theorem all_dm{K:W.Frag}{C:Addr}{n q:Str}{st:Stmt}{f:Addr}{oc kV dc pm cd ct:Value}{od an:Option Addr}{sl:Array (Option Value)}(a:W.findIn K (.ref C) n=some (some (.ref f)))(i:W.isFn K (.ref f)=true)(l:K.lookup f=some ⟨oc,od,.func (W.fnOf n q (CB st) (Bu st) (AU st) .none kV dc pm an cd ct),sl⟩)(c:W.codeIn K cd q=true)(k:W.keepIn K (.ref f)=true):DM K C n q st f:=⟨_,_,_,_,_,_,_,_,_,a,i,l,c,k⟩
theorem all_mk {l:W.OpenLaw} {w:World} {K:W.Frag} {h:Heap} {mg:Str->Option Value} {fa:Addr} (X:K.In h) (G:h.Ns mainGlobals mg) (hfa:mg "law" = some (.ref fa))
 {C_Bearing:Addr}
 {f37:Addr} {oc37 kV37 dc37 pm37 cd37 ct37:Value} {od37 an37:Option Addr} {sl37:Array (Option Value)}
 {f0 f1 f2 f3 f4 f5 f6 f7 f8 f9 f10 f11 f12 f13 f14 f15 f16 f17 f18 f19 f20 f21 f22 f23 f24 f25 f26 f27 f28 f29 f30 f31 f32 f33 f34 f35 f36:Addr}
 (aC_Bearing:W.nsIn K mainGlobals "Bearing" = some (some (.ref C_Bearing)))
 (pg_Bearing:W.plainGet K C_Bearing Str.empty=true)
 (hd_Bearing:W.hasDictIn K C_Bearing=true)
 (po_Bearing:W.plainOver K C_Bearing=true)
 (sa_Bearing:W.findIn K (.ref C_Bearing) "__setattr__" = some (some (.builtin "object.__setattr__")))
 (mk_Bearing:W.makesIn K C_Bearing=true)
 (kc_Bearing:W.keepIn K (.ref C_Bearing)=true)
 (na_yeses_Bearing:W.findIn K (.ref C_Bearing) "yeses" = some none)
 (na_numbers_Bearing:W.findIn K (.ref C_Bearing) "numbers" = some none)
 (na_found_Bearing:W.findIn K (.ref C_Bearing) "found" = some none)
 (i0:DI K "is_whole" Gj f0)
 (i1:DI K "is_below" Iw f1)
 (i2:DI K "two_to" GD f2)
 (i3:DI K "power_of" HP f3)
 (i4:DI K "within" Iz f4)
 (i5:DI K "set_holding" Ge f5)
 (i6:DI K "is_pair" JV f6)
 (i7:DI K "lets_hard" JK f7)
 (i8:DI K "is_entry" Ht f8)
 (i9:DI K "are_things" IQ f9)
 (i10:DM K C_Bearing "__init__" "Bearing.__init__" HU f10)
 (i11:DM K C_Bearing "bears_all" "Bearing.bears_all" Hr f11)
 (i12:DM K C_Bearing "bears" "Bearing.bears" I0 f12)
 (i13:DM K C_Bearing "has_within" "Bearing.has_within" IT f13)
 (i14:DM K C_Bearing "greatest_within" "Bearing.greatest_within" JQ f14)
 (i15:DI K "_law_feed" GP f15)
 (i16:DI K "_law_draw" IC f16)
 (i17:DI K "_law_table" IK f17)
 (i18:DI K "_law_table_game" Gb f18)
 (i19:DI K "_law_class" He f19)
 (i20:DI K "_law_class_game" Ho f20)
 (i21:DI K "_law_picks" Hm f21)
 (i22:DI K "_law_any_game" JP f22)
 (i23:DI K "_law_game" G5 f23)
 (i24:DI K "_law_pair" JW f24)
 (i25:DI K "_law_ending" Ig f25)
 (i26:DI K "_law_sides" Hj f26)
 (i27:DI K "_law_need" Fv f27)
 (i28:DI K "_law_bent" HV f28)
 (i29:DI K "_law_is_whole_one" Iu f29)
 (i30:DI K "_law_is_row_of" IP f30)
 (i31:DI K "_law_backed" Io f31)
 (i32:DI K "_law_hard" GW f32)
 (i33:DI K "_law_fewer" II f33)
 (i34:DI K "_law_paper" JR f34)
 (i35:DI K "_law_forged" G9 f35)
 (i36:DI K "_law_right" Gn f36)
 (a37:W.nsIn K mainGlobals "law" = some (some (.ref f37)))
 (l37:K.lookup f37=some ⟨oc37,od37,.func (W.fnOf "law" "law" (CB Cd) (Bu Cd) (AU Cd) .none kV37 dc37 pm37 an37 cd37 ct37),sl37⟩)
 (c37:W.codeIn K cd37 "law" = true)
 (k37:W.keepIn K (.ref f37)=true)
 (z_all:W.nsIn K mainGlobals "all" = some none)
 (z_bool:W.nsIn K mainGlobals "bool" = some none)
 (z_enumerate:W.nsIn K mainGlobals "enumerate" = some none)
 (z_int:W.nsIn K mainGlobals "int" = some none)
 (z_isinstance:W.nsIn K mainGlobals "isinstance" = some none)
 (z_len:W.nsIn K mainGlobals "len" = some none)
 (z_list:W.nsIn K mainGlobals "list" = some none)
 (z_max:W.nsIn K mainGlobals "max" = some none)
 (z_min:W.nsIn K mainGlobals "min" = some none)
 (z_range:W.nsIn K mainGlobals "range" = some none)
 (z_repr:W.nsIn K mainGlobals "repr" = some none)
 (z_set:W.nsIn K mainGlobals "set" = some none)
 (z_sorted:W.nsIn K mainGlobals "sorted" = some none)
 (z_str:W.nsIn K mainGlobals "str" = some none)
 (z_sum:W.nsIn K mainGlobals "sum" = some none)
 (z_tuple:W.nsIn K mainGlobals "tuple" = some none) :
 ∃fd:FuncData,(∀(s:Shared) (v:Value),BindsTo s fd ⟨[v],[]⟩ [("_law_script",v)])/\∀base:Heap,K.In base->base.Ns mainGlobals mg->FnOk l.prog w K mg base CX0 22 fa fd ["_law_script"] (Et K):=by
 have e:=hfa.symm.trans (W.mg_of X G a37);cases e;obtain⟨Q0⟩:=i0.fd X G (ps:=["thing"]) fun _ _ _ _ _ _=>L2.on1 (fun _=>rfl)
 obtain⟨Q1⟩:=i1.fd X G (ps:=["bound","thing"]) fun _ _ _ _ _ _=>L2.on2 (fun _ _=>rfl)
 obtain⟨Q2⟩:=i2.fd X G (ps:=["n"]) fun _ _ _ _ _ _=>L2.on1 (fun _=>rfl)
 obtain⟨Q3⟩:=i3.fd X G (ps:=["base","times"]) fun _ _ _ _ _ _=>L2.on2 (fun _ _=>rfl)
 obtain⟨Q4⟩:=i4.fd X G (ps:=["subset","other"]) fun _ _ _ _ _ _=>L2.on2 (fun _ _=>rfl)
 obtain⟨Q5⟩:=i5.fd X G (ps:=["members"]) fun _ _ _ _ _ _=>L2.on1 (fun _=>rfl)
 obtain⟨Q6⟩:=i6.fd X G (ps:=["thing"]) fun _ _ _ _ _ _=>L2.on1 (fun _=>rfl)
 obtain⟨Q7⟩:=i7.fd X G (ps:=["game","d","thing"]) fun _ _ _ _ _ _=>L2.on3 (fun _ _ _=>rfl)
 obtain⟨Q8⟩:=i8.fd X G (ps:=["game","thing"]) fun _ _ _ _ _ _=>L2.on2 (fun _ _=>rfl)
 obtain⟨Q9⟩:=i9.fd X G (ps:=["many","thing"]) fun _ _ _ _ _ _=>L2.on2 (fun _ _=>rfl)
 obtain⟨Q10⟩:=i10.fm (ps:=["self","game","entries"]) fun _ _ _ _ _ _=>L2.on3 (fun _ _ _=>rfl)
 obtain⟨Q11⟩:=i11.fm (ps:=["self"]) fun _ _ _ _ _ _=>L2.on1 (fun _=>rfl)
 obtain⟨Q12⟩:=i12.fm (ps:=["self","things","number","yes"]) fun _ _ _ _ _ _=>L2.on4 (fun _ _ _ _=>rfl)
 obtain⟨Q13⟩:=i13.fm (ps:=["self","things","number"]) fun _ _ _ _ _ _=>L2.on3 (fun _ _ _=>rfl)
 obtain⟨Q14⟩:=i14.fm (ps:=["self","things"]) fun _ _ _ _ _ _=>L2.on2 (fun _ _=>rfl)
 obtain⟨Q15⟩:=i15.fd X G (ps:=["_law_script"]) fun _ _ _ _ _ _=>L2.on1 (fun _=>rfl)
 obtain⟨Q16⟩:=i16.fd X G (ps:=["_law_feed_here","_law_many"]) fun _ _ _ _ _ _=>L2.on2 (fun _ _=>rfl)
 obtain⟨Q17⟩:=i17.fd X G (ps:=["_law_feed_here","_law_n"]) fun _ _ _ _ _ _=>L2.on2 (fun _ _=>rfl)
 obtain⟨Q18⟩:=i18.fd X G (ps:=["_law_table_here"]) fun _ _ _ _ _ _=>L2.on1 (fun _=>rfl)
 obtain⟨Q19⟩:=i19.fd X G (ps:=["_law_feed_here","_law_n","_law_many"]) fun _ _ _ _ _ _=>L2.on3 (fun _ _ _=>rfl)
 obtain⟨Q20⟩:=i20.fd X G (ps:=["_law_tables"]) fun _ _ _ _ _ _=>L2.on1 (fun _=>rfl)
 obtain⟨Q21⟩:=i21.fd X G (ps:=["_law_feed_here"]) fun _ _ _ _ _ _=>L2.on1 (fun _=>rfl)
 obtain⟨Q22⟩:=i22.fd X G (ps:=["_law_feed_here"]) fun _ _ _ _ _ _=>L2.on1 (fun _=>rfl)
 obtain⟨Q23⟩:=i23.fd X G (ps:=["_law_feed_here"]) fun _ _ _ _ _ _=>L2.on1 (fun _=>rfl)
 obtain⟨Q24⟩:=i24.fd X G (ps:=["_law_game_here"]) fun _ _ _ _ _ _=>L2.on1 (fun _=>rfl)
 obtain⟨Q25⟩:=i25.fd X G (ps:=["_law_game_here"]) fun _ _ _ _ _ _=>L2.on1 (fun _=>rfl)
 obtain⟨Q26⟩:=i26.fd X G (ps:=["_law_game_here","_law_things","_law_question"]) fun _ _ _ _ _ _=>L2.on3 (fun _ _ _=>rfl)
 obtain⟨Q27⟩:=i27.fd X G (ps:=["_law_game_here","_law_things","_law_known"]) fun _ _ _ _ _ _=>L2.on3 (fun _ _ _=>rfl)
 obtain⟨Q28⟩:=i28.fd X G (ps:=["_law_feed_here","_law_thing"]) fun _ _ _ _ _ _=>L2.on2 (fun _ _=>rfl)
 obtain⟨Q29⟩:=i29.fd X G (ps:=["_law_thing"]) fun _ _ _ _ _ _=>L2.on1 (fun _=>rfl)
 obtain⟨Q30⟩:=i30.fd X G (ps:=["_law_game_here","_law_thing"]) fun _ _ _ _ _ _=>L2.on2 (fun _ _=>rfl)
 obtain⟨Q31⟩:=i31.fd X G (ps:=["_law_game_here","_law_paper_here","_law_things","_law_number","_law_question"]) fun _ _ _ _ _ _=>L2.on5 (fun _ _ _ _ _=>rfl)
 obtain⟨Q32⟩:=i32.fd X G (ps:=["_law_game_here","_law_d","_law_paper_here"]) fun _ _ _ _ _ _=>L2.on3 (fun _ _ _=>rfl)
 obtain⟨Q33⟩:=i33.fd X G (ps:=["_law_feed_here","_law_game_here","_law_things","_law_number","_law_known"]) fun _ _ _ _ _ _=>L2.on5 (fun _ _ _ _ _=>rfl)
 obtain⟨Q34⟩:=i34.fd X G (ps:=["_law_feed_here","_law_game_here","_law_things","_law_number","_law_known"]) fun _ _ _ _ _ _=>L2.on5 (fun _ _ _ _ _=>rfl)
 obtain⟨Q35⟩:=i35.fd X G (ps:=["_law_feed_here","_law_game_here","_law_paper_here"]) fun _ _ _ _ _ _=>L2.on3 (fun _ _ _=>rfl)
 obtain⟨Q36⟩:=i36.fd X G (ps:=["_law_game_here","_law_d","_law_thing"]) fun _ _ _ _ _ _=>L2.on3 (fun _ _ _=>rfl)
 have F37:=EQ (st:=Cd) l37 c37 k37;have b37:=F37.binds (ps:=["_law_script"]) fun _ _ _ _ _ _=>L2.on1 (fun _=>rfl)
 let T:Txt K mg:={ C_Bearing:=C_Bearing,mC_Bearing:=W.mg_of X G aC_Bearing,cl_Bearing:=⟨pg_Bearing,hd_Bearing,po_Bearing,sa_Bearing⟩,na_Bearing_yeses:=na_yeses_Bearing,na_Bearing_numbers:=na_numbers_Bearing,na_Bearing_found:=na_found_Bearing,f_z43:=f0,d_z43:=Q0.d,F_z43:=Q0.F,b_z43:=Q0.b,m_z43:=Q0.m,f_z45:=f1,d_z45:=Q1.d,F_z45:=Q1.F,b_z45:=Q1.b,m_z45:=Q1.m,f_z48:=f2,d_z48:=Q2.d,F_z48:=Q2.F,b_z48:=Q2.b,m_z48:=Q2.m,f_z44:=f3,d_z44:=Q3.d,F_z44:=Q3.F,b_z44:=Q3.b,m_z44:=Q3.m,f_z47:=f4,d_z47:=Q4.d,F_z47:=Q4.F,b_z47:=Q4.b,m_z47:=Q4.m,f_z24:=f5,d_z24:=Q5.d,F_z24:=Q5.F,b_z24:=Q5.b,m_z24:=Q5.m,f_z46:=f6,d_z46:=Q6.d,F_z46:=Q6.F,b_z46:=Q6.b,m_z46:=Q6.m,f_z36:=f7,d_z36:=Q7.d,F_z36:=Q7.F,b_z36:=Q7.b,m_z36:=Q7.m,f_z42:=f8,d_z42:=Q8.d,F_z42:=Q8.F,b_z42:=Q8.b,m_z42:=Q8.m,f_z26:=f9,d_z26:=Q9.d,F_z26:=Q9.F,b_z26:=Q9.b,m_z26:=Q9.m,f_z20:=f10,d_z20:=Q10.d,F_z20:=Q10.F,b_z20:=Q10.b,me_z20:=Q10.m,mk_Bearing:=⟨mk_Bearing,Q10.m.at_,Q10.m.fn,kc_Bearing⟩,f_z14:=f11,d_z14:=Q11.d,F_z14:=Q11.F,b_z14:=Q11.b,me_z14:=Q11.m,f_z17:=f12,d_z17:=Q12.d,F_z17:=Q12.F,b_z17:=Q12.b,me_z17:=Q12.m,f_z13:=f13,d_z13:=Q13.d,F_z13:=Q13.F,b_z13:=Q13.b,me_z13:=Q13.m,f_z12:=f14,d_z12:=Q14.d,F_z12:=Q14.F,b_z12:=Q14.b,me_z12:=Q14.m,f_z40:=f15,d_z40:=Q15.d,F_z40:=Q15.F,b_z40:=Q15.b,m_z40:=Q15.m,f_z35:=f16,d_z35:=Q16.d,F_z35:=Q16.F,b_z35:=Q16.b,m_z35:=Q16.m,f_z30:=f17,d_z30:=Q17.d,F_z30:=Q17.F,b_z30:=Q17.b,m_z30:=Q17.m,f_z16:=f18,d_z16:=Q18.d,F_z16:=Q18.F,b_z16:=Q18.b,m_z16:=Q18.m,f_z29:=f19,d_z29:=Q19.d,F_z29:=Q19.F,b_z29:=Q19.b,m_z29:=Q19.m,f_z18:=f20,d_z18:=Q20.d,F_z18:=Q20.F,b_z18:=Q20.b,m_z18:=Q20.m,f_z27:=f21,d_z27:=Q21.d,F_z27:=Q21.F,b_z27:=Q21.b,m_z27:=Q21.m,f_z21:=f22,d_z21:=Q22.d,F_z21:=Q22.F,b_z21:=Q22.b,m_z21:=Q22.m,f_z41:=f23,d_z41:=Q23.d,F_z41:=Q23.F,b_z41:=Q23.b,m_z41:=Q23.m,f_z34:=f24,d_z34:=Q24.d,F_z34:=Q24.F,b_z34:=Q24.b,m_z34:=Q24.m,f_z23:=f25,d_z23:=Q25.d,F_z23:=Q25.F,b_z23:=Q25.b,m_z23:=Q25.m,f_z33:=f26,d_z33:=Q26.d,F_z33:=Q26.F,b_z33:=Q26.b,m_z33:=Q26.m,f_z37:=f27,d_z37:=Q27.d,F_z37:=Q27.F,b_z37:=Q27.b,m_z37:=Q27.m,f_z39:=f28,d_z39:=Q28.d,F_z39:=Q28.F,b_z39:=Q28.b,m_z39:=Q28.m,f_z15:=f29,d_z15:=Q29.d,F_z15:=Q29.F,b_z15:=Q29.b,m_z15:=Q29.m,f_z19:=f30,d_z19:=Q30.d,F_z19:=Q30.F,b_z19:=Q30.b,m_z19:=Q30.m,f_z25:=f31,d_z25:=Q31.d,F_z25:=Q31.F,b_z25:=Q31.b,m_z25:=Q31.m,f_z38:=f32,d_z38:=Q32.d,F_z38:=Q32.F,b_z38:=Q32.b,m_z38:=Q32.m,f_z31:=f33,d_z31:=Q33.d,F_z31:=Q33.F,b_z31:=Q33.b,m_z31:=Q33.m,f_z28:=f34,d_z28:=Q34.d,F_z28:=Q34.F,b_z28:=Q34.b,m_z28:=Q34.m,f_z22:=f35,d_z22:=Q35.d,F_z22:=Q35.F,b_z22:=Q35.b,m_z22:=Q35.m,f_z32:=f36,d_z32:=Q36.d,F_z32:=Q36.F,b_z32:=Q36.b,m_z32:=Q36.m,f_law:=fa,d_law:=_,F_law:=F37,b_law:=b37,m_law:=W.mg_of X G a37,z_all:=W.mg_none_of X G z_all,z_bool:=W.mg_none_of X G z_bool,z_enumerate:=W.mg_none_of X G z_enumerate,z_int:=W.mg_none_of X G z_int,z_isinstance:=W.mg_none_of X G z_isinstance,z_len:=W.mg_none_of X G z_len,z_list:=W.mg_none_of X G z_list,z_max:=W.mg_none_of X G z_max,z_min:=W.mg_none_of X G z_min,z_range:=W.mg_none_of X G z_range,z_repr:=W.mg_none_of X G z_repr,z_set:=W.mg_none_of X G z_set,z_sorted:=W.mg_none_of X G z_sorted,z_str:=W.mg_none_of X G z_str,z_sum:=W.mg_none_of X G z_sum,z_tuple:=W.mg_none_of X G z_tuple };exact⟨W.fnOf "law" "law" (CB Cd) (Bu Cd) (AU Cd) .none kV37 dc37 pm37 an37 cd37 ct37,fun s v=>.of_eq rfl,fun base _ _=>TU T⟩
theorem walk {l:W.OpenLaw} {q:Program} {loose:List Str} {XP:(Str->Option Value)->Heap->Prop} {YP:World->Heap->Prop} {d:DefRec} {K:Params->W.Frag} (hn:l.most=some 63) (hdf:d.params.defaults=[])
 (hY:∀(w:World) (h:Heap),YP w h->(K w.params).In h)
 (F:∀(w:World) (mg:Str->Option Value) (fa:Addr) (h:Heap),(K w.params).In h->h.Ns mainGlobals mg->mg d.name=some (.ref fa) ->
   ∃fd:FuncData,(∀(s:Shared) (u:Value),BindsTo s fd ⟨[u],[]⟩ [("_law_script",u)])/\∀base:Heap,(K w.params).In base->base.Ns mainGlobals mg->FnOk l.prog w (K w.params) mg base CX0 22 fa fd ["_law_script"] (Et (K w.params))) :
 W.WalkO q loose XP YP l.row.toRowW d [] (fun f vs=>PySem.call f vs) :=
 L2.walk_of (n:=63) (k:=22) (x:="_law_script") (CX:=fun _=>CX0) (sp:=fun w=>Et (K w.params)) hn (by decide) hdf ⟨rfl,by decide,by decide,rfl⟩ hY F (fun _ _ a ns hl _ hS=>⟨a,ns,rfl,hS,hl,fun _=>rfl⟩) fun _ _ _ _ _ z=>z
end Mine
namespace PySem.W.Fast
theorem tw6246518148979544570:0=0:=rfl
theorem tw6105962328733152486:0=0:=rfl
theorem tw3436976199656713867:0=0:=rfl
theorem tw6216077652137353695:0=0:=rfl
theorem tw6916744663079683366:0=0:=rfl
theorem tw9533186543010735537:0=0:=rfl
theorem tw2072165921903692:0=0:=rfl
theorem tw8112947154747226399:0=0:=rfl
theorem tw9328086185863871426:0=0:=rfl
theorem tw1457427972868968675:0=0:=rfl
theorem tw4873735104617115363:0=0:=rfl
theorem tw5707800374124686864:0=0:=rfl
theorem tw17707040800440284465:0=0:=rfl
theorem tw5268547708210866118:0=0:=rfl
theorem tw17417474767385661091:0=0:=rfl
theorem tw12642380207024230985:0=0:=rfl
theorem tw5101353045263514154:0=0:=rfl
theorem tw66374084618999468:0=0:=rfl
theorem tw18150193229323288993:0=0:=rfl
theorem tw10216162537248150541:0=0:=rfl
theorem tw1921013760236106086:0=0:=rfl
theorem tw1525482759107232574:0=0:=rfl
theorem tw5878592778507473821:0=0:=rfl
theorem tw8134526198019027748:0=0:=rfl
theorem tw14292340075401196941:0=0:=rfl
theorem tw11159652034691184708:0=0:=rfl
theorem tw16300778840605288840:0=0:=rfl
theorem tw15464586685888944644:0=0:=rfl
theorem tw6243263612862407729:0=0:=rfl
theorem tw13268628746156755910:0=0:=rfl
theorem tw5616091176256772696:0=0:=rfl
theorem tw9416557985281207977:0=0:=rfl
theorem tw15785225443797655875:0=0:=rfl
theorem tw13508198447545362916:0=0:=rfl
theorem tw16329095615176895766:0=0:=rfl
theorem tw18101586554093072485:0=0:=rfl
theorem tw317953345262166595:0=0:=rfl
theorem tw5736947231050968131:0=0:=rfl
theorem tw5429816641548135494:0=0:=rfl
theorem tw4245199331900050706:0=0:=rfl
theorem tw6039853601824503091:0=0:=rfl
theorem tw15673349737681775818:0=0:=rfl
theorem tw4810852607931657408:0=0:=rfl
theorem tw10290191709461513583:0=0:=rfl
theorem tw782058554992510300:0=0:=rfl
theorem tw179033239806977005:0=0:=rfl
theorem tw9613193672761443246:0=0:=rfl
theorem tw3860583849390327500:0=0:=rfl
theorem tw17828871950496922937:0=0:=rfl
theorem tw4806197751563533182:0=0:=rfl
theorem tw11331827647162870653:0=0:=rfl
theorem tw15508123163710192070:0=0:=rfl
theorem tw4306153780375590381:0=0:=rfl
theorem tw16036104802703260001:0=0:=rfl
theorem tw12954102795042018770:0=0:=rfl
theorem tw131408005732531958:0=0:=rfl
theorem tw3816761325835911145:0=0:=rfl
theorem tw16717146656910639669:0=0:=rfl
theorem tw8385591593260054681:0=0:=rfl
theorem tw7060161903176231931:0=0:=rfl
theorem tw2223623291421511355:0=0:=rfl
theorem tw10966545529787648004:0=0:=rfl
theorem tw14080477963647311832:0=0:=rfl
theorem tw1003284042103134186:0=0:=rfl
theorem tw11949499870490622921:0=0:=rfl
theorem tw5211542093208552835:0=0:=rfl
theorem tw18101899226839860753:0=0:=rfl
theorem tw11115979577166003102:0=0:=rfl
theorem tw17201038607691639843:0=0:=rfl
theorem tw5548635996564751255:0=0:=rfl
theorem tw1932093545929978738:0=0:=rfl
theorem tw12751828747929710369:0=0:=rfl
theorem tw913634340087915336:0=0:=rfl
theorem tw7868612005865209034:0=0:=rfl
end PySem.W.Fast
open PySem PySem.W PyProof.Rows
local macro_rules | `(tactic| walk_at "k")=>`(tactic| (refine' Mine.all_di ?a ?b ?c ?d;(case a=>k_is);(case b=>k_is);(case c=>k_is);(case d=>k_is)))
local macro_rules | `(tactic| walk_at "l")=>`(tactic| (refine' Mine.all_dm ?a ?e ?b ?c ?d;(case a=>k_is);(case e=>k_is);(case b=>k_is);(case c=>k_is);(case d=>k_is)))
set_option maxRecDepth 100000 in
set_option maxHeartbeats 0 in
theorem PySem.Challenge.cw_flips_k44_hard_papers_judged_holds : PySem.Challenge.rw_flips_k44_hard_papers_judged.Holds := by
 w_on;o_law;k_head;(case hw=>w_witness2)
 k_fill
 refine Mine.walk (l:=PySem.Challenge.rw_flips_k44_hard_papers_judged) rfl rfl (fun w h Y=>PySem.W.kIn_of Y) ?F
 case F =>
  intro w mg fa h KX G hmg
  refine' Mine.all_mk KX G hmg ?aC_Bearing ?pg_Bearing ?hd_Bearing ?po_Bearing ?sa_Bearing ?mk_Bearing ?kc_Bearing ?na_yeses_Bearing ?na_numbers_Bearing ?na_found_Bearing ?i0 ?i1 ?i2 ?i3 ?i4 ?i5 ?i6 ?i7 ?i8 ?i9 ?i10 ?i11 ?i12 ?i13 ?i14 ?i15 ?i16 ?i17 ?i18 ?i19 ?i20 ?i21 ?i22 ?i23 ?i24 ?i25 ?i26 ?i27 ?i28 ?i29 ?i30 ?i31 ?i32 ?i33 ?i34 ?i35 ?i36 ?a37 ?l37 ?c37 ?k37 ?z_all ?z_bool ?z_enumerate ?z_int ?z_isinstance ?z_len ?z_list ?z_max ?z_min ?z_range ?z_repr ?z_set ?z_sorted ?z_str ?z_sum ?z_tuple
  (case aC_Bearing | pg_Bearing | hd_Bearing | po_Bearing | sa_Bearing | mk_Bearing | kc_Bearing | na_yeses_Bearing | na_numbers_Bearing | na_found_Bearing | a37 | l37 | c37 | k37 | z_all | z_bool | z_enumerate | z_int | z_isinstance | z_len | z_list | z_max | z_min | z_range | z_repr | z_set | z_sorted | z_str | z_sum | z_tuple=>k_is)
  (case i0=>walk_at "k")
  (case i1=>walk_at "k")
  (case i2=>walk_at "k")
  (case i3=>walk_at "k")
  (case i4=>walk_at "k")
  (case i5=>walk_at "k")
  (case i6=>walk_at "k")
  (case i7=>walk_at "k")
  (case i8=>walk_at "k")
  (case i9=>walk_at "k")
  (case i10=>walk_at "l")
  (case i11=>walk_at "l")
  (case i12=>walk_at "l")
  (case i13=>walk_at "l")
  (case i14=>walk_at "l")
  (case i15=>walk_at "k")
  (case i16=>walk_at "k")
  (case i17=>walk_at "k")
  (case i18=>walk_at "k")
  (case i19=>walk_at "k")
  (case i20=>walk_at "k")
  (case i21=>walk_at "k")
  (case i22=>walk_at "k")
  (case i23=>walk_at "k")
  (case i24=>walk_at "k")
  (case i25=>walk_at "k")
  (case i26=>walk_at "k")
  (case i27=>walk_at "k")
  (case i28=>walk_at "k")
  (case i29=>walk_at "k")
  (case i30=>walk_at "k")
  (case i31=>walk_at "k")
  (case i32=>walk_at "k")
  (case i33=>walk_at "k")
  (case i34=>walk_at "k")
  (case i35=>walk_at "k")
  (case i36=>walk_at "k")
