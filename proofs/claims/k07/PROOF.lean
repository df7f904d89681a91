import PyProof.Rows.All
import Wide.All
import OpenK.AllK
import Wide.FinOn
import Lean
import PyProof.EqAt
import PyProof.EqKinds
import PyProof.TupleCall
import PyProof.NeKinds
import PyProof.ReprRoads
import PyProof.ReprBulk
import PyProof.Draws
import PyProof.EnumMake
import KE.BitLaws
import PyProof.ListIndex
import PyProof.AttrMissHeap
import PyProof.DictUpdate
import KE.KDictOf
import PyProof.FactsAll.enumerate_1
import PyProof.FactsAll.tuple_2
import PyProof.ListMulRoad
import PyProof.ListRange
import PyProof.FactsAll.list_3
import PyProof.Rows.SortWalk
import PyProof.Rows.MinMaxN
import KE.KEqDict
import KE.KDictSum
import PyProof.WalksMore
import PyProof.Rows.SetFrom
import PyProof.SetRoads
import PyProof.FactsAll.set_1
import KE.KItemsList
import KE.KSortTup
import KE.KLam
import PyProof.FactsAll.dict_1
import PyProof.StrBlockH
import PyProof.StrLawsTight
import PyProof.StrLawsOccR
import PyProof.StrLawsJoin
import PyProof.StationsW
import PyProof.NsDelKeeps
import PyProof.RulesAs
import PyProof.ExcInit
import KE.KTryMore
import PyProof.ExcClass3
import PyProof.ExcBaseAll.ValueError
import OpenK.KOwn
import PyProof.ExcArgsOwn
import PyProof.InstStoreFacts
import PyProof.FactsAll.tuple_2
import PyProof.FactsAll.tuple_3
import PyProof.TupleOfStr
import KE.KMinKey
import PyProof.FactsAll.list_4
import PySem.Challenge.RW_flips_k07_texts_that_write_none
set_option Elab.async false
set_option linter.all false
set_option compiler.extract_closed false
set_option bootstrap.genMatcherCode false
set_option maxRecDepth 100000
set_option maxHeartbeats 0
section
open PySem PySem.Spec PyProof.Rows PySem.W
theorem ZA:type_of% @PySem.wpAny_bind:=@PySem.wpAny_bind
theorem ZB:type_of% @PySem.wpAny_pure:=@PySem.wpAny_pure
theorem ZC:type_of% @PySem.Heap.lt_size:=@PySem.Heap.lt_size
theorem ZD:type_of% @Nat.le_refl:=@Nat.le_refl
theorem ZE:type_of% @List.size_toArray:=@List.size_toArray
theorem ZF:type_of% @List.length_map:=@List.length_map
theorem ZG:type_of% @List.mem_cons:=@List.mem_cons
theorem ZH:type_of% @List.mem_singleton:=@List.mem_singleton
theorem ZI:type_of% @PySem.wpAny_mono:=@PySem.wpAny_mono
theorem ZJ:type_of% @PySem.Heap.get?_push_of_some:=@PySem.Heap.get?_push_of_some
theorem ZK:type_of% @Nat.zero_le:=@Nat.zero_le
theorem ZL:type_of% @Nat.lt_of_lt_of_le:=@Nat.lt_of_lt_of_le
theorem ZM:type_of% @Nat.ne_of_lt:=@Nat.ne_of_lt
theorem ZN:type_of% @List.getElem?_eq_getElem:=@List.getElem?_eq_getElem
theorem ZO:type_of% @Nat.lt_irrefl:=@Nat.lt_irrefl
theorem ZP:type_of% @List.mem_append_right:=@List.mem_append_right
theorem ZQ:type_of% @List.length_append:=@List.length_append
theorem ZR:type_of% @Option.some.inj:=@Option.some.inj
theorem ZS:type_of% @List.mem_cons_of_mem:=@List.mem_cons_of_mem
theorem ZT:type_of% @PySem.Heap.get?_push_size:=@PySem.Heap.get?_push_size
theorem ZU:type_of% @Nat.le_trans:=@Nat.le_trans
theorem ZV:type_of% @List.length_cons:=@List.length_cons
theorem ZW:type_of% @List.mem_cons_self:=@List.mem_cons_self
theorem ZX:type_of% @Bool.false_ne_true:=@Bool.false_ne_true
theorem ZY:type_of% @List.map_cons:=@List.map_cons
theorem ZZ:type_of% @Bool.and_eq_true:=@Bool.and_eq_true
theorem Za:type_of% @of_decide_eq_true:=@of_decide_eq_true
theorem Zb:type_of% @PySem.wpAny_holding:=@PySem.wpAny_holding
theorem Zc:type_of% @List.append_nil:=@List.append_nil
theorem Zd:type_of% @PySem.Heap.get?_update_other:=@PySem.Heap.get?_update_other
theorem Ze:type_of% @Bool.false_xor:=@Bool.false_xor
theorem Zf:type_of% @List.mem_append:=@List.mem_append
theorem Zg:type_of% @List.getElem?_eq_some_iff:=@List.getElem?_eq_some_iff
theorem Zh:type_of% @decide_eq_true:=@decide_eq_true
theorem Zi:type_of% @Nat.le_of_lt:=@Nat.le_of_lt
theorem Zj:type_of% @List.getElem?_map:=@List.getElem?_map
theorem Zk:type_of% @PySem.wpAny_field:=@PySem.wpAny_field
theorem Zl:type_of% @List.lookup_cons:=@List.lookup_cons
theorem Zm:type_of% @List.map_append:=@List.map_append
theorem Zn:type_of% @decide_eq_false:=@decide_eq_false
theorem Zo:type_of% @PySem.Heap.get?_none_of_le:=@PySem.Heap.get?_none_of_le
theorem Zp:type_of% @List.mem_append_left:=@List.mem_append_left
theorem Zq:type_of% @List.reverse_cons:=@List.reverse_cons
theorem Zr:type_of% @List.forall_mem_cons:=@List.forall_mem_cons
theorem Zs:type_of% @PySem.wpAny_standAt:=@PySem.wpAny_standAt
theorem Zt:type_of% @PySem.Heap.size_push:=@PySem.Heap.size_push
theorem Zu:type_of% @PySem.codeAny_mono:=@PySem.codeAny_mono
theorem Zv:type_of% @PySem.wpAny_newObj_type:=@PySem.wpAny_newObj_type
theorem Zw:type_of% @PySem.Heap.get?_update_self:=@PySem.Heap.get?_update_self
theorem Zx:type_of% @List.replicate_succ:=@List.replicate_succ
theorem Zy:type_of% @List.append_assoc:=@List.append_assoc
theorem Zz:type_of% @Nat.le_of_succ_le:=@Nat.le_of_succ_le
theorem Z0:type_of% @Bool.or_eq_true:=@Bool.or_eq_true
theorem Z1:type_of% @Array.getElem?_eq_some_iff:=@Array.getElem?_eq_some_iff
theorem Z2:type_of% @List.mem_range:=@List.mem_range
theorem Z3:type_of% @Nat.le_of_eq:=@Nat.le_of_eq
theorem Z4:type_of% @List.mem_map:=@List.mem_map
theorem Z5:type_of% @List.find?_cons:=@List.find?_cons
theorem Z6:type_of% @Int.le_trans:=@Int.le_trans
theorem Z7:type_of% @List.nodup_cons:=@List.nodup_cons
theorem Z8:type_of% @List.length_take:=@List.length_take
theorem Z9:type_of% @List.mem_of_getElem?:=@List.mem_of_getElem?
theorem ZBA:type_of% @List.length_replicate:=@List.length_replicate
theorem ZBB:type_of% @List.length_drop:=@List.length_drop
theorem ZBC:type_of% @List.length_singleton:=@List.length_singleton
theorem ZBD:type_of% @List.getElem_toArray:=@List.getElem_toArray
theorem ZBE:type_of% @List.all_eq_true:=@List.all_eq_true
theorem ZBF:type_of% @List.getElem?_set_ne:=@List.getElem?_set_ne
theorem ZBG:type_of% @Option.isSome_some:=@Option.isSome_some
theorem ZBH:type_of% @List.take_of_length_le:=@List.take_of_length_le
theorem ZBI:type_of% @List.getElem?_eq_none:=@List.getElem?_eq_none
end
-- CHANGE: your row's module here,as the last of these rows
namespace L2
open PySem PySem.Spec PyProof.Rows
variable {us:List Value}{x:Str}{u:Value}{H:Hp}{C a b:Addr}{o:HO}{h:Heap}{P:Program}{w:World}{i k t':Nat}{A:Around}{E Q:Value->Shared->Prop}{v:V}{s:Shared}{pos:Pos}{Ya:List (Addr × Obj)}{σ:St}{K:W.Frag}
noncomputable abbrev Key:=Sum Int Str
noncomputable def B1:Key->Value->Bool
 | .inl k,v=>Value.isInt k v
 | .inr x,v=>Value.isStrOf x v
noncomputable def LH(w:World):Key->Int
 | .inl k=>hashInt k
 | .inr x=>hashStr w x
theorem keyIs_shape:∀{k:Key} {v:Value},B1 k v=true->(∃i t,k=Sum.inl i/\v=Value.int i t)\/(∃x t,k=Sum.inr x/\v=Value.str x t)
 | .inl i,v,h=>by
  obtain⟨t,e⟩:=Value.isInt_shape (k:=i) (v:=v) h;exact .inl ⟨i,t,rfl,e⟩
 | .inr x,v,h=>by
  obtain⟨t,e⟩:=Value.isStrOf_shape (x:=x) (v:=v) h;exact .inr ⟨x,t,rfl,e⟩
theorem Jg(i:Int)(t:Tok):B1 (.inl i) (.int i t)=true:=by simp[B1,Value.isInt]
theorem K1(x:Str)(t:Tok):B1 (.inr x) (.str x t)=true:=by simp[B1,Value.isStrOf]
theorem LI(a b:Int):decide ((Sum.inl a:Key)=Sum.inl b)=(a == b):=by
 by_cases e:a=b
 ·subst e;simp
 ·have h:¬(Sum.inl a:Key)=Sum.inl b:=fun q=>e (Sum.inl.inj q)
  rw[Zn h];exact(beq_eq_false_iff_ne.mpr e).symm
theorem MW(a b:Str):decide ((Sum.inr a:Key)=Sum.inr b)=decide (a=b):=by
 by_cases e:a=b
 ·subst e;simp
 ·have h:¬(Sum.inr a:Key)=Sum.inr b:=fun q=>e (Sum.inr.inj q)
  rw[Zn h,Zn e]
theorem Lr(a:Int)(b:Str):decide ((Sum.inl a:Key)=Sum.inr b)=false:=Zn (fun q=>nomatch q)
theorem Ky(a:Str)(b:Int):decide ((Sum.inr a:Key)=Sum.inl b)=false:=Zn (fun q=>nomatch q)
noncomputable def Ai(prog:Program)(w:World):PySem.KeyKind prog w Key where
 is:=B1
 hash:=LH w
 inj:=fun v a b ha hb=>by
  rcases keyIs_shape ha with ⟨i,t,rfl,rfl⟩ | ⟨x,t,rfl,rfl⟩
  ·rcases keyIs_shape hb with ⟨j,u,rfl,e⟩ | ⟨y,u,rfl,e⟩
   ·injection e with e1 _;rw[e1]
   ·exact nomatch e
  ·rcases keyIs_shape hb with ⟨j,u,rfl,e⟩ | ⟨y,u,rfl,e⟩
   ·exact nomatch e
   ·injection e with e1 _;rw[e1]
 byValue:=fun k v h=>by
  rcases keyIs_shape h with ⟨i,t,rfl,rfl⟩ | ⟨x,t,rfl,rfl⟩ <;> rfl
 pyHash:=fun hv h=>by
  rcases keyIs_shape hv with ⟨i,t,rfl,rfl⟩ | ⟨x,t,rfl,rfl⟩
  ·exact wpAny_pyHash_int h
  ·exact wpAny_pyHash_str h
 eqBool:=fun hu hv h=>by
  rcases keyIs_shape hu with ⟨i,t,rfl,rfl⟩ | ⟨x,t,rfl,rfl⟩
  ·rcases keyIs_shape hv with ⟨j,u,rfl,rfl⟩ | ⟨y,u,rfl,rfl⟩
   ·rw[LI]at h;exact wpAny_eqBool_int h
   ·rw[Lr]at h;exact SeqAt.EqAt.int_str i t y u _ _ _ _ h
  ·rcases keyIs_shape hv with ⟨j,u,rfl,rfl⟩ | ⟨y,u,rfl,rfl⟩
   ·rw[Ky]at h;exact SeqAt.EqAt.str_int x t j u _ _ _ _ h
   ·rw[MW]at h;exact wpAny_eqBool_str h
 «strs»:=fun k x t v h=>by
  rcases keyIs_shape h with ⟨i,u,rfl,e⟩ | ⟨y,u,rfl,e⟩
  ·exact nomatch e
  ·injection e with e1 _
   subst e1;cases v <;> rfl
theorem LL(prog:Program)(w:World)(i:Int)(t:Tok):(Ai prog w).is (.inl i) (.int i t)=true:=Jg i t
theorem Im(prog:Program)(w:World)(x:Str)(t:Tok):(Ai prog w).is (.inr x) (.str x t)=true:=K1 x t
inductive V where
 | non | bl (b:Bool) | int (i:Int) | str (x:Str) | byt (b:Array UInt8) | flt (b:UInt64) | ref (a:Addr) | ty (n:String)
 deriving DecidableEq
noncomputable def Yh:V->Value->Prop
 | .non,u=>u=Value.none
 | .bl b,u=>u=Value.bool b
 | .int i,u=>∃t,u=Value.int i t
 | .str x,u=>∃t,u=Value.str x t
 | .byt b,u=>∃t,u=Value.bytes b t
 | .flt b,u=>∃t,u=Value.float b t
 | .ref a,u=>u=Value.ref a
 | .ty n,u=>u=Value.type n
noncomputable abbrev Yg:List V->List Value->Prop:=Paired Yh
theorem Yg.length{xs:List V}(r:Yg xs us):xs.length=us.length:=Paired.length r
theorem Yg.get:∀{xs:List V} {us:List Value} {i:Nat} {x:V},Yg xs us->xs[i]? = some x->∃u,us[i]? = some u/\Yh x u
 | _,_,_,_,.nil,e=>by simp at e
 | _,_,0,_,.cons r _,e=>by simp at e;subst e;exact⟨_,rfl,r⟩
 | _,_,i+1,x,.cons _ t,e=>by
  obtain⟨u,h1,h2⟩:=Yg.get (i:=i) (x:=x) t (by simpa using e);exact⟨u,by simpa using h1,h2⟩
theorem Yg.set{x:V}(r:Yh x u):∀{xs:List V} {us:List Value} (i:Nat),Yg xs us->Yg (xs.set i x) (us.set i u)
 | _,_,_,.nil=>.nil
 | _,_,0,.cons _ t=>.cons r t
 | _,_,i+1,.cons q t=>.cons q (Yg.set r i t)
theorem Yg.append:∀{xs ys:List V} {us ws:List Value},Yg xs us->Yg ys ws->Yg (xs++ys) (us++ws)
 | _,_,_,_,.nil,s=>s
 | _,_,_,_,.cons r t,s=>.cons r (Yg.append t s)
theorem Yg.take:∀{xs:List V} {us:List Value} (n:Nat),Yg xs us->Yg (xs.take n) (us.take n)
 | _,_,0,_=>.nil
 | _,_,_+1,.nil=>.nil
 | _,_,n+1,.cons r t=>.cons r (Yg.take n t)
theorem Yg.drop:∀{xs:List V} {us:List Value} (n:Nat),Yg xs us->Yg (xs.drop n) (us.drop n)
 | _,_,0,r=>r
 | _,_,_+1,.nil=>.nil
 | _,_,n+1,.cons _ t=>Yg.drop n t
noncomputable def RelO:Option V->Option Value->Prop
 | some v,some u=>Yh v u
 | none,none=>True
 | _,_=>False
noncomputable def KV{κ:Type}:List (κ × V)->List (κ × Value)->Prop:=Paired fun(p:κ × V) (q:κ × Value)=>p.1=q.1/\Yh p.2 q.2
noncomputable def kV:Key->V
 | .inl i=>.int i
 | .inr x=>.str x
inductive HO where
 | lst (xs:List V)
 | tup (xs:List V)
 | dK (Yj:List (Key × V)) | dT (Yj:List (List Key × V))
 | set (S:Int->Bool) (n:Nat)
 | ins (C dx:Addr) (fs:List (Str × V))
 | own (x:Addr)
 | xd (fs:List (Str × V))
 | met (f x:Addr)
 | rng (lo hi:Int)
 | frz (o:Obj) (u:HO)
 | tbl (ps:Array Value)
 | ext (φ:Heap->Prop)
noncomputable abbrev Hp:=Addr->Option HO
noncomputable def upd(H:Hp)(a:Addr)(o:HO):Hp:=fun b=>if b=a then some o else H b
theorem AD:upd H a o a=some o:=by unfold upd;rw[if_pos rfl]
theorem AG(h:b≠a):upd H a o b=H b:=by unfold upd;rw[if_neg h]
theorem E1{u:HO}(h:H a=some o)(h':H b=some u)(d:o≠u):a≠b:=by
 intro e;subst e;rw[h]at h';exact d (ZR h')
theorem A8(h:H a=some o)(h':H b=none):a≠b:=by
 intro e;subst e;rw[h]at h';cases h'
noncomputable def IsTupN(h:Heap)(a:Addr)(items:Array Value):Prop:=∃o,h.get? a=some o/\o.cls=.type "tuple" /\ (∃n,o.data=.seq items n)/\o.dict=none
theorem IsTupN.tup{items:Array Value}(x:IsTupN h a items):PyProof.Rows.IsTup h a items:=by
 obtain⟨o,e,c,d,_⟩:=x;exact⟨o,e,c,d⟩
theorem IsTupN.new(h:Heap)(items:Array Value):IsTupN (h.push { cls:=.type "tuple",data:=.seq items }) h.objs.size items:=⟨_,ZT _ rfl,rfl,⟨_,rfl⟩,rfl⟩
section
variable (P:Program)(w:World)
noncomputable def ObjOk(H:Hp)(h:Heap)(a:Addr):HO->Prop
 | .lst xs=>xs.length<=sizeLine/\∃(Yd:List Value) (n:Nat),Yg xs Yd/\h.get? a=some { cls:=.type "list",data:=.seq Yd.toArray n }
 | .tup xs=>xs.length<=sizeLine/\∃Yd:List Value,Yg xs Yd/\IsTupN h a Yd.toArray
 | .dK Yj=>Yj.length<=sizeLine/\(a == sysModules)=false/\∃vs,KV Yj vs/\h.DictOf (Ai P w) a vs
 | .dT Yj=>Yj.length<=sizeLine/\(a == sysModules)=false/\∃xs:List (List Key × Addr × Value),
  Paired (fun(p:List Key × V) (q:List Key × Addr × Value)=>p.1=q.1/\H q.2.1=some (.tup (p.1.map kV))/\Yh p.2 q.2.2) Yj xs /\
  ∃o es ep,h.get? a=some o/\o.ExactDict/\o.data=.dict es ep/\es.toList=xs.map (entryOfKey (tupleKind (Ai P w)))/\(xs.map (·.1)).Nodup
 | .set S n=>h.SetOf (intKind P w) a S n
 | .ins C dx fs=>H dx=some (.own a)/\fs.length<=1000/\dx≠a/\h.get? a=some (PySem.W.instObj C dx) /\
  ∃mA,h.Ns1 dx mA/\(∀f,RelO (fs.lookup f) (mA f))/\PySem.Within mA (fs.map (·.1))
 | .own _=>∃o,h.get? a=some o
 | .xd fs=>∃mA,h.Ns1 a mA/\∀f,RelO (fs.lookup f) (mA f)
 | .rng lo hi=>∃t u v,h.get? a=some { cls:=.type "range",data:=.fields #[.int lo t,.int hi u,.int 1 v] }
 | .frz o u=>h.get? a=some o/\ObjOk H h a u
 | .tbl ps=>h.get? a=some { cls:=.none,data:=.fields ps }
 | .met f x=>h.get? a=some (PySem.W.methodObj (.ref f) (.ref x))
 | .ext φ=>φ h/\(∃o,h.get? a=some o)/\∀h1 h2:Heap,φ h1->(∀o,h1.get? a=some o->h2.get? a=some o)->φ h2
noncomputable def HOk(H:Hp)(h:Heap):Prop:=∀a o,H a=some o->ObjOk P w H h a o
end
section
variable {P:Program}{w:World}{H H':Hp}{h h':Heap}{a:Addr}{o:HO}
theorem ObjOk.lt(x:ObjOk P w H h a o):a < h.objs.size:=by
 cases o with
 | lst xs=>obtain⟨_,_,_,_,e⟩:=x;exact ZC e
 | tup xs=>obtain⟨_,_,_,p⟩:=x;exact p.tup.lt
 | dK Yj=>obtain⟨_,_,_,_,o,_,_,e,_⟩:=x;exact ZC e
 | dT Yj=>obtain⟨_,_,_,_,o,_,_,e,_⟩:=x;exact ZC e
 | set S n=>obtain⟨o,_,_,_,e,_⟩:=x;exact ZC e
 | ins C dx fs=>obtain⟨_,_,_,e,_⟩:=x;exact ZC e
 | own y=>obtain⟨_,e⟩:=x;exact ZC e
 | xd fs=>obtain⟨_,⟨_,_,_,e,_⟩,_⟩:=x;exact ZC e
 | rng lo hi=>obtain⟨_,_,_,e⟩:=x;exact ZC e
 | frz ob u=>obtain⟨e,_⟩:=x;exact ZC e
 | tbl ps=>exact ZC (show h.get? a=some _ from x)
 | met f y=>exact ZC (show h.get? a=some _ from x)
 | ext φ=>obtain⟨_,⟨_,e⟩,_⟩:=x;exact ZC e
theorem Paired.mapP{α β:Type}{F G:α->β->Prop}:∀{l₁:List α} {l₂:List β},Paired F l₁ l₂->(∀a b,F a b->G a b)->Paired G l₁ l₂
 | _,_,.nil,_=>.nil
 | _,_,.cons r t,f=>.cons (f _ _ r) (Paired.mapP t f)
theorem ObjOk.stay (x:ObjOk P w H h a o) (k:∀b u,(b=a\/H b=some (.own a))->h.get? b=some u->h'.get? b=some u)
 (ho:∀b,H b=some (.own a)->H' b=some (.own a)) (ht:∀b xs,H b=some (.tup xs)->H' b=some (.tup xs)):ObjOk P w H' h' a o:=by
 induction o with
 | lst xs=>obtain⟨z,Yd,n,r,e⟩:=x;exact⟨z,Yd,n,r,k _ _ (.inl rfl) e⟩
 | tup xs=>obtain⟨z,Yd,r,ob,e,c⟩:=x;exact⟨z,Yd,r,ob,k _ _ (.inl rfl) e,c⟩
 | dK Yj=>obtain⟨z,y,vs,r,ob,es,ep,e,c⟩:=x;exact⟨z,y,vs,r,ob,es,ep,k _ _ (.inl rfl) e,c⟩
 | dT Yj =>
  obtain⟨z,y,xs,r,ob,es,ep,e,c⟩:=x;exact⟨z,y,xs,Paired.mapP r fun p q z=>⟨z.1,ht _ _ z.2.1,z.2.2⟩,ob,es,ep,k _ _ (.inl rfl) e,c⟩
 | set S n=>obtain⟨ob,es,ep,t,e,c⟩:=x;exact⟨ob,es,ep,t,k _ _ (.inl rfl) e,c⟩
 | ins C dx fs =>
  obtain⟨d,z,ne,e,mA,⟨od,es,ep,e2,c⟩,r⟩:=x;exact⟨ho _ d,z,ne,k _ _ (.inl rfl) e,mA,⟨od,es,ep,k _ _ (.inr d) e2,c⟩,r⟩
 | own y=>obtain⟨ob,e⟩:=x;exact⟨ob,k _ _ (.inl rfl) e⟩
 | xd fs=>obtain⟨mA,⟨od,es,ep,e,c⟩,r⟩:=x;exact⟨mA,⟨od,es,ep,k _ _ (.inl rfl) e,c⟩,r⟩
 | rng lo hi=>obtain⟨t,u,v,e⟩:=x;exact⟨t,u,v,k _ _ (.inl rfl) e⟩
 | frz ob u ih=>obtain⟨e,q⟩:=x;exact⟨k _ _ (.inl rfl) e,ih q⟩
 | tbl ps =>
  have e:h.get? a=some { cls:=.none,data:=.fields ps }:=x;show h'.get? a=some { cls:=.none,data:=.fields ps };exact k a _ (.inl rfl) e
 | met f y =>
  have e:h.get? a=some (PySem.W.methodObj (.ref f) (.ref y)):=x;show h'.get? a=some (PySem.W.methodObj (.ref f) (.ref y));exact k a _ (.inl rfl) e
 | ext φ=>obtain⟨p,⟨o,e⟩,st⟩:=x;exact⟨st _ _ p fun o q=>k _ _ (.inl rfl) q,⟨o,k _ _ (.inl rfl) e⟩,st⟩
theorem HOk.lt(x:HOk P w H h)(e:H a=some o):a < h.objs.size:=(x a o e).lt
theorem HOk.fresh(x:HOk P w H h)(e:h.objs.size<=a):H a=none:=by
 cases q:H a with
 | none=>rfl
 | some u=>exact absurd (ZL (x.lt q) e) (ZO _)
theorem HOk.kept(x:HOk P w H h)(k:∀b u,h.get? b=some u->h'.get? b=some u):HOk P w H h':=fun a o e =>
 (x a o e).stay (fun b u _ q=>k b u q) (fun _ q=>q) fun _ _ q=>q
theorem HOk.laid(x:HOk P w H h)(k:∀b u,h.get? b=some u->h'.get? b=some u)(hp:h.objs.size<=a)(new:ObjOk P w (upd H a o) h' a o):HOk P w (upd H a o) h':=fun b u e=>by
 have hn:=x.fresh hp
 by_cases hb:b=a
 ·subst hb;rw[AD]at e;cases e;exact new
 ·rw[AG hb]at e;exact(x b u e).stay (fun c v _ q=>k c v q) (fun c q=>by rw[AG (A8 q hn)];exact q) fun c xs q=>by rw[AG (A8 q hn)];exact q
end
noncomputable def Rd(H:Hp)(a:Addr)(u:HO):Prop:=H a=some u\/∃o,H a=some (.frz o u)
theorem Rd.of{u:HO}(h:H a=some u):Rd H a u:=.inl h
theorem Rd.ok{u:HO}(r:Rd H a u)(x:HOk P w H h):ObjOk P w H h a u:=by
 rcases r with r | ⟨o,r⟩
 ·exact x a u r
 ·obtain⟨_,q⟩:=x a _ r;exact q
noncomputable def Mut:Option HO->Prop
 | some (.lst _)=>True
 | some (.dK _)=>True
 | some (.dT _)=>True
 | some (.set _ _)=>True
 | some (.ins _ _ _)=>True
 | some (.ext _)=>True
 | _=>False
section
variable {P:Program}{w:World}{H:Hp}{h h':Heap}{x e:Addr}{o':HO}
theorem HOk.write (ok:HOk P w H h) (mu:Mut (H x)) (he:e=x\/H e=some (.own x)) (k:∀b u,b≠e->h.get? b=some u->h'.get? b=some u) (heo:∃u,h'.get? e=some u)
 (new:ObjOk P w (upd H x o') h' x o'):HOk P w (upd H x o') h':=fun b u q=>by
 have nown:∀c y,H c=some (.own y)->c≠x:=fun c y r z=>by subst z;rw[r]at mu;exact mu
 have ntup:∀c xs,H c=some (.tup xs)->c≠x:=fun c xs r z=>by subst z;rw[r]at mu;exact mu
 by_cases hb:b=x
 ·subst hb;rw[AD]at q;cases q;exact new
 ·rw[AG hb]at q
  by_cases hbe:b=e
  ·have q':H b=some (.own x):=by
    rcases he with z | z
    ·exact absurd (hbe.trans z) hb
    ·rw[hbe];exact z
   rw[q]at q';cases q';obtain⟨v,hv⟩:=heo;exact⟨v,by rw[hbe];exact hv⟩
  ·refine(ok b u q).stay (fun c v hc r=>k c v ?_ r) (fun c r=>by rw[AG (nown c b r)];exact r) fun c xs r=>by rw[AG (ntup c xs r)];exact r
   rcases hc with rfl | hc
   ·exact hbe
   ·rintro rfl
    rcases he with z | z
    ·exact nown c b hc z
    ·rw[hc]at z;cases z;exact hb rfl
end
structure Un(fs ex:List Addr)(H H':Hp)(h h':Heap):Prop where
 keep:∀b o,h.get? b=some o->H b=none->b∉fs->b∉ex->h'.get? b=some o
 slot:∀b o,h.get? b=some o->H b=none->b∈fs->b∉ex->∃sl,h'.get? b=some { o with slots:=sl }
 free:∀b o,h.get? b=some o->H b=none->b∉ex->H' b=none
 there:∀b o,h.get? b=some o->b∉ex->∃o',h'.get? b=some o'
 tups:∀b xs,H b=some (.tup xs)->H' b=some (.tup xs)
 frzs:∀b o u,H b=some (.frz o u)->H' b=some (.frz o u)
 tbls:∀b ps,H b=some (.tbl ps)->∃more,H' b=some (.tbl (ps++more))
section
variable {fs fs' ex ex':List Addr}{H H1 H2:Hp}{h h1 h2 h':Heap}{a x e:Addr}{o:HO}
theorem Un.any(u:Un fs ex H H1 h h1){ob:Obj}(q:h.get? b=some ob)(n:H b=none)(hx:b∉ex):∃sl,h1.get? b=some { ob with slots:=sl }:=by
 by_cases hb:b∈fs
 ·exact u.slot b ob q n hb hx
 ·exact⟨ob.slots,u.keep b ob q n hb hx⟩
theorem Un.kept(k:∀b u,h.get? b=some u->h'.get? b=some u):Un fs ex H H h h' :=
 ⟨fun b ob q _ _ _=>k b ob q,fun b ob q _ _ _=>⟨ob.slots,k b ob q⟩,fun _ _ _ n _=>n,fun b ob q _=>⟨ob,k b ob q⟩,fun _ _ q=>q,fun _ _ _ q=>q,fun _ ps q=>⟨#[],by rw[q];simp⟩⟩
theorem Un.refl:Un fs ex H H h h:=Un.kept fun _ _ q=>q
theorem Un.laid(k:∀b u,h.get? b=some u->h'.get? b=some u)(hp:h.objs.size<=a)(hn:H a=none):Un fs ex H (upd H a o) h h' where
 keep:=fun b u q _ _ _=>k b u q
 slot:=fun b u q _ _ _=>⟨u.slots,k b u q⟩
 free:=fun b u q n _=>by rw[AG (ZM (ZL (ZC q) hp))];exact n
 there:=fun b u q _=>⟨u,k b u q⟩
 tups:=fun b xs q=>by rw[AG (A8 q hn)];exact q
 frzs:=fun b u xs q=>by rw[AG (A8 q hn)];exact q
 tbls:=fun b ps q=>⟨#[],by rw[AG (A8 q hn),q];simp⟩
theorem Un.write(mu:Mut (H x))(he:e=x\/H e=some (.own x))(k:∀b u,b≠e->h.get? b=some u->h'.get? b=some u)(heo:∃u,h'.get? e=some u):Un fs ex H (upd H x o) h h':=by
 have hx:∀b,H b=none->b≠x:=fun b n z=>by subst z;rw[n]at mu;exact mu
 have hb:∀b,H b=none->b≠e:=fun b n z=>by
  subst z
  rcases he with r | r
  ·exact hx b n r
  ·rw[n]at r;cases r
 have hm:∀b u,H b=some u->¬Mut (some u)->b≠x:=fun b u q nm z=>by subst z;rw[q]at mu;exact nm mu
 refine⟨fun b u q n _ _=>k b u (hb b n) q,fun b u q n _ _=>⟨u.slots,k b u (hb b n) q⟩,fun b u q n _=>by rw[AG (hx b n)];exact n,fun b u q _=>?_,
  fun b xs q=>by rw[AG (hm b _ q fun z=>z)];exact q,fun b u xs q=>by rw[AG (hm b _ q fun z=>z)];exact q,fun b ps q=>⟨#[],by rw[AG (hm b _ q fun z=>z),q];simp⟩⟩
 by_cases hbe:b=e
 ·subst hbe;exact heo
 ·exact⟨u,k b u hbe q⟩
end
noncomputable def trk(h:Heap)(H:Hp):List Addr:=(List.range h.objs.size).filter fun a=>(H a).isSome
noncomputable def Bc(h:Heap)(H:Hp):Heap:=PySem.W.hideAll h (trk h H)
theorem IP(h:Heap)(H:Hp):(Bc h H).objs.size=h.objs.size:=PySem.W.hideAll_size _ _
theorem JR{o:Obj}(e:h.get? b=some o)(n:H b=none):(Bc h H).get? b=some o :=
 PySem.W.hideAll_get _ e fun hm=>by
  have q:(H b).isSome=true:=(List.mem_filter.mp hm).2;rw[n]at q;simp at q
theorem NZ{o:Obj}(e:(Bc h H).get? b=some o):h.get? b=some o/\H b=none:=by
 have e':h.get? b=some o:=PySem.W.of_hideAll (trk h H) e;refine⟨e',?_⟩;cases q:H b with
 | none=>rfl
 | some x =>
  have hm:b∈trk h H:=List.mem_filter.mpr ⟨Z2.mpr (ZC e'),by simp[q]⟩;have z:(Bc h H).get? b=none:=PySem.W.hideAll_none (trk h H) hm;rw[z]at e;cases e
structure Mod(K:W.Frag)(mg:Str->Option Value)(base:Heap):Prop where
 kin:K.In base
 glob:base.Ns mainGlobals mg
 blt:∃mb,base.Ns builtinsNs mb/\∀x:Str,x ≠ "__name__" -> mb x=bootBuiltins x
 nolimit:base.NoLimit
structure Cx where
 prog:Program
 w:World
 K:W.Frag
 mg:Str->Option Value
 base:Heap
 A:Around
 N:List Str
 s₀:Shared
 H₀:Hp
 env:Env
 outer:List Env
 stack:List Env
 ex:List Addr
 fn:Str->Bool
 calm:Bool
 pn:List (Addr × Obj)
 xe:Value->Shared->Prop
noncomputable def frs(l:List Env):List Addr:=l.filterMap (·.frame)
noncomputable abbrev Cx.fs(X:Cx):List Addr:=frs X.outer
noncomputable def Vis(sc:Scope)(x:Str):Prop:=sc.names.lookup x=some .local\/sc.names.lookup x=some .cell\/sc.names.lookup x=some .free
noncomputable def Loc(sc:Scope)(x:Str):Prop:=sc.names.lookup x=some .local\/sc.names.lookup x=some .cell
noncomputable def Ks(env:Env)(h:Heap)(m:Str->Option Value)(x:Str)(u:Value):Prop :=
 (env.kindOf x=some .local/\m x=some u)\/((env.kindOf x=some .cell\/env.kindOf x=some .free)/\∃c,env.cells.lookup x=some c/\h.IsCell c (some u))
structure Cx.Ok(X:Cx):Prop where
 mod:Mod X.K X.mg X.base
 kind:X.env.scope.kind=.function
 glob:X.env.globals=mainGlobals
 blt:X.env.builtins=builtinsNs
 above:X.s₀.heap.objs.size<=X.env.locals
 inj:∀x y c,X.env.cells.lookup x=some c->X.env.cells.lookup y=some c->x=y
 has:∀x,(X.env.kindOf x=some .cell\/X.env.kindOf x=some .free)->∃c,X.env.cells.lookup x=some c
 cab:∀x c,X.fn x=true->X.env.cells.lookup x=some c->X.s₀.heap.objs.size<=c
 hd:X.calm=true->X.A.handled=none
 frames:X.A.frames=some X.stack
 stk:X.stack=X.outer\/(X.stack=X.env::X.outer/\X.env.frame=some X.env.locals)
 exf:∀b∈X.ex,b≠X.env.locals/\∀x c,X.env.cells.lookup x=some c->c≠b
 bs:∀b o,X.base.get? b=some o->X.s₀.heap.get? b=some o/\X.H₀ b=none
 bsz:X.base.objs.size<=X.s₀.heap.objs.size
 noex:∀b o,X.base.get? b=some o->b∉X.ex
 exfs:∀b∈X.ex,b∉X.fs
 funs:X.s₀.heap.FunFrames X.base X.outer
 frf:∀b∈X.fs,X.H₀ b=none
structure Yc(X:Cx)(Ya:List (Addr × Obj))(σ:List (Option V))(H:Hp)(s:Shared):Prop where
 ok:X.Ok
 os:s.os=X.s₀.os
 bare:AllBare s.gens
 base:Un X.fs X.ex X.H₀ H X.s₀.heap s.heap
 loc:∃m,s.heap.Ns X.env.locals m/\∀(i:Nat) (x:Str) (v:V),X.N[i]? = some x->σ[i]? = some (some v)->Vis X.env.scope x->∃u,Yh v u/\Ks X.env s.heap m x u
 cell:∀x c,X.env.cells.lookup x=some c->∃v,s.heap.IsCell c v
 free:H X.env.locals=none
 freeC:∀x c,X.env.cells.lookup x=some c->H c=none
 pin:∀p∈X.pn++Ya,s.heap.get? p.1=some p.2/\H p.1=none/\p.1≠X.env.locals/\p.1∉X.fs/\∀v,p.2.data≠.cell v
 hok:HOk X.prog X.w H s.heap
 len:σ.length=X.N.length
section
variable {X:Cx}{Ya:List (Addr × Obj)}{σ:List (Option V)}{H H':Hp}{s:Shared}{h':Heap}
theorem Cx.Ok.nofr(ok:X.Ok){o:Obj}(e:X.base.get? b=some o):b∉X.fs:=fun hb=>by
 have:=(ok.funs.mem hb).1
 rw[e]at this;cases this
theorem Yc.bs(I:Yc X Ya σ H s):∀b o,X.base.get? b=some o->s.heap.get? b=some o/\H b=none:=fun b o e =>
 ⟨I.base.keep b o (I.ok.bs b o e).1 (I.ok.bs b o e).2 (I.ok.nofr e) (I.ok.noex b o e),I.base.free b o (I.ok.bs b o e).1 (I.ok.bs b o e).2 (I.ok.noex b o e)⟩
theorem Yc.bk(I:Yc X Ya σ H s):∀b o,X.base.get? b=some o->s.heap.get? b=some o:=fun b o e=>(I.bs b o e).1
theorem Yc.mod(I:Yc X Ya σ H s):Mod X.K X.mg X.base:=I.ok.mod
theorem Yc.kIn(I:Yc X Ya σ H s):X.K.In s.heap:=I.ok.mod.kin.keeps I.bk
theorem Yc.lt(I:Yc X Ya σ H s):X.env.locals < s.heap.objs.size:=let ⟨_,hn,_⟩:=I.loc;hn.lt
theorem Yc.sz(I:Yc X Ya σ H s):X.s₀.heap.objs.size<=s.heap.objs.size:=ZU I.ok.above (Zi I.lt)
theorem Yc.nofs(I:Yc X Ya σ H s)(h:s.heap.objs.size<=a):a∉X.fs:=fun hb=>by
 obtain⟨_,o,ho,_⟩:=I.ok.funs.mem hb;exact absurd (ZL (ZC ho) (ZU I.sz h)) (ZO _)
theorem Yc.cne(I:Yc X Ya σ H s):∀x c,X.env.cells.lookup x=some c->c≠X.env.locals:=fun x c e z=>by
 obtain⟨v,o,ho,hd⟩:=I.cell x c e;obtain⟨m,⟨o',es,ep,ho',hd',_⟩,_⟩:=I.loc;rw[z,ho']at ho;cases ho;rw[hd']at hd;cases hd
theorem Yc.funs(I:Yc X Ya σ H s):s.heap.FunFrames X.base X.outer:=by
 have all:∀(l:List Env),(∀b∈frs l,b∈X.fs)->X.s₀.heap.FunFrames X.base l->s.heap.FunFrames X.base l:=by
  intro l
  induction l with
  | nil=>intro _ _;trivial
  | cons env r ih =>
   intro hs hl;obtain⟨hk,⟨L,o,hf,hn,ho,hd⟩,hr⟩:=hl;have hL:L∈X.fs:=hs L (by unfold frs;rw[List.filterMap_cons,hf];exact ZW);obtain⟨sl,e⟩:=I.base.slot L o ho (I.ok.frf L hL) hL fun z=>I.ok.exfs L z hL
   exact⟨hk,⟨L,_,hf,hn,e,hd⟩,ih (fun b hb=>hs b (by unfold frs;rw[List.filterMap_cons,hf];exact ZS _ hb)) hr⟩
 exact all X.outer (fun _ hb=>hb) I.ok.funs
theorem Yc.stack(I:Yc X Ya σ H s):s.heap.FunFrames X.base X.stack:=by
 rcases I.ok.stk with e | ⟨e,hf⟩
 ·rw[e];exact I.funs
 ·rw[e];obtain⟨m,hn,_⟩:=I.loc;refine .cons (by rw[I.ok.kind];decide) hf hn ?_ I.funs;exact Zo (ZU I.ok.bsz I.ok.above)
theorem Yc.stkSub(I:Yc X Ya σ H s):∀b∈frs X.stack,b∈X.env.locals::X.fs:=fun b hb=>by
 rcases I.ok.stk with e | ⟨e,hf⟩
 ·rw[e]at hb;exact ZS _ hb
 ·rw[e]at hb;unfold frs at hb;rw[List.filterMap_cons,hf]at hb;exact hb
theorem Yc.stkFree(I:Yc X Ya σ H s):∀b∈frs X.stack,H b=none:=fun b hb=>by
 rcases ZG.mp (I.stkSub b hb) with e | hb
 ·rw[e];exact I.free
 ·obtain⟨_,o,ho,_⟩:=I.ok.funs.mem hb;exact I.base.free b o ho (I.ok.frf b hb) fun z=>I.ok.exfs b z hb
theorem Yc.step {g':Array GenState} {d':Drawn} {ch:List Addr} (I:Yc X Ya σ H s)
 (hch:∀b∈ch,(b∈X.ex\/X.s₀.heap.objs.size<=b)/\b≠X.env.locals/\(∀x c,X.env.cells.lookup x=some c->c≠b)/\∀p∈X.pn++Ya,p.1≠b)
 (keep:∀b o,b≠X.env.locals->b∉X.fs->b∉ch->s.heap.get? b=some o->H b=none->h'.get? b=some o)
 (slot:∀b o,b≠X.env.locals->b∈X.fs->b∉ch->s.heap.get? b=some o->H b=none->∃sl,h'.get? b=some { o with slots:=sl }) (free:∀b o,b∉ch->s.heap.get? b=some o->H b=none->H' b=none)
 (there:∀b o,b∉ch->s.heap.get? b=some o->∃o',h'.get? b=some o')
 (tups:∀b xs,H b=some (.tup xs)->H' b=some (.tup xs)) (frzs:∀b o u,H b=some (.frz o u)->H' b=some (.frz o u)) (tbls:∀b ps,H b=some (.tbl ps)->∃more,H' b=some (.tbl (ps++more)))
 (ns:∀m,s.heap.Ns X.env.locals m->h'.Ns X.env.locals m) (hok:HOk X.prog X.w H' h') (hg:AllBare g') :
 Yc X Ya σ H' { s with heap:=h',gens:=g',drawn:=d',toks:=t' }:=by
 have neL:∀b o,X.s₀.heap.get? b=some o->b≠X.env.locals:=fun b o e=>ZM (ZL (ZC e) I.ok.above)
 have neC:∀b o,X.s₀.heap.get? b=some o->b∉X.ex->b∉ch:=fun b o e hx hb=>by
  rcases(hch b hb).1 with z | z
  ·exact hx z
  ·exact absurd (ZL (ZC e) z) (ZO _)
 have cellK:∀x c,X.env.cells.lookup x=some c->∀v,s.heap.IsCell c v->h'.IsCell c v:=fun x c e v ⟨o,ho,hd⟩=>by
  have nch:c∉ch:=fun z=>(hch c z).2.2.1 x c e rfl
  by_cases hc:c∈X.fs
  ·obtain⟨sl,q⟩:=slot c o (I.cne x c e) hc nch ho (I.freeC x c e);exact⟨_,q,hd⟩
  ·exact⟨o,keep c o (I.cne x c e) hc nch ho (I.freeC x c e),hd⟩
 refine⟨I.ok,I.os,hg,⟨fun b o e n hb hx=>?_,fun b o e n hb hx=>?_,fun b o e n hx=>?_,fun b o e hx=>?_,fun b xs e=>tups b xs (I.base.tups b xs e),fun b o xs e=>frzs b o xs (I.base.frzs b o xs e),fun b ps e=>?_⟩,?_,fun x c e=>?_,?_,fun x c e=>?_,fun p hp=>?_,hok,I.len⟩
 ·exact keep b o (neL b o e) hb (neC b o e hx) (I.base.keep b o e n hb hx) (I.base.free b o e n hx)
 ·obtain⟨sl,e1⟩:=I.base.slot b o e n hb hx;obtain⟨sl',e2⟩:=slot b _ (neL b o e) hb (neC b o e hx) e1 (I.base.free b o e n hx);exact⟨sl',e2⟩
 ·obtain⟨o',e1⟩:=I.base.there b o e hx;exact free b o' (neC b o e hx) e1 (I.base.free b o e n hx)
 ·obtain⟨o',e1⟩:=I.base.there b o e hx;exact there b o' (neC b o e hx) e1
 ·obtain⟨m1,e1⟩:=I.base.tbls b ps e;obtain⟨m2,e2⟩:=tbls b _ e1;exact⟨m1++m2,by rw[e2,Array.append_assoc]⟩
 ·obtain⟨m,hn,hl⟩:=I.loc;refine⟨m,ns m hn,fun i x v e1 e2 e3=>?_⟩;obtain⟨u,r,l⟩:=hl i x v e1 e2 e3;refine⟨u,r,?_⟩
  rcases l with l | ⟨k,c,e,z⟩
  ·exact .inl l
  ·exact .inr ⟨k,c,e,cellK x c e _ z⟩
 ·obtain⟨v,z⟩:=I.cell x c e;exact⟨v,cellK x c e v z⟩
 ·obtain⟨m,⟨o,_,_,ho,_⟩,_⟩:=I.loc;exact free _ o (fun z=>(hch _ z).2.1 rfl) ho I.free
 ·obtain⟨v,o,ho,hd⟩:=I.cell x c e;exact free c o (fun z=>(hch c z).2.2.1 x c e rfl) ho (I.freeC x c e)
 ·obtain⟨e,n,ne,nf,d⟩:=I.pin p hp;have nch:p.1∉ch:=fun z=>(hch p.1 z).2.2.2 p hp rfl
  exact⟨keep p.1 p.2 ne nf nch e n,free p.1 p.2 nch e n,ne,nf,d⟩
theorem Yc.un(I:Yc X Ya σ H s)(u:Un X.fs [] H H' s.heap h')(hok:HOk X.prog X.w H' h'):Yc X Ya σ H' { s with heap:=h',toks:=t' }:=by
 obtain⟨m,⟨o,es,ep,ho,r⟩,_⟩:=id I.loc;obtain⟨sl,hL⟩:=u.any ho I.free (by simp)
 exact I.step (g':=s.gens) (d':=s.drawn) (ch:=[]) (fun _ z=>nomatch z) (fun b o _ hb _ e n=>u.keep b o e n hb (by simp)) (fun b o _ hb _ e n=>u.slot b o e n hb (by simp)) (fun b o _ e n=>u.free b o e n (by simp)) (fun b o _ e=>u.there b o e (by simp)) u.tups u.frzs u.tbls (fun m' hm=>by
  obtain⟨o',es',ep',ho',r'⟩:=hm;rw[ho]at ho';cases ho';exact⟨_,es',ep',hL,r'⟩) hok I.bare
theorem Yc.call {g':Array GenState} {d':Drawn} {ch:List Addr} (I:Yc X Ya σ H s) (u:Un (frs X.stack) ch H H' s.heap h') (hok:HOk X.prog X.w H' h') (hg:AllBare g')
 (hch:∀b∈ch,(b∈X.ex\/X.s₀.heap.objs.size<=b)/\b≠X.env.locals/\(∀x c,X.env.cells.lookup x=some c->c≠b)/\∀p∈X.pn++Ya,p.1≠b) :
 Yc X Ya σ H' { s with heap:=h',gens:=g',drawn:=d',toks:=t' }:=by
 obtain⟨m,⟨o,es,ep,ho,r⟩,_⟩:=id I.loc;obtain⟨sl,hL⟩:=u.any ho I.free fun z=>(hch _ z).2.1 rfl
 exact I.step (ch:=ch) hch (fun b o hL hb hc e n=>u.keep b o e n (fun z=>(ZG.mp (I.stkSub b z)).elim hL hb) hc) (fun b o _ _ hc e n=>u.any e n hc) (fun b o hc e n=>u.free b o e n hc) (fun b o hc e=>u.there b o e hc) u.tups u.frzs u.tbls (fun m' hm=>by
  obtain⟨o',es',ep',ho',r'⟩:=hm;rw[ho]at ho';cases ho';exact⟨_,es',ep',hL,r'⟩) hok hg
theorem Yc.turned {it:Addr} (I:Yc X Ya σ H s) (k:∀b o,b≠it->s.heap.get? b=some o->h'.get? b=some o) (hn:H it=none) (hL:it≠X.env.locals)
 (h1:it∈X.ex\/X.s₀.heap.objs.size<=it) (h2:∀x c,X.env.cells.lookup x=some c->c≠it) (h3:∀p∈X.pn++Ya,p.1≠it):Yc X Ya σ H { s with heap:=h',toks:=t' }:=by
 have nit:∀b u,H b=some u->b≠it:=fun b u e z=>by rw[z,hn]at e;cases e
 refine I.step (g':=s.gens) (d':=s.drawn) (ch:=[it]) (fun b hb=>?_) (fun b o _ _ hc e _=>k b o (fun z=>hc (by simp[z])) e) (fun b o _ _ hc e _=>⟨o.slots,k b o (fun z=>hc (by simp[z])) e⟩) (fun _ _ _ _ n=>n)
  (fun b o hc e=>⟨o,k b o (fun z=>hc (by simp[z])) e⟩) (fun _ _ e=>e) (fun _ _ _ e=>e) (fun b ps e=>⟨#[],by rw[e];simp⟩) (fun m hm=>?_) (fun b u e=>?_) I.bare
 ·have e:b=it:=by simpa using hb
  subst e;exact⟨h1,hL,h2,h3⟩
 ·obtain⟨o,es,ep,ho,r⟩:=hm;exact⟨o,es,ep,k _ o (Ne.symm hL) ho,r⟩
 ·refine(I.hok b u e).stay (fun c v hc q=>k c v ?_ q) (fun _ q=>q) fun _ _ q=>q
  rcases hc with z | z
  ·rw[z];exact nit b u e
  ·exact nit c _ z
theorem Yc.tok(I:Yc X Ya σ H s)(t:Nat):Yc X Ya σ H { s with toks:=t }:=I.un (h':=s.heap) (t':=t) Un.refl I.hok
theorem Yc.kept(I:Yc X Ya σ H s)(k:∀b u,s.heap.get? b=some u->h'.get? b=some u):Yc X Ya σ H { s with heap:=h',toks:=t' }:=I.un (Un.kept k) (I.hok.kept k)
theorem Yc.laid(I:Yc X Ya σ H s)(k:∀b u,s.heap.get? b=some u->h'.get? b=some u)(hp:s.heap.objs.size<=a)(new:ObjOk X.prog X.w (upd H a o) h' a o) :
 Yc X Ya σ (upd H a o) { s with heap:=h',toks:=t' }:=I.un (Un.laid k hp (I.hok.fresh hp)) (I.hok.laid k hp new)
theorem Yc.write {x e:Addr} (I:Yc X Ya σ H s) (mu:Mut (H x)) (he:e=x\/H e=some (.own x)) (k:∀b u,b≠e->s.heap.get? b=some u->h'.get? b=some u) (heo:∃u,h'.get? e=some u)
 (new:ObjOk X.prog X.w (upd H x o) h' x o):Yc X Ya σ (upd H x o) { s with heap:=h',toks:=t' }:=I.un (Un.write mu he k heo) (I.hok.write mu he k heo new)
theorem Yc.weak{σ':List (Option V)}(I:Yc X Ya σ H s)(hl:σ'.length=σ.length)(w:∀(i:Nat) v,σ'[i]? = some (some v)->σ[i]? = some (some v)):Yc X Ya σ' H s :=
 ⟨I.ok,I.os,I.bare,I.base,let ⟨m,hn,hl'⟩:=I.loc;⟨m,hn,fun i x v e1 e2 e3=>hl' i x v e1 (w i v e2) e3⟩,I.cell,I.free,I.freeC,I.pin,I.hok,hl.trans I.len⟩
theorem Yc.pins_of{pins':List (Addr × Obj)}(I:Yc X Ya σ H s)(h:∀p∈pins',s.heap.get? p.1=some p.2/\H p.1=none/\p.1≠X.env.locals/\p.1∉X.fs/\∀v,p.2.data≠.cell v):Yc X pins' σ H s :=
 ⟨I.ok,I.os,I.bare,I.base,I.loc,I.cell,I.free,I.freeC,fun p hp=>(Zf.mp hp).elim (fun z=>I.pin p (Zp _ z)) (h p),I.hok,I.len⟩
theorem DZ{N:List Str}(hN:N.Nodup){j:Nat}(a:N[i]? = some x)(b:N[j]? = some x):i=j:=by
 obtain⟨h1,e1⟩:=Zg.mp a;obtain⟨h2,e2⟩:=Zg.mp b;exact(List.getElem_inj hN).mp (e1.trans e2.symm)
theorem Hz {M:Model} {Q:Unit->Shared->Prop} (I:Yc X Ya σ H s) (hN:X.N.Nodup) (hi:X.N[i]? = some x) (hx:Loc X.env.scope x) (r:Yh v u)
 (h:∀s',Yc X Ya (σ.set i (some v)) H s'->(∃a,Heap.SameBut a s.heap s'.heap/\(a=X.env.locals\/X.env.cells.lookup x=some a))->Q () s') (hf:X.fn x=true\/X.env.scope.names.lookup x=some .local:=by first | exact .inl rfl | exact .inr rfl | assumption):wpAny M A (storeName X.env x u) Q E s:=by
 obtain⟨m,hn,hl⟩:=id I.loc;have hcls:(X.env.scope.kind == .class || (X.env.scope.kind == .module && X.env.locals != X.env.globals))=false:=by rw[I.ok.kind];rfl
 have hiσ:i < σ.length:=by rw[I.len];exact(Zg.mp hi).1
 have cne:=I.cne
 have tracked:∀{a:Addr} {h':Heap},(∃o,s.heap.get? a=some o/\H a=none)->Heap.SameBut a s.heap h'->HOk X.prog X.w H h':=fun {a h'} ha hs b ob e=>by
  obtain⟨_,_,hfree⟩:=ha;refine(I.hok b ob e).stay (fun c w' hc q=>(hs.2 c ?_).trans q) (fun _ q=>q) fun _ _ q=>q
  rintro rfl
  rcases hc with rfl | hc
  ·rw[hfree]at e;cases e
  ·rw[hfree]at hc;cases hc
 rcases hx with hk | hk
 ·refine wpAny_storeName_local hk hn (fun h' hn' hs=>?_) hcls;obtain⟨oL,_,_,hoL,_⟩:=id hn;refine h _ ⟨I.ok,I.os,I.bare,⟨fun b o e n hb hx=>?_,fun b o e n hb hx=>?_,I.base.free,fun b o e hx=>?_,I.base.tups,I.base.frzs,I.base.tbls⟩,⟨_,hn',fun j y v' e1 e2 e3=>?_⟩,fun y c e=>?_,I.free,I.freeC,fun p hp=>?_,tracked ⟨oL,hoL,I.free⟩ hs,by simpa using I.len⟩ ⟨_,hs,.inl rfl⟩
  ·exact(hs.2 b (ZM (ZL (ZC e) I.ok.above))).trans (I.base.keep b o e n hb hx)
  ·obtain⟨sl,e1⟩:=I.base.slot b o e n hb hx;exact⟨sl,(hs.2 b (ZM (ZL (ZC e) I.ok.above))).trans e1⟩
  ·obtain⟨o',e1⟩:=I.base.there b o e hx;exact⟨o',(hs.2 b (ZM (ZL (ZC e) I.ok.above))).trans e1⟩
  ·by_cases hj:j=i
   ·subst hj;rw[hi]at e1;cases e1;rw[List.getElem?_set_self hiσ]at e2;cases e2;exact⟨u,r,.inl ⟨hk,by simp⟩⟩
   ·rw[ZBF (Ne.symm hj)]at e2;obtain⟨u',r',q⟩:=hl j y v' e1 e2 e3;refine⟨u',r',?_⟩
    rcases q with ⟨k,e⟩ | ⟨k,c,e,z⟩
    ·refine .inl ⟨k,?_⟩
     have:y≠x:=fun e=>hj (DZ hN e1 (e ▸ hi))
     simp[this,e]
    ·exact .inr ⟨k,c,e,z.sameBut hs (cne y c e)⟩
  ·obtain⟨w',z⟩:=I.cell y c e;exact⟨w',z.sameBut hs (cne y c e)⟩
  ·obtain⟨e,n,ne,nf,d⟩:=I.pin p hp;exact⟨(hs.2 p.1 ne).trans e,n,ne,nf,d⟩
 ·have hfn:X.fn x=true:=by
   rcases hf with z | z
   ·exact z
   ·rw[z]at hk;cases hk
  obtain⟨c,hc⟩:=I.ok.has x (.inl hk);obtain⟨w',z⟩:=I.cell x c hc;refine wpAny_storeName_cell I.ok.kind hk hc z (fun h' hc' hs=>?_);obtain⟨oc,hoc,hocd⟩:=id z;refine h { s with heap:=h' } ⟨I.ok,I.os,I.bare,⟨fun b o e n hb hx=>?_,fun b o e n hb hx=>?_,I.base.free,fun b o e hx=>?_,I.base.tups,I.base.frzs,I.base.tbls⟩,⟨m,hn.sameBut hs (Ne.symm (cne x c hc)),fun j y v' e1 e2 e3=>?_⟩,fun y c' e=>?_,I.free,I.freeC,fun p hp=>?_,tracked ⟨oc,hoc,I.freeC x c hc⟩ hs,by simpa using I.len⟩ ⟨c,hs,.inr hc⟩
  ·exact(hs.2 b (ZM (ZL (ZC e) (I.ok.cab x c hfn hc)))).trans (I.base.keep b o e n hb hx)
  ·obtain⟨sl,e1⟩:=I.base.slot b o e n hb hx;exact⟨sl,(hs.2 b (ZM (ZL (ZC e) (I.ok.cab x c hfn hc)))).trans e1⟩
  ·obtain⟨o',e1⟩:=I.base.there b o e hx;exact⟨o',(hs.2 b (ZM (ZL (ZC e) (I.ok.cab x c hfn hc)))).trans e1⟩
  ·by_cases hj:j=i
   ·subst hj;rw[hi]at e1;cases e1;rw[List.getElem?_set_self hiσ]at e2;cases e2;exact⟨u,r,.inr ⟨.inl hk,c,hc,hc'⟩⟩
   ·rw[ZBF (Ne.symm hj)]at e2;obtain⟨u',r',q⟩:=hl j y v' e1 e2 e3;refine⟨u',r',?_⟩
    rcases q with q | ⟨k,c',e,z'⟩
    ·exact .inl q
    ·refine .inr ⟨k,c',e,z'.sameBut hs ?_⟩;rintro rfl;exact hj (DZ hN e1 (I.ok.inj _ _ _ e hc ▸ hi))
  ·by_cases hcc:c'=c
   ·subst hcc;exact⟨_,hc'⟩
   ·obtain⟨w2,z2⟩:=I.cell y c' e;exact⟨w2,z2.sameBut hs hcc⟩
  ·obtain⟨e,n,ne,nf,d⟩:=I.pin p hp;refine⟨(hs.2 p.1 ?_).trans e,n,ne,nf,d⟩;intro q;rw[q,hoc]at e;have q':oc=p.2:=ZR e;exact d w' (by rw[<- q'];exact hocd)
theorem CV {M:Model} {Q:Unit->Shared->Prop} (I:Yc X Ya σ H s) (hN:X.N.Nodup) (hi:X.N[i]? = some x) (hx:Loc X.env.scope x) (r:Yh v u)
 (h:∀s',Yc X Ya (σ.set i (some v)) H s'->Q () s') (hf:X.fn x=true\/X.env.scope.names.lookup x=some .local:=by first | exact .inl rfl | exact .inr rfl | assumption):wpAny M A (storeName X.env x u) Q E s :=
 Hz I hN hi hx r (fun s' I' _=>h s' I') hf
theorem Yc.call' {s':Shared} {ch:List Addr} (I:Yc X Ya σ H s) (ho:s'.os=s.os) (u:Un (frs X.stack) ch H H' s.heap s'.heap) (hok:HOk X.prog X.w H' s'.heap) (hg:AllBare s'.gens)
 (hch:∀b∈ch,(b∈X.ex\/X.s₀.heap.objs.size<=b)/\b≠X.env.locals/\(∀x c,X.env.cells.lookup x=some c->c≠b)/\∀p∈X.pn++Ya,p.1≠b):Yc X Ya σ H' s':=by
 obtain⟨h',g',d',t',o'⟩:=s';have e:o'=s.os:=ho;subst e;exact I.call (g':=g') (t':=t') (d':=d') u hok hg hch
end
noncomputable abbrev XK:=Value->Option Addr->Hp->Prop
noncomputable abbrev St:=List (Option V)
noncomputable abbrev VK:=V->Hp->Prop
noncomputable abbrev TE:=St->Hp->VK->Prop
noncomputable abbrev TT:=St->Hp->(Bool->Hp->Prop)->Prop
noncomputable abbrev TA:=St->Hp->(List V->Hp->Prop)->Prop
structure Ends where
 nx:St->Hp->Prop
 rt:VK
 bk:St->Hp->Prop:=fun _ _=>False
 ct:St->Hp->Prop:=fun _ _=>False
noncomputable abbrev TS:=Ends->St->Hp->Prop
noncomputable def EP(X:Cx)(Ya:List (Addr × Obj))(σ:St)(Q:VK)(u:Value)(s':Shared):Prop:=∃v H',Yc X Ya σ H' s'/\Yh v u/\Q v H'
noncomputable def TP(X:Cx)(Ya:List (Addr × Obj))(σ:St)(Q:Bool->Hp->Prop)(b:Bool)(s':Shared):Prop:=∃H',Yc X Ya σ H' s'/\Q b H'
noncomputable def AP(X:Cx)(Ya:List (Addr × Obj))(σ:St)(Q:List V->Hp->Prop)(us:List Value)(s':Shared):Prop:=∃vs H',Yc X Ya σ H' s'/\Yg vs us/\Q vs H'
noncomputable def SP(X:Cx)(Ya:List (Addr × Obj))(D:Ends)(f:Flow)(s':Shared):Prop :=
 match f with
 | .next=>∃σ' H',Yc X Ya σ' H' s'/\D.nx σ' H'
 | .brk=>∃σ' H',Yc X Ya σ' H' s'/\D.bk σ' H'
 | .cont=>∃σ' H',Yc X Ya σ' H' s'/\D.ct σ' H'
 | .ret u=>∃v σ' H',Yc X Ya σ' H' s'/\Yh v u/\D.rt v H'
noncomputable def PE(X:Cx)(e:Expr)(t:TE):Prop :=
 ∀(Ya:List (Addr × Obj)) (s:Shared) (σ:St) (H:Hp) (Q:VK),Yc X Ya σ H s->t σ H Q->wpAny (model X.prog X.w) X.A (eval e X.env) (EP X Ya σ Q) X.xe s
noncomputable def PT(X:Cx)(e:Expr)(t:TT):Prop :=
 ∀(Ya:List (Addr × Obj)) (s:Shared) (σ:St) (H:Hp) (Q:Bool->Hp->Prop),Yc X Ya σ H s->t σ H Q->wpAny (model X.prog X.w) X.A (isTrue e X.env (eval e X.env)) (TP X Ya σ Q) X.xe s
noncomputable def PW(X:Cx)(e:Expr)(t:TT):Prop :=
 ∀(whole:Sem Value) (Ya:List (Addr × Obj)) (s:Shared) (σ:St) (H:Hp) (Q:Bool->Hp->Prop),Yc X Ya σ H s->t σ H Q->wpAny (model X.prog X.w) X.A (isTrue e X.env whole) (TP X Ya σ Q) X.xe s
theorem PW.pt{X:Cx}{e:Expr}{t:TT}(h:PW X e t):PT X e t:=h _
noncomputable def PA(X:Cx)(es:List Expr)(t:TA):Prop :=
 ∀(pos:Pos) (Ya:List (Addr × Obj)) (s:Shared) (σ:St) (H:Hp) (Q:List V->Hp->Prop),Yc X Ya σ H s->t σ H Q->wpAny (model X.prog X.w) X.A (spliced (backTo pos (starEach es X.env))) (AP X Ya σ Q) X.xe s
noncomputable def PS(X:Cx)(st:Stmt)(t:TS):Prop :=
 ∀(Ya:List (Addr × Obj)) (s:Shared) (σ:St) (H:Hp) (D:Ends),Yc X Ya σ H s->t D σ H->wpAny (model X.prog X.w) X.A (exec st X.env) (SP X Ya D) X.xe s
noncomputable def PSs(X:Cx)(st:List Stmt)(t:TS):Prop :=
 ∀(Ya:List (Addr × Obj)) (s:Shared) (σ:St) (H:Hp) (D:Ends),Yc X Ya σ H s->t D σ H->wpAny (model X.prog X.w) X.A (execs st X.env) (SP X Ya D) X.xe s
theorem Yk{α:Type}{t:Sem α}{Q Q':α->Shared->Prop}{M:Model}(h:wpAny M A t Q E s)(hQ:∀a s,Q a s->Q' a s):wpAny M A t Q' E s:=ZI h hQ fun _ _ x=>x
section
variable {X:Cx}
noncomputable def GI(i:Nat):TE:=fun σ H Q=>∃v,σ[i]? = some (some v)/\Q v H
noncomputable def tC(v:V):TE:=fun _ H Q=>Q v H
theorem FU(hN:X.N[i]? = some x)(hv:Vis X.env.scope x)(hd:(x == ("__debug__" : Str))=false:=by decide)(hcd:(x == ("__classdict__" : Str))=false:=by decide):PE X (.Name x pos) (GI i):=by
 intro Ya s σ H Q I h;obtain⟨v,e,h⟩:=h;obtain⟨m,hn,hl⟩:=I.loc;obtain⟨u,r,l⟩:=hl i x v hN e hv;have fin:EP X Ya σ Q u s:=⟨v,H,I,r,h⟩
 rcases l with ⟨hk,hm⟩ | ⟨hk,c,hc,hcell⟩
 ·exact wpAny_Name (wpAny_loadName_local I.ok.kind hk hn hm fin) hd
 ·rcases hk with hk | hk
  ·exact wpAny_Name (wpAny_loadName_cell I.ok.kind hk hc hcell fin) hd
  ·exact wpAny_Name (wpAny_loadName_free I.ok.kind hk hc hcell fin hcd) hd
theorem AB{i j pos}:PE X (.Constant (.int i) j pos) (tC (.int i)):=fun _ _ _ H _ I h=>wpAny_Constant_int ⟨.int i,H,I.tok _,⟨_,rfl⟩,h⟩
theorem Hk{b j pos}:PE X (.Constant (.bool b) j pos) (tC (.bl b)):=fun _ _ _ H _ I h=>Constant_bool ⟨.bl b,H,I,rfl,h⟩
theorem FC{j pos}:PE X (.Constant .none j pos) (tC .non):=fun _ _ _ H _ I h=>Constant_none ⟨.non,H,I,rfl,h⟩
theorem AH{x j pos}:PE X (.Constant (.str x) j pos) (tC (.str x)):=fun _ _ _ H _ I h=>Calls.Constant_str ⟨.str x,H,I.tok _,⟨_,rfl⟩,h⟩
noncomputable def Gl(X:Cx)(x:Str):Prop:=X.env.kindOf x=some .globalImplicit
theorem B6 (I:Yc X Ya σ H s) (hg:Gl X x) (hm:X.mg x=some u) (h:Q u s)
 (hd:(x == ("__debug__" : Str))=false:=by decide):wpAny (model X.prog X.w) X.A (eval (.Name x pos) X.env) Q E s :=
 Calls.Name_function_global I.ok.kind hg (Calls.loadGlobal_global (by rw[I.ok.glob];exact I.mod.glob.keeps I.bk) hm h) hd
theorem CJ (I:Yc X Ya σ H s) (hg:Gl X x) (hm:X.mg x=none) (hv:bootBuiltins x=some u) (h:Q u s)
 (hn:x ≠ "__name__":=by decide) (hd:(x == ("__debug__" : Str))=false:=by decide):wpAny (model X.prog X.w) X.A (eval (.Name x pos) X.env) Q E s:=by
 obtain⟨mb,h1,h2⟩:=I.mod.blt;exact Calls.Name_function_global I.ok.kind hg (Calls.loadGlobal_builtin (by rw[I.ok.glob];exact I.mod.glob.keeps I.bk) hm (by rw[I.ok.blt];exact h1.keeps I.bk) ((h2 x hn).trans hv) h) hd
theorem BN(hg:Gl X x)(hm:X.mg x=some u)(r:Yh v u)(hd:(x == ("__debug__" : Str))=false:=by decide):PE X (.Name x pos) (tC v) :=
 fun _ _ _ H _ I h=>B6 I hg hm ⟨v,H,I,r,h⟩ hd
theorem KD(hg:Gl X x)(hm:X.mg x=none)(hv:bootBuiltins x=some u)(r:Yh v u)(hn:x ≠ "__name__":=by decide)(hd:(x == ("__debug__" : Str))=false:=by decide):PE X (.Name x pos) (tC v) :=
 fun _ _ _ H _ I h=>CJ I hg hm hv ⟨v,H,I,r,h⟩ hn hd
variable {a b:Expr}{ta tb:TE}{pos:Pos}
theorem EB(b:Expr){op:CmpOp}(h:op≠.In)(h2:op≠.NotIn):behindInMarks op b=false:=by
 have e1:(op == CmpOp.In)=false:=by cases op <;> first | rfl | exact absurd rfl h
 have e2:(op == CmpOp.NotIn)=false:=by cases op <;> first | rfl | exact absurd rfl h2
 cases b <;> simp[behindInMarks,e1,e2]
variable {tA tB':TT}{rest:List Expr}
noncomputable def HW(t u:TT):TT:=fun σ H Q=>t σ H fun c H1=>if c=true then u σ H1 Q else Q false H1
noncomputable def tOr(t u:TT):TT:=fun σ H Q=>t σ H fun c H1=>if c=true then Q true H1 else u σ H1 Q
noncomputable def NQ(t:TT):TT:=fun σ H Q=>t σ H fun c H1=>Q (!c) H1
theorem Ev(ha:PT X a tA):PW X (.BoolOp .And [a] pos) tA:=by
 intro wh Ya s σ H Q I h;refine isTrue_and (Yk (ha Ya s σ H Q I h) fun c s1 e=>?_);cases c with
 | true=>exact isTrue_and_nil e
 | false=>exact e
theorem CA(ha:PT X a tA):PW X (.BoolOp .Or [a] pos) tA:=by
 intro wh Ya s σ H Q I h;refine isTrue_or (Yk (ha Ya s σ H Q I h) fun c s1 e=>?_);cases c with
 | false=>exact isTrue_or_nil e
 | true=>exact e
theorem Cr(ha:PT X a tA)(hb:PW X (.BoolOp .And (b::rest) pos) tB'):PW X (.BoolOp .And (a::b::rest) pos) (HW tA tB'):=by
 intro wh Ya s σ H Q I h;refine isTrue_and (Yk (ha Ya s σ H _ I h) fun c s1 ⟨H1,I1,q1⟩=>?_);cases c with
 | true=>exact hb wh Ya s1 σ H1 Q I1 q1
 | false=>exact⟨H1,I1,q1⟩
theorem BY(ha:PT X a tA)(hb:PW X (.BoolOp .Or (b::rest) pos) tB'):PW X (.BoolOp .Or (a::b::rest) pos) (tOr tA tB'):=by
 intro wh Ya s σ H Q I h;refine isTrue_or (Yk (ha Ya s σ H _ I h) fun c s1 ⟨H1,I1,q1⟩=>?_);cases c with
 | true=>exact⟨H1,I1,q1⟩
 | false=>exact hb wh Ya s1 σ H1 Q I1 q1
theorem Iz(ha:PT X a tA):PT X (.UnaryOp .Not a pos) (NQ tA):=by
 intro Ya s σ H Q I h;exact isTrue_not (ha Ya s σ H (fun c H1=>Q (!c) H1) I h)
noncomputable def LD(ta tb:TE):TE:=fun σ H Q=>ta σ H fun x H1=>∃c,x=.bl c/\if c=true then Q (.bl true) H1 else tb σ H1 Q
theorem JI{op}{t:TE}(h:PE X a t):PE X (.BoolOp op [a] pos) t:=fun Ya s σ H Q I hw=>BoolOp_one (h Ya s σ H Q I hw)
theorem KN(ha:PE X a ta)(hb:PE X (.BoolOp .Or (b::rest) pos) tb):PE X (.BoolOp .Or (a::b::rest) pos) (LD ta tb):=by
 intro Ya s σ H Q I h;refine BoolOp_or (Yk (ha Ya s σ H _ I h) fun v s1 ⟨x,H1,I1,r1,q1⟩=>?_);obtain⟨c,rfl,q1⟩:=q1;cases r1;refine wpAny_truthy_bool ?_;cases c with
 | false=>exact hb Ya s1 σ H1 Q I1 q1
 | true=>exact⟨.bl true,H1,I1,rfl,q1⟩
noncomputable def tIf(t:TT)(ta tb:TE):TE:=fun σ H Q=>t σ H fun c H1=>if c=true then ta σ H1 Q else tb σ H1 Q
theorem DV{c:Expr}(hc:PT X c tA)(ha:PE X a ta)(hb:PE X b tb):PE X (.IfExp c a b pos) (tIf tA ta tb):=by
 intro Ya s σ H Q I h;refine wpAny_IfExp (Yk (hc Ya s σ H _ I h) fun d s1 ⟨H1,I1,q1⟩=>?_);cases d with
 | true=>exact ha Ya s1 σ H1 Q I1 q1
 | false=>exact hb Ya s1 σ H1 Q I1 q1
end
noncomputable def Yr(K:W.Frag)(H:Hp)(a:Addr)(xs:List V):Prop :=
 Rd H a (.lst xs) \/
  ∃(o:Obj) (Yd:Array Value) (n:Nat),K.lookup a=some o/\o.cls=.type "list" /\ o.dict=none/\o.data=.seq Yd n/\Yd.size<=sizeLine/\Yg xs Yd.toList
noncomputable def Yq(K:W.Frag)(H:Hp)(a:Addr)(xs:List V):Prop :=
 Rd H a (.tup xs) \/
  ∃(o:Obj) (Yd:Array Value) (n:Nat),K.lookup a=some o/\o.cls=.type "tuple" /\ o.dict=none/\o.data=.seq Yd n/\Yd.size<=sizeLine/\Yg xs Yd.toList
noncomputable def Jf:Value->Option V
 | .none=>some .non
 | .bool b=>some (.bl b)
 | .int i _=>some (.int i)
 | .str x _=>some (.str x)
 | .bytes b _=>some (.byt b)
 | .float b _=>some (.flt b)
 | .ref a=>some (.ref a)
 | .type n=>some (.ty n)
 | _=>none
theorem Yh.abs{x:V}(r:Yh x u):Jf u=some x:=by
 cases x with
 | non=>cases r;rfl
 | bl _=>cases r;rfl
 | int _=>obtain⟨t,rfl⟩:=r;rfl
 | str _=>obtain⟨t,rfl⟩:=r;rfl
 | byt _=>obtain⟨t,rfl⟩:=r;rfl
 | flt _=>obtain⟨t,rfl⟩:=r;rfl
 | ref _=>cases r;rfl
 | ty _=>cases r;rfl
theorem Yh.inj{x y:V}(r:Yh x u)(q:Yh y u):x=y:=ZR (r.abs.symm.trans q.abs)
theorem Yg.inj:∀{xs ys:List V} {us:List Value},Yg xs us->Yg ys us->xs=ys
 | _,_,_,.nil,.nil=>rfl
 | _,_,_,.cons r t,.cons r' t'=>by rw[r.inj r',Yg.inj t t']
section
variable {X:Cx}{Ya:List (Addr × Obj)}{σ:St}{H:Hp}{s:Shared}{a:Addr}{xs ys:List V}
theorem Yr.of(h:H a=some (.lst xs)):Yr K H a xs:=.inl (.inl h)
theorem Yq.of(h:H a=some (.tup xs)):Yq K H a xs:=.inl (.inl h)
theorem Yc.list(I:Yc X Ya σ H s)(h:Yr X.K H a xs):∃Yd:List Value,Yg xs Yd/\PlainL s.heap a Yd.toArray/\xs.length<=sizeLine:=by
 rcases h with h | ⟨o,Yd,n,hk,hc,hd,hs,hz,r⟩
 ·obtain⟨z,Yd,n,r,e⟩:=h.ok I.hok;exact⟨Yd,r,⟨_,n,e,rfl,rfl,rfl⟩,z⟩
 ·refine⟨Yd.toList,r,⟨o,n,I.kIn a o hk,hc,hd,by simpa using hs⟩,?_⟩;have e:=r.length;simp only[Array.length_toList]at e;lia
theorem Yc.tuple(I:Yc X Ya σ H s)(h:Yq X.K H a xs):∃Yd:List Value,Yg xs Yd/\IsTup s.heap a Yd.toArray/\xs.length<=sizeLine:=by
 rcases h with h | ⟨o,Yd,n,hk,hc,hdd,hs,hz,r⟩
 ·obtain⟨z,Yd,r,p⟩:=h.ok I.hok;exact⟨Yd,r,p.tup,z⟩
 ·refine⟨Yd.toList,r,⟨o,I.kIn a o hk,hc,n,by simpa using hs⟩,?_⟩;have e:=r.length;simp only[Array.length_toList]at e;lia
theorem Yc.list_inj(I:Yc X Ya σ H s)(h:Yr X.K H a xs)(h':Yr X.K H a ys):xs=ys:=by
 obtain⟨Yd,r,⟨o,n,e,_,_,d⟩,_⟩:=I.list h;obtain⟨its',r',⟨o',n',e',_,_,d'⟩,_⟩:=I.list h';rw[e]at e';cases e';rw[d]at d';injection d' with d1 _
 have:Yd=its':=by simpa using congrArg Array.toList d1
 subst this;exact r.inj r'
theorem Yc.tuple_inj(I:Yc X Ya σ H s)(h:Yq X.K H a xs)(h':Yq X.K H a ys):xs=ys:=by
 obtain⟨Yd,r,⟨o,e,_,n,d⟩,_⟩:=I.tuple h;obtain⟨its',r',⟨o',e',_,n',d'⟩,_⟩:=I.tuple h';rw[e]at e';cases e';rw[d]at d';injection d' with d1 _
 have:Yd=its':=by simpa using congrArg Array.toList d1
 subst this;exact r.inj r'
end
noncomputable abbrev Cx.wish(X:Cx)(E:Value->Shared->Prop):Cx:={ X with xe:=E }
noncomputable abbrev Cx.nox(X:Cx):Cx:=X.wish fun _ _=>False
theorem Cx.Ok.wish{X:Cx}(ok:X.Ok)(E:Value->Shared->Prop):(X.wish E).Ok :=
 ⟨ok.mod,ok.kind,ok.glob,ok.blt,ok.above,ok.inj,ok.has,ok.cab,ok.hd,ok.frames,ok.stk,ok.exf,ok.bs,ok.bsz,ok.noex,ok.exfs,ok.funs,ok.frf⟩
theorem Cx.Ok.unwish{X:Cx}(ok:(X.wish E).Ok):X.Ok :=
 ⟨ok.mod,ok.kind,ok.glob,ok.blt,ok.above,ok.inj,ok.has,ok.cab,ok.hd,ok.frames,ok.stk,ok.exf,ok.bs,ok.bsz,ok.noex,ok.exfs,ok.funs,ok.frf⟩
section
variable {X:Cx}{Ya:List (Addr × Obj)}{σ:St}{H:Hp}{s:Shared}{E:Value->Shared->Prop}
theorem Yc.wish(I:Yc X Ya σ H s)(E:Value->Shared->Prop):Yc (X.wish E) Ya σ H s:=⟨I.ok.wish E,I.os,I.bare,I.base,I.loc,I.cell,I.free,I.freeC,I.pin,I.hok,I.len⟩
theorem Yc.unwish(I:Yc (X.wish E) Ya σ H s):Yc X Ya σ H s:=⟨I.ok.unwish,I.os,I.bare,I.base,I.loc,I.cell,I.free,I.freeC,I.pin,I.hok,I.len⟩
theorem SP.unwish{D:Ends}{f:Flow}{s':Shared}(h:SP (X.wish E) Ya D f s'):SP X Ya D f s':=by
 cases f with
 | next=>obtain⟨σ',H',I,q⟩:=h;exact⟨σ',H',I.unwish,q⟩
 | brk=>obtain⟨σ',H',I,q⟩:=h;exact⟨σ',H',I.unwish,q⟩
 | cont=>obtain⟨σ',H',I,q⟩:=h;exact⟨σ',H',I.unwish,q⟩
 | ret u=>obtain⟨v,σ',H',I,r,q⟩:=h;exact⟨v,σ',H',I.unwish,r,q⟩
theorem PT.nox{e:Expr}{t:TT}(h:PT X.nox e t):PT X e t:=fun Ya s σ H Q I hw =>
 ZI (h Ya s σ H Q (I.wish _) hw) (fun _ _ ⟨H',I',q⟩=>⟨H',I'.unwish,q⟩) fun _ _ z=>False.elim z
theorem PSs.nox{st:List Stmt}{t:TS}(h:PSs X.nox st t):PSs X st t:=fun Ya s σ H D I hw =>
 ZI (h Ya s σ H D (I.wish _) hw) (fun _ _ q=>q.unwish) fun _ _ z=>False.elim z
end
section
variable {X:Cx}{st:Stmt}{rest:List Stmt}{t u:TS}{e:Expr}{te:TE}{pos:Pos}
noncomputable def BD:TS:=fun D σ H=>D.nx σ H
noncomputable def EM(t u:TS):TS:=fun D σ H=>t { D with nx:=u D } σ H
theorem Al:PSs X [] BD:=fun _ _ σ H _ I h=>wpAny_execs_nil ⟨σ,H,I,h⟩
theorem AE(h1:PS X st t)(h2:PSs X rest u):PSs X (st::rest) (EM t u):=by
 intro Ya s σ H D I h;refine wpAny_execs_cons (Yk (h1 Ya s σ H { D with nx:=u D } I h) fun f s1 q=>?_);cases f with
 | next =>
  obtain⟨σ',H',I',q⟩:=q;exact h2 Ya s1 σ' H' D I' q
 | ret v=>exact q
 | brk=>exact q
 | cont=>exact q
theorem AJ(h1:PS X st t):PSs X [st] t:=by
 intro Ya s σ H D I h;refine wpAny_execs_cons (Yk (h1 Ya s σ H D I h) fun f s1 q=>?_);cases f with
 | next=>exact wpAny_execs_nil q
 | ret v=>exact q
 | brk=>exact q
 | cont=>exact q
theorem Yc.quiet(I:Yc X Ya σ H s):interactive X.env=false:=by simp[interactive,I.ok.kind]
noncomputable def Gc(te:TE):TS:=fun D σ H=>te σ H fun _ H1=>D.nx σ H1
theorem CF(he:PE X e te)(hs:swapsWith e none pos.line X.env=pure false:=by rfl):PS X (.Expr e pos) (Gc te):=by
 intro Ya s σ H D I h;exact wpAny_Expr_any (Yk (he Ya s σ H _ I h) fun v s1 ⟨x,H1,I1,r1,q1⟩=>⟨σ,H1,I1,q1⟩) I.quiet hs
noncomputable def E5(te:TE):TS:=fun D σ H=>te σ H D.rt
theorem AX(he:PE X e te):PS X (.Return (some e) pos) (E5 te):=by
 intro Ya s σ H D I h;exact wpAny_Return_some (Yk (he Ya s σ H _ I h) fun v s1 ⟨x,H1,I1,r1,q1⟩=>⟨x,σ,H1,I1,r1,q1⟩)
noncomputable def Ep(c:TT)(t u:TS):TS:=fun D σ H=>c σ H fun b H1=>if b=true then t D σ H1 else u D σ H1
theorem Ag{c:Expr}{a b:List Stmt}{tc:TT}(hc:PT X c tc)(ha:PSs X a t)(hb:PSs X b u):PS X (.If c a b pos) (Ep tc t u):=by
 intro Ya s σ H D I h;refine wpAny_If (Yk (hc Ya s σ H _ I h) fun d s1 ⟨H1,I1,q1⟩=>?_);cases d with
 | true=>exact ha Ya s1 σ H1 D I1 q1
 | false=>exact hb Ya s1 σ H1 D I1 q1
noncomputable def Gx:TS:=fun _ _ _=>False
theorem Jt{sts:List Stmt}:PSs X sts Gx:=fun _ _ _ _ _ _ h=>h.elim
end
noncomputable abbrev TG:=V->St->Hp->(St->Hp->Prop)->Prop
noncomputable abbrev TGs:=List V->St->Hp->(St->Hp->Prop)->Prop
noncomputable def PG(X:Cx)(target:Expr)(t:TG):Prop :=
 ∀(Ya:List (Addr × Obj)) (s:Shared) (σ:St) (H:Hp) (v:V) (u:Value) (Q:St->Hp->Prop),Yc X Ya σ H s->Yh v u->t v σ H Q ->
  wpAny (model X.prog X.w) X.A (assign target X.env u) (fun _ s'=>∃σ' H',Yc X Ya σ' H' s'/\Q σ' H') X.xe s
noncomputable def PGs(X:Cx)(ts:List Expr)(t:TGs):Prop :=
 ∀(Ya:List (Addr × Obj)) (s:Shared) (σ:St) (H:Hp) (vs:List V) (us:List Value) (Q:St->Hp->Prop),Yc X Ya σ H s->Yg vs us->t vs σ H Q ->
  wpAny (model X.prog X.w) X.A (assignInOrder ((assignEach ts X.env).map (·.2)) us) (fun _ s'=>∃σ' H',Yc X Ya σ' H' s'/\Q σ' H') X.xe s
noncomputable abbrev B8:=V->V->V->Hp->(Hp->Prop)->Prop
noncomputable def E3(X:Cx)(t:B8):Prop :=
 ∀(Ya:List (Addr × Obj)) (s:Shared) (σ:St) (H:Hp) (o i v:V) (ov iv u:Value) (Q:Hp->Prop),Yc X Ya σ H s->Yh o ov->Yh i iv->Yh v u->t o i v H Q ->
  wpAny (model X.prog X.w) X.A (setItem ov iv u) (fun _ s'=>∃H',Yc X Ya σ H' s'/\Q H') X.xe s
section
variable {X:Cx}{pos:Pos}
noncomputable def AV(i:Nat):TG:=fun v σ H Q=>Q (σ.set i (some v)) H
theorem Bi(hN:X.N.Nodup)(hi:X.N[i]? = some x)(hx:Loc X.env.scope x)(hf:X.fn x=true\/X.env.scope.names.lookup x=some .local:=by first | exact .inl rfl | exact .inr rfl | assumption):PG X (.Name x pos) (AV i):=by
 intro Ya s σ H v u Q I r h;exact wpAny_assign_Name (CV I hN hi hx r (fun s' I'=>⟨_,H,I',h⟩) hf)
noncomputable def Jw:TGs:=fun vs σ H Q=>vs=[]/\Q σ H
noncomputable def Kz(t:TG)(u:TGs):TGs:=fun vs σ H Q=>∃v r,vs=v::r/\t v σ H fun σ' H'=>u r σ' H' Q
theorem MC:PGs X [] Jw:=by
 intro Ya s σ H vs us Q I r h;obtain⟨e,h⟩:=h;subst e;cases r;exact assignInOrder_nil ⟨σ,H,I,h⟩
theorem GP {e:Expr} {es:List Expr} {t:TG} {u:TGs} (h1:PG X e t) (h2:PGs X es u)
 (hs:(assignEach (e::es) X.env).map (·.2)=assign e X.env::(assignEach es X.env).map (·.2):=by rfl):PGs X (e::es) (Kz t u):=by
 intro Ya s σ H vs us Q I r h;obtain⟨v,vr,e1,h⟩:=h;subst e1;cases r with
 | cons r rr =>
  rw[hs];refine assignInOrder_cons (Yk (h1 Ya s σ H _ _ _ I r h) fun _ s1 ⟨σ1,H1,I1,q1⟩=>?_);exact h2 Ya s1 σ1 H1 _ _ Q I1 rr q1
noncomputable def IG(K:W.Frag)(n:Nat)(t:TGs):TG:=fun v σ H Q=>∃a xs,v=.ref a/\Yq K H a xs/\xs.length=n/\t xs σ H Q
theorem J5 {es:List Expr} {t:TGs} {n:Nat} (hc:X.calm=true) (h:PGs X es t)
 (hn:(assignEach es X.env).length=n:=by rfl) (hst:(assignEach es X.env).findIdx? (·.1)=none:=by rfl):PG X (.Tuple es k pos) (IG X.K n t):=by
 intro Ya s σ H v u Q I r hw;obtain⟨a,xs,e1,hq,hl,hw⟩:=hw;subst e1;cases r;obtain⟨Yd,rv,ht,hz⟩:=I.tuple hq;refine assign_Tuple_tuple (I.ok.hd hc) ht (by simp[hn,<- hl,rv.length]) hst fun h' hx=>?_
 have I1:Yc X Ya σ H { s with heap:=h' }:=I.kept (t':=s.toks) fun b o e=>hx b o (ZM (ZC e)) e
 exact h Ya _ σ H xs _ Q I1 (by simpa using rv) hw
noncomputable def Fu(to ti:TE)(t:B8):TG:=fun v σ H Q=>to σ H fun o H1=>ti σ H1 fun i H2=>t o i v H2 fun H3=>Q σ H3
theorem Ct {o i:Expr} {to ti:TE} {t:B8} (ho:PE X o to) (hi:PE X i ti) (hs:E3 X t)
 (ha:∀v,assign (.Subscript o i pos) X.env v=(do
   let ov <- holding [v] (eval o X.env);let iv <- holding [v,ov] (eval i X.env)
   standAt pos
   holding [v,ov,iv] (setItem ov iv v)
   release [v,ov,iv] []):=by intro _;rfl):PG X (.Subscript o i pos) (Fu to ti t):=by
 intro Ya s σ H v u Q I r h;rw[ha];refine ZA (Zb (Yk (ho Ya s σ H _ I h) fun ov s1 ⟨x,H1,I1,r1,q1⟩=>?_));refine ZA (Zb (Yk (hi Ya s1 σ H1 _ I1 q1) fun iv s2 ⟨y,H2,I2,r2,q2⟩=>?_));refine ZA (Zs (ZA (Zb (Yk (hs Ya s2 σ H2 x y v ov iv u _ I2 r1 r2 r q2) fun _ s3 ⟨H3,I3,q3⟩=>?_))));exact wpAny_release ⟨σ,H3,I3,q3⟩
noncomputable def D6(te:TE)(g:TG):TS:=fun D σ H=>te σ H fun x H1=>g x σ H1 D.nx
theorem Cs {tg e:Expr} {te:TE} {g:TG} (he:PE X e te) (hg:PG X tg g) (hs:swapsWithSole [tg] e pos.line X.env=pure false:=by rfl) (hw:swappedStores [tg] e X.env=pure none:=by rfl)
 (h1:(assignEach [tg] X.env).map (·.2)=[assign tg X.env]:=by rfl):PS X (.Assign [tg] e pos) (D6 te g):=by
 intro Ya s σ H D I h;refine wpAny_Assign_stores (Yk (he Ya s σ H _ I h) fun v s1 ⟨x,H1,I1,r1,q1⟩=>?_) hs hw;rw[h1];exact Yk (hg Ya s1 σ H1 x v _ I1 r1 q1) fun _ s2 q=>q
theorem AI{i:Nat}{x:Str}{e:Expr}{te:TE}{pos':Pos}(hN:X.N.Nodup)(hi:X.N[i]? = some x)(hx:Loc X.env.scope x)(he:PE X e te)(hs:swapsWith e (some (.Name x pos')) pos.line X.env=pure false:=by rfl)(hf:X.fn x=true\/X.env.scope.names.lookup x=some .local:=by first | exact .inl rfl | exact .inr rfl | assumption) :
 PS X (.Assign [.Name x pos'] e pos) (D6 te (AV i)):=by
 intro Ya s σ H D I h;refine wpAny_Assign_Name (Yk (he Ya s σ H _ I h) fun v s1 ⟨y,H1,I1,r1,q1⟩=>?_) hs;exact CV I1 hN hi hx r1 (fun s2 I2=>⟨_,H1,I2,q1⟩) hf
end
structure It where
 go:Nat->Hp->Prop
 yld:Nat->Hp->V->Hp->Prop
 stop:Nat->Hp->Prop
noncomputable def Ao(X:Cx)(Ya:List (Addr × Obj))(H:Hp)(b:Addr):Prop :=
 H b=none/\b≠X.env.locals/\b∉X.fs/\(b∈X.ex\/X.s₀.heap.objs.size<=b)/\(∀x c,X.env.cells.lookup x=some c->c≠b)/\∀p∈X.pn++Ya,p.1≠b
theorem Yc.fpOk{X:Cx}{H':Hp}(I:Yc X Ya σ H s)(hb:s.heap.objs.size<=b)(hn:H' b=none):Ao X Ya H' b:=by
 refine⟨hn,Nat.ne_of_gt (ZL I.lt hb),I.nofs hb,.inr (ZU I.sz hb),fun x c e z=>?_,fun p hp z=>?_⟩
 ·obtain⟨v,q⟩:=I.cell x c e;exact absurd (ZL q.lt (by rw[z];exact hb)) (ZO _)
 ·exact absurd (ZL (ZC (I.pin p hp).1) (by rw[z];exact hb)) (ZO _)
structure Turn(P:Program)(w:World)(K:W.Frag)(tg:Expr)(J:It)(fp:List Addr)(it:Addr)(tn:Nat->Heap->Prop):Prop where
 mem:it∈fp
 obj:∀i h,tn i h->∀b∈fp,∃o,h.get? b=some o/\∀v,o.data≠.cell v
 keep:∀i h h',tn i h->(∀b∈fp,∀o,h.get? b=some o->h'.get? b=some o)->tn i h'
 item:∀(X:Cx),X.prog=P->X.w=w->X.K=K->X.calm=true->∀(i:Nat) (Ya:List (Addr × Obj)) (s:Shared) (σ:St) (H:Hp) (E:Value->Shared->Prop),Yc X Ya σ H s->(∀b∈fp,Ao X Ya H b)->tn i s.heap->J.go i H ->
  wpAny (model P w) X.A (pyNext (.ref it)) (fun r s1=>∃u,r=some u /\
   wpAny (model P w) X.A (letOwnedTupleGo tg (.ref it) u) (fun _ s2=>∃x H',Yc X Ya σ H' s2/\Yh x u/\J.yld i H x H'/\tn (i+1) s2.heap/\∀b∈fp,H' b=none) E s1) E s
 done:∀(X:Cx),X.prog=P->X.w=w->X.K=K->X.calm=true->∀(i:Nat) (Ya:List (Addr × Obj)) (s:Shared) (σ:St) (H:Hp) (E:Value->Shared->Prop),Yc X Ya σ H s->(∀b∈fp,Ao X Ya H b)->tn i s.heap->J.stop i H ->
  wpAny (model P w) X.A (pyNext (.ref it)) (fun r s1=>r=none/\Yc X Ya σ H s1) E s
 self:∀(A:Around) (i:Nat) (s:Shared) (Q:Value->Shared->Prop) (E:Value->Shared->Prop),tn i s.heap->Q (.ref it) s->wpAny (model P w) A (pyIter (.ref it)) Q E s
noncomputable abbrev TI:=St->Hp->(It->Hp->Prop)->Prop
noncomputable def PIE(X:Cx)(Ya:List (Addr × Obj))(σ:St)(tg:Expr)(R:It->Hp->Prop)(itv:Value)(s2:Shared):Prop :=
 ∃(it:Addr) (fp:List Addr) (tn:Nat->Heap->Prop) (J:It) (H':Hp),itv=.ref it/\Yc X Ya σ H' s2/\Turn X.prog X.w X.K tg J fp it tn/\tn 0 s2.heap/\(∀b∈fp,Ao X Ya H' b)/\R J H'
noncomputable def PI(X:Cx)(tg iter:Expr)(wi:TI):Prop :=
 ∀(Ya:List (Addr × Obj)) (s:Shared) (σ:St) (H:Hp) (R:It->Hp->Prop),Yc X Ya σ H s->wi σ H R ->
  wpAny (model X.prog X.w) X.A (eval iter X.env) (fun v s1=>wpAny (model X.prog X.w) X.A (pyIter v) (PIE X Ya σ tg R) X.xe s1) X.xe s
theorem Cy {M:Model} {tg:Expr} {it:Addr} {o:Obj} {n:String} {vs:Array Value} {Q:Unit->Shared->Prop} (ho:s.heap.get? it=some o) (hc:o.cls=.type n) (hd:o.data=.fields vs)
 (hn:["enumerate","zip","dict_itemiterator","dict_reverseitemiterator","odict_iterator","itertools.zip_longest","itertools.pairwise"].contains n=false) (hQ:Q () s):wpAny M A (letOwnedTupleGo tg (.ref it) u) Q E s:=by
 unfold letOwnedTupleGo
 cases tg <;> first
  | exact ZB hQ
  | (cases u <;> first
      | exact ZB hQ
      | (refine ZA (wpAny_load ho ?_)
         rw[hc,hd];show wpAny M A (if (["enumerate","zip","dict_itemiterator","dict_reverseitemiterator","odict_iterator","itertools.zip_longest","itertools.pairwise"].contains n && vs[0]? == some (rawInt _))=true then _ else _) Q E s;rw[if_neg (by intro h;rw[hn,Bool.false_and]at h;cases h)];exact ZB hQ))
noncomputable def Itl(K:W.Frag)(a:Addr):It :=
 ⟨fun i H=>∃xs x,Yr K H a xs/\xs[i]? = some x,fun i H x H'=>H'=H/\∀xs,Yr K H a xs->xs[i]? = some x,fun i H=>∃xs,Yr K H a xs/\xs.length<=i⟩
noncomputable def Itt(K:W.Frag)(a:Addr):It :=
 ⟨fun i H=>∃xs x,Yq K H a xs/\xs[i]? = some x,fun i H x H'=>H'=H/\∀xs,Yq K H a xs->xs[i]? = some x,fun i H=>∃xs,Yq K H a xs/\xs.length<=i⟩
noncomputable def Itr(lo:Int)(n:Nat):It:=⟨fun i _=>i < n,fun i H x H'=>H'=H/\x=.int (lo+i),fun i _=>n<=i⟩
theorem Ik{tg:Expr}(a it:Addr):Turn P w K tg (Itl K a) [it] it (fun i h=>h.IsListIter it a i) where
 mem:=by simp
 obj:=fun i h st b hb=>by
  have e:b=it:=by simpa using hb
  subst e;obtain⟨o,e,c,d⟩:=st;exact⟨o,e,fun v z=>by rw[d]at z;cases z⟩
 keep:=fun i h h' st k=>st.at fun o e=>k it (by simp) o e
 item:=by
  intro X hP hw hK hc i Ya s σ H E I hf st hg;subst hP hw hK;obtain⟨xs,x,hq,hx⟩:=hg;obtain⟨Yd,rv,p,hz⟩:=I.list hq;obtain⟨u,hu,ru⟩:=rv.get hx;obtain⟨f0,f1,f2,f3,f4,f5⟩:=hf it (by simp);refine wpAny_pyNext_list_item st p.isList (x:=u) (by simpa using hu) fun h' st' sb=>?_
  have I1:Yc X Ya σ H { s with heap:=h' }:=I.turned (t':=s.toks) (fun b o hb e=>(sb.2 b hb).trans e) f0 f1 f3 f4 f5;obtain⟨o,e,c,d⟩:=id st';exact⟨u,rfl,Cy (s:={ s with heap:=h' }) e c d (by decide) ⟨x,H,I1,ru,⟨rfl,fun ys hy=>by rw[I.list_inj hy hq];exact hx⟩,st',fun b hb=>(hf b hb).1⟩⟩
 done:=by
  intro X hP hw hK hc i Ya s σ H E I hf st hg;subst hP hw hK;obtain⟨xs,hq,hx⟩:=hg;obtain⟨Yd,rv,p,hz⟩:=I.list hq;obtain⟨f0,f1,f2,f3,f4,f5⟩:=hf it (by simp);have hl:=rv.length;exact wpAny_pyNext_list_end (I.ok.hd hc) st p.isList (by simp;lia) fun h' eb=>⟨rfl,I.turned (t':=s.toks) (fun b o hb e=>eb b o hb e) f0 f1 f3 f4 f5⟩
 self:=fun _ _ _ _ _ st h=>wpAny_pyIter_listiter st h
theorem Jy{tg:Expr}(a it:Addr):Turn P w K tg (Itt K a) [it] it (fun i h=>h.IsTupleIter it a i) where
 mem:=by simp
 obj:=fun i h st b hb=>by
  have e:b=it:=by simpa using hb
  subst e;obtain⟨o,e,c,d⟩:=st;exact⟨o,e,fun v z=>by rw[d]at z;cases z⟩
 keep:=fun i h h' st k=>st.at fun o e=>k it (by simp) o e
 item:=by
  intro X hP hw hK hc i Ya s σ H E I hf st hg;subst hP hw hK;obtain⟨xs,x,hq,hx⟩:=hg;obtain⟨Yd,rv,p,hz⟩:=I.tuple hq;obtain⟨u,hu,ru⟩:=rv.get hx;obtain⟨f0,f1,f2,f3,f4,f5⟩:=hf it (by simp);refine wpAny_pyNext_tuple_item st (show s.heap.IsTuple a Yd.toArray from p) (x:=u) (by simpa using hu) fun h' st' sb=>?_
  have I1:Yc X Ya σ H { s with heap:=h' }:=I.turned (t':=s.toks) (fun b o hb e=>(sb.2 b hb).trans e) f0 f1 f3 f4 f5;obtain⟨o,e,c,d⟩:=id st';exact⟨u,rfl,Cy (s:={ s with heap:=h' }) e c d (by decide) ⟨x,H,I1,ru,⟨rfl,fun ys hy=>by rw[I.tuple_inj hy hq];exact hx⟩,st',fun b hb=>(hf b hb).1⟩⟩
 done:=by
  intro X hP hw hK hc i Ya s σ H E I hf st hg;subst hP hw hK;obtain⟨xs,hq,hx⟩:=hg;obtain⟨Yd,rv,p,hz⟩:=I.tuple hq;obtain⟨f0,f1,f2,f3,f4,f5⟩:=hf it (by simp);have hl:=rv.length;exact wpAny_pyNext_tuple_end (I.ok.hd hc) st (show s.heap.IsTuple a Yd.toArray from p) (by simp;lia) fun h' eb=>⟨rfl,I.turned (t':=s.toks) (fun b o hb e=>eb b o hb e) f0 f1 f3 f4 f5⟩
 self:=fun _ _ _ _ _ st h=>wpAny_pyIter_tupleiter st h
theorem LN{tg:Expr}(it:Addr)(lo:Int)(n:Nat):Turn P w K tg (Itr lo n) [it] it (fun i h=>IsRangeIter h it (lo+(i:Nat) * 1) ((n:Int) - (i:Nat)) 1) where
 mem:=by simp
 obj:=fun i h st b hb=>by
  have e:b=it:=by simpa using hb
  subst e
  exact⟨_,st,fun v z=>by
   have z':Data.fields _=Data.cell v:=z;cases z'⟩
 keep:=fun i h h' st k=>k it (by simp) _ st
 item:=by
  intro X hP hw hK hc i Ya s σ H E I hf st hg;subst hP hw hK;obtain⟨f0,f1,f2,f3,f4,f5⟩:=hf it (by simp);have W:=Walks.range (prog:=X.prog) (w:=X.w) (I.ok.hd hc) it lo 1 n;refine W.item i s _ _ hg st fun v h' tk hv st' kk=>?_
  obtain⟨t,rfl⟩:=hv;have I1:Yc X Ya σ H { s with heap:=h',toks:=tk }:=I.turned (fun b o hb e=>kk b o (by simpa using hb) e) f0 f1 f3 f4 f5;refine⟨_,rfl,Cy (s:={ s with heap:=h',toks:=tk }) (n:="range_iterator") st' rfl rfl (by decide) ⟨.int (lo+i),H,I1,⟨t,?_⟩,⟨rfl,rfl⟩,st',fun b hb=>(hf b hb).1⟩⟩;rw[Int.mul_one]
 done:=by
  intro X hP hw hK hc i Ya s σ H E I hf st hg;subst hP hw hK;obtain⟨f0,f1,f2,f3,f4,f5⟩:=hf it (by simp);exact wpAny_pyNext_range_end (I.ok.hd hc) st (by have:n<=i:=hg;lia) fun h' eb=>⟨rfl,I.turned (t':=s.toks) (fun b o hb e=>eb b o hb e) f0 f1 f3 f4 f5⟩
 self:=fun _ _ _ _ _ st h=>wpAny_pyIter_rangeiter st h
section
variable {X:Cx}{tg:Expr}
theorem JK {R:It->Hp->Prop} {lo hi:Int} {t u v:Tok} {tk:Nat} (I:Yc X Ya σ H s) (h1 : -(2 ^ 62)<=lo) (h2:lo < 2 ^ 62) (h3 : -(2 ^ 62)<=hi) (h4:hi < 2 ^ 62)
 (q:R (Itr lo (hi - lo).toNat) H):wpAny (model X.prog X.w) X.A (pyIter (.ref s.heap.objs.size)) (PIE X Ya σ tg R) E { s with heap:=s.heap.push { cls:=.type "range",data:=.fields #[.int lo t,.int hi u,.int 1 v] },toks:=tk }:=by
 refine wpAny_pyIter_range (IsRange.new ..) (small_one h1 h2 h3 h4) ?_;have I1:Yc X Ya σ H { s with heap:=s.heap.push { cls:=.type "range",data:=.fields #[.int lo t,.int hi u,.int 1 v] },toks:=tk }:=I.kept fun b o e=>ZJ _ e
 refine⟨(s.heap.push { cls:=.type "range",data:=.fields #[.int lo t,.int hi u,.int 1 v] }).objs.size,[(s.heap.push { cls:=.type "range",data:=.fields #[.int lo t,.int hi u,.int 1 v] }).objs.size],_,_,H,rfl,
  I1.kept (t':=tk) fun b o e=>ZJ _ e,LN _ lo (hi - lo).toNat,?_,fun b hb=>?_,q⟩
 ·have e1:lo+((0:Nat):Int) * 1=lo:=by simp
  have e2:(((hi - lo).toNat:Nat):Int) - ((0:Nat):Int)=Builtin.Range.rangeSize lo hi 1:=by rw[rangeSize_one];split <;> lia
  show IsRangeIter _ _ (lo+((0:Nat):Int) * 1) ((((hi - lo).toNat:Nat):Int) - ((0:Nat):Int)) 1;rw[e1,e2];exact ZT _ rfl
 ·have e:b=(s.heap.push { cls:=.type "range",data:=.fields #[.int lo t,.int hi u,.int 1 v] }).objs.size:=by simpa using hb
  subst e;exact I1.fpOk (ZD _) (I1.hok.fresh (ZD _))
noncomputable def Jk(ta:TA):TI:=fun σ H R=>ta σ H fun vs H1=>∃j:Int,vs=[.int j] /\ -(2 ^ 62)<=j/\j < 2 ^ 62/\R (Itr 0 j.toNat) H1
theorem Dt{a:Expr}{ta:TA}{p:Pos}(hg:Gl X "range")(hm:X.mg "range" = none)(ha:PA X [a] ta)(hs:starEach [a] X.env=[(false,eval a X.env)]:=by rfl):PI X tg (.Call (.Name "range" p) [a] [] pos) (Jk ta):=by
 intro Ya s σ H R I h;refine Call_ (CJ I hg hm boot_range (PyProof.Rows.callWith_type1 (Yk (ha pos Ya s σ H _ I h) fun us s1 ⟨vs,H1,I1,r1,q1⟩=>?_) hs rfl));obtain⟨j,e,q1,q2,q⟩:=q1;subst e;cases r1 with
 | cons r rr =>
  cases rr;obtain⟨t,rfl⟩:=r;exact call_range_1 (JK I1 (by lia) (by lia) q1 q2 (by simpa using q))
noncomputable def Mz(wi:TI)(g:TG)(tb:TS):TS:=fun D σ H=>wi σ H fun J H1=>∃W:Nat->Nat->St->Hp->Prop,(∃m,W 0 m σ H1)/\∀i m σ H,W i m σ H ->
 (J.stop i H/\D.nx σ H)\/(J.go i H/\∃N:St->Hp->Prop,(∀σ' H',N σ' H'->∃m',m' < m/\W (i+1) m' σ' H')/\∀x H',J.yld i H x H'->g x σ H' fun σ2 H2=>tb { D with nx:=N,ct:=N,bk:=D.nx } σ2 H2)
noncomputable def Ae(fp:List Addr)(h:Heap):List (Addr × Obj):=fp.filterMap fun b=>(h.get? b).map fun o=>(b,o)
theorem BL{fp:List Addr}{o:Obj}(hb:b∈fp)(e:h.get? b=some o):(b,o)∈Ae fp h:=List.mem_filterMap.mpr ⟨b,hb,by rw[e];rfl⟩
theorem CQ{fp:List Addr}{p:Addr × Obj}(hp:p∈Ae fp h):p.1∈fp/\h.get? p.1=some p.2:=by
 obtain⟨b,hb,e⟩:=List.mem_filterMap.mp hp;cases q:h.get? b with
 | none=>rw[q]at e;cases e
 | some o =>
  rw[q]at e;have e':(b,o)=p:=ZR e;subst e';exact⟨hb,q⟩
theorem Yc.pinned{fp:List Addr}(I:Yc X Ya σ H s)(hf:∀b∈fp,Ao X Ya H b)(ho:∀b∈fp,∃o,s.heap.get? b=some o/\∀v,o.data≠.cell v):Yc X (Ya++Ae fp s.heap) σ H s :=
 I.pins_of fun p hp=>(Zf.mp hp).elim (fun z=>I.pin p (ZP _ z)) fun z=>by
  obtain⟨hb,e⟩:=CQ z;obtain⟨f0,f1,f2,_⟩:=hf p.1 hb;obtain⟨o,e',d⟩:=ho p.1 hb;rw[e]at e';cases e';exact⟨e,f0,f1,f2,d⟩
theorem Yc.unpinned{pl:List (Addr × Obj)}(I:Yc X (Ya++pl) σ H s):Yc X Ya σ H s:=I.pins_of fun p hp=>I.pin p (ZP _ (Zp _ hp))
theorem CW {iter:Expr} {body:List Stmt} {wi:TI} {g:TG} {tb:TS} {pos:Pos} (hp:PassesOwn (model X.prog X.w) X.A X.env X.xe) (hc:X.calm=true) (hi:PI X tg iter wi) (hg:PG X tg g) (hb:PSs X body tb)
 (hs:∀x,foldedSetIterable iter X.env x=pure x:=by intro _;rfl):PS X (.For tg iter body [] pos) (Mz wi g tb):=by
 intro Ya s σ H D I h;refine wpAny_For (Yk (hi Ya s σ H _ I h) fun v s1 h1=>Yk h1 fun itv s2 h2=>?_) hs;obtain⟨it,fp,tn,J,H2,e,I2,T,st2,f2,W,⟨m0,w0⟩,turn⟩:=h2;subst e
 -- what stays true of the iterator's objects through the loop
 have stat:∀{H':Hp},(∀b∈fp,H' b=none)->∀b∈fp,Ao X Ya H' b:=fun hn b hb=>⟨hn b hb,(f2 b hb).2⟩
 refine codeAny_forLoop_any (fun n s'=>∃i σ' H',Yc X Ya σ' H' s'/\tn i s'.heap/\(∀b∈fp,H' b=none)/\W i n σ' H') ?_ m0 ⟨0,σ,H2,I2,st2,fun b hb=>(f2 b hb).1,w0⟩;rintro n s3 ⟨i,σ3,H3,I3,st3,fr3,w3⟩
 rcases turn i n σ3 H3 w3 with ⟨stop,qn⟩ | ⟨go,N,hN,step⟩
 ·refine wpAny_passesOwn hp (Yk (T.done X rfl rfl rfl hc i Ya s3 σ3 H3 X.xe I3 (stat fr3) st3 stop) fun r s4 ⟨hr,I4⟩=>?_);subst hr;exact wpAny_execs_nil ⟨σ3,H3,I4,qn⟩
 ·refine wpAny_passesOwn hp (Yk (T.item X rfl rfl rfl hc i Ya s3 σ3 H3 X.xe I3 (stat fr3) st3 go) fun r s4 ⟨u,hr,h4⟩=>?_);subst hr;refine wpAny_passesOwn hp (Yk h4 fun _ s5 ⟨x,H5,I5,r5,y5,st5,fr5⟩=>?_);have I5':=I5.pinned (stat fr5) (T.obj _ _ st5);refine wpAny_passesOwn hp (Yk (hg _ s5 σ3 H5 x u _ I5' r5 (step x H5 y5)) fun _ s6 ⟨σ6,H6,I6,q6⟩=>?_);refine wpAny_passesOwn hp (Yk (hb _ s6 σ6 H6 _ I6 q6) fun f s7 q7=>?_)
  have again:∀{σ7:St} {H7:Hp},Yc X (Ya++Ae fp s5.heap) σ7 H7 s7->N σ7 H7->∃m,m < n/\∃i σ' H',Yc X Ya σ' H' s7/\tn i s7.heap/\(∀b∈fp,H' b=none)/\W i m σ' H':=fun {σ7 H7} I7 n7=>by
   obtain⟨m',hm,w7⟩:=hN σ7 H7 n7;refine⟨m',hm,i+1,σ7,H7,I7.unpinned,T.keep _ _ _ st5 fun b hb o e=>(I7.pin (b,o) (ZP _ (ZP _ (BL hb e)))).1,fun b hb=>?_,w7⟩;obtain⟨o,e,d⟩:=T.obj _ _ st5 b hb;exact(I7.pin (b,o) (ZP _ (ZP _ (BL hb e)))).2.1
  cases f with
  | next=>obtain⟨σ7,H7,I7,n7⟩:=q7;exact again I7 n7
  | cont=>obtain⟨σ7,H7,I7,n7⟩:=q7;exact again I7 n7
  | brk=>obtain⟨σ7,H7,I7,q7⟩:=q7;exact⟨σ7,H7,I7.unpinned,q7⟩
  | ret v=>obtain⟨x7,σ7,H7,I7,r7,q7⟩:=q7;exact⟨x7,σ7,H7,I7.unpinned,r7,q7⟩
end
theorem IE {xs:List V} {g:TG} {tb:TS} {D:Ends} (Pv:Nat->St->Hp->Prop) (h0:Pv 0 σ H) (hl:∀i σ H,i<=xs.length->Pv i σ H->Yr K H a xs)
 (hs:∀i x σ H,xs[i]? = some x->Pv i σ H->g x σ H fun σ2 H2=>tb { D with nx:=Pv (i+1),ct:=Pv (i+1),bk:=D.nx } σ2 H2) (hd:∀σ H,Pv xs.length σ H->D.nx σ H) :
 ∃W:Nat->Nat->St->Hp->Prop,(∃m,W 0 m σ H)/\∀i m σ H,W i m σ H ->
  ((Itl K a).stop i H/\D.nx σ H)\/((Itl K a).go i H/\∃N:St->Hp->Prop,(∀σ' H',N σ' H'->∃m',m' < m/\W (i+1) m' σ' H')/\∀x H',(Itl K a).yld i H x H'->g x σ H' fun σ2 H2=>tb { D with nx:=N,ct:=N,bk:=D.nx } σ2 H2):=by
 refine⟨fun i m σ H=>m=xs.length - i/\i<=xs.length/\Pv i σ H,⟨xs.length,by simp,ZK _,h0⟩,?_⟩;rintro i m σ H ⟨rfl,hi,p⟩;have q:=hl i σ H hi p
 by_cases Yo:i < xs.length
 ·refine .inr ⟨⟨xs,xs[i],q,by simp[Yo]⟩,Pv (i+1),fun σ' H' p'=>⟨xs.length - (i+1),by lia,rfl,Yo,p'⟩,fun x H' y=>?_⟩;obtain⟨e,y⟩:=y;subst e;exact hs i x σ _ (y xs q) p
 ·have e:i=xs.length:=by lia
  subst e;exact .inl ⟨⟨xs,q,ZD _⟩,hd σ H p⟩
theorem LO {xs:List V} {g:TG} {tb:TS} {D:Ends} (Pv:Nat->St->Hp->Prop) (h0:Pv 0 σ H) (hl:∀i σ H,i<=xs.length->Pv i σ H->Yq K H a xs)
 (hs:∀i x σ H,xs[i]? = some x->Pv i σ H->g x σ H fun σ2 H2=>tb { D with nx:=Pv (i+1),ct:=Pv (i+1),bk:=D.nx } σ2 H2) (hd:∀σ H,Pv xs.length σ H->D.nx σ H) :
 ∃W:Nat->Nat->St->Hp->Prop,(∃m,W 0 m σ H)/\∀i m σ H,W i m σ H ->
  ((Itt K a).stop i H/\D.nx σ H)\/((Itt K a).go i H/\∃N:St->Hp->Prop,(∀σ' H',N σ' H'->∃m',m' < m/\W (i+1) m' σ' H')/\∀x H',(Itt K a).yld i H x H'->g x σ H' fun σ2 H2=>tb { D with nx:=N,ct:=N,bk:=D.nx } σ2 H2):=by
 refine⟨fun i m σ H=>m=xs.length - i/\i<=xs.length/\Pv i σ H,⟨xs.length,by simp,ZK _,h0⟩,?_⟩;rintro i m σ H ⟨rfl,hi,p⟩;have q:=hl i σ H hi p
 by_cases Yo:i < xs.length
 ·refine .inr ⟨⟨xs,xs[i],q,by simp[Yo]⟩,Pv (i+1),fun σ' H' p'=>⟨xs.length - (i+1),by lia,rfl,Yo,p'⟩,fun x H' y=>?_⟩;obtain⟨e,y⟩:=y;subst e;exact hs i x σ _ (y xs q) p
 ·have e:i=xs.length:=by lia
  subst e;exact .inl ⟨⟨xs,q,ZD _⟩,hd σ H p⟩
theorem Je {lo:Int} {n:Nat} {g:TG} {tb:TS} {D:Ends} (Pv:Nat->St->Hp->Prop) (h0:Pv 0 σ H)
 (hs:∀i σ H,i < n->Pv i σ H->g (.int (lo+i)) σ H fun σ2 H2=>tb { D with nx:=Pv (i+1),ct:=Pv (i+1),bk:=D.nx } σ2 H2) (hd:∀σ H,Pv n σ H->D.nx σ H) :
 ∃W:Nat->Nat->St->Hp->Prop,(∃m,W 0 m σ H)/\∀i m σ H,W i m σ H ->
  ((Itr lo n).stop i H/\D.nx σ H)\/((Itr lo n).go i H/\∃N:St->Hp->Prop,(∀σ' H',N σ' H'->∃m',m' < m/\W (i+1) m' σ' H')/\∀x H',(Itr lo n).yld i H x H'->g x σ H' fun σ2 H2=>tb { D with nx:=N,ct:=N,bk:=D.nx } σ2 H2):=by
 refine⟨fun i m σ H=>m=n - i/\i<=n/\Pv i σ H,⟨n,by simp,ZK _,h0⟩,?_⟩;rintro i m σ H ⟨rfl,hi,p⟩
 by_cases Yo:i < n
 ·refine .inr ⟨Yo,Pv (i+1),fun σ' H' p'=>⟨n - (i+1),by lia,rfl,Yo,p'⟩,fun x H' y=>?_⟩;obtain⟨e,y⟩:=y;subst e y;exact hs i σ _ Yo p
 ·have e:i=n:=by lia
  subst e;exact .inl ⟨ZD _,hd σ H p⟩
noncomputable abbrev R2:=V->V->Hp->VK->Prop
noncomputable def Yp(X:Cx)(f:Value->Value->Sem Value)(r:R2):Prop :=
 ∀(Ya:List (Addr × Obj)) (s:Shared) (σ:St) (H:Hp) (x y:V) (v u:Value) (Q:VK),Yc X Ya σ H s->Yh x v->Yh y u->r x y H Q ->
  wpAny (model X.prog X.w) X.A (f v u) (EP X Ya σ Q) X.xe s
noncomputable def CallR(X:Cx)(f:Value)(r:List V->Hp->VK->Prop):Prop :=
 ∀(Ya:List (Addr × Obj)) (s:Shared) (σ:St) (H:Hp) (xs:List V) (us:List Value) (Q:VK),Yc X Ya σ H s->Yg xs us->r xs H Q ->
  wpAny (model X.prog X.w) X.A (call f us) (EP X Ya σ Q) X.xe s
noncomputable def tOp(r:R2)(ta tb:TE):TE:=fun σ H Q=>ta σ H fun x H1=>tb σ H1 fun y H2=>r x y H2 Q
noncomputable def rI(C:Int->Int->Prop)(g:Int->Int->V):R2:=fun x y H Q=>∃i j,x=.int i/\y=.int j/\C i j/\Q (g i j) H
noncomputable def rI0(g:Int->Int->V):R2:=fun x y H Q=>∃i j,x=.int i/\y=.int j/\Q (g i j) H
section
variable {X:Cx}{a b c:Expr}{ta tb tc:TE}{pos:Pos}
theorem D1 (ha:PE X a ta) (hb:PE X b tb) {R:V->V->Hp->Prop} (I:Yc X Ya σ H s)
 (h:ta σ H fun x H1=>tb σ H1 fun y H2=>R x y H2) {f:Value->Value->Sem Value}
 (hf:∀v u s2 x y H2,Yc X Ya σ H2 s2->Yh x v->Yh y u->R x y H2->wpAny (model X.prog X.w) X.A (f v u) Q X.xe s2) :
 wpAny (model X.prog X.w) X.A (eval a X.env) (fun v s₁=>wpAny (model X.prog X.w) X.A (eval b X.env) (fun u s₂=>wpAny (model X.prog X.w) X.A (f v u) Q X.xe s₂) X.xe s₁) X.xe s:=by
 refine Yk (ha Ya s σ H _ I h) fun v s1 ⟨x,H1,I1,r1,q1⟩=>?_
 refine Yk (hb Ya s1 σ H1 _ I1 q1) fun u s2 ⟨y,H2,I2,r2,q2⟩=>?_
 exact hf v u s2 x y H2 I2 r1 r2 q2
theorem AF{op:Operator}{r:R2}(ho:Yp X (binaryOp op) r)(ha:PE X a ta)(hb:PE X b tb):PE X (.BinOp a op b pos) (tOp r ta tb):=by
 intro Ya s σ H Q I h;exact wpAny_BinOp (D1 ha hb I h fun v u s2 x y H2 I2 rx ry q=>ho Ya s2 σ H2 x y v u Q I2 rx ry q)
theorem opI {f:Value->Value->Sem Value} {C:Int->Int->Prop} {g:Int->Int->Int}
 (rule:∀(i j:Int) (t u:Tok) (s:Shared) (Q:Value->Shared->Prop) (E:Value->Shared->Prop),C i j->Q (.int (g i j) s.toks) { s with toks:=s.toks+1 } -> wpAny (model X.prog X.w) X.A (f (.int i t) (.int j u)) Q E s) :
 Yp X f (rI C fun i j=>.int (g i j)):=by
 intro Ya s σ H x y v u Q I rx ry h;obtain⟨i,j,rfl,rfl,hc,q⟩:=h;obtain⟨t,rfl⟩:=rx;obtain⟨t',rfl⟩:=ry;exact rule i j t t' s _ _ hc ⟨.int (g i j),H,I.tok _,⟨_,rfl⟩,q⟩
theorem FO {f:Value->Value->Sem Value} {g:Int->Int->Int}
 (rule:∀(i j:Int) (t u:Tok) (s:Shared) (Q:Value->Shared->Prop) (E:Value->Shared->Prop),Q (.int (g i j) s.toks) { s with toks:=s.toks+1 } -> wpAny (model X.prog X.w) X.A (f (.int i t) (.int j u)) Q E s) :
 Yp X f (rI0 fun i j=>.int (g i j)):=by
 intro Ya s σ H x y v u Q I rx ry h;obtain⟨i,j,rfl,rfl,q⟩:=h;obtain⟨t,rfl⟩:=rx;obtain⟨t',rfl⟩:=ry;exact rule i j t t' s _ _ ⟨.int (g i j),H,I.tok _,⟨_,rfl⟩,q⟩
theorem Fg {f:Value->Value->Sem Value} {g:Int->Int->Bool}
 (rule:∀(i j:Int) (t u:Tok) (s:Shared) (Q:Value->Shared->Prop) (E:Value->Shared->Prop),Q (.bool (g i j)) s->wpAny (model X.prog X.w) X.A (f (.int i t) (.int j u)) Q E s) :
 Yp X f (rI0 fun i j=>.bl (g i j)):=by
 intro Ya s σ H x y v u Q I rx ry h;obtain⟨i,j,rfl,rfl,q⟩:=h;obtain⟨t,rfl⟩:=rx;obtain⟨t',rfl⟩:=ry;exact rule i j t t' s _ _ ⟨.bl (g i j),H,I,rfl,q⟩
noncomputable def Gs(i j:Int):Prop:=0<=j/\j<=1000000/\i.natAbs < 2 ^ 64
noncomputable def CMul(i j:Int):Prop:=(-(2 ^ 64) < i/\i < 2 ^ 64)\/(-(2 ^ 64) < j/\j < 2 ^ 64)
theorem CMul.ok{i j:Int}(h:CMul i j):IntMulOk i j:=by
 rcases h with ⟨h1,h2⟩ | ⟨h1,h2⟩
 ·exact .of_left (intBits_le_64 h1 h2)
 ·exact .of_right (intBits_le_64 h1 h2)
theorem HA:Yp X (binaryOp .Add) (rI0 fun i j=>.int (i+j)):=FO fun _ _ _ _ _ _ _ q=>add_int q
theorem NN:Yp X (binaryOp .Sub) (rI0 fun i j=>.int (i - j)):=FO fun _ _ _ _ _ _ _ q=>sub_int q
theorem J4:Yp X (binaryOp .Mod) (rI (fun _ j=>0 < j) fun i j=>.int (i % j)):=opI fun i j _ _ _ _ _ hc q=>by
 have h1:(0:Int) < j:=hc;exact mod_int' (by lia) (by rw[Int.fmod_eq_emod_of_nonneg i (by lia)];exact q)
theorem Ni:Yp X (binaryOp .Pow) (rI Gs fun i j=>.int (i ^ j.toNat)):=opI fun _ _ _ _ _ _ _ hc q=>pow_int_small hc.1 hc.2.1 hc.2.2 q
end
section
variable {X:Cx}{a b c:Expr}{ta tb tc:TE}{pos:Pos}
theorem Ig{Q:VK}{k k':Bool}(I:Yc X Ya σ H s)(q:Q (.bl k) H)(e:k=k'):EP X Ya σ Q (.bool k') s:=by
 subst e;exact⟨.bl k,H,I,rfl,q⟩
theorem Ld:Yp X (compareOp .Lt) (rI0 fun i j=>.bl (decide (i < j))):=Fg fun _ _ _ _ _ _ _ q=>lt_int q
theorem IV:Yp X (compareOp .Gt) (rI0 fun i j=>.bl (decide (j < i))):=Fg fun _ _ _ _ _ _ _ q=>gt_int q
theorem KQ:Yp X (compareOp .Is) (fun x y H Q=>y=.non/\Q (.bl (decide (x=.non))) H):=by
 intro Ya s σ H x y v u Q I rx ry h;obtain⟨rfl,q⟩:=h;cases ry;refine is_none_gen (Ig I q ?_)
 cases x <;> first
  | (cases rx;rfl)
  | (obtain⟨t,rfl⟩:=rx;rfl)
theorem MI{op:CmpOp}{r:R2}(ho:Yp X (compareOp op) r)(ha:PE X a ta)(hb:PE X b tb)(hm:behindInMarks op b=false):PE X (.Compare a [op] [b] pos) (tOp r ta tb):=by
 intro Ya s σ H Q I h;exact wpAny_Compare1 (D1 ha hb I h fun v u s2 x y H2 I2 rx ry q=>ho Ya s2 σ H2 x y v u Q I2 rx ry q) hm
theorem B0:(sizeLine:Nat) < 2 ^ 63:=by rw[sizeLine_eq];decide
theorem Lv:Yp X (binaryOp .Add) (fun x y H Q=>∃i j,x=.str i/\y=.str j/\i.length+j.length<=sizeLine/\Q (.str (i++j)) H):=by
 intro Ya s σ H x y v u Q I rx ry h;obtain⟨i,j,rfl,rfl,hz,q⟩:=h;obtain⟨t,rfl⟩:=rx;obtain⟨t',rfl⟩:=ry;exact add_str (fun t' tk=>⟨.str (i++j),H,I.tok _,⟨_,rfl⟩,q⟩) hz
theorem B5{x:V}(r:Yg [x] us):∃u,us=[u]/\Yh x u:=by
 cases r with
 | cons r1 r2=>cases r2;exact⟨_,rfl,r1⟩
theorem Fc{x y:V}(r:Yg [x,y] us):∃u w',us=[u,w']/\Yh x u/\Yh y w':=by
 cases r with
 | cons r1 r2 =>
  cases r2 with
  | cons r3 r4=>cases r4;exact⟨_,_,rfl,r1,r3⟩
theorem L9(hc:X.calm=true):CallR X (.builtin "max") (fun xs H Q=>∃i j,xs=[.int i,.int j]/\Q (.int (if j > i then j else i)) H):=by
 intro Ya s σ H xs us Q I r h;obtain⟨i,j,rfl,q⟩:=h;obtain⟨u,w',rfl,⟨t,rfl⟩,⟨t',rfl⟩⟩:=Fc r;refine max_two_ints (I.ok.hd hc) fun h' tk k=>⟨_,H,I.kept k,?_,q⟩
 by_cases hj:j > i
 ·rw[if_pos hj,if_pos hj];exact⟨_,rfl⟩
 ·rw[if_neg hj,if_neg hj];exact⟨_,rfl⟩
theorem call_str_int:CallR X (.type "str") (fun xs H Q=>∃i,xs=[.int i]/\i.natAbs.log2 < 1920/\Q (.str (toString i)) H):=by
 intro Ya s σ H xs us Q I r h;obtain⟨i,rfl,hz,q⟩:=h;obtain⟨u,rfl,t,rfl⟩:=B5 r;exact PySem.P.str_of_int hz ⟨.str _,H,I.tok _,⟨_,rfl⟩,q⟩
noncomputable def Gr(K:W.Frag)(x:V)(H:Hp)(n:Nat):Prop :=
 match x with
 | .str y=>y.length<=sizeLine/\n=y.length
 | .byt y=>y.size<=sizeLine/\n=y.size
 | .ref p=>(∃xs,Yr K H p xs/\n=xs.length)\/∃xs,Yq K H p xs/\n=xs.length
 | _=>False
theorem call_len:CallR X (.builtin "len") (fun xs H Q=>∃x n,xs=[x]/\Gr X.K x H n/\Q (.int n) H):=by
 intro Ya s σ H xs us Q I r h;obtain⟨x,n,rfl,e,q⟩:=h;obtain⟨u,rfl,rx⟩:=B5 r;have hl:=B0;have hs:sizeLine=16777216:=sizeLine_eq;cases x with
 | str y =>
  obtain⟨t,rfl⟩:=rx;obtain⟨hy,e'⟩:y.length<=sizeLine/\n=y.length:=e;subst e';exact len_str (by lia) ⟨.int _,H,I.tok _,⟨_,rfl⟩,q⟩
 | byt y =>
  obtain⟨t,rfl⟩:=rx;obtain⟨hy,e'⟩:y.size<=sizeLine/\n=y.size:=e;subst e';exact PySem.W.len_bytes (by lia) ⟨.int _,H,I.tok _,⟨_,rfl⟩,q⟩
 | ref p =>
  cases rx;have e':(∃xs,Yr X.K H p xs/\n=xs.length)\/∃xs,Yq X.K H p xs/\n=xs.length:=e
  rcases e' with ⟨xs,hx,e'⟩ | ⟨xs,hx,e'⟩
  ·subst e';obtain⟨Yd,r',pl,hz⟩:=I.list hx;have Yl:=r'.length;exact Calls.call_len_list pl.isList (by simp only[ZE];lia) ⟨.int xs.length,H,I.tok _,⟨_,by simp only[ZE];rw[Yl]⟩,q⟩
  ·subst e';obtain⟨Yd,r',pl,hz⟩:=I.tuple hx;have Yl:=r'.length;exact len_tuple pl (by simp only[ZE];lia) ⟨.int xs.length,H,I.tok _,⟨_,by simp only[ZE];rw[Yl]⟩,q⟩
 | _=>exact(show False from e).elim
end
structure ObjM(h:Heap)(x dx C:Addr)(mA:Str->Option Value):Prop where
 obj:h.get? x=some (PySem.W.instObj C dx)
 ns:h.Ns1 dx mA
 ne:dx≠x
theorem He{dx:Addr}{mA:Str->Option Value}(n:h.Ns1 dx mA):∃od,h.get? dx=some od/\∀name,PySem.W.lookIn name od=some (mA name):=by
 obtain⟨o,es,ep,ho,hd,hk,_,hm⟩:=n;refine⟨o,ho,fun name=>?_⟩;have e:=hm name;unfold nsFind findBy at e;rw[<- Array.find?_toList]at e;unfold PySem.W.lookIn;rw[hd];dsimp only;split
 ·rename_i y q;rw[q]at e;exact congrArg some e
 ·rename_i q;rw[q]at e
  have a:es.toList.any (·.refKey)=false:=by
   rw[List.any_eq_false];intro y hy;obtain⟨z,t,hkey⟩:=hk y (Array.mem_toList_iff.mp hy);simp[DictEntry.refKey,hkey]
  have a':¬es.toList.any (·.refKey)=true:=by rw[a];exact ZX
  rw[if_neg a'];exact congrArg some e
theorem ObjM.look{x dx:Addr}{mA:Str->Option Value}(I:ObjM h x dx C mA):∃od,PySem.W.InstAt h x (PySem.W.instObj C dx) C (some od)/\∀name,PySem.W.lookIn name od=some (mA name) :=
 let ⟨od,ho,hl⟩:=He I.ns
 ⟨od,⟨I.obj,rfl,rfl,ho⟩,hl⟩
section
variable {prog:Program}{w:World}{A:Around}{E:Value->Shared->Prop}{s:Shared}{K:W.Frag}{x dx C f:Addr}{mA:Str->Option Value}{name:Str}{v:Value}
theorem NA {expr:Bool} (X:K.In s.heap) (I:ObjM s.heap x dx C mA) (hg:PySem.W.plainGet K C name=true) (hh:PySem.W.hasDictIn K C=true)
 (ha:PySem.W.findIn K (.ref C) name=some none) (hv:mA name=some v) (hv':PySem.W.handedIn v=true) (h:Q v { s with toks:=s.toks+1 }) :
 wpAny (model prog w) A (getAttr (.ref x) name expr) Q E s:=by
 obtain⟨od,J,hl⟩:=I.look;exact PySem.W.get_value X J (PySem.W.plainGet_of hg).1 (PySem.W.findObj_own hh ha rfl (by rw[hl,hv])) hv' h
theorem MU {pl:Sem Bool} {Q:Value × List Value->Shared->Prop} (X:K.In s.heap) (I:ObjM s.heap x dx C mA) (hg:PySem.W.plainGet K C name=true)
 (hf:PySem.W.findIn K (.ref C) name=some (some (.ref f))) (ht:PySem.W.isFn K (.ref f)=true) (hv:mA name=none) (h:Q (.ref f,[.ref x]) s) :
 wpAny (model prog w) A (getMethod (.ref x) name pl) Q E s:=by
 obtain⟨od,J,hl⟩:=I.look;exact PySem.W.method_fn X J (PySem.W.plainGet_of hg).1 (PySem.W.plainGet_of hg).2 hf (beq_iff_eq.mp ht) (by show(PySem.W.lookIn name od).map (·.isSome)=some false;rw[hl,hv];rfl) h
theorem Js {ns:List Str} {Q:Unit->Shared->Prop} (X:K.In s.heap) (I:ObjM s.heap x dx C mA)
 (hs:PySem.W.findIn K (.ref C) "__setattr__" = some (some (.builtin "object.__setattr__"))) (hp:PySem.W.plainOver K C=true) (ht:PySem.W.takerIn K C name=some none) (hh:PySem.W.hasDictIn K C=true)
 (hw:PySem.Within mA ns) (hsz:ns.length<=sizeLine)
 (h:∀h',ObjM h' x dx C (fun y=>if y=name then some v else mA y)->Heap.SameBut dx s.heap h'->Q () { s with heap:=h',toks:=s.toks+2 }) :
 wpAny (model prog w) A (setAttr (.ref x) name v) Q E s:=by
 obtain⟨od,J,hl⟩:=I.look;refine PySem.W.set_plain X J hs (PySem.W.osa_open (s:={ s with toks:=s.toks+1 }) (r:=none) X J hp ht fun b=>?_);obtain⟨cd,hc,hd'⟩:=PySem.W.any_some hh;have hx:s.heap.get? x=some ⟨.ref C,some dx,.plain,#[]⟩:=I.obj;refine ZA (ZB (ZA (ZA (wpAny_loadPart hx (ZA (PySem.W.Looks.here (s:={ s with toks:=s.toks+1 }) (PySem.W.looks_clsIn X hc) ?_))))));rw[hd'];refine ZB (a:=some dx) (ZA (ZB (ZA ?_)));refine wpAny_nsSet1 (s:={ s with toks:=s.toks+1 }) I.ns fun h' hn2 hs2=>?_
 obtain⟨oD,esD,epD,hoD,hdD,hcD⟩:=hn2.count (PySem.Within.cons name v hw);refine ZA (wpAny_lookBehind hoD (by rw[hdD];exact pastItsLine_dict (ZU hcD (by rw[ZV];lia))) ?_);exact ZB (h _ ⟨(hs2.2 _ (Ne.symm I.ne)).trans I.obj,hn2,I.ne⟩ hs2)
theorem NP {R:Result->Shared->Prop} {vs:List Value} {kw:List (Str × Value)} (X:K.In s.heap) (hm:PySem.W.makesIn K C=true)
 (hi:PySem.W.findIn K (.ref C) "__init__" = some (some (.ref f))) (hf:PySem.W.typeIn K (.ref f)=some (.type "function"))
 (h:codeAny (model prog w) (A.under (.builtin "type.__call__" ⟨.ref C::vs,kw⟩)) (.call (.ref f) ⟨.ref (s.heap.objs.size+1)::vs,kw⟩) (PySem.W.InitBack (s.heap.objs.size+1) R)
   { s with heap:=(s.heap.push PySem.W.emptyDict).push (PySem.W.instObj C s.heap.objs.size) }) :
 codeAny (model prog w) A (.call (.ref C) ⟨vs,kw⟩) R s:=by
 obtain⟨hh,g,d,t,os⟩:=s;exact PySem.W.make_core (PySem.W.makes_of X hm) (PySem.W.looks_findIn X hi) (fun self=>PySem.W.bind_fn X self hf) (.inl rfl) h
end
noncomputable def AR(f:Str)(v:V):List (Str × V)->List (Str × V)
 | []=>[(f,v)]
 | (g,x)::r=>if g=f then (g,v)::r else (g,x)::AR f v r
theorem EO(f g:Str)(v:V):∀fs:List (Str × V),(AR f v fs).lookup g=if g=f then some v else fs.lookup g
 | []=>by
  show List.lookup g [(f,v)]=_
  by_cases h:g=f
  ·have hb:(g == f)=true:=beq_iff_eq.mpr h;simp only[List.lookup,hb,if_pos h]
  ·have hb:(g == f)=false:=beq_eq_false_iff_ne.mpr h;simp only[List.lookup,hb,if_neg h]
 | (k,x)::r=>by
  have ih:=EO f g v r;rw[show AR f v ((k,x)::r)=(if k=f then (k,v)::r else (k,x)::AR f v r) from rfl]
  by_cases hk:k=f
  ·rw[if_pos hk]
   by_cases h:g=k
   ·have hb:(g == k)=true:=beq_iff_eq.mpr h;simp only[List.lookup,hb,if_pos (h.trans hk)]
   ·have hb:(g == k)=false:=beq_eq_false_iff_ne.mpr h;simp only[List.lookup,hb,if_neg (fun e:g=f=>h (e.trans hk.symm))]
  ·rw[if_neg hk]
   by_cases h:g=k
   ·have hb:(g == k)=true:=beq_iff_eq.mpr h;simp only[List.lookup,hb,if_neg (fun e:g=f=>hk (h.symm.trans e))]
   ·have hb:(g == k)=false:=beq_eq_false_iff_ne.mpr h;simp only[List.lookup,hb];exact ih
theorem Ds(f:Str)(v:V):∀fs:List (Str × V),f∈(AR f v fs).map (·.1)/\∀g,g∈fs.map (·.1)->g∈(AR f v fs).map (·.1)
 | []=>⟨by simp[AR],fun g h=>by simp at h⟩
 | (k,x)::r=>by
  obtain⟨i1,i2⟩:=Ds f v r;rw[show AR f v ((k,x)::r)=(if k=f then (k,v)::r else (k,x)::AR f v r) from rfl]
  by_cases hk:k=f
  ·rw[if_pos hk];subst hk;exact⟨by simp,fun g h=>by simpa using h⟩
  ·rw[if_neg hk];refine⟨?_,fun g h=>?_⟩
   ·rw[ZY];exact ZS _ i1
   ·rw[ZY]at h ⊢
    rcases ZG.mp h with e | e
    ·exact ZG.mpr (.inl e)
    ·exact ZS _ (i2 g e)
theorem G9(f:Str)(v:V):∀fs:List (Str × V),(AR f v fs).length<=fs.length+1
 | []=>by simp[AR]
 | (k,x)::r=>by
  have ih:=G9 f v r;rw[show AR f v ((k,x)::r)=(if k=f then (k,v)::r else (k,x)::AR f v r) from rfl]
  by_cases hk:k=f
  ·rw[if_pos hk,ZV,ZV];lia
  ·rw[if_neg hk,ZV,ZV];lia
theorem RelO.some_of{o:Option Value}(r:RelO (some v) o):∃u,o=some u/\Yh v u:=by
 cases o with
 | none=>exact(show False from r).elim
 | some u=>exact⟨u,rfl,r⟩
theorem RelO.none_of{o:Option Value}(r:RelO none o):o=none:=by
 cases o with
 | none=>rfl
 | some u=>exact(show False from r).elim
theorem GR(r:Yh v u):PySem.W.handedIn u=true:=by
 cases v with
 | non=>cases (show u=Value.none from r);rfl
 | bl b=>cases (show u=Value.bool b from r);rfl
 | int i=>obtain⟨t,e⟩:=(show ∃t,u=Value.int i t from r);cases e;rfl
 | str x=>obtain⟨t,e⟩:=(show ∃t,u=Value.str x t from r);cases e;rfl
 | byt b=>obtain⟨t,e⟩:=(show ∃t,u=Value.bytes b t from r);cases e;rfl
 | flt b=>obtain⟨t,e⟩:=(show ∃t,u=Value.float b t from r);cases e;rfl
 | ref a=>cases (show u=Value.ref a from r);rfl
 | ty n=>cases (show u=Value.type n from r);rfl
section
variable {P:Program}{w:World}{H H':Hp}{h h':Heap}{a C dx:Addr}{fs fs':List (Str × V)}
theorem EZ(hok:HOk P w H h)(e:H a=some (.ins C dx fs)):∃mA,ObjM h a dx C mA/\(∀f,RelO (fs.lookup f) (mA f))/\PySem.Within mA (fs.map (·.1))/\fs.length<=1000/\H dx=some (.own a):=by
 obtain⟨d,z,ne,ob,mA,n,r,q⟩:=(show ObjOk P w H h a (.ins C dx fs) from hok a _ e);exact⟨mA,⟨ob,n,ne⟩,r,q,z,d⟩
end
structure Cls(K:W.Frag)(C:Addr):Prop where
 pg:PySem.W.plainGet K C Str.empty=true
 hd:PySem.W.hasDictIn K C=true
 po:PySem.W.plainOver K C=true
 sa:PySem.W.findIn K (.ref C) "__setattr__" = some (some (.builtin "object.__setattr__"))
theorem Cls.get(c:Cls K C)(f:Str):PySem.W.plainGet K C f=true:=c.pg
noncomputable def NoAttr(K:W.Frag)(C:Addr)(f:Str):Prop:=PySem.W.findIn K (.ref C) f=some none
theorem NoAttr.taker{f:Str}(n:NoAttr K C f):PySem.W.takerIn K C f=some none:=by
 unfold PySem.W.takerIn;rw[show PySem.W.findIn K (.ref C) f=some none from n];rfl
structure Meth(K:W.Frag)(C:Addr)(m:Str)(f:Addr):Prop where
 at_:PySem.W.findIn K (.ref C) m=some (some (.ref f))
 fn:PySem.W.isFn K (.ref f)=true
 kp:PySem.W.keepIn K (.ref f)=true
section
variable {X:Cx}{Ya:List (Addr × Obj)}{σ:St}{H:Hp}{s:Shared}{a C dx:Addr}{fs:List (Str × V)}{f:Str}{v:V}{A:Around}{E:Value->Shared->Prop}
theorem NL {b:Bool} (I:Yc X Ya σ H s) (e:H a=some (.ins C dx fs)) (c:Cls X.K C) (n:NoAttr X.K C f) (l:fs.lookup f=some v)
 (h:∀u s',Yc X Ya σ H s'->Yh v u->Q u s'):wpAny (model X.prog X.w) A (getAttr (.ref a) f b) Q E s:=by
 obtain⟨mA,O,r,_,_,_⟩:=EZ I.hok e;obtain⟨u,hu,ru⟩:=RelO.some_of (v:=v) (o:=mA f) (by rw[<- l];exact r f);exact NA I.kIn O (c.get f) c.hd n hu (GR ru) (h u _ (I.tok _) ru)
theorem EL {m:Str} {g:Addr} {pl:Sem Bool} {Q:Value × List Value->Shared->Prop} (I:Yc X Ya σ H s) (e:H a=some (.ins C dx fs)) (c:Cls X.K C) (k:Meth X.K C m g) (l:fs.lookup m=none)
 (h:Q (.ref g,[.ref a]) s):wpAny (model X.prog X.w) A (getMethod (.ref a) m pl) Q E s:=by
 obtain⟨mA,O,r,_,_,_⟩:=EZ I.hok e;have hn:mA m=none:=RelO.none_of (by rw[<- l];exact r m);exact MU I.kIn O (c.get m) k.at_ k.fn hn h
theorem Hx {y:V} {Q:Unit->Shared->Prop} (I:Yc X Ya σ H s) (e:H a=some (.ins C dx fs)) (c:Cls X.K C) (n:NoAttr X.K C f) (hl:fs.length < 1000) (ry:Yh y u)
 (h:∀s',Yc X Ya σ (upd H a (.ins C dx (AR f y fs))) s'->Q () s'):wpAny (model X.prog X.w) A (setAttr (.ref a) f u) Q E s:=by
 obtain⟨mA,O,r,wi,_,ho⟩:=EZ I.hok e;have hz:(fs.map (·.1)).length<=sizeLine:=by rw[ZF,sizeLine_eq];lia
 refine Js I.kIn O c.sa c.po n.taker c.hd wi hz fun h' O' sb=>h _ ?_
 have hd:∃o,h'.get? dx=some o:=let ⟨o,_,_,e',_⟩:=O'.ns;⟨o,e'⟩;refine I.write (x:=a) (e:=dx) (by rw[e];exact True.intro) (.inr ho) (fun b q hb z=>(sb.2 b hb).trans z) hd ?_;refine⟨by rw[AG O.ne];exact ho,?_,O.ne,O'.obj,_,O'.ns,fun g=>?_,fun g hg=>?_⟩
 ·have:=G9 f y fs;lia
 ·show RelO ((AR f y fs).lookup g) (if g=f then some u else mA g);rw[EO]
  by_cases q:g=f
  ·rw[if_pos q,if_pos q];exact ry
  ·rw[if_neg q,if_neg q];exact r g
 ·by_cases q:g=f
  ·rw[q];exact(Ds f y fs).1
  ·refine(Ds f y fs).2 g (wi g fun z=>hg ?_)
   show(if g=f then some u else mA g)=none
   rw[if_neg q];exact z
theorem Yc.made(I:Yc X Ya σ H s):Yc X Ya σ (upd (upd H s.heap.objs.size (.own (s.heap.objs.size+1))) (s.heap.objs.size+1) (.ins C s.heap.objs.size []))
 { s with heap:=(s.heap.push PySem.W.emptyDict).push (PySem.W.instObj C s.heap.objs.size) }:=by
 have e1:(s.heap.push PySem.W.emptyDict).get? s.heap.objs.size=some PySem.W.emptyDict:=ZT s.heap rfl
 have e2:((s.heap.push PySem.W.emptyDict).push (PySem.W.instObj C s.heap.objs.size)).get? (s.heap.objs.size+1)=some (PySem.W.instObj C s.heap.objs.size):=by
  have:=ZT (s.heap.push PySem.W.emptyDict) (o:=PySem.W.instObj C s.heap.objs.size) rfl
  rwa [Zt]at this
 have e3:(s.heap.push PySem.W.emptyDict).Ns s.heap.objs.size (fun _=>none):=⟨PySem.W.emptyDict,#[],_,e1,rfl,(fun e he=>absurd he (by simp)),fun _=>rfl⟩;have I1:=I.laid (a:=s.heap.objs.size) (o:=.own (s.heap.objs.size+1)) (h':=s.heap.push PySem.W.emptyDict) (t':=s.toks) (fun b u q=>ZJ _ q) (ZD _) ⟨_,e1⟩;refine I1.laid (a:=s.heap.objs.size+1) (o:=.ins C s.heap.objs.size []) (t':=s.toks) (fun b u q=>ZJ _ q) (Z3 (Zt _ _)) ?_;have ne:s.heap.objs.size≠s.heap.objs.size+1:=ZM (Nat.lt_succ_self _);refine⟨by rw[AG ne,AD],ZK _,ne,e2,fun _=>none,(Heap.Ns1.of_empty e3).at fun o q=>ZJ _ q,fun _=>True.intro,fun y hy=>absurd rfl hy⟩
theorem GM {prog:Program} {env:Env} {e:Expr} {f:Str} (hb:attributeBase e f env (eval e env)=eval e env)
 (h:wpAny (model prog w) A (eval e env) (fun o s₁=>wpAny (model prog w) A (getAttr o f true) Q E s₁) E s):wpAny (model prog w) A (eval (.Attribute e f pos) env) Q E s :=
 Attribute_any_ h (by rw[arm_eval_Attribute,hb])
end
structure Room(k:Nat)(A:Around):Prop where
 hd:A.handled=none
 dp:A.depth+3 * k+5 < recursionLimit
 un:A.units+16 * k+200 < cLine
 gd:A.guards=some []
theorem Room.mono{j:Nat}(r:Room k A)(h:j<=k):Room j A:=⟨r.hd,by have:=r.dp;lia,by have:=r.un;lia,r.gd⟩
theorem Room.deeper(r:Room (k+1) A)(env:Env):Room k (A.deeper env) :=
 ⟨r.hd,by have:=r.dp;show A.depth+1+3 * k+5 < _;lia,by have:=r.un;show A.units+3+16 * k+200 < _;lia,r.gd⟩
theorem NU{kw:List (Str × Value)}:(A.under (.builtin "type.__call__" ⟨.ref C::us,kw⟩)).depth=A.depth+1:=by
 first | rfl | simp[Around.under,Code.weight,Code.isCreation,Code.isGuard,Code.isCaller,Code.frames,Code.isFrame,guardIds]
theorem MX{kw:List (Str × Value)}:(A.under (.builtin "type.__call__" ⟨.ref C::us,kw⟩)).units=A.units+1:=by
 first | rfl | simp[Around.under,Code.cUnits,Code.frames,Code.isFrame]
theorem Room.make(r:Room (k+1) A)(C:Addr)(us:List Value)(kw:List (Str × Value)):Room k (A.under (.builtin "type.__call__" ⟨.ref C::us,kw⟩)) :=
 ⟨r.hd,by have:=r.dp;rw[NU];lia,by have:=r.un;rw[MX];lia,by first | exact r.gd | (simpa [Around.under,Code.guards,Code.isGuard,guardIds,pushGuards] using r.gd)⟩
theorem Room.depth(r:Room k A):A.depth < recursionLimit:=by have:=r.dp;lia
noncomputable def EU:TA:=fun _ H Q=>Q [] H
noncomputable def FN(ta:TE)(tr:TA):TA:=fun σ H Q=>ta σ H fun x H1=>tr σ H1 fun xs H2=>Q (x::xs) H2
section
variable {X:Cx}{e:Expr}{es:List Expr}{te:TE}{t:TA}{pos:Pos}
theorem AC:PA X [] EU:=fun _ _ _ _ H Q I h=>Calls.spliced_nil ⟨[],H,I,.nil,h⟩
theorem AA(ha:PE X e te)(hr:PA X es t)(hs:starEach (e::es) X.env=(false,eval e X.env)::starEach es X.env:=by rfl):PA X (e::es) (FN te t):=by
 intro pos Ya s σ H Q I h;rw[hs];show wpAny _ _ (spliced ((false,eval e X.env)::backTo pos (starEach es X.env))) _ _ s;refine Calls.spliced_cons (Yk (ha Ya s σ H _ I h) fun u s1 ⟨x,H1,I1,r1,q1⟩=>?_);exact Yk (hr pos Ya s1 σ H1 _ I1 q1) fun us s2 ⟨xs,H2,I2,r2,q2⟩=>⟨x::xs,H2,I2,.cons r1 r2,q2⟩
noncomputable def FH(t:TA):TE:=fun σ H Q=>t σ H fun xs H1=>xs.length<=sizeLine/\∀p,H1 p=none->Q (.ref p) (upd H1 p (.tup xs))
noncomputable def Gg(t:TA):TE:=fun σ H Q=>t σ H fun xs H1=>xs.length<=sizeLine/\∀p,H1 p=none->Q (.ref p) (upd H1 p (.lst xs))
theorem BJ{x1}(h:PA X es t):PE X (.Tuple es x1 pos) (FH t):=by
 intro Ya s σ H Q I hq;refine wpAny_Tuple_spliced (Yk (h pos Ya s σ H _ I hq) fun us s1 ⟨xs,H1,I1,r,z,q⟩=>⟨by rw[<- r.length];exact z,?_⟩);have hf:H1 s1.heap.objs.size=none:=I1.hok.fresh (ZD _);refine⟨.ref s1.heap.objs.size,upd H1 s1.heap.objs.size (.tup xs),I1.laid (t':=s1.toks) (fun b u e=>ZJ _ e) (ZD _) ?_,rfl,q _ hf⟩;exact⟨z,us,r,⟨_,ZT _ rfl,rfl,⟨_,rfl⟩,rfl⟩⟩
theorem Aq(h:PA X es t):PE X (.List es pos) (Gg t):=by
 intro Ya s σ H Q I hq;refine wpAny_List_spliced (Yk (h pos Ya s σ H _ I hq) fun us s1 ⟨xs,H1,I1,r,z,q⟩=>⟨by rw[<- r.length];exact z,?_⟩);have hf:H1 s1.heap.objs.size=none:=I1.hok.fresh (ZD _);refine⟨.ref s1.heap.objs.size,upd H1 s1.heap.objs.size (.lst xs),I1.laid (t':=s1.toks) (fun b u e=>ZJ _ e) (ZD _) ?_,rfl,q _ hf⟩;exact⟨z,us,0,r,ZT _ rfl⟩
end
noncomputable abbrev Sp:=List V->Hp->VK->XK->Prop
noncomputable abbrev CXT:=List Env->Hp->Shared->XK->Value->Shared->Prop
structure Env0(P:Program)(w:World)(K:W.Frag)(mg:Str->Option Value)(base:Heap)(A:Around)(outer:List Env)(s:Shared)(H:Hp):Prop where
 frames:A.frames=some outer
 mod:Mod K mg base
 bs:∀b o,base.get? b=some o->s.heap.get? b=some o/\H b=none
 bsz:base.objs.size<=s.heap.objs.size
 funs:s.heap.FunFrames base outer
 frf:∀b∈frs outer,H b=none
 hok:HOk P w H s.heap
 bare:AllBare s.gens
noncomputable def CE(outer:List Env)(P:Program)(w:World)(H:Hp)(s:Shared)(Q:VK)(u:Value)(s':Shared):Prop :=
 ∃v H',s'.os=s.os/\AllBare s'.gens/\Un (frs outer) [] H H' s.heap s'.heap/\HOk P w H' s'.heap/\Yh v u/\Q v H'
noncomputable def CR(CX:CXT)(outer:List Env)(P:Program)(w:World)(H:Hp)(s:Shared)(Q:VK)(E:XK)(r:Result)(s':Shared):Prop :=
 match r with
 | .ok (.ret u)=>CE outer P w H s Q u s'
 | .ok _=>False
 | .error e=>CX outer H s E e s'
structure FnOk(P:Program)(w:World)(K:W.Frag)(mg:Str->Option Value)(base:Heap)(CX:CXT)(k:Nat)(f:Addr)(fd:FuncData)(ps:List Str)(sp:Sp):Prop where
 len:∀vs H Q E,sp vs H Q E->vs.length=ps.length
 run:∀(A:Around) (outer:List Env) (s:Shared) (H:Hp) (args:Args) (us:List Value) (vs:List V) (Q:VK) (E:XK),Room k A->Env0 P w K mg base A outer s H->BindsTo s fd args (ps.zip us)->Yg vs us->sp vs H Q E ->
  codeAny (model P w) A (.call (.ref f) args) (CR CX outer P w H s Q E) s
theorem FnOk.mono{mg:Str->Option Value}{base:Heap}{CX:CXT}{j:Nat}{f:Addr}{fd:FuncData}{ps:List Str}{sp:Sp}(F:FnOk P w K mg base CX j f fd ps sp)(h:j<=k) :
 FnOk P w K mg base CX k f fd ps sp:=⟨F.len,fun A outer s H args us vs Q E hr=>F.run A outer s H args us vs Q E (hr.mono h)⟩
theorem Env0.make{mg:Str->Option Value}{base:Heap}{outer:List Env}(e:Env0 P w K mg base A outer s H)(C:Addr)(us:List Value)(kw:List (Str × Value)) :
 Env0 P w K mg base (A.under (.builtin "type.__call__" ⟨.ref C::us,kw⟩)) outer s H:=⟨by first | exact e.frames | (simpa [Around.under,Code.envs,Code.isFrame,pushEnvs] using e.frames),e.mod,e.bs,e.bsz,e.funs,e.frf,e.hok,e.bare⟩
section
variable {X:Cx}{Ya:List (Addr × Obj)}{σ:St}{H:Hp}{s s':Shared}
theorem Yc.env0(I:Yc X Ya σ H s):Env0 X.prog X.w X.K X.mg X.base X.A X.stack s H :=
 ⟨I.ok.frames,I.ok.mod,I.bs,ZU I.ok.bsz I.sz,I.stack,I.stkFree,I.hok,I.bare⟩
theorem Yc.after{Q:VK}(I:Yc X Ya σ H s)(h:CE X.stack X.prog X.w H s Q u s'):EP X Ya σ Q u s':=by
 obtain⟨v,H',os,bare,un,hok,r,q⟩:=h;obtain⟨hh,g,d,t,os'⟩:=s';obtain rfl:os'=s.os:=os;exact⟨v,H',I.call (h':=hh) (g':=g) (d':=d) (t':=t) (ch:=[]) un hok bare (fun b z=>absurd z (by simp)),r,q⟩
end
noncomputable def GH(sp:Sp)(dvs:List V)(E:XK)(t:TA):TE:=fun σ H Q=>t σ H fun vs H1=>sp (vs++dvs) H1 Q E
noncomputable def HN(C:Addr)(m:Str)(sp:Sp)(dvs:List V)(E:XK)(ta:TE)(t:TA):TE:=fun σ H Q=>ta σ H fun x H1=>∃a dx fs,x=.ref a/\H1 a=some (.ins C dx fs)/\fs.lookup m=none /\
 t σ H1 fun vs H2=>sp (x::(vs++dvs)) H2 Q E
noncomputable def Nk(C:Addr)(sp:Sp)(dvs:List V)(E:XK)(t:TA):TE:=fun σ H Q=>t σ H fun vs H1=>∀x dx,H1 x=none->H1 dx=none->dx≠x ->
 sp (.ref x::(vs++dvs)) (upd (upd H1 dx (.own x)) x (.ins C dx [])) (fun v H2=>v=.non/\Q (.ref x) H2) E
noncomputable def Binds(K:W.Frag)(fd:FuncData)(ps:List Str)(ds:List Value):Prop :=
 ∀(s:Shared) (us:List Value),K.In s.heap->(us++ds).length=ps.length->BindsTo s fd ⟨us,[]⟩ (ps.zip (us++ds))
theorem Binds.all{fd:FuncData}{ps:List Str}(h:∀us:List Value,us.length=ps.length->bindArgs fd ⟨us,[]⟩=pure (ps.zip us)):Binds K fd ps []:=fun s us _ hl=>by
 rw[Zc]at hl ⊢;exact .of_eq (h us hl)
noncomputable def Bh(CX:CXT)(X:Cx)(E:XK):Prop:=∀(Ya:List (Addr × Obj)) (σ:St) (H:Hp) (s:Shared) (e:Value) (s':Shared),Yc X Ya σ H s->CX X.stack H s E e s'->X.xe e s'
section
variable {X:Cx}{CX:CXT}{k:Nat}{f C:Addr}{fd:FuncData}{ps:List Str}{sp:Sp}{dvs:List V}{ds:List Value}{E:XK}{x m:Str}{p pos apos:Pos}{e o:Expr}{es:List Expr}{ta:TE}{t:TA}
theorem D8 {Q:VK} {vs:List V} (F:FnOk X.prog X.w X.K X.mg X.base CX k f fd ps sp) (hr:Room k X.A) (hb:Binds X.K fd ps ds) (hd:Yg dvs ds) (hx:Bh CX X E)
 (I:Yc X Ya σ H s) (r:Yg vs us) (h:sp (vs++dvs) H Q E):wpAny (model X.prog X.w) X.A (call (.ref f) us) (EP X Ya σ Q) X.xe s:=by
 have r2:Yg (vs++dvs) (us++ds):=r.append hd;have hl:(us++ds).length=ps.length:=by rw[<- r2.length];exact F.len _ _ _ _ h
 refine wpAny_call (Zu (F.run X.A X.stack s H ⟨us,[]⟩ (us++ds) (vs++dvs) Q E hr I.env0 (hb s us I.kIn hl) r2 h) fun r s' hq=>?_);cases r with
 | error e=>exact hx Ya σ H s e s' I hq
 | ok fl =>
  cases fl with
  | ret u=>exact I.after hq
  | next=>exact False.elim hq
  | brk=>exact False.elim hq
  | cont=>exact False.elim hq
theorem AW (F:FnOk X.prog X.w X.K X.mg X.base CX k f fd ps sp) (hr:Room k X.A) (hg:Gl X x) (hm:X.mg x=some (.ref f)) (hk:PySem.W.keepIn X.K (.ref f)=true) (hb:Binds X.K fd ps ds) (hd:Yg dvs ds) (hx:Bh CX X E)
 (ha:PA X (e::es) t) (hdb:(x == ("__debug__" : Str))=false:=by decide) (he:starEach (e::es) X.env=(false,eval e X.env)::starEach es X.env:=by rfl) (hpl:(backTo pos (starEach es X.env)).any (·.1)=false:=by rfl) :
 PE X (.Call (.Name x p) (e::es) [] pos) (GH sp dvs E t):=by
 intro Ya s σ H Q I h;refine wpAny_Call_Name_kw (B6 I hg hm ?_ hdb);refine PySem.W.callWith_K (h₀:=X.base) I.ok.mod.kin hk (Yk (ha pos Ya s σ H _ I h) fun us s1 ⟨vs,H1,I1,r,q⟩=>⟨I1.kIn,?_⟩) he hpl;exact D8 F hr hb hd hx I1 r q
theorem MJ {pl:Sem Bool} (he:PE X o ta) (c:Cls X.K C) (hm:Meth X.K C m f) (F:FnOk X.prog X.w X.K X.mg X.base CX k f fd ps sp) (hr:Room k X.A) (hb:Binds X.K fd ps ds) (hd:Yg dvs ds) (hx:Bh CX X E) (ha:PA X (e::es) t)
 (hst:starEach (e::es) X.env=(false,eval e X.env)::starEach es X.env:=by rfl) (hpl:(backTo pos (starEach es X.env)).any (·.1)=false:=by rfl)
 (ht:eval (.Call (.Attribute o m apos) (e::es) [] pos) X.env=(do
   let ov <- eval o X.env
   standAt apos.atName
   let (f,first) <- holding [ov] (getMethod ov m pl)
   callWith pos f first (backTo pos (starEach (e::es) X.env)) (backToKw pos (keywordEach [] X.env))):=by rfl) :
 PE X (.Call (.Attribute o m apos) (e::es) [] pos) (HN C m sp dvs E ta t):=by
 intro Ya s σ H Q I h;refine PySem.W.methodCall_KW (pl:=pl) (Yk (he Ya s σ H _ I h) fun u s1 ⟨x,H1,I1,rx,a,dx,fs,ex,ea,l,q⟩=>?_) ht;subst ex;obtain rfl:u=Value.ref a:=rx;refine EL I1 ea c hm l ?_;refine PySem.W.callWith_K (first:=[.ref a]) (h₀:=X.base) I.ok.mod.kin hm.kp (Yk (ha pos Ya s1 σ H1 _ I1 q) fun us s2 ⟨vs,H2,I2,r,q2⟩=>⟨I2.kIn,?_⟩) hst hpl;exact D8 (us:=.ref a::us) (vs:=.ref a::vs) F hr hb hd hx I2 (.cons rfl r) q2
theorem CZ {pl:Sem Bool} (he:PE X o ta) (c:Cls X.K C) (hm:Meth X.K C m f) (F:FnOk X.prog X.w X.K X.mg X.base CX k f fd ps sp) (hr:Room k X.A) (hb:Binds X.K fd ps ds) (hd:Yg dvs ds) (hx:Bh CX X E)
 (ht:eval (.Call (.Attribute o m apos) [] [] pos) X.env=(do
   let ov <- eval o X.env
   standAt apos.atName
   let (f,first) <- holding [ov] (getMethod ov m pl)
   callWith pos f first (backTo pos (starEach [] X.env)) (backToKw pos (keywordEach [] X.env))):=by rfl) :
 PE X (.Call (.Attribute o m apos) [] [] pos) (HN C m sp dvs E ta EU):=by
 intro Ya s σ H Q I h;refine PySem.W.methodCall_KW (pl:=pl) (Yk (he Ya s σ H _ I h) fun u s1 ⟨x,H1,I1,rx,a,dx,fs,ex,ea,l,q⟩=>?_) ht;subst ex;obtain rfl:u=Value.ref a:=rx;refine EL I1 ea c hm l ?_;exact PySem.W.callWith_K0 (first:=[.ref a]) I1.kIn hm.kp (D8 (us:=[.ref a]) (vs:=[.ref a]) F hr hb hd hx I1 (.cons rfl .nil) q)
structure Mk(K:W.Frag)(C f:Addr):Prop where
 makes:PySem.W.makesIn K C=true
 init:PySem.W.findIn K (.ref C) "__init__" = some (some (.ref f))
 fn:PySem.W.isFn K (.ref f)=true
 kp:PySem.W.keepIn K (.ref C)=true
theorem Mx {Q:VK} {vs:List V} (M:Mk X.K C f) (F:FnOk X.prog X.w X.K X.mg X.base CX k f fd ps sp) (hr:Room (k+1) X.A) (hb:Binds X.K fd ps ds) (hd:Yg dvs ds)
 (hx:Bh CX X E) (I:Yc X Ya σ H s) (r:Yg vs us)
 (h:∀x dx,H x=none->H dx=none->dx≠x->sp (.ref x::(vs++dvs)) (upd (upd H dx (.own x)) x (.ins C dx [])) (fun v H2=>v=.non/\Q (.ref x) H2) E) :
 wpAny (model X.prog X.w) X.A (call (.ref C) us) (EP X Ya σ Q) X.xe s:=by
 have hq:=h (s.heap.objs.size+1) s.heap.objs.size (I.hok.fresh (Nat.le_succ _)) (I.hok.fresh (ZD _)) (ZM (Nat.lt_succ_self _));have I2:=Yc.made (C:=C) I;have r2:Yg (V.ref (s.heap.objs.size+1)::(vs++dvs)) (Value.ref (s.heap.objs.size+1)::(us++ds)):=.cons rfl (r.append hd)
 have hl:(Value.ref (s.heap.objs.size+1)::us++ds).length=ps.length:=by
  have e:=r2.length;rw[F.len _ _ _ _ hq]at e;exact e.symm
 refine wpAny_call (NP (f:=f) I.kIn M.makes M.init (beq_iff_eq.mp M.fn) (Zu (F.run _ X.stack _ _ ⟨Value.ref (s.heap.objs.size+1)::us,[]⟩ (Value.ref (s.heap.objs.size+1)::(us++ds)) _ _ E (hr.make C us [])
  (I2.env0.make C us []) (hb _ (Value.ref (s.heap.objs.size+1)::us) I2.kIn hl) r2 hq) fun r s' hq'=>?_))
 cases r with
 | error e=>exact hx Ya σ _ _ e s' I2 hq'
 | ok fl =>
  cases fl with
  | ret u =>
   obtain⟨v,H',I3,rv,ev,q3⟩:=I2.after hq';subst ev;exact⟨rv,⟨V.ref (s.heap.objs.size+1),H',I3,rfl,q3⟩⟩
  | next=>exact False.elim hq'
  | brk=>exact False.elim hq'
  | cont=>exact False.elim hq'
theorem Nb (M:Mk X.K C f) (F:FnOk X.prog X.w X.K X.mg X.base CX k f fd ps sp) (hr:Room (k+1) X.A) (hg:Gl X x) (hm:X.mg x=some (.ref C)) (hb:Binds X.K fd ps ds) (hd:Yg dvs ds) (hx:Bh CX X E)
 (ha:PA X (e::es) t) (hdb:(x == ("__debug__" : Str))=false:=by decide) (he:starEach (e::es) X.env=(false,eval e X.env)::starEach es X.env:=by rfl) (hpl:(backTo pos (starEach es X.env)).any (·.1)=false:=by rfl) :
 PE X (.Call (.Name x p) (e::es) [] pos) (Nk C sp dvs E t):=by
 intro Ya s σ H Q I h;refine wpAny_Call_Name_kw (B6 I hg hm ?_ hdb);refine PySem.W.callWith_K (h₀:=X.base) I.ok.mod.kin M.kp (Yk (ha pos Ya s σ H _ I h) fun us s1 ⟨vs,H1,I1,r,q⟩=>⟨I1.kIn,?_⟩) he hpl;exact Mx M F hr hb hd hx I1 r q
end
structure FnScope(N P:List Str)(sc:Scope):Prop where
 kind:sc.kind=.function
 co:sc.isCoroutine=false
 gen:sc.isGenerator=false
 nd:N.Nodup
 pre:N.take P.length=P
 par:∀x∈P,sc.names.lookup x=some .local\/sc.names.lookup x=some .cell
 nofree:∀y∈sc.names,y.2≠.free
theorem GB{kindOf:Str->Option NameKind}:∀{binds:List (Str × Value)} {m:Str->Option Value},(∀v,(x,v)∉binds)->bindL kindOf binds m x=m x
 | [],_,_=>rfl
 | (n,v)::r,m,h=>by
  unfold bindL;rw[GB fun w hw=>h w (ZS _ hw)];split
  ·have:x≠n:=by rintro rfl;exact h v ZW
   simp[this]
  ·rfl
theorem GK{kindOf:Str->Option NameKind}:∀{binds:List (Str × Value)} {m:Str->Option Value},(∀v,(x,v)∉binds)->bindC kindOf binds m x=m x
 | [],_,_=>rfl
 | (n,v)::r,m,h=>by
  unfold bindC;rw[GK fun w hw=>h w (ZS _ hw)];split
  ·rfl
  ·have:x≠n:=by rintro rfl;exact h v ZW
   simp[this]
theorem GU{kindOf:Str->Option NameKind}{v:Value}:∀{P:List Str} {vs:List Value} {i:Nat} {m:Str->Option Value},P.Nodup->P[i]? = some x->vs[i]? = some v->kindOf x=some .local ->
 bindL kindOf (P.zip vs) m x=some v
 | [],_,_,_,_,h,_,_=>by simp at h
 | _::_,[],_,_,_,_,h,_=>by simp at h
 | p::P,w::vs,0,m,nd,h1,h2,hk=>by
  simp at h1 h2;subst h1;subst h2;show bindL kindOf ((p,w)::P.zip vs) m p=_;unfold bindL;rw[GB fun v hv=>(Z7.mp nd).1 (List.of_mem_zip hv).1,if_pos hk];simp
 | p::P,w::vs,i+1,m,nd,h1,h2,hk=>by
  show bindL kindOf ((p,w)::P.zip vs) m x=_;unfold bindL;exact GU (i:=i) (Z7.mp nd).2 (by simpa using h1) (by simpa using h2) hk
theorem GS{kindOf:Str->Option NameKind}{v:Value}:∀{P:List Str} {vs:List Value} {i:Nat} {m:Str->Option Value},P.Nodup->P[i]? = some x->vs[i]? = some v->kindOf x≠some .local ->
 bindC kindOf (P.zip vs) m x=some v
 | [],_,_,_,_,h,_,_=>by simp at h
 | _::_,[],_,_,_,_,h,_=>by simp at h
 | p::P,w::vs,0,m,nd,h1,h2,hk=>by
  simp at h1 h2;subst h1;subst h2;show bindC kindOf ((p,w)::P.zip vs) m p=_;unfold bindC;rw[GK fun v hv=>(Z7.mp nd).1 (List.of_mem_zip hv).1,if_neg hk];simp
 | p::P,w::vs,i+1,m,nd,h1,h2,hk=>by
  show bindC kindOf ((p,w)::P.zip vs) m x=_;unfold bindC;exact GS (i:=i) (Z7.mp nd).2 (by simpa using h1) (by simpa using h2) hk
noncomputable def BQ(N:List Str)(vs:List V):St:=vs.map some++List.replicate (N.length - vs.length) none
noncomputable def A9(CX:CXT)(P:Program)(w:World)(K:W.Frag)(mg:Str->Option Value)(base:Heap)(N:List Str)(qual:Str)(scope:Scope)(f:Addr)(cd:Value)(A:Around)(outer:List Env)(s:Shared)(H:Hp)(E:XK):Cx where
 prog:=P
 w:=w
 K:=K
 mg:=mg
 base:=base
 A:=A.deeper (envOfC qual scope s.heap.objs.size f cd)
 N:=N
 s₀:=s
 H₀:=H
 env:=envOfC qual scope s.heap.objs.size f cd
 outer:=outer
 stack:=envOfC qual scope s.heap.objs.size f cd::outer
 ex:=[]
 calm:=true
 fn:=fun _=>true
 pn:=[]
 xe:=fun e s'=>wpAny (model P w) (A.deeper (envOfC qual scope s.heap.objs.size f cd)) (leaving (envOfC qual scope s.heap.objs.size f cd) e) (fun _ s''=>CX outer H s E e s'') (fun e' s''=>CX outer H s E e' s'') s'
theorem Gq{sc:Scope}{n:Nat}(h:sc.names.lookup x=some .cell):∃c,(cellsFrom n sc.names []).lookup x=some c:=by
 have q:=PySem.W.cellsFrom_some sc.names n [] (.inl h);exact Option.isSome_iff_exists.mp q
theorem J1 {CX:CXT} {mg:Str->Option Value} {base:Heap} {N ps:List Str} {qual:Str} {scope:Scope} {f:Addr} {cd:Value} {outer:List Env} {s1:Shared} {E:XK} {vs:List V}
 (S:FnScope N ps scope) (hd:A.handled=none) (e0:Env0 P w K mg base A outer s H) (hl:vs.length=ps.length) (r:Yg vs us)
 (x:InCallC s s.heap.objs.size (bindL (envOfC qual scope s.heap.objs.size f cd).kindOf (ps.zip us) fun _=>none) (cellsFrom (s.heap.objs.size+1) scope.names []) (bindC (envOfC qual scope s.heap.objs.size f cd).kindOf (ps.zip us) fun _=>none) s1) :
 Yc (A9 CX P w K mg base N qual scope f cd A outer s H E) [] (BQ N vs) H s1:=by
 have hpl:ps.length<=N.length:=by have:=congrArg List.length S.pre;rw[Z8]at this;lia
 obtain⟨h1,tk,rfl,hk⟩:=x.done;have noA:∀b:Addr,b∉(A9 CX P w K mg base N qual scope f cd A outer s H E).ex:=fun b z=>absurd (show b∈([]:List Addr) from z) (by simp)
 refine⟨⟨e0.mod,S.kind,rfl,rfl,ZD _,fun y z c h1 h2=>?_,fun y hy=>?_,fun y c _ h=>?_,fun _=>hd,Around.frames_deeper e0.frames,.inr ⟨rfl,rfl⟩,fun b z=>absurd z (noA b),e0.bs,e0.bsz,fun b _ _=>noA b,fun b z=>absurd z (noA b),e0.funs,e0.frf⟩,
  rfl,e0.bare,Un.kept hk,⟨_,x.toInCall.ns,fun i y v h1 h2 h3=>?_⟩,fun y c h=>⟨_,x.cell y c h⟩,e0.hok.fresh (ZD _),fun y c h=>?_,fun p hp=>absurd (show p∈([]:List (Addr × Obj)) from hp) (by simp),e0.hok.kept hk,?_⟩
 ·exact name_of_addr x.apart (PySem.mem_of_lookup h1) (PySem.mem_of_lookup h2)
 ·have hy:scope.names.lookup y=some .cell\/scope.names.lookup y=some .free:=hy
  rcases hy with hy | hy
  ·exact Gq hy
  ·exact absurd rfl (S.nofree _ (PySem.mem_of_lookup hy))
 ·exact Zi (x.above y c (PySem.mem_of_lookup h))
 ·have hi:i < vs.length:=by
   unfold BQ at h2
   by_cases hi:i < vs.length
   ·exact hi
   ·rw[List.getElem?_append_right (by simpa using hi)]at h2;rw[List.getElem?_replicate]at h2;split at h2 <;> cases h2
  have ha:vs[i]? = some v:=by
   unfold BQ at h2;rw[List.getElem?_append_left (by simpa using hi),Zj]at h2;cases e:vs[i]? with
   | none=>rw[e]at h2;cases h2
   | some a=>rw[e]at h2;cases h2;rfl
  obtain⟨u,hu,rv⟩:=r.get ha
  have hp:ps[i]? = some y:=by
   rw[<- S.pre,List.getElem?_take_of_lt (by lia)];exact h1
  have ndP:ps.Nodup:=by rw[<- S.pre];exact S.nd.sublist (List.take_sublist _ _)
  refine⟨u,rv,?_⟩
  rcases S.par y (Z9 hp) with k | k
  ·exact .inl ⟨k,GU ndP hp hu k⟩
  ·obtain⟨c,e⟩:=Gq (n:=s.heap.objs.size+1) k;refine .inr ⟨.inl k,c,e,?_⟩;have q:=x.cell y c e;rw[GS ndP hp hu (by show scope.names.lookup y≠_;rw[k];decide)]at q;exact q
 ·exact e0.hok.fresh (Zi (x.above y c (PySem.mem_of_lookup h)))
 ·unfold BQ;show _=N.length;rw[ZQ,ZF,ZBA];lia
theorem HD {CX:CXT} {mg:Str->Option Value} {base:Heap} {f:Addr} {name qual:Str} {params:Arguments} {body:List Stmt} {scope:Scope} {dV kV doc pm Ys ct oc:Value} {an od:Option Addr}
 {osl:Array (Option Value)} {N ps:List Str} {sp:Sp} (lk:K.lookup f=some ⟨oc,od,.func (PySem.W.fnOf name qual params body scope dV kV doc pm an Ys ct),osl⟩) (hcd:PySem.W.codeIn K Ys qual=true) (S:FnScope N ps scope)
 (len:∀vs H Q E,sp vs H Q E->vs.length=ps.length)
 (hbody:∀(A:Around) (outer:List Env) (s:Shared) (H:Hp) (vs:List V) (Q:VK) (E:XK),Room k (A.deeper (envOfC qual scope s.heap.objs.size f Ys))->sp vs H Q E ->
   ∃t,PSs (A9 CX P w K mg base N qual scope f Ys A outer s H E) body t/\t { nx:=fun _ H'=>Q .non H',rt:=Q } (BQ N vs) H) :
 FnOk P w K mg base CX (k+1) f (PySem.W.fnOf name qual params body scope dV kV doc pm an Ys ct) ps sp:=by
 refine⟨len,fun A outer s H args us vs Q E hr e0 hb r hsp=>?_⟩;have hl:=len _ _ _ _ hsp;have KX:K.In s.heap:=e0.mod.kin.keeps fun b o e=>(e0.bs b o e).1
 have lim:s.heap.NoLimit:=e0.mod.nolimit.keeps fun b o e=>(e0.bs b o e).1
 have hkind:∀y∈ps.zip us,scope.names.lookup y.1=some .local\/(scope.names.lookup y.1=some .cell/\((cellsFrom (s.heap.objs.size+1) scope.names []).lookup y.1).isSome=true):=fun⟨n,v⟩ hy=>by
  rcases S.par n (List.of_mem_zip hy).1 with q | q
  ·exact .inl q
  ·exact .inr ⟨q,PySem.W.cellsFrom_some _ _ _ (.inl q)⟩
 refine codeAny_call_function hr.depth (KX _ _ lk) rfl S.co S.gen rfl (PySem.W.codeRec_of KX hcd) (hb _ _ _ _ ?_);refine wpAny_newFunctionEnv_cells S.kind hkind fun env he s1 x=>?_
 subst he;refine⟨lim.keeps x.toInCall.keep,codeAny_func ?_⟩;obtain⟨t,ht,hq⟩:=hbody A outer s H vs Q E (hr.deeper _) hsp;have I:Yc (A9 CX P w K mg base N qual scope f Ys A outer s H E) [] (BQ N vs) H s1:=J1 S hr.hd e0 hl r x;refine ZI (ht [] s1 (BQ N vs) H _ I hq) (fun fl s' hs=>?_) fun e s' hs=>hs
 have fin:∀{σ':St} {H':Hp} {v:V} {u:Value},Yc (A9 CX P w K mg base N qual scope f Ys A outer s H E) [] σ' H' s'->Yh v u->Q v H'->CE outer P w H s Q u s' :=
  fun {σ' H' v u} J rv q=>⟨v,H',J.os,J.bare,J.base,J.hok,rv,q⟩
 cases fl with
 | ret u =>
  obtain⟨v,σ',H',J,rv,q⟩:=hs;exact fin J rv q
 | next =>
  obtain⟨σ',H',J,q⟩:=hs;exact fin (v:=V.non) (u:=Value.none) J rfl q
 | brk =>
  obtain⟨_,_,_,q⟩:=hs;exact False.elim q
 | cont =>
  obtain⟨_,_,_,q⟩:=hs;exact False.elim q
section
variable {X:Cx}{x:Str}{p pos:Pos}{e:Expr}{es:List Expr}{t:TA}{id T:String}{r:List V->Hp->VK->Prop}
noncomputable def tCB(r:List V->Hp->VK->Prop)(t:TA):TE:=fun σ H Q=>t σ H fun vs H1=>r vs H1 Q
theorem Am (hc:CallR X (.builtin id) r) (hg:Gl X x) (hm:X.mg x=none) (hv:bootBuiltins x=some (.builtin id)) (ha:PA X (e::es) t) (hn:x ≠ "__name__":=by decide) (hdb:(x == ("__debug__" : Str))=false:=by decide)
 (he:starEach (e::es) X.env=(false,eval e X.env)::starEach es X.env:=by rfl) (hpl:(backTo pos (starEach es X.env)).any (·.1)=false:=by rfl):PE X (.Call (.Name x p) (e::es) [] pos) (tCB r t):=by
 intro Ya s σ H Q I h;refine wpAny_Call_Name_kw (CJ I hg hm hv ?_ hn hdb);exact PyProof.Rows.callWith_builtin1 (Yk (ha pos Ya s σ H _ I h) fun us s1 ⟨vs,H1,I1,r1,q1⟩=>hc Ya s1 σ H1 vs us Q I1 r1 q1) he hpl
theorem CN (hc:CallR X (.type T) r) (hg:Gl X x) (hm:X.mg x=none) (hv:bootBuiltins x=some (.type T)) (ha:PA X (e::es) t) (hn:x ≠ "__name__":=by decide) (hdb:(x == ("__debug__" : Str))=false:=by decide)
 (he:starEach (e::es) X.env=(false,eval e X.env)::starEach es X.env:=by rfl) (hpl:(backTo pos (starEach es X.env)).any (·.1)=false:=by rfl):PE X (.Call (.Name x p) (e::es) [] pos) (tCB r t):=by
 intro Ya s σ H Q I h;refine wpAny_Call_Name_kw (CJ I hg hm hv ?_ hn hdb);exact PyProof.Rows.callWith_type1 (Yk (ha pos Ya s σ H _ I h) fun us s1 ⟨vs,H1,I1,r1,q1⟩=>hc Ya s1 σ H1 vs us Q I1 r1 q1) he hpl
end
end L2
namespace HT
open PySem PyProof.Rows
section
open PySem.SeqAt
open PySem.AutoSeq1 (wpAny_loadPart')
open PySem.MeetsSeq PySem.MeetsSeq2 PySem.MeetsSeq3
end
section
variable {prog:Program}{w:World}{A:Around}{E:Value->Shared->Prop}{s:Shared}
theorem cat_tup {t b:Addr} {vs ws:List Value} {Q:Value->Shared->Prop} (ht:IsTup s.heap t vs.toArray) (hb:IsTup s.heap b ws.toArray) (hv:vs≠[])
 (h1:ws=[]->Q (.ref t) s) (h2:ws≠[]->Q (.ref s.heap.objs.size) { s with heap:=s.heap.push { cls:=.type "tuple",data:=.seq (vs++ws).toArray } })
 (hsz:vs.length+ws.length<=sizeLine):wpAny (model prog w) A (binaryOp .Add (.ref t) (.ref b)) Q E s:=by
 obtain⟨⟨cls,dd,data,sl⟩,ho,hc,n,hd⟩:=id ht;obtain⟨⟨cls2,dd2,data2,sl2⟩,ho2,hc2,n2,hd2⟩:=id hb;simp only at hc hd hc2 hd2;subst hc hd hc2 hd2;have e:vs.toArray++ws.toArray=(vs++ws).toArray:=by simp
 by_cases hw:ws=[]
 ·exact concat_meets ⟨_,ho,rfl⟩ ⟨_,ho2,rfl⟩ noFill_tuple_add seq_tuple_add PySem.F.slot_tuple_add PySem.F.entry_tuple_add (PySem.F.args_tuple_add_2 _ _)
   (tuple_addW1 t b vs.toArray ws.toArray n n2 dd dd2 sl sl2 (by simpa using hv) (by simp[hw])) ⟨ho,ho2,h1 hw⟩
 ·refine concat_meets ⟨_,ho,rfl⟩ ⟨_,ho2,rfl⟩ noFill_tuple_add seq_tuple_add PySem.F.slot_tuple_add PySem.F.entry_tuple_add (PySem.F.args_tuple_add_2 _ _)
   (tuple_addW2 t b vs.toArray ws.toArray n n2 dd dd2 sl sl2 (by simpa using hv) (by simpa using hw) (by rw[ZE,ZE];exact hsz)) ⟨ho,ho2,?_⟩
  rw[e];exact h2 hw
noncomputable def sIx(n d:Nat):Option Int->Nat
 | none=>d
 | some v=>if v < 0 then (v+(n:Int)).toNat else min v.toNat n
theorem sIx_none(n d:Nat):sIx n d none=d:=rfl
theorem sIx_nat(n d k:Nat):sIx n d (some (k:Int))=min k n:=by
 show(if (k:Int) < 0 then ((k:Int)+(n:Int)).toNat else min (k:Int).toNat n)=min k n
 rw[if_neg (by lia),Int.toNat_natCast]
theorem IK(n d:Nat)(hd:d<=n)(o:Option Int):sIx n d o<=n:=by
 cases o with
 | none=>exact hd
 | some v =>
  show(if v < 0 then (v+(n:Int)).toNat else min v.toNat n)<=n
  by_cases hv:v < 0
  ·rw[if_pos hv];lia
  ·rw[if_neg hv];exact Nat.min_le_right _ _
theorem E6(v:Int)(n d:Nat):(if v < 0 then max (v+(n:Int)) 0 else min v (n:Int))=((sIx n d (some v):Nat):Int):=by
 show(if v < 0 then max (v+(n:Int)) 0 else min v (n:Int))=(((if v < 0 then (v+(n:Int)).toNat else min v.toNat n):Nat):Int)
 by_cases hv:v < 0
 ·simp only[if_pos hv];lia
 ·simp only[if_neg hv];lia
theorem KW(lo hi:Option Int)(n:Nat):Builtin.Slice.sliceAdjust lo hi 1 (n:Int)=(((sIx n 0 lo:Nat):Int),((sIx n n hi:Nat):Int)):=by
 have h1:¬((1:Int) < 0):=by lia
 unfold Builtin.Slice.sliceAdjust;simp only[h1,if_false];refine Prod.ext ?_ ?_
 ·cases lo with
  | none=>rfl
  | some v=>exact E6 v n 0
 ·cases hi with
  | none=>rfl
  | some v=>exact E6 v n n
theorem J3(i j:Nat):Builtin.Slice.slicePlaces (i:Int) (j:Int) 1=j - i:=by
 unfold Builtin.Slice.slicePlaces;have h1:(1:Int) > 0:=by lia
 simp only[h1,if_true,Int.ediv_one];split <;> lia
theorem Fy{v:Value}{o:Option Int}{Q:Option Int->Shared->Prop}(p:IsPart v o)(h:Q o s):wpAny (model prog w) A (Builtin.Slice.slicePartIndex v) Q E s:=by
 cases p with
 | none=>exact slicePart_none h
 | int i t=>exact slicePart_int h
theorem Gn {sl:Addr} {vl vu:Value} {lo hi:Option Int} {n:Nat} {Q:Int × Int × Nat->Shared->Prop} (hs:s.heap.IsSliceOf sl vl vu .none) (pl:IsPart vl lo) (pu:IsPart vu hi)
 (h:Q (((sIx n 0 lo:Nat):Int),1,sIx n n hi - sIx n 0 lo) s):wpAny (model prog w) A (Builtin.Slice.sliceApplied (.ref sl) (pure (n:Int))) Q E s:=by
 obtain⟨os,hos,hcs,hds⟩:=id hs;unfold Builtin.Slice.sliceApplied Builtin.Slice.sliceFields;refine ZA (ZA (Zk hos hds (x:=vl) rfl (ZA (Zk hos hds (x:=vu) rfl (ZA (Zk hos hds (x:=.none) rfl (ZB ?_)))))));refine ZA (slicePart_none ?_);show wpAny _ _ (if ((1:Int) == 0)=true then _ else _) _ _ s;rw[if_neg (by decide)];refine ZA (Fy pl (ZA (Fy pu (ZA (ZB ?_)))));show wpAny _ _ (match Builtin.Slice.sliceAdjust lo hi 1 (n:Int) with | (lo,hi)=>pure (lo,(1:Int),Builtin.Slice.slicePlaces lo hi 1)) _ _ s;rw[KW lo hi n];show wpAny _ _ (pure (((sIx n 0 lo:Nat):Int),(1:Int),Builtin.Slice.slicePlaces ((sIx n 0 lo:Nat):Int) ((sIx n n hi:Nat):Int) 1)) _ _ s;rw[J3];exact ZB h
theorem KF(xs:Array Value)(i k:Nat):((List.range k).filterMap fun(m:Nat)=>xs[((i:Int)+(m:Int) * 1).toNat]?).toArray=((xs.toList.drop i).take k).toArray:=by
 have e:(fun(m:Nat)=>xs[((i:Int)+(m:Int) * 1).toNat]?)=fun m=>xs[i+m]?:=by
  funext m
  have:((i:Int)+(m:Int) * 1).toNat=i+m:=by lia
  rw[this]
 rw[e]
 have:=pick_run xs i k
 rw[List.filterMap_map]at this;have e2:((fun x=>xs[x]?) ∘ fun x=>i+x)=fun m=>xs[i+m]?:=rfl
 rw[e2]at this;rw[this]
theorem getItem_tuple_cut {t sl:Addr} {items:Array Value} {vl vu:Value} {lo hi:Option Int} {Q:Value->Shared->Prop} (ht:IsTup s.heap t items) (hs:s.heap.IsSliceOf sl vl vu .none) (pl:IsPart vl lo) (pu:IsPart vu hi)
 (hw:¬(sIx items.size 0 lo=0/\sIx items.size items.size hi=items.size))
 (h:Q (.ref s.heap.objs.size) { s with heap:=s.heap.push { cls:=.type "tuple",data:=.seq ((items.toList.drop (sIx items.size 0 lo)).take (sIx items.size items.size hi - sIx items.size 0 lo)).toArray } })
 (hsz:items.size<=sizeLine):wpAny (model prog w) A (getItem (.ref t) (.ref sl)) Q E s:=by
 have htake:sizeOk (.seq ((items.toList.drop (sIx items.size 0 lo)).take (sIx items.size items.size hi - sIx items.size 0 lo)).toArray):=by
  show((items.toList.drop (sIx items.size 0 lo)).take (sIx items.size items.size hi - sIx items.size 0 lo)).toArray.size<=sizeLine
  rw[ZE,Z8,ZBB,Array.length_toList];lia
 have hj:sIx items.size items.size hi<=items.size:=IK _ _ (ZD _) hi;obtain⟨os,hos,hcs,hds⟩:=id hs;have hTs:s.TypeIs (.ref sl) "slice":=⟨os,hos,hcs⟩;unfold getItem
 try with_reducible refine Zb ?_
 first | refine ZA (ZB ?_) | skip
 refine ZA (wpAny_sequenceKey ht.typeIs (by decide) ?_)
 refine ZA (wpAny_callSpecial?_slot (name:=Str.ofString "__getitem__") ht.typeIs PyProof.Rows.slot_tuple_getitem
  (wpAny_call_entry PyProof.Rows.slot_tuple_getitem ht.typeIs entry_tuple_getitem ?_ (args_tuple_getitem _ _)))
 show wpAny _ _ (Builtin.Tuple.tupleItemsOf (.ref t) >>= _) _ _ s;refine ZA (tupleItemsOf_ ht ?_);refine ZA (wpAny_typeOf hTs ?_);rw[if_pos (by decide)];refine ZA (Gn hs pl pu ?_)
 have hno:¬((((sIx items.size 0 lo:Nat):Int) == 0 && (1:Int) == 1 && (sIx items.size items.size hi - sIx items.size 0 lo) == items.size)=true):=by
  intro q;rw[ZZ,ZZ]at q;have q1:((sIx items.size 0 lo:Nat):Int)=0:=eq_of_beq q.1.1;have q2:sIx items.size items.size hi - sIx items.size 0 lo=items.size:=eq_of_beq q.2;exact hw ⟨by lia,by lia⟩
 show wpAny _ _ (if (((sIx items.size 0 lo:Nat):Int) == 0 && (1:Int) == 1 && (sIx items.size items.size hi - sIx items.size 0 lo) == items.size)=true then _ else _) _ _ s;rw[if_neg hno,KF]
 first
  | exact ZA (m:=Builtin.Tuple.tupleExact _) (Zv (ZB ⟨_,rfl,ZB h⟩) htake)
  | exact ZA (m:=Builtin.Tuple.tupleExact _) (Zv (ZA (ZB (ZB ⟨_,rfl,ZB h⟩))) htake)
  | exact ZA (ZA (m:=Builtin.Tuple.tupleExact _) (Zv (ZB (ZB ⟨_,rfl,ZB h⟩)) htake))
  | exact ZA (ZA (m:=Builtin.Tuple.tupleExact _) (Zv (ZB ⟨_,rfl,ZB h⟩) htake))
end
end HT
namespace L2
open PySem PySem.Spec PyProof.Rows
variable {xs:List V}{s:Shared}{x:V}
noncomputable abbrev TO:=St->Hp->(Option Int->Hp->Prop)->Prop
noncomputable def PO(X:Cx)(e:Option Expr)(t:TO):Prop :=
 ∀(Ya:List (Addr × Obj)) (s:Shared) (σ:St) (H:Hp) (Q:Option Int->Hp->Prop),Yc X Ya σ H s->t σ H Q ->
  wpAny (model X.prog X.w) X.A (evalPart e X.env) (fun u s'=>∃o H',Yc X Ya σ H' s'/\IsPart u o/\Q o H') X.xe s
noncomputable def HJ:TO:=fun _ H Q=>Q none H
noncomputable def GO(t:TE):TO:=fun σ H Q=>t σ H fun x H1=>∃i,x=.int i/\Q (some i) H1
section
variable {X:Cx}{e:Expr}{te:TE}{lo hi:Option Expr}{tl th:TO}{pos p2:Pos}
theorem BA:PO X none HJ:=by
 intro Ya s σ H Q I h;rw[evalPart_none];exact ZB ⟨none,H,I,.none,h⟩
theorem BB(h:PE X e te):PO X (some e) (GO te):=by
 intro Ya s σ H Q I hw;rw[evalPart_some];refine Yk (h Ya s σ H _ I hw) fun u s1 ⟨x,H1,I1,r1,q1⟩=>?_
 obtain⟨i,rfl,q⟩:=q1;obtain⟨t,rfl⟩:=r1;exact⟨some i,H1,I1,.int i t,q⟩
noncomputable def SlR(X:Cx)(r:V->Option Int->Option Int->Hp->VK->Prop):Prop :=
 ∀(Ya:List (Addr × Obj)) (s:Shared) (σ:St) (H:Hp) (x:V) (v vl vu:Value) (lo hi:Option Int) (sl:Addr) (Q:VK),Yc X Ya σ H s->Yh x v->s.heap.IsSliceOf sl vl vu .none->IsPart vl lo->IsPart vu hi->r x lo hi H Q ->
  ∃T id,typeLookup (.type T) "__getitem__" = pure (some (.builtin id))/\s.TypeIs v T/\wpAny (model X.prog X.w) X.A (getItem v (.ref sl)) (EP X Ya σ Q) X.xe s
noncomputable def tSl(r:V->Option Int->Option Int->Hp->VK->Prop)(te:TE)(tl th:TO):TE:=fun σ H Q=>te σ H fun x H1=>tl σ H1 fun l H2=>th σ H2 fun u H3=>r x l u H3 Q
theorem DD{r:V->Option Int->Option Int->Hp->VK->Prop}(hr:SlR X r)(he:PE X e te)(hl:PO X lo tl)(hu:PO X hi th):PE X (.Subscript e (.Slice lo hi none p2) pos) (tSl r te tl th):=by
 intro Ya s σ H Q I h;refine Subscript_ (Yk (he Ya s σ H _ I h) fun v s1 ⟨x,H1,I1,r1,q1⟩=>?_);refine wpAny_Slice (Yk (hl Ya s1 σ H1 _ I1 q1) fun vl s2 ⟨l,H2,I2,pl,q2⟩=>Yk (hu Ya s2 σ H2 _ I2 q2) fun vu s3 ⟨u,H3,I3,pu,q3⟩=>?_);rw[evalPart_none];refine ZB ?_;have I4:Yc X Ya σ H3 { s3 with heap:=s3.heap.push { cls:=.type "slice",data:=.fields #[vl,vu,.none] } }:=I3.kept (t':=s3.toks) fun b ob q=>ZJ _ q
 obtain⟨T,id,hT,ht,hg⟩:=hr Ya { s3 with heap:=s3.heap.push { cls:=.type "slice",data:=.fields #[vl,vu,.none] } } σ H3 x v vl vu l u s3.heap.objs.size Q I4 r1 (Heap.IsSliceOf.new ..) pl pu q3;show wpAny (model X.prog X.w) X.A (subscriptTail e (.Slice lo hi none p2) v (.ref s3.heap.objs.size)) (EP X Ya σ Q) X.xe { s3 with heap:=s3.heap.push { cls:=.type "slice",data:=.fields #[vl,vu,.none] } };exact tail_any (ops:=[.ref s3.heap.objs.size,v]) ht hT hg (by with_unfolding_all rfl)
noncomputable def Ac(xs:List V)(lo hi:Option Int):List V:=(xs.drop (HT.sIx xs.length 0 lo)).take (HT.sIx xs.length xs.length hi - HT.sIx xs.length 0 lo)
theorem E8(xs:List V)(lo hi:Option Int):(Ac xs lo hi).length<=xs.length:=by
 unfold Ac;rw[Z8,ZBB];lia
noncomputable def NV(K:W.Frag):V->Option Int->Option Int->Hp->VK->Prop:=fun x lo hi H Q=>∃a xs,x=.ref a/\Yq K H a xs /\
 ¬(HT.sIx xs.length 0 lo=0/\HT.sIx xs.length xs.length hi=xs.length)/\∀p,H p=none->Q (.ref p) (upd H p (.tup (Ac xs lo hi)))
theorem HI:SlR X (NV X.K):=by
 intro Ya s σ H x v vl vu lo hi sl Q I rx hs pl pu h;obtain⟨a,xs,rfl,hx,hw,q⟩:=h;cases rx;obtain⟨Yd,r,ht,hz⟩:=I.tuple hx;have Yl:Yd.toArray.size=xs.length:=by rw[ZE];exact r.length.symm
 refine⟨"tuple",_,PyProof.Rows.slot_tuple_getitem.lookup,ht.typeIs,?_⟩;refine HT.getItem_tuple_cut ht hs pl pu (by rw[Yl];exact hw) ?_ (by rw[Yl];exact hz);rw[Yl];refine⟨.ref s.heap.objs.size,_,I.laid (t':=s.toks) (o:=.tup (Ac xs lo hi)) (fun b ob q=>ZJ _ q) (ZD _) ?_,rfl,q _ (I.hok.fresh (ZD _))⟩;exact⟨ZU (E8 xs lo hi) hz,_,(r.drop (HT.sIx xs.length 0 lo)).take (HT.sIx xs.length xs.length hi - HT.sIx xs.length 0 lo),IsTupN.new _ _⟩
noncomputable def Fd(K:W.Frag):R2:=fun x y H Q=>∃a b xs ys,x=.ref a/\y=.ref b/\Yq K H a xs/\Yq K H b ys/\xs≠[]/\xs.length+ys.length<=sizeLine /\
 (ys=[]->Q (.ref a) H)/\(ys≠[]->∀p,H p=none->Q (.ref p) (upd H p (.tup (xs++ys))))
theorem Yg.nil_iff{us:List Value}(r:Yg xs us):us=[] ↔ xs=[]:=by
 cases r with
 | nil=>simp
 | cons _ _=>simp
theorem Fa:Yp X (binaryOp .Add) (Fd X.K):=by
 intro Ya s σ H x y v u Q I rx ry h;obtain⟨a,b,xs,ys,rfl,rfl,ha,hb,hx,hz,q1,q2⟩:=h;cases rx;cases ry;obtain⟨Yd,r1,p1,_⟩:=I.tuple ha;obtain⟨its2,r2,p2,_⟩:=I.tuple hb;refine HT.cat_tup p1 p2 (fun z=>hx (r1.nil_iff.mp z)) (fun z=>⟨.ref a,H,I,rfl,q1 (r2.nil_iff.mp z)⟩) (fun z=>?_) (by rw[<- r1.length,<- r2.length];exact hz);refine⟨.ref s.heap.objs.size,_,I.laid (t':=s.toks) (o:=.tup (xs++ys)) (fun b ob q=>ZJ _ q) (ZD _) ?_,rfl,q2 (fun w=>z (r2.nil_iff.mpr w)) _ (I.hok.fresh (ZD _))⟩;exact⟨by rw[ZQ];exact hz,_,r1.append r2,IsTupN.new _ _⟩
end
noncomputable def ixN(n:Nat)(i:Int):Option Nat:=if 0<=i then (if i < n then some i.toNat else none) else if -(n:Int)<=i then some (i+n).toNat else none
noncomputable def atI{α:Type}(xs:List α)(i:Int):Option α:=(ixN xs.length i).bind fun j=>xs[j]?
theorem G0{n:Nat}{i:Int}{j:Nat}(h:ixN n i=some j):seqIndex? i n=some j/\j < n /\ -(n:Int)<=i/\i < n:=by
 unfold ixN at h
 by_cases h0:0<=i
 ·rw[if_pos h0]at h
  by_cases h1:i < n
  ·rw[if_pos h1]at h;have e:i.toNat=j:=ZR h;exact⟨by rw[seqIndex_of h0 h1,e],by lia,by lia,h1⟩
  ·rw[if_neg h1]at h;cases h
 ·rw[if_neg h0]at h
  by_cases h1 : -(n:Int)<=i
  ·rw[if_pos h1]at h;have e:(i+n).toNat=j:=ZR h;exact⟨by rw[seqIndex_neg (by lia) h1,e],by lia,h1,by lia⟩
  ·rw[if_neg h1]at h;cases h
theorem EX{α:Type}{xs:List α}{i:Int}{v:α}(h:atI xs i=some v):∃j,seqIndex? i xs.length=some j/\xs[j]? = some v/\j < xs.length /\ -(xs.length:Int)<=i/\i < xs.length:=by
 unfold atI at h;cases e:ixN xs.length i with
 | none=>rw[e]at h;cases h
 | some j =>
  rw[e]at h;obtain⟨h1,h2,h3,h4⟩:=G0 e;exact⟨j,h1,h,h2,h3,h4⟩
noncomputable def Eo(b:Expr):Prop:=∀o i,subscripted b false o i=operate [o,i] (getItem o i)
noncomputable def IxR(X:Cx)(r:R2):Prop :=
 ∀(value slice:Expr) (Ya:List (Addr × Obj)) (s:Shared) (σ:St) (H:Hp) (x y:V) (v u:Value) (Q:VK),Yc X Ya σ H s->Yh x v->Yh y u->r x y H Q ->
  subscripted slice false v u=operate [v,u] (getItem v u)->wpAny (model X.prog X.w) X.A (subscriptTail value slice v u) (EP X Ya σ Q) X.xe s
noncomputable def MtR(X:Cx)(id:String)(r:V->List V->Hp->VK->Prop):Prop :=
 ∀(Ya:List (Addr × Obj)) (s:Shared) (σ:St) (H:Hp) (x:V) (xs:List V) (v:Value) (us:List Value) (Q:VK),Yc X Ya σ H s->Yh x v->Yg xs us->r x xs H Q ->
  wpAny (model X.prog X.w) X.A (call (.builtin id) (v::us)) (EP X Ya σ Q) X.xe s
section
variable {X:Cx}{a b:Expr}{ta tb:TE}{pos:Pos}
theorem IxR.or{r r':R2}(h:IxR X r)(h':IxR X r'):IxR X (fun x y H Q=>r x y H Q\/r' x y H Q):=by
 intro value slice Ya s σ H x y v u Q I rx ry q hs
 rcases q with q | q
 ·exact h value slice Ya s σ H x y v u Q I rx ry q hs
 ·exact h' value slice Ya s σ H x y v u Q I rx ry q hs
theorem Iu{r:R2}(hr:IxR X r)(ha:PE X a ta)(hb:PE X b tb)(hs:Eo b):PE X (.Subscript a b pos) (tOp r ta tb):=by
 intro Ya s σ H Q I h;exact Subscript_ (D1 ha hb I h fun v u s2 x y H2 I2 rx ry q=>hr a b Ya s2 σ H2 x y v u Q I2 rx ry q (hs _ _))
noncomputable def FL(K:W.Frag):R2:=fun x y H Q=>∃p xs i v,x=.ref p/\y=.int i/\Yr K H p xs/\atI xs i=some v/\Q v H
noncomputable def Hi(K:W.Frag):R2:=fun x y H Q=>∃p xs i v,x=.ref p/\y=.int i/\Yq K H p xs/\atI xs i=some v/\Q v H
noncomputable def HC:R2:=fun x y H Q=>∃z i c,x=.str z/\y=.int i/\z.length<=sizeLine/\atI z.cps.toList i=some c/\Q (.str ⟨#[c]⟩) H
theorem ix_list:IxR X (FL X.K):=by
 intro value slice Ya s σ H x y v u Q I rx ry h hs;obtain⟨p,xs,i,z,rfl,rfl,hq,he,q⟩:=h;cases rx;obtain⟨t,rfl⟩:=ry;obtain⟨Yd,r,pl,hz⟩:=I.list hq;obtain⟨j,h1,h2,h3,h4,h5⟩:=EX he;obtain⟨w,ew,rw'⟩:=r.get h2;have hl:=r.length;have hn:=B0;have fin:EP X Ya σ Q w s:=⟨z,H,I,rw',q⟩
 by_cases h0:0<=i
 ·have hj:i.toNat=j:=by
   rw[seqIndex_of h0 h5]at h1;exact ZR h1
  exact item_listR pl.isList h0 (by lia) (by rw[hj];simpa using ew) fin hs
 ·have hj:(i+(Yd.toArray.size:Int)).toNat=j:=by
   rw[seqIndex_neg (by lia) h4]at h1;rw[ZE,<- hl];exact ZR h1
  exact subscriptTail_builtinR (x:=w) pl.isList.typeIs slot_list_getitem.lookup
   (wpAny_getItem_list_neg (Q:=fun r s'=>r=w/\EP X Ya σ Q r s') pl.isList (by lia) (by rw[ZE] <;> lia) (by lia) (by rw[hj];simpa using ew) ⟨rfl,fin⟩) hs
theorem ix_tup:IxR X (Hi X.K):=by
 intro value slice Ya s σ H x y v u Q I rx ry h hs;obtain⟨p,xs,i,z,rfl,rfl,hq,he,q⟩:=h;cases rx;obtain⟨t,rfl⟩:=ry;obtain⟨Yd,r,pl,hz⟩:=I.tuple hq;obtain⟨j,h1,h2,h3,h4,h5⟩:=EX he;obtain⟨w,ew,rw'⟩:=r.get h2;have hl:=r.length;have hn:=B0;have fin:EP X Ya σ Q w s:=⟨z,H,I,rw',q⟩
 exact subscriptTail_builtinR (x:=w) pl.typeIs slot_tuple_getitem.lookup
  (getItem_tuple (j:=j) (Q:=fun r s'=>r=w/\EP X Ya σ Q r s') pl (by lia) (by lia) (by rw[ZE,<- hl];exact h1) (by simpa using ew) ⟨rfl,fin⟩) hs
theorem Mw:IxR X HC:=by
 intro value slice Ya s σ H x y v u Q I rx ry h hs;obtain⟨z,i,c,rfl,rfl,hz,he,q⟩:=h;obtain⟨t,rfl⟩:=rx;obtain⟨t',rfl⟩:=ry;obtain⟨j,h1,h2,h3,h4,h5⟩:=EX he;have hl:z.cps.toList.length=z.length:=by simp[Str.length]
 rw[hl]at h1 h4 h5;have hn:=B0
 exact tail_any (typeIs_str s z t) slot_str_getitem.lookup (getItem_str (c:=c) (by
  have e1:decide (i < -(2 ^ 63:Int))=false:=Zn (by lia);have e2:decide (i ≥ 2 ^ 63)=false:=Zn (by lia);rw[e1,e2,Bool.or_false]) (by rw[h1];simpa using h2) ⟨.str ⟨#[c]⟩,H,I.tok _,⟨_,rfl⟩,q⟩) hs
noncomputable def rIx(K:W.Frag):R2:=fun x y H Q=>FL K x y H Q\/Hi K x y H Q\/HC x y H Q
theorem ix_seq:IxR X (rIx X.K):=ix_list.or (ix_tup.or Mw)
theorem NW(Yd:List Value)(n j:Nat)(u:Value):Obj.mapSeq (·.setIfInBounds j u) { cls:=.type "list",data:=.seq Yd.toArray n } = { cls:=.type "list",data:=.seq (Yd.set j u).toArray n }:=by
 simp[Obj.mapSeq]
theorem Yc.lst{Ya:List (Addr × Obj)}{σ:St}{H:Hp}{p:Addr}(I:Yc X Ya σ H s)(h:H p=some (.lst xs)) :
 ∃(Yd:List Value) (n:Nat),Yg xs Yd/\s.heap.get? p=some { cls:=.type "list",data:=.seq Yd.toArray n } /\ xs.length<=sizeLine:=by
 obtain⟨z,Yd,n,r,e⟩:=I.hok p _ h;exact⟨Yd,n,r,e,z⟩
theorem Yc.lstUpd {Ya:List (Addr × Obj)} {σ:St} {H:Hp} {p:Addr} {ys:List V} {Yd its':List Value} {n n':Nat} {f:Obj->Obj} (I:Yc X Ya σ H s) (h:H p=some (.lst xs))
 (ho:s.heap.get? p=some { cls:=.type "list",data:=.seq Yd.toArray n }) (hf:f { cls:=.type "list",data:=.seq Yd.toArray n } = { cls:=.type "list",data:=.seq its'.toArray n' }) (r:Yg ys its') (hz:ys.length<=sizeLine) (t:Nat) :
 Yc X Ya σ (upd H p (.lst ys)) { s with heap:=s.heap.update p f,toks:=t }:=by
 have e:(s.heap.update p f).get? p=some { cls:=.type "list",data:=.seq its'.toArray n' }:=by
  rw[Zw f ho (by rw[hf] <;> rfl),hf]
 refine I.write (x:=p) (e:=p) (by rw[h];trivial) (.inl rfl) (fun b u hb q=>(Zd _ _ (Ne.symm hb)).trans q) ⟨_,e⟩ ?_;exact⟨hz,its',n',r,e⟩
noncomputable def Ke:V->V->V->Hp->(Hp->Prop)->Prop:=fun o i v H Q=>∃p xs k j,o=.ref p/\i=.int k/\H p=some (.lst xs)/\ixN xs.length k=some j/\Q (upd H p (.lst (xs.set j v)))
theorem LR:E3 X Ke:=by
 intro Ya s σ H o i v ov iv u Q I ro ri rv h;obtain⟨p,xs,k,j,rfl,rfl,hp,hj,q⟩:=h;cases ro;obtain⟨t,rfl⟩:=ri;obtain⟨Yd,n,r,ho,hz⟩:=I.lst hp;obtain⟨h1,h2,h3,h4⟩:=G0 hj;have hl:=r.length;have hn:=B0
 have I':Yc X Ya σ (upd H p (.lst (xs.set j v))) { s with heap:=s.heap.update p (Obj.mapSeq (·.setIfInBounds j u)) } :=
  I.lstUpd hp ho (NW Yd n j u) (r.set rv j) (by rw[List.length_set];exact hz) s.toks
 by_cases h0:0<=k
 ·have hk:k.toNat=j:=by
   rw[seqIndex_of h0 h4]at h1;exact ZR h1
  exact PySem.W.ki_setAt ho h0 (by lia) (by rw[ZE,<- hl];exact h4) (by rw[hk];exact⟨_,I',q⟩)
 ·have hk:(k+(Yd.toArray.size:Int)).toNat=j:=by
   rw[seqIndex_neg (by lia) h3]at h1;rw[ZE,<- hl];exact ZR h1
  exact PySem.W.ki_setBack ho (by lia) (by rw[ZE,<- hl];exact h3) (by lia) (by rw[hk];exact⟨_,I',q⟩)
theorem KC(lo hi:Option Int)(n:Nat):(sliceBounds lo hi none n).1=((HT.sIx n 0 lo:Nat):Int)/\(sliceBounds lo hi none n).2.1=((HT.sIx n n hi:Nat):Int)/\(sliceBounds lo hi none n).2.2=1:=by
 refine⟨?_,?_,rfl⟩
 ·cases lo with
  | none=>simp[sliceBounds,HT.sIx]
  | some i =>
   simp only[sliceBounds,HT.sIx,Option.getD_none,show(1:Int) > 0 by decide,if_true]
   by_cases h:i < 0
   ·simp only[h,if_true] <;> lia
   ·simp only[h,if_false] <;> lia
 ·cases hi with
  | none=>simp[sliceBounds,HT.sIx]
  | some i =>
   simp only[sliceBounds,HT.sIx,Option.getD_none,show(1:Int) > 0 by decide,if_true]
   by_cases h:i < 0
   ·simp only[h,if_true] <;> lia
   ·simp only[h,if_false] <;> lia
theorem L4(Yd:List Value)(lo hi:Option Int):slicePick Yd.toArray lo hi none=((Yd.drop (HT.sIx Yd.length 0 lo)).take (HT.sIx Yd.length Yd.length hi - HT.sIx Yd.length 0 lo)).toArray:=by
 obtain⟨h1,h2,h3⟩:=KC lo hi Yd.toArray.size;unfold slicePick;rw[h1,h2,h3];simp only[sliceRange_one,pick_run,ZE] <;> rfl
noncomputable def IW(K:W.Frag):V->Option Int->Option Int->Hp->VK->Prop:=fun x lo hi H Q=>∃a xs,x=.ref a/\Yr K H a xs/\∀p,H p=none->Q (.ref p) (upd H p (.lst (Ac xs lo hi)))
theorem LV:SlR X (IW X.K):=by
 intro Ya s σ H x v vl vu lo hi sl Q I rx hs pl pu h;obtain⟨a,xs,rfl,hx,q⟩:=h;cases rx;obtain⟨Yd,r,ht,hz⟩:=I.list hx;have Yl:=r.length;refine⟨"list",_,slot_list_getitem.lookup,ht.isList.typeIs,?_⟩;refine wpAny_getItem_list_slice ht.isList hs pl pu .none (by simp) ?_ (by rw[ZE] <;> lia);rw[L4,<- Yl];refine⟨.ref s.heap.objs.size,_,I.laid (t':=s.toks) (o:=.lst (Ac xs lo hi)) (fun b ob q=>ZJ _ q) (ZD _) ?_,rfl,q _ (I.hok.fresh (ZD _))⟩;exact⟨ZU (E8 xs lo hi) hz,_,0,(r.drop (HT.sIx xs.length 0 lo)).take (HT.sIx xs.length xs.length hi - HT.sIx xs.length 0 lo),ZT _ rfl⟩
noncomputable def A0:V->Bool
 | .non=>true
 | .bl _=>true
 | .int _=>true
 | .str _=>true
 | _=>false
noncomputable def eqV:V->V->Bool
 | .non,.non=>true
 | .bl a,.bl b=>a == b
 | .bl a,.int b=>(if a then 1 else 0) == b
 | .int a,.bl b=>a == (if b then 1 else 0)
 | .int a,.int b=>a == b
 | .str a,.str b=>a == b
 | _,_=>false
theorem Nj{A:Around}{y:V}{u v:Value}(ry:Yh y u)(rx:Yh x v)(fy:A0 y=true)(fx:A0 x=true):SeqAt.EqAt A s u v (eqV y x):=by
 cases y with
 | non =>
  cases ry;cases x with
  | non=>cases rx;exact SeqAt.EqAt.same _
  | bl b=>cases rx;exact SeqAt.EqAt.none_bool b
  | int b=>obtain⟨t,rfl⟩:=rx;exact SeqAt.EqAt.none_int b t
  | str b=>obtain⟨t,rfl⟩:=rx;exact SeqAt.EqAt.none_str b t
  | _=>exact absurd (show false=true from fx) ZX
 | bl a =>
  cases ry;cases x with
  | non=>cases rx;exact SeqAt.EqAt.bool_none a
  | bl b=>cases rx;exact SeqAt.EqAt.bool_bool a b
  | int b=>obtain⟨t,rfl⟩:=rx;exact SeqAt.EqAt.bool_int a b t
  | str b=>obtain⟨t,rfl⟩:=rx;exact SeqAt.EqAt.bool_str a b t
  | _=>exact absurd (show false=true from fx) ZX
 | int a =>
  obtain⟨t',rfl⟩:=ry;cases x with
  | non=>cases rx;exact SeqAt.EqAt.int_none a t'
  | bl b=>cases rx;exact SeqAt.EqAt.int_bool a t' b
  | int b=>obtain⟨t,rfl⟩:=rx;exact SeqAt.EqAt.int_int a t' b t
  | str b=>obtain⟨t,rfl⟩:=rx;exact SeqAt.EqAt.int_str a t' b t
  | _=>exact absurd (show false=true from fx) ZX
 | str a =>
  obtain⟨t',rfl⟩:=ry;cases x with
  | non=>cases rx;exact SeqAt.EqAt.str_none a t'
  | bl b=>cases rx;exact SeqAt.EqAt.str_bool a t' b
  | int b=>obtain⟨t,rfl⟩:=rx;exact SeqAt.EqAt.str_int a t' b t
  | str b=>obtain⟨t,rfl⟩:=rx;exact SeqAt.EqAt.str_str a t' b t
  | _=>exact absurd (show false=true from fx) ZX
 | _=>exact absurd (show false=true from fy) ZX
noncomputable def eqU(x:V)(u:Value):Bool:=match u with
 | .none=>eqV .non x
 | .bool b=>eqV (.bl b) x
 | .int i _=>eqV (.int i) x
 | .str z _=>eqV (.str z) x
 | _=>false
theorem Ej{y:V}{u:Value}(r:Yh y u)(f:A0 y=true):eqU x u=eqV y x:=by
 cases y with
 | non=>cases r;rfl
 | bl b=>cases r;rfl
 | int i=>obtain⟨t,rfl⟩:=r;rfl
 | str z=>obtain⟨t,rfl⟩:=r;rfl
 | _=>exact absurd (show false=true from f) ZX
theorem Ez:∀{xs:List V} {us:List Value},Yg xs us->xs.all A0=true->us.any (eqU x)=xs.any fun y=>eqV y x
 | _,_,.nil,_=>rfl
 | y::xs,u::us,.cons r t,f=>by
  rw[List.all_cons,ZZ]at f;rw[List.any_cons,List.any_cons,Ej r f.1,Ez t f.2]
theorem Cu{A:Around}{v:Value}(rx:Yh x v)(fx:A0 x=true):∀{xs:List V} {us:List Value},Yg xs us->xs.all A0=true->∀u∈us,SeqAt.EqAt A s u v (eqU x u)
 | _,_,.nil,_=>fun u hu=>by cases hu
 | y::xs,u::us,.cons r t,f=>fun u' hu=>by
  rw[List.all_cons,ZZ]at f
  rcases ZG.mp hu with rfl | hu
  ·rw[Ej r f.1];exact Nj r rx f.1 fx
  ·exact Cu rx fx t f.2 u' hu
noncomputable def inV(x:V)(xs:List V):Bool:=xs.any fun y=>eqV y x
noncomputable def rIn(K:W.Frag)(neg:Bool):R2:=fun x y H Q=>∃p xs,y=.ref p/\(Yr K H p xs\/Yq K H p xs)/\A0 x=true/\xs.all A0=true/\Q (.bl (if neg then !inV x xs else inV x xs)) H
theorem Il:Yp X (compareOp .NotIn) (rIn X.K true):=by
 intro Ya s σ H x y v u Q I rx ry h;obtain⟨p,xs,rfl,hq,fx,fs,q⟩:=h;cases ry
 rcases hq with hq | hq
 ·obtain⟨Yd,r,pl,hz⟩:=I.list hq;refine SeqAt.notIn_listAt (eqU x) pl.isList (fun w hw=>Cu rx fx r fs w (by simpa using hw)) ⟨.bl _,H,I,rfl,?_⟩;rw[show Yd.toArray.any (eqU x)=Yd.any (eqU x) by simp,Ez r fs];exact q
 ·obtain⟨Yd,r,pl,hz⟩:=I.tuple hq;refine SeqAt.notIn_tupleAt (eqU x) pl (fun w hw=>Cu rx fx r fs w (by simpa using hw)) ⟨.bl _,H,I,rfl,?_⟩;rw[show Yd.toArray.any (eqU x)=Yd.any (eqU x) by simp,Ez r fs];exact q
theorem call_tuple_of:CallR X (.type "tuple") (fun xs H Q=>∃p ys,xs=[.ref p]/\((Yr X.K H p ys/\∀l,H l=none->Q (.ref l) (upd H l (.tup ys)))\/(Yq X.K H p ys/\Q (.ref p) H))):=by
 intro Ya s σ H xs us Q I r h;obtain⟨p,ys,rfl,h⟩:=h;obtain⟨u,rfl,rx⟩:=B5 r;cases rx
 rcases h with ⟨hq,q⟩ | ⟨hq,q⟩
 ·obtain⟨Yd,r',pl,hz⟩:=I.list hq;have Yl:=r'.length;refine call_tuple_list pl.isList (fun h' kp=>?_) (by simp only[ZE] <;> lia);have I1:Yc X Ya σ H { s with heap:=h' }:=I.kept (t':=s.toks) kp
  have I2:Yc X Ya σ (upd H h'.objs.size (.tup ys)) { s with heap:=h'.push { cls:=.type "tuple",data:=.seq Yd.toArray } } :=
   I1.laid (t':=s.toks) (fun b o e=>ZJ _ e) (ZD _) (show ObjOk X.prog X.w _ _ _ (.tup ys) from⟨hz,Yd,r',IsTupN.new _ _⟩)
  exact⟨.ref h'.objs.size,_,I2,rfl,q _ (I1.hok.fresh (ZD _))⟩
 ·obtain⟨Yd,r',pl,hz⟩:=I.tuple hq;exact call_tuple_same pl ⟨.ref p,H,I,rfl,q⟩
noncomputable def tyV(K:W.Frag)(T:String)(x:V)(H:Hp):Prop:=match x with
 | .str _=>T = "str"
 | .int _=>T = "int"
 | .ref p=>(T = "list" /\ ∃xs,Yr K H p xs)\/(T = "tuple" /\ ∃o,K.lookup p=some o/\o.cls=.type "tuple" /\ o.dict=none) \/
  (T = "dict" /\ ((∃Yj,H p=some (.dK Yj))\/∃Yj,H p=some (.dT Yj)))\/(T = "set" /\ ∃S n,H p=some (.set S n))
 | _=>False
theorem Fe{Ya:List (Addr × Obj)}{σ:St}{H:Hp}{T:String}{v:Value}(I:Yc X Ya σ H s)(r:Yh x v)(ty:tyV X.K T x H) :
 s.TypeIs v T/\∀a,v=.ref a->∃ob,s.heap.get? a=some ob/\ob.dict=none:=by
 cases x with
 | str z =>
  obtain⟨t,rfl⟩:=r;cases (show T = "str" from ty);exact⟨typeIs_str s z t,fun _ e=>nomatch e⟩
 | int i =>
  obtain⟨t,rfl⟩:=r;cases (show T = "int" from ty);exact⟨typeIs_int s i t,fun _ e=>nomatch e⟩
 | ref p =>
  cases r
  rcases ty with ⟨rfl,xs,hq⟩ | ⟨rfl,o,hk,hc,hd⟩ | ⟨rfl,hk⟩ | ⟨rfl,S,n,hk⟩
  ·obtain⟨Yd,_,pl,_⟩:=I.list hq;refine⟨pl.isList.typeIs,fun a e=>?_⟩;cases e;obtain⟨o,n,e,c,hd,_⟩:=pl;exact⟨o,e,hd⟩
  ·refine⟨⟨o,I.kIn p o hk,hc⟩,fun a e=>?_⟩;cases e;exact⟨o,I.kIn _ o hk,hd⟩
  ·have z:∃o,s.heap.get? p=some o/\o.ExactDict:=by
    rcases hk with ⟨Yj,hk⟩ | ⟨Yj,hk⟩
    ·obtain⟨_,_,_,_,o,_,_,e,ex,_⟩:=I.hok p _ hk;exact⟨o,e,ex⟩
    ·obtain⟨_,_,_,_,o,_,_,e,ex,_⟩:=I.hok p _ hk;exact⟨o,e,ex⟩
   obtain⟨o,e,ex⟩:=z;refine⟨⟨o,e,ex.1⟩,fun a e2=>?_⟩;cases e2;exact⟨o,e,ex.2.1⟩
  ·obtain⟨o,_,_,_,e,ex,_⟩:=I.hok p _ hk;refine⟨⟨o,e,ex.1⟩,fun a e2=>?_⟩;cases e2;exact⟨o,e,ex.2.1⟩
 | _=>exact False.elim ty
noncomputable def EV(K:W.Frag)(T:String)(r:V->List V->Hp->VK->Prop)(to:TE):TE:=fun σ H Q=>to σ H fun x H1=>tyV K T x H1/\r x [] H1 Q
noncomputable def tBM(K:W.Frag)(T:String)(r:V->List V->Hp->VK->Prop)(to:TE)(t:TA):TE:=fun σ H Q=>to σ H fun x H1=>tyV K T x H1/\t σ H1 fun xs H2=>r x xs H2 Q
variable {o e:Expr}{es:List Expr}{to:TE}{t:TA}{name:Str}{apos cpos:Pos}{T id:String}{r:V->List V->Hp->VK->Prop}
theorem GF (pa:PlainAttrs T) (slot:Slot T name id) (hty:typeOf (.builtin id)=pure (.type "method_descriptor")) (hm:MtR X id r) (ho:PE X o to)
 (hbase:attributeBase o name X.env (eval o X.env)=eval o X.env:=by rfl) (hline:(apos.endLine == cpos.line)=true:=by rfl):PE X (.Call (.Attribute o name apos) [] [] cpos) (EV X.K T r to):=by
 intro Ya s σ H Q I h;refine wpAny_Call_method0_late hbase hline (Yk (ho Ya s σ H _ I h) fun v s1 ⟨x,H1,I1,r1,ty,q1⟩=>?_);obtain⟨h1,h2⟩:=Fe I1 r1 ty;exact⟨T,id,pa,slot,hty,h1,h2,Calls.callWith_builtin rfl (PySem.evalArgs_none (hm Ya s1 σ H1 x [] v [] Q I1 r1 .nil q1))⟩
theorem C0 (pa:PlainAttrs T) (slot:Slot T name id) (hty:typeOf (.builtin id)=pure (.type "method_descriptor")) (hm:MtR X id r) (ho:PE X o to) (ha:PA X (e::es) t)
 (hbase:attributeBase o name X.env (eval o X.env)=eval o X.env:=by rfl)
 (hfew:((backTo cpos (starEach (e::es) X.env)).all (fun x=>!x.1) && (backToKw cpos (keywordEach [] X.env)).all (fun x=>x.1.isSome)
   && decide ((e::es).length+([]:List Keyword).length+(if ([]:List Keyword).isEmpty then 0 else 1) < 30))=true:=by rfl)
 (hline:(apos.endLine == cpos.line)=true:=by rfl) (hs:starEach (e::es) X.env=(false,eval e X.env)::starEach es X.env:=by rfl) (hplain:(backTo cpos (starEach es X.env)).any (·.1)=false:=by rfl) :
 PE X (.Call (.Attribute o name apos) (e::es) [] cpos) (tBM X.K T r to t):=by
 intro Ya s σ H Q I h;refine wpAny_Call_method_late hbase hfew hline rfl (Yk (ho Ya s σ H _ I h) fun v s1 ⟨x,H1,I1,r1,ty,q1⟩=>?_);obtain⟨h1,h2⟩:=Fe I1 r1 ty;refine⟨T,id,pa,slot,hty,h1,h2,?_⟩;have hA:=ha cpos Ya s1 σ H1 _ I1 q1;rw[hs]at hA ⊢;refine Calls.callWith_builtin (by show(false || (backTo cpos (starEach es X.env)).any (·.1))=false;rw[hplain] <;> rfl) (Calls.evalArgs_plain ?_);exact Yk hA fun us s2 ⟨vs,H2,I2,r2,q2⟩=>hm Ya s2 σ H2 x vs v us Q I2 r1 r2 q2
end
noncomputable def MtM(X:Cx)(id:String)(r:V->List V->Hp->VK->Prop):Prop :=
 ∀(Ya:List (Addr × Obj)) (s:Shared) (σ:St) (H:Hp) (x:V) (xs:List V) (v:Value) (us:List Value) (Q:VK),Yc X Ya σ H s->Yh x v->Yg xs us->r x xs H Q ->
  wpAny (model X.prog X.w) X.A (call (.builtin id) (v::us)) (EP X Ya σ Q) X.xe s
theorem Yg.one:∀{x:V} {us:List Value},Yg [x] us->∃u,us=[u]/\Yh x u
 | _,_,.cons r .nil=>⟨_,rfl,r⟩
theorem Yg.zero:∀{us:List Value},Yg [] us->us=[]
 | _,.nil=>rfl
theorem Yg.dropLast{us:List Value}(h:Yg xs us):Yg xs.dropLast us.dropLast:=by
 induction h with
 | nil=>exact .nil
 | cons r t ih =>
  cases t with
  | nil=>exact .nil
  | cons q t'=>exact .cons r ih
theorem Yg.rep{us:List Value}(h:Yg xs us):∀k:Nat,Yg (List.replicate k xs).flatten (List.replicate k us).flatten
 | 0=>.nil
 | k+1=>by
  rw[Zx,Zx,List.flatten_cons,List.flatten_cons];exact Yg.append h (Yg.rep h k)
theorem MD{α:Type}(l:List α):l.eraseIdx (l.length - 1)=l.dropLast:=by
 induction l with
 | nil=>rfl
 | cons a r ih =>
  cases r with
  | nil=>rfl
  | cons b r =>
   have e:(a::b::r).length - 1=((b::r).length - 1)+1:=by
    have h1:(a::b::r).length=r.length+2:=rfl;have h2:(b::r).length=r.length+1:=rfl;lia
   rw[e,List.eraseIdx_cons_succ,ih]
   all_goals rfl
theorem Ga(Yd:List Value):∀(k:Nat) (Yn:List Value),
 List.foldl (fun x1 x2=>x1++x2) Yn.toArray (List.replicate k Yd.toArray)=(Yn++(List.replicate k Yd).flatten).toArray
 | 0,Yn=>by simp
 | k+1,Yn=>by
  have e:Yn.toArray++Yd.toArray=(Yn++Yd).toArray:=by simp
  have e2:(Yn++Yd)++(List.replicate k Yd).flatten=Yn++(List.replicate (k+1) Yd).flatten:=by
   rw[Zx,List.flatten_cons,Zy]
  rw[<- e2,<- Ga Yd k (Yn++Yd),<- e,Zx,List.foldl_cons]
section
variable {X:Cx}{Ya:List (Addr × Obj)}{σ:St}{H:Hp}{s:Shared}{l b:Addr}{xs ys zs:List V}
theorem Yc.lset {Yd its':List Value} {n:Nat} {f:Array Value->Array Value} {t':Nat} (I:Yc X Ya σ H s) (hH:H l=some (.lst xs))
 (e:s.heap.get? l=some { cls:=.type "list",data:=.seq Yd.toArray n }) (hf:f Yd.toArray=its'.toArray) (hv:Yg ys its') (hz:ys.length<=sizeLine) :
 Yc X Ya σ (upd H l (.lst ys)) { s with heap:=s.heap.update l (Obj.mapSeq f),toks:=t' }:=by
 have q:=PySem.IsL.update e f;rw[hf]at q;refine I.write (x:=l) (e:=l) (by rw[hH];exact trivial) (.inl rfl) (fun b' u hb hu=>(Zd s.heap (Obj.mapSeq f) (Ne.symm hb)).trans hu) ⟨_,q⟩ ?_;exact⟨hz,its',_,hv,q⟩
theorem Yc.lnew{Yd:List Value}{t':Nat}(I:Yc X Ya σ H s)(hv:Yg ys Yd)(hz:ys.length<=sizeLine) :
 Yc X Ya σ (upd H s.heap.objs.size (.lst ys)) { s with heap:=s.heap.push { cls:=.type "list",data:=.seq Yd.toArray },toks:=t' } :=
 I.laid (fun _ _ q=>ZJ _ q) (ZD _) ⟨hz,Yd,0,hv,ZT _ rfl⟩
theorem Yc.fresh(I:Yc X Ya σ H s):H s.heap.objs.size=none:=I.hok.fresh (ZD _)
theorem Yc.lstM(I:Yc X Ya σ H s)(hH:H l=some (.lst xs)):xs.length<=sizeLine/\∃(Yd:List Value) (n:Nat),Yg xs Yd/\xs.length=Yd.length/\s.heap.get? l=some { cls:=.type "list",data:=.seq Yd.toArray n }:=by
 obtain⟨z,Yd,n,r,e⟩:=I.hok l _ hH;exact⟨z,Yd,n,r,r.length,e⟩
theorem Lw{n:Nat}(h:n<=sizeLine):Builtin.List.listTooLong n=false:=by
 unfold Builtin.List.listTooLong;exact Zn (by lia)
end
section
variable {X:Cx}
noncomputable def LY:V->List V->Hp->VK->Prop:=fun x vs H Q=>∃l xs y,x=.ref l/\vs=[y]/\H l=some (.lst xs)/\xs.length < sizeLine/\Q .non (upd H l (.lst (xs++[y])))
theorem K8:MtM X "list.append" LY:=by
 intro Ya s σ H x vs v us Q I rx rv h;obtain⟨l,xs,y,rfl,rfl,hH,hz,q⟩:=h;cases rx;obtain⟨u,rfl,ru⟩:=rv.one;obtain⟨z,Yd,n,r,hl,e⟩:=I.lstM hH;refine call_meets F.slot_list_append ⟨_,e,rfl⟩ F.entry_list_append (F.args_list_append_2 _ _) (PySem.list_append l Yd.toArray n u (by rw[ZE];lia)) ⟨e,?_⟩;refine⟨.non,_,I.lset (its':=Yd++[u]) hH e (by simp) (r.append (.cons ru .nil)) ?_,rfl,q⟩;rw[ZQ,ZBC];lia
noncomputable def KS:V->List V->Hp->VK->Prop:=fun x vs H Q=>∃l xs y,x=.ref l/\vs=[]/\H l=some (.lst xs)/\xs[xs.length - 1]? = some y/\Q y (upd H l (.lst xs.dropLast))
theorem NH:MtM X "list.pop" KS:=by
 intro Ya s σ H x vs v us Q I rx rv h;obtain⟨l,xs,y,rfl,rfl,hH,hy,q⟩:=h;cases rx;have hus:=rv.zero;subst hus;obtain⟨z,Yd,n,r,hl,e⟩:=I.lstM hH;obtain⟨u,hu,ru⟩:=r.get hy
 have hy':Yd.toArray[Yd.toArray.size - 1]? = some u:=by
  show Yd.toArray[Yd.length - 1]? = some u;rw[<- Array.getElem?_toList,<- hl];exact hu
 refine call_meets F.slot_list_pop ⟨_,e,rfl⟩ F.entry_list_pop (F.args_list_pop_1 _) (MeetsSeq.list_pop_last l Yd.toArray n u hy' (by rw[ZE];lia)) ⟨e,?_⟩;refine⟨y,_,I.lset (its':=Yd.dropLast) hH e ?_ r.dropLast ?_,ru,q⟩
 ·show Yd.toArray.eraseIdxIfInBounds (Yd.toArray.size - 1)=Yd.dropLast.toArray;rw[ZE,List.eraseIdxIfInBounds_toArray,MD]
 ·rw[List.length_dropLast];lia
noncomputable def DB:R2:=fun x y H Q=>∃l b xs zs,x=.ref l/\y=.ref b/\H l=some (.lst xs)/\H b=some (.lst zs)/\xs.length+zs.length<=sizeLine/\∀p,H p=none->Q (.ref p) (upd H p (.lst (xs++zs)))
theorem HK:Yp X (binaryOp .Add) DB:=by
 intro Ya s σ H x y v u Q I rx ry h;obtain⟨l,b,xs,zs,rfl,rfl,hH,hB,hz,q⟩:=h;cases rx;cases ry;obtain⟨z,Yd,n,r,hl,e⟩:=I.lstM hH;obtain⟨z2,its2,n2,r2,hl2,e2⟩:=I.lstM hB;refine PySem.P.add_list e e2 ?_ (by rw[ZE,ZE];lia);have ea:Yd.toArray++its2.toArray=(Yd++its2).toArray:=by simp
 rw[ea];exact⟨.ref _,_,I.lnew (t':=s.toks) (r.append r2) (by rw[ZQ];lia),rfl,q _ I.fresh⟩
noncomputable def Hl:R2:=fun x y H Q=>∃l k xs,x=.ref l/\y=.int k/\H l=some (.lst xs) /\ -(2 ^ 63)<=k/\k < 2 ^ 63/\xs.length * k.toNat<=sizeLine /\
 ∀p,H p=none->Q (.ref p) (upd H p (.lst (List.replicate k.toNat xs).flatten))
theorem Nc{α:Type}(xs:List α)(k:Nat):(List.replicate k xs).flatten.length=k * xs.length:=by
 induction k with
 | zero=>simp
 | succ k ih=>rw[Zx,List.flatten_cons,ZQ,ih,Nat.succ_mul,Nat.add_comm]
theorem IB:Yp X (binaryOp .Mult) Hl:=by
 intro Ya s σ H x y v u Q I rx ry h;obtain⟨l,k,xs,rfl,rfl,hH,h1,h2,hz,q⟩:=h;cases rx;obtain⟨t,rfl⟩:=ry;obtain⟨z,Yd,n,r,hl,e⟩:=I.lstM hH;have Yl:Yd.toArray.size * k.toNat<=sizeLine:=by rw[ZE,<- hl];exact hz
 have hcap:¬Yd.toArray.size * k.toNat > (2 ^ 63 - 1) / 8:=by
  have:(sizeLine:Nat)<=(2 ^ 63 - 1) / 8:=by decide
  lia
 have hfit:¬(!Builtin.List.listFitsIndex k)=true:=by
  rw[fitsIndex_both h1 h2];exact ZX
 have hlong:¬Builtin.List.listTooLong (Yd.toArray.size * k.toNat)=true:=by
  rw[Lw Yl];exact ZX
 have hnew:List.foldl (fun x1 x2=>x1++x2) #[] (List.replicate (if Yd.toArray.isEmpty=true then 0 else k.toNat) Yd.toArray)=(List.replicate k.toNat Yd).flatten.toArray:=by
  have f0:∀m:Nat,List.foldl (fun x1 x2=>x1++x2) #[] (List.replicate m Yd.toArray)=(List.replicate m Yd).flatten.toArray:=fun m=>by
   have:=Ga Yd m []
   rw[List.nil_append]at this;exact this
  rw[f0];cases Yd with
  | nil=>simp
  | cons a r'=>rw[if_neg (by simp)]
 refine wpAny_binaryOp_repeat_ref (T:="list") (U:="int") (by decide) ⟨_,e,rfl⟩ (fun s'=>typeIs_int s' k t) noFill_list_mul F.fills_int_mul F.slot_int_rmul repeat_list F.slot_int_index.lookup
  (call_meets F.slot_int_rmul (typeIs_int s k t) F.entry_int_rmul (F.args_int_rmul_2 _ _) (int___rmul___int_list k t l Yd.toArray n)
    ⟨e,rfl,⟨_,e,rfl⟩,call_meets F.slot_list_mul ⟨_,e,rfl⟩ F.entry_list_mul (F.args_list_mul_2 _ _) (AutoListH.list___mul___list_int_3 l Yd.toArray n k t hfit hcap hlong) ⟨e,?_⟩⟩)
 rw[hnew];exact⟨.ref _,_,I.lnew (t':=s.toks) (r.rep k.toNat) (by rw[Nc,Nat.mul_comm];exact hz),rfl,q _ I.fresh⟩
end
end L2
namespace Att
open PySem PySem.W PySem.Calls PyProof.Rows
theorem LF{P:Params}{h:Heap}:∀(ns:List Int) (vs:List Value),WellAll P h vs (ns.map WData.int)->IntsAre vs ns:=by
 intro ns
 induction ns with
 | nil =>
  intro vs w;rw[List.map_nil]at w;cases w;exact .nil
 | cons n ns ih =>
  intro vs w;rw[ZY]at w;cases w with
  | cons a b =>
   cases a;exact .cons _ _ (ih _ b)
theorem K4 {l:OpenLaw} {n:Nat} (hn:l.most=some n) {P:Params} {h:Heap} {args:List WData} {vals:List Value}
 (hpre:l.row.toRowW.claim.pre args=true) (hwl:WellAll P h vals args) :
 ∃a vs ns,vals=[Value.ref a]/\args=[WData.list (ns.map WData.int)]/\h.get? a=some { cls:=.type "list",data:=.seq vs.toArray } /\ IntsAre vs ns/\ns.length<=n:=by
 have hsh:WShape.hasAll [] args [.list .int]=true:=(pre_splitW hpre).1;have hc:l.pre.holds [] { args:=args } = true:=(pre_splitW hpre).2;obtain⟨d,r,rfl,h1,h2⟩:=hasAllW_cons hsh;obtain rfl:=hasAllW_nil h2;obtain⟨xs,rfl,h3⟩:=hasW_list h1;obtain⟨ns,rfl⟩:=items_int h3
 have Yl:ns.length<=n:=by
  unfold OpenLaw.pre at hc
  have h4:(WTm.not (.lt (.lit (.int (n:Int))) (.len (.arg 0)))).holds [] { args:=[.list (ns.map .int)] } = true:=by
   have h4:=(holds_andW hc).1;rw[hn]at h4;exact h4
  have h5:=condW_of h4 (w_not (w_lt w_lit (w_len_list (w_arg rfl))));rw[ZF]at h5;refine Nat.le_of_not_lt fun q=>?_
  have q':(n:Int) < ((ns.length:Nat):Int):=by lia
  first
   | (rw[Zh q']at h5;exact absurd h5 (by decide))
   | (simp at h5;lia)
 cases hwl with
 | cons w1 w2 =>
  cases w2;cases w1 with
  | list ho hall=>exact⟨_,_,ns,rfl,rfl,ho,LF ns _ hall,Yl⟩
theorem JJ(l:OpenLaw)(args:List WData):l.row.toRowW.claim.post args (.bool true) args=true :=
 postW_of (r:=l.row.toRowW) (X:=(true == true))
  (show WShape.has [] (.bool true) .bool=true by first | rfl | decide | simp[WShape.has,WShape.arms,WShape.armsAll])
  (show(WTm.eq .res (.lit (.bool true))).value [] { args:=args,res:=some (.bool true),after:=args } = some (.bool (true == true)) from w_eq_bool (w_res rfl) w_lit) rfl
theorem attach_call {l:OpenLaw} {n:Nat} {q:Program} {loose:List Str} {XP:(Str->Option Value)->Heap->Prop} {YP:World->Heap->Prop} {d:DefRec}
 (hn:l.most=some n) (hdf:d.params.defaults=[])
 (call:∀(w:World) (s₀ s₁:Shared) (mg mb:Str->Option Value) (fa:Addr) (o:Obj) (pm cd doc:Value) (a:Addr) (vs:List Value) (ns:List Int),
   Ground q loose [] XP w s₀ mg mb s₁.heap->YP w s₁.heap ->
   s₁.heap.get? fa=some o->o.data=.func (docDef d.name d.params d.body d.scope pm cd doc)->s₁.heap.CodeRec cd d.name->mg d.name=some (.ref fa) ->
   s₁.heap.get? a=some { cls:=.type "list",data:=.seq vs.toArray } -> IntsAre vs ns->ns.length<=n->s₁.gens = #[] ->
   codeAny (model l.prog w) callerA (.call (.ref fa) ⟨[.ref a],[]⟩) (fun r s'=>r=.ok (.ret (.bool true))/\OldK s₁.heap s'.heap/\s'.os=s₁.os/\AllBare s'.gens) s₁) :
 WalkO q loose XP YP l.row.toRowW d [] (fun f vs=>PySem.call f vs):=by
 intro w s₀ s₁ mg mb G Y fa o pm cd doc dV kV ho hd hcd hD hmg hg args vals as hpre hlay hrd hwl hlo;obtain rfl:dV=.none:=Dflts.none hD hdf;obtain rfl:kV=.none:=Dflts.noKw hD;obtain⟨a,vs,ns,rfl,rfl,hobj,hints,Yl⟩:=K4 hn hpre hwl;refine enter_call (Zu (call w s₀ s₁ mg mb fa o pm cd doc a vs ns G Y ho (fd_plain hd) hcd hmg hobj hints Yl hg) fun r s' hq=>?_);obtain⟨rfl,h2,h3,h4⟩:=hq;exact⟨.inl ⟨.bool true,.bool true,[],rfl,fun _=>rfl,.bool true,JJ l _,fun _=>⟨List.Pairwise.nil,fun _ hm=>(nomatch hm)⟩⟩,h2,h3,h4⟩
section
variable {prog:Program}{w:World}{A:Around}{E:Value->Shared->Prop}{s:Shared}{K:Frag}
noncomputable def CU(h:Heap):Heap:={ h with objs:=#[] }
theorem FI(h:Heap)(b:Addr):(CU h).get? b=none:=by
 cases e:(CU h).get? b with
 | none=>rfl
 | some o=>exact absurd (ZC e) (Nat.not_lt_zero _)
theorem Nh{h:Heap}{L:Addr}{m:Str->Option Value}(n:h.Ns L m):Fr (CU h) L h m :=
 ⟨n,fun b o e=>(by rw[FI]at e;cases e),ZK _⟩
end
end Att
namespace L2
open PySem PySem.Spec PyProof.Rows
variable {P:Program}{w:World}{K:W.Frag}{a p t:Addr}{x:Str}{ns:List Int}{n:Nat}{X:Cx}{pos:Pos}{H H':Hp}{i:Int}{v:V}{r:R2}{ds:List Dv}{xs:List V}{A:Around}
theorem Gj:∀{vs:List Value} {ns:List Int},IntsAre vs ns->Yg (ns.map V.int) vs
 | _,_,.nil=>.nil
 | _,_,.cons n t h=>.cons ⟨t,rfl⟩ (Gj h)
noncomputable def Ei(H:Hp):Prop:=∀b,H b=none\/∃o xs,H b=some (.frz o (.lst xs))
theorem Mm {mg mb:Str->Option Value} {CX:CXT} {k:Nat} {fa:Addr} {fd:FuncData} {sp:Sp} {s₁:Shared} {vs:List Value} 
 (KX:K.In s₁.heap) (hns:s₁.heap.Ns mainGlobals mg) (hb:s₁.heap.Ns builtinsNs mb) (hbb:∀x:Str,x ≠ "__name__" -> mb x=bootBuiltins x) (hlim:s₁.heap.NoLimit) (hg:s₁.gens = #[])
 (ha:s₁.heap.get? a=some { cls:=.type "list",data:=.seq vs.toArray }) (hi:IntsAre vs ns) (hl:ns.length<=sizeLine) (hr:Room k callerA)
 (F:∀base:Heap,K.In base->base.Ns mainGlobals mg->FnOk P w K mg base CX k fa fd [x] sp) (hbind:∀(s:Shared) (u:Value),BindsTo s fd ⟨[u],[]⟩ [(x,u)])
 (hsp:∀H:Hp,Ei H->Yr K H a (ns.map V.int)->sp [.ref a] H (fun v _=>v=.bl true) fun _ _ _=>False)
 (hCX:∀H e s',CX [] H s₁ (fun _ _ _=>False) e s'->False) :
 codeAny (model P w) callerA (.call (.ref fa) ⟨[.ref a],[]⟩) (fun r s'=>r=.ok (.ret (.bool true))/\OldK s₁.heap s'.heap/\s'.os=s₁.os/\AllBare s'.gens) s₁:=by
 have rv:=Gj hi;have lenV:=hi.length
 -- from an abstract heap in which nothing but the script may be tracked
 have core:∀H:Hp,Ei H->Yr K H a (ns.map V.int)->HOk P w H s₁.heap->(∀b,H b≠none->b=a)->(H a≠none->K.lookup a=none) ->
  codeAny (model P w) callerA (.call (.ref fa) ⟨[.ref a],[]⟩) (fun r s'=>r=.ok (.ret (.bool true))/\OldK s₁.heap s'.heap/\s'.os=s₁.os/\AllBare s'.gens) s₁:=by
  intro H hO hS hok hA hK;have base_of:∀{b:Addr} {o:Obj},s₁.heap.get? b=some o->H b=none->(Bc s₁.heap H).get? b=some o:=fun e n=>JR e n
  have noA:∀{b:Addr} {o:Obj} {es:Array DictEntry} {ep:Nat},s₁.heap.get? b=some o->o.data=.dict es ep->H b=none:=fun {b o es ep} e d=>by
   cases q:H b with
   | none=>rfl
   | some u =>
    have e':b=a:=hA b (by rw[q];simp);subst e';rw[ha]at e;cases e;have d':Data.seq vs.toArray _=Data.dict es ep:=d;cases d'
  have nsK:∀{b:Addr} {m:Str->Option Value},s₁.heap.Ns b m->(Bc s₁.heap H).Ns b m:=fun {b m} ⟨o,es,ep,e,d,r⟩=>⟨o,es,ep,base_of e (noA e d),d,r⟩
  have hKb:K.In (Bc s₁.heap H):=fun b o e=>base_of (KX b o e) (by
   cases q:H b with
   | none=>rfl
   | some u =>
    have e':b=a:=hA b (by rw[q];simp);subst e';rw[hK (by rw[q];simp)]at e;cases e)
  have hM:Mod K mg (Bc s₁.heap H):=⟨hKb,nsK hns,⟨mb,nsK hb,hbb⟩,let ⟨mc,h1,h2⟩:=hlim;⟨mc,nsK h1,h2⟩⟩;have e0:Env0 P w K mg (Bc s₁.heap H) callerA [] s₁ H:=⟨rfl,hM,fun b o e=>NZ e,Z3 (IP _ _),trivial,fun b hb=>absurd (show b∈([]:List Addr) from hb) (by simp),hok,.of_eq hg⟩;refine Zu ((F _ hKb (nsK hns)).run callerA [] s₁ H ⟨[.ref a],[]⟩ [.ref a] [.ref a] _ _ hr e0 (hbind s₁ (.ref a)) (.cons rfl .nil) (hsp H hO hS)) fun r s' h=>?_
  cases r with
  | error e=>exact(hCX H e s' h).elim
  | ok fl =>
   cases fl with
   | next=>exact False.elim h
   | brk=>exact False.elim h
   | cont=>exact False.elim h
   | ret u =>
    obtain⟨v,H',os,bare,un,hok',r',q⟩:=h;have q':v=.bl true:=q;subst q';obtain rfl:u=Value.bool true:=r';refine⟨rfl,OldK.of_keep fun b o e=>?_,os,bare⟩;cases q:H b with
    | none=>exact un.keep b o e q (by intro z;exact absurd (show b∈([]:List Addr) from z) (by simp)) (by simp)
    | some u =>
     rcases hO b with z | ⟨ob,xs,z⟩
     ·rw[q]at z;cases z
     ·have z2:=un.frzs b ob _ z;obtain⟨e1,_⟩:=hok b _ z;obtain⟨e2,_⟩:=hok' b _ z2;rw[e]at e1;cases e1;exact e2
 cases hk:K.lookup a with
 | some o =>
  -- the script is one of the module's own objects
  have e:=KX a o hk;rw[ha]at e;cases e;refine core (fun _=>none) (fun _=>.inl rfl) (.inr ⟨_,vs.toArray,_,hk,rfl,rfl,rfl,by rw[ZE,lenV];exact hl,by simpa using rv⟩) (fun b u z=>by have z':(none:Option HO)=some u:=z;cases z') (fun b z=>absurd rfl z) fun z=>absurd rfl z
 | none =>
  refine core (fun b=>if b=a then some (.frz { cls:=.type "list",data:=.seq vs.toArray } (.lst (ns.map V.int))) else none) (fun b=>?_) (.inl (.inr ⟨{ cls:=.type "list",data:=.seq vs.toArray },if_pos rfl⟩)) (fun b u z=>?_) (fun b z=>?_) fun _=>hk
  ·by_cases hb:b=a
   ·exact .inr ⟨_,_,if_pos hb⟩
   ·exact .inl (if_neg hb)
  ·by_cases hb:b=a
   ·have z':=(if_pos hb).symm.trans z;cases z';subst hb;exact⟨ha,by rw[ZF];exact hl,vs,_,rv,ha⟩
   ·have z':=(if_neg hb).symm.trans z;cases z'
  ·by_cases hb:b=a
   ·exact hb
   ·exact absurd (if_neg hb) z
theorem walk_of {l:PySem.W.OpenLaw} {k:Nat} {q:Program} {loose:List Str} {XP:(Str->Option Value)->Heap->Prop} {YP:World->Heap->Prop} {d:DefRec} {K:Params->W.Frag} {CX:World->CXT} {sp:World->Sp} 
 (hn:l.most=some n) (hn2:n<=sizeLine) (hdf:d.params.defaults=[]) (hr:Room k callerA)
 (hY:∀(w:World) (h:Heap),YP w h->(K w.params).In h)
 (F:∀(w:World) (mg:Str->Option Value) (fa:Addr) (h:Heap),(K w.params).In h->h.Ns mainGlobals mg->mg d.name=some (.ref fa) ->
   ∃fd:FuncData,(∀(s:Shared) (u:Value),BindsTo s fd ⟨[u],[]⟩ [(x,u)]) /\
    ∀base:Heap,(K w.params).In base->base.Ns mainGlobals mg->FnOk l.prog w (K w.params) mg base (CX w) k fa fd [x] (sp w))
 (hsp:∀(w:World) (H:Hp) (a:Addr) (ns:List Int),ns.length<=n->Ei H->Yr (K w.params) H a (ns.map V.int)->sp w [.ref a] H (fun v _=>v=.bl true) fun _ _ _=>False)
 (hCX:∀(w:World) (H:Hp) (s:Shared) (e:Value) (s':Shared),CX w [] H s (fun _ _ _=>False) e s'->False) :
 PySem.W.WalkO q loose XP YP l.row.toRowW d [] (fun f vs=>PySem.call f vs):=by
 refine Att.attach_call hn hdf fun w s₀ s₁ mg mb fa o pm cd doc a vs ns G Y ho hd hcd hmg hobj hints Yl hg=>?_
 have KX:=hY w _ Y;obtain⟨fd,hb,hF⟩:=F w mg fa _ KX G.T.g hmg;exact Mm KX G.T.g G.T.b G.T.builtins G.T.nolimit hg hobj hints (ZU Yl hn2) hr hF hb (fun H hO hS=>hsp w H a ns Yl hO hS) fun H e s'=>hCX w H s₁ e s'
noncomputable def Bz(s:Stmt)(j:Nat):Stmt:=match s with
 | .ClassDef _ _ _ body _ _ _ _ _ _ _=>body.getD j (.Pass ⟨0,0,0,0⟩)
 | _=>.Pass ⟨0,0,0,0⟩
noncomputable def A3(s:Stmt):Arguments:=match s with
 | .FunctionDef _ a _ _ _ _ _ _ _ _=>a
 | _=>{ posonlyargs:=[],args:=[],vararg:=none,kwonlyargs:=[],kw_defaults:=[],kwarg:=none,defaults:=[] }
noncomputable def Av(s:Stmt):List Stmt:=match s with
 | .FunctionDef _ _ b _ _ _ _ _ _ _=>b
 | _=>[]
noncomputable def AM(s:Stmt):Scope:=match s with
 | .FunctionDef _ _ _ _ _ _ sc _ _ _=>sc
 | _=>{ kind:=.function,names:=[],isGenerator:=false,isCoroutine:=false }
noncomputable abbrev CX0:CXT:=fun _ _ _ _ _ _=>False
noncomputable abbrev E0:XK:=fun _ _ _=>False
theorem AU:Bh CX0 X E0:=fun _ _ _ _ _ _ _ h=>h.elim
structure Fun(K:W.Frag)(x qual:Str)(st:Stmt)(f:Addr)(fd:FuncData):Prop where
 ex:∃(oc:Value) (od:Option Addr) (kV doc pm:Value) (an:Option Addr) (Ys ct:Value) (osl:Array (Option Value)),
  fd=PySem.W.fnOf x qual (A3 st) (Av st) (AM st) .none kV doc pm an Ys ct/\K.lookup f=some ⟨oc,od,.func fd,osl⟩/\PySem.W.codeIn K Ys qual=true
 kp:PySem.W.keepIn K (.ref f)=true
section
variable {P:Program}{w:World}{K:W.Frag}{mg:Str->Option Value}{base:Heap}
theorem Fun.ok {qual:Str} {st:Stmt} {f:Addr} {fd:FuncData} {N ps:List Str} {k:Nat} {sp:Sp} (F:Fun K x qual st f fd) (S:FnScope N ps (AM st)) (len:∀vs H Q E,sp vs H Q E->vs.length=ps.length)
 (hbody:∀(Ys:Value) (A:Around) (outer:List Env) (s:Shared) (H:Hp) (vs:List V) (Q:VK) (E:XK),Room k (A.deeper (envOfC qual (AM st) s.heap.objs.size f Ys))->sp vs H Q E ->
   ∃t,PSs (A9 CX0 P w K mg base N qual (AM st) f Ys A outer s H E).nox (Av st) t/\t { nx:=fun _ H'=>Q .non H',rt:=Q } (BQ N vs) H):FnOk P w K mg base CX0 (k+1) f fd ps sp:=by
 obtain⟨oc,od,kV,doc,pm,an,Ys,ct,osl,rfl,lk,hcd⟩:=F.ex;refine HD lk hcd S len fun A outer s H vs Q E hr hsp=>?_
 obtain⟨t,h,q⟩:=hbody Ys A outer s H vs Q E hr hsp;exact⟨t,h.nox,q⟩
theorem Fun.binds {qual:Str} {st:Stmt} {f:Addr} {fd:FuncData} {ps:List Str} (F:Fun K x qual st f fd)
 (h:∀(kV doc pm:Value) (an:Option Addr) (Ys ct:Value) (us:List Value),us.length=ps.length->bindArgs (PySem.W.fnOf x qual (A3 st) (Av st) (AM st) .none kV doc pm an Ys ct) ⟨us,[]⟩=pure (ps.zip us)):Binds K fd ps []:=by
 obtain⟨oc,od,kV,doc,pm,an,Ys,ct,osl,rfl,lk,hcd⟩:=F.ex;exact .all (h kV doc pm an Ys ct)
theorem B3 {qual:Str} {st:Stmt} {f:Addr} {oc:Value} {od an:Option Addr} {osl:Array (Option Value)} {kV doc pm Ys ct:Value} (l:K.lookup f=some ⟨oc,od,.func (PySem.W.fnOf x qual (A3 st) (Av st) (AM st) .none kV doc pm an Ys ct),osl⟩)
 (c:PySem.W.codeIn K Ys qual=true) (k:PySem.W.keepIn K (.ref f)=true):Fun K x qual st f (PySem.W.fnOf x qual (A3 st) (Av st) (AM st) .none kV doc pm an Ys ct):=⟨⟨oc,od,kV,doc,pm,an,Ys,ct,osl,rfl,l,c⟩,k⟩
end
theorem Bp(h:n<=1000):n < sizeLine:=Nat.lt_of_le_of_lt h (by decide)
section
variable {X:Cx}
theorem pv (i:Nat) (hN:X.N[i]? = some x:=by rfl) (hv:Vis X.env.scope x:=by first | exact Or.inl rfl | exact Or.inr (Or.inl rfl) | exact Or.inr (Or.inr rfl)) (hd:(x == ("__debug__" : Str))=false:=by decide)
 (hcd:(x == ("__classdict__" : Str))=false:=by decide):PE X (.Name x pos) (GI i):=FU hN hv hd hcd
end
theorem Dn{A B:Prop}(h:B):if false=true then A else B:=by
 rw[if_neg ZX];exact h
theorem JX{A B:Prop}(h:A):if true=true then A else B:=by
 rw[if_pos rfl];exact h
theorem AZ{c A B:Prop}[Decidable c](h1:c->A)(h2:¬c->B):if c then A else B:=by
 by_cases h:c
 ·rw[if_pos h];exact h1 h
 ·rw[if_neg h];exact h2 h
noncomputable def Yf(H H':Hp):Prop:=∀b o,H b=some o->H' b=some o
theorem Yf.refl(H:Hp):Yf H H:=fun _ _ h=>h
theorem Yf.trans{H1 H2:Hp}(a:Yf H H1)(b:Yf H1 H2):Yf H H2:=fun c o h=>b c o (a c o h)
theorem Yf.free(e:Yf H H'){l:Addr}(h:H' l=Option.none):H l=Option.none:=by
 cases q:H l with
 | none=>rfl
 | some o =>
  rw[e l o q]at h;cases h
theorem Br:∀(names:List (Str × NameKind)) (n:Nat) (Yn:List (Str × Addr)),cellsFrom n names Yn=cellsFrom n names []++Yn
 | [],_,_=>rfl
 | (name,kind)::r,n,Yn=>by
  unfold cellsFrom;split
  ·rw[Br r (n+1) ((name,n)::Yn),Br r (n+1) [(name,n)],Zy];rfl
  ·exact Br r n Yn
theorem cellsFrom_kind:∀(names:List (Str × NameKind)) (n:Nat) (Yn:List (Str × Addr)) (x:Str) (c:Addr),(x,c)∈cellsFrom n names Yn->(x,c)∈Yn\/(x,NameKind.cell)∈names
 | [],_,_,_,_,h=>.inl h
 | (name,kind)::r,n,Yn,x,c,h=>by
  unfold cellsFrom at h;split at h
  ·rename_i hk
   rcases cellsFrom_kind r _ _ x c h with h | h
   ·rcases ZG.mp h with e | h
    ·cases e
     have:kind=.cell:=by simpa using hk
     subst this;exact .inr ZW
    ·exact .inl h
   ·exact .inr (ZS _ h)
  ·rcases cellsFrom_kind r _ _ x c h with h | h
   ·exact .inl h
   ·exact .inr (ZS _ h)
theorem CB{α:Type}:∀(l r:List (Str × α)),(l++r).lookup x=(match l.lookup x with | some c=>some c | none=>r.lookup x)
 | [],r=>rfl
 | (k,v)::l,r=>by
  show List.lookup x ((k,v)::(l++r))=_;rw[Zl,Zl];cases x == k with
  | true=>rfl
  | false=>exact CB l r
theorem Hn{α:Type}:∀{l:List (Str × α)},(∀c,(x,c)∉l)->l.lookup x=none
 | [],_=>rfl
 | (k,v)::l,h=>by
  rw[Zl];cases hb:x == k with
  | true =>
   have:x=k:=by simpa using hb
   subst this;exact absurd ZW (h v)
  | false=>exact Hn fun c hc=>h c (ZS _ hc)
noncomputable def Ad(cells:List (Str × Addr)):List (Str × NameKind)->List (Str × Addr)->List (Str × Addr)
 | [],Yn=>Yn
 | (n,k)::r,Yn=>if k == .free then Ad cells r ((n,(cells.lookup n).getD 0)::Yn) else Ad cells r Yn
theorem HY{scope:Scope}{env:Env}(h:∀y∈scope.names,y.2=.free->∃c,env.cells.lookup y.1=some c):closureFor scope env=pure (Ad env.cells scope.names []):=by
 have all:∀(names:List (Str × NameKind)) (Yn:List (Str × Addr)),(∀y∈names,y.2=.free->∃c,env.cells.lookup y.1=some c) ->
  (forIn names Yn fun(x:Str × NameKind) cs=>(if (x.2 == NameKind.free)=true then (do let a <- cellOf env x.1;pure (ForInStep.yield ((x.1,a)::cs))) else pure (ForInStep.yield cs):Sem (ForInStep (List (Str × Addr)))))=(pure (Ad env.cells names Yn):Sem _):=by
  intro names
  induction names with
  | nil=>intro Yn _;rfl
  | cons y r ih =>
   intro Yn hy;obtain⟨n,k⟩:=y;rw[List.forIn_cons];have hr:∀y∈r,y.2=.free->∃c,env.cells.lookup y.1=some c:=fun y hm=>hy y (ZS _ hm)
   unfold Ad
   by_cases hk:(k == NameKind.free)=true
   ·obtain⟨c,e⟩:=hy (n,k) ZW (by simpa using hk);rw[if_pos hk,if_pos hk];have e2:cellOf env n=pure c:=by unfold cellOf;rw[show env.cells.lookup n=some c from e]
    rw[e2];rw[show env.cells.lookup n=some c from e];exact ih _ hr
   ·rw[if_neg hk,if_neg hk];exact ih _ hr
 have q:=all scope.names [] h;unfold closureFor;refine Eq.trans ?_ (congrArg (fun t=>t >>= pure) q |>.trans (by rfl))
 congr 1
theorem clOf_mem{cells:List (Str × Addr)}:∀(names:List (Str × NameKind)) (Yn:List (Str × Addr)) (x:Str) (c:Addr),(∀y∈names,y.2=.free->∃c,cells.lookup y.1=some c)->(x,c)∈Ad cells names Yn->(x,c)∈Yn\/((x,NameKind.free)∈names/\cells.lookup x=some c)
 | [],_,_,_,_,h=>.inl h
 | (n,k)::r,Yn,x,c,hy,h=>by
  have hr:∀y∈r,y.2=.free->∃c,cells.lookup y.1=some c:=fun y hm=>hy y (ZS _ hm)
  unfold Ad at h;split at h
  ·rename_i hk;have hk':k=.free:=by simpa using hk
   subst hk';obtain⟨d,e⟩:=hy (n,.free) ZW rfl
   rcases clOf_mem r _ x c hr h with h | ⟨h,h'⟩
   ·rcases ZG.mp h with e' | h
    ·obtain⟨e1,e2⟩:=Prod.mk.inj e';rw[show cells.lookup n=some d from e]at e2;subst e1;exact .inr ⟨ZW,by rw[e2];exact e⟩
    ·exact .inl h
   ·exact .inr ⟨ZS _ h,h'⟩
  ·rcases clOf_mem r _ x c hr h with h | ⟨h,h'⟩
   ·exact .inl h
   ·exact .inr ⟨ZS _ h,h'⟩
theorem EQ{cells:List (Str × Addr)}:∀(names:List (Str × NameKind)) (Yn:List (Str × Addr)),(∃c,(x,c)∈Yn)->∃c,(x,c)∈Ad cells names Yn
 | [],_,h=>h
 | (n,k)::r,Yn,⟨c,h⟩=>by
  unfold Ad;split
  ·exact EQ r _ ⟨c,ZS _ h⟩
  ·exact EQ r _ ⟨c,h⟩
theorem Em{cells:List (Str × Addr)}:∀(names:List (Str × NameKind)) (Yn:List (Str × Addr)),(x,NameKind.free)∈names->∃c,(x,c)∈Ad cells names Yn
 | (n,k)::r,Yn,h=>by
  unfold Ad
  rcases ZG.mp h with e | h
  ·cases e;rw[if_pos (by decide)];exact EQ r _ ⟨_,ZW⟩
  ·split
   ·exact Em r _ h
   ·exact Em r _ h
theorem FQ{α:Type}:∀{l:List (Str × α)},(∃c,(x,c)∈l)->∃c,l.lookup x=some c
 | (k,v)::l,⟨c,h⟩=>by
  rw[Zl];cases hb:x == k with
  | true=>exact⟨v,rfl⟩
  | false =>
   rcases ZG.mp h with e | h
   ·cases e;simp at hb
   ·exact FQ ⟨c,h⟩
noncomputable def CI(scope sc:Scope):Scope :=
 { scope with names:=scope.names.map fun(n,k)=>if (k == .free && sc.kind == .function && sc.names.lookup n == some .cell) then (n,.cell) else (n,k) }
structure CompScope(scope sc:Scope):Prop where
 kind:scope.kind=.function
 nd:(scope.names.map (·.1)).Nodup
 fr:∀y∈scope.names,y.2=.free->sc.names.lookup y.1=some .cell\/sc.names.lookup y.1=some .free
theorem Bt{α:Type}:∀{l:List (Str × α)} {x:Str} {c:α},(l.map (·.1)).Nodup->(x,c)∈l->l.lookup x=some c
 | (k,v)::l,x,c,nd,h=>by
  obtain⟨n1,n2⟩:=Z7.mp (show(k::l.map (·.1)).Nodup from nd);rw[Zl]
  rcases ZG.mp h with e | h
  ·cases e;simp
  ·have Yu:¬x=k:=fun e=>n1 (by rw[<- e];exact Z4.mpr ⟨(x,c),h,rfl⟩)
   have:(x == k)=false:=by simpa using Yu
   rw[this];exact Bt n2 h
theorem Fo{scope sc:Scope}:(CI scope sc).names.lookup x=(scope.names.lookup x).map fun k=>if (k == .free && sc.kind == .function && sc.names.lookup x == some .cell) then NameKind.cell else k:=by
 show(scope.names.map _).lookup x=_
 generalize scope.names=names
 induction names with
 | nil=>rfl
 | cons y r ih =>
  obtain⟨n,k⟩:=y;rw[ZY]
  by_cases hc:(k == .free && sc.kind == .function && sc.names.lookup n == some .cell)=true
  ·show List.lookup x ((if (k == .free && sc.kind == .function && sc.names.lookup n == some .cell)=true then (n,NameKind.cell) else (n,k))::_)=_;rw[if_pos hc,Zl,Zl];cases hb:x == n with
   | true =>
    have hx:x=n:=by simpa using hb
    subst hx;show some NameKind.cell=some (if _ then _ else _);rw[if_pos hc]
   | false=>exact ih
  ·show List.lookup x ((if (k == .free && sc.kind == .function && sc.names.lookup n == some .cell)=true then (n,NameKind.cell) else (n,k))::_)=_;rw[if_neg hc,Zl,Zl];cases hb:x == n with
   | true =>
    have hx:x=n:=by simpa using hb
    subst hx;show some k=some (if _ then _ else _);rw[if_neg hc]
   | false=>exact ih
structure CArgs where
 Ya:List (Addr × Obj)
 cells:List (Str × Addr)
 s:Shared
 H:Hp
 fp:List Addr
 C:Addr
noncomputable def Cx.comp(X:Cx)(scope:Scope)(N':List Str)(c:CArgs):Cx where
 prog:=X.prog
 w:=X.w
 K:=X.K
 mg:=X.mg
 base:=X.base
 A:=X.A
 N:=N'
 s₀:=c.s
 H₀:=c.H
 env:=compEnvC scope c.cells c.C X.env
 outer:=X.stack
 stack:=X.stack
 ex:=c.fp
 fn:=fun x=>scope.names.lookup x == some .cell
 calm:=X.calm
 pn:=X.pn++c.Ya
 xe:=fun _ _=>False
noncomputable def cSt(own:Nat)(ix:List Nat)(σ:St):St:=List.replicate own none++ix.map fun i=>(σ[i]?).join
section
variable {X:Cx}{Ya:List (Addr × Obj)}{σ:St}{H:Hp}{s s4:Shared}{fp:List Addr}{scope:Scope}{N':List Str}{own:Nat}{ix:List Nat}
theorem G7 (I:Yc X Ya σ H s) (f2:∀b∈fp,Ao X Ya H b) (hob:∀b∈fp,∃o,s.heap.get? b=some o) (S:CompScope scope X.env.scope)
 (Yl:N'.length=own+ix.length) (hN:(N'.drop own).map some=ix.map (X.N[·]?)) (hfr:∀x∈N'.drop own,scope.names.lookup x=some .free)
 {C:Addr} (hC:s.heap.objs.size < C) (k4:∀b o,s.heap.get? b=some o->s4.heap.get? b=some o) (os4:s4.os=s.os) (g4:s4.gens=s.gens)
 (n4:∃m,s4.heap.Ns C m) (own4:∀x c,(x,c)∈cellsFrom (C+1) scope.names []->s4.heap.IsCell c none/\C+1<=c)
 (apart:(cellsFrom (C+1) scope.names []).Pairwise fun x y=>x.2≠y.2) :
 Yc (X.comp scope N' ⟨Ya,cellsFrom (C+1) scope.names (Ad X.env.cells scope.names []),s,H,fp,C⟩) [] (cSt own ix σ) H s4:=by
 have hfree:∀y∈scope.names,y.2=.free->∃c,X.env.cells.lookup y.1=some c:=fun y hy h=>I.ok.has y.1 (S.fr y hy h)
 -- a cell of the block
 have cases:∀x c,(cellsFrom (C+1) scope.names (Ad X.env.cells scope.names [])).lookup x=some c ->
  ((x,c)∈cellsFrom (C+1) scope.names []/\scope.names.lookup x=some .cell)\/((x,NameKind.free)∈scope.names/\X.env.cells.lookup x=some c):=fun x c h=>by
  rw[Br,CB]at h;cases e:(cellsFrom (C+1) scope.names []).lookup x with
  | some d =>
   rw[e]at h;cases h;have m:=mem_of_lookup e
   rcases cellsFrom_kind _ _ _ _ _ m with z | z
   ·exact absurd z (by simp)
   ·exact .inl ⟨m,Bt S.nd z⟩
  | none =>
   rw[e]at h
   rcases clOf_mem _ _ _ _ hfree (mem_of_lookup h) with z | z
   ·exact absurd z (by simp)
   ·exact .inr z
 have oldlt:∀x c,X.env.cells.lookup x=some c->c < s.heap.objs.size:=fun x c e=>let ⟨v,q⟩:=I.cell x c e;q.lt
 have kin:∀x,(CI scope X.env.scope).names.lookup x=some .cell\/(CI scope X.env.scope).names.lookup x=some .free->(scope.names.lookup x=some .cell\/scope.names.lookup x=some .free):=fun x h=>by
  rw[Fo]at h;cases e:scope.names.lookup x with
  | none=>rw[e]at h;simp at h
  | some k =>
   rw[e]at h;cases k with
   | cell=>exact .inl rfl
   | free=>exact .inr rfl
   | _=>exact absurd h (by simp)
 have hCn:∀b o,s.heap.get? b=some o->b≠C:=fun b o e z=>by have:=ZC e;rw[z]at this;exact ZO _ (Nat.lt_trans this hC)
 have lk:∀x,(x,NameKind.free)∈scope.names->∀c,X.env.cells.lookup x=some c->(cellsFrom (C+1) scope.names (Ad X.env.cells scope.names [])).lookup x=some c:=fun x hx c hc=>by
  have hl:scope.names.lookup x=some .free:=Bt S.nd hx;rw[Br,CB,Hn (l:=cellsFrom (C+1) scope.names []) fun d hd=>?_]
  ·obtain⟨d,hd⟩:=FQ (Em (cells:=X.env.cells) scope.names [] hx)
   rcases clOf_mem _ _ _ _ hfree (mem_of_lookup hd) with z | ⟨_,z⟩
   ·exact absurd z (by simp)
   ·rw[hc]at z;cases z;exact hd
  ·rcases cellsFrom_kind _ _ _ _ _ hd with z | z
   ·exact absurd z (by simp)
   ·rw[Bt S.nd z]at hl;cases hl
 refine⟨⟨I.ok.mod,S.kind,I.ok.glob,I.ok.blt,Zi hC,fun x y c hx hy=>?_,fun x hx=>?_,fun x c hf hx=>?_,I.ok.hd,I.ok.frames,.inl rfl,fun b hb=>⟨?_,fun x c hx=>?_⟩,fun b o e=>I.bs b o e,ZU I.ok.bsz I.sz,fun b o e hb=>?_,fun b hb z=>?_,I.stack,I.stkFree⟩,
  os4,by rw[g4];exact I.bare,Un.kept k4,?_,fun x c hx=>?_,?_,fun x c hx=>?_,fun p hp=>?_,I.hok.kept k4,?_⟩
 ·-- inj
  rcases cases x c hx with ⟨m1,_⟩ | ⟨_,m1⟩ <;> rcases cases y c hy with ⟨m2,_⟩ | ⟨_,m2⟩
  ·exact name_of_addr apart m1 m2
  ·exact absurd (ZL (Nat.lt_trans (oldlt y c m2) hC) (Zz (own4 x c m1).2)) (ZO _)
  ·exact absurd (ZL (Nat.lt_trans (oldlt x c m1) hC) (Zz (own4 y c m2).2)) (ZO _)
  ·exact I.ok.inj x y c m1 m2
 ·-- has
  rcases kin x hx with h | h
  ·have q:=PySem.W.cellsFrom_some scope.names (C+1) (Ad X.env.cells scope.names []) (.inl h);exact Option.isSome_iff_exists.mp q
  ·obtain⟨c,e⟩:=hfree (x,.free) (mem_of_lookup h) rfl;exact⟨c,lk x (mem_of_lookup h) c e⟩
 ·-- cab
  rcases cases x c hx with ⟨m1,_⟩ | ⟨m1,_⟩
  ·exact Zi (ZL hC (Zz (own4 x c m1).2))
  ·have hl:=Bt S.nd m1;have hf':(scope.names.lookup x == some NameKind.cell)=true:=hf;rw[hl]at hf';cases hf'
 ·obtain⟨o,e⟩:=hob b hb;exact hCn b o e
 ·intro z;obtain⟨o,e⟩:=hob b hb;have Yo:=ZC e
  rcases cases x c hx with ⟨m1,_⟩ | ⟨_,m1⟩
  ·subst z;exact absurd (ZL (Nat.lt_trans Yo hC) (Zz (own4 x c m1).2)) (ZO _)
  ·exact(f2 b hb).2.2.2.2.1 x c m1 z
 ·-- noex
  have e1:=(I.ok.bs b o e).1
  rcases(f2 b hb).2.2.2.1 with z | z
  ·exact I.ok.noex b o e z
  ·exact absurd (ZL (ZC e1) z) (ZO _)
 ·-- exfs
  rcases ZG.mp (I.stkSub b z) with e | z
  ·exact(f2 b hb).2.1 e
  ·exact(f2 b hb).2.2.1 z
 ·-- loc
  obtain⟨m,hm⟩:=n4;obtain⟨m0,hn0,hl0⟩:=I.loc;refine⟨m,hm,fun i x v h1 h2 h3=>?_⟩;have h1:N'[i]? = some x:=h1;unfold cSt at h2
  by_cases hi:i < own
  ·rw[List.getElem?_append_left (by simpa using hi),List.getElem?_replicate]at h2;split at h2 <;> cases h2
  ·rw[List.getElem?_append_right (by simpa using hi),ZBA,Zj]at h2;obtain⟨j,hj⟩:∃j,i=own+j:=⟨i - own,by lia⟩;subst hj;rw[Nat.add_sub_cancel_left]at h2;cases e:ix[j]? with
   | none=>rw[e]at h2;cases h2
   | some q =>
    rw[e]at h2;have h2:some (σ[q]?).join=some (some v):=h2;have h2:(σ[q]?).join=some v:=ZR h2
    have hσ:σ[q]? = some (some v):=by
     cases eq:σ[q]? with
     | none=>rw[eq]at h2;cases h2
     | some z=>rw[eq]at h2;simp at h2;rw[h2]
    have hx:(N'.drop own)[j]? = some x:=by rw[List.getElem?_drop];exact h1
    have hNq:X.N[q]? = some x:=by
     have:=congrArg (·[j]?) hN
     simp only[Zj,hx,e,Option.map_some]at this;exact(ZR this).symm
    have hfx:=hfr x (Z9 hx);have hmem:=mem_of_lookup hfx;have kx:=S.fr (x,.free) hmem rfl;have vis:Vis X.env.scope x:=.inr kx;obtain⟨u,r,l⟩:=hl0 q x v hNq hσ vis;refine⟨u,r,?_⟩
    rcases l with ⟨k,_⟩ | ⟨k,c,hc,z⟩
    ·exfalso;have k':X.env.scope.names.lookup x=some .local:=k
     rcases kx with kx | kx
     ·rw[show X.env.scope.names.lookup x=some .cell from kx]at k';cases k'
     ·rw[show X.env.scope.names.lookup x=some .free from kx]at k';cases k'
    ·refine .inr ⟨?_,c,lk x hmem c hc,z.keeps k4⟩
     show(CI scope X.env.scope).names.lookup x=some .cell\/(CI scope X.env.scope).names.lookup x=some .free
     rw[Fo,hfx]
     by_cases hc:(NameKind.free == .free && X.env.scope.kind == .function && X.env.scope.names.lookup x == some .cell)=true
     ·exact .inl (by rw[Option.map_some,if_pos hc])
     ·exact .inr (by rw[Option.map_some,if_neg hc])
 ·rcases cases x c hx with ⟨m1,_⟩ | ⟨_,m1⟩
  ·exact⟨_,(own4 x c m1).1⟩
  ·obtain⟨v,q⟩:=I.cell x c m1;exact⟨v,q.keeps k4⟩
 ·exact I.hok.fresh (Zi hC)
 ·rcases cases x c hx with ⟨m1,_⟩ | ⟨_,m1⟩
  ·exact I.hok.fresh (Zi (ZL hC (Zz (own4 x c m1).2)))
  ·exact I.freeC x c m1
 ·have hp:p∈X.pn++Ya:=by
   have:p∈(X.pn++Ya)++[]:=hp
   rwa [Zc]at this
  obtain⟨e,n,ne,nf,d⟩:=I.pin p hp;refine⟨k4 _ _ e,n,hCn _ _ e,fun z=>?_,d⟩
  rcases ZG.mp (I.stkSub _ z) with q | q
  ·exact ne q
  ·exact nf q
 ·unfold cSt;rw[ZQ,ZBA,ZF];exact Yl.symm
end
section
variable {prog:Program}{w:World}{A:Around}{R:Result->Shared->Prop}{s:Shared}
theorem La {elt target iter:Expr} {ifs:List Expr} {scope:Scope} {it Yn:Value} {env:Env} (I:Nat->Shared->Prop)
 (turn:∀n s,I n s->wpAny (model prog w) A (pyNext it) (fun r s₁=>match r with
   | none=>R (.ok .next) s₁
   | some v=>wpAny (model prog w) A (letOwnedTupleGo target it v) (fun _ s₁'=>wpAny (model prog w) A (assign target env v) (fun _ s₂ =>
    wpAny (model prog w) A (forIn ifs true fun c r=>if r=true then do let ok <- isTrue c env (eval c env);pure (ForInStep.yield ok) else pure (ForInStep.yield r)) (fun ok s₃ =>
     if ok=true then wpAny (model prog w) A (eval elt env) (fun x s₄ =>
      wpAny (model prog w) A (call (.builtin "list.append") [Yn,x]) (fun _ s₅=>∃m,m < n/\I m s₅) (fun _ _=>False) s₄) (fun _ _=>False) s₃
     else ∃m,m < n/\I m s₃) (fun _ _=>False) s₂) (fun _ _=>False) s₁') (fun _ _=>False) s₁) (fun _ _=>False) s)
 (n:Nat) (h:I n s) :
 codeAny (model prog w) A (.compLoop (.ListComp elt [⟨target,iter,ifs,0⟩] scope pos) 0 it Yn env) R s:=by
 refine codeAny_loop rfl I (fun n s hI=>?_) n h;show wpAny _ A ((compTurn (.ListComp elt [⟨target,iter,ifs,0⟩] scope pos) 0 it Yn env).onRaise (fun x=>do noteFrame x env;theTreesLotGoes x)) _ _ s;refine wpAny_noted ?_;rw[compTurn_list];refine ZA (Zs (ZA (ZI (turn n s hI) (fun r s₁ h₁=>?_) fun _ _ h'=>h'.elim)));cases r with
 | none=>exact ZB h₁
 | some v =>
  refine ZA (ZI h₁ (fun _ s₁' h₁'=>?_) fun _ _ h'=>h'.elim);refine ZA (ZI h₁' (fun _ s₂ h₂=>ZA (ZI h₂ (fun ok s₃ h₃=>?_) fun _ _ h'=>h'.elim)) fun _ _ h'=>h'.elim);cases ok with
  | false=>exact ZB ⟨rfl,h₃⟩
  | true =>
   exact ZA (ZA (ZI h₃ (fun x s₄ h₄=>ZA (ZI h₄ (fun _ s₅ h₅=>ZB (ZB ⟨rfl,h₅⟩)) fun _ _ h'=>h'.elim)) fun _ _ h'=>h'.elim))
end
noncomputable def PTs(X:Cx)(ifs:List Expr)(t:TT):Prop :=
 ∀(Ya:List (Addr × Obj)) (s:Shared) (σ:St) (H:Hp) (Q:Bool->Hp->Prop),Yc X Ya σ H s->t σ H Q ->
  wpAny (model X.prog X.w) X.A (forIn ifs true fun c r=>if r=true then do let ok <- isTrue c X.env (eval c X.env);pure (ForInStep.yield ok) else pure (ForInStep.yield r)) (TP X Ya σ Q) X.xe s
noncomputable def IA:TT:=fun _ H Q=>Q true H
theorem Dg:PTs X [] IA:=fun _ _ _ H _ I h=>wpAny_tests_nil ⟨H,I,h⟩
noncomputable def Bv(own:Nat)(g:TG):Prop:=∀x σ H Q,g x σ H Q->g x σ H fun σ' H'=>(σ'.length=σ.length/\∀i,own<=i->σ'[i]? = σ[i]?)/\Q σ' H'
theorem DX{own i:Nat}(h:i < own):Bv own (AV i):=fun x σ H Q q =>
 ⟨⟨by simp,fun j hj=>by rw[ZBF (by lia)]⟩,q⟩
noncomputable def DU(g:TG):Prop:=∀x σ H (Q Q':St->Hp->Prop),(∀σ H,Q σ H->Q' σ H)->g x σ H Q->g x σ H Q'
theorem Mu{i:Nat}:DU (AV i):=fun _ _ _ _ _ h q=>h _ _ q
theorem Gd{own:Nat}{ix:List Nat}{σ:St}{i:Nat}(h:(cSt own ix σ)[i]? = some (some v)):own<=i:=by
 unfold cSt at h
 by_cases hi:i < own
 ·rw[List.getElem?_append_left (by simpa using hi),List.getElem?_replicate]at h;split at h <;> cases h
 ·lia
noncomputable def CS(J:It)(g:TG)(tc:TT)(te:TE)(σc:St)(Q:VK)(H1:Hp):Prop :=
 ∃W:Nat->Nat->List V->Hp->Prop,(∃m,W 0 m [] H1)/\∀i m ys H,W i m ys H ->
  (J.stop i H/\∀p,H p=none->Q (.ref p) (upd H p (.lst ys))) \/
  (J.go i H/\ys.length < sizeLine/\∃N:List V->Hp->Prop,(∀ys' H',N ys' H'->∃m',m' < m/\W (i+1) m' ys' H')/\∀x H',J.yld i H x H'->g x σc H' fun σ4 H4=>tc σ4 H4 fun b H5 =>
    if b=true then te σ4 H5 fun y H6=>N (ys++[y]) H6 else N ys H5)
noncomputable def DH(wi:TI)(own:Nat)(ix:List Nat)(g:TG)(tc:TT)(te:TE):TE:=fun σ H Q=>wi σ H fun J H1=>CS J g tc te (cSt own ix σ) Q H1
section
variable {X:Cx}{Ya:List (Addr × Obj)}{σ:St}{H:Hp}{s:Shared}{fp:List Addr}{it:Addr}{tn:Nat->Heap->Prop}{J:It}{tg iter elt:Expr}{ifs:List Expr}{scope:Scope}{pos:Pos}{N':List Str}{own:Nat}{ix:List Nat}{g:TG}{tc:TT}{te:TE}{Q:VK}{E:Value->Shared->Prop}
theorem MS (I:Yc X Ya σ H s) (T:Turn X.prog X.w X.K tg J fp it tn) (st:tn 0 s.heap) (f2:∀b∈fp,Ao X Ya H b) (hc:X.calm=true) (S:CompScope scope X.env.scope)
 (Yl:N'.length=own+ix.length) (hN:(N'.drop own).map some=ix.map (X.N[·]?)) (hfr:∀x∈N'.drop own,scope.names.lookup x=some .free)
 (hg:∀c,PG (X.comp scope N' c) tg g) (hgo:Bv own g) (ht:∀c,PTs (X.comp scope N' c) ifs tc) (he:∀c,PE (X.comp scope N' c) elt te)
 (hq:CS J g tc te (cSt own ix σ) Q H) {RR:Value->Addr->Result->Shared->Prop}
 (fin:∀(D C:Addr) (s':Shared) (H':Hp) (ys:List V) (Yd:List Value) (n:Nat),s'.os=s.os->AllBare s'.gens->Un (frs X.stack) fp H H' s.heap s'.heap->HOk X.prog X.w H' s'.heap->(∃m,s'.heap.Ns C m)->H' C=none->s.heap.objs.size<=C ->
   H' D=none->s.heap.objs.size<=D->D≠C->s'.heap.get? D=some { cls:=.type "list",data:=.seq Yd.toArray n } -> Yg ys Yd->ys.length<=sizeLine->(∀p,H' p=none->Q (.ref p) (upd H' p (.lst ys)))->RR (.ref D) C (.ok .next) s') :
 wpAny (model X.prog X.w) X.A (newList []) (fun Yn s₃=>wpAny (model X.prog X.w) X.A (newFunctionEnv scope X.env.globals (Ad X.env.cells scope.names []) [] X.env.qual none .none (some X.env)) (fun cenv s₄ =>
  codeAny (model X.prog X.w) X.A (.compStart (.ListComp elt [⟨tg,iter,ifs,0⟩] scope pos) 0 (.ref it) Yn { cenv with scope:=relabel scope X.env }) (RR Yn cenv.locals) s₄) E s₃) E s:=by
 obtain⟨W,⟨m0,w0⟩,turn⟩:=hq;have hob:∀b∈fp,∃o,s.heap.get? b=some o:=fun b hb=>let ⟨o,e,_⟩:=T.obj 0 _ st b hb;⟨o,e⟩
 refine Zv ?_;generalize hH1:s.heap.push { cls:=.type "list",dict:=none,data:=.seq ([]:List Value).toArray } = h1;have hs1:h1.objs.size=s.heap.objs.size+1:=by rw[<- hH1,Zt]
 have k1:∀b o,s.heap.get? b=some o->h1.get? b=some o:=fun b o e=>by rw[<- hH1];exact ZJ _ e
 have d1:h1.get? s.heap.objs.size=some { cls:=.type "list",data:=.seq ([]:List Value).toArray }:=by rw[<- hH1];exact ZT _ rfl
 simp only[newFunctionEnv,ZBG,if_true];refine ZA (wpAny_alloc ?_);generalize hH2:(({ s with heap:=h1 }:Shared).heap.push { cls:=.type "dict",data:=.dict #[] })=h2;have hH2':h1.push { cls:=.type "dict",data:=.dict #[] } = h2:=hH2;have hs2:h2.objs.size=h1.objs.size+1:=by rw[<- hH2',Zt]
 have k2:∀b o,h1.get? b=some o->h2.get? b=some o:=fun b o e=>by rw[<- hH2'];exact ZJ _ e
 have n2:h2.Ns h1.objs.size (fun _=>none):=by rw[<- hH2'];exact Heap.Ns.new h1 (.type "dict")
 refine ZA (wpAny_layCells _ (fun name kind cells=>by cases hkc:kind == NameKind.cell <;> simp[hkc]) _ _ _ _ ?_);have ok:=cellsFrom_ok scope.names h2 (h1.objs.size+1) [] ⟨fun _ _ hm=>(nomatch hm),List.Pairwise.nil⟩ (by rw[hs2];exact ZD _);rw[hs2]at ok;show wpAny _ _ (forIn ([]:List (Str × Value)) PUnit.unit _ >>= _) _ _ _;rw[List.forIn_nil];refine ZA (ZB (ZB ?_));show codeAny _ _ (.compStart _ 0 (.ref it) (.ref s.heap.objs.size) (compEnvC scope (cellsFrom h2.objs.size scope.names (Ad X.env.cells scope.names [])) h1.objs.size X.env)) (RR (.ref s.heap.objs.size) h1.objs.size) { s with heap:=pushCells h2 scope.names };rw[hs2];generalize hH3:pushCells h2 scope.names=h3 at ok ⊢;have k3:∀b o,h2.get? b=some o->h3.get? b=some o:=fun b o e=>by rw[<- hH3];exact pushCells_keeps _ _ b o e
 have kk:∀b o,s.heap.get? b=some o->h3.get? b=some o:=fun b o e=>k3 b o (k2 b o (k1 b o e))
 have d3:h3.get? s.heap.objs.size=some { cls:=.type "list",data:=.seq ([]:List Value).toArray }:=k3 _ _ (k2 _ _ d1);have hC:s.heap.objs.size < h1.objs.size:=by rw[hs1];exact Nat.lt_succ_self _
 have I3:Yc (X.comp scope N' ⟨Ya,cellsFrom (h1.objs.size+1) scope.names (Ad X.env.cells scope.names []),s,H,fp,h1.objs.size⟩) [] (cSt own ix σ) H { s with heap:=h3 } :=
  G7 (s4:={ s with heap:=h3 }) I f2 hob S Yl hN hfr hC kk rfl rfl ⟨_,n2.keeps k3⟩ (fun x c hm=>ok.empty x c hm) ok.apart
 generalize hcs:cellsFrom (h1.objs.size+1) scope.names (Ad X.env.cells scope.names [])=cs at I3 ⊢;generalize hCC:h1.objs.size=C at *;generalize hDD:s.heap.objs.size=D at *;have hY:=I3.ok
 -- what is fixed of the records
 have sD:D≠C/\(∀x c,cs.lookup x=some c->c≠D)/\D∉frs X.stack/\∀p∈X.pn++Ya,p.1≠D:=by
  refine⟨ZM hC,fun x c e z=>?_,fun z=>?_,fun p hp z=>?_⟩
  ·subst z;have e':=e;rw[<- hcs,Br,CB]at e';cases q:(cellsFrom (C+1) scope.names []).lookup x with
   | some d =>
    rw[q]at e';cases e'
    have:=(ok.empty x c (mem_of_lookup q)).2
    exact absurd (ZL hC (Zz this)) (ZO _)
   | none =>
    rw[q]at e';have hfree:∀y∈scope.names,y.2=.free->∃c,X.env.cells.lookup y.1=some c:=fun y hy h=>I.ok.has y.1 (S.fr y hy h)
    rcases clOf_mem _ _ _ _ hfree (mem_of_lookup e') with z | ⟨_,z⟩
    ·exact absurd z (by simp)
    ·obtain⟨v,q⟩:=I.cell x c z
     have:=q.lt
     rw[hDD]at this;exact ZO _ this
  ·exact(I3.nofs (a:=D) (by exact absurd z (by
    intro z';obtain⟨_,o,ho,_⟩:=(show s.heap.FunFrames X.base X.stack from I.stack).mem z'
    have:=ZC ho
    rw[hDD]at this;exact ZO _ this))) z
  ·have:=ZC (I.pin p hp).1
   rw[z,hDD]at this;exact ZO _ this
 have stat:∀{H':Hp},(∀b∈fp,H' b=none)->∀b∈fp,Ao (X.comp scope N' ⟨Ya,cs,s,H,fp,C⟩) [] H' b:=fun {H'} hn b hb=>by
  refine⟨hn b hb,(hY.exf b hb).1,hY.exfs b hb,.inl hb,(hY.exf b hb).2,fun p hp=>?_⟩;have hp:p∈(X.pn++Ya)++[]:=hp;rw[Zc]at hp;exact(f2 b hb).2.2.2.2.2 p hp
 have statD:∀{H':Hp},H' D=none->Ao (X.comp scope N' ⟨Ya,cs,s,H,fp,C⟩) [] H' D:=fun {H'} hn=>by
  refine⟨hn,sD.1,sD.2.2.1,.inr (Z3 hDD),sD.2.1,fun p hp=>?_⟩;have hp:p∈(X.pn++Ya)++[]:=hp;rw[Zc]at hp;exact sD.2.2.2 p hp
 have loop:codeAny (model X.prog X.w) X.A (.compLoop (.ListComp elt [⟨tg,iter,ifs,0⟩] scope pos) 0 (.ref it) (.ref D) (compEnvC scope cs C X.env)) (RR (.ref D) C) { s with heap:=h3 }:=by
  refine La (fun n s'=>∃(i:Nat) (H':Hp) (ys:List V) (Yd:List Value) (k:Nat),Yc (X.comp scope N' ⟨Ya,cs,s,H,fp,C⟩) [] (cSt own ix σ) H' s'/\tn i s'.heap/\(∀b∈fp,H' b=none)/\H' D=none /\
   s'.heap.get? D=some { cls:=.type "list",data:=.seq Yd.toArray k } /\ Yg ys Yd/\ys.length<=sizeLine/\W i n ys H') ?_ m0
   ⟨0,H,[],[],0,I3,T.keep _ _ _ st fun b _ o e=>kk b o e,fun b hb=>(f2 b hb).1,I.hok.fresh (Z3 hDD),d3,.nil,ZK _,w0⟩
  rintro n s4 ⟨i,H4,ys,Yd,k,I4,st4,fr4,dn4,d4,rv4,z4,w4⟩
  rcases turn i n ys H4 w4 with ⟨stop,qn⟩ | ⟨go,zl,N,hN2,step⟩
  ·have ID:=I4.pinned (fp:=[D]) (fun b hb=>by rw[ZH.mp hb];exact statD dn4) (fun b hb=>by rw[ZH.mp hb];exact⟨_,d4,fun v z=>nomatch z⟩)
   have nD:∀b∈fp,b≠D:=fun b hb z=>by
    obtain⟨o,e⟩:=hob b hb
    have:=ZC e
    rw[z,hDD]at this;exact ZO _ this
   have stat':∀b∈fp,Ao (X.comp scope N' ⟨Ya,cs,s,H,fp,C⟩) ([]++Ae [D] s4.heap) H4 b:=fun b hb=>by
    obtain⟨q1,q2,q3,q4,q5,q6⟩:=stat fr4 b hb;refine⟨q1,q2,q3,q4,q5,fun p hp=>?_⟩
    rcases Zf.mp hp with z | z
    ·exact q6 p (Zp _ z)
    ·have:=(CQ (by simpa using z:p∈Ae [D] s4.heap)).1
     rw[ZH.mp this];exact fun z=>nD b hb z.symm
   refine Yk (T.done (X.comp scope N' ⟨Ya,cs,s,H,fp,C⟩) rfl rfl rfl hc i _ s4 _ H4 (fun _ _=>False) ID stat' st4 stop) fun r s5 ⟨hr,I5⟩=>?_
   subst hr;obtain⟨m,hm,_⟩:=I5.loc;refine fin D C s5 H4 ys Yd k I5.os I5.bare I5.base I5.hok ⟨m,hm⟩ I5.free (Zi hC) dn4 (ZD _) sD.1 ?_ rv4 z4 qn
   ·exact(I5.pin (D,_) (ZP _ (ZP _ (BL (ZH.mpr rfl) d4)))).1
  ·have nD:∀b∈fp,b≠D:=fun b hb z=>by
    obtain⟨o,e⟩:=hob b hb
    have:=ZC e
    rw[z,hDD]at this;exact ZO _ this
   have ID:=I4.pinned (fp:=[D]) (fun b hb=>by rw[ZH.mp hb];exact statD dn4) (fun b hb=>by rw[ZH.mp hb];exact⟨_,d4,fun v z=>nomatch z⟩)
   have statP:∀{H':Hp},(∀b∈fp,H' b=none)->∀b∈fp,Ao (X.comp scope N' ⟨Ya,cs,s,H,fp,C⟩) ([]++Ae [D] s4.heap) H' b:=fun {H'} hn b hb=>by
    obtain⟨q1,q2,q3,q4,q5,q6⟩:=stat hn b hb;refine⟨q1,q2,q3,q4,q5,fun p hp=>?_⟩
    rcases Zf.mp hp with z | z
    ·exact q6 p (Zp _ z)
    ·have:=(CQ (by simpa using z:p∈Ae [D] s4.heap)).1
     rw[ZH.mp this];exact fun z=>nD b hb z.symm
   refine Yk (T.item (X.comp scope N' ⟨Ya,cs,s,H,fp,C⟩) rfl rfl rfl hc i _ s4 _ H4 (fun _ _=>False) ID (statP fr4) st4 go) fun r s5 ⟨u,hr,h5⟩=>?_
   subst hr;refine Yk h5 fun _ s6 ⟨x,H6,I6,r6,y6,st6,fr6⟩=>?_
   have I6':=I6.pinned (statP fr6) (T.obj _ _ st6);refine Yk (hg _ _ s6 _ H6 x u _ I6' r6 (hgo _ _ _ _ (step x H6 y6))) fun _ s7 ⟨σ7,H7,I7,⟨e7,k7⟩,q7⟩=>?_
   have I7':Yc (X.comp scope N' ⟨Ya,cs,s,H,fp,C⟩) ([]++Ae [D] s4.heap++Ae fp s6.heap) σ7 H7 s7:=I7;refine Yk (ht _ _ s7 σ7 H7 _ I7' q7) fun b s8 ⟨H8,I8,q8⟩=>?_
   -- what is kept through the turn
   have back:∀{s9:Shared} {H9:Hp},Yc (X.comp scope N' ⟨Ya,cs,s,H,fp,C⟩) ([]++Ae [D] s4.heap++Ae fp s6.heap) σ7 H9 s9 ->
    Yc (X.comp scope N' ⟨Ya,cs,s,H,fp,C⟩) [] (cSt own ix σ) H9 s9/\tn (i+1) s9.heap/\(∀b∈fp,H9 b=none)/\H9 D=none/\s9.heap.get? D=some { cls:=.type "list",data:=.seq Yd.toArray k }:=fun {s9 H9} I9=>by
    have pD:=I9.pin (D,_) (ZP _ (Zp _ (ZP _ (BL (ZH.mpr rfl) d4))));refine⟨I9.unpinned.unpinned.weak (by rw[e7]) fun j v hj=>?_,T.keep _ _ _ st6 fun b hb o e=>(I9.pin (b,o) (ZP _ (ZP _ (BL hb e)))).1,fun b hb=>?_,pD.2.1,pD.1⟩
    ·rw[k7 j (Gd hj)];exact hj
    ·obtain⟨o,e,_⟩:=T.obj _ _ st6 b hb;exact(I9.pin (b,o) (ZP _ (ZP _ (BL hb e)))).2.1
   cases b with
   | false =>
    rw[if_neg ZX]at q8;obtain⟨m',hm,w8⟩:=hN2 _ _ q8;obtain⟨b1,b2,b3,b4,b5⟩:=back I8;exact⟨m',hm,i+1,H8,ys,Yd,k,b1,b2,b3,b4,b5,rv4,z4,w8⟩
   | true =>
    rw[if_pos rfl]at q8;rw[if_pos rfl];refine Yk (he _ _ s8 σ7 H8 _ I8 q8) fun yv s9 ⟨y,H9,I9,r9,q9⟩=>?_
    obtain⟨m',hm,w9⟩:=hN2 _ _ q9;obtain⟨b1,b2,b3,b4,b5⟩:=back I9;have hl:=rv4.length;refine call_meets F.slot_list_append ⟨_,b5,rfl⟩ F.entry_list_append (F.args_list_append_2 _ _) (PySem.list_append D Yd.toArray k yv (by rw[ZE];lia)) ⟨b5,?_⟩;have up:=PySem.IsL.update b5 (fun a=>a.push yv);have keep:∀b o,b≠D->s9.heap.get? b=some o->(s9.heap.update D (Obj.mapSeq fun a=>a.push yv)).get? b=some o:=fun b o hb q=>(Zd _ _ (Ne.symm hb)).trans q
    obtain⟨f0,f1,f2',f3,f4,f5⟩:=statD b4;refine⟨m',hm,i+1,H9,ys++[y],Yd++[yv],(if ((Yd.toArray.push yv).size == Yd.toArray.size)=true then k else k+1),b1.turned (t':=s9.toks) keep b4 f1 f3 f4 f5,?_,b3,b4,?_,rv4.append (.cons r9 .nil),?_,w9⟩
    ·exact T.keep _ _ _ b2 fun b hb o e=>keep b o (nD b hb) e
    ·have e2:(Yd.toArray.push yv)=(Yd++[yv]).toArray:=by simp
     rw[<- e2];exact up
    ·rw[ZQ,ZBC];lia
 exact codeAny_compStart_list loop (T.self X.A 0 _ _ _ (T.keep _ _ _ st fun b _ o e=>kk b o e) loop)
end
section
variable {X:Cx}{Ya:List (Addr × Obj)}{σ:St}{H:Hp}{s:Shared}{fp:List Addr}{it:Addr}{tn:Nat->Heap->Prop}{J:It}{tg iter elt:Expr}{ifs:List Expr}{scope:Scope}{pos:Pos}{N':List Str}{own:Nat}{ix:List Nat}{g:TG}{tc:TT}{te:TE}{wi:TI}{E:Value->Shared->Prop}
theorem HQ {s':Shared} {D:Addr} {ys:List V} {Yd:List Value} (I:Yc X Ya σ H s) (f2:∀b∈fp,Ao X Ya H b) (ho:s'.os=s.os) (hg:AllBare s'.gens) (u:Un (frs X.stack) fp H H' s.heap s'.heap) (hok:HOk X.prog X.w H' s'.heap)
 (dn:H' D=none) (ds:s.heap.objs.size<=D) (d:s'.heap.get? D=some { cls:=.type "list",data:=.seq Yd.toArray n }) (rv:Yg ys Yd) (z:ys.length<=sizeLine):Yc X Ya σ (upd H' D (.lst ys)) s':=by
 have nD:∀b o,s.heap.get? b=some o->b≠D:=fun b o e q=>by rw[q,Zo ds]at e;cases e
 have nH:∀b o,H' b=some o->b≠D:=fun b o e q=>by rw[q,dn]at e;cases e
 refine I.call' (ch:=fp) ho ⟨u.keep,u.slot,fun b o e q hx=>?_,u.there,fun b xs e=>?_,fun b o v e=>?_,fun b ps e=>?_⟩ (fun b o e=>?_) hg fun b hb=>?_
 ·rw[AG (nD b o e)];exact u.free b o e q hx
 ·have:=u.tups b xs e
  rw[AG (nH _ _ this)];exact this
 ·have:=u.frzs b o v e
  rw[AG (nH _ _ this)];exact this
 ·obtain⟨more,q⟩:=u.tbls b ps e;exact⟨more,by rw[AG (nH _ _ q)];exact q⟩
 ·by_cases hb:b=D
  ·subst hb;rw[AD]at e;cases e;exact⟨z,Yd,n,rv,d⟩
  ·rw[AG hb]at e;exact(hok b o e).stay (fun _ _ _ q=>q) (fun c q=>by rw[AG (nH _ _ q)];exact q) fun c xs q=>by rw[AG (nH _ _ q)];exact q
 ·obtain⟨q1,q2,q3,q4,q5,q6⟩:=f2 b hb;exact⟨q4,q2,q5,q6⟩
theorem Yc.dictGone{s':Shared}{h':Heap}{C:Addr}{σ':St}(I:Yc X Ya σ H s)(J:Yc X Ya σ' H' s')(hC:s.heap.objs.size<=C)(hn:H' C=none)(k:Heap.SameBut C s'.heap h'):Yc X Ya σ' H' { s' with heap:=h' }:=by
 have hC0:=Zo hC;refine J.turned (t':=s'.toks) (fun b o hb e=>(k.2 b hb).trans e) hn (fun z=>?_) (.inr (ZU I.sz hC)) (fun x c e z=>?_) fun p hp z=>?_
 ·obtain⟨m,⟨o,_,_,ho,_⟩,_⟩:=I.loc;rw[<- z,hC0]at ho;cases ho
 ·obtain⟨v,o,ho,_⟩:=I.cell x c e;rw[z,hC0]at ho;cases ho
 ·have:=(I.pin p hp).1
  rw[z,hC0]at this;cases this
theorem MK (hc:X.calm=true) (hi:PI X tg iter wi) (S:CompScope scope X.env.scope)
 (Yl:N'.length=own+ix.length) (hN:(N'.drop own).map some=ix.map (X.N[·]?)) (hfr:∀x∈N'.drop own,scope.names.lookup x=some .free)
 (hg:∀c,PG (X.comp scope N' c) tg g) (hgo:Bv own g) (ht:∀c,PTs (X.comp scope N' c) ifs tc) (he:∀c,PE (X.comp scope N' c) elt te)
 (hs:∀x,foldedSetIterable iter X.env x=pure x:=by intro _;rfl):PE X (.ListComp elt [⟨tg,iter,ifs,0⟩] scope pos) (DH wi own ix g tc te):=by
 intro Ya s σ H Q I h;rw[eval_ListComp];have hfree:∀y∈scope.names,y.2=.free->∃c,X.env.cells.lookup y.1=some c:=fun y hy h=>I.ok.has y.1 (S.fr y hy h)
 refine wpAny_comprehension_free (use:=none) rfl hs (HY hfree) S.kind (fun y hy hl=>Bt S.nd (by rw[<- hl];exact hy)) ?_;refine Yk (hi Ya s σ H _ I h) fun v s1 h1=>Yk h1 fun itv s2 h2=>?_
 obtain⟨it,fp,tn,J,H2,e,I2,T,st2,f2,q2⟩:=h2;subst e;refine MS (RR:=fun Yn C=>compPost (model X.prog X.w) X.A X.xe none (EP X Ya σ Q) Yn C) I2 T st2 f2 hc S Yl hN hfr hg hgo ht he q2 ?_;intro D C s' H' ys Yd n ho hgn u hok hm hC hCs hD hDs hDC d rv z q;obtain⟨m,hm⟩:=hm;have I3:=HQ I2 f2 ho hgn u hok hD hDs d rv z;refine⟨m,hm,fun h' hs'=>?_⟩;exact⟨.ref D,_,I2.dictGone I3 hCs (by rw[AG (Ne.symm hDC)];exact hC) hs',rfl,q D hD⟩
end
section
variable {X:Cx}
theorem PE.imp{e:Expr}{t t':TE}(h:PE X e t)(f:∀σ H Q,t' σ H Q->t σ H Q):PE X e t':=fun Ya s σ H Q I q=>h Ya s σ H Q I (f σ H Q q)
theorem Yp.imp{f:Value->Value->Sem Value}{r':R2}(h:Yp X f r)(g:∀x y H Q,r' x y H Q->r x y H Q):Yp X f r':=fun Ya s σ H x y v u Q I rx ry q=>h Ya s σ H x y v u Q I rx ry (g _ _ _ _ q)
theorem CallR.imp{f:Value}{r r':List V->Hp->VK->Prop}(h:CallR X f r)(g:∀x H Q,r' x H Q->r x H Q):CallR X f r':=fun Ya s σ H xs us Q I r q=>h Ya s σ H xs us Q I r (g _ _ _ q)
noncomputable def C1(i:Nat):TE:=fun σ H Q=>match σ[i]? with
 | some (some v)=>Q v H
 | _=>False
theorem vv (i:Nat) (hN:X.N[i]? = some x:=by rfl) (hv:Vis X.env.scope x:=by first | exact Or.inl rfl | exact Or.inr (Or.inl rfl) | exact Or.inr (Or.inr rfl)) (hd:(x == ("__debug__" : Str))=false:=by decide)
 (hcd:(x == ("__classdict__" : Str))=false:=by decide):PE X (.Name x pos) (C1 i):=(FU hN hv hd hcd).imp fun σ H Q q=>by
 unfold C1 at q;split at q
 ·rename_i v e;exact⟨v,e,q⟩
 ·exact q.elim
noncomputable def okMul(i j:Int):Prop:=(i.natAbs < 2 ^ 4096/\j.natAbs < 2 ^ 4096)\/(-(2 ^ 64) < i/\i < 2 ^ 64)\/(-(2 ^ 64) < j/\j < 2 ^ 64)
theorem FW(h:i.natAbs < 2 ^ 4096):Builtin.Int.intBits i<=2 ^ 20:=by
 unfold Builtin.Int.intBits;split
 ·exact ZK _
 ·rename_i hz
  have Yu:i.natAbs≠0:=by
   have:¬i=0:=by simpa using hz
   lia
  have:=(Nat.log2_lt Yu).mpr h
  have e:(2:Nat) ^ 20=1048576:=by decide
  lia
theorem okMul.ok{j:Int}(h:okMul i j):IntMulOk i j:=by
 rcases h with ⟨h1,h2⟩ | h | h
 ·exact .of_bits (FW h1) (FW h2)
 ·exact CMul.ok (.inl h)
 ·exact CMul.ok (.inr h)
noncomputable def okDiv(j:Int):Prop:=0 < j/\j < 2 ^ 4096
theorem okDiv.ok{j:Int}(h:okDiv j):Builtin.divisionGoesByPylong i j=false:=by
 refine PyProof.noPylong_of_log2 ?_;obtain⟨h1,h2⟩:=h;have Yu:j.natAbs≠0:=by lia
 have h3:j.natAbs < 2 ^ 4096:=by
  have e:((j.natAbs:Int))=j:=by lia
  have h2':((j.natAbs:Nat):Int) < ((2 ^ 4096:Nat):Int):=by rw[e,Int.natCast_pow];exact h2
  exact Int.ofNat_lt.mp h2'
 have:=(Nat.log2_lt Yu).mpr h3
 lia
noncomputable def Bs(K:W.Frag):R2:=fun x y H Q=>match x,y with
 | .int i,.int j=>Q (.int (i+j)) H
 | .str a,.str b=>a.length+b.length<=sizeLine/\Q (.str (a++b)) H
 | .ref a,.ref b=>DB (.ref a) (.ref b) H Q\/Fd K (.ref a) (.ref b) H Q
 | _,_=>False
theorem LZ:Yp X (binaryOp .Add) (Bs X.K):=by
 intro Ya s σ H x y v u Q I rx ry q
 cases x <;> cases y <;> first
  | exact False.elim q
  | exact HA Ya s σ H _ _ v u Q I rx ry ⟨_,_,rfl,rfl,q⟩
  | exact Lv Ya s σ H _ _ v u Q I rx ry ⟨_,_,rfl,rfl,q.1,q.2⟩
  | (rcases q with q | q
     ·exact HK Ya s σ H _ _ v u Q I rx ry q
     ·exact Fa Ya s σ H _ _ v u Q I rx ry q)
noncomputable def Ek:R2:=fun x y H Q=>match x,y with
 | .int i,.int j=>Q (.int (i - j)) H
 | _,_=>False
theorem An:Yp X (binaryOp .Sub) Ek:=by
 intro Ya s σ H x y v u Q I rx ry q
 cases x <;> cases y <;> first
  | exact False.elim q
  | exact NN Ya s σ H _ _ v u Q I rx ry ⟨_,_,rfl,rfl,q⟩
noncomputable def IX:R2:=fun x y H Q=>match x,y with
 | .int i,.int j=>okMul i j/\Q (.int (i * j)) H
 | .ref a,.int k=>Hl (.ref a) (.int k) H Q
 | _,_=>False
theorem CH:Yp X (binaryOp .Mult) IX:=by
 have hI:Yp X (binaryOp .Mult) (rI okMul fun i j=>.int (i * j)):=opI fun _ _ _ _ _ _ _ hc q=>mul_int q hc.ok
 intro Ya s σ H x y v u Q I rx ry q
 cases x <;> cases y <;> first
  | exact False.elim q
  | exact hI Ya s σ H _ _ v u Q I rx ry ⟨_,_,rfl,rfl,q.1,q.2⟩
  | exact IB Ya s σ H _ _ v u Q I rx ry q
noncomputable def DG:R2:=fun x y H Q=>match x,y with
 | .int i,.int j=>okDiv j/\Q (.int (i / j)) H
 | _,_=>False
theorem HR:Yp X (binaryOp .FloorDiv) DG:=by
 have hI:Yp X (binaryOp .FloorDiv) (rI (fun _ j=>okDiv j) fun i j=>.int (i / j)):=opI fun i j _ _ _ _ _ hc q=>by
  refine floordiv_int (by have:=hc.1;lia) ?_ (.inl hc.ok);rw[Int.fdiv_eq_ediv_of_nonneg i (by have:=hc.1;lia)];exact q
 intro Ya s σ H x y v u Q I rx ry q
 cases x <;> cases y <;> first
  | exact False.elim q
  | exact hI Ya s σ H _ _ v u Q I rx ry ⟨_,_,rfl,rfl,q.1,q.2⟩
noncomputable def Df:R2:=fun x y H Q=>match x,y with
 | .int i,.int j=>0 < j/\Q (.int (i % j)) H
 | _,_=>False
theorem BW:Yp X (binaryOp .Mod) Df:=by
 intro Ya s σ H x y v u Q I rx ry q
 cases x <;> cases y <;> first
  | exact False.elim q
  | exact J4 Ya s σ H _ _ v u Q I rx ry ⟨_,_,rfl,rfl,q.1,q.2⟩
noncomputable def Ef:R2:=fun x y H Q=>match x,y with
 | .int i,.int j=>Gs i j/\Q (.int (i ^ j.toNat)) H
 | _,_=>False
theorem Kq:Yp X (binaryOp .Pow) Ef:=by
 intro Ya s σ H x y v u Q I rx ry q
 cases x <;> cases y <;> first
  | exact False.elim q
  | exact Ni Ya s σ H _ _ v u Q I rx ry ⟨_,_,rfl,rfl,q.1,q.2⟩
noncomputable def Cz(p:Int->Int->Bool):R2:=fun x y H Q=>match x,y with
 | .int i,.int j=>Q (.bl (p i j)) H
 | _,_=>False
theorem BP:Yp X (compareOp .Lt) (Cz fun i j=>decide (i < j)):=by
 intro Ya s σ H x y v u Q I rx ry q
 cases x <;> cases y <;> first
  | exact False.elim q
  | exact Ld Ya s σ H _ _ v u Q I rx ry ⟨_,_,rfl,rfl,q⟩
theorem Bk:Yp X (compareOp .Gt) (Cz fun i j=>decide (j < i)):=by
 intro Ya s σ H x y v u Q I rx ry q
 cases x <;> cases y <;> first
  | exact False.elim q
  | exact IV Ya s σ H _ _ v u Q I rx ry ⟨_,_,rfl,rfl,q⟩
end
inductive Dv where
 | non | bl (b:Bool) | int (i:Int) | str (x:Str) | tup (ds:List Dv) | lst (ds:List Dv)
mutual
noncomputable def Yi(K:W.Frag)(H:Hp):Dv->V->Prop
 | .non,v=>v=.non
 | .bl b,v=>v=.bl b
 | .int i,v=>v=.int i
 | .str x,v=>v=.str x
 | .tup ds,v=>∃a xs,v=.ref a/\Yq K H a xs/\Ye K H ds xs
 | .lst ds,v=>∃a xs,v=.ref a/\Yr K H a xs/\Ye K H ds xs
noncomputable def Ye(K:W.Frag)(H:Hp):List Dv->List V->Prop
 | [],xs=>xs=[]
 | d::ds,xs=>∃x r,xs=x::r/\Yi K H d x/\Ye K H ds r
end
mutual
noncomputable def eqD:Dv->Dv->Bool
 | .non,.non=>true
 | .bl a,.bl b=>a == b
 | .bl a,.int b=>(if a then 1 else 0) == b
 | .int a,.bl b=>a == (if b then 1 else 0)
 | .int a,.int b=>a == b
 | .str a,.str b=>a == b
 | .tup ds,.tup es=>As ds es
 | .lst ds,.lst es=>As ds es
 | _,_=>false
noncomputable def As:List Dv->List Dv->Bool
 | [],[]=>true
 | d::ds,e::es=>eqD d e && As ds es
 | _,_=>false
end
mutual
noncomputable def AN:Dv->Nat
 | .tup ds=>Az ds+1
 | .lst ds=>Az ds+1
 | _=>0
noncomputable def Az:List Dv->Nat
 | []=>0
 | d::ds=>max (AN d) (Az ds)
end
theorem JQ(ds es:List Dv):eqD (.tup ds) (.tup es)=As ds es:=by rw[eqD]
theorem Gm(ds es:List Dv):eqD (.lst ds) (.lst es)=As ds es:=by rw[eqD]
theorem Ye.length:∀{ds:List Dv} {xs:List V},Ye K H ds xs->ds.length=xs.length
 | [],xs,h=>by unfold Ye at h;subst h;rfl
 | d::ds,xs,h=>by
  unfold Ye at h;obtain⟨x,r,rfl,_,h⟩:=h;rw[ZV,ZV,Ye.length h]
theorem Ye.get:∀{ds:List Dv} {xs:List V} {i:Nat} {d:Dv},Ye K H ds xs->ds[i]? = some d->∃x,xs[i]? = some x/\Yi K H d x
 | [],_,_,_,_,e=>by simp at e
 | d::ds,xs,0,_,h,e=>by
  unfold Ye at h;obtain⟨x,r,rfl,h1,_⟩:=h;simp at e;subst e;exact⟨x,rfl,h1⟩
 | d::ds,xs,i+1,_,h,e=>by
  unfold Ye at h;obtain⟨x,r,rfl,_,h⟩:=h;obtain⟨y,h1,h2⟩:=Ye.get (i:=i) h (by simpa using e);exact⟨y,by simpa using h1,h2⟩
theorem Fi{i:Nat}{d:Dv}(h:ds[i]? = some d):AN d<=Az ds:=by
 induction ds generalizing i with
 | nil=>simp at h
 | cons e es ih =>
  unfold Az;cases i with
  | zero=>simp at h;subst h;lia
  | succ i=>have:=ih (i:=i) (by simpa using h);lia
theorem Dw:∀(ds es:List Dv),ds.length=es.length->As ds es=(List.range ds.length).all fun i=>match ds[i]?,es[i]? with | some d,some e=>eqD d e | _,_=>false
 | [],[],_=>by unfold As;rfl
 | d::ds,e::es,h=>by
  unfold As;rw[ZV,List.range_succ_eq_map,List.all_cons,List.all_map,Dw ds es (by simpa using h)]
  congr 1
 | [],e::es,h=>by simp at h
 | d::ds,[],h=>by simp at h
theorem EI:∀(ds es:List Dv),ds.length≠es.length->As ds es=false
 | [],[],h=>absurd rfl h
 | [],_::_,_=>by unfold As;rfl
 | _::_,[],_=>by unfold As;rfl
 | d::ds,e::es,h=>by unfold As;rw[EI ds es (fun z=>h (by simp[z])),Bool.and_false]
mutual
theorem D4:∀d:Dv,eqD d d=true
 | .non=>by unfold eqD;rfl
 | .bl b=>by unfold eqD;simp
 | .int i=>by unfold eqD;simp
 | .str x=>by unfold eqD;simp
 | .tup ds=>by unfold eqD;exact Dk ds
 | .lst ds=>by unfold eqD;exact Dk ds
theorem Dk:∀ds:List Dv,As ds ds=true
 | []=>by unfold As;rfl
 | d::ds=>by unfold As;rw[D4 d,Dk ds];rfl
end
section
variable {X:Cx}{Ya:List (Addr × Obj)}{σ:St}{H:Hp}{s:Shared}
theorem G2{ys:List V}(I:Yc X Ya σ H s)(h:Yr X.K H a xs)(h':Yq X.K H a ys):False:=by
 obtain⟨Yd,_,⟨o,n,e,c,_⟩,_⟩:=I.list h;obtain⟨its',_,⟨o',e',c',_⟩,_⟩:=I.tuple h';rw[e]at e';cases e';rw[c]at c';exact absurd c' (by decide)
mutual
theorem Ee(I:Yc X Ya σ H s):∀(d e:Dv) (x:V),Yi X.K H d x->Yi X.K H e x->d=e
 | .non,e,x,h,h'=>by
  unfold Yi at h;subst h;cases e <;> unfold Yi at h' <;> first | rfl | (obtain⟨a,xs,q,_⟩:=h';cases q;done) | (cases h';done)
 | .bl b,e,x,h,h'=>by
  unfold Yi at h;subst h;cases e <;> unfold Yi at h' <;> first | (obtain⟨a,xs,q,_⟩:=h';cases q;done) | (cases h';rfl) | (cases h';done)
 | .int b,e,x,h,h'=>by
  unfold Yi at h;subst h;cases e <;> unfold Yi at h' <;> first | (obtain⟨a,xs,q,_⟩:=h';cases q;done) | (cases h';rfl) | (cases h';done)
 | .str b,e,x,h,h'=>by
  unfold Yi at h;subst h;cases e <;> unfold Yi at h' <;> first | (obtain⟨a,xs,q,_⟩:=h';cases q;done) | (cases h';rfl) | (cases h';done)
 | .tup ds,e,x,h,h'=>by
  unfold Yi at h;obtain⟨a,xs,rfl,hs,hr⟩:=h;cases e with
  | tup es =>
   unfold Yi at h';obtain⟨b,ys,q,hs',hr'⟩:=h';cases q;rw[I.tuple_inj hs' hs]at hr';rw[Et I ds es xs hr hr']
  | lst es =>
   unfold Yi at h';obtain⟨b,ys,q,hs',hr'⟩:=h';cases q;exact(G2 I hs' hs).elim
  | _=>unfold Yi at h';cases h'
 | .lst ds,e,x,h,h'=>by
  unfold Yi at h;obtain⟨a,xs,rfl,hs,hr⟩:=h;cases e with
  | lst es =>
   unfold Yi at h';obtain⟨b,ys,q,hs',hr'⟩:=h';cases q;rw[I.list_inj hs' hs]at hr';rw[Et I ds es xs hr hr']
  | tup es =>
   unfold Yi at h';obtain⟨b,ys,q,hs',hr'⟩:=h';cases q;exact(G2 I hs hs').elim
  | _=>unfold Yi at h';cases h'
theorem Et(I:Yc X Ya σ H s):∀(ds es:List Dv) (xs:List V),Ye X.K H ds xs->Ye X.K H es xs->ds=es
 | [],es,xs,h,h'=>by
  unfold Ye at h;subst h;cases es with
  | nil=>rfl
  | cons e es=>unfold Ye at h';obtain⟨x,r,q,_⟩:=h';cases q
 | d::ds,es,xs,h,h'=>by
  unfold Ye at h;obtain⟨x,r,rfl,h1,h2⟩:=h;cases es with
  | nil=>unfold Ye at h';cases h'
  | cons e es =>
   unfold Ye at h';obtain⟨y,r',q,h3,h4⟩:=h';cases q;rw[Ee I d e _ h1 h3,Et I ds es _ h2 h4]
end
noncomputable abbrev Eq3(A:Around)(s:Shared)(u v:Value)(b:Bool):Prop:=SeqAt.EqAt A s u v b/\SeqAt.RcAt A s u v b/\SeqAt.RcNeAt A s u v (!b)
theorem M2 {b:Addr} {ys:List V} {es:List Dv} (I:Yc X Ya σ H s) (hu:A.units < cLine) (ha:Yq X.K H a xs) (hb:Yq X.K H b ys) (hd:Ye X.K H ds xs) (he:Ye X.K H es ys)
 (ih:∀(i:Nat) (d e:Dv) (x y:V) (u v:Value),ds[i]? = some d->es[i]? = some e->xs[i]? = some x->ys[i]? = some y->Yh x u->Yh y v->SeqAt.EqAt A.in1 s u v (eqD d e)):Eq3 A s (.ref a) (.ref b) (eqD (.tup ds) (.tup es)):=by
 obtain⟨Yd,r1,p1,_⟩:=I.tuple ha;obtain⟨its2,r2,p2,_⟩:=I.tuple hb;have l1:=hd.length;have l2:=he.length;have l3:=r1.length;have l4:=r2.length
 have hitem:∀j (h1:j < Yd.toArray.size) (h2:j < its2.toArray.size),SeqAt.EqAt A.in1 s Yd.toArray[j] its2.toArray[j] (match ds[j]?,es[j]? with | some d,some e=>eqD d e | _,_=>false):=fun j h1 h2=>by
  rw[ZE]at h1 h2;have e1:ds[j]? = some ds[j]:=ZN (by lia);have e2:es[j]? = some es[j]:=ZN (by lia);have e3:xs[j]? = some xs[j]:=ZN (by lia);have e4:ys[j]? = some ys[j]:=ZN (by lia);obtain⟨u,q1,q2⟩:=r1.get e3;obtain⟨v,q3,q4⟩:=r2.get e4;rw[e1,e2];have z1:Yd.toArray[j]=u:=by rw[ZBD];rw[ZN h1]at q1;exact ZR q1
  have z2:its2.toArray[j]=v:=by rw[ZBD];rw[ZN h2]at q3;exact ZR q3
  rw[z1,z2];exact ih j _ _ _ _ _ _ e1 e2 e3 e4 q2 q4
 have val:((List.range (min Yd.toArray.size its2.toArray.size)).all (fun j=>match ds[j]?,es[j]? with | some d,some e=>eqD d e | _,_=>false) && Yd.toArray.size == its2.toArray.size)=eqD (.tup ds) (.tup es):=by
  rw[ZE,ZE,<- l3,<- l4,<- l1,<- l2,JQ]
  by_cases h:ds.length=es.length
  ·rw[h,Nat.min_self,<- h,Dw ds es h];simp
  ·rw[EI ds es h]
   have:(ds.length == es.length)=false:=by simpa using h
   rw[this,Bool.and_false]
 have R:=SeqAt.RcAt.tuples (A:=A) p1 p2 hu hitem;have N:=SeqAt.RcNeAt.tuples (A:=A) p1 p2 hu hitem;rw[val]at R N;refine⟨?_,R,N⟩
 by_cases hab:a=b
 ·subst hab
  have e:ds=es:=by
   have:=Ee I (.tup ds) (.tup es) (.ref a) (by unfold Yi;exact⟨a,xs,rfl,ha,hd⟩) (by unfold Yi;exact⟨a,ys,rfl,hb,he⟩)
   cases this;rfl
  subst e;rw[D4];exact SeqAt.EqAt.same _
 ·exact .of_refs hab R
theorem LK {b:Addr} {ys:List V} {es:List Dv} (I:Yc X Ya σ H s) (hu:A.units < cLine) (ha:Yr X.K H a xs) (hb:Yr X.K H b ys) (hd:Ye X.K H ds xs) (he:Ye X.K H es ys)
 (ih:∀(i:Nat) (d e:Dv) (x y:V) (u v:Value),ds[i]? = some d->es[i]? = some e->xs[i]? = some x->ys[i]? = some y->Yh x u->Yh y v->SeqAt.EqAt A.in1 s u v (eqD d e)):Eq3 A s (.ref a) (.ref b) (eqD (.lst ds) (.lst es)):=by
 obtain⟨Yd,r1,p1,_⟩:=I.list ha;obtain⟨its2,r2,p2,_⟩:=I.list hb;have l1:=hd.length;have l2:=he.length;have l3:=r1.length;have l4:=r2.length
 have hitem:∀j (h1:j < Yd.toArray.size) (h2:j < its2.toArray.size),SeqAt.EqAt A.in1 s Yd.toArray[j] its2.toArray[j] (match ds[j]?,es[j]? with | some d,some e=>eqD d e | _,_=>false):=fun j h1 h2=>by
  rw[ZE]at h1 h2;have e1:ds[j]? = some ds[j]:=ZN (by lia);have e2:es[j]? = some es[j]:=ZN (by lia);have e3:xs[j]? = some xs[j]:=ZN (by lia);have e4:ys[j]? = some ys[j]:=ZN (by lia);obtain⟨u,q1,q2⟩:=r1.get e3;obtain⟨v,q3,q4⟩:=r2.get e4;rw[e1,e2];have z1:Yd.toArray[j]=u:=by rw[ZBD];rw[ZN h1]at q1;exact ZR q1
  have z2:its2.toArray[j]=v:=by rw[ZBD];rw[ZN h2]at q3;exact ZR q3
  rw[z1,z2];exact ih j _ _ _ _ _ _ e1 e2 e3 e4 q2 q4
 have RN:SeqAt.RcAt A s (.ref a) (.ref b) (eqD (.lst ds) (.lst es))/\SeqAt.RcNeAt A s (.ref a) (.ref b) (!eqD (.lst ds) (.lst es)):=by
  by_cases h:ds.length=es.length
  ·have hsz:Yd.toArray.size=its2.toArray.size:=by rw[ZE,ZE];lia
   have val:(List.range Yd.toArray.size).all (fun j=>match ds[j]?,es[j]? with | some d,some e=>eqD d e | _,_=>false)=eqD (.lst ds) (.lst es):=by
    rw[Gm,ZE,<- l3,<- l1,Dw ds es h]
   have R:=SeqAt.RcAt.lists (A:=A) p1.isList p2.isList hsz hu hitem;have N:=SeqAt.RcNeAt.lists (A:=A) p1.isList p2.isList hsz hu hitem;rw[val]at R N;exact⟨R,N⟩
  ·have hsz:(Yd.toArray.size != its2.toArray.size)=true:=by rw[ZE,ZE];simp;lia
   have val:eqD (.lst ds) (.lst es)=false:=by rw[Gm];exact EI ds es h
   rw[val];exact⟨SeqAt.RcAt.lists_lengths p1.isList p2.isList hsz hu,SeqAt.RcNeAt.lists_lengths p1.isList p2.isList hsz hu⟩
 refine⟨?_,RN.1,RN.2⟩
 by_cases hab:a=b
 ·subst hab
  have e:ds=es:=by
   have:=Ee I (.lst ds) (.lst es) (.ref a) (by unfold Yi;exact⟨a,xs,rfl,ha,hd⟩) (by unfold Yi;exact⟨a,ys,rfl,hb,he⟩)
   cases this;rfl
  subst e;rw[D4];exact SeqAt.EqAt.same _
 ·exact .of_refs hab RN.1
theorem FV(I:Yc X Ya σ H s):∀(n:Nat) (A:Around) (d e:Dv) (x y:V) (u v:Value),AN d<=n->A.units+n < cLine->Yi X.K H d x->Yi X.K H e y->Yh x u->Yh y v->Eq3 A s u v (eqD d e):=by
 intro n
 induction n with
 | zero =>
  intro A d e x y u v hd hu hx hy ru rv;have hu':A.units < cLine:=by lia
  cases d with
  | tup ds=>unfold AN at hd;lia
  | lst ds=>unfold AN at hd;lia
  | non =>
   unfold Yi at hx;subst hx;cases ru;cases e <;> unfold Yi at hy
   case non=>subst hy;cases rv;exact⟨SeqAt.EqAt.same _,SeqAt.RcAt.none_none,SeqAt.RcNeAt.none_none⟩
   case bl=>subst hy;cases rv;exact⟨.none_bool _,.none_bool _,.none_bool _⟩
   case int=>subst hy;obtain⟨t,rfl⟩:=rv;exact⟨.none_int _ _,.none_int _ _,.none_int _ _⟩
   case str=>subst hy;obtain⟨t,rfl⟩:=rv;exact⟨.none_str _ _,.none_str _ _,.none_str _ _⟩
   case tup=>obtain⟨a,xs,rfl,ha,_⟩:=hy;cases rv;obtain⟨Yd,_,p,_⟩:=I.tuple ha;exact⟨.none_tuple p hu',.none_tuple p hu',.none_tuple p hu'⟩
   case lst=>obtain⟨a,xs,rfl,ha,_⟩:=hy;cases rv;obtain⟨Yd,_,p,_⟩:=I.list ha;exact⟨.none_list p.isList hu',.none_list p.isList hu',.none_list p.isList hu'⟩
  | bl c =>
   unfold Yi at hx;subst hx;cases ru;cases e <;> unfold Yi at hy
   case non=>subst hy;cases rv;exact⟨.bool_none _,.bool_none _,.bool_none _⟩
   case bl=>subst hy;cases rv;unfold eqD;exact⟨.bool_bool _ _,.bool_bool _ _,.bool_bool _ _⟩
   case int=>subst hy;obtain⟨t,rfl⟩:=rv;unfold eqD;exact⟨.bool_int _ _ _,.bool_int _ _ _,.bool_int _ _ _⟩
   case str=>subst hy;obtain⟨t,rfl⟩:=rv;exact⟨.bool_str _ _ _,.bool_str _ _ _,.bool_str _ _ _⟩
   case tup=>obtain⟨a,xs,rfl,ha,_⟩:=hy;cases rv;obtain⟨Yd,_,p,_⟩:=I.tuple ha;exact⟨.bool_tuple _ p hu',.bool_tuple _ p hu',.bool_tuple _ p hu'⟩
   case lst=>obtain⟨a,xs,rfl,ha,_⟩:=hy;cases rv;obtain⟨Yd,_,p,_⟩:=I.list ha;exact⟨.bool_list _ p.isList hu',.bool_list _ p.isList hu',.bool_list _ p.isList hu'⟩
  | int c =>
   unfold Yi at hx;subst hx;obtain⟨t0,rfl⟩:=ru;cases e <;> unfold Yi at hy
   case non=>subst hy;cases rv;exact⟨.int_none _ _,.int_none _ _,.int_none _ _⟩
   case bl=>subst hy;cases rv;unfold eqD;exact⟨.int_bool _ _ _,.int_bool _ _ _,.int_bool _ _ _⟩
   case int=>subst hy;obtain⟨t,rfl⟩:=rv;unfold eqD;exact⟨.int_int _ _ _ _,.int_int _ _ _ _,.int_int _ _ _ _⟩
   case str=>subst hy;obtain⟨t,rfl⟩:=rv;exact⟨.int_str _ _ _ _,.int_str _ _ _ _,.int_str _ _ _ _⟩
   case tup=>obtain⟨a,xs,rfl,ha,_⟩:=hy;cases rv;obtain⟨Yd,_,p,_⟩:=I.tuple ha;exact⟨.int_tuple _ _ p hu',.int_tuple _ _ p hu',.int_tuple _ _ p hu'⟩
   case lst=>obtain⟨a,xs,rfl,ha,_⟩:=hy;cases rv;obtain⟨Yd,_,p,_⟩:=I.list ha;exact⟨.int_list _ _ p.isList hu',.int_list _ _ p.isList hu',.int_list _ _ p.isList hu'⟩
  | str c =>
   unfold Yi at hx;subst hx;obtain⟨t0,rfl⟩:=ru;cases e <;> unfold Yi at hy
   case non=>subst hy;cases rv;exact⟨.str_none _ _,.str_none _ _,.str_none _ _⟩
   case bl=>subst hy;cases rv;exact⟨.str_bool _ _ _,.str_bool _ _ _,.str_bool _ _ _⟩
   case int=>subst hy;obtain⟨t,rfl⟩:=rv;exact⟨.str_int _ _ _ _,.str_int _ _ _ _,.str_int _ _ _ _⟩
   case str=>subst hy;obtain⟨t,rfl⟩:=rv;unfold eqD;exact⟨.str_str _ _ _ _,.str_str _ _ _ _,.str_str _ _ _ _⟩
   case tup=>obtain⟨a,xs,rfl,ha,_⟩:=hy;cases rv;obtain⟨Yd,_,p,_⟩:=I.tuple ha;exact⟨.str_tuple _ _ p hu',.str_tuple _ _ p hu',.str_tuple _ _ p hu'⟩
   case lst=>obtain⟨a,xs,rfl,ha,_⟩:=hy;cases rv;obtain⟨Yd,_,p,_⟩:=I.list ha;exact⟨.str_list _ _ p.isList hu',.str_list _ _ p.isList hu',.str_list _ _ p.isList hu'⟩
 | succ n ih =>
  intro A d e x y u v hd hu hx hy ru rv;have hu':A.units < cLine:=by lia
  have hin:A.in1.units+n < cLine:=by show A.units+1+n < cLine;lia
  cases d with
  | tup ds =>
   unfold AN at hd;unfold Yi at hx;obtain⟨a,xs,rfl,ha,hr⟩:=hx;cases ru;cases e <;> unfold Yi at hy
   case tup es =>
    obtain⟨b,ys,rfl,hb,hr'⟩:=hy;cases rv;refine M2 I hu' ha hb hr hr' fun i d e x y u v e1 e2 e3 e4 ru rv=>?_
    obtain⟨x',q1,q2⟩:=hr.get e1;obtain⟨y',q3,q4⟩:=hr'.get e2;rw[e3]at q1;cases q1;rw[e4]at q3;cases q3;exact(ih A.in1 d e x y u v (by have:=Fi e1;lia) hin q2 q4 ru rv).1
   case non=>subst hy;cases rv;obtain⟨Yd,_,p,_⟩:=I.tuple ha;exact⟨.tuple_none p hu',.tuple_none p hu',.tuple_none p hu'⟩
   case bl=>subst hy;cases rv;obtain⟨Yd,_,p,_⟩:=I.tuple ha;exact⟨.tuple_bool _ p hu',.tuple_bool _ p hu',.tuple_bool _ p hu'⟩
   case int=>subst hy;obtain⟨t,rfl⟩:=rv;obtain⟨Yd,_,p,_⟩:=I.tuple ha;exact⟨.tuple_int _ _ p hu',.tuple_int _ _ p hu',.tuple_int _ _ p hu'⟩
   case str=>subst hy;obtain⟨t,rfl⟩:=rv;obtain⟨Yd,_,p,_⟩:=I.tuple ha;exact⟨.tuple_str _ _ p hu',.tuple_str _ _ p hu',.tuple_str _ _ p hu'⟩
   case lst=>obtain⟨b,ys,rfl,hb,_⟩:=hy;cases rv;obtain⟨Yd,_,p,_⟩:=I.tuple ha;obtain⟨its2,_,p2,_⟩:=I.list hb;exact⟨.tuple_list p p2.isList hu',.tuple_list p p2.isList hu',.tuple_list p p2.isList hu'⟩
  | lst ds =>
   unfold AN at hd;unfold Yi at hx;obtain⟨a,xs,rfl,ha,hr⟩:=hx;cases ru;cases e <;> unfold Yi at hy
   case lst es =>
    obtain⟨b,ys,rfl,hb,hr'⟩:=hy;cases rv;refine LK I hu' ha hb hr hr' fun i d e x y u v e1 e2 e3 e4 ru rv=>?_
    obtain⟨x',q1,q2⟩:=hr.get e1;obtain⟨y',q3,q4⟩:=hr'.get e2;rw[e3]at q1;cases q1;rw[e4]at q3;cases q3;exact(ih A.in1 d e x y u v (by have:=Fi e1;lia) hin q2 q4 ru rv).1
   case non=>subst hy;cases rv;obtain⟨Yd,_,p,_⟩:=I.list ha;exact⟨.list_none p.isList hu',.list_none p.isList hu',.list_none p.isList hu'⟩
   case bl=>subst hy;cases rv;obtain⟨Yd,_,p,_⟩:=I.list ha;exact⟨.list_bool _ p.isList hu',.list_bool _ p.isList hu',.list_bool _ p.isList hu'⟩
   case int=>subst hy;obtain⟨t,rfl⟩:=rv;obtain⟨Yd,_,p,_⟩:=I.list ha;exact⟨.list_int _ _ p.isList hu',.list_int _ _ p.isList hu',.list_int _ _ p.isList hu'⟩
   case str=>subst hy;obtain⟨t,rfl⟩:=rv;obtain⟨Yd,_,p,_⟩:=I.list ha;exact⟨.list_str _ _ p.isList hu',.list_str _ _ p.isList hu',.list_str _ _ p.isList hu'⟩
   case tup=>obtain⟨b,ys,rfl,hb,_⟩:=hy;cases rv;obtain⟨Yd,_,p,_⟩:=I.list ha;obtain⟨its2,_,p2,_⟩:=I.tuple hb;exact⟨.list_tuple p.isList p2 hu',.list_tuple p.isList p2 hu',.list_tuple p.isList p2 hu'⟩
  | non=>exact ih A .non e x y u v (by unfold AN;lia) (by lia) hx hy ru rv
  | bl c=>exact ih A (.bl c) e x y u v (by unfold AN;lia) (by lia) hx hy ru rv
  | int c=>exact ih A (.int c) e x y u v (by unfold AN;lia) (by lia) hx hy ru rv
  | str c=>exact ih A (.str c) e x y u v (by unfold AN;lia) (by lia) hx hy ru rv
end
section
variable {X:Cx}
noncomputable def mEq(neg:Bool)(K:W.Frag):R2:=fun x y H Q=>match x,y with
 | .non,.non=>Q (.bl (neg ^^ true)) H
 | .bl a,.bl b=>Q (.bl (neg ^^ (a == b))) H
 | .int a,.int b=>Q (.bl (neg ^^ (a == b))) H
 | .str a,.str b=>Q (.bl (neg ^^ (a == b))) H
 | x,y=>∃d e,Yi K H d x/\Yi K H e y/\AN d<=60/\Q (.bl (neg ^^ eqD d e)) H
theorem Jq(hu:X.A.units+60 < cLine):Yp X (compareOp .Eq) (fun x y H Q=>∃d e,Yi X.K H d x/\Yi X.K H e y/\AN d<=60/\Q (.bl (eqD d e)) H):=by
 intro Ya s σ H x y v u Q I rx ry h;obtain⟨d,e,h1,h2,h3,q⟩:=h;exact(FV I 60 X.A d e x y v u h3 hu h1 h2 rx ry).2.1 X.prog X.w _ _ ⟨.bl _,H,I,rfl,q⟩
theorem K3(hu:X.A.units+60 < cLine):Yp X (compareOp .NotEq) (fun x y H Q=>∃d e,Yi X.K H d x/\Yi X.K H e y/\AN d<=60/\Q (.bl (!eqD d e)) H):=by
 intro Ya s σ H x y v u Q I rx ry h;obtain⟨d,e,h1,h2,h3,q⟩:=h;exact(FV I 60 X.A d e x y v u h3 hu h1 h2 rx ry).2.2 X.prog X.w _ _ ⟨.bl _,H,I,rfl,q⟩
theorem GC{neg:Bool}{x y:V}{Q:VK}(h:mEq neg K x y H Q):∃d e,Yi K H d x/\Yi K H e y/\AN d<=60/\Q (.bl (neg ^^ eqD d e)) H:=by
 unfold mEq at h;split at h
 ·exact⟨.non,.non,by unfold Yi;rfl,by unfold Yi;rfl,by unfold AN;lia,by unfold eqD;exact h⟩
 ·rename_i a b;exact⟨.bl a,.bl b,by unfold Yi;rfl,by unfold Yi;rfl,by unfold AN;lia,by unfold eqD;exact h⟩
 ·rename_i a b;exact⟨.int a,.int b,by unfold Yi;rfl,by unfold Yi;rfl,by unfold AN;lia,by unfold eqD;exact h⟩
 ·rename_i a b;exact⟨.str a,.str b,by unfold Yi;rfl,by unfold Yi;rfl,by unfold AN;lia,by unfold eqD;exact h⟩
 ·exact h
theorem J0(hu:X.A.units+60 < cLine):Yp X (compareOp .Eq) (mEq false X.K):=(Jq hu).imp fun x y H Q h=>by
 obtain⟨d,e,h1,h2,h3,q⟩:=GC h;exact⟨d,e,h1,h2,h3,by rw[Ze]at q;exact q⟩
theorem LA(hu:X.A.units+60 < cLine):Yp X (compareOp .NotEq) (mEq true X.K):=(K3 hu).imp fun x y H Q h=>by
 obtain⟨d,e,h1,h2,h3,q⟩:=GC h;exact⟨d,e,h1,h2,h3,by rw[Bool.true_xor]at q;exact q⟩
end
section
variable {X:Cx}{a b c e:Expr}{es:List Expr}{ta tb tc te:TE}{tA tB':TT}{t:TA}{pos p:Pos}{x:Str}
noncomputable def isB(v:V)(Q:Bool->Prop):Prop:=match v with
 | .bl c=>Q c
 | _=>False
theorem Da{Q:Bool->Prop}(h:isB v Q):∃c,v=.bl c/\Q c:=by
 cases v <;> first | exact False.elim h | exact⟨_,rfl,h⟩
noncomputable def AY(t:TE):Prop:=∀σ H (Q Q':VK),(∀v H,Q v H->Q' v H)->t σ H Q->t σ H Q'
noncomputable def uB(t:TE):TT:=fun σ H Q=>t σ H fun x H1=>isB x fun c=>Q c H1
theorem AQ{op:CmpOp}(ho:Yp X (compareOp op) r)(ha:PE X a ta)(hb:PE X b tb)(hm:behindInMarks op b=false:=by first | exact EB _ (by decide) (by decide) | rfl):PT X (.Compare a [op] [b] pos) (uB (tOp r ta tb)):=by
 intro Ya s σ H Q I h
 refine wpAny_isTrue_Compare1 (Yk (ha Ya s σ H _ I h) fun v s1 ⟨x,H1,I1,r1,q1⟩=>Yk (hb Ya s1 σ H1 _ I1 q1) fun u s2 ⟨y,H2,I2,r2,q2⟩ =>
  Yk (ho Ya s2 σ H2 x y v u _ I2 r1 r2 q2) fun c s3 ⟨z,H3,I3,r3,q⟩=>?_) hm
 obtain⟨k,e,q3⟩:=Da q;subst e;cases r3;exact wpAny_truthy_bool ⟨H3,I3,q3⟩
theorem GJ{op:CmpOp}(ho:Yp X (compareOp op) r)(ha:PE X a ta)(hb:PE X b tb)(hm:behindInMarks op b=false:=by first | exact EB _ (by decide) (by decide) | rfl):PE X (.Compare a [op] [b] pos) (tOp r ta tb):=MI ho ha hb hm
theorem Cq(h:PE X e te)(he:∀whole,isTrue e X.env whole=(do let v <- whole;standAt e.pos;holding [v] (truthy v)):=by intro _;rfl):PT X e (uB te):=by
 intro Ya s σ H Q I hq;refine isTrue_plain (Yk (h Ya s σ H _ I hq) fun v s1 ⟨x,H1,I1,r1,q1⟩=>?_) (he _);obtain⟨k,e,q⟩:=Da q1;subst e;cases r1;exact wpAny_truthy_bool ⟨H1,I1,q⟩
noncomputable def vOr(ta tb:TE):TE:=fun σ H Q=>ta σ H fun x H1=>isB x fun c=>if c=true then Q (.bl true) H1 else tb σ H1 Q
theorem Ng(ha:PE X a ta)(hb:PE X (.BoolOp .Or (b::es) pos) tb):PE X (.BoolOp .Or (a::b::es) pos) (vOr ta tb):=by
 have ha':PE X a (fun σ H Q=>ta σ H fun x H1=>isB x fun c=>Q (.bl c) H1):=fun Ya s σ H Q I h=>Yk (ha Ya s σ H _ I h) fun v s1 ⟨x,H1,I1,r1,q1⟩=>by
  obtain⟨c,e,q⟩:=Da q1;subst e;exact⟨.bl c,H1,I1,r1,q⟩
 have h:=KN (pos:=pos) ha' hb
 exact h.imp fun σ H Q q=>by
  show ta σ H fun x H1=>isB x fun c=>∃c',V.bl c=.bl c'/\if c'=true then Q (.bl true) H1 else tb σ H1 Q
  have e:(fun(x:V) (H1:Hp)=>isB x fun c=>∃c',V.bl c=.bl c'/\if c'=true then Q (.bl true) H1 else tb σ H1 Q)=fun x H1=>isB x fun c=>if c=true then Q (.bl true) H1 else tb σ H1 Q:=by
   funext x H1
   cases x <;> first | rfl | (apply propext;constructor;(rintro⟨c',e,h⟩;cases e;exact h);(intro h;exact⟨_,rfl,h⟩))
  rw[e];exact q
noncomputable def SqA(K:W.Frag)(H:Hp)(p:Addr)(xs:List V):Prop:=Yr K H p xs\/Yq K H p xs
noncomputable def mIx(K:W.Frag):R2:=fun x y H Q=>match x,y with
 | .ref p,.int i=>∃xs v,SqA K H p xs/\atI xs i=some v/\Q v H
 | .str z,.int i=>∃c,z.length<=sizeLine/\atI z.cps.toList i=some c/\Q (.str ⟨#[c]⟩) H
 | _,_=>False
theorem IxR.imp{r':R2}(h:IxR X r)(g:∀x y H Q,r' x y H Q->r x y H Q):IxR X r':=fun a b Ya s σ H x y v u Q I rx ry q z=>h a b Ya s σ H x y v u Q I rx ry (g _ _ _ _ q) z
theorem Jj:IxR X (mIx X.K):=ix_seq.imp fun x y H Q q=>by
 cases x <;> cases y <;> first
  | exact False.elim q
  | (obtain⟨xs,v,h | h,e,q⟩:=q
     ·exact .inl ⟨_,xs,_,v,rfl,rfl,h,e,q⟩
     ·exact .inr (.inl ⟨_,xs,_,v,rfl,rfl,h,e,q⟩))
  | (obtain⟨c,hz,e,q⟩:=q
     exact .inr (.inr ⟨_,_,c,rfl,rfl,hz,e,q⟩))
theorem M3(ha:PE X a ta)(hb:PE X b tb)(hs:Eo b:=by intro _ _;rfl):PE X (.Subscript a b pos) (tOp (mIx X.K) ta tb):=Iu Jj ha hb hs
noncomputable def CY(K:W.Frag):List V->Hp->VK->Prop:=fun xs H Q=>match xs with
 | [x]=>∃n,Gr K x H n/\Q (.int n) H
 | _=>False
theorem MB:CallR X (.builtin "len") (CY X.K):=call_len.imp fun xs H Q q=>by
 match xs,q with
 | [x],⟨n,h,q⟩=>exact⟨x,n,rfl,h,q⟩
noncomputable def EA:List V->Hp->VK->Prop:=fun xs H Q=>match xs with
 | [.int i,.int j]=>Q (.int (max i j)) H
 | _=>False
theorem LW(hc:X.calm=true):CallR X (.builtin "max") EA:=(L9 hc).imp fun xs H Q q=>by
 match xs,q with
 | [.int i,.int j],q =>
  refine⟨i,j,rfl,?_⟩;have e:(if j > i then j else i)=max i j:=by split <;> lia
  rw[e];exact q
noncomputable def Cv(K:W.Frag):List V->Hp->VK->Prop:=fun xs H Q=>match xs with
 | [.ref p]=>∃ys,(Yr K H p ys/\∀l,H l=none->Q (.ref l) (upd H l (.tup ys)))\/(Yq K H p ys/\Q (.ref p) H)
 | _=>False
theorem MA:CallR X (.type "tuple") (Cv X.K):=call_tuple_of.imp fun xs H Q q=>by
 match xs,q with
 | [.ref p],⟨ys,q⟩=>exact⟨p,ys,rfl,q⟩
end
noncomputable def Co(scope sc:Scope):Bool :=
 decide (scope.kind=.function) && decide (scope.names.map (·.1)).Nodup && scope.names.all fun y=>!(y.2 == .free) || (sc.names.lookup y.1 == some .cell || sc.names.lookup y.1 == some .free)
theorem CompScope.of{scope sc:Scope}(h:Co scope sc=true):CompScope scope sc:=by
 unfold Co at h;rw[ZZ,ZZ]at h;obtain⟨⟨h1,h2⟩,h3⟩:=h;refine⟨Za h1,Za h2,fun y hy hf=>?_⟩
 have:=ZBE.mp h3 y hy
 rw[hf]at this
 rcases(Z0 _ _).mp this with z | z
 ·exact absurd z (by decide)
 ·rcases(Z0 _ _).mp z with z | z
  ·exact .inl (by simpa using z)
  ·exact .inr (by simpa using z)
section
variable {X:Cx}{tg iter elt:Expr}{ifs:List Expr}{scope:Scope}{pos:Pos}{N':List Str}{own:Nat}{ix:List Nat}{g:TG}{tc:TT}{te:TE}{wi:TI}
theorem frB{l:List Str}(h:(l.all fun x=>scope.names.lookup x == some .free)=true):∀x∈l,scope.names.lookup x=some .free:=fun x hx=>by
 have:=ZBE.mp h x hx
 simpa using this
theorem Gk (hc:X.calm=true) (hi:PI X tg iter wi) (S:Co scope X.env.scope=true)
 (Yl:N'.length=own+ix.length) (hN:(N'.drop own).map some=ix.map (X.N[·]?)) (hfr:((N'.drop own).all fun x=>scope.names.lookup x == some .free)=true)
 (hg:∀c,PG (X.comp scope N' c) tg g) (hgo:Bv own g) (ht:∀c,PTs (X.comp scope N' c) ifs tc) (he:∀c,PE (X.comp scope N' c) elt te)
 (hs:∀x,foldedSetIterable iter X.env x=pure x:=by intro _;rfl):PE X (.ListComp elt [⟨tg,iter,ifs,0⟩] scope pos) (DH wi own ix g tc te) :=
 MK hc hi (.of S) Yl hN (frB hfr) hg hgo ht he hs
noncomputable def Dd(K:W.Frag)(tl:TE):TI:=fun σ H R=>tl σ H fun x H1=>match x with
 | .ref a=>((∃xs,Yr K H1 a xs)/\R (Itl K a) H1)\/((∃xs,Yq K H1 a xs)/\R (Itt K a) H1)
 | _=>False
theorem NY{l:Expr}{tl:TE}(hl:PE X l tl):PI X tg l (Dd X.K tl):=by
 intro Ya s σ H R I h;refine Yk (hl Ya s σ H _ I h) fun v s1 ⟨x,H1,I1,r1,q1⟩=>?_
 cases x with
 | ref a =>
  cases r1
  rcases q1 with ⟨⟨xs,hq⟩,q⟩ | ⟨⟨xs,hq⟩,q⟩
  ·obtain⟨Yd,rv,p,hz⟩:=I1.list hq;refine wpAny_pyIter_list p.isList ?_;refine⟨s1.heap.objs.size,[s1.heap.objs.size],_,_,H1,rfl,I1.kept (t':=s1.toks) fun b o e=>ZJ _ e,Ik a _,⟨_,ZT _ rfl,rfl,rfl⟩,fun b hb=>?_,q⟩;have e:b=s1.heap.objs.size:=by simpa using hb
   subst e;exact I1.fpOk (ZD _) (I1.hok.fresh (ZD _))
  ·obtain⟨Yd,rv,p,hz⟩:=I1.tuple hq;refine wpAny_pyIter_tuple (show s1.heap.IsTuple a Yd.toArray from p) ?_;refine⟨s1.heap.objs.size,[s1.heap.objs.size],_,_,H1,rfl,I1.kept (t':=s1.toks) fun b o e=>ZJ _ e,Jy a _,⟨_,ZT _ rfl,rfl,rfl⟩,fun b hb=>?_,q⟩;have e:b=s1.heap.objs.size:=by simpa using hb
   subst e;exact I1.fpOk (ZD _) (I1.hok.fresh (ZD _))
 | _=>exact False.elim q1
noncomputable def DN:B8:=fun o i v H Q=>match o,i with
 | .ref p,.int k=>∃xs j,H p=some (.lst xs)/\ixN xs.length k=some j/\Q (upd H p (.lst (xs.set j v)))
 | _,_=>False
theorem C8:E3 X DN:=by
 intro Ya s σ H o i v ov iv u Q I ro ri rv h
 cases o <;> cases i <;> first
  | exact False.elim h
  | (obtain⟨xs,j,h1,h2,q⟩:=h
     exact LR Ya s σ H _ _ v ov iv u Q I ro ri rv ⟨_,xs,_,j,rfl,rfl,h1,h2,q⟩)
theorem Ih {σc:St} {Q:VK} (Pv:Nat->List V->Hp->Prop) (h0:Pv 0 [] H) (hl:∀i ys H,i<=xs.length->Pv i ys H->Yr K H a xs) (hz:∀i ys H,i < xs.length->Pv i ys H->ys.length < sizeLine)
 (hs:∀i x ys H,xs[i]? = some x->Pv i ys H->g x σc H fun σ2 H2=>tc σ2 H2 fun b H3=>if b=true then te σ2 H3 fun y H4=>Pv (i+1) (ys++[y]) H4 else Pv (i+1) ys H3)
 (hd:∀ys H,Pv xs.length ys H->∀p,H p=none->Q (.ref p) (upd H p (.lst ys))):CS (Itl K a) g tc te σc Q H:=by
 refine⟨fun i m ys H=>m=xs.length - i/\i<=xs.length/\Pv i ys H,⟨xs.length,by simp,ZK _,h0⟩,?_⟩;rintro i m ys H ⟨rfl,hi,p⟩;have q:=hl i ys H hi p
 by_cases Yo:i < xs.length
 ·refine .inr ⟨⟨xs,xs[i],q,by simp[Yo]⟩,hz i ys H Yo p,Pv (i+1),fun ys' H' p'=>⟨xs.length - (i+1),by lia,rfl,Yo,p'⟩,fun x H' y=>?_⟩;obtain⟨e,y⟩:=y;subst e;exact hs i x ys _ (y xs q) p
 ·have e:i=xs.length:=by lia
  subst e;exact .inl ⟨⟨xs,q,ZD _⟩,hd ys H p⟩
theorem KY {lo:Int} {σc:St} {Q:VK} (Pv:Nat->List V->Hp->Prop) (h0:Pv 0 [] H) (hz:∀i ys H,i < n->Pv i ys H->ys.length < sizeLine)
 (hs:∀i ys H,i < n->Pv i ys H->g (.int (lo+i)) σc H fun σ2 H2=>tc σ2 H2 fun b H3=>if b=true then te σ2 H3 fun y H4=>Pv (i+1) (ys++[y]) H4 else Pv (i+1) ys H3)
 (hd:∀ys H,Pv n ys H->∀p,H p=none->Q (.ref p) (upd H p (.lst ys))):CS (Itr lo n) g tc te σc Q H:=by
 refine⟨fun i m ys H=>m=n - i/\i<=n/\Pv i ys H,⟨n,by simp,ZK _,h0⟩,?_⟩;rintro i m ys H ⟨rfl,hi,p⟩
 by_cases Yo:i < n
 ·refine .inr ⟨Yo,hz i ys H Yo p,Pv (i+1),fun ys' H' p'=>⟨n - (i+1),by lia,rfl,Yo,p'⟩,fun x H' y=>?_⟩;obtain⟨e,y⟩:=y;subst e y;exact hs i ys _ Yo p
 ·have e:i=n:=by lia
  subst e;exact .inl ⟨ZD _,hd ys H p⟩
noncomputable def L8(c:TT)(tb:TS):TS:=fun D σ H=>∃W:Nat->St->Hp->Prop,(∃m,W m σ H)/\∀m σ H,W m σ H ->
 c σ H fun b H1=>if b=true then tb { D with nx:=fun σ' H'=>∃m',m' < m/\W m' σ' H',ct:=fun σ' H'=>∃m',m' < m/\W m' σ' H',bk:=D.nx } σ H1 else D.nx σ H1
theorem Jh{c:Expr}{body:List Stmt}{tc:TT}{tb:TS}(hp:PassesOwn (model X.prog X.w) X.A X.env X.xe)(hc:PT X c tc)(hb:PSs X body tb):PS X (.While c body [] pos) (L8 tc tb):=by
 intro Ya s σ H D I h;obtain⟨W,⟨m0,w0⟩,turn⟩:=h;refine wpAny_While (codeAny_whileLoop (fun n s'=>∃σ' H',Yc X Ya σ' H' s'/\W n σ' H') ?_ m0 ⟨σ,H,I,w0⟩);rintro n s1 ⟨σ1,H1,I1,w1⟩;refine wpAny_passesOwn hp (Yk (hc Ya s1 σ1 H1 _ I1 (turn n σ1 H1 w1)) fun b s2 ⟨H2,I2,q2⟩=>?_);cases b with
 | true =>
  rw[if_pos rfl]at q2;rw[if_pos rfl];refine wpAny_passesOwn hp (Yk (hb Ya s2 σ1 H2 _ I2 q2) fun f s3 q3=>?_);cases f with
  | next =>
   obtain⟨σ3,H3,I3,m',hm,w3⟩:=q3;exact⟨m',hm,σ3,H3,I3,w3⟩
  | cont =>
   obtain⟨σ3,H3,I3,m',hm,w3⟩:=q3;exact⟨m',hm,σ3,H3,I3,w3⟩
  | brk=>exact q3
  | ret v=>exact q3
 | false =>
  rw[if_neg ZX]at q2;rw[if_neg ZX];exact wpAny_execs_nil ⟨σ1,H2,I2,q2⟩
end
theorem Ar{k:Nat}(hr:Room k A):A.units+60 < cLine:=by have:=hr.un;lia
noncomputable def Ym(t:Addr)(H H':Hp):Prop:=∀b o,b≠t->H b=some o->H' b=some o
theorem Ym.refl:Ym t H H:=fun _ _ _ h=>h
theorem Ym.trans{H1 H2:Hp}(a:Ym t H H1)(b:Ym t H1 H2):Ym t H H2:=fun c o n h=>b c o n (a c o n h)
theorem Ym.upd{o:HO}(h:H p=none):Ym t H (upd H p o):=fun b u _ e=>by rw[AG (A8 e h)];exact e
theorem Ym.updT{o:HO}:Ym t H (L2.upd H t o):=fun b u n e=>by rw[AG n];exact e
theorem Yf.upd{o:HO}(h:H p=none):Yf H (L2.upd H p o):=fun b u e=>by rw[AG (A8 e h)];exact e
theorem Yf.frm(h:Yf H H'):Ym t H H':=fun b o _ e=>h b o e
theorem Ju(h:Yr K H a xs)(k:∀o,H a=some o->H' a=some o):Yr K H' a xs:=by
 rcases h with (h | ⟨o,h⟩) | h
 ·exact .inl (.inl (k _ h))
 ·exact .inl (.inr ⟨o,k _ h⟩)
 ·exact .inr h
theorem Fj(h:Yq K H a xs)(k:∀o,H a=some o->H' a=some o):Yq K H' a xs:=by
 rcases h with (h | ⟨o,h⟩) | h
 ·exact .inl (.inl (k _ h))
 ·exact .inl (.inr ⟨o,k _ h⟩)
 ·exact .inr h
noncomputable def ScrAt(K:W.Frag)(H:Hp)(t a:Addr)(ns:List Int):Prop :=
 (Rd H a (.lst (ns.map V.int))/\a≠t)\/∃(o:Obj) (Yd:Array Value) (n:Nat),K.lookup a=some o/\o.cls=.type "list" /\ o.dict=none/\o.data=.seq Yd n/\Yd.size<=sizeLine/\Yg (ns.map V.int) Yd.toList
theorem ScrAt.sq(h:ScrAt K H t a ns):Yr K H a (ns.map V.int):=by
 rcases h with ⟨h,_⟩ | h
 ·exact .inl h
 ·exact .inr h
theorem ScrAt.stay(h:ScrAt K H t a ns)(k:∀o,a≠t->H a=some o->H' a=some o):ScrAt K H' t a ns:=by
 rcases h with ⟨h | ⟨o,h⟩,n⟩ | h
 ·exact .inl ⟨.inl (k _ n h),n⟩
 ·exact .inl ⟨.inr ⟨o,k _ n h⟩,n⟩
 ·exact .inr h
theorem ScrAt.of(h:Yr K H a (ns.map V.int))(ht:H t=none):ScrAt K H t a ns:=by
 rcases h with h | h
 ·refine .inl ⟨h,fun e=>?_⟩;subst e
  rcases h with h | ⟨o,h⟩ <;> rw[ht]at h <;> cases h
 ·exact .inr h
structure Tape(K:W.Frag)(H:Hp)(t a:Addr)(ns:List Int):Prop where
 at_:∃i r c:Int,0<=i/\0<=r/\H t=some (.lst [.ref a,.int i,.int r,.int c])
 scr:ScrAt K H t a ns
theorem Tape.same(T:Tape K H t a ns)(h:Yf H H'):Tape K H' t a ns:=by
 obtain⟨i,r,c,h1,h2,h3⟩:=T.at_;exact⟨⟨i,r,c,h1,h2,h _ _ h3⟩,T.scr.stay fun o _ e=>h a o e⟩
theorem Tape.upd{o:HO}(T:Tape K H t a ns)(h:H p=none):Tape K (L2.upd H p o) t a ns:=T.same (Yf.upd h)
theorem Tape.neT(T:Tape K H t a ns)(hp:H p=none):p≠t:=fun e=>by
 obtain⟨i,r,c,_,_,h3⟩:=T.at_;rw[e,h3]at hp;cases hp
noncomputable def CC(K:W.Frag):Sp:=fun vs H Q _=>match vs with
 | [.ref t,.int m]=>∃a ns,Tape K H t a ns/\okDiv m/\∀d H',0<=d->d < m->Tape K H' t a ns->(∀b,b≠t->H' b=H b)->Q (.int d) H'
 | _=>False
noncomputable def DR(K:W.Frag):Sp:=fun vs H Q _=>match vs with
 | [.ref a]=>∀p,H p=none->Q (.ref p) (upd H p (.lst [.ref a,.int 0,.int 0,.int 0]))
 | _=>False
noncomputable def C7(K:W.Frag):Sp:=fun vs H Q _=>∃(a:Addr) (ns:List Int),vs=[.ref a]/\Yr K H a (ns.map V.int)/\ns.length<=63/\∀H',Q (.bl true) H'
theorem BX(h:i=(n:Int))(hx:xs[n]? = some v):atI xs i=some v:=by
 subst h;have hn:n < xs.length:=(Zg.mp hx).1;unfold atI ixN;rw[if_pos (Int.natCast_nonneg n),if_pos (by lia)];simpa using hx
theorem HE(h0:0<=i)(h1:i < ns.length):∃z,atI (ns.map V.int) i=some (.int z):=by
 obtain⟨n,rfl⟩:=Int.eq_ofNat_of_zero_le h0;have hn:n < ns.length:=by lia
 exact⟨ns[n],BX rfl (by rw[Zj,ZN hn];rfl)⟩
theorem JW(h:H p=none)(hs:Yr K H a (ns.map V.int)):Tape K (L2.upd H p (.lst [.ref a,.int 0,.int 0,.int 0])) p a ns :=
 ⟨⟨0,0,0,Int.le_refl _,Int.le_refl _,AD⟩,(ScrAt.of hs h).stay fun o n e=>by rw[AG n];exact e⟩
theorem By(h:∀b,b≠t->H' b=H b):Ym t H H':=fun b o n e=>by rw[h b n];exact e
theorem Ay{j:Int}(h1:0 < j)(h2:j<=2 ^ 1000):okDiv j:=⟨h1,Int.lt_of_le_of_lt h2 (by decide)⟩
theorem Ah(h:n<=1000):n<=sizeLine:=Zi (Bp h)
theorem smq(h:Nat.ble n 1000=true):n<=sizeLine:=Ah (Nat.le_of_ble_eq_true h)
noncomputable def BU(t:TT):Prop:=∀σ H (Q Q':Bool->Hp->Prop),(∀b H,Q b H->Q' b H)->t σ H Q->t σ H Q'
noncomputable def Be(t:TA):Prop:=∀σ H (Q Q':List V->Hp->Prop),(∀b H,Q b H->Q' b H)->t σ H Q->t σ H Q'
noncomputable def BM(r:R2):Prop:=∀x y H (Q Q':VK),(∀v H,Q v H->Q' v H)->r x y H Q->r x y H Q'
noncomputable def CP(r:List V->Hp->VK->Prop):Prop:=∀xs H (Q Q':VK),(∀v H,Q v H->Q' v H)->r xs H Q->r xs H Q'
noncomputable def Fv(r:V->List V->Hp->VK->Prop):Prop:=∀x xs H (Q Q':VK),(∀v H,Q v H->Q' v H)->r x xs H Q->r x xs H Q'
noncomputable def CM(sp:Sp):Prop:=∀vs H (Q Q':VK) E,(∀v H,Q v H->Q' v H)->sp vs H Q E->sp vs H Q' E
noncomputable def Ge(t:TI):Prop:=∀σ H (Q Q':It->Hp->Prop),(∀J H,Q J H->Q' J H)->t σ H Q->t σ H Q'
noncomputable def FZ(t:B8):Prop:=∀o i v H (Q Q':Hp->Prop),(∀H,Q H->Q' H)->t o i v H Q->t o i v H Q'
structure Ends.le(D D':Ends):Prop where
 nx:∀σ H,D.nx σ H->D'.nx σ H
 rt:∀v H,D.rt v H->D'.rt v H
 bk:∀σ H,D.bk σ H->D'.bk σ H
 ct:∀σ H,D.ct σ H->D'.ct σ H
noncomputable def BI(t:TS):Prop:=∀D D' σ H,Ends.le D D'->t D σ H->t D' σ H
theorem K6{i:Nat}:AY (C1 i):=fun σ H Q Q' h q=>by
 unfold C1 at *;split at q
 ·exact h _ _ q
 ·exact q.elim
theorem JP:AY (tC v):=fun _ _ _ _ h q=>h _ _ q
theorem Ip{ta tb:TE}(hr:BM r)(ha:AY ta)(hb:AY tb):AY (tOp r ta tb):=fun σ H Q Q' h q=>ha _ _ _ _ (fun _ _ q=>hb _ _ _ _ (fun _ _ q=>hr _ _ _ _ _ h q) q) q
theorem Ib{K}:BM (Bs K):=fun x y H Q Q' h q=>by
 unfold Bs at *;split at q
 ·exact h _ _ q
 ·exact⟨q.1,h _ _ q.2⟩
 ·rcases q with ⟨l,b,xs,zs,e1,e2,h1,h2,h3,q⟩ | ⟨a,b,xs,ys,e1,e2,h1,h2,h3,h4,q1,q2⟩
  ·exact .inl ⟨l,b,xs,zs,e1,e2,h1,h2,h3,fun p hp=>h _ _ (q p hp)⟩
  ·exact .inr ⟨a,b,xs,ys,e1,e2,h1,h2,h3,h4,fun e=>h _ _ (q1 e),fun e p hp=>h _ _ (q2 e p hp)⟩
 ·exact q.elim
theorem IT:BM Ek:=fun x y H Q Q' h q=>by unfold Ek at *;split at q <;> first | exact h _ _ q | exact q.elim
theorem Ja:BM DG:=fun x y H Q Q' h q=>by unfold DG at *;split at q <;> first | exact⟨q.1,h _ _ q.2⟩ | exact q.elim
theorem L7:BM Df:=fun x y H Q Q' h q=>by unfold Df at *;split at q <;> first | exact⟨q.1,h _ _ q.2⟩ | exact q.elim
theorem Kt:BM Ef:=fun x y H Q Q' h q=>by unfold Ef at *;split at q <;> first | exact⟨q.1,h _ _ q.2⟩ | exact q.elim
theorem KB{p}:BM (Cz p):=fun x y H Q Q' h q=>by unfold Cz at *;split at q <;> first | exact h _ _ q | exact q.elim
theorem IJ{n K}:BM (mEq n K):=fun x y H Q Q' h q=>by
 unfold mEq at *;split at q <;> first | exact h _ _ q | (obtain⟨d,e,h1,h2,h3,q⟩:=q;exact⟨d,e,h1,h2,h3,h _ _ q⟩)
theorem IL{K}:BM (mIx K):=fun x y H Q Q' h q=>by
 unfold mIx at *;split at q
 ·obtain⟨xs,v,h1,h2,q⟩:=q;exact⟨xs,v,h1,h2,h _ _ q⟩
 ·obtain⟨c,h1,h2,q⟩:=q;exact⟨c,h1,h2,h _ _ q⟩
 ·exact q.elim
theorem LB{Q Q':Bool->Prop}(h:∀b,Q b->Q' b)(q:isB v Q):isB v Q':=by
 cases v <;> first | exact h _ q | exact q
theorem Mq{t:TE}(h:AY t):BU (uB t):=fun σ H Q Q' k q=>h _ _ _ _ (fun _ _ q=>LB (fun b q=>k b _ q) q) q
theorem Jr{t:TT}{ta tb:TE}(ht:BU t)(ha:AY ta)(hb:AY tb):AY (tIf t ta tb):=fun σ H Q Q' h q=>ht _ _ _ _ (fun b _ q=>by
 cases b with
 | true=>exact ha _ _ _ _ h q
 | false=>exact hb _ _ _ _ h q) q
theorem Ly{t u:TT}(ht:BU t)(hu:BU u):BU (HW t u):=fun σ H Q Q' h q=>ht _ _ _ _ (fun b _ q=>by
 cases b with
 | true=>exact hu _ _ _ _ h q
 | false=>exact h _ _ q) q
theorem LC{t u:TT}(ht:BU t)(hu:BU u):BU (tOr t u):=fun σ H Q Q' h q=>ht _ _ _ _ (fun b _ q=>by
 cases b with
 | true=>exact h _ _ q
 | false=>exact hu _ _ _ _ h q) q
theorem KL:Be EU:=fun _ _ _ _ h q=>h _ _ q
theorem Lg{ta:TE}{t:TA}(ha:AY ta)(ht:Be t):Be (FN ta t):=fun σ H Q Q' h q=>ha _ _ _ _ (fun _ _ q=>ht _ _ _ _ (fun _ _ q=>h _ _ q) q) q
theorem Kw{r}{t:TA}(hr:CP r)(ht:Be t):AY (tCB r t):=fun σ H Q Q' h q=>ht _ _ _ _ (fun _ _ q=>hr _ _ _ _ h q) q
theorem M4{sp dvs E}{t:TA}(hs:CM sp)(ht:Be t):AY (GH sp dvs E t):=fun σ H Q Q' h q=>ht _ _ _ _ (fun _ _ q=>hs _ _ _ _ _ h q) q
theorem NR{t:TA}(ht:Be t):AY (FH t):=fun σ H Q Q' h q=>ht _ _ _ _ (fun _ _ q=>⟨q.1,fun p hp=>h _ _ (q.2 p hp)⟩) q
theorem Ic{t:TA}(ht:Be t):AY (Gg t):=fun σ H Q Q' h q=>ht _ _ _ _ (fun _ _ q=>⟨q.1,fun p hp=>h _ _ (q.2 p hp)⟩) q
theorem Ia{wi own ix g tc te}(hi:Ge wi):AY (DH wi own ix g tc te):=fun σ H Q Q' h q=>hi _ _ _ _ (fun J H1 q=>by
 obtain⟨W,w0,turn⟩:=q;refine⟨W,w0,fun i m ys H w=>?_⟩
 rcases turn i m ys H w with ⟨a,b⟩ | r
 ·exact .inl ⟨a,fun p hp=>h _ _ (b p hp)⟩
 ·exact .inr r) q
theorem IC{K}:CP (CY K):=fun xs H Q Q' h q=>by unfold CY at *;split at q <;> first | (obtain⟨n,a,q⟩:=q;exact⟨n,a,h _ _ q⟩) | exact q.elim
theorem JC:CP EA:=fun xs H Q Q' h q=>by unfold EA at *;split at q <;> first | exact h _ _ q | exact q.elim
theorem K7{K}:CP (Cv K):=fun xs H Q Q' h q=>by
 unfold Cv at *;split at q
 ·obtain⟨ys,⟨a,q⟩ | ⟨a,q⟩⟩:=q
  ·exact⟨ys,.inl ⟨a,fun l hl=>h _ _ (q l hl)⟩⟩
  ·exact⟨ys,.inr ⟨a,h _ _ q⟩⟩
 ·exact q.elim
theorem KG{K}{tl:TE}(h:AY tl):Ge (Dd K tl):=fun σ H Q Q' k q=>h _ _ _ _ (fun v H1 q=>by
 cases v <;> first | exact q.elim | (rcases q with ⟨a,q⟩ | ⟨a,q⟩
                                     ·exact .inl ⟨a,k _ _ q⟩
                                     ·exact .inr ⟨a,k _ _ q⟩)) q
theorem Ix:FZ DN:=fun o i v H Q Q' h q=>by
 unfold DN at *;split at q
 ·obtain⟨xs,j,a,b,q⟩:=q;exact⟨xs,j,a,b,h _ q⟩
 ·exact q.elim
theorem J8{to ti:TE}{t:B8}(h1:AY to)(h2:AY ti)(h3:FZ t):DU (Fu to ti t):=fun v σ H Q Q' h q=>h1 _ _ _ _ (fun _ _ q=>h2 _ _ _ _ (fun _ _ q=>h3 _ _ _ _ _ _ (fun H q=>h _ _ q) q) q) q
theorem NK:BI BD:=fun D D' σ H h q=>h.nx _ _ q
theorem JY{t u:TS}(h1:BI t)(h2:BI u):BI (EM t u):=fun D D' σ H h q=>h1 { D with nx:=u D } { D' with nx:=u D' } σ H ⟨fun σ H q=>h2 D D' σ H h q,h.rt,h.bk,h.ct⟩ q
theorem NE{te:TE}{g:TG}(h1:AY te)(h2:DU g):BI (D6 te g):=fun D D' σ H h q=>h1 _ _ _ _ (fun _ _ q=>h2 _ _ _ _ _ h.nx q) q
theorem JG{te:TE}(h1:AY te):BI (E5 te):=fun D D' σ H h q=>h1 _ _ _ _ h.rt q
theorem My{te:TE}(h1:AY te):BI (Gc te):=fun D D' σ H h q=>h1 _ _ _ _ (fun _ _ q=>h.nx _ _ q) q
theorem M6{c:TT}{t u:TS}(hc:BU c)(h1:BI t)(h2:BI u):BI (Ep c t u):=fun D D' σ H h q=>hc _ _ _ _ (fun b _ q=>by
 cases b with
 | true=>exact h1 _ _ _ _ h q
 | false=>exact h2 _ _ _ _ h q) q
theorem BO{t u:TS}{D:Ends}{σ:St}(J:St->Hp->Prop)(h1:t { D with nx:=J } σ H)(h2:∀σ' H',J σ' H'->u D σ' H')(hm:BI t):EM t u D σ H :=
 hm { D with nx:=J } { D with nx:=u D } σ H ⟨h2,fun _ _ q=>q,fun _ _ q=>q,fun _ _ q=>q⟩ h1
theorem KO{K}:CM (CC K):=fun vs H Q Q' E h q=>by
 unfold CC at *;split at q
 ·obtain⟨a,ns,x,y,q⟩:=q;exact⟨a,ns,x,y,fun d H' e1 e2 e3 e4=>h _ _ (q d H' e1 e2 e3 e4)⟩
 ·exact q.elim
section
variable {X:Cx}{K:W.Frag}{a b c e l tg:Expr}{es:List Expr}{ta tb tc te tl:TE}{pos p:Pos}
theorem AK(hK:X.K=K:=by rfl):Yp X (binaryOp .Add) (Bs K):=hK ▸ LZ
theorem kEq(hu:X.A.units+60 < cLine)(hK:X.K=K:=by rfl):Yp X (compareOp .Eq) (mEq false K):=hK ▸ J0 hu
theorem kNe(hu:X.A.units+60 < cLine)(hK:X.K=K:=by rfl):Yp X (compareOp .NotEq) (mEq true K):=hK ▸ LA hu
theorem Yt(ha:PE X a ta)(hb:PE X b tb)(hs:Eo b:=by intro _ _;rfl)(hK:X.K=K:=by rfl):PE X (.Subscript a b pos) (tOp (mIx K) ta tb):=hK ▸ M3 ha hb hs
theorem A6(hK:X.K=K:=by rfl):CallR X (.builtin "len") (CY K):=hK ▸ MB
theorem DW(hK:X.K=K:=by rfl):CallR X (.type "tuple") (Cv K):=hK ▸ MA
theorem EK(hl:PE X l tl)(hK:X.K=K:=by rfl):PI X tg l (Dd K tl):=hK ▸ NY hl
end
section
variable {X:Cx}{K:W.Frag}{o e:Expr}{es:List Expr}{to:TE}{t:TA}{apos cpos:Pos}
noncomputable def Ce:V->List V->Hp->VK->Prop:=fun x vs H Q=>match x,vs with
 | .ref l,[y]=>∃xs,H l=some (.lst xs)/\xs.length < sizeLine/\Q .non (upd H l (.lst (xs++[y])))
 | _,_=>False
theorem IH:MtR X "list.append" Ce:=by
 intro Ya s σ H x vs v us Q I rx rv q
 match x,vs,q with
 | .ref l,[y],⟨xs,h1,h2,q⟩=>exact K8 Ya s σ H _ _ v us Q I rx rv ⟨l,xs,y,rfl,rfl,h1,h2,q⟩
theorem DF (ho:PE X o to) (ha:PA X [e] t) (hbase:attributeBase o "append" X.env (eval o X.env)=eval o X.env:=by rfl)
 (hfew:((backTo cpos (starEach [e] X.env)).all (fun x=>!x.1) && (backToKw cpos (keywordEach [] X.env)).all (fun x=>x.1.isSome)
   && decide ([e].length+([]:List Keyword).length+(if ([]:List Keyword).isEmpty then 0 else 1) < 30))=true:=by rfl)
 (hline:(apos.endLine == cpos.line)=true:=by rfl) (hs:starEach [e] X.env=(false,eval e X.env)::starEach [] X.env:=by rfl) (hplain:(backTo cpos (starEach [] X.env)).any (·.1)=false:=by rfl) (hK:X.K=K:=by rfl) :
 PE X (.Call (.Attribute o "append" apos) [e] [] cpos) (tBM K "list" Ce to t):=hK ▸ C0 PySem.F.plainAttrs_list PySem.F.slot_list_append PySem.F.type_list_append IH ho ha hbase hfew hline hs hplain
noncomputable def Gw(K:W.Frag):V->List V->Hp->VK->Prop:=fun x vs H Q=>match x,vs with
 | .ref l,[y]=>∃(xs:List V) (j:Nat) (z:V),Yr K H l xs/\A0 y=true/\xs.all A0=true/\xs[j]? = some z/\eqV z y=true/\(∀(m:Nat) (v:V),m < j->xs[m]? = some v->eqV v y=false)/\Q (.int j) H
 | _,_=>False
theorem JL:MtR X "list.index" (Gw X.K):=by
 intro Ya s σ H x vs v us Q I rx rv q
 match x,vs,q with
 | .ref l,[y],⟨xs,j,z,h1,h2,h3,h4,h5,h6,q⟩ =>
 cases rx;obtain⟨u,rfl,ru⟩:=rv.one;obtain⟨Yd,r,pl,hz⟩:=I.list h1;obtain⟨⟨cls,dd,data,sl⟩,n,ho,hc,hd,hs⟩:=id pl;simp only at hc hs;subst hc hs;have hj:j < xs.length:=(Zg.mp h4).1;have Yl:=r.length;have flat:∀(m:Nat) (v:V),xs[m]? = some v->A0 v=true:=fun m v e=>ZBE.mp h3 v (Z9 e)
 have val:∀(m:Nat) (hm:m < Yd.toArray.size) (v:V),xs[m]? = some v->eqU y Yd.toArray[m]=eqV v y:=fun m hm v e=>by
  obtain⟨w',q1,q2⟩:=r.get e
  have e2:Yd.toArray[m]=w':=by
   rw[ZBD];rw[ZN (by simpa using hm)]at q1;exact ZR q1
  rw[e2];exact Ej q2 (flat m v e)
 have line:=B0;refine call_meets F.slot_list_index ⟨_,ho,rfl⟩ F.entry_list_index (F.args_list_index_2 _ _) (SeqAt.list_indexAt l Yd.toArray n dd sl u (eqU y) j (by simp;lia) (by lia) ?_ ?_) ⟨ho,fun w hw=>Cu ru h2 r h3 w (by simpa using hw),?_⟩
 ·rw[val j (by simp;lia) z h4];exact h5
 ·intro m hm hmj
  have:m < xs.length:=by simp at hm;lia
  rw[val m hm _ (ZN this)];exact h6 m _ hmj (ZN this)
 ·exact⟨.int _,H,I.tok _,⟨_,rfl⟩,q⟩
theorem Nn (ho:PE X o to) (ha:PA X [e] t) (hbase:attributeBase o "index" X.env (eval o X.env)=eval o X.env:=by rfl)
 (hfew:((backTo cpos (starEach [e] X.env)).all (fun x=>!x.1) && (backToKw cpos (keywordEach [] X.env)).all (fun x=>x.1.isSome)
   && decide ([e].length+([]:List Keyword).length+(if ([]:List Keyword).isEmpty then 0 else 1) < 30))=true:=by rfl)
 (hline:(apos.endLine == cpos.line)=true:=by rfl) (hs:starEach [e] X.env=(false,eval e X.env)::starEach [] X.env:=by rfl) (hplain:(backTo cpos (starEach [] X.env)).any (·.1)=false:=by rfl) (hK:X.K=K:=by rfl) :
 PE X (.Call (.Attribute o "index" apos) [e] [] cpos) (tBM K "list" (Gw K) to t):=hK ▸ C0 PySem.F.plainAttrs_list PySem.F.slot_list_index PySem.F.type_list_index JL ho ha hbase hfew hline hs hplain
theorem ML{T:String}{r:V->List V->Hp->VK->Prop}(h1:AY to)(h2:Be t)(h3:Fv r):AY (tBM K T r to t):=fun σ H Q Q' h q=>h1 _ _ _ _ (fun _ _ q=>⟨q.1,h2 _ _ _ _ (fun _ _ q=>h3 _ _ _ _ _ h q) q.2⟩) q
theorem K0:Fv Ce:=fun x xs H Q Q' h q=>by
 unfold Ce at *;split at q
 ·obtain⟨ys,a,b,q⟩:=q;exact⟨ys,a,b,h _ _ q⟩
 ·exact q.elim
end
section
variable {prog:Program}{w:World}{A:Around}{E:Value->Shared->Prop}{s:Shared}
theorem Hr{it:Addr}{items:Array Value}(Yu:t≠it):∀(n i:Nat) (s:Shared) (Q:List Value->Shared->Prop),s.heap.IsListIter it t i->s.heap.IsList t items->i+n<=items.size ->
 (∀h',h'.IsListIter it t (i+n)->Heap.SameBut it s.heap h'->Q ((items.toList.drop i).take n) { s with heap:=h' })->wpAny (model prog w) A (draw (.ref it) n) Q E s
 | 0,i,s,Q,hit,_,_,hQ=>by
  show wpAny _ _ (pure []) Q E s;exact ZB (by simpa using hQ s.heap hit (Heap.SameBut.refl ..))
 | n+1,i,s,Q,hit,ht,hle,hQ=>by
  have Yo:i < items.size:=by lia
  show wpAny _ _ (pyNext (.ref it) >>= _) Q E s;refine ZA (wpAny_pyNext_list_item hit ht (x:=items[i]) (by simp[Yo]) fun h₁ hit₁ hs₁=>?_);refine ZA (Zb (Hr Yu n (i+1) _ _ hit₁ (ht.extBut hs₁.extBut Yu) (by lia) fun h₂ hit₂ hs₂=>ZB ?_));have hd:items.toList.drop i=items[i]::items.toList.drop (i+1):=by simp[List.drop_eq_getElem_cons,Yo]
  have:=hQ h₂ (by rw[show i+(n+1)=i+1+n by lia];exact hit₂) (hs₁.trans hs₂)
  rw[hd,List.take_succ_cons]at this;exact this
theorem Kr {items:Array Value} {Q:List Value->Shared->Prop} (hh:A.handled=none) (ht:s.heap.IsList t items)
 (hQ:∀h',Heap.ExtBut s.heap.objs.size s.heap h'->Q items.toList { s with heap:=h' }):wpAny (model prog w) A (unpackItems (.ref t) items.size none) Q E s:=by
 have Yo:t≠s.heap.objs.size:=by obtain⟨o,ho,_⟩:=ht;exact ZM (ZC ho)
 unfold unpackItems;refine ZA ?_
 ·unfold notIterableAtAll;refine ZA (wpAny_specialOf ht.typeIs slot_list_iter.lookup ?_);refine ZB ?_;simp only[Bool.false_eq_true,if_false];refine ZA (Zb (wpAny_pyIter_list ht ?_));refine ZA (Zb (Hr Yo items.size 0 _ _ ⟨_,ZT _ rfl,rfl,rfl⟩ (ht.at fun o e=>ZJ _ e) (by lia) fun h₁ hit₁ hs₁=>?_))
  have hall:List.take items.size (List.drop 0 items.toList)=items.toList:=by
   rw[List.drop_zero];exact ZBH (by simp)
  rw[hall];rw[if_neg (by simp)];have ht₁:h₁.IsList t items:=(Heap.IsList.at ht fun o e=>ZJ _ e).extBut hs₁.extBut Yo;refine ZA (Zb (wpAny_pyNext_list_end hh hit₁ ht₁ (by simp) fun h₂ he₂=>?_));simp only[Option.isSome_none,Bool.false_eq_true,if_false];refine ZB (hQ h₂ fun b o hb e=>he₂ b o hb (hs₁.extBut b o hb (ZJ _ e)))
theorem MO {env:Env} {elts:List Expr} {x1} {items:Array Value} {Q:Unit->Shared->Prop} (hh:A.handled=none) (ht:s.heap.IsList t items)
 (hn:(assignEach elts env).length=items.size) (hstar:(assignEach elts env).findIdx? (·.1)=none)
 (h:∀h',Heap.ExtBut s.heap.objs.size s.heap h'->wpAny (model prog w) A (assignInOrder ((assignEach elts env).map (·.2)) items.toList) Q E { s with heap:=h' }) :
 wpAny (model prog w) A (assign (.Tuple elts x1 pos) env (.ref t)) Q E s:=by
 rw[assign_Tuple];refine ZA (Zs ?_);unfold unpack;rw[hn,hstar];exact ZA (Zb (Kr hh ht h))
end
section
variable {X:Cx}{K:W.Frag}{pos p2:Pos}{e:Expr}{lo hi:Option Expr}{te:TE}{tl th:TO}
noncomputable def NO(K:W.Frag)(n:Nat)(t:TGs):TG:=fun v σ H Q=>match v with
 | .ref a=>∃xs,SqA K H a xs/\xs.length=n/\t xs σ H Q
 | _=>False
theorem NI {es:List Expr} {k:Nat} {t:TGs} (hc:X.calm=true) (h:PGs X es t)
 (hn:(assignEach es X.env).length=n:=by rfl) (hst:(assignEach es X.env).findIdx? (·.1)=none:=by rfl) (hK:X.K=K:=by rfl):PG X (.Tuple es k pos) (NO K n t):=by
 subst hK;intro Ya s σ H v u Q I r hw;cases v with
 | ref a =>
  obtain⟨xs,hq | hq,hl,hw⟩:=hw
  ·cases r;obtain⟨Yd,rv,ht,hz⟩:=I.list hq;refine MO (I.ok.hd hc) ht.isList (by simp[hn,<- hl,rv.length]) hst fun h' hx=>?_
   have I1:Yc X Ya σ H { s with heap:=h' }:=I.kept (t':=s.toks) fun b o e=>hx b o (ZM (ZC e)) e
   exact h Ya _ σ H xs _ Q I1 (by simpa using rv) hw
  ·exact J5 hc h hn hst Ya s σ H _ u Q I r ⟨a,xs,rfl,hq,hl,hw⟩
 | _=>exact False.elim hw
noncomputable def Hm(K:W.Frag):V->Option Int->Option Int->Hp->VK->Prop:=fun x lo hi H Q=>match x with
 | .ref a=>∃xs,(Yr K H a xs/\∀p,H p=none->Q (.ref p) (upd H p (.lst (Ac xs lo hi)))) \/
  (Yq K H a xs/\¬(HT.sIx xs.length 0 lo=0/\HT.sIx xs.length xs.length hi=xs.length)/\∀p,H p=none->Q (.ref p) (upd H p (.tup (Ac xs lo hi))))
 | _=>False
theorem GX:SlR X (Hm X.K):=by
 intro Ya s σ H x v vl vu lo hi sl Q I rx hs pl pu q;cases x with
 | ref a =>
  obtain⟨xs,⟨h,q⟩ | ⟨h,h2,q⟩⟩:=q
  ·exact LV Ya s σ H _ v vl vu lo hi sl Q I rx hs pl pu ⟨a,xs,rfl,h,q⟩
  ·exact HI Ya s σ H _ v vl vu lo hi sl Q I rx hs pl pu ⟨a,xs,rfl,h,h2,q⟩
 | _=>exact False.elim q
theorem HG(he:PE X e te)(hl:PO X lo tl)(hu:PO X hi th)(hK:X.K=K:=by rfl):PE X (.Subscript e (.Slice lo hi none p2) pos) (tSl (Hm K) te tl th):=hK ▸ DD GX he hl hu
noncomputable def Cp(t:TO):Prop:=∀σ H (Q Q':Option Int->Hp->Prop),(∀b H,Q b H->Q' b H)->t σ H Q->t σ H Q'
theorem Lm:Cp HJ:=fun _ _ _ _ h q=>h _ _ q
theorem Kl(h:AY te):Cp (GO te):=fun σ H Q Q' k q=>h _ _ _ _ (fun _ _ ⟨i,e,q⟩=>⟨i,e,k _ _ q⟩) q
end
theorem JS(h:Yq K H a xs)(s:Yf H H'):Yq K H' a xs:=Fj h fun o e=>s a o e
mutual
theorem Yi.same(s:Yf H H'):∀(d:Dv) (v:V),Yi K H d v->Yi K H' d v
 | .non,v,h=>by unfold Yi at *;exact h
 | .bl b,v,h=>by unfold Yi at *;exact h
 | .int i,v,h=>by unfold Yi at *;exact h
 | .str x,v,h=>by unfold Yi at *;exact h
 | .tup ds,v,h=>by
  unfold Yi at *;obtain⟨a,xs,e,h1,h2⟩:=h;exact⟨a,xs,e,JS h1 s,Ye.same s ds xs h2⟩
 | .lst ds,v,h=>by
  unfold Yi at *;obtain⟨a,xs,e,h1,h2⟩:=h;exact⟨a,xs,e,Ju h1 fun o e=>s a o e,Ye.same s ds xs h2⟩
theorem Ye.same(s:Yf H H'):∀(ds:List Dv) (xs:List V),Ye K H ds xs->Ye K H' ds xs
 | [],xs,h=>by unfold Ye at *;exact h
 | d::ds,xs,h=>by
  unfold Ye at *;obtain⟨x,r,e,h1,h2⟩:=h;exact⟨x,r,e,Yi.same s d x h1,Ye.same s ds r h2⟩
end
mutual
noncomputable def A5:Dv->Bool
 | .tup ds=>Aa ds
 | .lst _=>false
 | _=>true
noncomputable def Aa:List Dv->Bool
 | []=>true
 | d::ds=>A5 d && Aa ds
end
mutual
theorem Yi.frm(s:Ym t H H')(ht:∃zs,H t=some (.lst zs)):∀(d:Dv) (v:V),A5 d=true->Yi K H d v->Yi K H' d v
 | .non,v,_,h=>by unfold Yi at *;exact h
 | .bl b,v,_,h=>by unfold Yi at *;exact h
 | .int i,v,_,h=>by unfold Yi at *;exact h
 | .str x,v,_,h=>by unfold Yi at *;exact h
 | .tup ds,v,hd,h=>by
  unfold A5 at hd;unfold Yi at *;obtain⟨a,xs,e,h1,h2⟩:=h;refine⟨a,xs,e,?_,Ye.frm s ht ds xs hd h2⟩;obtain⟨zs,hz⟩:=ht
  rcases h1 with (h1 | ⟨o,h1⟩) | h1
  ·exact .inl (.inl (s a _ (fun q=>by rw[q,hz]at h1;cases h1) h1))
  ·exact .inl (.inr ⟨o,s a _ (fun q=>by rw[q,hz]at h1;cases h1) h1⟩)
  ·exact .inr h1
 | .lst ds,v,hd,h=>by unfold A5 at hd;cases hd
theorem Ye.frm(s:Ym t H H')(ht:∃zs,H t=some (.lst zs)):∀(ds:List Dv) (xs:List V),Aa ds=true->Ye K H ds xs->Ye K H' ds xs
 | [],xs,_,h=>by unfold Ye at *;exact h
 | d::ds,xs,hd,h=>by
  unfold Aa at hd;rw[ZZ]at hd;unfold Ye at *;obtain⟨x,r,e,h1,h2⟩:=h;exact⟨x,r,e,Yi.frm s ht d x hd.1 h1,Ye.frm s ht ds r hd.2 h2⟩
end
theorem D7{c:TT}{t u:TS}{D:Ends}{σ:St}(b:Bool)(hc:∀Q:Bool->Hp->Prop,Q b H->c σ H Q)(h:if b=true then t D σ H else u D σ H):Ep c t u D σ H:=hc _ h
theorem Tape.lst(T:Tape K H t a ns):∃zs,H t=some (.lst zs):=by
 obtain⟨i,r,c,_,_,h⟩:=T.at_;exact⟨_,h⟩
theorem A4(h:H p=some (.tup xs))(r:Ye K H ds xs):Yi K H (.tup ds) (.ref p):=by unfold Yi;exact⟨p,xs,rfl,.of h,r⟩
theorem Ab:Ye K H [] []:=by unfold Ye;rfl
theorem AO{d:Dv}{x:V}(h:Yi K H d x)(r:Ye K H ds xs):Ye K H (d::ds) (x::xs):=by unfold Ye;exact⟨x,xs,rfl,h,r⟩
theorem A1:Yi K H (.str x) (.str x):=by unfold Yi;rfl
theorem Bf{x:Int}:Yi K H (.int x) (.int x):=by unfold Yi;rfl
theorem Ye.append:∀{ds es:List Dv} {xs ys:List V},Ye K H ds xs->Ye K H es ys->Ye K H (ds++es) (xs++ys)
 | [],es,xs,ys,h,h'=>by unfold Ye at h;subst h;exact h'
 | d::ds,es,xs,ys,h,h'=>by
  unfold Ye at h;obtain⟨x,r,rfl,h1,h2⟩:=h;exact AO h1 (Ye.append h2 h')
section
variable {κ:Type}[DecidableEq κ]
noncomputable def Ap(Yj:List (κ × V))(k:κ):Option V:=(Yj.find? fun kv=>decide (kv.1=k)).map (·.2)
noncomputable def Bg(Yj:List (κ × V))(k:κ)(v:V):List (κ × V) :=
 if (Yj.any fun kv=>decide (kv.1=k))=true then Yj.map (fun kv=>if kv.1=k then (kv.1,v) else kv) else Yj++[(k,v)]
theorem Li{k:κ}:Ap ([]:List (κ × V)) k=none:=rfl
theorem DT{p:κ × V}{r:List (κ × V)}{k:κ}(e:p.1=k):Ap (p::r) k=some p.2:=by simp[Ap,Z5,e]
theorem Dr{p:κ × V}{r:List (κ × V)}{k:κ}(e:¬p.1=k):Ap (p::r) k=Ap r k:=by simp[Ap,Z5,e]
theorem Lk(Yj:List (κ × V))(k:κ)(v:V):(Bg Yj k v).length<=Yj.length+1:=by
 unfold Bg;split
 ·rw[ZF];lia
 ·rw[ZQ,ZV,List.length_nil];lia
theorem RelO.isSome_eq{o:Option V}{u:Option Value}(r:RelO o u):o.isSome=u.isSome:=by
 cases o with
 | none=>cases u with
  | none=>rfl
  | some _=>exact(show False from r).elim
 | some _=>cases u with
  | none=>exact(show False from r).elim
  | some _=>rfl
theorem RelO.getD{o:Option V}{u:Option Value}{d:V}{d':Value}(r:RelO o u)(rd:Yh d d'):Yh (o.getD d) (u.getD d'):=by
 cases o with
 | none=>cases u with
  | none=>exact rd
  | some _=>exact(show False from r).elim
 | some _=>cases u with
  | none=>exact(show False from r).elim
  | some _=>exact r
theorem KV.val{Yj:List (κ × V)}{vs:List (κ × Value)}(r:KV Yj vs)(k:κ):RelO (Ap Yj k) (valueAt vs k):=by
 unfold KV at r
 induction r with
 | nil=>exact True.intro
 | @cons p q ps qs h t ih =>
  obtain⟨h1,h2⟩:=h
  by_cases e:p.1=k
  ·have e':q.1=k:=h1.symm.trans e;have b:valueAt (q::qs) k=some q.2:=by simp[valueAt,Z5,e']
   rw[DT e,b];exact h2
  ·have e':¬q.1=k:=fun z=>e (h1.trans z)
   have b:valueAt (q::qs) k=valueAt qs k:=by simp[valueAt,Z5,e']
   rw[Dr e,b];exact ih
theorem KV.any{Yj:List (κ × V)}{vs:List (κ × Value)}(r:KV Yj vs)(k:κ):(Yj.any fun kv=>decide (kv.1=k))=vs.any fun kv=>decide (kv.1=k):=by
 unfold KV at r
 induction r with
 | nil=>rfl
 | cons h t ih=>rw[List.any_cons,List.any_cons,ih,h.1]
theorem KV.repl{Yj:List (κ × V)}{vs:List (κ × Value)}(r:KV Yj vs)(k:κ){y:V}{u:Value}(ry:Yh y u) :
 KV (Yj.map fun kv=>if kv.1=k then (kv.1,y) else kv) (vs.map fun kv=>if kv.1=k then (kv.1,u) else kv):=by
 unfold KV at r ⊢
 induction r with
 | nil=>exact .nil
 | @cons p q ps qs h t ih =>
  rw[ZY,ZY];refine .cons ?_ ih;obtain⟨h1,h2⟩:=h
  by_cases e:p.1=k
  ·rw[if_pos e,if_pos (h1.symm.trans e)];exact⟨h1,ry⟩
  ·rw[if_neg e,if_neg (fun z=>e (h1.trans z))];exact⟨h1,h2⟩
theorem KV.put{Yj:List (κ × V)}{vs:List (κ × Value)}(r:KV Yj vs)(k:κ){y:V}{u:Value}(ry:Yh y u):KV (Bg Yj k y) (stored vs k u):=by
 unfold Bg stored;rw[r.any k]
 by_cases e:(vs.any fun kv=>decide (kv.1=k))=true
 ·rw[if_pos e,if_pos e];exact r.repl k ry
 ·rw[if_neg e,if_neg e];exact Paired.snoc r ⟨rfl,ry⟩
end
theorem Af{k:Key}{u:Value}(r:Yh (kV k) u):(Ai P w).is k u=true:=by
 cases k with
 | inl i=>obtain⟨t,e⟩:=(show ∃t,u=Value.int i t from r);subst e;exact LL P w i t
 | inr x=>obtain⟨t,e⟩:=(show ∃t,u=Value.str x t from r);subst e;exact Im P w x t
theorem GL:∀{ks:List Key} {us:List Value},Yg (ks.map kV) us->ItemsAre (Ai P w) ks us
 | [],_,r=>by rw[List.map_nil]at r;cases r;exact .nil
 | k::ks,_,r=>by
  rw[ZY]at r;cases r with
  | cons h t=>exact .cons (Af h) (GL t)
noncomputable abbrev KT(H:Hp):List (List Key × V)->List (List Key × Addr × Value)->Prop:=Paired fun p q=>p.1=q.1/\H q.2.1=some (.tup (p.1.map kV))/\Yh p.2 q.2.2
theorem KT.val{Yj:List (List Key × V)}{xs:List (List Key × Addr × Value)}(r:KT H Yj xs)(k:List Key):RelO (Ap Yj k) ((atKey xs k).map (·.2)):=by
 induction r with
 | nil=>exact True.intro
 | @cons p q ps qs h t ih =>
  obtain⟨h1,_,h2⟩:=h
  by_cases e:p.1=k
  ·have e':q.1=k:=h1.symm.trans e;have b:atKey (q::qs) k=some q.2:=by simp[atKey,Z5,e']
   rw[DT e,b];exact h2
  ·have e':¬q.1=k:=fun z=>e (h1.trans z)
   have b:atKey (q::qs) k=atKey qs k:=by simp[atKey,Z5,e']
   rw[Dr e,b];exact ih
section
variable {P:Program}{w:World}{H:Hp}{h:Heap}{a:Addr}
theorem FB{u:HO}(ok:HOk P w H h)(e:Rd H a u):ObjOk P w H h a u:=e.ok ok
theorem Ci{Yj:List (Key × V)}(ok:HOk P w H h)(e:Rd H a (.dK Yj)):Yj.length<=sizeLine/\(a == sysModules)=false/\∃vs,KV Yj vs/\h.DictOf (Ai P w) a vs :=
 show ObjOk P w H h a (.dK Yj) from FB ok e
theorem KJ{Yj:List (Key × V)}(ok:HOk P w H h)(e:H a=some (.dK Yj)):Yj.length<=sizeLine/\(a == sysModules)=false/\∃vs,KV Yj vs/\h.DictOf (Ai P w) a vs:=Ci ok (.inl e)
theorem ET{ks:List Key}(ok:HOk P w H h)(e:H a=some (.tup (ks.map kV))):(tupleKind (Ai P w)).is h ks a:=by
 obtain⟨_,Yd,r,o,h1,h2,⟨n,h3⟩,_⟩:=(show ObjOk P w H h a (.tup (ks.map kV)) from ok a _ e);exact⟨o,Yd.toArray,n,h1,h2,h3,by simpa using GL r⟩
theorem E4{Yj:List (List Key × V)}(ok:HOk P w H h)(e:Rd H a (.dT Yj)):Yj.length<=sizeLine/\(a == sysModules)=false /\
 ∃xs,KT H Yj xs/\h.DictOfH (tupleKind (Ai P w)) a xs:=by
 obtain⟨z,y,xs,r,o,es,ep,h1,h2,h3,h4,h5⟩:=(show ObjOk P w H h a (.dT Yj) from FB ok e);refine⟨z,y,xs,r,o,es,ep,h1,h2,h3,h4,fun x hx=>?_,h5⟩
 have all:∀{l:List (List Key × V)} {m:List (List Key × Addr × Value)},KT H l m->∀x∈m,(tupleKind (Ai P w)).is h x.1 x.2.1:=by
  intro l m q
  induction q with
  | nil=>intro x hx;exact nomatch hx
  | @cons p q ps qs hq t ih =>
   intro x hx
   rcases ZG.mp hx with e | hx
   ·subst e;exact ET ok (by rw[<- hq.1];exact hq.2.1)
   ·exact ih x hx
 exact all r x hx
end
noncomputable def DGet(H:Hp)(a:Addr)(y:V)(r:Option V):Prop :=
 (∃Yj k,Rd H a (.dK Yj)/\y=kV k/\r=Ap Yj k)\/∃Yj k b,Rd H a (.dT Yj)/\y=.ref b/\H b=some (.tup (k.map kV))/\r=Ap Yj k
theorem DGet.k{Yj:List (Key × V)}{k:Key}(e:H a=some (.dK Yj)):DGet H a (kV k) (Ap Yj k):=.inl ⟨Yj,k,.inl e,rfl,rfl⟩
section
variable {X:Cx}{Ya:List (Addr × Obj)}{σ:St}{H:Hp}{s:Shared}{a:Addr}{y v:V}{u r:Value}{o:Option V}{A:Around}{E:Value->Shared->Prop}
theorem Yc.big(I:Yc X Ya σ H s):sysModules < s.heap.objs.size:=by
 have h:mainGlobals < s.heap.objs.size:=(I.mod.glob.keeps I.bk).lt;exact Nat.lt_trans (by decide) h
theorem MR{Q:Value->Shared->Prop}(hu:A.units+1 < cLine)(I:Yc X Ya σ H s)(g:DGet H a y (some v))(ry:Yh y u)(h:∀w' s',Yc X Ya σ H s'->Yh v w'->Q w' s') :
 wpAny (model X.prog X.w) A (getItem (.ref a) u) Q E s:=by
 rcases g with ⟨Yj,k,e,ey,l⟩ | ⟨Yj,k,b,e,ey,eb,l⟩
 ·subst ey;obtain⟨z,hd,vs,rel,dd⟩:=Ci I.hok e;obtain⟨w',hw,rw'⟩:=RelO.some_of (v:=v) (o:=valueAt vs k) (by rw[l];exact rel.val k);exact wpAny_getItem_of (Af ry) dd.mapOf hw (h w' _ (I.tok _) rw')
 ·subst ey;cases (show u=Value.ref b from ry);obtain⟨z,hd,xs,rel,dd⟩:=E4 I.hok e;obtain⟨w',hw,rw'⟩:=RelO.some_of (v:=v) (o:=(atKey xs k).map (·.2)) (by rw[l];exact rel.val k);obtain⟨p,hp,hp2⟩:=Option.map_eq_some_iff.mp hw;refine wpAny_getItem_heap (tupleKind_room_in1 hu) (ET I.hok eb) dd hp ?_;rw[hp2];exact h w' _ (I.tok _) rw'
theorem Kd{Q:Value->Shared->Prop}(hu:A.units+1 < cLine)(I:Yc X Ya σ H s)(g:DGet H a y o)(ry:Yh y u)(h:∀s',Yc X Ya σ H s'->Q (.bool (!o.isSome)) s') :
 wpAny (model X.prog X.w) A (compareOp .NotIn u (.ref a)) Q E s:=by
 rcases g with ⟨Yj,k,e,ey,l⟩ | ⟨Yj,k,b,e,ey,eb,l⟩
 ·subst ey;obtain⟨z,hd,vs,rel,dd⟩:=Ci I.hok e;refine wpAny_notIn_of (Af ry) hd dd.mapOf ?_;rw[<- (rel.val k).isSome_eq,<- l];exact h _ (I.tok _)
 ·subst ey;cases (show u=Value.ref b from ry);obtain⟨z,hd,xs,rel,dd⟩:=E4 I.hok e;refine wpAny_notIn_heap (tupleKind_room_in1 hu) (ET I.hok eb) hd dd ?_;have q:=(rel.val k).isSome_eq;rw[Option.isSome_map]at q;rw[<- q,<- l];exact h _ (I.tok _)
theorem KP{h':Heap}{t':Nat}{ob:HO}(I:Yc X Ya σ H s)(mu:Mut (H a))(hs:Heap.SameBut a s.heap h')(he:∃q,h'.get? a=some q)(new:ObjOk X.prog X.w (upd H a ob) h' a ob) :
 Yc X Ya σ (upd H a ob) { s with heap:=h',toks:=t' } :=
 I.write (x:=a) (e:=a) mu (.inl rfl) (fun b q hb z=>(hs.2 b hb).trans z) he new
theorem NM{h':Heap}{Yj:List (Key × V)}{vs:List (Key × Value)}(z:Yj.length<=sizeLine)(hd:(a == sysModules)=false)(rel:KV Yj vs)(dd:h'.DictOf (Ai P w) a vs) :
 ObjOk P w H' h' a (.dK Yj):=⟨z,hd,vs,rel,dd⟩
end
noncomputable def GZ(i:Expr):Prop:=∀ov iv,subscripted i false ov iv=operate [ov,iv] (getItem ov iv)
theorem KZ {prog:Program} {E:Value->Shared->Prop} {s:Shared} {env:Env} {value slice:Expr} {T id:String} {Q:Value->Shared->Prop}
 (hl:typeLookup (.type T) "__getitem__" = pure (some (.builtin id))) (hs:GZ slice)
 (h:wpAny (model prog w) A (eval value env) (fun o s₁=>wpAny (model prog w) A (eval slice env) (fun i s₂=>s₂.TypeIs o T/\wpAny (model prog w) A (getItem o i) Q E s₂) E s₁) E s) :
 wpAny (model prog w) A (eval (.Subscript value slice pos) env) Q E s:=by
 refine Subscript_ (ZI h (fun o s₁ h₁=>ZI h₁ (fun i s₂ h₂=>?_) fun _ _ x=>x) fun _ _ x=>x);obtain⟨hT,h₂⟩:=h₂;unfold subscriptTail;refine ZA ?_;rw[getitemInPython_of_ne hT.not_modules];refine ZA (wpAny_specialOf hT hl ?_)
 have fin:wpAny (model prog w) A (subscripted slice false o i) (fun r s₃=>wpAny (model prog w) A (letTemporaryGo value o r >>= fun _=>pure r) Q E s₃) E s₂:=by
  rw[hs o i];exact wpAny_operating (ZI h₂ (fun r s₃ h₃=>ZA (wpAny_letTemporaryGo (ZB h₃))) fun _ _ x=>x)
 first
  | exact ZB (ZA fin)
  | exact ZA (ZB (ZA fin))
  | exact ZA fin
theorem Kn{Ya:List (Addr × Obj)}{σ:St}{s:Shared}{y:V}{o:Option V}(I:Yc X Ya σ H s)(g:DGet H a y o):s.TypeIs (.ref a) "dict":=by
 rcases g with ⟨Yj,k,e,_,_⟩ | ⟨Yj,k,b,e,_,_,_⟩
 ·obtain⟨_,_,vs,_,dd⟩:=Ci I.hok e;exact dd.typeIs
 ·obtain⟨_,_,xs,_,dd⟩:=E4 I.hok e;exact dd.typeIs
noncomputable def Fz(td ty:TE):TE:=fun σ H Q=>td σ H fun x H1=>ty σ H1 fun y H2=>∃a v,x=.ref a/\DGet H2 a y (some v)/\Q v H2
section
variable {X:Cx}{o i e value:Expr}{pos pos' tpos:Pos}{td ty tv:TE}
theorem GW(hu:X.A.units+1 < cLine)(ho:PE X o td)(hi:PE X i ty)(hs:GZ i):PE X (.Subscript o i pos) (Fz td ty):=by
 intro Ya s σ H Q I h;refine KZ PySem.F.slot_dict_getitem.lookup hs (Yk (ho Ya s σ H _ I h) fun u s1 ⟨x,H1,I1,rx,q1⟩=>Yk (hi Ya s1 σ H1 _ I1 q1) fun iv s2 ⟨y,H2,I2,ry,a,v,ex,g,q2⟩=>?_);subst ex;obtain rfl:u=Value.ref a:=rx;exact⟨Kn I2 g,MR hu I2 g ry fun w' s3 I3 rw'=>⟨v,H2,I3,rw',q2⟩⟩
end
theorem Jo(h:Heap)(hb:sysModules < h.objs.size):ObjOk P w H (h.push { cls:=.type "dict",data:=.dict #[] }) h.objs.size (.dK []) :=
 ⟨ZK _,beq_eq_false_iff_ne.mpr (Ne.symm (ZM hb)),[],.nil,Heap.DictOf.new h⟩
noncomputable def EN:List (TE × TE)->St->Hp->(List (V × V)->Hp->Prop)->Prop
 | [],_,H,Q=>Q [] H
 | (tk,tv)::r,σ,H,Q=>tk σ H fun x H1=>tv σ H1 fun y H2=>EN r σ H2 fun ps H3=>Q ((x,y)::ps) H3
noncomputable abbrev VV:List (V × V)->List (Value × Value)->Prop:=Paired fun p q=>Yh p.1 q.1/\Yh p.2 q.2
noncomputable def PPs(X:Cx)(pos:Pos)(keys:List (Option Expr))(values:List Expr)(trs:List (TE × TE)):Prop :=
 ∀(Ya:List (Addr × Obj)) (s:Shared) (σ:St) (H:Hp) (Q:List (V × V)->Hp->Prop),Yc X Ya σ H s->EN trs σ H Q ->
  wpAny (model X.prog X.w) X.A (evalPairs (pairTrees keys values X.env pos)) (fun vs s'=>∃ps H',Yc X Ya σ H' s'/\VV ps vs/\Q ps H') X.xe s
theorem Ki:PPs X pos [] [] []:=fun Ya s σ H Q I h=>pairTrees_nil_walk ⟨[],H,I,.nil,h⟩
theorem Bj{k v:Expr}{ks:List (Option Expr)}{vs:List Expr}{tk tv:TE}{trs:List (TE × TE)}(hk:PE X k tk)(hv:PE X v tv)(hr:PPs X pos ks vs trs) :
 PPs X pos (some k::ks) (v::vs) ((tk,tv)::trs):=fun Ya s σ H Q I h =>
 pairTrees_cons_walk (Yk (hk Ya s σ H _ I h) fun u s1 ⟨x,H1,I1,rx,q1⟩=>Yk (hv Ya s1 σ H1 _ I1 q1) fun w2 s2 ⟨y,H2,I2,ry,q2⟩ =>
  Yk (hr Ya s2 σ H2 _ I2 q2) fun ws s3 ⟨ps,H3,I3,rel,q3⟩=>⟨(x,y)::ps,H3,I3,.cons ⟨rx,ry⟩ rel,q3⟩)
noncomputable def Ba(Yj more:List (Key × V)):List (Key × V):=more.foldl (fun Yn kv=>Bg Yn kv.1 kv.2) Yj
theorem KV.merge:∀{more:List (Key × V)} {rs:List (Key × Value)} {Yj:List (Key × V)} {vs:List (Key × Value)},KV more rs->KV Yj vs->KV (Ba Yj more) (merged vs rs):=by
 intro more rs Yj vs r;unfold KV at r
 induction r generalizing Yj vs with
 | nil=>intro q;exact q
 | @cons p q ps qs h t ih =>
  intro r0
  have e:KV (Bg Yj p.1 p.2) (stored vs q.1 q.2):=by
   have:=r0.put p.1 h.2
   rw[<- h.1];exact this
  exact ih e
theorem Fl:∀(more Yj:List (Key × V)),(Ba Yj more).length<=Yj.length+more.length
 | [],Yj=>by show Yj.length<=Yj.length+0;lia
 | p::r,Yj=>by
  have h1:=Fl r (Bg Yj p.1 p.2);have h2:=Lk Yj p.1 p.2
  show(Ba (Bg Yj p.1 p.2) r).length<=_
  rw[ZV];lia
theorem Gu{P:Program}{w:World}:∀{Yj:List (Key × V)} {ws:List (Value × Value)},VV (Yj.map fun kv=>(kV kv.1,kv.2)) ws->∃rs,Carries (Ai P w) ws rs/\KV Yj rs
 | [],_,r=>by rw[List.map_nil]at r;cases r;exact⟨[],True.intro,.nil⟩
 | p::Yj,_,r=>by
  rw[ZY]at r;cases r with
  | @cons a b as bs h t =>
   obtain⟨rs,c,q⟩:=Gu (P:=P) (w:=w) t;obtain⟨b1,b2⟩:=b;exact⟨(p.1,b2)::rs,⟨Af h.1,rfl,c⟩,.cons ⟨rfl,h.2⟩ q⟩
noncomputable def LJ(trs:List (TE × TE)):TE:=fun σ H Q=>∀p,H p=none->EN trs σ (upd H p (.dK [])) fun ps H2=>H2 p=some (.dK [])/\∃Yj:List (Key × V),ps=Yj.map (fun kv=>(kV kv.1,kv.2))/\Yj.length<=15/\Q (.ref p) (upd H2 p (.dK (Ba [] Yj)))
theorem MP {keys:List (Option Expr)} {values:List Expr} {trs:List (TE × TE)} (h:PPs X pos keys values trs) (hall:keys.all (·.isSome)=true) (hl:keys.length=values.length) (h0:keys≠[])
 (h15:keys.length<=15):PE X (.Dict keys values pos) (LJ trs):=by
 intro Ya s σ H Q I q;have hn:=I.hok.fresh (ZD s.heap.objs.size);have I1:=I.laid (a:=s.heap.objs.size) (o:=.dK []) (h':=s.heap.push { cls:=.type "dict",data:=.dict #[] }) (t':=s.toks) (fun _ _ q=>ZJ _ q) (ZD _) (Jo s.heap I.big);refine wpAny_Dict_walk (knd:=Ai X.prog X.w) hall hl h0 h15 (Yk (h Ya _ σ _ _ I1 (q _ hn)) fun ws s2 ⟨ps,H2,I2,rel,e,Yj,ep,lk,q2⟩=>?_);subst ep;obtain⟨rs,c,rk⟩:=Gu (P:=X.prog) (w:=X.w) rel;obtain⟨z,hd,vs0,r0,dd⟩:=KJ I2.hok e;cases r0;refine⟨rs,c,dd,fun h' dd' hs=>⟨.ref s.heap.objs.size,_,?_,rfl,q2⟩⟩
 have hz:(Ba [] Yj).length<=sizeLine:=by
  have h1:=Fl Yj [];rw[List.length_nil]at h1;rw[sizeLine_eq];lia
 have he:∃q,h'.get? s.heap.objs.size=some q:=let ⟨q,_,_,hq,_⟩:=dd';⟨q,hq⟩;exact KP I2 (by rw[e];exact True.intro) hs he (NM hz hd (rk.merge .nil) dd')
structure M1(X:Cx)(o:Expr)(m:Str)(apos:Pos)(e:Expr)(cpos:Pos):Prop where
 base:attributeBase o m X.env (eval o X.env)=eval o X.env
 few:((backTo cpos (starEach [e] X.env)).all (fun x=>!x.1) && (backToKw cpos (keywordEach [] X.env)).all (fun x=>x.1.isSome)
  && decide (([e]:List Expr).length+([]:List Keyword).length+(if ([]:List Keyword).isEmpty then 0 else 1) < 30))=true
 line:(apos.endLine == cpos.line)=true
 trees:backTo cpos (starEach [e] X.env)=[(false,eval e X.env)]
mutual
noncomputable def pyD:Dv->PyData
 | .non=>.none
 | .bl b=>.bool b
 | .int i=>.int i
 | .str x=>.str x
 | .tup ds=>.tuple (Ak ds)
 | .lst ds=>.list (Ak ds)
noncomputable def Ak:List Dv->List PyData
 | []=>[]
 | d::ds=>pyD d::Ak ds
end
noncomputable def Bq(i:Int):Bool:=decide (i.natAbs.log2 < 1900)
mutual
theorem G3:∀d:Dv,(pyD d).depth=AN d
 | .non=>by simp[pyD,AN,PyData.depth]
 | .bl _=>by simp[pyD,AN,PyData.depth]
 | .int _=>by simp[pyD,AN,PyData.depth]
 | .str _=>by simp[pyD,AN,PyData.depth]
 | .tup ds=>by simp[pyD,AN,PyData.depth,DC ds]
 | .lst ds=>by simp[pyD,AN,PyData.depth,DC ds]
theorem DC:∀ds:List Dv,PyData.depthAll (Ak ds)=Az ds
 | []=>by simp[Ak,Az,PyData.depthAll]
 | d::ds=>by simp[Ak,Az,PyData.depthAll,G3 d,DC ds]
end
mutual
theorem GN:∀d:Dv,(pyD d).hasDict=false
 | .non=>by simp[pyD,PyData.hasDict]
 | .bl _=>by simp[pyD,PyData.hasDict]
 | .int _=>by simp[pyD,PyData.hasDict]
 | .str _=>by simp[pyD,PyData.hasDict]
 | .tup ds=>by simp[pyD,PyData.hasDict,Es ds]
 | .lst ds=>by simp[pyD,PyData.hasDict,Es ds]
theorem Es:∀ds:List Dv,PyData.hasDictAll (Ak ds)=false
 | []=>by simp[Ak,PyData.hasDictAll]
 | d::ds=>by simp[Ak,PyData.hasDictAll,GN d,Es ds]
end
noncomputable def Aj(d:Dv):Str:=(pyD d).shown
section
variable {X:Cx}{Ya:List (Addr × Obj)}{σ:St}{H:Hp}{s:Shared}
mutual
theorem HS(I:Yc X Ya σ H s):∀(d:Dv) (x:V) (u:Value),Yi X.K H d x->Yh x u->∃as,Reads s.heap u (pyD d) as
 | .non,x,u,h,r=>by unfold Yi at h;subst h;cases r;exact⟨_,by rw[pyD];exact .none⟩
 | .bl b,x,u,h,r=>by unfold Yi at h;subst h;cases r;exact⟨_,by rw[pyD];exact .bool b⟩
 | .int i,x,u,h,r=>by unfold Yi at h;subst h;obtain⟨t,rfl⟩:=r;exact⟨_,by rw[pyD];exact .int i t⟩
 | .str y,x,u,h,r=>by unfold Yi at h;subst h;obtain⟨t,rfl⟩:=r;exact⟨_,by rw[pyD];exact .str y t⟩
 | .tup ds,x,u,h,r=>by
  unfold Yi at h;obtain⟨a,xs,rfl,hs,hr⟩:=h;cases r;obtain⟨Yd,rv,⟨o,h1,h2,n,h3⟩,_⟩:=I.tuple hs;obtain⟨as,ha⟩:=D3 I ds xs Yd hr rv;exact⟨as,by rw[pyD];exact .tuple h1 h2 h3 ha⟩
 | .lst ds,x,u,h,r=>by
  unfold Yi at h;obtain⟨a,xs,rfl,hs,hr⟩:=h;cases r;obtain⟨Yd,rv,p,_⟩:=I.list hs;obtain⟨o,h1,h2,n,h3⟩:=p.isList;obtain⟨as,ha⟩:=D3 I ds xs Yd hr rv;exact⟨_,by rw[pyD];exact .list h1 h2 h3 ha⟩
theorem D3(I:Yc X Ya σ H s):∀(ds:List Dv) (xs:List V) (us:List Value),Ye X.K H ds xs->Yg xs us->∃as,ReadsAll s.heap us (Ak ds) as
 | [],xs,us,h,r=>by unfold Ye at h;subst h;cases r;exact⟨_,by rw[Ak];exact .nil⟩
 | d::ds,xs,us,h,r=>by
  unfold Ye at h;obtain⟨x,l,rfl,h1,h2⟩:=h;cases r with
  | cons r1 r2 =>
  obtain⟨as,ha⟩:=HS I d x _ h1 r1;obtain⟨bs,hb⟩:=D3 I ds l _ h2 r2;exact⟨_,by rw[Ak];exact .cons ha hb⟩
end
end
theorem JM(h:i.natAbs < 2 ^ 64):Bq i=true:=by
 unfold Bq;rw[decide_eq_true_eq]
 by_cases h0:i.natAbs=0
 ·rw[h0];decide
 ·have:=(Nat.log2_lt h0).mpr h
  lia
open AutoSeq1 (wpAny_loadPart')
theorem Yf.sqT(e:Yf H H')(h:Yq K H a xs):Yq K H' a xs:=Fj h (fun o k=>e _ _ k)
noncomputable def Ft:Nat->Nat->Nat
 | 0,_=>0
 | f+1,x=>x % 2+Ft f (x / 2)
@[irreducible] noncomputable def many(x:Nat):Nat:=Ft 64 x
theorem No{td ty:TE}(h1:AY td)(h2:AY ty):AY (Fz td ty):=fun σ H Q Q' h q=>h1 _ _ _ _ (fun _ _ q=>h2 _ _ _ _ (fun _ _ ⟨a,v,e,g,q⟩=>⟨a,v,e,g,h _ _ q⟩) q) q
theorem EG(h:A.units+60 < cLine):A.units+1 < cLine:=by lia
end L2
namespace L2
open PySem PySem.Spec PyProof.Rows
section
variable {X:Cx}{K:W.Frag}{e sx:Expr}{te ts:TE}{lo hi:Option Expr}{tl th:TO}{pos p2:Pos}
noncomputable def mIs(neg:Bool):R2:=fun x y H Q=>match x,y with
 | .bl a,.bl b=>Q (.bl (neg ^^ (a == b))) H
 | x,.non=>Q (.bl (neg ^^ decide (x=.non))) H
 | _,_=>False
theorem JD:Yp X (compareOp .Is) (mIs false):=by
 intro Ya s σ H x y v u Q I rx ry h;unfold mIs at h;split at h
 ·cases rx;cases ry;rename_i a b;exact wpAny_of_eq (show compareOp .Is (.bool a) (.bool b)=pure (.bool (a == b)) by cases a <;> cases b <;> rfl) ⟨.bl (a == b),H,I,rfl,by rw[Ze]at h;exact h⟩
 ·exact KQ Ya s σ H _ _ v u Q I rx ry ⟨rfl,by rw[Ze]at h;exact h⟩
 ·exact h.elim
end
theorem LX{K:W.Frag}{H:Hp}{ds:List Dv}{v:V}(h:Yi K H (.tup ds) v):∃a xs,v=.ref a/\Yq K H a xs/\Ye K H ds xs:=by unfold Yi at h;exact h
theorem MY{K:W.Frag}{H:Hp}{p:Addr}{xs:List V}{ds:List Dv}(h:Yq K H p xs)(r:Ye K H ds xs):Yi K H (.tup ds) (.ref p):=by unfold Yi;exact⟨p,xs,rfl,h,r⟩
noncomputable def mIn(K:W.Frag)(neg:Bool):R2:=fun x y H Q=>match y with
 | .ref p=>∃xs,(Yr K H p xs\/Yq K H p xs)/\A0 x=true/\xs.all A0=true/\Q (.bl (neg ^^ inV x xs)) H
 | _=>False
section
variable {X:Cx}{K:W.Frag}
theorem IM(hK:X.K=K:=by rfl):Yp X (compareOp .NotIn) (mIn K true):=by
 subst hK;intro Ya s σ H x y v u Q I rx ry h;cases y with
 | ref p =>
  obtain⟨xs,h1,h2,h3,q⟩:=h;exact Il Ya s σ H x _ v u Q I rx ry ⟨p,xs,rfl,h1,h2,h3,by simpa using q⟩
 | _=>exact False.elim h
end
end L2
namespace L2
theorem on1{α:Type}{P:List α->Prop}(h:∀a,P [a]):∀us:List α,us.length=1->P us
 | [a],_=>h a
theorem on2{α:Type}{P:List α->Prop}(h:∀a b,P [a,b]):∀us:List α,us.length=2->P us
 | [a,b],_=>h a b
theorem on3{α:Type}{P:List α->Prop}(h:∀a b c,P [a,b,c]):∀us:List α,us.length=3->P us
 | [a,b,c],_=>h a b c
theorem on4{α:Type}{P:List α->Prop}(h:∀a b c d,P [a,b,c,d]):∀us:List α,us.length=4->P us
 | [a,b,c,d],_=>h a b c d
open PySem in
theorem Np{xs es:List PySem.Expr}{p:Pos}{env:Env}:starEach (.List xs p::es) env=(false,eval (.List xs p) env)::starEach es env:=by rfl
end L2
namespace L2
open PySem
noncomputable def ins:Nat->Nat->Nat->Nat
 | 0,b,q=>2 * q+b
 | i+1,b,q=>2 * ins i b (q / 2)+q % 2
end L2
namespace L2
open PySem PySem.Spec PyProof.Rows
mutual
noncomputable def Aw:Dv->Bool
 | .non=>true
 | .bl _=>true
 | .int i=>Bq i
 | .str x=>x.cps.toList.all fun c=>decide (c < 16 ^ 8)
 | .tup ds=>BR ds
 | .lst ds=>BR ds
noncomputable def BR:List Dv->Bool
 | []=>true
 | d::ds=>Aw d && BR ds
end
mutual
noncomputable def A2:Dv->Nat
 | .str x=>x.cps.size
 | .tup ds=>BZ ds
 | .lst ds=>BZ ds
 | _=>0
noncomputable def BZ:List Dv->Nat
 | []=>0
 | d::ds=>A2 d+1+BZ ds
end
mutual
theorem Hg:∀d:Dv,(pyD d).bulk=A2 d
 | .non=>by simp[pyD,PyData.bulk,A2]
 | .bl _=>by simp[pyD,PyData.bulk,A2]
 | .int _=>by simp[pyD,PyData.bulk,A2]
 | .str _=>by simp[pyD,PyData.bulk,A2]
 | .tup ds=>by simp[pyD,PyData.bulk,A2,Du ds]
 | .lst ds=>by simp[pyD,PyData.bulk,A2,Du ds]
theorem Du:∀ds:List Dv,PyData.bulkAll (Ak ds)=BZ ds
 | []=>by simp[Ak,PyData.bulkAll,BZ]
 | d::ds=>by simp[Ak,PyData.bulkAll,BZ,Hg d,Du ds]
end
mutual
theorem ER:∀d:Dv,Aw d=true->(pyD d).showable=true/\(pyD d).leavesShort 1921=true
 | .non,_=>by simp[pyD,PyData.showable,PyData.leavesShort]
 | .bl _,_=>by simp[pyD,PyData.showable,PyData.leavesShort]
 | .int i,h=>by
  have h1:i.natAbs.log2 < 1900:=by simpa [Aw,Bq] using h
  have h2:i.natAbs.log2 < 1920:=by lia
  refine⟨by simpa [pyD,PyData.showable] using h2,?_⟩;simp only[pyD,PyData.leavesShort,decide_eq_true_eq,PyData.shown];exact Zh (PyProof.Rows.int_text_len_1921 h2)
 | .str x,h=>by
  refine⟨by simp[pyD,PyData.showable],?_⟩;unfold Aw at h;unfold pyD PyData.leavesShort;exact h
 | .tup ds,h=>by
  have h':=Dh ds (by simpa [Aw] using h);simpa [pyD,PyData.showable,PyData.leavesShort] using h'
 | .lst ds,h=>by
  have h':=Dh ds (by simpa [Aw] using h);simpa [pyD,PyData.showable,PyData.leavesShort] using h'
theorem Dh:∀ds:List Dv,BR ds=true->PyData.showableAll (Ak ds)=true/\PyData.leavesShortAll 1921 (Ak ds)=true
 | [],_=>by simp[Ak,PyData.showableAll,PyData.leavesShortAll]
 | d::ds,h=>by
  have h':Aw d=true/\BR ds=true:=by simpa [BR] using h
  have h1:=ER d h'.1;have h2:=Dh ds h'.2;simp[Ak,PyData.showableAll,PyData.leavesShortAll,h1,h2]
end
theorem Kf{d:Dv}(h:Aw d=true)(hb:A2 d<=8000):(Aj d).length<=sizeLine:=by
 have h1:=PyData.shown_le_bulk 1921 (by decide) (pyD d) (ER d h).2;rw[Hg d]at h1;have e:sizeLine=16777216:=by decide
 unfold Aj;rw[e];lia
noncomputable def E9(K:W.Frag):List V->Hp->VK->Prop:=fun xs H Q=>match xs with
 | [x]=>∃d,Yi K H d x/\Aw d=true/\A2 d<=8000/\AN d<=60/\Q (.str (Aj d)) H
 | _=>False
section
variable {X:Cx}{K:W.Frag}
theorem IF(hg:X.A.guards=some [])(hu:X.A.units+62 < cLine):CallR X (.builtin "repr") (E9 X.K):=by
 intro Ya s σ H xs us Q I r q
 match xs,q with
 | [x],q =>
  obtain⟨d,hd,hn,hb,hp,q⟩:=q;cases r with
  | cons r1 r2 =>
  cases r2;rename_i u;have fits:=Kf hn hb;have shw:=(ER d hn).1
  have done:∀(h':Heap) (t tk:Nat),(∀b o,s.heap.get? b=some o->h'.get? b=some o)->EP X Ya σ Q (.str (Aj d) t) { s with heap:=h',toks:=tk }:=fun h' t tk hk =>
   ⟨.str (Aj d),H,I.kept (t':=tk) hk,⟨t,rfl⟩,q⟩
  obtain⟨as,hr⟩:=HS I d x u hd r1;cases hx:u with
  | ref a =>
   rw[hx]at hr;refine PySem.repr_of_reads' hr shw (PyData.noDict_hsm (GN d)) hg ?_ (fun _ _ e=>e) (fun h' t tk hk=>done h' t tk hk) fits;rw[G3];lia
  | none =>
   rw[hx]at hr;generalize hp:pyD d=p at hr;cases hr;have e:Aj d=("None" : Str):=by unfold Aj;rw[hp,PyData.shown_none]
   refine PySem.P.repr_of_none ?_;rw[<- e];exact done s.heap _ _ (fun _ _ e=>e)
  | bool b =>
   rw[hx]at hr;generalize hp:pyD d=p at hr;cases hr;have e:Aj d=((if b then "True" else "False" : Str)):=by unfold Aj;rw[hp,PyData.shown_bool]
   refine PySem.P.repr_of_bool ?_;rw[<- e];exact done s.heap _ _ (fun _ _ e=>e)
  | int i t =>
   rw[hx]at hr;generalize hp:pyD d=p at hr;cases hr;have e:Aj d=((toString i:String):Str):=by unfold Aj;rw[hp,PyData.shown_int]
   rw[hp]at shw;refine PySem.P.repr_of_int (by simpa [PyData.showable] using shw) ?_;rw[<- e];exact done s.heap _ _ (fun _ _ e=>e)
  | str y t =>
   rw[hx]at hr;generalize hp:pyD d=p at hr;cases hr;have e:Aj d=reprText y:=by unfold Aj;rw[hp];rfl
   refine PySem.P.repr_of_str ?_ (by rw[<- e];exact fits);rw[<- e];exact done s.heap _ _ (fun _ _ e=>e)
  | _=>rw[hx]at hr;cases hr
theorem GT{k:Nat}(hr:Room k X.A)(hK:X.K=K:=by rfl):CallR X (.builtin "repr") (E9 K):=hK ▸ IF hr.gd (by have:=hr.un;lia)
end
end L2
namespace HT
open PySem PyProof.Rows
section
variable {prog:Program}{w:World}{A:Around}{E:Value->Shared->Prop}{s:Shared}
theorem getItem_tuple_whole {t sl:Addr} {items:Array Value} {vl vu:Value} {lo hi:Option Int} {Q:Value->Shared->Prop} (ht:IsTup s.heap t items) (hs:s.heap.IsSliceOf sl vl vu .none) (pl:IsPart vl lo) (pu:IsPart vu hi)
 (hw:sIx items.size 0 lo=0/\sIx items.size items.size hi=items.size)
 (h:Q (.ref t) s):wpAny (model prog w) A (getItem (.ref t) (.ref sl)) Q E s:=by
 obtain⟨os,hos,hcs,hds⟩:=id hs;have hTs:s.TypeIs (.ref sl) "slice":=⟨os,hos,hcs⟩;unfold getItem
 try with_reducible refine Zb ?_
 first | refine ZA (ZB ?_) | skip
 refine ZA (wpAny_sequenceKey ht.typeIs (by decide) ?_)
 refine ZA (wpAny_callSpecial?_slot (name:=Str.ofString "__getitem__") ht.typeIs PyProof.Rows.slot_tuple_getitem
  (wpAny_call_entry PyProof.Rows.slot_tuple_getitem ht.typeIs entry_tuple_getitem ?_ (args_tuple_getitem _ _)))
 show wpAny _ _ (Builtin.Tuple.tupleItemsOf (.ref t) >>= _) _ _ s;refine ZA (tupleItemsOf_ ht ?_);refine ZA (wpAny_typeOf hTs ?_);rw[if_pos (by decide)];refine ZA (Gn hs pl pu ?_);rw[hw.1,hw.2];show wpAny _ _ (if (((0:Nat):Int) == 0 && (1:Int) == 1 && (items.size - 0) == items.size)=true then _ else _) _ _ s;have hyes:(((0:Nat):Int) == 0 && (1:Int) == 1 && (items.size - 0) == items.size)=true:=by simp
 rw[if_pos hyes];unfold Builtin.Tuple.tupleIsExact;refine ZA (ZA (wpAny_typeOf ht.typeIs (ZB ?_)));rw[if_pos (by decide)];refine ZA (wpAny_rule ?_)
 first
  | exact ZA (ZB ⟨_,rfl,ZB h⟩)
  | exact ZB ⟨_,rfl,ZB h⟩
  | exact ZA (ZB (ZB ⟨_,rfl,ZB h⟩))
  | exact ZA (ZA (ZB (ZB ⟨_,rfl,ZB h⟩)))
end
end HT
namespace L2
open PySem PySem.Spec PyProof.Rows
section
variable {X:Cx}{K:W.Frag}{e sx:Expr}{te ts:TE}{lo hi:Option Expr}{tl th:TO}{pos p2:Pos}
noncomputable def G4(K:W.Frag):V->Option Int->Option Int->Hp->VK->Prop:=fun x lo hi H Q=>match x with
 | .ref a=>∃xs,Yq K H a xs/\∀p H',Yf H H'->Yq K H' p (Ac xs lo hi)->Q (.ref p) H'
 | _=>False
theorem Mf:SlR X (G4 X.K):=by
 intro Ya s σ H x v vl vu lo hi sl Q I rx hs pl pu q;cases x with
 | ref a =>
  obtain⟨xs,hx,q⟩:=q
  by_cases hw:HT.sIx xs.length 0 lo=0/\HT.sIx xs.length xs.length hi=xs.length
  ·cases rx;obtain⟨Yd,r,ht,hz⟩:=I.tuple hx;have Yl:Yd.toArray.size=xs.length:=by rw[ZE];exact r.length.symm
   refine⟨"tuple",_,PyProof.Rows.slot_tuple_getitem.lookup,ht.typeIs,?_⟩;refine HT.getItem_tuple_whole ht hs pl pu (by rw[Yl];exact hw) ⟨.ref a,H,I,rfl,q a H (fun _ _ h=>h) ?_⟩
   have:Ac xs lo hi=xs:=by
    unfold Ac;rw[hw.1,hw.2,List.drop_zero,ZBH (by lia)]
   rw[this];exact hx
  ·exact HI Ya s σ H _ v vl vu lo hi sl Q I rx hs pl pu ⟨a,xs,rfl,hx,hw,fun p hp=>q p _ (Yf.upd hp) (.of AD)⟩
 | _=>exact False.elim q
theorem Mh(he:PE X e te)(hl:PO X lo tl)(hu:PO X hi th)(hK:X.K=K:=by rfl):PE X (.Subscript e (.Slice lo hi none p2) pos) (tSl (G4 K) te tl th):=hK ▸ DD Mf he hl hu
end
end L2
namespace HT
open PySem PyProof.Rows
section
variable {prog:Program}{w:World}{A:Around}{E:Value->Shared->Prop}{s:Shared}
theorem cat_none{t b:Addr}{ws:List Value}{Q:Value->Shared->Prop}(ht:IsTup s.heap t #[])(hb:IsTup s.heap b ws.toArray)(h:Q (.ref b) s) :
 wpAny (model prog w) A (binaryOp .Add (.ref t) (.ref b)) Q E s:=by
 obtain⟨⟨cls,dd,data,sl⟩,ho,hc,n,hd⟩:=id ht;obtain⟨⟨cls2,dd2,data2,sl2⟩,ho2,hc2,n2,hd2⟩:=id hb;simp only at hc hd hc2 hd2;subst hc hd hc2 hd2
 exact concat_meets ⟨_,ho,rfl⟩ ⟨_,ho2,rfl⟩ noFill_tuple_add seq_tuple_add PySem.F.slot_tuple_add PySem.F.entry_tuple_add (PySem.F.args_tuple_add_2 _ _)
  (tuple_addW0 t b #[] ws.toArray n n2 dd dd2 sl sl2 rfl) ⟨ho,ho2,h⟩
end
end HT
namespace L2
open PySem PySem.Spec PyProof.Rows
section
variable {X:Cx}{K:W.Frag}
noncomputable def Fk(K:W.Frag):R2:=fun x y H Q=>match x,y with
 | .int i,.int j=>Q (.int (i+j)) H
 | .ref a,.ref b=>DB (.ref a) (.ref b) H Q\/∃xs ys,Yq K H a xs/\Yq K H b ys/\xs.length+ys.length<=sizeLine/\∀p H',Yf H H'->Yq K H' p (xs++ys)->Q (.ref p) H'
 | _,_=>False
theorem Iq:Yp X (binaryOp .Add) (Fk X.K):=by
 intro Ya s σ H x y v u Q I rx ry q
 cases x <;> cases y <;> first
  | exact False.elim q
  | exact HA Ya s σ H _ _ v u Q I rx ry ⟨_,_,rfl,rfl,q⟩
  | skip
 rename_i a b
 rcases q with q | ⟨xs,ys,ha,hb,hz,q⟩
 ·exact HK Ya s σ H _ _ v u Q I rx ry q
 by_cases hx:xs=[]
 ·subst hx;cases rx;cases ry;obtain⟨Yd,r1,p1,_⟩:=I.tuple ha;obtain⟨its2,r2,p2,_⟩:=I.tuple hb;cases r1;exact HT.cat_none p1 p2 ⟨.ref b,H,I,rfl,q b H (fun _ _ h=>h) hb⟩
 ·exact Fa Ya s σ H _ _ v u Q I rx ry ⟨a,b,xs,ys,rfl,rfl,ha,hb,hx,hz,fun e=>q a H (fun _ _ h=>h) (by rw[e,Zc];exact ha),fun _ p hp=>q p _ (Yf.upd hp) (.of AD)⟩
theorem Fh(hK:X.K=K:=by rfl):Yp X (binaryOp .Add) (Fk K):=hK ▸ Iq
end
open Classical in
noncomputable def Nq(K:W.Frag)(H:Hp)(u:Value):Dv:=if h:∃d x,Yh x u/\Yi K H d x then h.choose else .non
noncomputable def JE:List V->Hp->VK->Prop:=fun xs H Q=>match xs with
 | [.int i]=>i.natAbs.log2 < 1920/\Q (.str (toString i)) H
 | _=>False
theorem IZ{X:Cx}:CallR X (.type "str") JE:=call_str_int.imp fun xs H Q q=>by
 match xs,q with
 | [.int i],⟨h,q⟩=>exact⟨i,rfl,h,q⟩
section
variable {X:Cx}{K:W.Frag}{P:Program}{w:World}
noncomputable def NG(C:Addr)(ta:TE)(f:Str):TE:=fun σ H Q=>ta σ H fun x H1=>match x with
 | .ref a=>∃dx fs v,H1 a=some (.ins C dx fs)/\fs.lookup f=some v/\Q v H1
 | _=>False
noncomputable def Ls(C:Addr)(ta tv:TE)(f:Str):TS:=fun D σ H=>tv σ H fun y H1=>ta σ H1 fun x H2=>match x with
 | .ref a=>∃dx fs,H2 a=some (.ins C dx fs)/\fs.length < 1000/\D.nx σ (upd H2 a (.ins C dx (AR f y fs)))
 | _=>False
variable {C:Addr}{f:Str}{e o value:Expr}{ta tv td ty:TE}{pos pos':Pos}
theorem At(c:Cls K C)(n:NoAttr K C f)(he:PE X e ta)(hK:X.K=K:=by rfl)(hb:attributeBase e f X.env (eval e X.env)=eval e X.env:=by rfl):PE X (.Attribute e f pos) (NG C ta f):=by
 subst hK;intro Ya s σ H Q I h;refine GM hb (Yk (he Ya s σ H _ I h) fun u s1 ⟨x,H1,I1,rx,q⟩=>?_)
 match x,q with
 | .ref a,⟨dx,fs,v,ea,l,q⟩ =>
 obtain rfl:u=Value.ref a:=rx;exact NL I1 ea c n l fun u' s2 I2 ru=>⟨v,H1,I2,ru,q⟩
theorem Bu(c:Cls K C)(n:NoAttr K C f)(ha:PE X o ta)(hv:PE X value tv)(hK:X.K=K:=by rfl)(hs:swapsWith value (some (.Attribute o f pos')) pos.line X.env=pure false:=by rfl):PS X (.Assign [.Attribute o f pos'] value pos) (Ls C ta tv f):=by
 subst hK;intro Ya s σ H D I h;refine plainObj_wpAny_Assign_Attribute (Yk (hv Ya s σ H _ I h) fun u s1 ⟨y,H1,I1,ry,q⟩=>Yk (ha Ya s1 σ H1 _ I1 q) fun ov s2 ⟨x,H2,I2,rx,q2⟩=>?_) hs
 match x,q2 with
 | .ref a,⟨dx,fs,ea,l,q2⟩ =>
 obtain rfl:ov=Value.ref a:=rx;exact Hx I2 ea c n l ry fun s3 I3=>⟨σ,_,I3,q2⟩
noncomputable def MZ(neg:Bool):R2:=fun y x H Q=>match x with
 | .ref a=>∃o,DGet H a y o/\Q (.bl (xor neg o.isSome)) H
 | _=>False
theorem Md(hu:X.A.units+60 < cLine):Yp X (compareOp .NotIn) (MZ true):=by
 intro Ya s σ H y x v u Q I ry rx q
 match x,q with
 | .ref a,⟨o,g,q⟩ =>
 obtain rfl:u=Value.ref a:=rx;exact Kd (EG hu) I g ry fun s3 I3=>⟨.bl (!o.isSome),H,I3,rfl,(by cases o <;> exact q)⟩
end
section
variable {X:Cx}{K:W.Frag}{e:Expr}{te:TE}{lo hi:Option Expr}{tl th:TO}{pos p2:Pos}
noncomputable def HZ:V->List V->Hp->VK->Prop:=fun x vs H Q=>match x,vs with
 | .ref l,[]=>∃xs y,H l=some (.lst (xs++[y]))/\Q y (upd H l (.lst xs))
 | _,_=>False
theorem Ko:MtR X "list.pop" HZ:=by
 intro Ya s σ H x vs v us Q I rx rv q
 match x,vs,q with
 | .ref l,[],⟨xs,y,h1,q⟩ =>
 exact NH Ya s σ H _ _ v us Q I rx rv ⟨l,_,y,rfl,rfl,h1,by rw[ZQ,List.getElem?_append_right (by simp)];simp,by rw[List.dropLast_concat];exact q⟩
theorem Jb{o:Expr}{to:TE}{apos cpos:Pos}(ho:PE X o to)(hbase:attributeBase o "pop" X.env (eval o X.env)=eval o X.env:=by rfl)(hline:(apos.endLine == cpos.line)=true:=by rfl)(hK:X.K=K:=by rfl) :
 PE X (.Call (.Attribute o "pop" apos) [] [] cpos) (EV K "list" HZ to):=hK ▸ GF PySem.F.plainAttrs_list PySem.F.slot_list_pop PySem.F.type_list_pop Ko ho hbase hline
end
end L2
namespace L2
open PySem
noncomputable def C3(P:Program)(w:World)(K:W.Frag)(a:Addr)(Yj:List (Key × V)):Prop :=
 (a == sysModules)=false/\∃vs,KV Yj vs/\∃o,K.lookup a=some o/\o.IsDictOf (Ai P w) vs
section
variable {X:Cx}{Ya:List (Addr × Obj)}{σ:St}{H:Hp}{s:Shared}{a:Addr}
theorem Hj{Yj:List (Key × V)}(I:Yc X Ya σ H s)(h:C3 X.prog X.w X.K a Yj):(a == sysModules)=false/\∃vs,KV Yj vs/\s.heap.DictOf (Ai X.prog X.w) a vs:=by
 obtain⟨h1,vs,h2,o,h3,h4⟩:=h;exact⟨h1,vs,h2,Heap.dictOf_iff.mpr ⟨o,I.kIn _ _ h3,h4⟩⟩
variable {Yj:List (Key × V)}{i:Expr}{pos pos' apos:Pos}{ty:TE}{x:Str}{P:Program}{w:World}{K:W.Frag}{o:Expr}{td:TE}
theorem JA {es:List DictEntry} {ep:Nat} {vs:List (Key × Value)} (hl:K.lookup a=some ⟨.type "dict",none,.dict es.toArray ep,#[]⟩) (ha:(a == sysModules)=false) (rel:KV Yj vs)
 (hk:∀e∈es,∃k,(Ai P w).is k e.key=true/\e.hash=(Ai P w).hash k) (hp:Pairs (Ai P w) es vs) (hn:(vs.map (·.1)).Nodup):C3 P w K a Yj :=
 ⟨ha,vs,rel,_,hl,es.toArray,ep,⟨rfl,rfl,rfl⟩,rfl,fun e he=>hk e (by simpa using he),by simpa using hp,hn⟩
end
end L2
namespace L2
open PySem Builtin Builtin.Str
section
variable {X:Cx}{a:Addr}{Yj:List (Key × V)}{o e:Expr}{ty to:TE}{t:TA}{apos cpos:Pos}{P:Program}{w:World}{K:W.Frag}
noncomputable def Lh(Yj:List (Key × V))(ty:TE):TE:=fun σ H Q=>ty σ H fun y H2=>∃k,y=kV k/\Q ((Ap Yj k).getD .non) H2
theorem IN(hd:C3 P w K a Yj)(ho:PE X o (tC (.ref a)))(he:PE X e ty)(m:M1 X o "get" apos e cpos)(hP:X.prog=P:=by rfl)(hw:X.w=w:=by rfl)(hK:X.K=K:=by rfl) :
 PE X (.Call (.Attribute o "get" apos) [e] [] cpos) (Lh Yj ty):=by
 subst hP hw hK;intro Ya s σ H Q I h
 refine wpAny_Call_method m.base m.few m.line PySem.F.plainAttrs_dict PySem.F.slot_dict_get PySem.F.type_dict_get
  (Yk (ho Ya s σ H (fun y H1=>y=.ref a/\ty σ H1 fun y H2=>∃k,y=kV k/\Q ((Ap Yj k).getD .non) H2) I ⟨rfl,h⟩) fun u s1 ⟨x,H1,I1,rx,ex,q1⟩=>?_)
 subst ex;obtain rfl:u=Value.ref a:=rx;obtain⟨hs,vs,rel,dd⟩:=Hj I1 hd;refine⟨dd.typeIs,fun b q=>?_,?_⟩
 ·cases q;obtain⟨ob,_,_,h1,h2,_⟩:=dd;exact⟨ob,h1,h2.2.1⟩
 rw[m.trees];refine Calls.callWith_builtin rfl (Calls.evalArgs_plain (Calls.spliced_cons (Yk (he Ya s1 σ H1 _ I1 q1) fun iv s2 ⟨y,H2,I2,ry,k,ey,q2⟩=>Calls.spliced_nil ?_)));subst ey;obtain⟨hs,vs,rel,dd⟩:=Hj I2 hd
 exact call_meetsIn PySem.F.slot_dict_get dd.typeIs PySem.F.entry_dict_get (PySem.F.args_dict_get_2 _ _) (meets_dict_get (Ai X.prog X.w) a (Af ry) hs)
  ⟨_,dd.mapOf,⟨_,H2,I2.tok _,(rel.val k).getD (d:=.non) rfl,q2⟩⟩
theorem FX:∀{ws:List Str} {us:List Value},Yg (ws.map V.str) us->∃l:List (Str × Tok),us=strValues l/\l.map (·.1)=ws
 | [],us,h=>by cases h;exact⟨[],rfl,rfl⟩
 | x::ws,us,h=>by
  cases h with
  | cons r h =>
   obtain⟨l,rfl,e⟩:=FX h;obtain⟨t,rfl⟩:=r;exact⟨(x,t)::l,rfl,by rw[ZY,e]⟩
theorem FG:∀l:List (Str × Tok),Yg ((l.map (·.1)).map V.str) (strValues l)
 | []=>.nil
 | (x,t)::l=>.cons ⟨t,rfl⟩ (FG l)
noncomputable def Eb(K:W.Frag):V->List V->Hp->VK->Prop:=fun x vs H Q=>match x,vs with
 | .str sep,[.ref l]=>∃ws:List Str,Yr K H l (ws.map V.str)/\JoinOk sep ws=true/\Q (.str (Str.join sep ws)) H
 | _,_=>False
theorem Kb:MtR X "str.join" (Eb X.K):=by
 intro Ya s σ H x vs v us Q I rx rv q
 match x,vs,q with
 | .str sep,[.ref l],⟨ws,hl,hok,q⟩ =>
 obtain⟨t,rfl⟩:=rx;obtain⟨u,rfl,ru⟩:=B5 rv;cases ru;obtain⟨Yd,r,pl,hz⟩:=I.list hl;obtain⟨ls,rfl,e⟩:=FX r;refine SC.join pl.isList e hok fun t' k=>⟨.str (Str.join sep ws),H,I.tok _,⟨t',?_⟩,q⟩
 have:Txt.join sep ws=Str.join sep ws:=StrLaws.glued_eq_join sep ws
 rw[this]
theorem Ck (ho:PE X o to) (ha:PA X [e] t) (hbase:attributeBase o "join" X.env (eval o X.env)=eval o X.env:=by rfl)
 (hfew:((backTo cpos (starEach [e] X.env)).all (fun x=>!x.1) && (backToKw cpos (keywordEach [] X.env)).all (fun x=>x.1.isSome)
   && decide ([e].length+([]:List Keyword).length+(if ([]:List Keyword).isEmpty then 0 else 1) < 30))=true:=by rfl)
 (hline:(apos.endLine == cpos.line)=true:=by rfl) (hs:starEach [e] X.env=(false,eval e X.env)::starEach [] X.env:=by rfl) (hplain:(backTo cpos (starEach [] X.env)).any (·.1)=false:=by rfl) (hK:X.K=K:=by rfl) :
 PE X (.Call (.Attribute o "join" apos) [e] [] cpos) (tBM K "str" (Eb K) to t):=hK ▸ C0 PySem.F.plainAttrs_str PySem.F.slot_str_join PySem.F.type_str_join Kb ho ha hbase hfew hline hs hplain
theorem J7 {prog:Program} {w:World} {A:Around} {E:Value->Shared->Prop} {s:Shared} {x y:Str} {t u:Tok} {Q:Value->Shared->Prop} (hy:(y.length == 0)=false) (hsz:x.length<=sizeLine)
 (hsz2:(partsBetween x (occurrences x y 0 x.length (x.length+1)) y.length).length<=sizeLine)
 (hq:∀(l:List (Str × Tok)) (k:Nat),l.map (·.1)=Txt.split x y->Q (.ref s.heap.objs.size) { s with toks:=k,heap:=s.heap.push { cls:=.type "list",data:=.seq (strValues l).toArray } }) :
 wpAny (model prog w) A (call (.builtin "str.split") [.str x t,.str y u]) Q E s:=by
 cases h1:decide (x.length < y.length) || decide (strKind x < strKind y) with
 | true=>exact call_meets F.slot_str_split (typeIs_str _ _ _) F.entry_str_split (F.args_str_split_2 _ _) (meets_str_split_cannot_occur x y t u h1) (hq [(x,t)] s.toks (if_pos h1).symm)
 | false =>
  cases hf:(occurrences x y 0 x.length (x.length+1)).isEmpty with
  | true=>exact call_meets F.slot_str_split (typeIs_str _ _ _) F.entry_str_split (F.args_str_split_2 _ _) (meets_str_split_not_found x y t u h1 hy hf) (hq [(x,t)] s.toks ((if_neg (ne_true_of_eq_false h1)).trans (if_pos hf)).symm)
  | false =>
   refine call_meets F.slot_str_split (typeIs_str _ _ _) F.entry_str_split (F.args_str_split_2 _ _) (meets_str_split_sep x y t u h1 hy hf hsz hsz2) ?_;have z:=hq (numbered s.toks (partsBetween x (occurrences x y 0 x.length (x.length+1)) y.length)) (s.toks+(partsBetween x (occurrences x y 0 x.length (x.length+1)) y.length).length) ((numbered_texts _ _).trans ((if_neg (ne_true_of_eq_false h1)).trans (if_neg (ne_true_of_eq_false hf))).symm);rw[<- strsFrom_eq]at z;exact z
theorem FJ(x y:Str):(partsBetween x (occurrences x y 0 x.length (x.length+1)) y.length).length<=x.length+2:=by
 have:=StrLaws.occ_length_le_len x y 0 x.length (x.length+1)
 unfold partsBetween;simp;lia
theorem KM(x y:Str):(Txt.split x y).length<=x.length+2:=by
 have h:=FJ x y;unfold Txt.split;split
 ·simp
 ·split
  ·simp
  ·exact h
noncomputable def Hs:V->List V->Hp->VK->Prop:=fun x vs H Q=>match x,vs with
 | .str x,[.str y]=>(y.length == 0)=false/\x.length<=1000/\∀p,H p=none->Q (.ref p) (upd H p (.lst ((Txt.split x y).map V.str)))
 | _,_=>False
theorem Jv:MtR X "str.split" Hs:=by
 intro Ya s σ H x vs v us Q I rx rv q
 match x,vs,q with
 | .str x,[.str y],⟨hy,hx,q⟩ =>
 obtain⟨t,rfl⟩:=rx;obtain⟨u,rfl,ru⟩:=B5 rv;obtain⟨t2,rfl⟩:=ru;have hl:=FJ x y;have hl2:=KM x y;have big:2000<=sizeLine:=by decide
 refine J7 hy (by lia) (by lia) fun l k e=>?_
 refine⟨.ref s.heap.objs.size,upd H s.heap.objs.size (.lst ((Txt.split x y).map V.str)),I.laid (t':=k) (fun b u e=>ZJ _ e) (ZD _) ?_,rfl,q _ (I.hok.fresh (ZD _))⟩;refine⟨by rw[ZF];lia,strValues l,0,?_,ZT _ rfl⟩;rw[<- e];exact FG l
theorem D5 (ho:PE X o to) (ha:PA X [e] t) (hbase:attributeBase o "split" X.env (eval o X.env)=eval o X.env:=by rfl)
 (hfew:((backTo cpos (starEach [e] X.env)).all (fun x=>!x.1) && (backToKw cpos (keywordEach [] X.env)).all (fun x=>x.1.isSome)
   && decide ([e].length+([]:List Keyword).length+(if ([]:List Keyword).isEmpty then 0 else 1) < 30))=true:=by rfl)
 (hline:(apos.endLine == cpos.line)=true:=by rfl) (hs:starEach [e] X.env=(false,eval e X.env)::starEach [] X.env:=by rfl) (hplain:(backTo cpos (starEach [] X.env)).any (·.1)=false:=by rfl) (hK:X.K=K:=by rfl) :
 PE X (.Call (.Attribute o "split" apos) [e] [] cpos) (tBM K "str" Hs to t):=hK ▸ C0 PySem.F.plainAttrs_str PySem.F.slot_str_split PySem.F.type_str_split Jv ho ha hbase hfew hline hs hplain
end
theorem KH(sep x y:Str)(r:List Str):Str.join sep (x::y::r)=x++sep++Str.join sep (y::r):=rfl
end L2
namespace L2
open PySem PySem.Spec PyProof.Rows
variable {base:Heap}{x:Addr}{cls:Value}{od:Option Addr}{Q:Unit->Shared->Prop}{t:Option (Addr × Value)}
noncomputable def ExA(h:Heap)(x:Addr)(cls:Value)(od:Option Addr)(t:Option (Addr × Value)):Prop :=
 ∃oe vs,h.get? x=some oe/\oe.cls=cls/\oe.dict=od/\oe.data=.fields vs/\match t with
  | none=>vs[1]? = some .none
  | some (T,fl)=>vs[1]? = some (.ref T)/\T≠x/\∃oT ts,h.get? T=some oT/\oT.data=.fields ts/\ts[3]? = some fl
noncomputable def Sl(fs ch:List Addr)(h h':Heap):Prop:=∀b o,h.get? b=some o->b∉ch->(b∉fs->h'.get? b=some o)/\∃sl,h'.get? b=some { o with slots:=sl }
section
variable {M:Model}{A:Around}{E:Value->Shared->Prop}{s:Shared}
theorem LG(h:Heap)(a:Addr)(f:Obj->Obj):(h.update a f).objs.size=h.objs.size:=by
 have:=(Heap.SameBut.update h a f).1
 exact this
theorem DS {env:Env} {outer:List Env} {L:Addr} {head:Value} {oe:Obj} {vs:Array Value} {hadNext:Bool} 
 (hfr:A.frames=some (env::outer)) (hl:s.heap.FunFrames base (env::outer)) (hf:env.frame=some L) (he:s.heap.get? x=some oe) (hc:oe.cls=cls) (ho:oe.dict=od) (hd:oe.data=.fields vs) (hsz:1 < vs.size)
 (k:∀h' T,ExA h' x cls od (some (T,rawInt L))->s.heap.get? T=none->Sl (frs (env::outer)) [x] s.heap h'->Q () { s with heap:=h' }) :
 wpAny M A (do let a <- frameOf env;let pl <- entryPlaceOf L hadNext;let b <- EntryCells.newEntry head a .none (rawInt L) .none pl;setField (.ref x) 1 b) Q E s:=by
 have hxf:x∉frs (env::outer):=fun hm=>by
  obtain⟨_,o,h1,h2⟩:=hl.mem hm;rw[he]at h1;cases h1;exact h2 vs hd
 refine ZA (wpAny_frameOf_fun hfr hl hf fun g1 sg=>ZA (wpAny_entryPlaceOf fun pl hpl=>?_));obtain⟨sz1,sm1,so1⟩:=sg;unfold EntryCells.newEntry newFields;refine ZA (Zv ?_ (hpl.sizeOk5 _ _ _ _ _));have e1:g1.get? x=some oe:=by rw[sm1 x hxf];exact he
 generalize hob:({ cls:=.type "traceback",dict:=none,data:=.fields ([head,.ref L,.none,rawInt L,.none]++(if pl.isEmpty then List.replicate 6 Value.none else pl)).toArray }:Obj)=ob;have e2:=ZJ ob e1;refine wpAny_setField e2 hd hsz ?_;have nT:g1.objs.size≠x:=Nat.ne_of_gt (ZC e1);have obf:ob.isFreed=false:=by rw[<- hob];rfl
 have eT:=ZT g1 obf;have d3:=Obj.data_mapFields hd (·.setIfInBounds 1 (Value.ref g1.objs.size));refine k _ g1.objs.size ⟨_,_,Zw _ e2 (Obj.isFreed_of_fields d3),(Obj.cls_mapFields ..).trans hc,?_,d3,by simp[hsz],nT,ob,_,?_,by rw[<- hob],?_⟩ (Zo (by rw[sz1];exact ZD _)) fun b o hb hn=>?_
 ·obtain⟨c,d,dt,sl⟩:=oe;cases dt <;> first | (cases hd;done) | exact ho
 ·rw[Zd _ _ (Ne.symm nT)];exact eT
 ·first | (simp;done) | (rcases hpl with rfl | ⟨_,_,_,_,_,_,_,rfl⟩ <;> simp)
 ·have nb:b≠x:=fun z=>hn (by rw[z];exact ZH.mpr rfl)
  refine⟨fun nf=>?_,?_⟩
  ·rw[Zd _ _ (Ne.symm nb)];exact ZJ _ (by rw[sm1 b nf];exact hb)
  ·obtain⟨sl,e5⟩:=so1 b o hb;exact⟨sl,by rw[Zd _ _ (Ne.symm nb)];exact ZJ _ e5⟩
theorem Fx {env:Env} {outer:List Env} {L:Addr} 
 (hfr:A.frames=some (env::outer)) (hl:s.heap.FunFrames base (env::outer)) (hf:env.frame=some L) (he:ExA s.heap x cls od t) (ht:t=none\/∃T,t=some (T,.none))
 (k:∀h' T,ExA h' x cls od (some (T,rawInt L))->s.heap.get? T=none->Sl (frs (env::outer)) (x::(t.map (·.1)).toList) s.heap h'->Q () { s with heap:=h' }):wpAny M A (noteFrame (.ref x) env) Q E s:=by
 obtain⟨oe,vs,e1,e2,e3,e4,e5⟩:=he;unfold noteFrame;simp only[hf]
 rcases ht with rfl | ⟨T0,rfl⟩
 ·refine ZA (Zk e1 e4 e5 ?_);rw[if_neg (by decide)];exact DS hfr hl hf e1 e2 e3 e4 (Z1.mp e5).1 k
 ·obtain⟨e5,nT,oT,ts,g1,g2,g3⟩:=e5;refine ZA (Zk e1 e4 e5 ?_);rw[if_pos (by simp)];refine ZA (Zk g1 g2 g3 ?_);rw[if_neg (by simp[rawInt])];refine ZA (wpAny_setField g1 g2 (Z1.mp g3).1 ?_);have ot:∀b,b≠T0->(s.heap.update T0 (Obj.mapFields (·.setIfInBounds 3 Value.none))).get? b=s.heap.get? b:=fun b hb=>Zd _ _ (Ne.symm hb)
  have nf:∀b o,s.heap.get? b=some o->(∀vs,o.data≠.fields vs)->b≠T0:=fun b o hb h z=>by
   rw[z,g1]at hb;cases hb;exact h ts g2
  refine DS hfr (hl.of_keeps fun b o hb h=>⟨o,by rw[ot b (nf b o hb h)];exact hb,rfl⟩) hf (by rw[ot x (Ne.symm nT)];exact e1) e2 e3 e4 (Z1.mp e5).1 fun h' T a1 a2 a3=>k h' T a1 ?_ fun b o hb hn=>?_
  ·cases q:s.heap.get? T with
   | none=>rfl
   | some o =>
    by_cases z:T=T0
    ·have hf3:=Obj.data_mapFields g2 (·.setIfInBounds 3 Value.none)
     have:=Zw (Obj.mapFields (·.setIfInBounds 3 Value.none)) g1 (Obj.isFreed_of_fields hf3)
     rw[z]at a2;rw[this]at a2;cases a2
    ·rw[ot T z,q]at a2;cases a2
  ·have n1:b≠x:=fun z=>hn (by rw[z];exact ZW)
   have n2:b≠T0:=fun z=>hn (by rw[z];exact ZS _ (ZH.mpr rfl))
   exact a3 b o (by rw[ot b n2];exact hb) (fun z=>n1 (ZH.mp z))
theorem Cb {T:Addr} {fl:Value} (he:ExA s.heap x cls od (some (T,fl)))
 (k:∀h',ExA h' x cls od (some (T,.none))->(∀b,b≠T->h'.get? b=s.heap.get? b)->h'.objs.size=s.heap.objs.size->Q () { s with heap:=h' }):wpAny M A (setFlight (.ref x) none) Q E s:=by
 obtain⟨oe,vs,e1,e2,e3,e4,e5,nT,oT,ts,g1,g2,g3⟩:=he;have z3:3 < ts.size:=(Z1.mp g3).1;unfold setFlight;refine ZA (Zk e1 e4 e5 ?_);rw[if_pos (by simp)];refine wpAny_setField g1 g2 z3 (k _ ⟨oe,vs,?_,e2,e3,e4,e5,nT,_,_,Zw _ g1 (Obj.isFreed_of_fields (Obj.data_mapFields g2 _)),Obj.data_mapFields g2 _,by simp[z3]⟩ (fun b hb=>Zd _ _ (Ne.symm hb)) (LG ..));rw[Zd _ _ nT];exact e1
theorem HX {env:Env} {outer:List Env} {L:Addr} 
 (hfr:A.frames=some (env::outer)) (hl:s.heap.FunFrames base (env::outer)) (hf:env.frame=some L) (he:ExA s.heap x cls od t) (ht:t=none\/∃T,t=some (T,.none))
 (k:∀h' T,ExA h' x cls od (some (T,.none))->s.heap.get? T=none->Sl (frs (env::outer)) (x::(t.map (·.1)).toList) s.heap h'->Q () { s with heap:=h' }) :
 wpAny M A (noteFrame (.ref x) env) (fun _ s1=>wpAny M A (setFlight (.ref x) none) Q E s1) E s :=
 Fx hfr hl hf he ht fun h1 T a1 a2 a3=>Cb (s:={ s with heap:=h1 }) a1 fun h2 b1 b2 b3=>k h2 T b1 a2 fun b o hb hn=>by
  obtain⟨c1,sl,c2⟩:=a3 b o hb hn;have nT:b≠T:=fun z=>by rw[z,a2]at hb;cases hb
  exact⟨fun nf=>(b2 b nT).trans (c1 nf),sl,(b2 b nT).trans c2⟩
theorem G6 {env:Env} {outer:List Env} {L:Addr} 
 (hfr:A.frames=some (env::outer)) (hl:s.heap.FunFrames base (env::outer)) (hf:env.frame=some L) (he:ExA s.heap x cls od t) (ht:t=none\/∃T,t=some (T,.none))
 (k:∀h' T,ExA h' x cls od (some (T,.none))->s.heap.get? T=none->Sl (frs (env::outer)) (x::(t.map (·.1)).toList) s.heap h'->Q () { s with heap:=h' }):wpAny M A (leaving env (.ref x)) Q E s:=by
 unfold leaving;exact ZA (HX hfr hl hf he ht k)
end
noncomputable def CXE(P:Program)(w:World):CXT:=fun outer H s E e s'=>∃x cls od T H',e=.ref x/\s'.os=s.os/\AllBare s'.gens/\Un (frs outer) [] H H' s.heap s'.heap/\HOk P w H' s'.heap/\ExA s'.heap x cls od (some (T,.none))/\(s.heap.get? x=none/\s.heap.get? T=none)/\(H' x=none/\H' T=none)/\E cls od H'
theorem Fun.okE {P:Program} {w:World} {K:W.Frag} {mg:Str->Option Value} {x qual:Str} {st:Stmt} {f:Addr} {fd:FuncData} {N ps:List Str} {k:Nat} {sp:Sp} (F:Fun K x qual st f fd) (S:FnScope N ps (AM st)) (len:∀vs H Q E,sp vs H Q E->vs.length=ps.length)
 (hbody:∀(Ys:Value) (A:Around) (outer:List Env) (s:Shared) (H:Hp) (vs:List V) (Q:VK) (E:XK),Room k (A.deeper (envOfC qual (AM st) s.heap.objs.size f Ys))->sp vs H Q E ->
   ∃t,PSs (A9 (CXE P w) P w K mg base N qual (AM st) f Ys A outer s H E) (Av st) t/\t { nx:=fun _ H'=>Q .non H',rt:=Q } (BQ N vs) H):FnOk P w K mg base (CXE P w) (k+1) f fd ps sp:=by
 obtain⟨oc,od,kV,doc,pm,an,Ys,ct,osl,rfl,lk,hcd⟩:=F.ex;exact HD lk hcd S len fun A outer s H vs Q E hr hsp=>hbody Ys A outer s H vs Q E hr hsp
section
variable {X:Cx}{Ya:List (Addr × Obj)}{σ:St}{H H':Hp}{s:Shared}{h':Heap}
theorem PS.nox{st:Stmt}{t:TS}(h:PS X.nox st t):PS X st t:=fun Ya s σ H D I hw =>
 ZI (h Ya s σ H D (I.wish _) hw) (fun _ _ q=>q.unwish) fun _ _ z=>False.elim z
theorem ObjOk.is{P:Program}{w:World}{h:Heap}{a:Addr}{o:HO}(x:ObjOk P w H h a o):∃u,h.get? a=some u:=by
 cases o with
 | lst xs=>obtain⟨_,_,_,_,e⟩:=x;exact⟨_,e⟩
 | tup xs=>obtain⟨_,_,_,o,e,_⟩:=x;exact⟨_,e⟩
 | dK Yj=>obtain⟨_,_,_,_,o,_,_,e,_⟩:=x;exact⟨_,e⟩
 | dT Yj=>obtain⟨_,_,_,_,o,_,_,e,_⟩:=x;exact⟨_,e⟩
 | set S n=>obtain⟨o,_,_,_,e,_⟩:=x;exact⟨_,e⟩
 | ins C dx fs=>obtain⟨_,_,_,e,_⟩:=x;exact⟨_,e⟩
 | own y=>exact x
 | xd fs=>obtain⟨_,⟨_,_,_,e,_⟩,_⟩:=x;exact⟨_,e⟩
 | rng lo hi=>obtain⟨_,_,_,e⟩:=x;exact⟨_,e⟩
 | frz ob u=>obtain⟨e,_⟩:=x;exact⟨_,e⟩
 | tbl ps=>exact⟨_,x⟩
 | met f y=>exact⟨_,x⟩
 | ext φ=>obtain⟨_,e,_⟩:=x;exact e
theorem Bw{P:Program}{w:World}{h:Heap}{a:Addr}(hok:HOk P w H h)(n:h.get? a=none):H a=none:=by
 cases e:H a with
 | none=>rfl
 | some o =>
  obtain⟨u,q⟩:=(hok a o e).is;rw[n]at q;cases q
end
noncomputable abbrev DJ:List Value:=[.type "ValueError",.type "Exception",.type "BaseException",.type "object"]
noncomputable def Dp(x:Addr)(cls:Value)(od:Option Addr)(h:Heap):Prop:=∃oe vs,h.get? x=some oe/\oe.cls=cls/\oe.dict=od/\oe.data=.fields vs
noncomputable abbrev BH(x:Addr)(cls:Value)(od:Option Addr):HO:=.ext (Dp x cls od)
theorem KR{P:Program}{w:World}{H:Hp}{h:Heap}(e:Dp x cls od h):ObjOk P w H h x (BH x cls od) :=
 ⟨e,let ⟨oe,_,q,_⟩:=e;⟨oe,q⟩,fun _ _ ⟨oe,vs,q,r⟩ k=>⟨oe,vs,k oe q,r⟩⟩
theorem ExA.has{h:Heap}(e:ExA h x cls od t):Dp x cls od h:=let ⟨oe,vs,a,b,c,d,_⟩:=e;⟨oe,vs,a,b,c,d⟩
noncomputable def Cx.hand(X:Cx)(e:Value):Cx:={ X with A:=X.A.mark (some e),calm:=false,xe:=fun _ _=>False }
section
variable {X:Cx}{Ya:List (Addr × Obj)}{σ:St}{H H':Hp}{s s1:Shared}{h:Heap}
theorem Yc.hand(I:Yc X Ya σ H s)(e:Value):Yc (X.hand e) Ya σ H s :=
 ⟨⟨I.ok.mod,I.ok.kind,I.ok.glob,I.ok.blt,I.ok.above,I.ok.inj,I.ok.has,I.ok.cab,(fun z=>by cases z),I.ok.frames,I.ok.stk,I.ok.exf,I.ok.bs,I.ok.bsz,I.ok.noex,I.ok.exfs,I.ok.funs,I.ok.frf⟩,I.os,I.bare,I.base,I.loc,I.cell,I.free,I.freeC,I.pin,I.hok,I.len⟩
theorem Yc.unhand{e:Value}(J:Yc X Ya σ H s){pins':List (Addr × Obj)}{σ':St}{H1:Hp}{s2:Shared}(I:Yc (X.hand e) pins' σ' H1 s2):Yc X pins' σ' H1 s2 :=
 ⟨J.ok,I.os,I.bare,I.base,I.loc,I.cell,I.free,I.freeC,I.pin,I.hok,I.len⟩
theorem Fw {T:Addr} (I:Yc X Ya σ H s) (ho:s1.os=s.os) (hb:AllBare s1.gens) (u:Un (frs X.stack) [] H H' s.heap s1.heap) (hk:HOk X.prog X.w H' s1.heap)
 (nx:s.heap.get? x=none) (nT:s.heap.get? T=none) (fx:H' x=none) (fT:H' T=none) (c:Sl (frs X.stack) [x,T] s1.heap h) (ex:ExA h x cls od t):Yc X Ya σ (upd H' x (BH x cls od)) { s1 with heap:=h }:=by
 have I1:Yc X Ya σ H' s1:=I.call' ho u hk hb (ch:=[]) fun b z=>absurd z (by simp)
 have hxH:H x=none:=Bw I.hok nx;have up:∀b,b≠x->upd H' x (BH x cls od) b=H' b:=fun b n=>AG n
 have nin:∀b o,s.heap.get? b=some o->b∉[x,T]:=fun b o e z=>by
  rcases ZG.mp z with rfl | z
  ·rw[nx]at e;cases e
  ·rw[ZH.mp z,nT]at e;cases e
 refine I.call' (s':={ s1 with heap:=h }) (ch:=[]) ho ⟨fun b o e n nb hx=>?_,fun b o e n nb hx=>?_,fun b o e n hx=>?_,fun b o e hx=>?_,fun b xs e=>?_,fun b o v e=>?_,fun b ps e=>?_⟩ (fun b ob e=>?_) hb fun b z=>absurd z (by simp)
 ·exact(c b o (u.keep b o e n nb hx) (nin b o e)).1 nb
 ·obtain⟨sl,e1⟩:=u.slot b o e n nb hx;obtain⟨sl2,e2⟩:=(c b _ e1 (nin b o e)).2;exact⟨sl2,e2⟩
 ·rw[up b fun z=>by rw[z,nx]at e;cases e];exact u.free b o e n hx
 ·obtain⟨o1,e1⟩:=u.there b o e hx;obtain⟨sl2,e2⟩:=(c b _ e1 (nin b o e)).2;exact⟨_,e2⟩
 ·rw[up b fun z=>by rw[z,hxH]at e;cases e];exact u.tups b xs e
 ·rw[up b fun z=>by rw[z,hxH]at e;cases e];exact u.frzs b o v e
 ·rw[up b fun z=>by rw[z,hxH]at e;cases e];exact u.tbls b ps e
 ·by_cases z:b=x
  ·subst z;rw[AD]at e;cases e;exact KR ex.has
  ·rw[up b z]at e;have neq:∀c2 o2,H' c2=some o2->c2≠x:=fun c2 o2 q z=>by rw[z,fx]at q;cases q
   refine(hk b ob e).stay (fun c2 v hc q=>?_) (fun c2 q=>by rw[up c2 (neq _ _ q)];exact q) fun c2 xs q=>by rw[up c2 (neq _ _ q)];exact q
   obtain⟨o2,q2⟩:∃o2,H' c2=some o2:=by
    rcases hc with rfl | hc
    ·exact⟨_,e⟩
    ·exact⟨_,hc⟩
   refine(c c2 v q fun m=>?_).1 fun m=>?_
   ·rcases ZG.mp m with z2 | z2
    ·exact neq _ _ q2 z2
    ·rw[ZH.mp z2,fT]at q2;cases q2
   ·rw[I1.stkFree c2 m]at q2;cases q2
theorem Cf {M:Model} {A:Around} {E:Value->Shared->Prop} {i:Nat} {x:Str} {pos:Pos} (I:Yc X Ya σ H s) (hN:X.N.Nodup) (hi:X.N[i]? = some x) (hk:X.env.kindOf x=some .local)
 (h:∀s',Yc X Ya (σ.set i none) H s'->Q () s'):wpAny M A (do bindName X.env x .none;unbindBehindTheSuite X.env x pos) Q E s:=by
 obtain⟨m,hn,hl⟩:=id I.loc;have hcls:(X.env.scope.kind == .class || (X.env.scope.kind == .module && X.env.locals != X.env.globals))=false:=by rw[I.ok.kind];rfl
 have hiσ:i < σ.length:=by rw[I.len];exact(Zg.mp hi).1
 have cne:=I.cne;refine wpAny_nameGoes_keeps hk hn hcls fun h' v hn' hs=>?_
 obtain⟨oL,_,_,hoL,_⟩:=id hn;refine h _ ⟨I.ok,I.os,I.bare,⟨fun b o e n hb hx=>?_,fun b o e n hb hx=>?_,I.base.free,fun b o e hx=>?_,I.base.tups,I.base.frzs,I.base.tbls⟩,⟨_,hn',fun j y v' e1 e2 e3=>?_⟩,fun y c e=>?_,I.free,I.freeC,fun p hp=>?_,fun b ob e=>?_,by simpa using I.len⟩
 ·exact(hs.2 b (ZM (ZL (ZC e) I.ok.above))).trans (I.base.keep b o e n hb hx)
 ·obtain⟨sl,e1⟩:=I.base.slot b o e n hb hx;exact⟨sl,(hs.2 b (ZM (ZL (ZC e) I.ok.above))).trans e1⟩
 ·obtain⟨o',e1⟩:=I.base.there b o e hx;exact⟨o',(hs.2 b (ZM (ZL (ZC e) I.ok.above))).trans e1⟩
 ·by_cases hj:j=i
  ·subst hj;rw[List.getElem?_set_self hiσ]at e2;cases e2
  ·rw[ZBF (Ne.symm hj)]at e2;obtain⟨u',r',q⟩:=hl j y v' e1 e2 e3;refine⟨u',r',?_⟩
   rcases q with ⟨k,e⟩ | ⟨k,c,e,z⟩
   ·refine .inl ⟨k,?_⟩
    have:y≠x:=fun e=>hj (DZ hN e1 (e ▸ hi))
    simp[this,e]
   ·exact .inr ⟨k,c,e,z.sameBut hs (cne y c e)⟩
 ·obtain⟨w',z⟩:=I.cell y c e;exact⟨w',z.sameBut hs (cne y c e)⟩
 ·obtain⟨e,n,ne,nf,d⟩:=I.pin p hp;exact⟨(hs.2 p.1 ne).trans e,n,ne,nf,d⟩
 ·refine(I.hok b ob e).stay (fun c w' hc q=>(hs.2 c ?_).trans q) (fun _ q=>q) fun _ _ q=>q
  rintro rfl
  rcases hc with rfl | hc
  ·rw[I.free]at e;cases e
  ·rw[I.free]at hc;cases hc
end
noncomputable abbrev TX:=St->Hp->VK->XK->Prop
noncomputable def PX(X:Cx)(e:Expr)(t:TX):Prop :=
 ∀(Ya:List (Addr × Obj)) (s:Shared) (σ:St) (H:Hp) (Q:VK) (E:XK),Yc X Ya σ H s->t σ H Q E->wpAny (model X.prog X.w) X.A (eval e X.env) (EP X Ya σ Q) (fun ev s'=>∃H1 s1,Yc X Ya σ H1 s1/\CXE X.prog X.w X.stack H1 s1 E ev s') s
noncomputable def IR(sp:Sp)(dvs:List V)(t:TA):TX:=fun σ H Q E=>t σ H fun vs H1=>sp (vs++dvs) H1 Q E
noncomputable def Ends.off(D:Ends)(j:Nat):Ends:={ nx:=fun σ H=>D.nx (σ.set j none) H,rt:=D.rt,bk:=fun σ H=>D.bk (σ.set j none) H,ct:=fun σ H=>D.ct (σ.set j none) H }
noncomputable def Kx(K:W.Frag)(C:Addr)(i j:Nat)(tx:TX)(ts:TS):TS:=fun D σ H =>
 tx σ H (fun v H1=>D.nx (σ.set i (some v)) H1) fun cls od H1=>PySem.W.exmOne K cls (.ref C)=some true/\∀x,H1 x=none->ts (D.off j) (σ.set j (some (.ref x))) (upd H1 x (BH x cls od))
section
variable {X:Cx}{k:Nat}{f C:Addr}{fd:FuncData}{ps:List Str}{sp:Sp}{dvs:List V}{ds:List Value}{x c y n:Str}{p p1 p2 p3 pos:Pos}{e:Expr}{es:List Expr}{t:TA}{tx:TX}{ts:TS}{i j:Nat}{b:Stmt}{bs:List Stmt}
theorem LP (F:FnOk X.prog X.w X.K X.mg X.base (CXE X.prog X.w) k f fd ps sp) (hr:Room k X.A) (hg:Gl X x) (hm:X.mg x=some (.ref f)) (hk:PySem.W.keepIn X.K (.ref f)=true) (hb:Binds X.K fd ps ds) (hd:Yg dvs ds)
 (ha:PA X.nox (e::es) t) (hdb:(x == ("__debug__" : Str))=false:=by decide) (he:starEach (e::es) X.env=(false,eval e X.env)::starEach es X.env:=by rfl) (hpl:(backTo pos (starEach es X.env)).any (·.1)=false:=by rfl) :
 PX X (.Call (.Name x p) (e::es) [] pos) (IR sp dvs t):=by
 intro Ya s σ H Q E I h;refine wpAny_Call_Name_kw (B6 I hg hm ?_ hdb);refine PySem.W.callWith_K (h₀:=X.base) I.ok.mod.kin hk (ZI (ha pos Ya s σ H _ (I.wish _) h) (fun us s1 ⟨vs,H1,I1,r,q⟩=>⟨I1.kIn,?_⟩) fun _ _ z=>False.elim z) he hpl;have I1:=I1.unwish;have r2:Yg (vs++dvs) (us++ds):=r.append hd;have hl:(us++ds).length=ps.length:=by rw[<- r2.length];exact F.len _ _ _ _ q
 refine wpAny_call (Zu (F.run X.A X.stack s1 H1 ⟨us,[]⟩ (us++ds) (vs++dvs) Q E hr I1.env0 (hb s1 us I1.kIn hl) r2 q) fun r s' hq=>?_);cases r with
 | error ev=>exact⟨H1,s1,I1,hq⟩
 | ok fl =>
  cases fl with
  | ret u=>exact I1.after hq
  | next=>exact False.elim hq
  | brk=>exact False.elim hq
  | cont=>exact False.elim hq
theorem Lc (hN:X.N.Nodup) (hi:X.N[i]? = some x) (hx:Loc X.env.scope x) (hj:X.N[j]? = some n) (hn:X.env.kindOf n=some .local) (hstk:X.stack=X.env::X.outer) (hfr:X.env.frame=some X.env.locals) (hg:Gl X c) (hm:X.mg c=some (.ref C))
 (he:PX X e tx) (hs:∀a,PSs (X.hand (.ref a)) (b::bs) ts) (hsw:swapsWith e (some (.Name x p1)) p2.line X.env=pure false:=by rfl) (hf:X.fn x=true\/X.env.scope.names.lookup x=some .local:=by first | exact .inl rfl | exact .inr rfl | assumption)
 (hdb:(c == ("__debug__" : Str))=false:=by decide):PS X (.Try [.Assign [.Name x p1] e p2] [.ExceptHandler (some (.Name c p3)) (some n) (b::bs) p] [] [] pos) (Kx X.K C i j tx ts):=by
 intro Ya s σ H D I h;refine wpAny_Try_except (wpAny_execs_cons (wpAny_Assign_Name (ZI (he Ya s σ H _ _ I h) (fun v s1 ⟨y,H1,I1,r1,q1⟩=>?_) fun ev s' ⟨H1,s1,I1,q⟩=>?_) hsw))
 ·exact CV I1 hN hi hx r1 (fun s2 I2=>wpAny_execs_nil (wpAny_execs_nil ⟨_,H1,I2,q1⟩)) hf
 obtain⟨a,cls,od,T,H2,rfl,ho,hb,u,hk,ex,⟨n1,n2⟩,⟨f1,f2⟩,hex,ht⟩:=q;have J:Yc X Ya σ H2 s':=I1.call' ho u hk hb (ch:=[]) fun b z=>absurd z (by simp)
 refine HX (base:=X.base) (outer:=X.outer) (L:=X.env.locals) (by rw[J.ok.frames,hstk]) (by have:=J.stack;rwa [hstk]at this) hfr ex (.inr ⟨T,rfl⟩) fun h2 T2 a1 a2 a3=>?_
 rw[<- hstk]at a3;have I2:=Fw (h:=h2) I1 ho hb u hk n1 n2 f1 f2 a3 a1;refine wpAny_handleBy_cons (codeAny_handlers_test (B6 (I2.hand (.ref a)) hg hm ?_ hdb)) (by intro q;cases q);have hob:=a1;obtain⟨oe,vs,o1,o2,_⟩:=hob;subst o2;have LT:PySem.W.Looks (model X.prog X.w) h2 (typeOf (.ref a)) oe.cls:=(PySem.W.Looks.ld o1).andThen .now;refine(PySem.W.exm_one I2.kIn LT hex).here ?_;refine codeAny_handlers_suite_as (Cb (s:={ s' with heap:=h2 }) a1 fun h3 b1 b2 b3=>?_)
 have I3:=Fw (h:=h3) I1 ho hb u hk n1 n2 f1 f2 (fun b o eb nb=>by
  have nT2:b≠T2:=fun z=>by rw[z,a2]at eb;cases eb
  obtain⟨c1,sl,c2⟩:=a3 b o eb nb;exact⟨fun nf=>(b2 b nT2).trans (c1 nf),sl,(b2 b nT2).trans c2⟩) b1
 refine CV (X:=X.hand (.ref a)) (I3.hand (.ref a)) hN hj (.inl hn) (v:=.ref a) rfl (fun s4 I4=>?_) (.inr hn);refine ZI (hs a Ya s4 _ _ _ I4 (ht a f1)) (fun fl s5 q=>?_) fun _ _ z=>False.elim z
 cases fl with
 | next=>obtain⟨σ5,H5,I5,q⟩:=q;exact Cf (J.unhand I5) hN hj hn fun s6 I6=>⟨_,_,I6,q⟩
 | brk=>obtain⟨σ5,H5,I5,q⟩:=q;exact Cf (J.unhand I5) hN hj hn fun s6 I6=>⟨_,_,I6,q⟩
 | cont=>obtain⟨σ5,H5,I5,q⟩:=q;exact Cf (J.unhand I5) hN hj hn fun s6 I6=>⟨_,_,I6,q⟩
 | ret w=>obtain⟨v5,σ5,H5,I5,r5,q⟩:=q;exact Cf (J.unhand I5) hN hj hn fun s6 I6=>⟨v5,_,_,I6,r5,q⟩
end
structure ExcC(K:W.Frag)(C:Addr):Prop where
 ga:PySem.W.findIn K (.ref C) "__getattribute__" = some (some (.builtin "BaseException.__getattribute__"))
 nga:PySem.W.findIn K (.ref C) "__getattr__" = some none
 mro:PySem.W.mroIn K C (.type "BaseException")=some true
 obj:PySem.W.mroIn K C (.type "object")=some true
 cl:PySem.W.findIn K (.ref C) "__class__" = some (some (.builtin "object.__class__"))
 ge:PySem.W.specialIn K (.builtin "object.__class__") "__get__" = some (some (.builtin "getset_descriptor.__get__"))
 tk:PySem.W.takesIn K (.builtin "object.__class__")=some true
section
variable {prog:Program}{w:World}{A:Around}{E:Value->Shared->Prop}{h:Heap}{g:Array GenState}{d:Drawn}{t:Nat}{os:OsState}{K:W.Frag}{x C:Addr}{ox:Obj}{od:Option Obj}{name:Str}
theorem Ht{M:Model}{nameV:Value}(X:K.In h)(I:PySem.W.InstAt h x ox C od)(Z:ExcC K C)(hq:Q () ⟨h,g,d,t,os⟩):wpAny M A (checkBuiltinCall "BaseException.__getattribute__" ⟨[.ref x,nameV],[]⟩) Q E ⟨h,g,d,t,os⟩:=by
 have hk:builtinKind "BaseException.__getattribute__" = some .slot:=by decide +kernel
 have hsplit:splitId "BaseException.__getattribute__" = some ("BaseException","__getattribute__"):=by decide +kernel
 have ha:=F.args_bexc_ga (.ref x) nameV;have L:PySem.W.Looks M h (isInstance (.ref x) (.type "BaseException")) true:=(I.type (M:=M)).andThen (PySem.W.looks_mroIn X Z.mro);simp only[checkBuiltinCall,hk,hsplit];refine ZA (L.at ?_)
 repeat (first | assumption | wp_step)
theorem Fp {tk:Tok} {fill expr:Bool} {Q:Value->Shared->Prop} (X:K.In h) (I:PySem.W.InstAt h x ox C od) (Z:ExcC K C)
 (hq:∀A':Around,wpAny (model prog w) A' (Builtin.«object.__getattribute__» ⟨[.ref x,.str name tk],[]⟩) (fun fin s'=>∃v,fin=.done (.ret v)/\PySem.W.handedIn v=true/\Q v s') (fun _ _=>False) ⟨h,g,d,t,os⟩) :
 wpAny (model prog w) A (getAttrBy (.ref x) (.str name tk) fill expr) Q E ⟨h,g,d,t,os⟩:=by
 have hx:=I.at_;have hc:=I.cls;have f3:=F.excAttr_ValueError.ga.bind (.ref x);have hx0:(expr && onTheHeap (Value.builtin "BaseException.__getattribute__"))=false:=by cases expr <;> rfl
 have hx2:(Value.builtin "BaseException.__getattribute__" == Value.builtin "object.__getattribute__")=false:=by decide +kernel
 have hx1:(onTheHeap (Value.ref C) && Value.builtin "BaseException.__getattribute__" == Value.builtin "object.__getattribute__")=false:=by rw[hx2];rfl
 have L1:=PySem.W.looks_findIn (M:=model prog w) X Z.ga;have L2:=PySem.W.looks_findIn (M:=model prog w) X Z.nga
 repeat (any_goals (first | assumption | (with_reducible refine wpAny_loadPart_at hx ?_;rw[hc]) | with_reducible refine L1.at ?_ | with_reducible refine L2.at ?_ | wp_step))
 refine codeAny_call_builtin F.excAttr_ValueError.ga.plain F.entry_bexc_ga (Ht X I Z (ZI (hq _) (fun fin s' z=>?_) fun _ _ z=>False.elim z));obtain⟨v,rfl,hv,z⟩:=z
 repeat (any_goals (first | assumption | wp_step))
 show wpAny _ _ (handedOut v) _ _ _;rw[PySem.W.handedOut_of hv];exact ZB z
theorem Ku{v:Value}{tk:Tok}{fill expr:Bool}{Q:Value->Shared->Prop}(X:K.In h)(I:PySem.W.InstAt h x ox C od)(Z:ExcC K C)(hf:PySem.W.findObj K C od name=some (.value v))(hv:PySem.W.handedIn v=true)(hq:Q v ⟨h,g,d,t,os⟩) :
 wpAny (model prog w) A (getAttrBy (.ref x) (.str name tk) fill expr) Q E ⟨h,g,d,t,os⟩:=by
 refine Fp X I Z fun A'=>?_
 have L0:=I.type (M:=model prog w);have L3:=PySem.W.looks_find (M:=model prog w) X I hf;refine ZA (ZB (ZA (ZB (ZA (L0.at (ZA (L3.at ?_)))))));exact ZB ⟨v,rfl,hv,hq⟩
theorem Mp{tk:Tok}{fill expr:Bool}{Q:Value->Shared->Prop}(X:K.In h)(I:PySem.W.InstAt h x ox C od)(Z:ExcC K C)(hq:Q (.ref C) ⟨h,g,d,t,os⟩) :
 wpAny (model prog w) A (getAttrBy (.ref x) (.str "__class__" tk) fill expr) Q E ⟨h,g,d,t,os⟩:=by
 refine Fp X I Z fun A'=>?_
 have hf:PySem.W.findObj K C od "__class__" = some (.bind (.builtin "getset_descriptor.__get__") (.builtin "object.__class__")):=by
  have:=Z.obj
  unfold PySem.W.mroIn at this;obtain⟨cd,a,b⟩:=Option.bind_eq_some_iff.mp this;unfold PySem.W.findObj;rw[a,Z.cl];simp only[Option.bind_some,Z.ge,Z.tk]
 have L0:=I.type (M:=model prog w);have L3:=PySem.W.looks_find (M:=model prog w) X I hf;refine ZA (ZB (ZA (ZB (ZA (L0.at (ZA (L3.at ?_)))))));unfold Builtin.ObjectAttr.bindTo
 repeat (any_goals (first | assumption | wp_step))
 exact PySem.W.class_get (s:=⟨h,g,d,t,os⟩) X I Z.obj (ZB ⟨_,rfl,rfl,hq⟩)
theorem IU{Q:Option Value->Shared->Prop}{s:Shared}(X:K.In s.heap)(I:PySem.W.InstAt s.heap x ox C od)(Z:ExcC K C)(hq:Q (some (.ref C)) { s with toks:=s.toks+1 }):wpAny (model prog w) A (getAttr? (.ref x) "__class__") Q E s:=by
 obtain⟨h,g,d,t,os⟩:=s;unfold getAttr? getAttrBy?;refine ZA (wpAny_mkText (ZA (wpAny_attempt (Mp X I Z ?_))));exact ZB hq
theorem Dl(Z:ExcC K C):PySem.W.KitX K (.ref x) (.ref C) (fun h=>∃ox od,PySem.W.InstAt h x ox C od) where
 ty:=fun _ _ _ ⟨_,_,I⟩=>I.type
 it:=fun _ _ X _=>by
  have:=Z.obj
  unfold PySem.W.mroIn at this;obtain⟨cd,hcD,_⟩:=Option.bind_eq_some_iff.mp this;unfold PySem.W.clsIn at hcD;split at hcD
  ·rename_i c' d' cd' sl' ho;intro A' Q' E' s' k q;unfold isType loadHead;exact ZA (wpAny_loadPart (k _ _ (X _ _ ho)) (ZB q))
  ·cases hcD
 ne:=fun h tp dd Yd n sl X htp=>by
  have:=Z.obj
  unfold PySem.W.mroIn at this;obtain⟨cd,hcD,_⟩:=Option.bind_eq_some_iff.mp this;refine Bool.eq_false_iff.mpr fun q=>?_
  have e:C=tp:=Value.ref.inj (beq_iff_eq.mp q);subst e;unfold PySem.W.clsIn at hcD;split at hcD
  ·rename_i c' d' cd' sl' ho;have z:=(X _ _ ho).symm.trans htp;cases z
  ·cases hcD
 ca:=fun X ⟨_,_,I⟩ k=>IU X I Z k
end
noncomputable def ExcAt(H:Hp)(x C:Addr)(od:Option Addr):Prop:=H x=some (BH x (.ref C) od)/\∀d,od=some d->∃o,H d=some o
noncomputable def IsC(K:W.Frag)(H:Hp)(t:Value)(b:Bool):V->Prop
 | .ty T=>PySem.W.kitOne K t (.type T)=some b
 | .ref p=>PySem.W.kitOne K t (.ref p)=some b\/∃rs:List Addr,H p=some (.tup (rs.map V.ref))/\PySem.W.kitAny K t (rs.map Value.ref)=some b
 | _=>False
noncomputable def Fs(K:W.Frag):List V->Hp->VK->Prop:=fun xs H Q=>match xs with
 | [.ref x,c]=>∃C od b,ExcAt H x C od/\ExcC K C/\IsC K H (.ref C) b c/\Q (.bl b) H
 | _=>False
theorem Hh:∀{rs:List Addr} {Yd:List Value},Yg (rs.map V.ref) Yd->Yd=rs.map Value.ref
 | [],_,.nil=>rfl
 | _::_,_,.cons r t=>by rw[Hh t,(show _=Value.ref _ from r)];rfl
section
variable {X:Cx}{K:W.Frag}{Ya:List (Addr × Obj)}{σ:St}{H:Hp}{s:Shared}
theorem ExcAt.inst{C:Addr}(e:ExcAt H x C od)(I:Yc X Ya σ H s):∃ox odo,PySem.W.InstAt s.heap x ox C odo:=by
 obtain⟨⟨oe,vs,e1,e2,e3,e4⟩,_⟩:=(show ObjOk X.prog X.w H s.heap x (BH x (.ref C) od) from I.hok x _ e.1);have hn:PySem.W.notCls oe=true:=by unfold PySem.W.notCls;rw[e4]
 cases od with
 | none=>exact⟨oe,none,e1,e2,hn,by rw[e3];trivial⟩
 | some dx =>
  obtain⟨fs,hd⟩:=e.2 dx rfl;obtain⟨u,q⟩:=(I.hok dx _ hd).is;exact⟨oe,some u,e1,e2,hn,by rw[e3];exact q⟩
theorem NF:CallR X (.builtin "isinstance") (Fs X.K):=by
 intro Ya s σ H xs us Q I r q
 match xs,q with
 | [.ref x,c],q =>
  obtain⟨C,od,b,h1,h2,h3,q⟩:=q;obtain⟨u,w',rfl,ru,rw'⟩:=Fc r;cases ru;have fin:∀tk,EP X Ya σ Q (.bool b) { s with toks:=tk }:=fun tk=>⟨.bl b,H,I.tok _,rfl,q⟩
  match c,h3,rw' with
  | .ty T,h3,rw'=>cases rw';exact PySem.W.kia_one (Dl h2) I.kIn (h1.inst I) h3 (fun z=>nomatch z) fin
  | .ref p,h3,rw' =>
   cases rw'
   rcases h3 with h3 | ⟨rs,hp,h3⟩
   ·exact PySem.W.kia_one (Dl h2) I.kIn (h1.inst I) h3 (fun z=>nomatch z) fin
   ·obtain⟨_,Yd,rv,o,g1,g2,⟨n,g3⟩,_⟩:=(show ObjOk X.prog X.w H s.heap p (.tup (rs.map V.ref)) from I.hok p _ hp);rw[Hh rv]at g3;obtain⟨oc,od',da,sl⟩:=o;cases g2;cases g3;exact PySem.W.kia_tup (Dl h2) I.kIn (h1.inst I) g1 h3 (fun z=>nomatch z) fin
theorem Ey(hK:X.K=K:=by rfl):CallR X (.builtin "isinstance") (Fs K):=hK ▸ NF
end
noncomputable def B7(K:W.Frag)(C fI:Addr):Bool:=match K.lookup C with
 | some ⟨.type "type",_,.cls cd,sl⟩=>(match cd.mro,sl.toList with
  | .ref C'::bm,[_,_,_,_,some (.builtin n),_]=>C' == C && n == "ValueError.__new__" && !cd.hasDel && cd.hasDict && PySem.W.tailIn K DJ bm && PySem.W.nsOkIn K cd.ns && PySem.W.nsIn K cd.ns "__init__" == some (some (.ref fI))
  | _,_=>false)
 | _=>false
theorem Io{K:W.Frag}{h:Heap}{N:Addr}{mg:Str->Option Value}{n:Str}{v:Value}(X:K.In h)(G:h.Ns N mg)(e:PySem.W.nsIn K N n=some (some v)):mg n=some v:=by
 obtain⟨o,es,ep,ho,hd,_,hf⟩:=G;unfold PySem.W.nsIn at e;split at e
 ·rename_i c d es' n' sl q;have z:=X _ _ q;rw[ho]at z;cases z;cases hd;split at e
  ·rename_i en he;cases e;rw[<- hf];unfold nsFind findBy;rw[<- Array.find?_toList,he];rfl
  ·split at e <;> cases e
 ·cases e
theorem Ca{K:W.Frag}{h:Heap}{C fI:Addr}(X:K.In h)(q:B7 K C fI=true):∃(nm qn:Str) (N:Addr) (bs bm:List Value) (sn:List Str) (sub:List Value) (ab:Bool) (col:Option Bool) (dd:Option Addr) (k0 k1 k2 k3 k5:Option Value) (mN:Str->Option Value),
 h.get? C=some (excClassObj nm qn C N bs bm true sn sub ab col dd k0 k1 k2 k3 k5 "ValueError.__new__")/\h.Ns N mN/\mN "__init__" = some (.ref fI)/\OwnTail h DJ bm/\∃cd,PySem.W.clsIn K C=some cd/\cd.mro=.ref C::bm/\cd.hasDict=true:=by
 unfold B7 at q;split at q
 case h_2=>cases q
 rename_i od cl sls hlk;split at q
 case h_2=>cases q
 rename_i C2 rest a0 a1 a2 a3 nid a5 hmro hslots;simp only[ZZ,beq_iff_eq,Bool.not_eq_true']at q;obtain⟨⟨⟨⟨⟨⟨z1,z2⟩,z3⟩,z7⟩,z4⟩,z5⟩,z6⟩:=q;subst z1;subst z2;have hcd:PySem.W.clsIn K C2=some cl:=by unfold PySem.W.clsIn;rw[hlk]
 cases cl with
 | mk nm bs mro ns qn hd sn sub ab col del =>
  have m1:mro=.ref C2::rest:=hmro;have m2:del=false:=z3;have m4:hd=true:=z7;subst m1;subst m2;subst m4
  have m3:sls = #[a0,a1,a2,a3,some (.builtin "ValueError.__new__"),a5]:=by
   cases sls with
   | mk l=>exact congrArg Array.mk hslots
  subst m3;have G:h.Ns ns (h.nsMap ns):=.of_isNs (PySem.W.isNs_of_in X z5);exact⟨nm,qn,ns,bs,rest,sn,sub,ab,col,od,a0,a1,a2,a3,a5,h.nsMap ns,X _ _ hlk,G,Io X G z6,PySem.W.tail_of_in X z4,_,hcd,rfl,rfl⟩
section
variable {prog:Program} {w:World} {A:Around} {E:Value->Shared->Prop} {h:Heap} {g:Array GenState} {d:Drawn} {t:Nat} {os:OsState}
 {nm q:Str} {C N:Addr} {bs bm bmB:List Value} {hdct:Bool} {sn:List Str} {sub:List Value} {ab:Bool} {col:Option Bool} {dd:Option Addr} {k0 k1 k2 k3 k5:Option Value} {B Bn newId nid initId inN:String} {bmN:List Value}
theorem Lp (Fn:ExcBaseFacts Bn newId inN bmN) (hBn:bmB.contains (.type Bn)=true) (F:ExcBaseFacts B nid initId bmB) (T:OwnTail h bmB bm) {mN:Str->Option Value} {rest:List Value} {fI:Addr} {oI:Obj} {Q:Fin->Shared->Prop}
 (hC:h.get? C=some (excClassObj nm q C N bs bm hdct sn sub ab col dd k0 k1 k2 k3 k5 newId)) (hn:h.Ns N mN) (hi:mN "__init__" = some (.ref fI)) (hfI:h.get? fI=some oI) (hfc:oI.cls=.type "function") (hrest:rest.length<=sizeLine)
 (hq:∀h' e,Heap.MadeExcOf h h' e (.ref C) rest->wpAny (model prog w) A (call (.ref fI) (.ref e::rest)) (fun r s'=>r=.none/\Q (.done (.ret (.ref e))) s') E ⟨h',g,d,t,os⟩) :
 wpAny (model prog w) A (Builtin.«type.__call__» ⟨.ref C::rest,[]⟩) Q E ⟨h,g,d,t,os⟩:=by
 repeat (first | with_reducible refine wpAny_loadPart_at hC ?_ | with_reducible refine wpAny_madeBy_exc hC ?_ | wp_step)
 refine codeAny_call_builtin_code (Code.quiet_builtin _ Fn.quiet) (wpAny_check_new_subU Fn hBn T hC ?_);refine codeAny_exc_new_subU Fn hBn F T hC ?_ hrest;show wpAny _ _ _ _ _ _;generalize ho1:({ cls:=.type "tuple",data:=.seq rest.toArray }:Obj)=o1;generalize ho2:({ cls:=.ref C,data:=.fields #[.ref h.objs.size,.none,.none,.none,.bool false,.none] }:Obj)=o2;have up:∀b o,h.get? b=some o->((h.push o1).push o2).get? b=some o:=fun b o e=>ZJ _ (ZJ _ e)
 have g2:((h.push o1).push o2).get? (h.objs.size+1)=some o2:=by
  have:=ZT (h.push o1) (o:=o2) (by rw[<- ho2];rfl)
  rwa [Zt]at this
 have g1:((h.push o1).push o2).get? h.objs.size=some o1:=ZJ _ (ZT h (by rw[<- ho1];rfl));have c2:o2.cls=.ref C:=by rw[<- ho2]
 have hC1:=up _ _ hC;have hn1:((h.push o1).push o2).Ns N mN:=let ⟨o,es,ep,e,r⟩:=hn;⟨o,es,ep,up _ _ e,r⟩;have hcC:(Value.ref C::bm).contains (.ref C)=true:=by simp
 have T1:=T.keeps (h':=(h.push o1).push o2) up;unfold isInstance
 repeat (first | (with_reducible refine wpAny_loadPart_at g2 ?_;rw[c2]) | (with_reducible refine wpAny_isSubtype_exc hC1 ?_;rw[hcC]) | wp_step)
 show wpAny _ _ (typeLookup (.ref C) _) _ _ _;refine wpAny_typeLookup_tail hC1 hn1 T1 F.mroIs F.init.lookup ?_;rw[hi];refine Zb (ZA ?_);unfold bindSpecial;refine ZA (wpAny_typeOf (T:="function") ⟨_,up _ _ hfI,hfc⟩ ?_);rw[if_pos (by decide)];refine ZB (ZA (ZI (hq _ (h.objs.size+1) ⟨up,Zo (Nat.le_succ _),h.objs.size,by rw[g2,ho2],Zo (ZD _),by rw[g1,ho1]⟩) (fun r s' hr=>?_) fun _ _ x=>x));obtain⟨rfl,hQ⟩:=hr
 wp_walk
 exact hQ
theorem Lu (Fn:ExcBaseFacts Bn newId inN bmN) (hBn:bmB.contains (.type Bn)=true) (F:ExcBaseFacts B nid initId bmB) (T:OwnTail h bmB bm) {mN:Str->Option Value} {rest:List Value} {fI:Addr} {oI:Obj} {Q:Value->Shared->Prop}
 (hC:h.get? C=some (excClassObj nm q C N bs bm hdct sn sub ab col dd k0 k1 k2 k3 k5 newId)) (hn:h.Ns N mN) (hi:mN "__init__" = some (.ref fI)) (hfI:h.get? fI=some oI) (hfc:oI.cls=.type "function") (hrest:rest.length<=sizeLine)
 (hq:∀h' e,Heap.MadeExcOf h h' e (.ref C) rest->wpAny (model prog w) (A.under (.builtin "type.__call__" ⟨.ref C::rest,[]⟩)) (call (.ref fI) (.ref e::rest)) (fun r s'=>r=.none/\Q (.ref e) s') E ⟨h',g,d,t,os⟩) :
 wpAny (model prog w) A (call (.ref C) rest) Q E ⟨h,g,d,t,os⟩:=by
 have f1:=tc_lookup;have f2:=tc_bind (.ref C);have hT:(⟨h,g,d,t,os⟩:Shared).TypeIs (.ref C) "type":=⟨_,hC,rfl⟩;refine wpAny_call (codeAny_of_tree ?_);show wpAny _ _ (callAny (.ref C) _) _ _ _
 repeat (any_goals (first | assumption | with_reducible refine wpAny_loadPart_at hC ?_ | wp_step))
 exact⟨rfl,codeAny_call_builtin_at (Code.quiet_builtin _ (by decide +kernel)) entry_typeCall (wpAny_check_type_call_sub hC (Lp Fn hBn F T hC hn hi hfI hfc hrest fun h' e hm=>hq h' e hm))⟩
theorem JF {M:Model} {env:Env} {s:Shared} {x:Sem Value} {Q:Flow->Shared->Prop} (hbase:bm.contains (.type "BaseException")=true) (hh:A.handled=none)
 (hx:wpAny M A x (fun v s1=>∃e oe,v=.ref e/\s1.heap.get? C=some (excClassObj nm q C N bs bm hdct sn sub ab col dd k0 k1 k2 k3 k5 newId)/\s1.heap.get? e=some oe/\oe.cls=.ref C/\(∃vs,oe.data=.fields vs/\vs[1]? = some .none)/\E (.ref e) s1) E s) :
 wpAny M A (raiseStmt env (some x) none) Q E s:=by
 have hcB:(Value.ref C::bm).contains (.type "BaseException")=true:=by rw[List.contains_cons,hbase,Bool.or_true]
 unfold raiseStmt;refine ZA (ZI hx (fun v s1 h1=>?_) fun _ _ x=>x);obtain⟨e,oe,rfl,hC,he,hc,⟨vs,hv,h1⟩,hE⟩:=h1;obtain⟨hp,g,d,tk,os⟩:=s1;obtain⟨oc,od,oda,osl⟩:=oe;cases hc;cases hv
 repeat (first | with_reducible refine wpAny_loadPart_at he ?_ | with_reducible refine wpAny_loadPart_at hC ?_ | (with_reducible refine wpAny_isSubtype_exc hC ?_;rw[hcB]) | wp_step)
 rw[h1]
 repeat (first | with_reducible refine wpAny_loadPart_at he ?_ | wp_step)
 exact wpAny_raiseNew_none hh hE
end
section
variable {prog:Program}{w:World}{A:Around}{E:Value->Shared->Prop}{s:Shared}{env:Env}{K:W.Frag}{C fI:Addr}
theorem J6 {x:Str} {np cpos pos:Pos} {args:List Expr} {Q:Flow->Shared->Prop} {h0:Heap} (X0:K.In h0) (q:B7 K C fI=true) (hh:A.handled=none) (hplain:(backTo cpos (starEach args env)).any (·.1)=false)
 (hx:wpAny (model prog w) A (eval (.Name x np) env) (fun f s1=>f=.ref C/\wpAny (model prog w) A (evalArgs (.ref C) true (backTo cpos (starEach args env)) [])
   (fun a s2=>a.kw=[]/\a.pos.length<=sizeLine/\K.In s2.heap/\(∃oI,s2.heap.get? fI=some oI/\oI.cls=.type "function") /\
     ∀h' e,Heap.MadeExcOf s2.heap h' e (.ref C) a.pos->wpAny (model prog w) (A.under (.builtin "type.__call__" ⟨.ref C::a.pos,[]⟩)) (call (.ref fI) (.ref e::a.pos)) (fun r s3=>r=.none/\K.In s3.heap/\(∃oe vs,s3.heap.get? e=some oe/\oe.cls=.ref C/\oe.data=.fields vs/\vs[1]? = some .none)/\E (.ref e) s3) E { s2 with heap:=h' }) E s1) E s) :
 wpAny (model prog w) A (exec (.Raise (some (.Call (.Name x np) args [] cpos)) none pos) env) Q E s:=by
 obtain⟨nm,qn,N,bs,bm,sn,sub,ab,col,dd,k0,k1,k2,k3,k5,mN,hC0,hN0,hi0,TL0,cd,hcd,hmro,_⟩:=Ca X0 q
 have look:∀{h:Heap},K.In h->h.get? C=some (excClassObj nm qn C N bs bm true sn sub ab col dd k0 k1 k2 k3 k5 "ValueError.__new__"):=fun {h} X=>by
  obtain⟨nm',qn',N',bs',bm',sn',sub',ab',col',dd',k0',k1',k2',k3',k5',mN',hC',_,_,_,cd',hcd',hmro',_⟩:=Ca X q
  have e0:∃o,K.lookup C=some o:=by
   unfold B7 at q;split at q
   ·rename_i hlk;exact⟨_,hlk⟩
   ·cases q
  obtain⟨o,e0⟩:=e0;have e1:=X0 _ _ e0;rw[hC0]at e1;rw[X _ _ e0,<- e1]
 rw[arm_exec_Raise];have hbase:bm.contains (.type "BaseException")=true:=TL0.hasType (by decide);refine ZA (Zs (JF (C:=C) (nm:=nm) (q:=qn) (N:=N) (bs:=bs) (bm:=bm) (hdct:=true) (sn:=sn) (sub:=sub) (ab:=ab) (col:=col) (dd:=dd) (k0:=k0) (k1:=k1) (k2:=k2) (k3:=k3) (k5:=k5) (newId:="ValueError.__new__") hbase hh (ZA (ZI (wpAny_Call_ofName (ZI hx (fun f s1 h1=>?_) fun _ _ x=>x)) (fun v s3 h3=>ZA (Zs (ZB h3))) fun _ _ x=>x))));obtain⟨rfl,h1⟩:=h1;unfold callWith;refine ZA (Zb (ZI h1 (fun a s2 h2=>ZA (Zs ?_)) fun _ _ x=>x));obtain⟨apos,akw⟩:=a;obtain⟨hkw,Yl,X2,⟨oI,hfI,hfc⟩,h2⟩:=h2;obtain rfl:akw=[]:=hkw;obtain⟨nm',qn',N',bs',bm',sn',sub',ab',col',dd',k0',k1',k2',k3',k5',mN',hC',hN',hi',TL',_⟩:=Ca X2 q;obtain⟨hp,g,d,tk,os⟩:=s2;simp only[hplain];refine ZA (wpAny_keeperOf_exc hC' ?_);refine ZA (Lu F.excBase_ValueError (by decide) F.excBase_ValueError TL' hC' hN' hi' hfI hfc Yl fun h' e hm=>?_);refine ZI (h2 h' e hm) (fun r s3 ⟨e1,X3,⟨oe,vs,g1,g2,g3,g4⟩,hE⟩=>⟨e1,ZA (Zb (wpAny_point (ZB ⟨e,oe,rfl,look X3,g1,g2,⟨vs,g3,g4⟩,hE⟩)))⟩) fun _ _ z=>z
end
end L2
namespace L2
open PySem PySem.Spec PyProof.Rows Builtin Builtin.ObjectAttr
theorem Ji{h:Heap}{l:List Value}(self:Value)(T:OwnTail h DJ l):refuseLoop self "__setattr__" l=pure ():=by
 induction T with
 | base=>exact PySem.F.store_ValueError.passes self
 | own _ _ _ _ ih=>rw[refuseLoop_ref];exact ih
structure ExcI(K:W.Frag)(C fI:Addr):Prop where
 ob:B7 K C fI=true
 xc:ExcC K C
 sa:PySem.W.findIn K (.ref C) "__setattr__" = some (some (.builtin "object.__setattr__"))
 fn:PySem.W.isFn K (.ref fI)=true
section
variable {prog:Program}{w:World}{A:Around}{E:Value->Shared->Prop}{s:Shared}{K:W.Frag}{x C fI:Addr}{name:Str}{v:Value}{mA:Str->Option Value}{ns:List Str}
theorem G1 {Q:Unit->Shared->Prop} (X:K.In s.heap) (Z:ExcI K C fI) (n:NoAttr K C name) (I:s.heap.Inst x C mA) (hw:Within mA ns) (hsz:ns.length<=1000)
 (hq:∀h' tk',h'.Inst x C (fun y=>if y=name then some v else mA y) ->
   (∀b o,b≠x->(∀o0 dx,s.heap.get? x=some o0->o0.dict=some dx->b≠dx)->s.heap.get? b=some o->h'.get? b=some o) ->
   (∀o0,s.heap.get? x=some o0->∃o1,h'.get? x=some o1/\o1.cls=o0.cls/\o1.data=o0.data/\(∀dx,o0.dict=some dx->o1=o0)/\(o0.dict=none->o1.dict=some s.heap.objs.size))->Q () { s with heap:=h',toks:=tk' }) :
 wpAny (model prog w) A (setAttr (.ref x) name v) Q E s:=by
 obtain⟨o,hx,hc,hnc,hd⟩:=I;obtain⟨nm,qn,N,bs,bm,sn,sub,ab,col,dd,k0,k1,k2,k3,k5,mN,hC,hN,hi,TL,cd,hcd,hmro,hdict⟩:=Ca X Z.ob
 have J:∃od,PySem.W.InstAt s.heap x o C od:=by
  have hn:PySem.W.notCls o=true:=by
   unfold PySem.W.notCls;split
   ·rename_i c e;exact absurd e (hnc c)
   ·rfl
  rcases hd with ⟨h1,_⟩ | ⟨dx,h1,_,⟨od,es,ep,e,r⟩⟩
  ·exact⟨none,hx,hc,hn,by rw[h1];trivial⟩
  ·exact⟨some od,hx,hc,hn,by rw[h1];exact e⟩
 obtain⟨od,J⟩:=J;refine PySem.W.set_plain X J Z.sa ?_;have SF:=PySem.F.store_object;have sub:PySem.W.Looks (model prog w) s.heap (isInstance (.ref x) (.type "object")) true:=J.type.andThen (PySem.W.looks_mroIn X Z.xc.obj);refine codeAny_call_builtin SF.slot.plain SF.entry (@PySem.W.check_slot (model prog w) _ _ { s with toks:=s.toks+1 } "object.__setattr__" "object" "__setattr__" (.ref x) [.str name s.toks,v] [] _ SF.kind SF.split sub (SF.args (.ref x) (.str name s.toks) v) ?_);have hm:PySem.W.Looks (model prog w) s.heap (mroOf (.ref C)) cd.mro:=(PySem.W.looks_clsIn X hcd).andThen .now;rw[PySem.W.osa_eq,refuse_eq];refine ZA (ZA (J.type.here (s:={ s with toks:=s.toks+1 }) (ZA (hm.here (s:={ s with toks:=s.toks+1 }) ?_))));rw[hmro,refuseLoop_ref,Ji _ TL];refine ZB (ZA (J.type.here (s:={ s with toks:=s.toks+1 }) (ZA ((PySem.W.looks_findIn X n).here (s:={ s with toks:=s.toks+1 }) (ZA (PySem.W.Looks.here (s:={ s with toks:=s.toks+1 }) (r:=none) .now ?_))))));refine ZA (ZB (ZA (ZA (wpAny_loadPart hx ?_))));rw[hc];refine ZA (PySem.W.Looks.here (s:={ s with toks:=s.toks+1 }) (PySem.W.looks_clsIn X hcd) ?_);rw[hdict];rw[if_neg (by decide)];dsimp only
 rcases hd with ⟨hdn,hmA⟩ | ⟨dx,hdx,Yu,hns⟩
 ·rw[hdn];dsimp only;rw[if_neg (by simp[typeHasDict])];have hx1:(s.heap.push { cls:=.type "dict",data:=.dict #[] }).get? x=some o:=ZJ _ hx;have hxs:x≠s.heap.objs.size:=ZM (ZC hx)
  have hgd:((s.heap.push { cls:=.type "dict",data:=.dict #[] }).update x fun o=>{ cls:=o.cls,dict:=some s.heap.objs.size,data:=o.data,slots:=o.slots }).get? s.heap.objs.size=some { cls:=.type "dict",data:=.dict #[] } :=
   (Heap.get?_update_ne _ _ _ _ hxs.symm).trans (Heap.get?_push_at rfl rfl)
  have hnd:((s.heap.push { cls:=.type "dict",data:=.dict #[] }).update x fun o=>{ cls:=o.cls,dict:=some s.heap.objs.size,data:=o.data,slots:=o.slots }).Ns s.heap.objs.size (fun _=>none) :=
   ⟨_,#[],_,hgd,rfl,fun e he=>absurd he (by simp),fun _=>rfl⟩
  split
  ·rename_i c hcd';exact absurd hcd' (hnc c)
  ·refine ZA (wpAny_alloc' ?_);refine ZA (wpAny_update' hx1 ?_);refine ZB ?_;show wpAny _ _ (storeInDict s.heap.objs.size (.str name s.toks) name v) _ _ _;unfold storeInDict newKeyGuard;refine ZA (ZB (ZA (wpAny_nsSet1 (Heap.Ns1.of_empty hnd) fun h' hn' hs=>?_)));obtain⟨oD,esD,epD,hoD,hdD,hcD⟩:=hn'.count (Within.cons name v Within.nil);refine ZA (wpAny_lookBehind hoD (by rw[hdD];exact pastItsLine_dict (ZU hcD (by rw[ZV,List.length_nil,sizeLine_eq];lia))) ?_)
   have hx':h'.get? x=some { cls:=o.cls,dict:=some s.heap.objs.size,data:=o.data,slots:=o.slots }:=by
    refine(hs.2 x hxs).trans (Zw _ hx1 ?_);have hfr:=(Heap.get?_some_iff.mp hx).2;obtain⟨oc,od,odt,osl⟩:=o;cases odt <;> first | rfl | exact hfr
   refine ZB (hq h' _ ⟨{ cls:=o.cls,dict:=some s.heap.objs.size,data:=o.data,slots:=o.slots },hx',hc,hnc,.inr ⟨s.heap.objs.size,rfl,hxs.symm,?_⟩⟩ (fun b ob hbx _ hb=>?_)
    (fun o0 h0=>by obtain rfl:o=o0:=ZR (hx.symm.trans h0);exact⟨_,hx',rfl,rfl,(fun dx e=>by rw[hdn]at e;cases e),fun _=>rfl⟩))
   ·obtain⟨o',es,ep,e1,e2,e3,eu,e4⟩:=hn';exact⟨o',es,ep,e1,e2,e3,eu,fun y=>by rw[e4 y];by_cases hy:y=name <;> simp[hy,hmA]⟩
   ·exact(hs.2 b (ZM (ZC hb))).trans ((Heap.get?_update_ne _ _ _ _ hbx).trans (ZJ _ hb))
 ·rw[hdx];refine ZB ?_;show wpAny _ _ (storeInDict dx (.str name s.toks) name v) _ _ _;unfold storeInDict newKeyGuard;refine ZA (ZB (ZA (wpAny_nsSet1 (s:={ s with toks:=s.toks+1 }) hns fun h' hn' hs=>?_)));obtain⟨oD,esD,epD,hoD,hdD,hcD⟩:=hn'.count (Within.cons name v hw);refine ZA (wpAny_lookBehind hoD (by rw[hdD];exact pastItsLine_dict (ZU hcD (by rw[ZV,sizeLine_eq];lia))) ?_)
  refine ZB (hq h' _ ⟨o,(hs.2 x Yu.symm).trans hx,hc,hnc,.inr ⟨dx,hdx,Yu,hn'⟩⟩ (fun b ob _ hbd hb=>(hs.2 b (hbd o dx hx hdx)).trans hb)
   (fun o0 h0=>by obtain rfl:o=o0:=ZR (hx.symm.trans h0);exact⟨o,(hs.2 x Yu.symm).trans h0,rfl,rfl,(fun _ _=>rfl),fun e=>by rw[hdx]at e;cases e⟩))
end
end L2
namespace L2
open PySem PySem.Spec PyProof.Rows
noncomputable abbrev ExN(x:Addr)(cls:Value)(od:Option Addr):HO:=.ext (fun h=>ExA h x cls od none)
noncomputable def XdP(d:Addr)(fs:List (Str × V))(h:Heap):Prop:=∃mA,h.Ns1 d mA/\∀f,RelO (fs.lookup f) (mA f)
noncomputable abbrev XdO(d:Addr)(fs:List (Str × V)):HO:=.ext (XdP d fs)
noncomputable def del(H:Hp)(x:Addr):Hp:=fun b=>if b=x then none else H b
theorem C9{H:Hp}{x b:Addr}(h:b≠x):del H x b=H b:=if_neg h
theorem HU{H:Hp}{x:Addr}:del H x x=none:=if_pos rfl
section
variable {P:Program}{w:World}{H H':Hp}{h h':Heap}{x d:Addr}{cls:Value}{od:Option Addr}{fs:List (Str × V)}
theorem Fb(e:ExA h x cls od none):ObjOk P w H h x (ExN x cls od) :=
 ⟨e,let ⟨oe,_,q,_⟩:=e;⟨oe,q⟩,fun _ _ ⟨oe,vs,q,r⟩ k=>⟨oe,vs,k oe q,r⟩⟩
theorem FY(e:XdP d fs h):ObjOk P w H h d (XdO d fs) :=
 ⟨e,let ⟨_,⟨o,_,_,q,_⟩,_⟩:=e;⟨o,q⟩,fun _ _ ⟨mA,n,r⟩ k=>⟨mA,n.at k,r⟩⟩
theorem K2{mA:Str->Option Value}(r:∀f,RelO (fs.lookup f) (mA f)):Within mA (fs.map (·.1)):=fun y hy=>by
 have z:=r y;cases e:fs.lookup y with
 | none=>rw[e]at z;exact absurd (RelO.none_of z) hy
 | some v=>exact Z4.mpr ⟨(y,v),mem_of_lookup e,rfl⟩
where mem_of_lookup:∀{fs:List (Str × V)} {y:Str} {v:V},fs.lookup y=some v->(y,v)∈fs
 | [],_,_,e=>by cases e
 | (k,u)::r,y,v,e=>by
  rw[Zl]at e;split at e
  ·rename_i h;cases e;rw[eq_of_beq h];exact ZW
  ·exact ZS _ (mem_of_lookup e)
end
section
variable {X:Cx}{Ya:List (Addr × Obj)}{σ:St}{H H':Hp}{s:Shared}{h':Heap}{x C fI:Addr}{K:W.Frag}
theorem Yc.laidN{a:Addr}{o:HO}{t':Nat}(I:Yc X Ya σ H s)(k:∀b u,s.heap.get? b=some u->h'.get? b=some u)(nx:s.heap.get? a=none)(new:ObjOk X.prog X.w (upd H a o) h' a o):Yc X Ya σ (upd H a o) { s with heap:=h',toks:=t' }:=by
 have hn:H a=none:=Bw I.hok nx;have ne:∀b u,s.heap.get? b=some u->b≠a:=fun b u e z=>by rw[z,nx]at e;cases e
 have nh:∀b u,H b=some u->b≠a:=fun b u e z=>by rw[z,hn]at e;cases e
 refine I.un ⟨fun b u e _ _ _=>k b u e,fun b u e _ _ _=>⟨u.slots,k b u e⟩,fun b u e n _=>by rw[AG (ne b u e)];exact n,fun b u e _=>⟨u,k b u e⟩,fun b xs e=>by rw[AG (nh b _ e)];exact e,fun b u v e=>by rw[AG (nh b _ e)];exact e,fun b ps e=>⟨#[],by rw[AG (nh b _ e),e];simp⟩⟩ fun b u e=>?_
 by_cases z:b=a
 ·subst z;rw[AD]at e;cases e;exact new
 ·rw[AG z]at e;exact(I.hok b u e).stay (fun c v _ q=>k c v q) (fun c q=>by rw[AG (nh c _ q)];exact q) fun c xs q=>by rw[AG (nh c _ q)];exact q
theorem NJ {f:Str} {y:V} {u:Value} {A:Around} {E:Value->Shared->Prop} {Q:Unit->Shared->Prop} (I:Yc X Ya σ H s) (Z:ExcI X.K C fI) (n:NoAttr X.K C f) (e:H x=some (ExN x (.ref C) none)) (ry:Yh y u)
 (hq:∀d s',H d=none->Yc X Ya σ (upd (upd H x (ExN x (.ref C) (some d))) d (XdO d [(f,y)])) s'->Q () s'):wpAny (model X.prog X.w) A (setAttr (.ref x) f u) Q E s:=by
 obtain⟨⟨oe,vs,e1,e2,e3,e4,e5⟩,_⟩:=(show ObjOk X.prog X.w H s.heap x (ExN x (.ref C) none) from I.hok x _ e);refine G1 (mA:=fun _=>none) (ns:=[]) I.kIn Z n ⟨oe,e1,e2,(fun c z=>by rw[e4]at z;cases z),.inl ⟨e3,fun _=>rfl⟩⟩ (fun y z=>absurd rfl z) (ZK _) fun h' tk' I' hk hs=>?_
 obtain⟨o1,g1,g2,g3,_,g4⟩:=hs oe e1;have g4:=g4 e3;have hd:H s.heap.objs.size=none:=I.hok.fresh (ZD _);have nd:s.heap.get? s.heap.objs.size=none:=Zo (ZD _);have xd:x≠s.heap.objs.size:=ZM (ZC e1);have keep:∀b o,b≠x->s.heap.get? b=some o->h'.get? b=some o:=fun b o nb q=>hk b o nb (fun o0 dx q0 q1=>by rw[e1]at q0;cases q0;rw[e3]at q1;cases q1) q
 have nH:∀b,b≠x->b≠s.heap.objs.size->(upd (upd H x (ExN x (.ref C) (some s.heap.objs.size))) s.heap.objs.size (XdO s.heap.objs.size [(f,y)])) b=H b:=fun b n1 n2=>by rw[AG n2,AG n1]
 have bd:∀b o,s.heap.get? b=some o->b≠s.heap.objs.size:=fun b o q=>ZM (ZC q)
 have bh:∀b o,H b=some o->b≠s.heap.objs.size:=fun b o q z=>by rw[z,hd]at q;cases q
 have XD:XdP s.heap.objs.size [(f,y)] h':=by
  obtain⟨o2,q1,_,_,q3⟩:=I';rw[g1]at q1;cases q1
  rcases q3 with ⟨q,_⟩ | ⟨dx,q,_,q4⟩
  ·rw[g4]at q;cases q
  ·rw[g4]at q;cases q;refine⟨_,q4,fun z=>?_⟩;show RelO (List.lookup z [(f,y)]) (if z=f then some u else none);rw[Zl]
   by_cases hz:z=f
   ·rw[hz,if_pos rfl,beq_self_eq_true];exact ry
   ·rw[if_neg hz,beq_eq_false_iff_ne.mpr hz];exact True.intro
 refine hq _ _ hd (I.un ⟨fun b o q nb _ _=>?_,fun b o q nb _ _=>⟨o.slots,?_⟩,fun b o q nb _=>?_,fun b o q _=>?_,fun b xs q=>?_,fun b o v q=>?_,fun b ps q=>⟨#[],?_⟩⟩ fun b o q=>?_)
 ·exact keep b o (fun z=>by rw[z,e]at nb;cases nb) q
 ·exact keep b o (fun z=>by rw[z,e]at nb;cases nb) q
 ·rw[nH b (fun z=>by rw[z,e]at nb;cases nb) (bd b o q)];exact nb
 ·by_cases z:b=x
  ·rw[z];exact⟨_,g1⟩
  ·exact⟨_,keep b o z q⟩
 ·rw[nH b (fun z=>by rw[z,e]at q;cases q) (bh b _ q)];exact q
 ·rw[nH b (fun z=>by rw[z,e]at q;cases q) (bh b _ q)];exact q
 ·rw[nH b (fun z=>by rw[z,e]at q;cases q) (bh b _ q),q];simp
 ·by_cases z:b=s.heap.objs.size
  ·subst z;rw[AD]at q;cases q;exact FY XD
  ·rw[AG z]at q
   by_cases z2:b=x
   ·subst z2;rw[AD]at q;cases q;exact Fb ⟨o1,vs,g1,by rw[g2,e2],g4,by rw[g3,e4],e5⟩
   ·rw[AG z2]at q;refine(I.hok b o q).stay (fun c v hc r=>keep c v (fun z=>?_) r) (fun c r=>?_) fun c xs r=>?_
    ·rcases hc with hc | hc
     ·exact z2 (hc.symm.trans z)
     ·rw[z,e]at hc;cases hc
    ·rw[nH c (fun z=>by rw[z,e]at r;cases r) (bh c _ r)];exact r
    ·rw[nH c (fun z=>by rw[z,e]at r;cases r) (bh c _ r)];exact r
theorem ND {f:Str} {y:V} {u:Value} {d:Addr} {fs:List (Str × V)} {A:Around} {E:Value->Shared->Prop} {Q:Unit->Shared->Prop} (I:Yc X Ya σ H s) (Z:ExcI X.K C fI) (n:NoAttr X.K C f) (e:H x=some (ExN x (.ref C) (some d))) (ed:H d=some (XdO d fs)) (Yu:d≠x) (hl:fs.length<=1000) (ry:Yh y u)
 (hq:∀s',Yc X Ya σ (upd H d (XdO d (AR f y fs))) s'->Q () s'):wpAny (model X.prog X.w) A (setAttr (.ref x) f u) Q E s:=by
 obtain⟨⟨oe,vs,e1,e2,e3,e4,e5⟩,_⟩:=(show ObjOk X.prog X.w H s.heap x (ExN x (.ref C) (some d)) from I.hok x _ e);obtain⟨⟨mA,n1,r1⟩,_⟩:=(show ObjOk X.prog X.w H s.heap d (XdO d fs) from I.hok d _ ed);refine G1 (mA:=mA) (ns:=fs.map (·.1)) I.kIn Z n ⟨oe,e1,e2,(fun c z=>by rw[e4]at z;cases z),.inr ⟨d,e3,Yu,n1⟩⟩ (K2 r1) (by rw[ZF];exact hl) fun h' tk' I' hk hs=>?_
 obtain⟨o1,g1,g2,g3,g4,_⟩:=hs oe e1;have g4:=g4 d e3;subst g4;obtain⟨o2,q1,_,_,q3⟩:=I';rw[g1]at q1;cases q1
 have nn:h'.Ns1 d (fun y=>if y=f then some u else mA y):=by
  rcases q3 with ⟨q,_⟩ | ⟨dx,q,_,q4⟩
  ·rw[e3]at q;cases q
  ·rw[e3]at q;cases q;exact q4
 refine hq _ (I.write (x:=d) (e:=d) (by rw[ed];exact True.intro) (.inl rfl) (fun b v nb q=>?_) (let ⟨o,_,_,q,_⟩:=nn;⟨o,q⟩) (FY ⟨_,nn,fun g=>?_⟩))
 ·by_cases z:b=x
  ·subst z;rw[e1]at q;cases q;exact g1
  ·exact hk b v z (fun o0 dx q0 q1=>by rw[e1]at q0;cases q0;rw[e3]at q1;cases q1;exact nb) q
 ·show RelO ((AR f y fs).lookup g) (if g=f then some u else mA g);rw[EO]
  by_cases q:g=f
  ·rw[if_pos q,if_pos q];exact ry
  ·rw[if_neg q,if_neg q];exact r1 g
end
noncomputable def MH(C:Addr)(ta tv:TE)(f:Str):TS:=fun D σ H=>tv σ H fun y H1=>ta σ H1 fun v H2=>match v with
 | .ref x=>(H2 x=some (ExN x (.ref C) none)/\∀d,H2 d=none->D.nx σ (upd (upd H2 x (ExN x (.ref C) (some d))) d (XdO d [(f,y)])))\/∃d fs,H2 x=some (ExN x (.ref C) (some d))/\H2 d=some (XdO d fs)/\d≠x/\fs.length<=1000/\D.nx σ (upd H2 d (XdO d (AR f y fs)))
 | _=>False
noncomputable def Jp(K:W.Frag)(ta:TE)(f:Str):TE:=fun σ H Q=>ta σ H fun v H1=>match v with
 | .ref x=>∃C d fs v,ExcAt H1 x C (some d)/\H1 d=some (XdO d fs)/\ExcC K C/\NoAttr K C f/\PySem.W.hasDictIn K C=true/\fs.lookup f=some v/\Q v H1
 | _=>False
noncomputable def IQ(C:Addr)(sp:Sp)(ta:TA)(W:St->Option Addr->Hp->Prop):TS:=fun _ σ H=>ta σ H fun vs H1=>vs.length<=1000/\∀x,H1 x=none->sp (.ref x::vs) (upd H1 x (ExN x (.ref C) none)) (fun v H2=>v=.non/\∃od,H2 x=some (ExN x (.ref C) od)/\W σ od (del H2 x)) E0
section
variable {X:Cx}{K:W.Frag}{C fI:Addr}{fd:FuncData}{ps:List Str}{sp:Sp}{k:Nat}{o e value:Expr}{es:List Expr}{f c:Str}{pos pos' np cpos:Pos}{ta tv:TE}{t:TA}{W:St->Option Addr->Hp->Prop}
theorem JZ(Z:ExcI K C fI)(n:NoAttr K C f)(ha:PE X o ta)(hv:PE X value tv)(hK:X.K=K:=by rfl)(hs:swapsWith value (some (.Attribute o f pos')) pos.line X.env=pure false:=by rfl):PS X (.Assign [.Attribute o f pos'] value pos) (MH C ta tv f):=by
 subst hK;intro Ya s σ H D I h;refine plainObj_wpAny_Assign_Attribute (Yk (hv Ya s σ H _ I h) fun u s1 ⟨y,H1,I1,ry,q⟩=>Yk (ha Ya s1 σ H1 _ I1 q) fun ov s2 ⟨x,H2,I2,rx,q2⟩=>?_) hs;cases x with
 | ref x =>
  obtain rfl:ov=Value.ref x:=rx
  rcases q2 with ⟨g1,q⟩ | ⟨d,fs,g1,g2,g3,g4,q⟩
  ·exact NJ I2 Z n g1 ry fun d s' hd I'=>⟨σ,_,I',q d hd⟩
  ·exact ND I2 Z n g1 g2 g3 g4 ry fun s' I'=>⟨σ,_,I',q⟩
 | _=>exact False.elim q2
theorem Le(he:PE X e ta)(hK:X.K=K:=by rfl)(hb:attributeBase e f X.env (eval e X.env)=eval e X.env:=by rfl):PE X (.Attribute e f pos) (Jp K ta f):=by
 subst hK;intro Ya s σ H Q I h;refine GM hb (Yk (he Ya s σ H _ I h) fun u s1 ⟨x,H1,I1,rx,q⟩=>?_);cases x with
 | ref x =>
  obtain rfl:u=Value.ref x:=rx;obtain⟨C,d,fs,v,⟨g1,_⟩,g2,Z,n,hd,l,q⟩:=q;obtain⟨⟨oe,vs,e1,e2,e3,e4⟩,_⟩:=(show ObjOk X.prog X.w H1 s1.heap x (BH x (.ref C) (some d)) from I1.hok x _ g1);obtain⟨⟨mA,n1,r1⟩,_⟩:=(show ObjOk X.prog X.w H1 s1.heap d (XdO d fs) from I1.hok d _ g2);obtain⟨u',hu,ru⟩:=RelO.some_of (v:=v) (o:=mA f) (by rw[<- l];exact r1 f);obtain⟨od,ho,hl⟩:=He n1;have hn:PySem.W.notCls oe=true:=by unfold PySem.W.notCls;rw[e4]
  have J:PySem.W.InstAt s1.heap x oe C (some od):=⟨e1,e2,hn,by rw[e3];exact ho⟩;have ff:=PySem.W.findObj_own hd n rfl (by rw[hl,hu]);unfold getAttr;refine ZA (wpAny_mkText ?_);exact Ku (v:=u') I1.kIn J Z ff (GR ru) ⟨v,H1,I1.tok _,ru,q⟩
 | _=>exact False.elim q
theorem Cj (Z:ExcI K C fI) (F:FnOk X.prog X.w X.K X.mg X.base CX0 k fI fd ps sp) (hr:Room (k+1) X.A) (hb:Binds X.K fd ps [])
 (hx:∀(Ya:List (Addr × Obj)) (σ:St) (H:Hp) (s:Shared) (x:Addr) (od:Option Addr),Yc X Ya σ H s->H x=some (ExN x (.ref C) od)->X.s₀.heap.get? x=none->W σ od (del H x)->X.xe (.ref x) s)
 (hex:X.ex=[]) (hc:X.calm=true) (hg:Gl X c) (hm:X.mg c=some (.ref C)) (ha:PA X (e::es) t) (hK:X.K=K:=by rfl) (hdb:(c == ("__debug__" : Str))=false:=by decide)
 (he:starEach (e::es) X.env=(false,eval e X.env)::starEach es X.env:=by rfl) (hpl:(backTo cpos (starEach es X.env)).any (·.1)=false:=by rfl) :
 PS X (.Raise (some (.Call (.Name c np) (e::es) [] cpos)) none pos) (IQ C sp t W):=by
 subst hK;intro Ya s σ H D I h;refine J6 I.kIn Z.ob (I.ok.hd hc) (by rw[he];show(false || (backTo cpos (starEach es X.env)).any (·.1))=false;rw[hpl];rfl) (B6 I hg hm ⟨rfl,?_⟩ hdb);rw[he];refine PySem.Calls.evalArgs_plain ?_;have ha1:=ha cpos Ya s σ H _ I h;rw[he]at ha1;refine Yk ha1 fun us s1 ⟨vs,H1,I1,r,hl,q⟩=>⟨rfl,by rw[<- r.length];exact Ah hl,I1.kIn,?_,fun h1 x hm=>?_⟩
 ·have ft:=beq_iff_eq.mp Z.fn;unfold PySem.W.typeIn at ft;obtain⟨oI,l1,l2⟩:=Option.map_eq_some_iff.mp ft;exact⟨oI,I1.kIn _ _ l1,l2⟩
 obtain⟨tt,ht,htn,_⟩:=hm.there;have nH:H1 x=none:=Bw I1.hok hm.new;have I2:Yc X Ya σ (upd H1 x (ExN x (.ref C) none)) { s1 with heap:=h1,toks:=s1.toks }:=I1.laidN (a:=x) (fun b u e=>hm.keeps b u e) hm.new (Fb ⟨_,_,ht,rfl,rfl,rfl,rfl⟩);have hq:=q x nH;have r2:Yg (V.ref x::vs) (Value.ref x::us):=.cons rfl r
 have hl2:(Value.ref x::us++[]).length=ps.length:=by
  have e:=r2.length;rw[F.len _ _ _ _ hq]at e;rw[Zc];exact e.symm
 have hx0:X.s₀.heap.get? x=none:=by
  cases e:X.s₀.heap.get? x with
  | none=>rfl
  | some o =>
   obtain⟨o',e'⟩:=I1.base.there x o e (by rw[hex];simp);rw[hm.new]at e';cases e'
 have bb:=hb { s1 with heap:=h1,toks:=s1.toks } (Value.ref x::us) I2.kIn hl2;rw[Zc]at bb;refine wpAny_call (Zu (F.run _ X.stack _ _ ⟨Value.ref x::us,[]⟩ (Value.ref x::us) _ _ E0 (hr.make C us []) (I2.env0.make C us []) bb r2 hq) fun rr s' hq'=>?_);cases rr with
 | error ev=>exact False.elim hq'
 | ok fl =>
  cases fl with
  | ret u =>
   obtain⟨v,H',I3,rv,ev,od,g1,q3⟩:=I2.after hq';subst ev;obtain⟨⟨oe,vs',e1,e2,e3,e4,e5⟩,_⟩:=(show ObjOk X.prog X.w H' s'.heap x (ExN x (.ref C) od) from I3.hok x _ g1);exact⟨rv,I3.kIn,⟨oe,vs',e1,e2,e4,e5⟩,hx Ya σ H' s' x od I3 g1 hx0 q3⟩
  | next=>exact False.elim hq'
  | brk=>exact False.elim hq'
  | cont=>exact False.elim hq'
end
section
variable {X:Cx}{Ya:List (Addr × Obj)}{σ:St}{H H':Hp}{s:Shared}{h':Heap}{ch:List Addr}
theorem FR(I:Yc X Ya σ H s)(hex:X.ex=[])(c:Sl (frs X.stack) ch s.heap h')(h0:∀b∈ch,X.s₀.heap.get? b=none)(hH:∀b,b∉ch->H' b=H b)(hn:∀b∈ch,H' b=none)(hc:∀b∈ch,H b=none\/∃φ,H b=some (.ext φ)) :
 Un X.fs [] X.H₀ H' X.s₀.heap h'/\HOk X.prog X.w H' h':=by
 have hx:∀b:Addr,b∉X.ex:=fun b z=>by rw[hex]at z;cases z
 have nl:∀b o,X.s₀.heap.get? b=some o->b≠X.env.locals:=fun b o e=>ZM (ZL (ZC e) I.ok.above)
 have nc:∀b o,X.s₀.heap.get? b=some o->b∉ch:=fun b o e z=>by rw[h0 b z]at e;cases e
 have tr:∀b o,H b=some o->(∀φ,o≠.ext φ)->b∉ch:=fun b o e n z=>by
  rcases hc b z with q | ⟨φ,q⟩
  ·rw[q]at e;cases e
  ·rw[q]at e;cases e;exact n φ rfl
 refine⟨⟨fun b o e n nb _=>?_,fun b o e n nb _=>?_,fun b o e n _=>?_,fun b o e _=>?_,fun b xs e=>?_,fun b o v e=>?_,fun b ps e=>?_⟩,fun a o e=>?_⟩
 ·exact(c b o (I.base.keep b o e n nb (hx b)) (nc b o e)).1 fun z=>(ZG.mp (I.stkSub b z)).elim (nl b o e) nb
 ·obtain⟨sl,e1⟩:=I.base.slot b o e n nb (hx b);obtain⟨sl2,e2⟩:=(c b _ e1 (nc b o e)).2;exact⟨sl2,e2⟩
 ·rw[hH b (nc b o e)];exact I.base.free b o e n (hx b)
 ·obtain⟨o1,e1⟩:=I.base.there b o e (hx b);obtain⟨sl2,e2⟩:=(c b _ e1 (nc b o e)).2;exact⟨_,e2⟩
 ·have q:=I.base.tups b xs e;rw[hH b (tr b _ q fun φ z=>by cases z)];exact q
 ·have q:=I.base.frzs b o v e;rw[hH b (tr b _ q fun φ z=>by cases z)];exact q
 ·obtain⟨m,q⟩:=I.base.tbls b ps e;exact⟨m,by rw[hH b (tr b _ q fun φ z=>by cases z)];exact q⟩
 ·have na:a∉ch:=fun z=>by rw[hn a z]at e;cases e
  rw[hH a na]at e;refine(I.hok a o e).stay (fun b u hb q=>(c b u q fun z=>?_).1 fun z=>?_) (fun b q=>?_) fun b xs q=>?_
  ·rcases hb with rfl | hb
   ·exact na z
   ·exact tr b _ hb (fun φ z=>by cases z) z
  ·have:=I.stkFree b z
   rcases hb with rfl | hb
   ·rw[e]at this;cases this
   ·rw[hb]at this;cases this
  ·rw[hH b (tr b _ q fun φ z=>by cases z)];exact q
  ·rw[hH b (tr b _ q fun φ z=>by cases z)];exact q
theorem Bm(I:Yc X Ya σ H s)(hex:X.ex=[]){b:Addr}(n:s.heap.get? b=none):X.s₀.heap.get? b=none:=by
 cases e:X.s₀.heap.get? b with
 | none=>rfl
 | some o =>
  obtain⟨o',e'⟩:=I.base.there b o e (by rw[hex];simp);rw[n]at e';cases e'
end
section
variable {P:Program}{w:World}{K:W.Frag}{mg:Str->Option Value}{base:Heap}{N:List Str}{qual:Str}{sc:Scope}{f:Addr}{cd:Value}{A:Around}{outer:List Env}{s0:Shared}{H0:Hp}{E:XK}
theorem Ch{Ya:List (Addr × Obj)}{σ:St}{H:Hp}{s:Shared}{x C:Addr}{od:Option Addr}(I:Yc (A9 (CXE P w) P w K mg base N qual sc f cd A outer s0 H0 E) Ya σ H s)(e:H x=some (ExN x (.ref C) od))(hx0:s0.heap.get? x=none)(q:E (.ref C) od (del H x)) :
 (A9 (CXE P w) P w K mg base N qual sc f cd A outer s0 H0 E).xe (.ref x) s:=by
 obtain⟨ex,_⟩:=(show ObjOk P w H s.heap x (ExN x (.ref C) od) from I.hok x _ e);refine G6 (base:=base) (L:=s0.heap.objs.size) (t:=none) I.ok.frames I.stack rfl ex (.inl rfl) fun h2 T a1 a2 a3=>?_
 have nT:=Bm I rfl a2;obtain⟨u,hk⟩:=FR (H':=del H x) I rfl a3 (fun b z=>by rw[ZH.mp z];exact hx0) (fun b z=>C9 fun r=>z (by rw[r];exact ZH.mpr rfl)) (fun b z=>by rw[ZH.mp z];exact HU) (fun b z=>by rw[ZH.mp z];exact .inr ⟨_,e⟩)
 have xT:T≠x:=fun z=>by
  obtain⟨_,_,g,_⟩:=ex;rw[<- z,a2]at g;cases g
 exact⟨x,_,od,T,del H x,rfl,I.os,I.bare,u,hk,a1,⟨hx0,nT⟩,⟨HU,by rw[C9 xT];exact Bw I.hok a2⟩,q⟩
theorem CO:Bh (CXE P w) (A9 (CXE P w) P w K mg base N qual sc f cd A outer s0 H0 E) E:=by
 intro Ya σ H s ev s' I h;obtain⟨x,cls,od,T,H',rfl,ho,hb,u,hk,ex,⟨n1,n2⟩,⟨f1,f2⟩,hE⟩:=h;have J:Yc (A9 (CXE P w) P w K mg base N qual sc f cd A outer s0 H0 E) Ya σ H' s':=I.call' ho u hk hb (ch:=[]) fun b z=>absurd z (by simp)
 refine G6 (base:=base) (L:=s0.heap.objs.size) (t:=some (T,.none)) J.ok.frames J.stack rfl ex (.inr ⟨T,rfl⟩) fun h2 T2 a1 a2 a3=>?_
 have two:∀b∈x::(Option.map (fun p:Addr × Value=>p.1) (some (T,Value.none))).toList,b=x\/b=T:=fun b z=>by
  rcases ZG.mp z with z | z
  ·exact .inl z
  ·exact .inr (ZH.mp z)
 obtain⟨u2,hk2⟩:=FR (H':=H') J rfl a3 (fun b z=>by
  rcases two b z with rfl | rfl
  ·exact Bm I rfl n1
  ·exact Bm I rfl n2) (fun b z=>rfl) (fun b z=>by
  rcases two b z with rfl | rfl
  ·exact f1
  ·exact f2) (fun b z=>by
  rcases two b z with rfl | rfl
  ·exact .inl f1
  ·exact .inl f2)
 exact⟨x,cls,od,T2,H',rfl,J.os,J.bare,u2,hk2,a1,⟨Bm I rfl n1,Bm J rfl a2⟩,⟨f1,Bw J.hok a2⟩,hE⟩
end
noncomputable def C5(C:Addr)(f:Str):Sp:=fun vs H Q _=>match vs with
 | [.ref x,y]=>H x=some (ExN x (.ref C) none)/\∀d,H d=none->Q .non (upd (upd H x (ExN x (.ref C) (some d))) d (XdO d [(f,y)]))
 | _=>False
noncomputable abbrev XW:=Addr->Addr->Option Addr->St->Hp->Prop
noncomputable abbrev TSX:=XW->St->Hp->Prop
end L2
namespace L2
open PySem PyProof.Rows
noncomputable def E7:V->List V->Hp->VK->Prop:=fun x vs H Q=>match x,vs with
 | .ref l,[]=>∃xs,H l=some (.lst xs)/\xs.length < 1000/\Q .non (upd H l (.lst xs.reverse))
 | _,_=>False
theorem HP:∀{xs:List V} {us:List Value},Yg xs us->Yg xs.reverse us.reverse
 | _,_,.nil=>.nil
 | _,_,.cons r t=>by rw[Zq,Zq];exact Yg.append (HP t) (.cons r .nil)
section
variable {X:Cx}{K:W.Frag}
theorem Kv:MtR X "list.reverse" E7:=by
 intro Ya s σ H x vs v us Q I rx rv q
 match x,vs,q with
 | .ref l,[],⟨xs,hH,h3,q⟩ =>
 cases rx;cases rv;obtain⟨z,Yd,n,r,hl,e⟩:=I.lstM hH;refine call_meets PySem.F.slot_list_reverse ⟨_,e,rfl⟩ PySem.F.entry_list_reverse (PySem.F.args_list_reverse_1 _) (AutoListH.list_reverse_list_0 l Yd.toArray n (by rw[ZE];lia)) ⟨e,?_⟩;refine⟨.non,_,I.lset (its':=Yd.reverse) hH e ?_ (HP r) ?_,rfl,q⟩
 ·simp
 ·rw[List.length_reverse];exact Ah (by lia)
theorem NS{o:Expr}{to:TE}{apos cpos:Pos}(ho:PE X o to)(hbase:attributeBase o "reverse" X.env (eval o X.env)=eval o X.env:=by rfl)(hline:(apos.endLine == cpos.line)=true:=by rfl)(hK:X.K=K:=by rfl) :
 PE X (.Call (.Attribute o "reverse" apos) [] [] cpos) (EV K "list" E7 to):=hK ▸ GF PySem.F.plainAttrs_list PySem.F.slot_list_reverse PySem.F.type_list_reverse Kv ho hbase hline
end
end L2
set_option maxHeartbeats 6400000
namespace L2
open PySem PyProof PyProof.Rows
noncomputable def L5(C:Addr)(m:Str)(sp:Sp)(dvs:List V)(ta:TE)(t:TA):TX:=fun σ H Q E=>ta σ H fun x H1=>∃a dx fs,x=.ref a/\H1 a=some (.ins C dx fs)/\fs.lookup m=none/\t σ H1 fun vs H2=>sp (x::(vs++dvs)) H2 Q E
noncomputable abbrev Jl(X:Cx)(Ya:List (Addr × Obj))(σ:St)(E:XK):Value->Shared->Prop:=fun ev s'=>∃H1 s1,Yc X Ya σ H1 s1/\CXE X.prog X.w X.stack H1 s1 E ev s'
section
variable {X:Cx}{k:Nat}{f C:Addr}{fd:FuncData}{ps:List Str}{sp:Sp}{dvs:List V}{ds:List Value}{x c y n m:Str}{p p1 p2 p3 pos apos:Pos}{e e2 o:Expr}{es:List Expr}{ta tc:TE}{t:TA}{tx:TX}{ts:TS}{i j:Nat}{b:Stmt}{bs:List Stmt}{E:XK}
variable {Ya:List (Addr × Obj)}{σ:St}{H:Hp}{s:Shared}{Q:VK}{us:List Value}{vs:List V}
theorem M0(F:FnOk X.prog X.w X.K X.mg X.base (CXE X.prog X.w) k f fd ps sp)(hr:Room k X.A)(hb:Binds X.K fd ps ds)(hd:Yg dvs ds)(I:Yc X Ya σ H s)(r:Yg vs us)(h:sp (vs++dvs) H Q E):wpAny (model X.prog X.w) X.A (call (.ref f) us) (EP X Ya σ Q) (Jl X Ya σ E) s:=by
 have r2:Yg (vs++dvs) (us++ds):=r.append hd;have hl:(us++ds).length=ps.length:=by rw[<- r2.length];exact F.len _ _ _ _ h
 refine wpAny_call (Zu (F.run X.A X.stack s H ⟨us,[]⟩ (us++ds) (vs++dvs) Q E hr I.env0 (hb s us I.kIn hl) r2 h) fun r s' hq=>?_);cases r with
 | error ev=>exact⟨H,s,I,hq⟩
 | ok fl =>
  cases fl with
  | ret u=>exact I.after hq
  | next=>exact False.elim hq
  | brk=>exact False.elim hq
  | cont=>exact False.elim hq
theorem Kk {pl:Sem Bool} (he:PE X.nox o ta) (c:Cls X.K C) (hm:Meth X.K C m f) (F:FnOk X.prog X.w X.K X.mg X.base (CXE X.prog X.w) k f fd ps sp) (hr:Room k X.A) (hb:Binds X.K fd ps ds) (hd:Yg dvs ds) (ha:PA X.nox (e::es) t)
 (hst:starEach (e::es) X.env=(false,eval e X.env)::starEach es X.env:=by rfl) (hpl:(backTo pos (starEach es X.env)).any (·.1)=false:=by rfl)
 (ht:eval (.Call (.Attribute o m apos) (e::es) [] pos) X.env=(do
   let ov <- eval o X.env
   standAt apos.atName
   let (f,first) <- holding [ov] (getMethod ov m pl)
   callWith pos f first (backTo pos (starEach (e::es) X.env)) (backToKw pos (keywordEach [] X.env))):=by rfl) :
 PX X (.Call (.Attribute o m apos) (e::es) [] pos) (L5 C m sp dvs ta t):=by
 intro Ya s σ H Q E I h;refine PySem.W.methodCall_KW (pl:=pl) (ZI (he Ya s σ H _ (I.wish _) h) (fun u s1 ⟨x,H1,I1,rx,a,dx,fs,ex,ea,l,q⟩=>?_) fun _ _ z=>False.elim z) ht;have I1:=I1.unwish;subst ex;obtain rfl:u=Value.ref a:=rx;refine EL I1 ea c hm l ?_;refine PySem.W.callWith_K (first:=[.ref a]) (h₀:=X.base) I.ok.mod.kin hm.kp (ZI (ha pos Ya s1 σ H1 _ (I1.wish _) q) (fun us s2 ⟨vs,H2,I2,r,q2⟩=>⟨I2.kIn,?_⟩) fun _ _ z=>False.elim z) hst hpl;exact M0 (us:=.ref a::us) (vs:=.ref a::vs) F hr hb hd I2.unwish (.cons rfl r) q2
end
end L2
namespace L2
open PySem PySem.Spec PyProof.Rows
noncomputable def CK(K:W.Frag)(a:Addr)(n:Nat):It :=
 ⟨fun i H=>i < n/\∃xs x,Yr K H a xs/\xs[n - 1 - i]? = some x,fun i H x H'=>H'=H/\∀xs,Yr K H a xs->xs[n - 1 - i]? = some x,fun i H=>i=n⟩
theorem Hw{P:Program}{w:World}{K:W.Frag}{tg:Expr}(a it:Addr)(n:Nat):Turn P w K tg (CK K a n) [it] it (fun i h=>h.IsRevIter it a ((n:Int) - 1 - (i:Nat))) where
 mem:=by simp
 obj:=fun i h st b hb=>by
  have e:b=it:=by simpa using hb
  subst e;obtain⟨o,e,c,d⟩:=st;exact⟨o,e,fun v z=>by rw[d]at z;cases z⟩
 keep:=fun i h h' st k=>st.at fun o e=>k it (by simp) o e
 item:=by
  intro X hP hw hK hc i Ya s σ H E I hf st hg;subst hP hw hK;obtain⟨hi,xs,x,hq,hx⟩:=hg;obtain⟨Yd,rv,p,hz⟩:=I.list hq;obtain⟨u,hu,ru⟩:=rv.get hx;obtain⟨f0,f1,f2,f3,f4,f5⟩:=hf it (by simp);have e1:(n:Int) - 1 - (i:Nat)=((n - 1 - i:Nat):Int):=by lia
  rw[e1]at st;refine wpAny_pyNext_rev_item st p.isList (x:=u) (by simpa using hu) fun h' st' sb=>?_
  have I1:Yc X Ya σ H { s with heap:=h' }:=I.turned (t':=s.toks) (fun b o hb e=>(sb.2 b hb).trans e) f0 f1 f3 f4 f5;obtain⟨o,e,c,d⟩:=id st';have e2:((n - 1 - i:Nat):Int) - 1=(n:Int) - 1 - ((i+1:Nat):Int):=by lia
  rw[e2]at st';exact⟨u,rfl,Cy (s:={ s with heap:=h' }) e c d (by decide) ⟨x,H,I1,ru,⟨rfl,fun ys hy=>by rw[I.list_inj hy hq];exact hx⟩,st',fun b hb=>(hf b hb).1⟩⟩
 done:=by
  intro X hP hw hK hc i Ya s σ H E I hf st hg;subst hP hw hK;have hg:i=n:=hg;obtain⟨f0,f1,f2,f3,f4,f5⟩:=hf it (by simp);rw[hg,show(n:Int) - 1 - (n:Nat) = -1 by lia]at st;exact wpAny_pyNext_rev_end (I.ok.hd hc) st fun h' eb=>⟨rfl,I.turned (t':=s.toks) (fun b o hb e=>eb b o hb e) f0 f1 f3 f4 f5⟩
 self:=fun _ _ _ _ _ st h=>wpAny_pyIter_revIter st h
section
variable {X:Cx}
noncomputable def Nl(K:W.Frag)(ta:TA):TI:=fun σ H R=>ta σ H fun vs H1=>match vs with
 | [.ref a]=>∃xs,Yr K H1 a xs/\R (CK K a xs.length) H1
 | _=>False
theorem NX {K:W.Frag} {a:Expr} {ta:TA} {p pos:Pos} {tg:Expr} (hg:Gl X "reversed") (hm:X.mg "reversed" = none) (ha:PA X [a] ta)
 (hs:starEach [a] X.env=[(false,eval a X.env)]:=by rfl) (hK:X.K=K:=by rfl) :
 PI X tg (.Call (.Name "reversed" p) [a] [] pos) (Nl K ta):=by
 subst hK;intro Ya s σ H R I h;refine Call_ (CJ I hg hm (by rfl:bootBuiltins "reversed" = some (.type "reversed")) (PyProof.Rows.callWith_type1 (Yk (ha pos Ya s σ H _ I h) fun us s1 ⟨vs,H1,I1,r1,q1⟩=>?_) (by rw[hs];rfl) (by rfl)))
 match vs,q1,r1 with
 | [.ref l1],⟨xs,hx,q⟩,r1 =>
 cases r1 with
 | cons r rr =>
 cases rr;cases r;obtain⟨Yd,rv,p1,_⟩:=I1.list hx;have el:=rv.length
 have e3:(Yd.toArray.size:Int) - 1=(xs.length:Int) - 1 - ((0:Nat):Int):=by
  rw[ZE];lia
 refine call_reversed_list p1.isList ?_
 have hit:(s1.heap.push (revObj l1 ((Yd.toArray.size:Int) - 1))).IsRevIter s1.heap.objs.size l1 ((xs.length:Int) - 1 - (0:Nat)):=by
  rw[e3];exact⟨_,ZT _ rfl,rfl,rfl⟩
 refine wpAny_pyIter_revIter (s:={ s1 with heap:=s1.heap.push _ }) hit ?_;have I2:Yc X Ya σ H1 { s1 with heap:=s1.heap.push (revObj l1 ((Yd.toArray.size:Int) - 1)) }:=I1.kept (t':=s1.toks) fun b u h=>ZJ _ h
 refine⟨_,_,_,_,H1,rfl,I2,Hw l1 s1.heap.objs.size xs.length,hit,fun b hb=>?_,q⟩;refine I1.fpOk ?_ (I1.hok.fresh ?_)
 all_goals
  rw[ZH.mp hb];exact ZD _
theorem II {K:W.Frag} {a:Addr} {xs:List V} {g:TG} {tb:TS} {D:Ends} {σ:St} {H:Hp} (Pv:Nat->St->Hp->Prop) (h0:Pv 0 σ H) (hl:∀i σ H,i<=xs.length->Pv i σ H->Yr K H a xs)
 (hs:∀i x σ H,xs.reverse[i]? = some x->Pv i σ H->g x σ H fun σ2 H2=>tb { D with nx:=Pv (i+1),ct:=Pv (i+1),bk:=D.nx } σ2 H2) (hd:∀σ H,Pv xs.length σ H->D.nx σ H) :
 ∃W:Nat->Nat->St->Hp->Prop,(∃m,W 0 m σ H)/\∀i m σ H,W i m σ H ->
  ((CK K a xs.length).stop i H/\D.nx σ H)\/((CK K a xs.length).go i H/\∃N:St->Hp->Prop,(∀σ' H',N σ' H'->∃m',m' < m/\W (i+1) m' σ' H')/\∀x H',(CK K a xs.length).yld i H x H'->g x σ H' fun σ2 H2=>tb { D with nx:=N,ct:=N,bk:=D.nx } σ2 H2):=by
 refine⟨fun i m σ H=>m=xs.length - i/\i<=xs.length/\Pv i σ H,⟨xs.length,by simp,ZK _,h0⟩,?_⟩;rintro i m σ H ⟨rfl,hi,p⟩;have q:=hl i σ H hi p
 by_cases Yo:i < xs.length
 ·have hk:xs.length - 1 - i < xs.length:=by lia
  refine .inr ⟨⟨Yo,xs,xs[xs.length - 1 - i],q,ZN hk⟩,Pv (i+1),fun σ' H' p'=>⟨xs.length - (i+1),by lia,rfl,Yo,p'⟩,fun x H' y=>?_⟩;obtain⟨e,y⟩:=y;subst e;exact hs i x σ _ (by rw[List.getElem?_reverse Yo];exact y xs q) p
 ·have e:i=xs.length:=by lia
  subst e;exact .inl ⟨rfl,hd σ H p⟩
end
theorem KI{e:Value}{env env':Env}(h:env'.frame=env.frame):noteFrame e env'=noteFrame e env:=by
 unfold noteFrame PySem.frameOf;rw[h]
section
variable {prog:Program}{w:World}{A:Around}{R:Result->Shared->Prop}{s:Shared}
theorem MT {elt target iter:Expr} {ifs:List Expr} {scope:Scope} {pos:Pos} {it Yn:Value} {env:Env} (I:Nat->Shared->Prop)
 (turn:∀n s,I n s->wpAny (model prog w) A (pyNext it) (fun r s₁=>match r with
   | none=>R (.ok .next) s₁
   | some v=>wpAny (model prog w) A (letOwnedTupleGo target it v) (fun _ s₁'=>wpAny (model prog w) A (assign target env v) (fun _ s₂ =>
    wpAny (model prog w) A (forIn ifs true fun c r=>if r=true then do let ok <- isTrue c env (eval c env);pure (ForInStep.yield ok) else pure (ForInStep.yield r)) (fun ok s₃ =>
     if ok=true then wpAny (model prog w) A (eval elt env) (fun x s₄ =>
      wpAny (model prog w) A (call (.builtin "list.append") [Yn,x]) (fun _ s₅=>∃m,m < n/\I m s₅) (fun _ _=>False) s₄) (notedBy (model prog w) A env fun x s'=>R (.error x) s') s₃
     else ∃m,m < n/\I m s₃) (fun _ _=>False) s₂) (fun _ _=>False) s₁') (fun _ _=>False) s₁) (fun _ _=>False) s)
 (n:Nat) (h:I n s) :
 codeAny (model prog w) A (.compLoop (.ListComp elt [⟨target,iter,ifs,0⟩] scope pos) 0 it Yn env) R s:=by
 refine codeAny_loop rfl I (fun n s hI=>?_) n h;show wpAny _ A ((compTurn (.ListComp elt [⟨target,iter,ifs,0⟩] scope pos) 0 it Yn env).onRaise (fun x=>do noteFrame x env;theTreesLotGoes x)) _ _ s;refine wpAny_noted ?_;rw[compTurn_list];refine ZA (Zs (ZA (ZI (turn n s hI) (fun r s₁ h₁=>?_) fun _ _ h'=>h'.elim)));cases r with
 | none=>exact ZB h₁
 | some v =>
  refine ZA (ZI h₁ (fun _ s₁' h₁'=>?_) fun _ _ h'=>h'.elim);refine ZA (ZI h₁' (fun _ s₂ h₂=>ZA (ZI h₂ (fun ok s₃ h₃=>?_) fun _ _ h'=>h'.elim)) fun _ _ h'=>h'.elim);cases ok with
  | false=>exact ZB ⟨rfl,h₃⟩
  | true =>
   exact ZA (ZA (ZI h₃ (fun x s₄ h₄=>ZA (ZI h₄ (fun _ s₅ h₅=>ZB (ZB ⟨rfl,h₅⟩)) fun _ _ h'=>h'.elim)) fun _ _ h'=>h'))
end
noncomputable def EF(J:It)(g:TG)(tc:TT)(tx:TX)(σc:St)(Q:VK)(EE:XK)(H1:Hp):Prop :=
 ∃W:Nat->Nat->List V->Hp->Prop,(∃m,W 0 m [] H1)/\∀i m ys H,W i m ys H ->
  (J.stop i H/\∀p,H p=none->Q (.ref p) (upd H p (.lst ys))) \/
  (J.go i H/\ys.length < sizeLine/\∃N:List V->Hp->Prop,(∀ys' H',N ys' H'->∃m',m' < m/\W (i+1) m' ys' H')/\∀x H',J.yld i H x H'->g x σc H' fun σ4 H4=>tc σ4 H4 fun b H5 =>
    if b=true then tx σ4 H5 (fun y H6=>N (ys++[y]) H6) EE else N ys H5)
section
variable {X:Cx}{Ya:List (Addr × Obj)}{σ:St}{H:Hp}{s:Shared}{fp:List Addr}{it:Addr}{tn:Nat->Heap->Prop}{J:It}{tg iter elt:Expr}{ifs:List Expr}{scope:Scope}{pos:Pos}{N':List Str}{own:Nat}{ix:List Nat}{g:TG}{tc:TT}{tx:TX}{Q:VK}{EE:XK}{E:Value->Shared->Prop}
theorem De{c:CArgs}{pins':List (Addr × Obj)}{σ':St}{H':Hp}{s':Shared}{b:Addr}(I:Yc (X.comp scope N' c) pins' σ' H' s')(hp:∀b∈c.fp,∃o,s'.heap.get? b=some o/\∀v,o.data≠.cell v)(n:s'.heap.get? b=none):c.s.heap.get? b=none:=by
 cases e:c.s.heap.get? b with
 | none=>rfl
 | some o =>
  by_cases hb:b∈c.fp
  ·obtain⟨o',e',_⟩:=hp b hb;rw[n]at e';cases e'
  ·obtain⟨o',e'⟩:=I.base.there b o e hb;rw[n]at e';cases e'
theorem IS (I:Yc X Ya σ H s) (T:Turn X.prog X.w X.K tg J fp it tn) (st:tn 0 s.heap) (f2:∀b∈fp,Ao X Ya H b) (hc:X.calm=true) (S:CompScope scope X.env.scope)
 (Yl:N'.length=own+ix.length) (hN:(N'.drop own).map some=ix.map (X.N[·]?)) (hfr:∀x∈N'.drop own,scope.names.lookup x=some .free)
 (hg:∀c,PG (X.comp scope N' c) tg g) (hgo:Bv own g) (ht:∀c,PTs (X.comp scope N' c) ifs tc) (he:∀c,PX (X.comp scope N' c) elt tx)
 (hq:EF J g tc tx (cSt own ix σ) Q EE H) {RR:Value->Addr->Result->Shared->Prop} {L0:Addr} {outer0:List Env} (hstk:X.stack=X.env::outer0) (hL:X.env.frame=some L0)
 (fin:∀(D C:Addr) (s':Shared) (H':Hp) (ys:List V) (Yd:List Value) (n:Nat),s'.os=s.os->AllBare s'.gens->Un (frs X.stack) fp H H' s.heap s'.heap->HOk X.prog X.w H' s'.heap->(∃m,s'.heap.Ns C m)->H' C=none->s.heap.objs.size<=C ->
   H' D=none->s.heap.objs.size<=D->D≠C->s'.heap.get? D=some { cls:=.type "list",data:=.seq Yd.toArray n } -> Yg ys Yd->ys.length<=sizeLine->(∀p,H' p=none->Q (.ref p) (upd H' p (.lst ys)))->RR (.ref D) C (.ok .next) s')
 (finE:∀(D C x:Addr) (cls:Value) (od:Option Addr) (T:Addr) (s':Shared) (h':Heap) (σ':St) (H':Hp) (pins':List (Addr × Obj)) (T0:Addr) (cs:List (Str × Addr)),Yc (X.comp scope N' ⟨Ya,cs,s,H,fp,C⟩) pins' σ' H' s'->s.heap.objs.size<=C->ExA h' x cls od (some (T,rawInt L0))->s'.heap.get? T=none->s.heap.get? T=none->Sl (frs X.stack) [x,T0] s'.heap h'->(C≠x/\C≠T0)->(s.heap.get? x=none/\s.heap.get? T0=none)->(H' x=none/\H' T0=none)->EE cls od H'->RR (.ref D) C (.error (.ref x)) { s' with heap:=h' }) :
 wpAny (model X.prog X.w) X.A (newList []) (fun Yn s₃=>wpAny (model X.prog X.w) X.A (newFunctionEnv scope X.env.globals (Ad X.env.cells scope.names []) [] X.env.qual none .none (some X.env)) (fun cenv s₄ =>
  codeAny (model X.prog X.w) X.A (.compStart (.ListComp elt [⟨tg,iter,ifs,0⟩] scope pos) 0 (.ref it) Yn { cenv with scope:=relabel scope X.env }) (RR Yn cenv.locals) s₄) E s₃) E s:=by
 obtain⟨W,⟨m0,w0⟩,turn⟩:=hq;have hob:∀b∈fp,∃o,s.heap.get? b=some o:=fun b hb=>let ⟨o,e,_⟩:=T.obj 0 _ st b hb;⟨o,e⟩
 refine Zv ?_;generalize hH1:s.heap.push { cls:=.type "list",dict:=none,data:=.seq ([]:List Value).toArray } = h1;have hs1:h1.objs.size=s.heap.objs.size+1:=by rw[<- hH1,Zt]
 have k1:∀b o,s.heap.get? b=some o->h1.get? b=some o:=fun b o e=>by rw[<- hH1];exact ZJ _ e
 have d1:h1.get? s.heap.objs.size=some { cls:=.type "list",data:=.seq ([]:List Value).toArray }:=by rw[<- hH1];exact ZT _ rfl
 simp only[newFunctionEnv,ZBG,if_true];refine ZA (wpAny_alloc ?_);generalize hH2:(({ s with heap:=h1 }:Shared).heap.push { cls:=.type "dict",data:=.dict #[] })=h2;have hH2':h1.push { cls:=.type "dict",data:=.dict #[] } = h2:=hH2;have hs2:h2.objs.size=h1.objs.size+1:=by rw[<- hH2',Zt]
 have k2:∀b o,h1.get? b=some o->h2.get? b=some o:=fun b o e=>by rw[<- hH2'];exact ZJ _ e
 have n2:h2.Ns h1.objs.size (fun _=>none):=by rw[<- hH2'];exact Heap.Ns.new h1 (.type "dict")
 refine ZA (wpAny_layCells _ (fun name kind cells=>by cases hkc:kind == NameKind.cell <;> simp[hkc]) _ _ _ _ ?_);have ok:=cellsFrom_ok scope.names h2 (h1.objs.size+1) [] ⟨fun _ _ hm=>(nomatch hm),List.Pairwise.nil⟩ (by rw[hs2];exact ZD _);rw[hs2]at ok;show wpAny _ _ (forIn ([]:List (Str × Value)) PUnit.unit _ >>= _) _ _ _;rw[List.forIn_nil];refine ZA (ZB (ZB ?_));show codeAny _ _ (.compStart _ 0 (.ref it) (.ref s.heap.objs.size) (compEnvC scope (cellsFrom h2.objs.size scope.names (Ad X.env.cells scope.names [])) h1.objs.size X.env)) (RR (.ref s.heap.objs.size) h1.objs.size) { s with heap:=pushCells h2 scope.names };rw[hs2];generalize hH3:pushCells h2 scope.names=h3 at ok ⊢;have k3:∀b o,h2.get? b=some o->h3.get? b=some o:=fun b o e=>by rw[<- hH3];exact pushCells_keeps _ _ b o e
 have kk:∀b o,s.heap.get? b=some o->h3.get? b=some o:=fun b o e=>k3 b o (k2 b o (k1 b o e))
 have d3:h3.get? s.heap.objs.size=some { cls:=.type "list",data:=.seq ([]:List Value).toArray }:=k3 _ _ (k2 _ _ d1);have hC:s.heap.objs.size < h1.objs.size:=by rw[hs1];exact Nat.lt_succ_self _
 have I3:Yc (X.comp scope N' ⟨Ya,cellsFrom (h1.objs.size+1) scope.names (Ad X.env.cells scope.names []),s,H,fp,h1.objs.size⟩) [] (cSt own ix σ) H { s with heap:=h3 } :=
  G7 (s4:={ s with heap:=h3 }) I f2 hob S Yl hN hfr hC kk rfl rfl ⟨_,n2.keeps k3⟩ (fun x c hm=>ok.empty x c hm) ok.apart
 generalize hcs:cellsFrom (h1.objs.size+1) scope.names (Ad X.env.cells scope.names [])=cs at I3 ⊢;generalize hCC:h1.objs.size=C at *;generalize hDD:s.heap.objs.size=D at *;have hY:=I3.ok
 -- what is fixed of the records
 have sD:D≠C/\(∀x c,cs.lookup x=some c->c≠D)/\D∉frs X.stack/\∀p∈X.pn++Ya,p.1≠D:=by
  refine⟨ZM hC,fun x c e z=>?_,fun z=>?_,fun p hp z=>?_⟩
  ·subst z;have e':=e;rw[<- hcs,Br,CB]at e';cases q:(cellsFrom (C+1) scope.names []).lookup x with
   | some d =>
    rw[q]at e';cases e'
    have:=(ok.empty x c (mem_of_lookup q)).2
    exact absurd (ZL hC (Zz this)) (ZO _)
   | none =>
    rw[q]at e';have hfree:∀y∈scope.names,y.2=.free->∃c,X.env.cells.lookup y.1=some c:=fun y hy h=>I.ok.has y.1 (S.fr y hy h)
    rcases clOf_mem _ _ _ _ hfree (mem_of_lookup e') with z | ⟨_,z⟩
    ·exact absurd z (by simp)
    ·obtain⟨v,q⟩:=I.cell x c z
     have:=q.lt
     rw[hDD]at this;exact ZO _ this
  ·exact(I3.nofs (a:=D) (by exact absurd z (by
    intro z';obtain⟨_,o,ho,_⟩:=(show s.heap.FunFrames X.base X.stack from I.stack).mem z'
    have:=ZC ho
    rw[hDD]at this;exact ZO _ this))) z
  ·have:=ZC (I.pin p hp).1
   rw[z,hDD]at this;exact ZO _ this
 have stat:∀{H':Hp},(∀b∈fp,H' b=none)->∀b∈fp,Ao (X.comp scope N' ⟨Ya,cs,s,H,fp,C⟩) [] H' b:=fun {H'} hn b hb=>by
  refine⟨hn b hb,(hY.exf b hb).1,hY.exfs b hb,.inl hb,(hY.exf b hb).2,fun p hp=>?_⟩;have hp:p∈(X.pn++Ya)++[]:=hp;rw[Zc]at hp;exact(f2 b hb).2.2.2.2.2 p hp
 have statD:∀{H':Hp},H' D=none->Ao (X.comp scope N' ⟨Ya,cs,s,H,fp,C⟩) [] H' D:=fun {H'} hn=>by
  refine⟨hn,sD.1,sD.2.2.1,.inr (Z3 hDD),sD.2.1,fun p hp=>?_⟩;have hp:p∈(X.pn++Ya)++[]:=hp;rw[Zc]at hp;exact sD.2.2.2 p hp
 have loop:codeAny (model X.prog X.w) X.A (.compLoop (.ListComp elt [⟨tg,iter,ifs,0⟩] scope pos) 0 (.ref it) (.ref D) (compEnvC scope cs C X.env)) (RR (.ref D) C) { s with heap:=h3 }:=by
  refine MT (fun n s'=>∃(i:Nat) (H':Hp) (ys:List V) (Yd:List Value) (k:Nat),Yc (X.comp scope N' ⟨Ya,cs,s,H,fp,C⟩) [] (cSt own ix σ) H' s'/\tn i s'.heap/\(∀b∈fp,H' b=none)/\H' D=none /\
   s'.heap.get? D=some { cls:=.type "list",data:=.seq Yd.toArray k } /\ Yg ys Yd/\ys.length<=sizeLine/\W i n ys H') ?_ m0
   ⟨0,H,[],[],0,I3,T.keep _ _ _ st fun b _ o e=>kk b o e,fun b hb=>(f2 b hb).1,I.hok.fresh (Z3 hDD),d3,.nil,ZK _,w0⟩
  rintro n s4 ⟨i,H4,ys,Yd,k,I4,st4,fr4,dn4,d4,rv4,z4,w4⟩
  rcases turn i n ys H4 w4 with ⟨stop,qn⟩ | ⟨go,zl,N,hN2,step⟩
  ·have ID:=I4.pinned (fp:=[D]) (fun b hb=>by rw[ZH.mp hb];exact statD dn4) (fun b hb=>by rw[ZH.mp hb];exact⟨_,d4,fun v z=>nomatch z⟩)
   have nD:∀b∈fp,b≠D:=fun b hb z=>by
    obtain⟨o,e⟩:=hob b hb
    have:=ZC e
    rw[z,hDD]at this;exact ZO _ this
   have stat':∀b∈fp,Ao (X.comp scope N' ⟨Ya,cs,s,H,fp,C⟩) ([]++Ae [D] s4.heap) H4 b:=fun b hb=>by
    obtain⟨q1,q2,q3,q4,q5,q6⟩:=stat fr4 b hb;refine⟨q1,q2,q3,q4,q5,fun p hp=>?_⟩
    rcases Zf.mp hp with z | z
    ·exact q6 p (Zp _ z)
    ·have:=(CQ (by simpa using z:p∈Ae [D] s4.heap)).1
     rw[ZH.mp this];exact fun z=>nD b hb z.symm
   refine Yk (T.done (X.comp scope N' ⟨Ya,cs,s,H,fp,C⟩) rfl rfl rfl hc i _ s4 _ H4 (fun _ _=>False) ID stat' st4 stop) fun r s5 ⟨hr,I5⟩=>?_
   subst hr;obtain⟨m,hm,_⟩:=I5.loc;refine fin D C s5 H4 ys Yd k I5.os I5.bare I5.base I5.hok ⟨m,hm⟩ I5.free (Zi hC) dn4 (ZD _) sD.1 ?_ rv4 z4 qn
   ·exact(I5.pin (D,_) (ZP _ (ZP _ (BL (ZH.mpr rfl) d4)))).1
  ·have nD:∀b∈fp,b≠D:=fun b hb z=>by
    obtain⟨o,e⟩:=hob b hb
    have:=ZC e
    rw[z,hDD]at this;exact ZO _ this
   have ID:=I4.pinned (fp:=[D]) (fun b hb=>by rw[ZH.mp hb];exact statD dn4) (fun b hb=>by rw[ZH.mp hb];exact⟨_,d4,fun v z=>nomatch z⟩)
   have statP:∀{H':Hp},(∀b∈fp,H' b=none)->∀b∈fp,Ao (X.comp scope N' ⟨Ya,cs,s,H,fp,C⟩) ([]++Ae [D] s4.heap) H' b:=fun {H'} hn b hb=>by
    obtain⟨q1,q2,q3,q4,q5,q6⟩:=stat hn b hb;refine⟨q1,q2,q3,q4,q5,fun p hp=>?_⟩
    rcases Zf.mp hp with z | z
    ·exact q6 p (Zp _ z)
    ·have:=(CQ (by simpa using z:p∈Ae [D] s4.heap)).1
     rw[ZH.mp this];exact fun z=>nD b hb z.symm
   refine Yk (T.item (X.comp scope N' ⟨Ya,cs,s,H,fp,C⟩) rfl rfl rfl hc i _ s4 _ H4 (fun _ _=>False) ID (statP fr4) st4 go) fun r s5 ⟨u,hr,h5⟩=>?_
   subst hr;refine Yk h5 fun _ s6 ⟨x,H6,I6,r6,y6,st6,fr6⟩=>?_
   have I6':=I6.pinned (statP fr6) (T.obj _ _ st6);refine Yk (hg _ _ s6 _ H6 x u _ I6' r6 (hgo _ _ _ _ (step x H6 y6))) fun _ s7 ⟨σ7,H7,I7,⟨e7,k7⟩,q7⟩=>?_
   have I7':Yc (X.comp scope N' ⟨Ya,cs,s,H,fp,C⟩) ([]++Ae [D] s4.heap++Ae fp s6.heap) σ7 H7 s7:=I7;refine Yk (ht _ _ s7 σ7 H7 _ I7' q7) fun b s8 ⟨H8,I8,q8⟩=>?_
   -- what is kept through the turn
   have back:∀{s9:Shared} {H9:Hp},Yc (X.comp scope N' ⟨Ya,cs,s,H,fp,C⟩) ([]++Ae [D] s4.heap++Ae fp s6.heap) σ7 H9 s9 ->
    Yc (X.comp scope N' ⟨Ya,cs,s,H,fp,C⟩) [] (cSt own ix σ) H9 s9/\tn (i+1) s9.heap/\(∀b∈fp,H9 b=none)/\H9 D=none/\s9.heap.get? D=some { cls:=.type "list",data:=.seq Yd.toArray k }:=fun {s9 H9} I9=>by
    have pD:=I9.pin (D,_) (ZP _ (Zp _ (ZP _ (BL (ZH.mpr rfl) d4))));refine⟨I9.unpinned.unpinned.weak (by rw[e7]) fun j v hj=>?_,T.keep _ _ _ st6 fun b hb o e=>(I9.pin (b,o) (ZP _ (ZP _ (BL hb e)))).1,fun b hb=>?_,pD.2.1,pD.1⟩
    ·rw[k7 j (Gd hj)];exact hj
    ·obtain⟨o,e,_⟩:=T.obj _ _ st6 b hb;exact(I9.pin (b,o) (ZP _ (ZP _ (BL hb e)))).2.1
   cases b with
   | false =>
    rw[if_neg ZX]at q8;obtain⟨m',hm,w8⟩:=hN2 _ _ q8;obtain⟨b1,b2,b3,b4,b5⟩:=back I8;exact⟨m',hm,i+1,H8,ys,Yd,k,b1,b2,b3,b4,b5,rv4,z4,w8⟩
   | true =>
    rw[if_pos rfl]at q8;rw[if_pos rfl];refine ZI (he _ _ s8 σ7 H8 _ EE I8 q8) (fun yv s9 ⟨y,H9,I9,r9,q9⟩=>?_) fun ev s9 ⟨H8',s8',I8',q9⟩=>?_
    rotate_left
    ·obtain⟨x,cls,od,T0,H9,rfl,ho,hb,u,hk,ex,⟨n1,n2⟩,⟨f1,f2'⟩,hE⟩:=q9
     have nC:∀{σ':St} {H':Hp} {s':Shared} {pins':List (Addr × Obj)} {x T:Addr},Yc (X.comp scope N' ⟨Ya,cs,s,H,fp,C⟩) pins' σ' H' s'->s'.heap.get? x=none->s'.heap.get? T=none->C≠x/\C≠T:=fun I n1 n2=>by
      obtain⟨m,⟨o,_,_,ho,_⟩,_⟩:=I.loc;have ho:_=some o:=ho;exact⟨fun z=>by rw[<- z]at n1;exact absurd (n1.symm.trans ho) (by simp),fun z=>by rw[<- z]at n2;exact absurd (n2.symm.trans ho) (by simp)⟩
     have J9:Yc (X.comp scope N' ⟨Ya,cs,s,H,fp,C⟩) ([]++Ae [D] s4.heap++Ae fp s6.heap) σ7 H9 s9:=I8'.call' ho u hk hb (ch:=[]) fun b z=>absurd z (by simp)
     show wpAny _ _ (noteFrame (.ref x) (compEnvC scope cs C X.env)) _ _ s9;rw[KI (env:=X.env) (env':=compEnvC scope cs C X.env) rfl];refine Fx (base:=X.base) (outer:=outer0) (L:=L0) (J9.ok.frames.trans (congrArg some hstk)) (hstk ▸ (show s9.heap.FunFrames X.base X.stack from J9.stack)) hL ex (.inr ⟨T0,rfl⟩) fun h2 T2 a1 a2 a3=>?_
     rw[<- hstk]at a3;exact finE D C x cls od T2 s9 h2 σ7 H9 _ T0 cs J9 (Zi hC) a1 a2 (De (X:=X) J9 (T.obj _ _ (back J9).2.1) a2) a3 (nC I8' n1 n2) ⟨De (X:=X) I8' (T.obj _ _ (back I8').2.1) n1,De (X:=X) I8' (T.obj _ _ (back I8').2.1) n2⟩ ⟨f1,f2'⟩ hE
    obtain⟨m',hm,w9⟩:=hN2 _ _ q9;obtain⟨b1,b2,b3,b4,b5⟩:=back I9;have hl:=rv4.length;refine call_meets F.slot_list_append ⟨_,b5,rfl⟩ F.entry_list_append (F.args_list_append_2 _ _) (PySem.list_append D Yd.toArray k yv (by rw[ZE];lia)) ⟨b5,?_⟩;have up:=PySem.IsL.update b5 (fun a=>a.push yv);have keep:∀b o,b≠D->s9.heap.get? b=some o->(s9.heap.update D (Obj.mapSeq fun a=>a.push yv)).get? b=some o:=fun b o hb q=>(Zd _ _ (Ne.symm hb)).trans q
    obtain⟨f0,f1,f2',f3,f4,f5⟩:=statD b4;refine⟨m',hm,i+1,H9,ys++[y],Yd++[yv],(if ((Yd.toArray.push yv).size == Yd.toArray.size)=true then k else k+1),b1.turned (t':=s9.toks) keep b4 f1 f3 f4 f5,?_,b3,b4,?_,rv4.append (.cons r9 .nil),?_,w9⟩
    ·exact T.keep _ _ _ b2 fun b hb o e=>keep b o (nD b hb) e
    ·have e2:(Yd.toArray.push yv)=(Yd++[yv]).toArray:=by simp
     rw[<- e2];exact up
    ·rw[ZQ,ZBC];lia
 exact codeAny_compStart_list loop (T.self X.A 0 _ _ _ (T.keep _ _ _ st fun b _ o e=>kk b o e) loop)
theorem HV{ch:List Addr}{h':Heap}(I:Yc X Ya σ H s)(c:Sl (frs X.stack) ch s.heap h')(h0:∀b∈ch,X.s₀.heap.get? b=none)(hn:∀b∈ch,H b=none) :
 Un X.fs X.ex X.H₀ H X.s₀.heap h'/\HOk X.prog X.w H h':=by
 have nl:∀b o,X.s₀.heap.get? b=some o->b≠X.env.locals:=fun b o e=>ZM (ZL (ZC e) I.ok.above)
 have nc:∀b o,X.s₀.heap.get? b=some o->b∉ch:=fun b o e z=>by rw[h0 b z]at e;cases e
 refine⟨⟨fun b o e n nb hx=>?_,fun b o e n nb hx=>?_,fun b o e n hx=>?_,fun b o e hx=>?_,fun b xs e=>I.base.tups b xs e,fun b o v e=>I.base.frzs b o v e,fun b ps e=>I.base.tbls b ps e⟩,fun a o e=>?_⟩
 ·exact(c b o (I.base.keep b o e n nb hx) (nc b o e)).1 fun z=>(ZG.mp (I.stkSub b z)).elim (nl b o e) nb
 ·obtain⟨sl,e1⟩:=I.base.slot b o e n nb hx;obtain⟨sl2,e2⟩:=(c b _ e1 (nc b o e)).2;exact⟨sl2,e2⟩
 ·exact I.base.free b o e n hx
 ·obtain⟨o1,e1⟩:=I.base.there b o e hx;obtain⟨sl2,e2⟩:=(c b _ e1 (nc b o e)).2;exact⟨_,e2⟩
 ·have na:a∉ch:=fun z=>by rw[hn a z]at e;cases e
  refine(I.hok a o e).stay (fun b u hb q=>(c b u q fun z=>?_).1 fun z=>?_) (fun b q=>q) fun b xs q=>q
  ·rcases hb with rfl | hb
   ·exact na z
   ·rw[hn b z]at hb;cases hb
  ·have:=I.stkFree b z
   rcases hb with rfl | hb
   ·rw[e]at this;cases this
   ·rw[hb]at this;cases this
noncomputable def DY(X:Cx)(E:XK):Prop:=∀(Ya:List (Addr × Obj)) (σ:St) (H:Hp) (s:Shared) (x:Addr) (cls:Value) (od:Option Addr) (T:Addr) (fl:Value),Yc X Ya σ H s->ExA s.heap x cls od (some (T,fl))->X.s₀.heap.get? x=none->X.s₀.heap.get? T=none->H x=none->H T=none->E cls od H->X.xe (.ref x) s
noncomputable def FA(wi:TI)(own:Nat)(ix:List Nat)(g:TG)(tc:TT)(tx:TX)(EE:XK):TE:=fun σ H Q=>wi σ H fun J H1=>EF J g tc tx (cSt own ix σ) Q EE H1
theorem Ii {M:Model} {A:Around} {E:Value->Shared->Prop} {s:Shared} {x T:Addr} {cls fl:Value} {od:Option Addr} {fr:Option Addr} {Q:Unit->Shared->Prop} (he:ExA s.heap x cls od (some (T,fl)))
 (k:∀h',ExA h' x cls od (some (T,fr.elim .none fun f=>rawInt f))->(∀b,b≠T->h'.get? b=s.heap.get? b)->Q () { s with heap:=h' }):wpAny M A (setFlight (.ref x) fr) Q E s:=by
 obtain⟨oe,vs,e1,e2,e3,e4,e5,nT,oT,ts,g1,g2,g3⟩:=he;have z3:3 < ts.size:=(Z1.mp g3).1;unfold setFlight;refine ZA (Zk e1 e4 e5 ?_);rw[if_pos (by simp)];refine wpAny_setField g1 g2 z3 (k _ ⟨oe,vs,?_,e2,e3,e4,e5,nT,_,_,Zw _ g1 (Obj.isFreed_of_fields (Obj.data_mapFields g2 _)),Obj.data_mapFields g2 _,by simp[z3]⟩ (fun b hb=>Zd _ _ (Ne.symm hb)));rw[Zd _ _ nT];exact e1
theorem Lq {M:Model} {A:Around} {E:Value->Shared->Prop} {s:Shared} {x T:Addr} {cls fl:Value} {od:Option Addr} {env:Env} {wh:String} {Q:Value->Shared->Prop} (he:ExA s.heap x cls od (some (T,fl)))
 (k:∀h' fl',ExA h' x cls od (some (T,fl'))->(∀b,b≠T->h'.get? b=s.heap.get? b)->E (.ref x) { s with heap:=h' }):wpAny M A (passOn wh (.ref x) env) Q E s:=by
 have he':=he;obtain⟨oe,vs,e1,e2,e3,e4,e5,nT,_⟩:=he';unfold PySem.passOn;refine ZA (Zk e1 e4 e5 ?_);rw[if_neg (by simp)];exact ZA (Ii he fun h' a1 a2=>wpAny_throw (k h' _ a1 a2))
theorem JB {wi:TI} {L0:Addr} {outer0:List Env} (hstk:X.stack=X.env::outer0) (hL:X.env.frame=some L0) (hx:DY X EE) (hex:X.ex=[]) (hc:X.calm=true) (hi:PI X tg iter wi) (S:CompScope scope X.env.scope)
 (Yl:N'.length=own+ix.length) (hN:(N'.drop own).map some=ix.map (X.N[·]?)) (hfr:∀x∈N'.drop own,scope.names.lookup x=some .free)
 (hg:∀c,PG (X.comp scope N' c) tg g) (hgo:Bv own g) (ht:∀c,PTs (X.comp scope N' c) ifs tc) (he:∀c,PX (X.comp scope N' c) elt tx)
 (hs:∀x,foldedSetIterable iter X.env x=pure x:=by intro _;rfl):PE X (.ListComp elt [⟨tg,iter,ifs,0⟩] scope pos) (FA wi own ix g tc tx EE):=by
 intro Ya s σ H Q I h;rw[eval_ListComp];have hfree:∀y∈scope.names,y.2=.free->∃c,X.env.cells.lookup y.1=some c:=fun y hy h=>I.ok.has y.1 (S.fr y hy h)
 refine wpAny_comprehension_free (use:=none) rfl hs (HY hfree) S.kind (fun y hy hl=>Bt S.nd (by rw[<- hl];exact hy)) ?_;refine Yk (hi Ya s σ H _ I h) fun v s1 h1=>Yk h1 fun itv s2 h2=>?_
 obtain⟨it,fp,tn,J,H2,e,I2,T,st2,f2,q2⟩:=h2;subst e;refine IS (RR:=fun Yn C=>compPost (model X.prog X.w) X.A X.xe none (EP X Ya σ Q) Yn C) I2 T st2 f2 hc S Yl hN hfr hg hgo ht he q2 hstk hL ?_ ?_
 ·intro D C s' H' ys Yd n ho hgn u hok hm hC hCs hD hDs hDC d rv z q;obtain⟨m,hm⟩:=hm;have I3:=HQ I2 f2 ho hgn u hok hD hDs d rv z;refine⟨m,hm,fun h' hs'=>?_⟩;exact⟨.ref D,_,I2.dictGone I3 hCs (by rw[AG (Ne.symm hDC)];exact hC) hs',rfl,q D hD⟩
 ·intro D C x cls od T2 s' h' σ' H' pins' T0 cs I' hC ex nT2 nT0 sl nC n0 f0 hE;obtain⟨m,hm,_⟩:=I'.loc;have hm:s'.heap.Ns C m:=hm
  have nfr:C∉frs X.stack:=fun z=>by
   obtain⟨_,o,ho,_⟩:=(show s2.heap.FunFrames X.base X.stack from I2.stack).mem z;rw[Zo hC]at ho;cases ho
  have nch:C∉[x,T0]:=fun z=>by
   rcases ZG.mp z with z | z
   ·exact nC.1 z
   ·exact nC.2 (ZH.mp z)
  obtain⟨o,es,ep,ho,r⟩:=hm;refine⟨m,⟨o,es,ep,(sl C o ho nch).1 nfr,r⟩,fun h2 hs2 cenv _=>?_⟩;have xC:x≠C:=Ne.symm nC.1;have TC:T2≠C:=fun z=>by rw[z,ho]at nT2;cases nT2
  have ex2:ExA h2 x cls od (some (T2,rawInt L0)):=by
   obtain⟨oe,vs,e1,e2,e3,e4,e5,e6,oT,ts,e7,e8⟩:=ex;exact⟨oe,vs,(hs2.2 _ xC).trans e1,e2,e3,e4,e5,e6,oT,ts,(hs2.2 _ TC).trans e7,e8⟩
  refine Lq (s:={ s' with heap:=h2 }) ex2 fun h3 fl a1 a2=>?_
  have fC:H' C=none:=I'.free
  have sl3:Sl (frs X.stack) [x,T0,C] s'.heap h3:=fun b o hb nb=>by
   have n1:b∉[x,T0]:=fun z=>nb (by
    rcases ZG.mp z with z | z
    ·rw[z];exact ZW
    ·rw[ZH.mp z];exact ZS _ ZW)
   have n2:b≠C:=fun z=>nb (by rw[z];simp)
   have n3:b≠T2:=fun z=>by rw[z,nT2]at hb;cases hb
   obtain⟨c1,slx,c2⟩:=sl b o hb n1;exact⟨fun nf=>(a2 b n3).trans ((hs2.2 b n2).trans (c1 nf)),slx,(a2 b n3).trans ((hs2.2 b n2).trans c2)⟩
  obtain⟨u,hk⟩:=HV I' sl3 (fun b z=>by
   rcases ZG.mp z with rfl | z
   ·exact n0.1
   ·rcases ZG.mp z with rfl | z
    ·exact n0.2
    ·rw[ZH.mp z];exact Zo hC) (fun b z=>by
   rcases ZG.mp z with rfl | z
   ·exact f0.1
   ·rcases ZG.mp z with rfl | z
    ·exact f0.2
    ·rw[ZH.mp z];exact fC)
  have I4:Yc X Ya σ H' { s' with heap:=h3 }:=I2.call' (ch:=fp) (s':={ s' with heap:=h3 }) I'.os u hk I'.bare fun b hb=>by
   obtain⟨q1,q2,q3,q4,q5,q6⟩:=f2 b hb;exact⟨q4,q2,q5,q6⟩
  have nx0:∀b,s2.heap.get? b=none->X.s₀.heap.get? b=none:=fun b n=>Bm I2 hex n
  exact hx Ya σ H' _ x cls od T2 fl I4 a1 (nx0 _ n0.1) (nx0 _ nT0) f0.1 (Bw I'.hok nT2) hE
theorem Mv {M:Model} {A:Around} {E:Value->Shared->Prop} {s:Shared} {base:Heap} {env:Env} {outer:List Env} {L x T0:Addr} {cls fl:Value} {od:Option Addr} {Q:Unit->Shared->Prop}
 (hfr:A.frames=some (env::outer)) (hl:s.heap.FunFrames base (env::outer)) (hf:env.frame=some L) (he:ExA s.heap x cls od (some (T0,fl)))
 (k:∀h' T,ExA h' x cls od (some (T,.none))->(T=T0\/s.heap.get? T=none)->Sl (frs (env::outer)) [x,T0] s.heap h'->Q () { s with heap:=h' }):wpAny M A (leaving env (.ref x)) Q E s:=by
 have he':=he;obtain⟨oe,vs,e1,e2,e3,e4,e5,nT,oT,ts,g1,g2,g3⟩:=he';unfold leaving;refine ZA ?_;unfold noteFrame;simp only[hf];refine ZA (Zk e1 e4 e5 ?_);rw[if_pos (by simp)];refine ZA (Zk g1 g2 g3 ?_)
 by_cases hq:(fl == rawInt L)=true
 ·rw[if_pos hq];refine ZB (Cb he fun h2 b1 b2 b3=>k h2 T0 b1 (.inl rfl) fun b o hb hn=>?_);have nb:b≠T0:=fun z=>hn (by rw[z];simp)
  exact⟨fun _=>(b2 b nb).trans hb,o.slots,(b2 b nb).trans hb⟩
 rw[if_neg hq];refine ZA (wpAny_setField g1 g2 (Z1.mp g3).1 ?_);have ot:∀b,b≠T0->(s.heap.update T0 (Obj.mapFields (·.setIfInBounds 3 Value.none))).get? b=s.heap.get? b:=fun b hb=>Zd _ _ (Ne.symm hb)
 have nf:∀b o,s.heap.get? b=some o->(∀vs,o.data≠.fields vs)->b≠T0:=fun b o hb h z=>by
  rw[z,g1]at hb;cases hb;exact h ts g2
 refine DS hfr (hl.of_keeps fun b o hb h=>⟨o,by rw[ot b (nf b o hb h)];exact hb,rfl⟩) hf (by rw[ot x (Ne.symm nT)];exact e1) e2 e3 e4 (Z1.mp e5).1 fun h1 T a1 a2 a3=>?_
 have n2:s.heap.get? T=none:=by
  cases q:s.heap.get? T with
  | none=>rfl
  | some o =>
   by_cases z:T=T0
   ·have hf3:=Obj.data_mapFields g2 (·.setIfInBounds 3 Value.none)
    have:=Zw (Obj.mapFields (·.setIfInBounds 3 Value.none)) g1 (Obj.isFreed_of_fields hf3)
    rw[z]at a2;rw[this]at a2;cases a2
   ·rw[ot T z,q]at a2;cases a2
 refine Cb (s:={ s with heap:=h1 }) a1 fun h2 b1 b2 b3=>k h2 T b1 (.inr n2) fun b o hb hn=>?_
 have m1:b≠x:=fun z=>hn (by rw[z];exact ZW)
 have m2:b≠T0:=fun z=>hn (by rw[z];exact ZS _ (ZH.mpr rfl))
 have m3:b≠T:=fun z=>by rw[z,n2]at hb;cases hb
 obtain⟨c1,slx,c2⟩:=a3 b o (by rw[ot b m2];exact hb) (fun z=>m1 (ZH.mp z));exact⟨fun nf=>(b2 b m3).trans (c1 nf),slx,(b2 b m3).trans c2⟩
theorem Kg{P:Program}{w:World}{K:W.Frag}{mg:Str->Option Value}{base:Heap}{N:List Str}{qual:Str}{sc:Scope}{f:Addr}{cd:Value}{A:Around}{outer:List Env}{s0:Shared}{H0:Hp}{E:XK}:DY (A9 (CXE P w) P w K mg base N qual sc f cd A outer s0 H0 E) E:=by
 intro Ya σ H s x cls od T fl I ex n1 n2 f1 f2 hE;refine Mv (base:=base) (L:=s0.heap.objs.size) I.ok.frames I.stack rfl ex fun h2 T2 a1 a2 a3=>?_
 have two:∀b∈[x,T],b=x\/b=T:=fun b z=>by
  rcases ZG.mp z with z | z
  ·exact .inl z
  ·exact .inr (ZH.mp z)
 obtain⟨u2,hk2⟩:=HV I a3 (fun b z=>by
  rcases two b z with rfl | rfl
  ·exact n1
  ·exact n2) (fun b z=>by
  rcases two b z with rfl | rfl
  ·exact f1
  ·exact f2)
 have t2:s0.heap.get? T2=none/\H T2=none:=by
  rcases a2 with rfl | a2
  ·exact⟨n2,f2⟩
  ·exact⟨Bm I rfl a2,Bw I.hok a2⟩
 exact⟨x,cls,od,T2,H,rfl,I.os,I.bare,u2,hk2,a1,⟨n1,t2.1⟩,⟨f1,t2.2⟩,hE⟩
theorem Jd {wi:TI} {L0:Addr} {outer0:List Env} (hx:DY X EE) (hstk:X.stack=X.env::outer0) (hL:X.env.frame=some L0) (hex:X.ex=[]) (hc:X.calm=true) (hi:PI X tg iter wi) (S:Co scope X.env.scope=true)
 (Yl:N'.length=own+ix.length) (hN:(N'.drop own).map some=ix.map (X.N[·]?)) (hfr:((N'.drop own).all fun x=>scope.names.lookup x == some .free)=true)
 (hg:∀c,PG (X.comp scope N' c) tg g) (hgo:Bv own g) (ht:∀c,PTs (X.comp scope N' c) ifs tc) (he:∀c,PX (X.comp scope N' c) elt tx)
 (hs:∀x,foldedSetIterable iter X.env x=pure x:=by intro _;rfl):PE X (.ListComp elt [⟨tg,iter,ifs,0⟩] scope pos) (FA wi own ix g tc tx EE) :=
 JB hstk hL hx hex hc hi (.of S) Yl hN (frB hfr) hg hgo ht he hs
theorem NB {lo:Int} {n:Nat} {σc:St} (Pv:Nat->List V->Hp->Prop) (h0:Pv 0 [] H) (hz:∀i ys H,i < n->Pv i ys H->ys.length < sizeLine)
 (hs:∀i ys H,i < n->Pv i ys H->g (.int (lo+i)) σc H fun σ2 H2=>tc σ2 H2 fun b H3=>if b=true then tx σ2 H3 (fun y H4=>Pv (i+1) (ys++[y]) H4) EE else Pv (i+1) ys H3)
 (hd:∀ys H,Pv n ys H->∀p,H p=none->Q (.ref p) (upd H p (.lst ys))):EF (Itr lo n) g tc tx σc Q EE H:=by
 refine⟨fun i m ys H=>m=n - i/\i<=n/\Pv i ys H,⟨n,by simp,ZK _,h0⟩,?_⟩;rintro i m ys H ⟨rfl,hi,p⟩
 by_cases Yo:i < n
 ·refine .inr ⟨Yo,hz i ys H Yo p,Pv (i+1),fun ys' H' p'=>⟨n - (i+1),by lia,rfl,Yo,p'⟩,fun x H' y=>?_⟩;obtain⟨e,y⟩:=y;subst e y;exact hs i ys _ Yo p
 ·have e:i=n:=by lia
  subst e;exact .inl ⟨ZD _,hd ys H p⟩
end
end L2
namespace L2
open PySem Builtin Builtin.Str
noncomputable def Bl(x:Str)(lo hi:Option Int):Str:=if (strSliceIndices lo hi 1 x.length).length=x.length then x else ⟨((strSliceIndices lo hi 1 x.length).filterMap (x.cps[·]?)).toArray⟩
theorem Iy(lo hi:Option Int)(n:Nat):(strSliceIndices lo hi 1 n).length<=n:=by
 have key:∀a b:Int,0<=a->b<=n->(sliceRange a b 1).length<=n:=by
  intro a b ha hb;unfold sliceRange;rw[ZF,List.length_range];simp only[show(1:Int) > 0 by decide,if_true];split <;> lia
 unfold strSliceIndices;simp only[show(1:Int) > 0 by decide,if_true];refine key _ _ ?_ ?_
 ·cases lo with
  | none=>exact Int.le_refl _
  | some i=>dsimp only;lia
 ·cases hi with
  | none=>exact Int.le_refl _
  | some i=>dsimp only;lia
theorem EW(x:Str)(lo hi:Option Int):(Bl x lo hi).length<=x.length:=by
 have h:=Iy lo hi x.length;unfold Bl;split
 ·exact ZD _
 ·refine ZU ?_ h
  show(List.toArray _).size<=_
  rw[ZE];exact List.length_filterMap_le _ _
noncomputable def Cn(K:W.Frag):V->Option Int->Option Int->Hp->VK->Prop:=fun x lo hi H Q=>match x with
 | .ref a=>∃xs,(Yr K H a xs/\∀p,H p=none->Q (.ref p) (upd H p (.lst (Ac xs lo hi)))) \/
  (Yq K H a xs/\¬(HT.sIx xs.length 0 lo=0/\HT.sIx xs.length xs.length hi=xs.length)/\∀p,H p=none->Q (.ref p) (upd H p (.tup (Ac xs lo hi))))
 | .str x=>x.length<=sizeLine/\Q (.str (Bl x lo hi)) H
 | _=>False
section
variable {X:Cx}{K:W.Frag}{e:Expr}{te:TE}{lo hi:Option Expr}{tl th:TO}{pos p2:Pos}
theorem GE{v:Value}{o:Option Int}(h:IsPart v o):∃l:Option (Int × Tok),v=partValue l/\l.map (·.1)=o:=by
 cases h with
 | none=>exact⟨none,rfl,rfl⟩
 | int i t=>exact⟨some (i,t),rfl,rfl⟩
theorem Lf:SlR X (Cn X.K):=by
 intro Ya s σ H x v vl vu lo hi sl Q I rx hs pl pu q;cases x with
 | ref a=>exact GX Ya s σ H _ v vl vu lo hi sl Q I rx hs pl pu q
 | str x =>
  obtain⟨hx,q⟩:=q;obtain⟨t,rfl⟩:=rx;obtain⟨l,rfl,rfl⟩:=GE pl;obtain⟨u,rfl,rfl⟩:=GE pu;refine⟨"str",_,F.slot_str_getitem.lookup,typeIs_str _ _ _,?_⟩;refine wpAny_getItem_str_slice (l:=l) (u:=u) (st:=none) (by obtain⟨o,h1,h2,h3⟩:=hs;exact⟨o,h1,h2,h3⟩) rfl ?_;have hl:=EW x (l.map (·.1)) (u.map (·.1));unfold sliceMade slicePicked;unfold Bl at q hl
  by_cases h:(strSliceIndices (l.map (·.1)) (u.map (·.1)) 1 x.length).length=x.length
  ·rw[if_pos h]at q;rw[if_pos (by simpa using h)];exact⟨.str x,H,I,⟨t,rfl⟩,q⟩
  ·rw[if_neg h]at q hl;rw[if_neg (by simpa using h)];exact⟨ZU hl hx,⟨.str _,H,I.tok _,⟨_,rfl⟩,q⟩⟩
 | _=>exact False.elim q
theorem BV(he:PE X e te)(hl:PO X lo tl)(hu:PO X hi th)(hK:X.K=K:=by rfl):PE X (.Subscript e (.Slice lo hi none p2) pos) (tSl (Cn K) te tl th):=hK ▸ DD Lf he hl hu
theorem Iv(h1:AY te)(h2:Cp tl)(h3:Cp th):AY (tSl (Cn K) te tl th):=fun σ H Q Q' k q=>h1 _ _ _ _ (fun x H1 q=>h2 _ _ _ _ (fun l H2 q=>h3 _ _ _ _ (fun u H3 q=>by
 unfold Cn at *;split at q
 ·obtain⟨xs,⟨a,q⟩ | ⟨a,b,q⟩⟩:=q
  ·exact⟨xs,.inl ⟨a,fun p hp=>k _ _ (q p hp)⟩⟩
  ·exact⟨xs,.inr ⟨a,b,fun p hp=>k _ _ (q p hp)⟩⟩
 ·exact⟨q.1,k _ _ q.2⟩
 ·exact q.elim) q) q) q
noncomputable def inS(x y:Str):Bool:=!(occurrences y x 0 y.length 1).isEmpty
noncomputable def Cc(neg:Bool):R2:=fun x y H Q=>match x,y with
 | .str x,.str y=>Q (.bl (neg ^^ inS x y)) H
 | _,_=>False
theorem KA:Yp X (compareOp .NotIn) (Cc true):=by
 intro Ya s σ H x y v u Q I rx ry q;cases x <;> cases y <;> first | exact False.elim q | skip
 obtain⟨t,rfl⟩:=rx;obtain⟨t2,rfl⟩:=ry;exact P.notIn_str ⟨.bl _,H,I,rfl,by unfold Cc at q;simpa [inS] using q⟩
theorem Jn{neg:Bool}:BM (Cc neg):=fun x y H Q Q' k q=>by
 unfold Cc at *;split at q
 ·exact k _ _ q
 ·exact q.elim
theorem LU(c:Nat)(y:Str):inS ⟨#[c]⟩ y=decide (c∈y.cps.toList):=StrLaws.found_one y c
noncomputable def Dj:List V->Hp->VK->Prop:=fun xs H Q=>match xs with
 | [.str x]=>∃n,intText? x=some n/\x.length<=640/\Q (.int n) H
 | _=>False
theorem Mr:CallR X (.type "int") Dj:=by
 intro Ya s σ H xs us Q I r q
 match xs,q with
 | [.str x],q =>
 obtain⟨n,h1,h2,q⟩:=q;obtain⟨u,rfl,ru⟩:=B5 r;obtain⟨t,rfl⟩:=ru;exact W.KIN.call_text h1 h2 ⟨.int _,H,I.tok _,⟨_,rfl⟩,q⟩
theorem Mg:CP Dj:=fun xs H Q Q' h q=>by
 unfold Dj at *;split at q
 ·obtain⟨n,a,b,q⟩:=q;exact⟨n,a,b,h _ _ q⟩
 ·exact q.elim
noncomputable def FP:R2:=fun x y H Q=>match x,y with
 | .str x,.int n=>MulOk x n/\Q (.str (Txt.mul x n)) H
 | _,_=>False
theorem Mi:Yp X (binaryOp .Mult) FP:=by
 intro Ya s σ H x y v u Q I rx ry q;cases x <;> cases y <;> first | exact False.elim q | skip
 obtain⟨t,rfl⟩:=rx;obtain⟨t2,rfl⟩:=ry;exact SB.mul q.1 fun t' k=>⟨.str _,H,I.tok _,⟨_,rfl⟩,q.2⟩
end
noncomputable def AT:List Str->Nat
 | []=>0
 | x::r=>x.length+1+AT r
theorem Ax:∀a b:List Str,AT (a++b)=AT a+AT b
 | [],b=>(Nat.zero_add _).symm
 | x::a,b=>by
  show x.length+1+AT (a++b)=x.length+1+AT a+AT b;rw[Ax a b];lia
theorem Eh(c:Nat):∀ws:List Str,ws≠[]->(Str.join ⟨#[c]⟩ ws).length+1=AT ws
 | [],h=>absurd rfl h
 | [x],_=>rfl
 | x::y::r,_=>by
  have h2:=Eh c (y::r) (by simp);rw[KH,Str.length_append,Str.length_append];show x.length+1+_+1=x.length+1+AT (y::r);lia
theorem GQ(c:Nat)(ws:List Str):(Str.join ⟨#[c]⟩ ws).length<=AT ws:=by
 cases ws with
 | nil=>exact ZD _
 | cons x r=>have:=Eh c (x::r) (by simp);lia
theorem Db:∀{ws:List Str} {x:Str},x∈ws->x.length+1<=AT ws
 | y::r,x,h=>by
  show _<=y.length+1+AT r
  rcases ZG.mp h with rfl | h
  ·lia
  ·have:=Db h;lia
theorem BK:∀ws:List Str,ws.length<=AT ws
 | []=>ZD _
 | x::r=>by
  have:=BK r
  show r.length+1<=x.length+1+AT r;lia
theorem Ff(x y:Str):Txt.split x y≠[]:=by
 unfold Txt.split;split
 ·simp
 ·split
  ·simp
  ·intro h
   have:=length_partsBetween x (occurrences x y 0 x.length (x.length+1)) y.length
   rw[h]at this;cases this
theorem EH(x:Str)(c:Nat):AT (Txt.split x ⟨#[c]⟩)=x.length+1:=by
 rw[<- Eh c _ (Ff _ _),StrLaws.join_split]
theorem Na{c:Nat}{ws:List Str}(h:AT ws<=3000):JoinOk ⟨#[c]⟩ ws=true:=by
 have hl:=BK ws
 have h2:=StrLaws.joinFits (sep:=⟨#[c]⟩) (texts:=ws) (B:=3000) (fun y hy=>by have:=Db hy;lia) (by
  show ws.length * 3000+ws.length * 1<=16777216
  have:ws.length * 3000<=3000 * 3000:=Nat.mul_le_mul_right _ (by lia)
  lia)
 unfold JoinOk;rw[h2];rfl
theorem Ln(x:Str)(n:Nat):(Txt.mul x (n:Int)).length=n * x.length:=by
 unfold Txt.mul
 have key:∀(k:Nat) (a:Array Nat),((List.replicate k x.cps).foldl (· ++ ·) a).size=a.size+k * x.cps.size:=by
  intro k
  induction k with
  | zero=>intro a;simp
  | succ k ih =>
   intro a;rw[Zx,List.foldl_cons,ih,Array.size_append,Nat.succ_mul];lia
 split
 ·have:n=0:=by lia
  subst this;rw[Nat.zero_mul];rfl
 ·split
  ·rename_i h;rw[Z0]at h
   rcases h with h | h
   ·have:n=1:=by have:=Za h;lia
    rw[this,Nat.one_mul]
   ·have h:x.length=0:=beq_iff_eq.mp h;rw[h,Nat.mul_zero]
  ·show(Array.size _)=_
   rw[key];show 0+_=n * x.cps.size;rw[Nat.zero_add,Int.toNat_natCast]
end L2
namespace Mine
open PySem L2
variable {f:Fm}{F g i k n s:Nat}{K:W.Frag}{H:Hp}{x y:Str}{M:List (Str × Nat)}
noncomputable def top(i:Nat):Stmt:=PySem.Challenge.pw_flips_k07_texts_that_write_none.main.body.getD i (.Pass ⟨0,0,0,0⟩)
noncomputable abbrev B2:Stmt:=Bz (top 2) 0
noncomputable abbrev D0:Stmt:=top 13
noncomputable abbrev EC:Stmt:=top 14
noncomputable abbrev Eg:Stmt:=top 16
noncomputable abbrev Dm:Stmt:=Bz (top 17) 0
noncomputable abbrev En:Stmt:=Bz (top 17) 1
noncomputable abbrev Dq:Stmt:=Bz (top 17) 2
noncomputable abbrev DE:Stmt:=Bz (top 17) 3
noncomputable abbrev ED:Stmt:=Bz (top 17) 4
noncomputable abbrev Eu:Stmt:=top 19
noncomputable abbrev D2:Stmt:=top 20
noncomputable abbrev DP:Stmt:=top 21
noncomputable abbrev Dz:Stmt:=top 22
noncomputable abbrev EJ:Stmt:=top 23
noncomputable abbrev Ex:Stmt:=top 24
noncomputable abbrev DQ:Stmt:=top 25
noncomputable abbrev Ec:Stmt:=top 26
noncomputable abbrev BS:Stmt:=top 27
local macro_rules | `(tactic| walk_at "f")=>`(tactic| exact⟨rfl,rfl,rfl,by decide +kernel,rfl,by decide +kernel,by decide +kernel⟩)
theorem MM:FnScope ["self","at"] ["self","at"] (AM B2):=by walk_at "f"
theorem Kh:FnScope ["word"] ["word"] (AM D0):=by walk_at "f"
theorem JO:FnScope ["many","depth"] ["many","depth"] (AM EC):=by walk_at "f"
theorem sc_z24:FnScope ["n","text","reader","formula"] ["n","text"] (AM Eg):=by walk_at "f"
theorem Nm:FnScope ["self","n","text"] ["self","n","text"] (AM Dm):=by walk_at "f"
theorem Jc:FnScope ["self"] ["self"] (AM En):=by walk_at "f"
theorem sc_z0:FnScope ["self","depth","word","parts"] ["self","depth"] (AM Dq):=by walk_at "f"
theorem sc_z9:FnScope ["self","word"] ["self"] (AM DE):=by walk_at "f"
theorem NC:FnScope ["self"] ["self"] (AM ED):=by walk_at "f"
theorem ME:FnScope ["_law_script"] ["_law_script"] (AM Eu):=by walk_at "f"
theorem sc_z22:FnScope ["_law_tape_here","_law_many","_law_script","_law_digit","_law_cell","_law_seed"] ["_law_tape_here","_law_many"] (AM D2):=by walk_at "f"
theorem sc_z15:FnScope ["_law_tape_here","_law_n","_law_room","_law_deep","_law_way","_law_first","_law_second","_law_rooms","_law_one","_law_other"] ["_law_tape_here","_law_n","_law_room","_law_deep"] (AM DP):=by walk_at "f"
theorem sc_z18:FnScope ["_law_formula_here","_law_found","_law_one"] ["_law_formula_here"] (AM Dz):=by walk_at "f"
theorem sc_z16:FnScope ["_law_n","_law_words_here","_law_counts","_law_awaited","_law_many","_law_at","_law_laid","_law_deep","_law_word"] ["_law_n","_law_words_here"] (AM EJ):=by walk_at "f"
theorem sc_z17:FnScope ["_law_laid","_law_stack","_law_word","_law_number","_law_inner"] ["_law_laid"] (AM Ex):=by walk_at "f"
theorem sc_z20:FnScope ["_law_tape_here","_law_text","_law_words_here","_law_at","_law_some","_law_way","_law_word","_law_place"] ["_law_tape_here","_law_text"] (AM DQ):=by walk_at "f"
theorem sc_z19:FnScope ["_law_n","_law_text","_law_found","e","_law_others"] ["_law_n","_law_text"] (AM Ec):=by walk_at "f"
theorem sc_law:FnScope ["_law_script","_law_tape_here","_law_turn","_law_n","_law_formula_here","_law_text","_law_bent_here","_law_deep","_law_one"] ["_law_script"] (AM BS):=by walk_at "f"
set_option genInjectivity false
set_option genSizeOf false
structure Fun1(K:W.Frag)(mg:Str->Option Value)(n:Str)(st:Stmt)(ps:List Str) where
 f:Addr
 d:FuncData
 F:Fun K n n st f d
 b:Binds K d ps []
 m:mg n=some (.ref f)
structure Meth1(K:W.Frag)(C:Addr)(n q:Str)(st:Stmt)(ps:List Str) where
 f:Addr
 d:FuncData
 F:Fun K n q st f d
 b:Binds K d ps []
 m:Meth K C n f
structure Txt(w:World)(K:W.Frag)(mg:Str->Option Value) where
 Yx:Addr
 Z0e:mg "Reader" = some (.ref Yx)
 Yy:Cls K Yx
 YS:NoAttr K Yx "figures"
 YM:NoAttr K Yx "words"
 Yz:NoAttr K Yx "spot"
 YJ:NoAttr K Yx "begun"
 YX:Addr
 Z0h:mg "Alike" = some (.ref YX)
 YT:Addr
 Z0a:mg "FlipError" = some (.ref YT)
 YY:Addr
 Z0f:mg "NoEnd" = some (.ref YY)
 YR:Addr
 Z0d:mg "NoName" = some (.ref YR)
 YW:Addr
 Z0g:mg "NoRow" = some (.ref YW)
 YE:Addr
 Z0b:mg "NoTable" = some (.ref YE)
 Yw:Addr
 Y0:mg "NoText" = some (.ref Yw)
 YD:Addr
 Z0c:mg "NoThing" = some (.ref YD)
 Y7:ExcC K Yw
 Y6:W.hasDictIn K Yw=true
 Y3:NoAttr K Yw "at"
 YB:W.exmOne K (.ref Yw) (.ref YT)=some true
 YK:W.kitOne K (.ref Yw) (.ref YX)=some false
 YO:W.kitOne K (.ref Yw) (.ref YY)=some false
 YG:W.kitOne K (.ref Yw) (.ref YR)=some false
 YL:W.kitOne K (.ref Yw) (.ref YW)=some false
 YF:W.kitOne K (.ref Yw) (.ref YE)=some false
 YH:W.kitOne K (.ref Yw) (.ref Yw)=some true
 YC:W.kitOne K (.ref Yw) (.ref YD)=some false
 YA:W.kitOne K (.ref Yw) (.type "ValueError")=some true
 z13:Meth1 K Yw "__init__" "NoText.__init__" B2 ["self","at"]
 Y1:ExcI K Yw z13.f
 z23:Fun1 K mg "parts_of" D0 ["word"]
 z14:Fun1 K mg "is_too_large" EC ["many","depth"]
 z24:Fun1 K mg "read" Eg ["n","text"]
 z12:Meth1 K Yx "__init__" "Reader.__init__" Dm ["self","n","text"]
 Y4:Mk K Yx z12.f
 z10:Meth1 K Yx "next_word" "Reader.next_word" En ["self"]
 z0:Meth1 K Yx "take_formula" "Reader.take_formula" Dq ["self","depth"]
 z9:Meth1 K Yx "take_switch" "Reader.take_switch" DE ["self"]
 z11:Meth1 K Yx "take_end" "Reader.take_end" ED ["self"]
 z21:Fun1 K mg "_law_tape" Eu ["_law_script"]
 z22:Fun1 K mg "_law_next" D2 ["_law_tape_here","_law_many"]
 z15:Fun1 K mg "_law_formula" DP ["_law_tape_here","_law_n","_law_room","_law_deep"]
 z18:Fun1 K mg "_law_words" Dz ["_law_formula_here"]
 z16:Fun1 K mg "_law_walked" EJ ["_law_n","_law_words_here"]
 z17:Fun1 K mg "_law_built" Ex ["_law_laid"]
 z20:Fun1 K mg "_law_bent" DQ ["_law_tape_here","_law_text"]
 z19:Fun1 K mg "_law_told" Ec ["_law_n","_law_text"]
 Xj:Addr
 Xk:FuncData
 Z0i:Fun K "law" "law" BS Xj Xk
 Z0j:Binds K Xk ["_law_script"] []
 Z0k:mg "law" = some (.ref Xj)
 YZ:mg "ValueError" = none
 Xg:mg "int" = none
 YQ:mg "isinstance" = none
 Y5:mg "len" = none
 Xi:mg "max" = none
 Y8:mg "range" = none
 Xe:mg "repr" = none
 Y2:mg "reversed" = none
 Xh:mg "str" = none
 Y9:mg "tuple" = none
 Xf:Addr
 Xc:mg "PARTS" = some (.ref Xf)
 Xd:∀P:Program,C3 P w K Xf [(Sum.inr "yes",.int 0),(Sum.inr "no",.int 0),(Sum.inr "at",.int 0),(Sum.inr "not",.int 1),(Sum.inr "both",.int 2),(Sum.inr "either",.int 2),(Sum.inr "odd",.int 2),(Sum.inr "most",.int 3)]
 YI:Tok
 YN:mg "MOST_FORMULAS" = some (.int 20 YI)
 YV:Tok
 YU:mg "MOST_WITHIN" = some (.int 8 YV)
set_option genInjectivity true
set_option genSizeOf true
abbrev Xa(P:Program)(w:World)(base:Heap){K:W.Frag}{mg:Str->Option Value}{n:Str}{st:Stmt}{ps:List Str}(z:Fun1 K mg n st ps)(k:Nat)(sp:Sp):Prop:=FnOk P w K mg base CX0 k z.f z.d ps sp
abbrev Xb(P:Program)(w:World)(mg:Str->Option Value)(base:Heap){K:W.Frag}{C:Addr}{n q:Str}{st:Stmt}{ps:List Str}(z:Meth1 K C n q st ps)(k:Nat)(sp:Sp):Prop:=FnOk P w K mg base CX0 k z.f z.d ps sp
section
variable {P:Program}{w:World}{K:W.Frag}{mg:Str->Option Value}{base:Heap}(T:Txt w K mg)
local macro_rules | `(tactic| walk_at "sm")=>`(tactic| repeat' with_reducible first | exact NK | apply JY | apply NE | apply JG | apply My | apply M6 | exact K6 | exact JP | apply Ip | apply Jr | apply Kw | apply M4 | apply NR | apply Ic | apply Ia | exact Ib | exact IT | exact Ja | exact L7 | exact Kt | exact KB | exact IJ | exact IL | apply Mq | apply Ly | apply LC | exact KL | apply Lg | exact IC | exact JC | exact K7 | apply KG | apply J8 | exact Mu | exact Ix | exact KO | apply No | exact Jn | exact Mg | apply Iv | apply ML | exact K0 | exact Lm | apply Kl | assumption)
set_option hygiene false in
local macro_rules | `(tactic| walk_at "q")=>`(tactic| (split at q;(revert q;repeat' first | exact h _ _ | exact newL_mono h | exact out_mono h | exact outT_mono h | walk_at "m");(exact q.elim)))
set_option hygiene false in
local macro_rules | `(tactic| walk_at "e")=>`(tactic| (split at h <;> first | rfl | exact h.elim))
set_option hygiene false in
local macro_rules | `(tactic| walk_at "f")=>`(tactic| (intro Ys A outer s H vs Q E hr h;have hu:=Ar hr))
set_option hygiene false in
local macro_rules | `(tactic| walk_at "g")=>`(tactic| (split at h;rotate_left;(exact h.elim)))
local macro_rules | `(tactic| left)=>`(tactic| exact⟨by rfl,by first | exact Or.inl rfl | exact Or.inr (Or.inl rfl) | exact Or.inr (Or.inr rfl),by decide,by decide⟩)
local macro_rules | `(tactic| walk_at "m")=>`(tactic| with_reducible first | refine Exists.imp fun _=>?_ | refine And.imp_right ?_ | refine forall_imp fun _=>?_)
local macro_rules | `(tactic| walk_at "o")=>`(tactic| first | exact Or.inl rfl | exact Or.inr (Or.inl rfl) | exact Or.inr (Or.inr rfl))
local macro_rules | `(tactic| symm)=>`(tactic| first | exact .inl rfl | exact .inr rfl | assumption)
local macro_rules | `(tactic| right)=>`(tactic| first | exact Or.inl rfl | exact Or.inr rfl)
local macro_rules | `(tactic| walk_at "n")=>`(tactic| first | exact EB _ (by decide) (by decide) | rfl)
theorem Mo:Xa P w base T.z21 1 (DR K):=by
 refine T.z21.F.ok ME (fun vs H Q E h=>by unfold DR at h;walk_at "e") (fun Ys A outer s H vs Q E hr h=>?_);unfold DR at h;walk_at "g"
 rename_i a;have k:=h;refine⟨_,(@AJ _ _ _ (@AX _ _ _ _ (@Aq _ _ _ _ (AA (vv 0) (AA AB (AA AB (AA AB AC))))))),?_⟩;exact⟨by show 4<=sizeLine;rw[sizeLine_eq];decide,k⟩
theorem DA:Xa P w base T.z22 1 (CC K):=by
 refine T.z22.F.ok sc_z22 (fun vs H Q E h=>by unfold CC at h;walk_at "e") ?_;walk_at "f";unfold CC at h;walk_at "g"
 rename_i t m;obtain⟨a,ns,TP,hm,k⟩:=h;obtain⟨⟨i,r,c,hi,hr0,ht⟩,hscr⟩:=id TP;refine⟨_,(@AE _ _ _ _ _ (@AI _ _ 2 _ _ _ _ sc_z22.nd rfl (by right) (Yt (K:=K) (vv 0) AB) (by rfl) (by symm)) (@AE _ _ _ _ _ (@Cs _ _ _ _ _ _ (AF (AK (K:=K)) (Yt (K:=K) (vv 0) AB) AB) (Ct (vv 0) AB C8) (by rfl) (by rfl) (by rfl)) (@AE _ _ _ _ _ (@Ag _ _ _ _ _ _ _ _ (PW.pt (Cr (AQ (kEq (K:=K) hu) (Yt (K:=K) (vv 0) AB) AB) (Ev (AQ BP (Yt (K:=K) (vv 0) AB) (Am (A6 (K:=K)) rfl T.Y5 (by rfl) (AA (vv 2) AC)))))) (@AE _ _ _ _ _ (@Cs _ _ _ _ _ _ (Am (LW rfl) rfl T.Xi (by rfl) (AA AB (AA (AF HR (Yt (K:=K) (vv 2) (Yt (K:=K) (vv 0) AB)) (AF Kq AB AB)) AC))) (Ct (vv 0) AB C8) (by rfl) (by rfl) (by rfl)) (@AJ _ _ _ (@Cs _ _ _ _ _ _ (AF (AK (K:=K)) (Yt (K:=K) (vv 0) AB) AB) (Ct (vv 0) AB C8) (by rfl) (by rfl) (by rfl)))) Al) (@AE _ _ _ _ _ (@Ag _ _ _ _ _ _ _ _ (AQ Bk (Yt (K:=K) (vv 0) AB) AB) (@AE _ _ _ _ _ (@AI _ _ 3 _ _ _ _ sc_z22.nd rfl (by right) (AF BW (Yt (K:=K) (vv 0) AB) (vv 1)) (by rfl) (by symm)) (@AE _ _ _ _ _ (@Cs _ _ _ _ _ _ (AF HR (Yt (K:=K) (vv 0) AB) (vv 1)) (Ct (vv 0) AB C8) (by rfl) (by rfl) (by rfl)) (@AJ _ _ _ (@AX _ _ _ _ (vv 3))))) Al) (@AE _ _ _ _ _ (@AI _ _ 4 _ _ _ _ sc_z22.nd rfl (by right) (DV (AQ Bk (Am (A6 (K:=K)) rfl T.Y5 (by rfl) (AA (vv 2) AC)) AB) (Yt (K:=K) (vv 2) (AF BW (Yt (K:=K) (vv 0) AB) (Am (A6 (K:=K)) rfl T.Y5 (by rfl) (AA (vv 2) AC)))) AB) (by rfl) (by symm)) (@AE _ _ _ _ _ (@AI _ _ 5 _ _ _ _ sc_z22.nd rfl (by right) (AF BW (AF CH (AF (AK (K:=K)) (AF (AK (K:=K)) (AF BW (vv 4) AB) (AF CH AB (Yt (K:=K) (vv 0) AB))) AB) AB) AB) (by rfl) (by symm)) (@AJ _ _ _ (@AX _ _ _ _ (AF BW (AF BW (AF CH (AF BW (AF (AK (K:=K)) (AF CH (vv 5) AB) (Yt (K:=K) (vv 0) AB)) AB) AB) AB) (vv 1)))))))))),?_⟩
 -- script=tape[0];tape[3]=tape[3]+1
 refine⟨_,_,.inl (.of ht),rfl,_,_,.inl (.of ht),rfl,_,_,ht,rfl,?_⟩;have sc0:∀{H1:Hp},(∀b,b≠t->H1 b=H b)->ScrAt K H1 t a ns:=fun h=>hscr.stay fun o n e=>by rw[h a n];exact e
 have sc1:∀{H1:Hp},(∀b,b≠t->H1 b=H b)->Yr K H1 a (ns.map V.int):=fun h=>(sc0 h).sq
 have f1:∀{o:HO} {H1:Hp},(∀b,b≠t->H1 b=H b)->∀b,b≠t->upd H1 t o b=H b:=fun h b n=>by rw[AG n];exact h b n
 dsimp only;refine BO (fun σ' H1=>σ'=[some (.ref t),some (.int m),some (.ref a),none,none,none]/\(∀b,b≠t->H1 b=H b)/\∃i r c:Int,0<=i/\0<=r/\H1 t=some (.lst [.ref a,.int i,.int r,.int c])) ?_ ?_ (by walk_at "sm")
 ·-- the next number of the script,where the last one is used up
  have h1:∀{o:HO} (b:Addr),b≠t->upd H t o b=H b:=fun b n=>AG n
  refine⟨_,_,.inl (.of AD),rfl,?_⟩;refine AZ (fun e=>?_) (fun e=>?_)
  ·refine⟨_,_,.inl (.of AD),rfl,ns.length,.inl ⟨_,sc1 h1,by rw[ZF]⟩,?_⟩;refine AZ (fun e=>?_) (fun e=>?_)
   ·have Yo:i < ns.length:=Za e;obtain⟨z,hz⟩:=HE hi Yo;refine⟨_,_,.inl (.of AD),rfl,_,_,.inl (sc1 h1),hz,⟨by decide,by decide,by decide⟩,⟨by decide,by decide⟩,?_⟩;refine⟨_,_,AD,rfl,_,_,.inl (.of AD),rfl,_,_,AD,rfl,rfl,?_,i+1,max 0 (z / 10 ^ 18),c+1,by lia,by lia,AD⟩;exact f1 (f1 h1)
   ·exact⟨rfl,h1,i,r,c+1,hi,hr0,AD⟩
  ·exact⟨rfl,h1,i,r,c+1,hi,hr0,AD⟩
 rintro σ' H1 ⟨rfl,h1,i,r,c,hi,hr0,ht⟩;have T1:∀{H2:Hp} {i r c:Int},(∀b,b≠t->H2 b=H b)->0<=i->0<=r->H2 t=some (.lst [.ref a,.int i,.int r,.int c])->Tape K H2 t a ns:=fun h h1 h2 h3=>⟨⟨_,_,_,h1,h2,h3⟩,sc0 h⟩
 -- a digit of it
 refine⟨_,_,.inl (.of ht),rfl,?_⟩;have hm0:0 < m:=hm.1;refine AZ (fun e=>?_) (fun e=>?_)
 ·refine⟨_,_,.inl (.of ht),rfl,hm0,_,_,.inl (.of ht),rfl,hm,_,_,ht,rfl,?_⟩;exact k _ _ (Int.emod_nonneg _ (by lia)) (Int.emod_lt_of_pos _ hm0) (T1 (f1 h1) hi (Int.ediv_nonneg hr0 (by lia)) AD) (f1 h1)
 -- else a number made of the cell
 dsimp only[BD];refine BO (fun σ' H2=>H2=H1/\∃z:Int,σ'=[some (.ref t),some (.int m),some (.ref a),none,some (.int z),none]) ?_ ?_ (by walk_at "sm")
 ·refine⟨ns.length,.inl ⟨_,sc1 h1,by rw[ZF]⟩,?_⟩;refine AZ (fun e=>?_) (fun e=>?_)
  ·have Yo:(0:Int) < ns.length:=Za e;obtain⟨z,hz⟩:=HE (ns:=ns) (Int.emod_nonneg c (show(ns.length:Int)≠0 by lia)) (Int.emod_lt_of_pos c Yo);exact⟨_,_,.inl (.of ht),rfl,ns.length,.inl ⟨_,sc1 h1,by rw[ZF]⟩,Yo,_,_,.inl (sc1 h1),hz,rfl,z,rfl⟩
  ·exact⟨rfl,0,rfl⟩
 rintro σ' H2 ⟨rfl,z,rfl⟩;refine⟨by decide,_,_,.inl (.of ht),rfl,.inr (.inl ⟨by decide,by decide⟩),.inr (.inr ⟨by decide,by decide⟩),by decide,?_⟩;refine⟨.inr (.inr ⟨by decide,by decide⟩),_,_,.inl (.of ht),rfl,by decide,.inr (.inr ⟨by decide,by decide⟩),by decide,hm0,?_⟩;exact k _ _ (Int.emod_nonneg _ (by lia)) (Int.emod_lt_of_pos _ hm0) (T1 h1 hi hr0 ht) h1
inductive Fm where
 | yes | no | at_ (i:Nat) | not_ (a:Fm) | both (a b:Fm) | either (a b:Fm) | odd (a b:Fm) | most (a b c:Fm)
noncomputable def Fm.word:Fm->Str
 | .yes=>"yes" | .no=>"no" | .at_ _=>"at" | .not_ _=>"not" | .both _ _=>"both" | .either _ _=>"either" | .odd _ _=>"odd" | .most _ _ _=>"most"
noncomputable def Fm.dv:Fm->Dv
 | .yes=>.tup [.str "yes"]
 | .no=>.tup [.str "no"]
 | .at_ i=>.tup [.str "at",.int (i:Nat)]
 | .not_ a=>.tup [.str "not",a.dv]
 | .both a b=>.tup [.str "both",a.dv,b.dv]
 | .either a b=>.tup [.str "either",a.dv,b.dv]
 | .odd a b=>.tup [.str "odd",a.dv,b.dv]
 | .most a b c=>.tup [.str "most",a.dv,b.dv,c.dv]
noncomputable def Fm.parts:Fm->List Fm
 | .not_ a=>[a] | .both a b=>[a,b] | .either a b=>[a,b] | .odd a b=>[a,b] | .most a b c=>[a,b,c] | _=>[]
noncomputable def Fm.tail:Fm->List Dv
 | .at_ i=>[.int (i:Nat)]
 | f=>f.parts.map Fm.dv
theorem JH(f:Fm):f.dv=.tup (.str f.word::f.tail):=by cases f <;> rfl
noncomputable def Fm.deep:Fm->Nat
 | .not_ a=>a.deep+1
 | .both a b=>max a.deep b.deep+1
 | .either a b=>max a.deep b.deep+1
 | .odd a b=>max a.deep b.deep+1
 | .most a b c=>max (max a.deep b.deep) c.deep+1
 | _=>1
noncomputable def Fm.many:Fm->Nat
 | .not_ a=>a.many+1
 | .both a b=>a.many+b.many+1
 | .either a b=>a.many+b.many+1
 | .odd a b=>a.many+b.many+1
 | .most a b c=>a.many+b.many+c.many+1
 | _=>1
noncomputable def Fm.ok(n:Nat):Fm->Prop
 | .at_ i=>i < n
 | .not_ a=>a.ok n
 | .both a b=>a.ok n/\b.ok n
 | .either a b=>a.ok n/\b.ok n
 | .odd a b=>a.ok n/\b.ok n
 | .most a b c=>a.ok n/\b.ok n/\c.ok n
 | _=>True
theorem MG(f:Fm):1<=f.deep:=by cases f <;> simp only[Fm.deep] <;> lia
theorem M5{g:Fm}(h:g∈f.parts):g.deep+1<=f.deep:=by
 cases f <;> simp only[Fm.parts,ZG,List.mem_nil_iff,or_false]at h <;> simp only[Fm.deep] <;> rcases h with h | h | h <;> (try subst h) <;> lia
theorem NT{g:Fm}(h:g∈f.parts)(k:f.ok n):g.ok n:=by
 cases f <;> simp only[Fm.parts,ZG,List.mem_nil_iff,or_false]at h <;> simp only[Fm.ok]at k
 all_goals first
  | (subst h;exact k)
  | (rcases h with h | h <;> subst h <;> first | exact k.1 | exact k.2)
  | (rcases h with h | h | h <;> subst h <;> first | exact k.1 | exact k.2.1 | exact k.2.2)
theorem HF(f:Fm):A5 f.dv=true:=by
 induction f <;> simp[Fm.dv,A5,Aa, *]
theorem Hu{v:V}(h:Yi K H f.dv v):∃a xs,v=.ref a/\Yq K H a (.str f.word::xs)/\Ye K H f.tail xs:=by
 rw[JH]at h;unfold Yi at h;obtain⟨a,xs,e,h1,h2⟩:=h;unfold Ye at h2;obtain⟨x,r,e2,h3,h4⟩:=h2;unfold Yi at h3;subst e2 h3;exact⟨a,r,e,h1,h4⟩
noncomputable def spF(K:W.Frag)(d:Nat):Sp:=fun vs H Q _=>match vs with
 | [.ref t,.int n,.int room,.int deep]=>∃(a:Addr) (ns:List Int) (m:Nat),Tape K H t a ns/\n=m/\1<=m/\m<=6/\1<=room/\room<=24/\1<=deep/\deep<=d /\
  ∀(f:Fm) v H',f.ok m->(f.deep:Int)<=deep->(f.many:Int)<=room->Yi K H' f.dv v->Tape K H' t a ns->Ym t H H'->Q v H'
 | _=>False
theorem GD{d:Nat}:CM (spF K d):=fun vs H Q Q' E h q=>by
 unfold spF at *;split at q
 ·obtain⟨a,ns,m,h1,h2,h3,h4,h5,h6,h7,h8,q⟩:=q;exact⟨a,ns,m,h1,h2,h3,h4,h5,h6,h7,h8,fun f v H' a1 a2 a3 a4 a5 a6=>h _ _ (q f v H' a1 a2 a3 a4 a5 a6)⟩
 ·exact q.elim
theorem K9:∀d:Nat,Xa P w base T.z15 (2+d) (spF K d):=by
 intro d
 induction d with
 | zero =>
  refine FnOk.mono (j:=1) ?_ (by lia);refine T.z15.F.ok sc_z15 (fun vs H Q E h=>by unfold spF at h;walk_at "e") (fun Ys A outer s H vs Q E hr h=>?_);refine⟨Gx,Jt,?_⟩;unfold spF at h;split at h
  ·obtain⟨a,ns,m,h1,h2,h3,h4,h5,h6,h7,h8,q⟩:=h;exact absurd h7 (by lia)
  ·exact h
 | succ d ih =>
  have G_z15:=ih;have G_z22:=@DA P w K mg base T;refine T.z15.F.ok sc_z15 (fun vs H Q E h=>by unfold spF at h;walk_at "e") ?_;walk_at "f";have hr_z15:=hr;have hr_z22:=hr.mono (show 1<=2+d by lia)
  match vs,h with
  | [.ref t,.int n,.int room,.int deep],h =>
  obtain⟨a,ns,m,TP,e1,m1,m2,r1,r2,d1,d2,k⟩:=h;subst e1;refine⟨_,(@AE _ _ _ _ _ (@AI _ _ 4 _ _ _ _ sc_z15.nd rfl (by right) (AW G_z22 hr_z22 rfl T.z22.m T.z22.F.kp T.z22.b .nil AU (AA (vv 0) (AA AB AC))) (by rfl) (by symm)) (@AE _ _ _ _ _ (@Ag _ _ _ _ _ _ _ _ (PW.pt (BY (AQ BP (vv 2) AB) (BY (AQ BP (vv 3) AB) (CA (AQ BP (vv 4) AB))))) (@AE _ _ _ _ _ (@Ag _ _ _ _ _ _ _ _ (AQ (kEq (K:=K) hu) (AF BW (vv 4) AB) AB) (@AJ _ _ _ (@AX _ _ _ _ (BJ (AA (Yt (K:=K) (@Aq _ _ _ _ (AA AH (AA AH AC))) (AW G_z22 hr_z22 rfl T.z22.m T.z22.F.kp T.z22.b .nil AU (AA (vv 0) (AA AB AC)))) AC)))) Al) (@AJ _ _ _ (@AX _ _ _ _ (BJ (AA AH (AA (AW G_z22 hr_z22 rfl T.z22.m T.z22.F.kp T.z22.b .nil AU (AA (vv 0) (AA (vv 1) AC))) AC)))))) Al) (@AE _ _ _ _ _ (@Ag _ _ _ _ _ _ _ _ (PW.pt (BY (AQ BP (vv 4) AB) (CA (AQ BP (vv 2) AB)))) (@AJ _ _ _ (@AX _ _ _ _ (BJ (AA AH (AA (AW G_z15 hr_z15 rfl T.z15.m T.z15.F.kp T.z15.b .nil AU (AA (vv 0) (AA (vv 1) (AA (AF An (vv 2) AB) (AA (AF An (vv 3) AB) AC))))) AC))))) Al) (@AE _ _ _ _ _ (@Ag _ _ _ _ _ _ _ _ (PW.pt (Cr (AQ Bk (vv 4) AB) (Ev (AQ Bk (vv 2) AB)))) (@AE _ _ _ _ _ (@AI _ _ 5 _ _ _ _ sc_z15.nd rfl (by right) (AF (AK (K:=K)) AB (AW G_z22 hr_z22 rfl T.z22.m T.z22.F.kp T.z22.b .nil AU (AA (vv 0) (AA (AF An (vv 2) AB) AC)))) (by rfl) (by symm)) (@AE _ _ _ _ _ (@AI _ _ 6 _ _ _ _ sc_z15.nd rfl (by right) (AF (AK (K:=K)) AB (AW G_z22 hr_z22 rfl T.z22.m T.z22.F.kp T.z22.b .nil AU (AA (vv 0) (AA (AF An (AF An (vv 2) AB) (vv 5)) AC)))) (by rfl) (by symm)) (@AE _ _ _ _ _ (@AI _ _ 7 _ _ _ _ sc_z15.nd rfl (by right) (@Aq _ _ _ _ (AA (vv 5) (AA (vv 6) (AA (AF An (AF An (AF An (vv 2) AB) (vv 5)) (vv 6)) AC)))) (by rfl) (by symm)) (@AJ _ _ _ (@AX _ _ _ _ (AF (AK (K:=K)) (BJ (AA AH AC)) (CN (DW (K:=K)) rfl T.Y9 (by rfl) (AA (Gk (N':=["_law_one","_law_tape_here","_law_n","_law_deep"]) (own:=1) (ix:=[0,1,3]) rfl (EK (K:=K) (vv 7)) (by kernel_rfl) rfl rfl (by kernel_rfl) (fun c=>Bi (i:=0) (show(["_law_one","_law_tape_here","_law_n","_law_deep"]:List Str).Nodup by decide +kernel) rfl (by right)) (DX (by decide)) (fun c=>Dg) (fun c=>(AW G_z15 hr_z15 rfl T.z15.m T.z15.F.kp T.z15.b .nil AU (AA (vv 1) (AA (vv 2) (AA (vv 0) (AA (AF An (vv 3) AB) AC))))))) AC)))))))) Al) (@AE _ _ _ _ _ (@AI _ _ 5 _ _ _ _ sc_z15.nd rfl (by right) (AF (AK (K:=K)) AB (AW G_z22 hr_z22 rfl T.z22.m T.z22.F.kp T.z22.b .nil AU (AA (vv 0) (AA (AF An (vv 2) AB) AC)))) (by rfl) (by symm)) (@AE _ _ _ _ _ (@AI _ _ 8 _ _ _ _ sc_z15.nd rfl (by right) (AW G_z15 hr_z15 rfl T.z15.m T.z15.F.kp T.z15.b .nil AU (AA (vv 0) (AA (vv 1) (AA (vv 5) (AA (AF An (vv 3) AB) AC))))) (by rfl) (by symm)) (@AE _ _ _ _ _ (@AI _ _ 9 _ _ _ _ sc_z15.nd rfl (by right) (AW G_z15 hr_z15 rfl T.z15.m T.z15.F.kp T.z15.b .nil AU (AA (vv 0) (AA (vv 1) (AA (AF An (AF An (vv 2) AB) (vv 5)) (AA (AF An (vv 3) AB) AC))))) (by rfl) (by symm)) (@AJ _ _ _ (@AX _ _ _ _ (BJ (AA (Yt (K:=K) (@Aq _ _ _ _ (AA AH (AA AH (AA AH AC)))) (AF BW (vv 4) AB)) (AA (vv 8) (AA (vv 9) AC))))))))))))),?_⟩;refine⟨a,ns,TP,Ay (by decide) (by decide),fun way H1 w0 w1 T1 f1=>?_⟩;have F1:=By f1;dsimp only[AV];refine BO (fun σ' H'=>H'=H1/\σ'=[some (.ref t),some (.int m),some (.int room),some (.int deep),some (.int way),none,none,none,none,none]/\2<=room/\2<=deep/\2<=way) ?_ ?_ (by walk_at "sm")
  ·refine D7 (decide (room < 2) || (decide (deep < 2) || decide (way < 2))) (fun Q q=>?_) ?_
   ·show if decide (room < 2)=true then Q true H1 else if decide (deep < 2)=true then Q true H1 else Q (decide (way < 2)) H1
    revert q;cases decide (room < 2) <;> cases decide (deep < 2) <;> exact id
   refine AZ (fun _=>?_) (fun e=>?_)
   ·refine⟨by decide,?_⟩;refine AZ (fun _=>?_) (fun _=>?_)
    ·-- yes,no
     refine⟨smq rfl,fun p hp=>⟨a,ns,T1.upd hp,Ay (by decide) (by decide),fun c H2 c0 c1 T2 f2=>?_⟩⟩;have g2:H2 p=some (.lst [.str "yes",.str "no"]):=by rw[f2 p (T1.neT hp)];exact AD
     have FF:Ym t H H2:=(F1.trans (Ym.upd hp)).trans (By f2)
     have:c=0\/c=1:=by lia
     rcases this with e | e <;> subst e
     ·refine⟨_,_,.inl (.of g2),rfl,smq rfl,fun q hq=>?_⟩;exact k .yes _ _ trivial (by show((1:Nat):Int)<=deep;lia) (by show((1:Nat):Int)<=room;lia) (A4 AD (AO A1 Ab)) (T2.upd hq) (FF.trans (Ym.upd hq))
     ·refine⟨_,_,.inl (.of g2),rfl,smq rfl,fun q hq=>?_⟩;exact k .no _ _ trivial (by show((1:Nat):Int)<=deep;lia) (by show((1:Nat):Int)<=room;lia) (A4 AD (AO A1 Ab)) (T2.upd hq) (FF.trans (Ym.upd hq))
    ·-- at
     refine⟨a,ns,T1,Ay (by lia) (Z6 (show(m:Int)<=6 by lia) (by decide)),fun c H2 c0 c1 T2 f2=>⟨smq rfl,fun q hq=>?_⟩⟩;obtain⟨c,rfl⟩:=Int.eq_ofNat_of_zero_le c0;exact k (.at_ c) _ _ (by show c < m;lia) (by show((1:Nat):Int)<=deep;lia) (by show((1:Nat):Int)<=room;lia) (A4 AD (AO A1 (AO Bf Ab))) (T2.upd hq) ((F1.trans (By f2)).trans (Ym.upd hq))
   ·simp only[Z0,decide_eq_true_eq,not_or]at e;exact⟨rfl,rfl,by lia,by lia,by lia⟩
  rintro σ' H' ⟨rfl,rfl,hroom,hdeep,hway⟩
  -- not
  refine BO (fun σ' H2=>H2=H'/\σ'=[some (.ref t),some (.int m),some (.int room),some (.int deep),some (.int way),none,none,none,none,none]/\3<=room) ?_ ?_ (by walk_at "sm" <;> exact GD)
  ·refine D7 (decide (way < 4) || decide (room < 3)) (fun Q q=>?_) ?_
   ·show if decide (way < 4)=true then Q true H' else Q (decide (room < 3)) H'
    revert q;cases decide (way < 4) <;> exact id
   refine AZ (fun _=>?_) (fun e=>?_)
   ·refine⟨a,ns,m,T1,rfl,m1,m2,by lia,by lia,by lia,by lia,fun f v H2 k1 k2 k3 k4 k5 k6=>⟨smq rfl,fun q hq=>?_⟩⟩;exact k (.not_ f) _ _ k1 (by show((f.deep+1:Nat):Int)<=deep;lia) (by show((f.many+1:Nat):Int)<=room;lia) (A4 AD (AO A1 (AO (Yi.same (Yf.upd hq) _ _ k4) Ab))) (k5.upd hq) ((F1.trans k6).trans (Ym.upd hq))
   ·simp only[Z0,decide_eq_true_eq,not_or]at e;exact⟨rfl,rfl,by lia⟩
  rintro σ' H2 ⟨rfl,rfl,hroom3⟩
  -- most
  refine BO (fun σ' H3=>H3=H2/\σ'=[some (.ref t),some (.int m),some (.int room),some (.int deep),some (.int way),none,none,none,none,none]) ?_ ?_ (by walk_at "sm" <;> exact GD)
  ·refine D7 (decide (8 < way) && decide (3 < room)) (fun Q q=>?_) ?_
   ·show if decide (8 < way)=true then Q (decide (3 < room)) H2 else Q false H2
    revert q;cases decide (8 < way) <;> exact id
   refine AZ (fun e=>?_) (fun _=>⟨rfl,rfl⟩);simp only[ZZ,decide_eq_true_eq]at e;refine⟨a,ns,T1,Ay (by lia) (Z6 (show room - 3<=24 by lia) (by decide)),fun x H3 x0 x1 T3 f3=>?_⟩;refine⟨a,ns,T3,Ay (by lia) (Z6 (show room - 2 - (1+x)<=24 by lia) (by decide)),fun y H4 y0 y1 T4 f4=>?_⟩;refine⟨smq rfl,fun p hp=>?_⟩;refine⟨smq rfl,fun q0 hq0=>?_⟩;have T5:=(T4.upd (o:=.lst [.int (1+x),.int (1+y),.int (room - 1 - (1+x) - (1+y))]) hp).upd (o:=.tup [.str "most"]) hq0;have pq:p≠q0:=fun e=>by rw[e,AD]at hq0;cases hq0
   have gp:upd (upd H4 p (.lst [.int (1+x),.int (1+y),.int (room - 1 - (1+x) - (1+y))])) q0 (.tup [.str "most"]) p=some (.lst [.int (1+x),.int (1+y),.int (room - 1 - (1+x) - (1+y))]):=by rw[AG pq];exact AD
   have gq:upd (upd H4 p (.lst [.int (1+x),.int (1+y),.int (room - 1 - (1+x) - (1+y))])) q0 (.tup [.str "most"]) q0=some (.tup [.str "most"]):=AD;have F5:Ym t H (upd (upd H4 p (.lst [.int (1+x),.int (1+y),.int (room - 1 - (1+x) - (1+y))])) q0 (.tup [.str "most"])):=(((F1.trans (By f3)).trans (By f4)).trans (Ym.upd hp)).trans (Ym.upd hq0);have npt:p≠t:=T4.neT hp;have nqt:q0≠t:=(T4.upd hp).neT hq0;generalize upd (upd H4 p (.lst [.int (1+x),.int (1+y),.int (room - 1 - (1+x) - (1+y))])) q0 (.tup [.str "most"])=H5 at T5 gp gq F5
   refine .inl ⟨⟨_,.of gp⟩,Ih (xs:=[.int (1+x),.int (1+y),.int (room - 1 - (1+x) - (1+y))]) (fun i ys H'=>Tape K H' t a ns/\Ym t H5 H'/\∃fs:List Fm,fs.length=i/\Ye K H' (fs.map Fm.dv) ys/\(∀f∈fs,f.ok m/\(f.deep:Int)<=deep - 1) /\
    ((fs.map Fm.many).sum:Int)<=(([1+x,1+y,room - 1 - (1+x) - (1+y)]:List Int).take i).sum)
    ⟨T5,Ym.refl,[],rfl,Ab,fun _ h=>absurd h (by simp),by simp⟩ (fun i ys H' _ ⟨_,f,_⟩=>.of (f p _ npt gp)) (fun i ys H' hi ⟨_,_,fs,e1,r,_⟩=>by
     have:=r.length
     rw[ZF]at this;have hi3:i < 3:=hi;exact Bp (by lia)) ?_ ?_⟩
   ·rintro i v ys H6 hv ⟨T6,F6,fs,hl,hr6,hall,hsum⟩
    have hv':∃o:Int,v=.int o/\1<=o/\o<=24/\(([1+x,1+y,room - 1 - (1+x) - (1+y)]:List Int).take (i+1)).sum=(([1+x,1+y,room - 1 - (1+x) - (1+y)]:List Int).take i).sum+o:=by
     match i,hv with
     | 0,hv=>cases hv;exact⟨_,rfl,by lia,by lia,by simp⟩
     | 1,hv=>cases hv;exact⟨_,rfl,by lia,by lia,by simp⟩
     | 2,hv=>cases hv;exact⟨_,rfl,by lia,by lia,by simp;lia⟩
    obtain⟨o,rfl,o1,o2,es⟩:=hv';refine⟨a,ns,m,T6,rfl,m1,m2,o1,o2,by lia,by lia,fun f v H7 k1 k2 k3 k4 k5 k6=>?_⟩;refine⟨k5,F6.trans k6,fs++[f],by rw[ZQ,hl];rfl,?_,fun g hg=>?_,?_⟩
    ·rw[Zm]
     have tt:Aa (fs.map Fm.dv)=true:=by
      clear hl hr6 hall hsum
      induction fs with
      | nil=>rfl
      | cons g gs ih=>rw[ZY];unfold Aa;rw[HF,ih];rfl
     exact Ye.append (Ye.frm k6 T6.lst _ _ tt hr6) (AO k4 Ab)
    ·rcases Zf.mp hg with h | h
     ·exact hall g h
     ·rw[ZH.mp h];exact⟨k1,k2⟩
    ·rw[es,Zm,List.sum_append];simp only[ZY,List.map_nil,List.sum_cons,List.sum_nil];lia
   rintro ys H6 ⟨T6,F6,fs,hl,hr6,hall,hsum⟩ l hl6
   match fs,hl with
   | [f1,f2,f3],_ =>
   have hys:ys.length=3:=by have:=hr6.length;rw[<- this];rfl
   refine⟨ys,.inl ⟨.of AD,fun l2 hl2=>?_⟩⟩;have S1:=Yf.upd (o:=.lst ys) hl6;have S2:=Yf.upd (o:=.tup ys) hl2;have gq':upd (upd H6 l (.lst ys)) l2 (.tup ys) q0=some (.tup [.str "most"]):=S2 _ _ (S1 _ _ (F6 q0 _ nqt gq));refine .inr ⟨q0,l2,[.str "most"],ys,rfl,rfl,.of gq',.of AD,by simp,Ah (by rw[hys];decide),(fun e=>by rw[e]at hys;cases hys),fun _ q hq=>?_⟩;have S3:=Yf.upd (o:=.tup ([V.str "most"]++ys)) hq;refine k (.most f1 f2 f3) _ _ ⟨(hall f1 (by simp)).1,(hall f2 (by simp)).1,(hall f3 (by simp)).1⟩ ?_ ?_ (A4 AD (AO A1 (Ye.same (S1.trans (S2.trans S3)) _ _ hr6))) (((T6.upd hl6).upd hl2).upd hq) (((F5.trans F6).trans (S1.frm.trans S2.frm)).trans S3.frm)
   ·have h1:=(hall f1 (by simp)).2;have h2:=(hall f2 (by simp)).2;have h3:=(hall f3 (by simp)).2
    show((max (max f1.deep f2.deep) f3.deep+1:Nat):Int)<=deep
    lia
   ·simp only[ZY,List.map_nil,List.sum_cons,List.sum_nil]at hsum;have hs3:(([1+x,1+y,room - 1 - (1+x) - (1+y)]:List Int).take 3).sum=room - 1:=by simp;lia
    have hsum':((f1.many+(f2.many+(f3.many+0)):Nat):Int)<=room - 1:=by
     rw[<- hs3];exact hsum
    show((f1.many+f2.many+f3.many+1:Nat):Int)<=room
    lia
  rintro σ' H3 ⟨rfl,rfl⟩
  -- two parts
  refine⟨a,ns,T1,Ay (by lia) (Z6 (show room - 2<=24 by lia) (by decide)),fun x H4 x0 x1 T4 f4=>?_⟩;refine⟨a,ns,m,T4,rfl,m1,m2,by lia,by lia,by lia,by lia,fun f1' v1 H5 a1 a2 a3 a4 a5 a6=>?_⟩;refine⟨a,ns,m,a5,rfl,m1,m2,by lia,by lia,by lia,by lia,fun f2' v2 H6 b1 b2 b3 b4 b5 b6=>?_⟩;refine⟨smq rfl,fun p hp=>⟨by decide,?_⟩⟩;have a4':=Yi.frm b6 a5.lst _ _ (HF f1') a4;have S1:=Yf.upd (o:=.lst [.str "both",.str "either",.str "odd"]) hp;have FF:=((F1.trans (By f4)).trans a6).trans b6;have dd:((max f1'.deep f2'.deep+1:Nat):Int)<=deep:=by lia
  have mm:((f1'.many+f2'.many+1:Nat):Int)<=room:=by lia
  have:way % 3=0\/way % 3=1\/way % 3=2:=by lia
  rcases this with e | e | e
  ·refine⟨_,_,.inl (.of AD),by rw[e];rfl,smq rfl,fun q hq=>?_⟩;have S2:=Yf.upd (o:=.tup [.str "both",v1,v2]) hq;exact k (.both f1' f2') _ _ ⟨a1,b1⟩ dd mm (A4 AD (AO A1 (AO (Yi.same (S1.trans S2) _ _ a4') (AO (Yi.same (S1.trans S2) _ _ b4) Ab)))) ((b5.upd hp).upd hq) (FF.trans (S1.frm.trans S2.frm))
  ·refine⟨_,_,.inl (.of AD),by rw[e];rfl,smq rfl,fun q hq=>?_⟩;have S2:=Yf.upd (o:=.tup [.str "either",v1,v2]) hq;exact k (.either f1' f2') _ _ ⟨a1,b1⟩ dd mm (A4 AD (AO A1 (AO (Yi.same (S1.trans S2) _ _ a4') (AO (Yi.same (S1.trans S2) _ _ b4) Ab)))) ((b5.upd hp).upd hq) (FF.trans (S1.frm.trans S2.frm))
  ·refine⟨_,_,.inl (.of AD),by rw[e];rfl,smq rfl,fun q hq=>?_⟩;have S2:=Yf.upd (o:=.tup [.str "odd",v1,v2]) hq;exact k (.odd f1' f2') _ _ ⟨a1,b1⟩ dd mm (A4 AD (AO A1 (AO (Yi.same (S1.trans S2) _ _ a4') (AO (Yi.same (S1.trans S2) _ _ b4) Ab)))) ((b5.upd hp).upd hq) (FF.trans (S1.frm.trans S2.frm))
theorem MF:Xa P w base T.z15 13 (spF K 11):=K9 T 11
noncomputable def atS:Str:=Str.ofString "at"
noncomputable def AS(s:Str):Option Nat :=
 if s=Str.ofString "yes" then some 0 else if s=Str.ofString "no" then some 0 else if s=Str.ofString "at" then some 0 else if s=Str.ofString "not" then some 1 else
 if s=Str.ofString "both" then some 2 else if s=Str.ofString "either" then some 2 else if s=Str.ofString "odd" then some 2 else if s=Str.ofString "most" then some 3 else none
noncomputable def BG:List (Key × V):=[(Sum.inr "yes",.int 0),(Sum.inr "no",.int 0),(Sum.inr "at",.int 0),(Sum.inr "not",.int 1),(Sum.inr "both",.int 2),(Sum.inr "either",.int 2),(Sum.inr "odd",.int 2),(Sum.inr "most",.int 3)]
theorem Cd(s:Str):Ap BG (Sum.inr s)=(AS s).map fun k=>V.int (k:Nat):=by
 have go:∀(x:Str) (v:V) (r:List (Key × V)),Ap ((Sum.inr x,v)::r) (Sum.inr s:Key)=if s=x then some v else Ap r (Sum.inr s):=fun x v r=>by
  by_cases e:s=x
  ·rw[if_pos e,DT (show(Sum.inr x:Key)=Sum.inr s by rw[e])]
  ·rw[if_neg e,Dr (fun z=>e (by cases z;rfl))]
 unfold BG AS;simp only[go,Li]
 repeat' split
 all_goals first | rfl | contradiction
theorem B4(s:Str):(false ^^ (s == atS))=decide (s=atS):=by
 rw[Ze,Bool.eq_iff_iff];simp
noncomputable def dgS(i:Nat):Str:=toString ((i:Nat):Int)
noncomputable def Fm.ws:Fm->List Str
 | .at_ i=>[atS,dgS i]
 | .yes=>[Fm.yes.word]
 | .no=>[Fm.no.word]
 | .not_ a=>(Fm.not_ a).word::a.ws
 | .both a b=>(Fm.both a b).word::(a.ws++b.ws)
 | .either a b=>(Fm.either a b).word::(a.ws++b.ws)
 | .odd a b=>(Fm.odd a b).word::(a.ws++b.ws)
 | .most a b c=>(Fm.most a b c).word::(a.ws++(b.ws++c.ws))
theorem Gb(h:¬f.word=atS):f.ws=f.word::f.parts.flatMap Fm.ws:=by
 cases f <;> first | exact absurd rfl h | simp[Fm.ws,Fm.parts]
theorem Jm(h:¬f.word=atS):f.tail=f.parts.map Fm.dv:=by
 cases f <;> first | rfl | exact absurd rfl h
theorem Ho(h:f.word=atS):∃i,f=.at_ i:=by
 cases f <;> first | exact⟨_,rfl⟩ | (exfalso;revert h;simp only[Fm.word];decide)
theorem Ed(f:Fm):f.ws.length<=2 * f.many:=by
 induction f <;> simp only[Fm.ws,Fm.many,ZV,ZQ,List.length_nil] <;> lia
theorem Hv{g:Fm}(h:g∈f.parts):g.many+1<=f.many:=by
 cases f <;> simp only[Fm.parts,ZG,List.mem_nil_iff,or_false]at h <;> simp only[Fm.many] <;> rcases h with h | h | h <;> (try subst h) <;> lia
noncomputable def Bd(x:Str):Bool:=decide (x.length<=6) && x.cps.toList.all fun c=>decide (c≠32)
theorem Km(h:i < 6):Bd (dgS i)=true:=by
 have:i=0\/i=1\/i=2\/i=3\/i=4\/i=5:=by lia
 rcases this with rfl | rfl | rfl | rfl | rfl | rfl <;> decide
theorem BF(hn:n<=6):∀{f:Fm},f.ok n->∀x∈f.ws,Bd x=true
 | .at_ i,h,x,hx=>by
  have h:i < n:=h;simp only[Fm.ws,ZG,List.not_mem_nil,or_false]at hx
  rcases hx with rfl | rfl
  ·decide
  ·exact Km (by lia)
 | .yes,_,x,hx=>by
  simp only[Fm.ws,ZG,List.not_mem_nil,or_false]at hx;subst hx;decide
 | .no,_,x,hx=>by
  simp only[Fm.ws,ZG,List.not_mem_nil,or_false]at hx;subst hx;decide
 | .not_ a,h,x,hx=>by
  simp only[Fm.ws,ZG]at hx
  rcases hx with rfl | hx
  ·show Bd (Str.ofString "not")=true;decide
  ·exact BF hn (f:=a) h x hx
 | .both a b,h,x,hx=>by
  simp only[Fm.ws,ZG,Zf]at hx
  rcases hx with rfl | hx | hx
  ·show Bd (Str.ofString "both")=true;decide
  ·exact BF hn (f:=a) h.1 x hx
  ·exact BF hn (f:=b) h.2 x hx
 | .either a b,h,x,hx=>by
  simp only[Fm.ws,ZG,Zf]at hx
  rcases hx with rfl | hx | hx
  ·show Bd (Str.ofString "either")=true;decide
  ·exact BF hn (f:=a) h.1 x hx
  ·exact BF hn (f:=b) h.2 x hx
 | .odd a b,h,x,hx=>by
  simp only[Fm.ws,ZG,Zf]at hx
  rcases hx with rfl | hx | hx
  ·show Bd (Str.ofString "odd")=true;decide
  ·exact BF hn (f:=a) h.1 x hx
  ·exact BF hn (f:=b) h.2 x hx
 | .most a b c,h,x,hx=>by
  simp only[Fm.ws,ZG,Zf]at hx
  rcases hx with rfl | hx | hx | hx
  ·show Bd (Str.ofString "most")=true;decide
  ·exact BF hn (f:=a) h.1 x hx
  ·exact BF hn (f:=b) h.2.1 x hx
  ·exact BF hn (f:=c) h.2.2 x hx
theorem Ms{xs:List V}(h:1<=xs.length):Ac xs (some 1) none=xs.drop 1:=by
 unfold Ac
 have e2:HT.sIx xs.length 0 (some 1)=1:=by
  have:=HT.sIx_nat xs.length 0 1
  rw[show min 1 xs.length=1 by lia]at this;exact this
 rw[e2,HT.sIx_none,ZBH (by rw[ZBB];lia)]
noncomputable def spW(K:W.Frag)(D:Nat):Sp:=fun vs H Q _=>match vs with
 | [v]=>∃(f:Fm) (n:Nat),Yi K H f.dv v/\f.ok n/\n<=6/\f.deep<=D/\f.many<=24/\∀p H',Yf H H'->H' p=some (.lst (f.ws.map V.str))->H p=none->Q (.ref p) H'
 | _=>False
theorem Kp{D:Nat}:CM (spW K D):=fun vs H Q Q' E h q=>by
 unfold spW at *;walk_at "q"
theorem Lz(j:Nat):((f.parts.take j).flatMap Fm.ws).length<=2 * f.many:=by
 by_cases h:f.word=atS
 ·obtain⟨i,rfl⟩:=Ho h;simp[Fm.parts]
 have h1:=Ed f;rw[Gb h,ZV]at h1
 have h2:f.parts.flatMap Fm.ws=(f.parts.take j).flatMap Fm.ws++(f.parts.drop j).flatMap Fm.ws:=by
  rw[<- List.flatMap_append,List.take_append_drop]
 rw[h2,ZQ]at h1;lia
noncomputable def Bb(f:Fm):Str:=Str.join ⟨#[32]⟩ f.ws
theorem Kc(h:Bd x=true):x.length<=6/\32∉x.cps.toList:=by
 unfold Bd at h;rw[ZZ,decide_eq_true_iff,ZBE]at h;exact⟨h.1,fun z=>by simpa using h.2 32 z⟩
theorem Ma(hn:n<=6)(hok:f.ok n)(hm:f.many<=24):JoinOk ⟨#[32]⟩ f.ws=true:=by
 have h1:=Ed f;have h2:=StrLaws.joinFits (sep:=⟨#[32]⟩) (texts:=f.ws) (B:=6) (fun y hy=>(Kc (BF hn hok y hy)).1) (by show f.ws.length * 6+f.ws.length * 1<=16777216;lia);unfold JoinOk;rw[h2];rfl
theorem Lj(D:Nat)(G_z18:Xa P w base T.z18 (D+2) (spW K D)):Xa P w base T.z18 (D+3) (spW K (D+1)):=by
 refine T.z18.F.ok sc_z18 (fun vs H Q E h=>by unfold spW at h;walk_at "e") ?_;walk_at "f";have hr_z18:=hr;have mo1:CM (spW K D):=Kp
 match vs,h with
 | [v],h =>
 obtain⟨f,n,hv,hok,hn,hd,hm,q⟩:=h;obtain⟨p,xs,rfl,hp,hx⟩:=Hu hv;refine⟨_,(@AE _ _ _ _ _ (@Ag _ _ _ _ _ _ _ _ (AQ (kEq (K:=K) hu) (Yt (K:=K) (vv 0) AB) AH) (@AJ _ _ _ (@AX _ _ _ _ (@Aq _ _ _ _ (AA AH (AA (Yt (K:=K) AH (Yt (K:=K) (vv 0) AB)) AC))))) Al) (@AE _ _ _ _ _ (@AI _ _ 1 _ _ _ _ sc_z18.nd rfl (by right) (@Aq _ _ _ _ (AA (Yt (K:=K) (vv 0) AB) AC)) (by rfl) (by symm)) (@AE _ _ _ _ _ (@CW _ _ _ _ _ _ _ _ PassesOwn.never rfl (EK (K:=K) (Mh (K:=K) (vv 0) (BB AB) BA)) (Bi (i:=2) sc_z18.nd rfl (by right)) (@AJ _ _ _ (@AI _ _ 1 _ _ _ _ sc_z18.nd rfl (by right) (AF (AK (K:=K)) (vv 1) (AW G_z18 hr_z18 rfl T.z18.m T.z18.F.kp T.z18.b .nil AU (AA (vv 2) AC))) (by rfl) (by symm))) (by intro _;rfl)) (@AJ _ _ _ (@AX _ _ _ _ (vv 1)))))),?_⟩;refine⟨_,_,.inr hp,BX (n:=0) rfl rfl,?_⟩;refine AZ (fun e=>?_) (fun e=>?_)
 ·obtain⟨i,rfl⟩:=Ho (Za ((B4 f.word).symm.trans e));have hi:i < n:=hok;have hx:Ye K H [.int (i:Nat)] xs:=hx;unfold Ye at hx;obtain⟨x,r,rfl,rx,hx⟩:=hx;unfold Ye at hx;subst hx;unfold Yi at rx;subst rx
  obtain⟨c,hc,ec⟩:∃c,(Str.ofString "012345").cps.toList[i]? = some c/\(⟨#[c]⟩:Str)=dgS i:=by
   have h6:i=0\/i=1\/i=2\/i=3\/i=4\/i=5:=by lia
   rcases h6 with rfl | rfl | rfl | rfl | rfl | rfl
   ·exact⟨48,by decide,by decide⟩
   ·exact⟨49,by decide,by decide⟩
   ·exact⟨50,by decide,by decide⟩
   ·exact⟨51,by decide,by decide⟩
   ·exact⟨52,by decide,by decide⟩
   ·exact⟨53,by decide,by decide⟩
  have hat:atI (Str.ofString "012345").cps.toList ((i:Nat):Int)=some c:=by
   have Yo:=(Zg.mp hc).1;unfold atI ixN;rw[if_pos (Int.natCast_nonneg i),if_pos (by lia)];simpa using hc
  refine⟨_,_,.inr hp,BX (n:=1) rfl rfl,c,by decide,hat,smq rfl,fun p1 n1=>?_⟩;rw[ec];exact q _ _ (Yf.upd n1) AD n1
 have hw:¬f.word=atS:=fun z=>e ((B4 f.word).trans (Zh z))
 dsimp only[BD];refine⟨_,_,.inr hp,BX (n:=0) rfl rfl,smq rfl,fun l nl=>?_⟩;dsimp only[AV];have S1:=Yf.upd (o:=.lst [.str f.word]) nl;have g1:upd H l (.lst [.str f.word]) l=some (.lst [.str f.word]):=AD;generalize upd H l (.lst [.str f.word])=H1 at *;refine⟨1,rfl,_,S1.sqT hp,fun p1 H2 s2 hp2=>?_⟩;rw[Ms (by simp)]at hp2;have hp2:Yq K H2 p1 xs:=hp2;rw[Jm hw]at hx;refine .inr ⟨⟨_,hp2⟩,?_⟩;have S2:=S1.trans s2;have hxl:=hx.length;rw[ZF]at hxl;refine LO (xs:=xs) (fun j σ H'=>∃(l:Addr) (z2:Option V),σ=[some (.ref p),some (.ref l),z2]/\H l=none/\Yf H H'/\Yq K H' p1 xs/\H' l=some (.lst ((f.word::(f.parts.take j).flatMap Fm.ws).map V.str))) ⟨l,none,rfl,nl,S2,hp2,s2 _ _ g1⟩ (fun j σ H' _ ⟨_,_,_,_,_,h,_⟩=>h) ?_ ?_
 ·rintro j x σ H3 hxj ⟨l,z2,rfl,nl,S3,hp3,g3⟩
  have hj:j < f.parts.length:=by
   have:=(Zg.mp hxj).1
   lia
  obtain⟨x',e1,rx⟩:=hx.get (show(f.parts.map Fm.dv)[j]? = some (f.parts[j]).dv by rw[Zj,ZN hj];rfl);rw[hxj]at e1;cases e1;have hmem:f.parts[j]∈f.parts:=List.getElem_mem hj;have hdp:=M5 hmem;have hmy:=Hv hmem;refine⟨f.parts[j],n,Yi.same S3 _ _ rx,NT hmem hok,hn,by lia,by lia,fun p4 H4 s4 g4 n4=>?_⟩;have l1:=Lz (f:=f) j;have l2:=Ed f.parts[j];refine .inl ⟨l,p4,_,_,rfl,rfl,s4 _ _ g3,g4,Ah (by rw[ZF,ZF,ZV];lia),fun p5 n5=>?_⟩;have S5:=Yf.upd (o:=.lst ((f.word::(f.parts.take j).flatMap Fm.ws).map V.str++f.parts[j].ws.map V.str)) n5;refine⟨p5,_,rfl,(S3.trans s4).free n5,(S3.trans s4).trans S5,S5.sqT (s4.sqT hp3),?_⟩;rw[AD,List.take_add_one,ZN hj,List.flatMap_append,<- Zm];simp
 ·rintro σ H3 ⟨l,z2,rfl,nl,S3,hp3,g3⟩;rw[<- hxl,List.take_length,<- Gb hw]at g3;exact q _ _ S3 g3 nl
theorem Gf:∀D:Nat,Xa P w base T.z18 (D+2) (spW K D)
 | 0=>by
  have no:∀vs H Q E,¬spW K 0 vs H Q E:=fun vs H Q E h=>by
   unfold spW at h;split at h
   ·obtain⟨f,_,_,_,_,z,_⟩:=h;have:=MG f;lia
   ·exact h
  exact⟨fun vs H Q E h=>(no _ _ _ _ h).elim,fun A outer s H args us vs Q E _ _ _ _ h=>(no _ _ _ _ h).elim⟩
 | c+1=>Lj T c (Gf c)
theorem Lb:Xa P w base T.z18 14 (spW K 12):=Gf T 12
noncomputable def D9:Sp:=fun vs H Q _=>match vs with
 | [.int m,.int d]=>Q (.bl (decide (20 < m) || decide (8 < d))) H
 | _=>False
theorem Lx:Xa P w base T.z14 1 D9:=by
 refine T.z14.F.ok JO (fun vs H Q E h=>by unfold D9 at h;walk_at "e") ?_;walk_at "f";unfold D9 at h;walk_at "g"
 rename_i m d;have q:=h;have q:Q (.bl (decide (20 < m) || decide (8 < d))) H:=q;refine⟨_,(@AJ _ _ _ (@AX _ _ _ _ (Ng (GJ Bk (vv 0) (BN (v:=.int 20) rfl T.YN ⟨_,rfl⟩)) (JI (GJ Bk (vv 1) (BN (v:=.int 8) rfl T.YU ⟨_,rfl⟩)))))),?_⟩;refine AZ (fun e=>?_) (fun e=>?_)
 ·have e':(20:Int) < m:=Za e;rw[Zh e',Bool.true_or]at q
  first | exact q | (rw[<- Zh e']at q;exact q)
 ·have e':¬(20:Int) < m:=fun z=>e (Zh z)
  rw[Zn e',Bool.false_or]at q;exact q
mutual
theorem JU{H':Hp}{t:Addr}(s:Ym t H H')(ht:∃C dx fs,H t=some (.ins C dx fs)):∀(d:Dv) (v:V),A5 d=true->Yi K H d v->Yi K H' d v
 | .non,v,_,h=>by unfold Yi at *;exact h
 | .bl b,v,_,h=>by unfold Yi at *;exact h
 | .int i,v,_,h=>by unfold Yi at *;exact h
 | .str x,v,_,h=>by unfold Yi at *;exact h
 | .tup ds,v,hd,h=>by
  unfold A5 at hd;unfold Yi at *;obtain⟨a,xs,e,h1,h2⟩:=h;refine⟨a,xs,e,?_,Ea s ht ds xs hd h2⟩;obtain⟨C,dx,fs,hz⟩:=ht
  rcases h1 with (h1 | ⟨o,h1⟩) | h1
  ·exact .inl (.inl (s a _ (fun q=>by rw[q,hz]at h1;cases h1) h1))
  ·exact .inl (.inr ⟨o,s a _ (fun q=>by rw[q,hz]at h1;cases h1) h1⟩)
  ·exact .inr h1
 | .lst ds,v,hd,h=>by unfold A5 at hd;cases hd
theorem Ea{H':Hp}{t:Addr}(s:Ym t H H')(ht:∃C dx fs,H t=some (.ins C dx fs)):∀(ds:List Dv) (xs:List V),Aa ds=true->Ye K H ds xs->Ye K H' ds xs
 | [],xs,_,h=>by unfold Ye at *;exact h
 | d::ds,xs,hd,h=>by
  unfold Aa at hd;rw[ZZ]at hd;unfold Ye at *;obtain⟨x,r,e,h1,h2⟩:=h;exact⟨x,r,e,JU s ht d x hd.1 h1,Ea s ht ds r hd.2 h2⟩
end
noncomputable def rf(a b c d:V):List (Str × V):=[("figures",a),("words",b),("spot",c),("begun",d)]
theorem rl1(a b c d:V):(rf a b c d).lookup ("figures" : Str)=some a:=by rfl
theorem rl2(a b c d:V):(rf a b c d).lookup ("words" : Str)=some b:=by rfl
theorem rl3(a b c d:V):(rf a b c d).lookup ("spot" : Str)=some c:=by rfl
theorem rl4(a b c d:V):(rf a b c d).lookup ("begun" : Str)=some d:=by rfl
theorem rn1(a b c d:V):(rf a b c d).lookup ("next_word" : Str)=none:=by rfl
theorem rn2(a b c d:V):(rf a b c d).lookup ("take_formula" : Str)=none:=by rfl
theorem rn3(a b c d:V):(rf a b c d).lookup ("take_switch" : Str)=none:=by rfl
theorem rn4(a b c d:V):(rf a b c d).lookup ("take_end" : Str)=none:=by rfl
theorem rp1(a:V):AR "figures" a []=([("figures",a)]:List (Str × V)):=by rfl
theorem rp2(a b:V):AR "words" b [("figures",a)]=([("figures",a),("words",b)]:List (Str × V)):=by rfl
theorem rp3(a b c:V):AR "spot" c [("figures",a),("words",b)]=([("figures",a),("words",b),("spot",c)]:List (Str × V)):=by rfl
theorem rp4(a b c d:V):AR "begun" d [("figures",a),("words",b),("spot",c)]=rf a b c d:=by rfl
theorem rs3(a b c d e:V):AR "spot" e (rf a b c d)=rf a b e d:=by rfl
theorem rs4(a b c d e:V):AR "begun" e (rf a b c d)=rf a b c e:=by rfl
noncomputable def Au(n:Nat):List V:=(List.range n).map fun i=>V.str (dgS i)
structure RdrAt(C:Addr)(H:Hp)(r:Addr)(n:Nat)(ws:List Str)(s g:Nat)(dx lf lw:Addr):Prop where
 o:H r=some (.ins C dx (rf (.ref lf) (.ref lw) (.int s) (.int g)))
 f:H lf=some (.lst (Au n))
 w:H lw=some (.lst (ws.map V.str))
section
variable {C r dx lf lw:Addr}{H H':Hp}{n s g s' g':Nat}{ws:List Str}
theorem RdrAt.same(h:RdrAt C H r n ws s g dx lf lw)(z:Yf H H'):RdrAt C H' r n ws s g dx lf lw:=⟨z _ _ h.o,z _ _ h.f,z _ _ h.w⟩
theorem RdrAt.put(h:RdrAt C H r n ws s g dx lf lw)(s' g':Nat):RdrAt C (upd H r (.ins C dx (rf (.ref lf) (.ref lw) (.int s') (.int g')))) r n ws s' g' dx lf lw :=
 ⟨AD,by rw[AG (fun e=>by have:=h.f;rw[e,h.o]at this;cases this)];exact h.f,by rw[AG (fun e=>by have:=h.w;rw[e,h.o]at this;cases this)];exact h.w⟩
end
theorem DL(h:i < n):(Au n)[i]? = some (.str (dgS i)):=by
 unfold Au;rw[Zj,List.getElem?_range h];rfl
theorem HB(n:Nat):(Au n).all A0=true:=by
 rw[ZBE];intro v hv;obtain⟨x,_,rfl⟩:=Z4.mp hv;rfl
theorem Mc{m:Nat}(h:m < i)(hi:i < 6):eqV (.str (dgS m)) (.str (dgS i))=false:=by
 have all:∀i:Fin 6,∀m:Fin 6,m < i->eqV (.str (dgS m)) (.str (dgS i))=false:=by decide
 exact all ⟨i,hi⟩ ⟨m,by lia⟩ h
theorem G5(x:Str):eqV (.str x) (.str x)=true:=by simp[eqV]
noncomputable def DO(C:Addr):Sp:=fun vs H Q _=>match vs with
 | [.ref r,.int z,.str text]=>∃(n:Nat) (dx:Addr),z=n/\n<=6/\H r=some (.ins C dx [])/\text.length<=1000/\∀H' lf lw,Ym r H H'->RdrAt C H' r n (Txt.split text ⟨#[32]⟩) 0 0 dx lf lw->Q .non H'
 | _=>False
theorem Ml:Xb P w mg base T.z12 1 (DO T.Yx):=by
 refine T.z12.F.ok Nm (fun vs H Q E h=>by unfold DO at h;walk_at "e") ?_;walk_at "f";unfold DO at h;walk_at "g"
 rename_i r z text;obtain⟨n,dx,e1,hn,hH,ht,q⟩:=h;subst e1;refine⟨_,(@AE _ _ _ _ _ (Bu T.Yy T.YS (vv 0) (@Gk _ _ _ _ _ _ _ ["switch"] 1 [] _ _ _ _ rfl (Dt rfl T.Y8 (AA (vv 1) AC)) (by kernel_rfl) rfl rfl (by kernel_rfl) (fun c=>Bi (i:=0) (show(["switch"]:List Str).Nodup by decide +kernel) rfl (by right)) (DX (by decide)) (fun c=>Dg) (fun c=>(CN IZ rfl T.Xh (by rfl) (AA (vv 0) AC))) (by intro _;rfl))) (@AE _ _ _ _ _ (Bu T.Yy T.YM (vv 0) (D5 (K:=K) (vv 2) (AA AH AC))) (@AE _ _ _ _ _ (Bu T.Yy T.Yz (vv 0) AB) (@AJ _ _ _ (Bu T.Yy T.YJ (vv 0) AB))))),?_⟩;refine⟨(n:Int),rfl,by lia,by lia,?_⟩
 refine KY (fun i ys H'=>H'=H/\ys=Au i) ⟨rfl,rfl⟩ (fun i ys H' hi ⟨_,e⟩=>by
  have:i < n:=by lia
  rw[e];unfold Au;rw[ZF,List.length_range];exact Bp (by lia)) ?_ ?_
 ·rintro i ys H' hi ⟨rfl,rfl⟩;have hi:i < n:=by lia
  have e0:(0:Int)+(i:Int)=(i:Int):=by lia
  have hlg:(((0:Int)+(i:Int))).natAbs.log2 < 1920:=by
   have:((0:Int)+(i:Int)).natAbs=i:=by lia
   rw[this];have h6:i=0\/i=1\/i=2\/i=3\/i=4\/i=5:=by lia
   rcases h6 with rfl | rfl | rfl | rfl | rfl | rfl <;> decide
  refine⟨hlg,rfl,?_⟩;unfold Au;rw[List.range_succ,Zm,e0];rfl
 ·rintro ys H' ⟨rfl,rfl⟩ lf nf;have en:((n:Nat):Int).toNat=n:=by lia
  rw[en];have S1:=Yf.upd (o:=.lst (Au n)) nf;have g1:upd H' lf (.lst (Au n)) lf=some (.lst (Au n)):=AD;have h1:=S1 _ _ hH;generalize upd H' lf (.lst (Au n))=H1 at *;refine⟨dx,_,h1,(show 0 < 1000 by decide),?_⟩;have F2:Ym r H1 (upd H1 r (.ins T.Yx dx (AR "figures" (.ref lf) []))):=Ym.updT;have nfr:lf≠r:=fun e=>by rw[e,h1]at g1;cases g1
  have h2:upd H1 r (.ins T.Yx dx (AR "figures" (.ref lf) [])) r=some (.ins T.Yx dx [("figures",.ref lf)]):=by rw[rp1];exact AD
  have g2:=F2 _ _ nfr g1;generalize upd H1 r (.ins T.Yx dx (AR "figures" (.ref lf) []))=H2 at *;refine⟨rfl,rfl,ht,fun lw nw=>?_⟩;have S3:=Yf.upd (o:=.lst ((Txt.split text (Str.ofString " ")).map V.str)) nw;have w3:upd H2 lw (.lst ((Txt.split text (Str.ofString " ")).map V.str)) lw=some (.lst ((Txt.split text ⟨#[32]⟩).map V.str)):=AD;have h3:=S3 _ _ h2;have g3:=S3 _ _ g2;generalize upd H2 lw (.lst ((Txt.split text (Str.ofString " ")).map V.str))=H3 at *;have nwr:lw≠r:=fun e=>by rw[e,h3]at w3;cases w3
  refine⟨dx,_,h3,(show 1 < 1000 by decide),?_⟩;have F4:Ym r H3 (upd H3 r (.ins T.Yx dx (AR "words" (.ref lw) [("figures",.ref lf)]))):=Ym.updT;have h4:upd H3 r (.ins T.Yx dx (AR "words" (.ref lw) [("figures",.ref lf)])) r=some (.ins T.Yx dx [("figures",.ref lf),("words",.ref lw)]):=by rw[rp2];exact AD
  generalize upd H3 r (.ins T.Yx dx (AR "words" (.ref lw) [("figures",.ref lf)]))=H4 at *;refine⟨dx,_,h4,(show 2 < 1000 by decide),?_⟩;have F5:Ym r H4 (upd H4 r (.ins T.Yx dx (AR "spot" (.int 0) [("figures",.ref lf),("words",.ref lw)]))):=Ym.updT;have h5:upd H4 r (.ins T.Yx dx (AR "spot" (.int 0) [("figures",.ref lf),("words",.ref lw)])) r=some (.ins T.Yx dx [("figures",.ref lf),("words",.ref lw),("spot",.int 0)]):=by rw[rp3];exact AD
  generalize upd H4 r (.ins T.Yx dx (AR "spot" (.int 0) [("figures",.ref lf),("words",.ref lw)]))=H5 at *;refine⟨dx,_,h5,(show 3 < 1000 by decide),?_⟩;rw[rp4];have F6:Ym r H5 (upd H5 r (.ins T.Yx dx (rf (.ref lf) (.ref lw) (.int 0) (.int 0)))):=Ym.updT;have F:=(((S1.frm.trans F2).trans S3.frm).trans F4).trans (F5.trans F6);exact q _ lf lw F ⟨AD,(F4.trans (F5.trans F6)) _ _ nfr g3,(F4.trans (F5.trans F6)) _ _ nwr w3⟩
inductive Res (α:Type) where
 | bad (e:Nat)
 | ok (a:α) (L:List (Str × Nat)) (s g:Nat)
noncomputable def Res.to{α β:Type}(r:Res α)(f:α->List (Str × Nat)->Nat->Nat->β)(b:Nat->β):β:=match r with
 | .bad e=>b e
 | .ok a L s g=>f a L s g
noncomputable def dscL(f:Nat->Nat->Res Dv):Nat->Nat->Nat->Res (List Dv)
 | 0,s,g=>.ok [] [] s g
 | k+1,s,g=>match f s g with
  | .bad e=>.bad e
  | .ok a L s' g'=>match dscL f k s' g' with
   | .bad e=>.bad e
   | .ok as M s'' g''=>.ok (a::as) (L++M) s'' g''
section
variable (pN fig:Str->Option Nat)(at':Str)(ws:List Str)
noncomputable def dsc:Nat->Nat->Nat->Res Dv
 | 0,s,_=>.bad s
 | F+1,s,g=>match ws[s]? with
  | none=>.bad s
  | some x=>match pN x with
   | none=>.bad s
   | some k=>if 20<=g then .bad s else if x=at' then
    (match ws[s+1]? with
    | none=>.bad (s+1)
    | some y=>match fig y with
     | none=>.bad (s+1)
     | some i=>.ok (.tup [.str x,.int (i:Nat)]) [(x,i)] (s+2) (g+1))
    else match dscL (dsc F) k (s+1) (g+1) with
     | .bad e=>.bad e
     | .ok as L s' g'=>.ok (.tup (.str x::as)) ((x,k)::L) s' g'
noncomputable def wlk:List Nat->Nat->Nat->List (Str × Nat)->Sum Nat (List (Str × Nat))
 | [],s,_,M=>if s < ws.length then .inl s else .inr M
 | F::st,s,g,M=>match dsc pN fig at' ws F s g with
  | .bad e=>.inl e
  | .ok _ L s' g'=>wlk st s' g' (M++L)
theorem Gy(F:Nat)(st:List Nat):∀(k s g:Nat) (M:List (Str × Nat)),wlk pN fig at' ws (List.replicate k F++st) s g M=(dscL (dsc pN fig at' ws F) k s g).to (fun _ L s' g'=>wlk pN fig at' ws st s' g' (M++L)) .inl
 | 0,s,g,M=>by
  show wlk pN fig at' ws st s g M=wlk pN fig at' ws st s g (M++[]);rw[Zc]
 | k+1,s,g,M=>by
  rw[Zx,List.cons_append]
  show(match dsc pN fig at' ws F s g with | .bad e=>_ | .ok _ L s' g'=>_)=_
  unfold dscL;cases dsc pN fig at' ws F s g with
  | bad e=>rfl
  | ok a L s' g' =>
   dsimp only[Res.to];rw[Gy F st k s' g' (M++L)];cases dscL (dsc pN fig at' ws F) k s' g' with
   | bad e=>rfl
   | ok as N s'' g'' =>
    dsimp only[Res.to];rw[Zy]
noncomputable def bld:List (Str × Nat)->List Dv
 | []=>[]
 | (x,k)::L=>if x=at' then .tup [.str x,.int (k:Nat)]::bld L else .tup (.str x::(bld L).take k)::(bld L).drop k
theorem Ew{f:Nat->Nat->Res Dv}(hf:∀s g a L s' g',f s g=.ok a L s' g'->∀M,bld at' (L++M)=a::bld at' M):∀(k s g:Nat) (as:List Dv) (L:List (Str × Nat)) (s' g':Nat),dscL f k s g=.ok as L s' g'->as.length=k/\∀M,bld at' (L++M)=as++bld at' M
 | 0,s,g,as,L,s',g',h=>by
  unfold dscL at h;cases h;exact⟨rfl,fun M=>rfl⟩
 | k+1,s,g,as,L,s',g',h=>by
  unfold dscL at h;cases e:f s g with
  | bad e'=>rw[e]at h;cases h
  | ok a L1 s1 g1 =>
   rw[e]at h;dsimp only at h;cases e2:dscL f k s1 g1 with
   | bad e'=>rw[e2]at h;cases h
   | ok as2 L2 s2 g2 =>
    rw[e2]at h;dsimp only at h;cases h;obtain⟨h1,h2⟩:=Ew hf k s1 g1 _ _ _ _ e2;refine⟨by rw[ZV,h1],fun M=>?_⟩;rw[Zy,hf _ _ _ _ _ _ e,h2];rfl
theorem Cg:∀(F s g:Nat) (a:Dv) (L:List (Str × Nat)) (s' g':Nat),dsc pN fig at' ws F s g=.ok a L s' g'->∀M,bld at' (L++M)=a::bld at' M
 | 0,s,g,a,L,s',g',h=>by unfold dsc at h;cases h
 | F+1,s,g,a,L,s',g',h=>by
  unfold dsc at h;split at h
  ·cases h
  ·rename_i x _;split at h
   ·cases h
   ·rename_i k _;split at h
    ·cases h
    ·split at h
     ·rename_i hx;split at h
      ·cases h
      ·split at h
       ·cases h
       ·cases h;intro M
        show(if x=at' then _ else _)=_
        rw[if_pos hx];rfl
     ·rename_i hx;split at h
      ·cases h
      ·rename_i as L1 s1 g1 e;cases h;intro M;obtain⟨h1,h2⟩:=Ew at' (Cg F) k _ _ _ _ _ _ e
       show(if x=at' then _ else _)=_
       rw[if_neg hx];show Dv.tup (Dv.str x::List.take k (bld at' (L1++M)))::List.drop k (bld at' (L1++M))=_;rw[h2,List.take_left' h1,List.drop_left' h1]
noncomputable def A7:List (Str × Nat)->Prop
 | []=>True
 | (x,k)::L=>A7 L/\(x≠at'->k<=(bld at' L).length)
theorem Go{f:Nat->Nat->Res Dv}(hf:∀s g a L s' g',f s g=.ok a L s' g'->∀M,A7 at' M->A7 at' (L++M)):∀(k s g:Nat) (as:List Dv) (L:List (Str × Nat)) (s' g':Nat),dscL f k s g=.ok as L s' g'->∀M,A7 at' M->A7 at' (L++M)
 | 0,s,g,as,L,s',g',h=>by
  unfold dscL at h;cases h;exact fun M h=>h
 | k+1,s,g,as,L,s',g',h=>by
  unfold dscL at h;cases e:f s g with
  | bad e'=>rw[e]at h;cases h
  | ok a L1 s1 g1 =>
   rw[e]at h;dsimp only at h;cases e2:dscL f k s1 g1 with
   | bad e'=>rw[e2]at h;cases h
   | ok as2 L2 s2 g2 =>
    rw[e2]at h;dsimp only at h;cases h;intro M hM;rw[Zy];exact hf _ _ _ _ _ _ e _ (Go hf k s1 g1 _ _ _ _ e2 M hM)
theorem GG:∀(F s g:Nat) (a:Dv) (L:List (Str × Nat)) (s' g':Nat),dsc pN fig at' ws F s g=.ok a L s' g'->∀M,A7 at' M->A7 at' (L++M)
 | 0,s,g,a,L,s',g',h=>by unfold dsc at h;cases h
 | F+1,s,g,a,L,s',g',h=>by
  unfold dsc at h;split at h
  ·cases h
  ·rename_i x _;split at h
   ·cases h
   ·rename_i k _;split at h
    ·cases h
    ·split at h
     ·rename_i hx;split at h
      ·cases h
      ·split at h
       ·cases h
       ·cases h;exact fun M hM=>⟨hM,fun z=>absurd hx z⟩
     ·rename_i hx;split at h
      ·cases h
      ·rename_i as L1 s1 g1 e;cases h;intro M hM;obtain⟨h1,h2⟩:=Ew at' (Cg pN fig at' ws F) k _ _ _ _ _ _ e;refine⟨Go at' (GG F) k _ _ _ _ _ _ e M hM,fun _=>?_⟩;show k<=(bld at' (L1++M)).length;rw[h2,ZQ];lia
theorem HL:∀(k:Nat) (ds:List Dv),Aa ds=true->Aa (ds.take k)=true/\Aa (ds.drop k)=true
 | 0,ds,h=>⟨rfl,h⟩
 | k+1,[],h=>⟨rfl,rfl⟩
 | k+1,d::ds,h=>by
  unfold Aa at h;rw[ZZ]at h;obtain⟨h1,h2⟩:=HL k ds h.2;refine⟨?_,h2⟩;rw[List.take_succ_cons];unfold Aa;rw[h.1,h1];rfl
theorem Cw:∀L:List (Str × Nat),Aa (bld at' L)=true
 | []=>rfl
 | (x,k)::L=>by
  unfold bld;have ih:=Cw L;obtain⟨h1,h2⟩:=HL k _ ih;split
  ·unfold Aa;rw[ih];rfl
  ·unfold Aa;rw[h2,Bool.and_true];unfold A5 Aa;rw[h1];rfl
theorem M7{st:List Nat}(hx:ws[s]? = some x)(hk:pN x=some k)(hg:¬20<=g)(ha:x≠at'):wlk pN fig at' ws ((F+1)::st) s g M=wlk pN fig at' ws (List.replicate k F++st) (s+1) (g+1) (M++[(x,k)]):=by
 rw[Gy]
 show(match dsc pN fig at' ws (F+1) s g with | .bad e=>_ | .ok _ L s' g'=>_)=_
 unfold dsc;rw[hx];dsimp only[Res.to];rw[hk];dsimp only[Res.to];rw[if_neg hg,if_neg ha];cases dscL (dsc pN fig at' ws F) k (s+1) (g+1) with
 | bad e=>rfl
 | ok as L s' g' =>
  dsimp only[Res.to];rw[Zy];rfl
theorem Ka{st:List Nat}(hx:ws[s]? = some x)(hk:pN x=some k)(hg:¬20<=g)(ha:x=at')(hy:ws[s+1]? = some y)(hi:fig y=some i):wlk pN fig at' ws ((F+1)::st) s g M=wlk pN fig at' ws st (s+2) (g+1) (M++[(x,i)]):=by
 show(match dsc pN fig at' ws (F+1) s g with | .bad e=>_ | .ok _ L s' g'=>_)=_
 unfold dsc;rw[hx];dsimp only[Res.to];rw[hk];dsimp only[Res.to];rw[if_neg hg,if_pos ha,hy];dsimp only[Res.to];rw[hi]
theorem JN{st:List Nat}(h:F=0\/ws[s]? = none\/(∃x,ws[s]? = some x/\pN x=none)\/20<=g):wlk pN fig at' ws (F::st) s g M=.inl s:=by
 have e:dsc pN fig at' ws F s g=.bad s:=by
  cases F with
  | zero=>rfl
  | succ F =>
   unfold dsc;cases hx:ws[s]? with
   | none=>rfl
   | some x =>
    dsimp only[Res.to];cases hp:pN x with
    | none=>rfl
    | some k =>
     dsimp only[Res.to]
     rcases h with h | h | ⟨y,h,h'⟩ | h
     ·cases h
     ·rw[hx]at h;cases h
     ·rw[hx]at h;cases h;rw[hp]at h';cases h'
     ·rw[if_pos h]
 show(match dsc pN fig at' ws F s g with | .bad e=>_ | .ok _ L s' g'=>_)=_
 rw[e]
theorem MQ{st:List Nat}(hx:ws[s]? = some x)(hk:pN x=some k)(hg:¬20<=g)(ha:x=at')(h:ws[s+1]? = none\/∃y,ws[s+1]? = some y/\fig y=none):wlk pN fig at' ws ((F+1)::st) s g M=.inl (s+1):=by
 show(match dsc pN fig at' ws (F+1) s g with | .bad e=>_ | .ok _ L s' g'=>_)=_
 unfold dsc;rw[hx];dsimp only[Res.to];rw[hk];dsimp only[Res.to];rw[if_neg hg,if_pos ha]
 rcases h with h | ⟨y,h,h'⟩
 ·rw[h]
 ·rw[h];dsimp only[Res.to];rw[h']
noncomputable def BC(F:Nat):Sum Nat Dv:=match dsc pN fig at' ws F 0 0 with
 | .bad e=>.inl e
 | .ok a _ s _=>if s < ws.length then .inl s else .inr a
theorem Ll(F:Nat):(∀e,wlk pN fig at' ws [F] 0 0 []=.inl e->BC pN fig at' ws F=.inl e)/\∀M,wlk pN fig at' ws [F] 0 0 []=.inr M->∃a,bld at' M=[a]/\BC pN fig at' ws F=.inr a:=by
 unfold BC wlk;cases e:dsc pN fig at' ws F 0 0 with
 | bad e' =>
  dsimp only[Res.to];exact⟨fun e'' h=>by cases h;rfl,fun M h=>by cases h⟩
 | ok a L s g =>
  dsimp only[Res.to];unfold wlk
  by_cases z:s < ws.length
  ·rw[if_pos z,if_pos z];exact⟨fun e'' h=>by cases h;rfl,fun M h=>by cases h⟩
  ·rw[if_neg z,if_neg z];refine⟨(fun e'' h=>by cases h),fun M h=>⟨a,?_,rfl⟩⟩;cases h
   have:=Cg pN fig at' ws F 0 0 a L s g e []
   rw[Zc]at this;exact this
end
noncomputable def eD(e:Str × Nat):Dv:=.tup [.str e.1,.int (e.2:Nat)]
theorem G8(xs:List V)(a:Nat)(h:a<=xs.length):Ac xs none (some (a:Int))=xs.take a:=by
 unfold Ac;rw[HT.sIx_nat,HT.sIx_none,List.drop_zero,Nat.sub_zero,Nat.min_eq_left h]
theorem Hc(xs:List V)(a:Nat)(h:a<=xs.length):Ac xs (some (a:Int)) none=xs.drop a:=by
 unfold Ac;rw[HT.sIx_nat,HT.sIx_none,Nat.min_eq_left h,ZBH (by rw[ZBB];lia)]
theorem CL{d:Dv}{ds:List Dv}{xs:List V}(h:Ye K H (d::ds) xs):∃x l,xs=x::l/\Yi K H d x/\Ye K H ds l:=by unfold Ye at h;exact h
theorem Gi{a:Str}:∀(n:Nat) (L:List (Str × Nat)),A7 a L->A7 a (L.drop n)
 | 0,L,h=>h
 | n+1,[],h=>h
 | n+1,(x,k)::L,h=>Gi n L h.1
theorem tups_mem:∀{ds:List Dv},Aa ds=true ↔ ∀d∈ds,A5 d=true
 | []=>⟨(fun _ d h=>by cases h),fun _=>rfl⟩
 | d::ds=>by
  unfold Aa;rw[ZZ,tups_mem];simp
theorem Gz{ds:List Dv}(h:Aa ds=true):Aa ds.reverse=true:=tups_mem.mpr fun d hd=>tups_mem.mp h d (List.mem_reverse.mp hd)
theorem GA:∀(n:Nat) {ds:List Dv} {xs:List V},Ye K H ds xs->Ye K H (ds.take n) (xs.take n)/\Ye K H (ds.drop n) (xs.drop n)
 | 0,ds,xs,h=>⟨Ab,h⟩
 | n+1,[],xs,h=>by
  have:=Ye.length h
  cases xs with
  | nil=>exact⟨Ab,Ab⟩
  | cons x l=>cases this
 | n+1,d::ds,xs,h=>by
  obtain⟨x,l,rfl,hd,hl⟩:=CL h;obtain⟨h1,h2⟩:=GA n hl;exact⟨AO hd h1,h2⟩
theorem Gp:∀{ds:List Dv} {xs:List V},Ye K H ds xs->Ye K H ds.reverse xs.reverse
 | [],xs,h=>by
  have:=Ye.length h
  cases xs with
  | nil=>exact Ab
  | cons x l=>cases this
 | d::ds,xs,h=>by
  obtain⟨x,l,rfl,hd,hl⟩:=CL h;rw[Zq,Zq];exact(Gp hl).append (AO hd Ab)
noncomputable def ES(K:W.Frag):Sp:=fun vs H Q _=>match vs with
 | [.ref l]=>∃(zs:List V) (L:List (Str × Nat)) (D:Dv),H l=some (.lst zs)/\Ye K H (L.map eD) zs/\L.length<=100/\A7 (Str.ofString "at") L/\bld (Str.ofString "at") L=[D]/\∀v H',Yf H H'->Yi K H' D v->Q v H'
 | _=>False
theorem Jz:Xa P w base T.z17 1 (ES K):=by
 refine T.z17.F.ok sc_z17 (fun vs H Q E h=>by unfold ES at h;walk_at "e") ?_;walk_at "f";unfold ES at h;walk_at "g"
 rename_i l;obtain⟨zs,L,D,hl,rz,hL,hf,hb,q⟩:=h;have ez:=Ye.length rz;rw[ZF]at ez;refine⟨_,(@AE _ _ _ _ _ (@AI _ _ 1 _ _ _ _ sc_z17.nd rfl (by right) (@Aq _ _ _ _ AC) (by rfl) (by symm)) (@AE _ _ _ _ _ (@CW _ _ _ _ _ _ _ _ PassesOwn.never rfl (NX (K:=K) rfl T.Y2 (AA (vv 0) AC)) (NI (K:=K) (n:=2) rfl (GP (Bi (i:=2) sc_z17.nd rfl (by right)) (GP (Bi (i:=3) sc_z17.nd rfl (by right)) MC))) (@AJ _ _ _ (@Ag _ _ _ _ _ _ _ _ (AQ (kEq (K:=K) hu) (vv 2) AH) (@AJ _ _ _ (@CF _ _ _ _ (DF (K:=K) (vv 1) (AA (BJ (AA (vv 2) (AA (vv 3) AC))) AC)) (by rfl))) (@AE _ _ _ _ _ (@AI _ _ 4 _ _ _ _ sc_z17.nd rfl (by right) (HG (K:=K) (vv 1) (BB (AF An (Am (A6 (K:=K)) rfl T.Y5 (by rfl) (AA (vv 1) AC)) (vv 3))) BA) (by rfl) (by symm)) (@AE _ _ _ _ _ (@CF _ _ _ _ (NS (K:=K) (vv 4)) (by rfl)) (@AJ _ _ _ (@AI _ _ 1 _ _ _ _ sc_z17.nd rfl (by right) (AF (Fh (K:=K)) (HG (K:=K) (vv 1) BA (BB (AF An (Am (A6 (K:=K)) rfl T.Y5 (by rfl) (AA (vv 1) AC)) (vv 3)))) (@Aq _ _ _ _ (AA (AF (Fh (K:=K)) (BJ (AA (vv 2) AC)) (CN (DW (K:=K)) rfl T.Y9 (by rfl) (AA (vv 4) AC))) AC))) (by rfl) (by symm))))))) (by intro _;rfl)) (@AJ _ _ _ (@AX _ _ _ _ (Yt (K:=K) (vv 1) AB))))),?_⟩;refine⟨ZK _,fun st hst=>?_⟩;dsimp only[AV];have s1:=Yf.upd (o:=.lst []) hst;have g1:upd H st (.lst []) st=some (.lst []):=AD;generalize upd H st (.lst [])=H1 at *;refine⟨zs,.of (s1 _ _ hl),?_⟩;refine II (xs:=zs) (fun i σ H'=>∃(st:Addr) (ys:List V) (z2 z3 z4:Option V),σ=[some (.ref l),some (.ref st),z2,z3,z4]/\H st=none/\ys.length<=i/\Yf H H'/\H' st=some (.lst ys)/\Ye K H' (bld (Str.ofString "at") (L.drop (zs.length - i))).reverse ys) ⟨st,[],_,_,_,rfl,hst,ZD _,s1,g1,by rw[Nat.sub_zero,<- ez,List.drop_length];exact Ab⟩ (fun i σ H' _ ⟨_,_,_,_,_,_,_,_,s,_⟩=>.of (s _ _ hl)) ?_ ?_
 ·rintro i x σ H2 hx ⟨st,ys,z2,z3,z4,rfl,hst,hy,s2,g2,r2⟩
  have hi:i < zs.length:=by
   rcases Nat.lt_or_ge i zs.length with z | z
   ·exact z
   ·rw[ZBI (by rw[List.length_reverse];exact z)]at hx;cases hx
  rw[List.getElem?_reverse hi]at hx;have hk:zs.length - 1 - i < L.length:=by lia
  obtain⟨x',hx',rx⟩:=Ye.get rz (i:=zs.length - 1 - i) (d:=eD L[zs.length - 1 - i]) (by rw[Zj,ZN hk];rfl);rw[hx]at hx';cases hx'
  have ed:L.drop (zs.length - (i+1))=L[zs.length - 1 - i]::L.drop (zs.length - i):=by
   rw[show zs.length - (i+1)=zs.length - 1 - i by lia,show zs.length - i=zs.length - 1 - i+1 by lia];exact List.drop_eq_getElem_cons hk
  have hfit:A7 (Str.ofString "at") (L.drop (zs.length - (i+1))):=Gi _ _ hf;rw[ed]at hfit ⊢;generalize L.drop (zs.length - i)=L2 at *;generalize L[zs.length - 1 - i]=e at *;obtain⟨w1,k⟩:=e;obtain⟨a,us,rfl,ha,ru⟩:=LX rx;obtain⟨y1,us,rfl,e1,ru⟩:=CL ru;obtain⟨y2,us,rfl,e2,ru⟩:=CL ru;unfold Yi at e1 e2;subst e1 e2
  have e0:us=[]:=by
   cases us with
   | nil=>rfl
   | cons x r=>exact absurd (Ye.length ru) (by simp)
  subst e0;clear rx hx ed;refine⟨[.str w1,.int (k:Nat)],.inr (s2.sqT ha),rfl,_,_,rfl,_,_,rfl,rfl,?_⟩;have ln:=Ye.length r2
  show(if (false ^^ (w1 == Str.ofString "at"))=true then _ else _)
  refine AZ (fun e=>?_) (fun e=>?_)
  ·have e:(false ^^ (w1 == Str.ofString "at"))=true:=e;rw[Ze,beq_iff_eq]at e;refine⟨.inl ⟨rfl,_,.of g2⟩,smq rfl,fun p hp=>?_⟩;have s3:=Yf.upd (o:=.tup [.str w1,.int (k:Nat)]) hp;have g3:upd H2 p (.tup [.str w1,.int (k:Nat)]) p=some (.tup [.str w1,.int (k:Nat)]):=AD;generalize upd H2 p (.tup [.str w1,.int (k:Nat)])=H3 at *;have g4:=s3 _ _ g2;refine⟨ys,g4,Bp (by lia),?_⟩;have f4:Ym st H3 (upd H3 st (.lst (ys++[.ref p]))):=Ym.updT;refine⟨st,ys++[.ref p],_,_,_,rfl,hst,(by rw[ZQ];exact Nat.add_le_add_right hy 1),fun b o eb=>f4 _ _ (A8 eb hst) (s3 _ _ (s2 _ _ eb)),AD,?_⟩;unfold bld;rw[if_pos e,Zq];exact Ye.append (Ye.frm f4 ⟨_,g4⟩ _ _ (Gz (Cw _ _)) (Ye.same s3 _ _ r2)) (AO (A4 (f4 _ _ (E1 g3 g4 (by intro z;cases z)) g3) (AO A1 (AO Bf Ab))) Ab)
  ·have e:¬(false ^^ (w1 == Str.ofString "at"))=true:=e;rw[Ze,beq_iff_eq]at e;have hk2:=hfit.2 e;rw[List.length_reverse]at ln;dsimp only[AV];refine⟨ys.length,.inl ⟨_,.of g2,rfl⟩,(ys.length:Int) - (k:Nat),rfl,ys,.inl ⟨.of g2,fun p hp=>?_⟩⟩;have en:(ys.length:Int) - (k:Nat)=((ys.length - k:Nat):Int):=by lia
   rw[en,Hc ys (ys.length - k) (by lia)];dsimp only[AV];have s3:=Yf.upd (o:=.lst (ys.drop (ys.length - k))) hp;have g3:upd H2 p (.lst (ys.drop (ys.length - k))) p=some (.lst (ys.drop (ys.length - k))):=AD;generalize upd H2 p (.lst (ys.drop (ys.length - k)))=H3 at *;have r3:=Ye.same s3 _ _ r2;have g23:=s3 _ _ g2;have np:st≠p:=fun z=>by rw[z,hp]at g2;cases g2
   have ld:(ys.drop (ys.length - k)).length < 1000:=by rw[ZBB];lia
   refine⟨.inl ⟨rfl,_,.of g3⟩,_,g3,ld,?_⟩;have f4:Ym p H3 (upd H3 p (.lst (ys.drop (ys.length - k)).reverse)):=Ym.updT;have g4:upd H3 p (.lst (ys.drop (ys.length - k)).reverse) p=some (.lst (ys.drop (ys.length - k)).reverse):=AD;have g24:=f4 _ _ np g23;have r4:=Ye.frm f4 ⟨_,g3⟩ _ _ (Gz (Cw _ _)) r3;have s4:Yf H (upd H3 p (.lst (ys.drop (ys.length - k)).reverse)):=fun b o eb=>f4 _ _ (fun z=>by rw[z]at eb;have:=s2 _ _ eb;rw[hp]at this;cases this) (s3 _ _ (s2 _ _ eb))
   generalize upd H3 p (.lst (ys.drop (ys.length - k)).reverse)=H4 at *;refine⟨ys.length,.inl ⟨_,.of g24,rfl⟩,(ys.length:Int) - (k:Nat),rfl,ys,.inl ⟨.of g24,fun p5 hp5=>?_⟩⟩;rw[en,G8 ys (ys.length - k) (by lia)];have s5:=Yf.upd (o:=.lst (ys.take (ys.length - k))) hp5;have g5:upd H4 p5 (.lst (ys.take (ys.length - k))) p5=some (.lst (ys.take (ys.length - k))):=AD;generalize upd H4 p5 (.lst (ys.take (ys.length - k)))=H5 at *;refine⟨smq rfl,fun p6 hp6=>?_⟩;have s6:=Yf.upd (o:=.tup [.str w1]) hp6;have g6:upd H5 p6 (.tup [.str w1]) p6=some (.tup [.str w1]):=AD;generalize upd H5 p6 (.tup [.str w1])=H6 at *;refine⟨_,.inl ⟨.of (s6 _ _ (s5 _ _ g4)),fun p7 hp7=>?_⟩⟩;have s7:=Yf.upd (o:=.tup (ys.drop (ys.length - k)).reverse) hp7;have g7:upd H6 p7 (.tup (ys.drop (ys.length - k)).reverse) p7=some (.tup (ys.drop (ys.length - k)).reverse):=AD;generalize upd H6 p7 (.tup (ys.drop (ys.length - k)).reverse)=H7 at *;refine .inr ⟨[.str w1],_,.of (s7 _ _ g6),.of g7,Ah (by rw[List.length_reverse];show 1+_<=1000;lia),fun p8 H8 s8 t8=>?_⟩;refine⟨smq rfl,fun p9 hp9=>?_⟩;have s9:=Yf.upd (o:=.lst [.ref p8]) hp9;have g9:upd H8 p9 (.lst [.ref p8]) p9=some (.lst [.ref p8]):=AD;generalize upd H8 p9 (.lst [.ref p8])=H9 at *;have s59:Yf H5 H9:=((s6.trans s7).trans s8).trans s9;refine .inl ⟨p5,p9,_,_,rfl,rfl,s59 _ _ g5,g9,Ah (by rw[Z8];show _+1<=1000;lia),fun pa hpa=>?_⟩;have sa:=Yf.upd (o:=.lst (ys.take (ys.length - k)++[.ref p8])) hpa;have ga:upd H9 pa (.lst (ys.take (ys.length - k)++[.ref p8])) pa=some (.lst (ys.take (ys.length - k)++[.ref p8])):=AD;generalize upd H9 pa (.lst (ys.take (ys.length - k)++[.ref p8]))=Ha at *;have s4a:Yf H4 Ha:=(s5.trans s59).trans sa
   have hsa:H pa=none:=by
    cases z:H pa with
    | none=>rfl
    | some o=>rw[s59 _ _ (s5 _ _ (s4 _ _ z))]at hpa;cases hpa
   refine⟨pa,_,_,_,_,rfl,hsa,(by rw[ZQ,Z8];show _+1<=i+1;lia),s4.trans s4a,ga,?_⟩;have ra:=Ye.same s4a _ _ r4;obtain⟨c1,c2⟩:=GA (ys.length - k) ra;have c3:=Gp c2;have lb:(bld (Str.ofString "at") L2).length=ys.length:=ln;rw[List.drop_reverse,List.reverse_reverse]at c3;rw[List.take_reverse]at c1;rw[show(bld (Str.ofString "at") L2).length - (ys.length - k)=k by lia]at c1 c3;unfold bld;rw[if_neg e,Zq];exact c1.append (AO (MY ((s9.trans sa).sqT t8) (AO A1 c3)) Ab)
 ·rintro σ H2 ⟨st,ys,z2,z3,z4,rfl,hst,hy,s2,g2,r2⟩;rw[Nat.sub_self,List.drop_zero,hb]at r2;obtain⟨v,us,rfl,rv,ru⟩:=CL r2;exact⟨_,v,.inl (.of g2),BX (n:=0) rfl rfl,q v H2 s2 rv⟩
theorem C4:Xb P w mg base T.z13 1 (C5 T.Yw "at"):=by
 refine T.z13.F.ok MM (fun vs H Q E h=>by unfold C5 at h;walk_at "e") (fun Ys A outer s H vs Q E hr h=>?_);unfold C5 at h;walk_at "g"
 rename_i x y;obtain⟨g,q⟩:=h;refine⟨_,(@AJ _ _ _ (JZ T.Y1 T.Y3 (vv 0) (vv 1))),?_⟩;exact .inl ⟨g,fun d hd=>q d hd⟩
noncomputable def nT(e:Nat):List (Str × V):=[("at",.int (e:Nat))]
noncomputable def Ref(C:Addr)(H:Hp)(e:Nat)(E:XK)(r:Addr):Prop:=∀d H',Ym r H H'->H' d=some (XdO d (nT e))->E (.ref C) (some d) H'
theorem Ref.mv{C r:Addr}{H1:Hp}{e:Nat}{E:XK}(f:Ym r H H1)(h:Ref C H e E r):Ref C H1 e E r:=fun d H' f' g=>h d H' (f.trans f') g
theorem CD{C r:Addr}{e:Nat}{E:XK}(h:Ref C H e E r):∀x,H x=none->C5 C "at" [.ref x,.int (e:Nat)] (upd H x (ExN x (.ref C) none)) (fun v H2=>v=.non/\∃od,H2 x=some (ExN x (.ref C) od)/\E (.ref C) od (del H2 x)) E0:=by
 intro x0 hx0;refine⟨AD,fun d hd=>?_⟩;have n0:d≠x0:=fun z=>by rw[z,AD]at hd;cases hd
 rw[AG n0]at hd;refine⟨rfl,some d,by rw[AG (Ne.symm n0),AD],?_⟩;refine h d _ (fun c u nc hc=>?_) ?_
 ·have n1:c≠x0:=fun z=>by rw[z,hx0]at hc;cases hc
  have n2:c≠d:=fun z=>by rw[z,hd]at hc;cases hc
  rw[C9 n1,AG n2,AG n1,AG n1];exact hc
 ·rw[C9 n0];exact AD
noncomputable def DK(C CT:Addr):Sp:=fun vs H Q E=>match vs with
 | [.ref r]=>∃n ws s g dx lf lw,RdrAt C H r n ws s g dx lf lw/\s<=ws.length/\(∀x,ws[s]? = some x->Q (.str x) H)/\(ws[s]? = none->Ref CT H s E r)
 | _=>False
theorem Gh:FnOk P w K mg base (CXE P w) 3 T.z10.f T.z10.d ["self"] (DK T.Yx T.Yw):=by
 refine T.z10.F.okE Jc (fun vs H Q E h=>by unfold DK at h;walk_at "e") ?_;walk_at "f";have hr_z13:=hr.mono (show 1<=_ by decide);have hr1_z13:=hr.mono (show 1+1<=_ by decide);unfold DK at h;walk_at "g"
 rename_i r;obtain⟨n,ws,s,g,dx,lf,lw,R,hs,q1,q2⟩:=h;refine⟨_,(@AE _ _ _ _ _ (@Ag _ _ _ _ _ _ _ _ (PT.nox (AQ (kEq (K:=K) hu) (At T.Yy T.Yz (vv 0)) (Am (A6 (K:=K)) rfl T.Y5 (by rfl) (AA (At T.Yy T.YM (vv 0)) AC)))) (@AJ _ _ _ (Cj (W:=fun _ od H=>E (.ref T.Yw) od H) T.Y1 (@C4 P w K mg base T) hr1_z13 T.z13.b (fun _ _ _ _ _ _ I e h0 q=>Ch I e h0 q) rfl rfl rfl T.Y0 (AA (At T.Yy T.Yz (vv 0)) AC))) Al) (@AJ _ _ _ (PS.nox (@AX _ _ _ _ (Yt (K:=K) (At T.Yy T.YM (vv 0)) (At T.Yy T.Yz (vv 0))))))),?_⟩;refine⟨dx,_,_,R.o,rl3 _ _ _ _,dx,_,_,R.o,rl2 _ _ _ _,_,.inl ⟨_,.of R.w,rfl⟩,?_⟩;refine AZ (fun e=>?_) (fun e=>?_)
 ·have e':(false ^^ (((s:Nat):Int) == (((ws.map V.str).length:Nat):Int)))=true:=e;rw[Ze,beq_iff_eq,ZF]at e';have hn:ws[s]? = none:=ZBI (by lia);exact⟨dx,_,_,R.o,rl3 _ _ _ _,(show 1<=1000 by decide),CD (q2 hn)⟩
 ·have e':¬(false ^^ (((s:Nat):Int) == (((ws.map V.str).length:Nat):Int)))=true:=e;rw[Ze,beq_iff_eq,ZF]at e';have Yo:s < ws.length:=by lia
  have hx:=ZN Yo;exact⟨dx,_,_,R.o,rl2 _ _ _ _,dx,_,_,R.o,rl3 _ _ _ _,_,_,.inl (.of R.w),BX (n:=s) rfl (by rw[Zj,hx];rfl),q1 _ hx⟩
noncomputable def AL(n:Nat)(y:Str):Option Nat:=(List.range n).find? fun i=>dgS i == y
theorem Bx(h:AL n y=some i):i < n/\dgS i=y:=by
 unfold AL at h;exact⟨Z2.mp (List.mem_of_find?_eq_some h),by simpa using List.find?_some h⟩
theorem FS(h:AL n y=none)(hi:i < n):dgS i≠y:=by
 unfold AL at h
 have:=List.find?_eq_none.mp h i (Z2.mpr hi)
 simpa using this
noncomputable def Do(C CT:Addr):Sp:=fun vs H Q E=>match vs with
 | [.ref r]=>∃n ws s g dx lf lw,RdrAt C H r n ws s g dx lf lw/\s<=ws.length/\n<=6/\(∀y i,ws[s]? = some y->AL n y=some i->∀H',Ym r H H'->RdrAt C H' r n ws (s+1) g dx lf lw->Q (.int (i:Nat)) H') /\
  ((ws[s]? = none\/∃y,ws[s]? = some y/\AL n y=none)->Ref CT H s E r)
 | _=>False
theorem Mj:FnOk P w K mg base (CXE P w) 4 T.z9.f T.z9.d ["self"] (Do T.Yx T.Yw):=by
 refine T.z9.F.okE sc_z9 (fun vs H Q E h=>by unfold Do at h;walk_at "e") ?_;walk_at "f";have hr_z13:=hr.mono (show 1<=_ by decide);have hr1_z13:=hr.mono (show 1+1<=_ by decide);unfold Do at h;walk_at "g"
 rename_i r;obtain⟨n,ws,s,g,dx,lf,lw,R,hs,hn,q1,q2⟩:=h;refine⟨_,(@AE _ _ _ _ _ (@AI _ _ 1 _ _ _ _ sc_z9.nd rfl (by right) (CZ (vv 0) T.Yy T.z10.m (@Gh P w K mg base T) (hr.mono (show 3<=_ by decide)) T.z10.b .nil CO) (by rfl) (by symm)) (@AE _ _ _ _ _ (@Ag _ _ _ _ _ _ _ _ (PT.nox (AQ (IM (K:=K)) (vv 1) (At T.Yy T.YS (vv 0)))) (@AJ _ _ _ (Cj (W:=fun _ od H=>E (.ref T.Yw) od H) T.Y1 (@C4 P w K mg base T) hr1_z13 T.z13.b (fun _ _ _ _ _ _ I e h0 q=>Ch I e h0 q) rfl rfl rfl T.Y0 (AA (At T.Yy T.Yz (vv 0)) AC))) Al) (@AE _ _ _ _ _ (PS.nox (Bu T.Yy T.Yz (vv 0) (AF (AK (K:=K)) (At T.Yy T.Yz (vv 0)) AB))) (@AJ _ _ _ (PS.nox (@AX _ _ _ _ (Nn (K:=K) (At T.Yy T.YS (vv 0)) (AA (vv 1) AC)))))))),?_⟩;refine⟨r,dx,_,rfl,R.o,rn1 _ _ _ _,n,ws,s,g,dx,lf,lw,R,hs,fun y hy=>?_,fun hy=>q2 (.inl hy)⟩;dsimp only[AV];refine⟨dx,_,_,R.o,rl1 _ _ _ _,_,.inl (.of R.f),rfl,HB n,?_⟩
 have hin:inV (.str y) (Au n)=(AL n y).isSome:=by
  cases hf:AL n y with
  | some i =>
   obtain⟨hi,rfl⟩:=Bx hf;unfold inV;rw[ZBG,List.any_eq_true];exact⟨_,Z9 (DL hi),G5 _⟩
  | none =>
   unfold inV;rw[Option.isSome_none,Bool.eq_false_iff];intro z;obtain⟨v,hv,ev⟩:=List.any_eq_true.mp z;unfold Au at hv;obtain⟨i,hi,rfl⟩:=Z4.mp hv;refine FS hf (Z2.mp hi) ?_;have ev:(_ == _)=true:=ev
   first | exact(beq_iff_eq.mp ev).symm | exact beq_iff_eq.mp ev
 refine AZ (fun e=>?_) (fun e=>?_)
 ·have e':(true ^^ inV (.str y) (Au n))=true:=e;rw[hin]at e'
  have hf:AL n y=none:=by
   cases hf:AL n y with
   | none=>rfl
   | some i=>rw[hf]at e';cases e'
  exact⟨dx,_,_,R.o,rl3 _ _ _ _,(show 1<=1000 by decide),CD (q2 (.inr ⟨y,hy,hf⟩))⟩
 have e':¬(true ^^ inV (.str y) (Au n))=true:=e;rw[hin]at e'
 obtain⟨i,hf⟩:∃i,AL n y=some i:=by
  cases hf:AL n y with
  | some i=>exact⟨i,rfl⟩
  | none=>rw[hf]at e';exact absurd rfl e'
 obtain⟨hi,rfl⟩:=Bx hf;dsimp only[BD];refine⟨dx,_,_,R.o,rl3 _ _ _ _,dx,_,R.o,(show 4 < 1000 by decide),?_⟩;rw[rs3];have R1:=R.put (s+1) g;have F1:Ym r H (upd H r (.ins T.Yx dx (rf (.ref lf) (.ref lw) (.int ((s+1:Nat):Int)) (.int g)))):=Ym.updT;rw[show((s:Nat):Int)+1=((s+1:Nat):Int) by lia];generalize upd H r (.ins T.Yx dx (rf (.ref lf) (.ref lw) (.int ((s+1:Nat):Int)) (.int g)))=H1 at *;refine⟨dx,_,_,R1.o,rl1 _ _ _ _,.inl ⟨rfl,_,.of R1.f⟩,Au n,i,_,.of R1.f,rfl,HB n,DL hi,G5 _,fun m v hm hv=>?_,q1 _ i hy hf _ F1 R1⟩;rw[DL (by lia)]at hv;cases hv;exact Mc hm (by lia)
noncomputable def Dc(C CT:Addr):Sp:=fun vs H Q E=>match vs with
 | [.ref r]=>∃n ws s g dx lf lw,RdrAt C H r n ws s g dx lf lw/\s<=ws.length/\(¬s < ws.length->Q .non H)/\(s < ws.length->Ref CT H s E r)
 | _=>False
theorem JV:FnOk P w K mg base (CXE P w) 3 T.z11.f T.z11.d ["self"] (Dc T.Yx T.Yw):=by
 refine T.z11.F.okE NC (fun vs H Q E h=>by unfold Dc at h;walk_at "e") ?_;walk_at "f";have hr_z13:=hr.mono (show 1<=_ by decide);have hr1_z13:=hr.mono (show 1+1<=_ by decide);unfold Dc at h;walk_at "g"
 rename_i r;obtain⟨n,ws,s,g,dx,lf,lw,R,hs,q1,q2⟩:=h;refine⟨_,(@AJ _ _ _ (@Ag _ _ _ _ _ _ _ _ (PT.nox (AQ BP (At T.Yy T.Yz (vv 0)) (Am (A6 (K:=K)) rfl T.Y5 (by rfl) (AA (At T.Yy T.YM (vv 0)) AC)))) (@AJ _ _ _ (Cj (W:=fun _ od H=>E (.ref T.Yw) od H) T.Y1 (@C4 P w K mg base T) hr1_z13 T.z13.b (fun _ _ _ _ _ _ I e h0 q=>Ch I e h0 q) rfl rfl rfl T.Y0 (AA (At T.Yy T.Yz (vv 0)) AC))) Al)),?_⟩;refine⟨dx,_,_,R.o,rl3 _ _ _ _,dx,_,_,R.o,rl2 _ _ _ _,_,.inl ⟨_,.of R.w,rfl⟩,?_⟩;refine AZ (fun e=>?_) (fun e=>?_)
 ·have e':((s:Nat):Int) < (((ws.map V.str).length:Nat):Int):=Za e;rw[ZF]at e';exact⟨dx,_,_,R.o,rl3 _ _ _ _,(show 1<=1000 by decide),CD (q2 (by lia))⟩
 ·have e':¬((s:Nat):Int) < (((ws.map V.str).length:Nat):Int):=fun z=>e (Zh z)
  rw[ZF]at e';exact q1 (by lia)
noncomputable def FT:Sp:=fun vs H Q _=>match vs with
 | [.str x]=>(∀k:Nat,AS x=some k->Q (.int (k:Nat)) H)/\(AS x=none->Q .non H)
 | _=>False
theorem MV:Xa P w base T.z23 1 FT:=by
 refine T.z23.F.ok Kh (fun vs H Q E h=>by unfold FT at h;walk_at "e") ?_;walk_at "f"
 match vs,h with
 | [.str x],⟨q1,q2⟩ =>
 refine⟨_,(@AJ _ _ _ (@AX _ _ _ _ (IN (T.Xd P) (BN (v:=.ref T.Xf) rfl T.Xc rfl) (vv 0) ⟨by rfl,by rfl,by rfl,by rfl⟩))),?_⟩;refine⟨Sum.inr x,rfl,?_⟩;have pv:=Cd x;show Q ((Ap BG (Sum.inr x)).getD .non) H;cases hk:AS x with
 | some k=>rw[hk]at pv;rw[pv];exact q1 k hk
 | none=>rw[hk]at pv;rw[pv];exact q2 hk
theorem C6{f:Nat->Nat->Res Dv}:∀(j s g:Nat),dscL f (j+1) s g=(dscL f j s g).to (fun as L s' g'=>(f s' g').to (fun a M s'' g''=>.ok (as++[a]) (L++M) s'' g'') .bad) .bad
 | 0,s,g=>by
  show(match f s g with | .bad e=>_ | .ok a L s' g'=>_)=(f s g).to _ _
  cases f s g with
  | bad e=>rfl
  | ok a L s' g' =>
   show Res.ok [a] (L++[]) s' g'=Res.ok ([]++[a]) ([]++L) s' g';rw[Zc];rfl
 | j+1,s,g=>by
  rw[dscL];rw[dscL];cases f s g with
  | bad e=>rfl
  | ok a L s1 g1 =>
   dsimp only[Res.to];rw[C6 j s1 g1];cases dscL f j s1 g1 with
   | bad e=>rfl
   | ok as M s2 g2 =>
    dsimp only[Res.to];cases f s2 g2 with
    | bad e=>rfl
    | ok b N s3 g3 =>
     dsimp only[Res.to];rw[Zy];rfl
theorem Hb{f:Nat->Nat->Res Dv}{j e:Nat}(h:dscL f j s g=.bad e):∀m,dscL f (j+m) s g=.bad e
 | 0=>h
 | m+1=>by
  show dscL f (j+m+1) s g=_;rw[C6,Hb h m];rfl
theorem FE{f:Nat->Nat->Res Dv}{B:Nat}(hf:∀s g a L s' g',s<=B->f s g=.ok a L s' g'->s'<=B):∀(k s g:Nat) (as:List Dv) (L:List (Str × Nat)) (s' g':Nat),s<=B->dscL f k s g=.ok as L s' g'->s'<=B
 | 0,s,g,as,L,s',g',hs,h=>by
  unfold dscL at h;cases h;exact hs
 | k+1,s,g,as,L,s',g',hs,h=>by
  unfold dscL at h;cases e:f s g with
  | bad e'=>rw[e]at h;cases h
  | ok a L1 s1 g1 =>
   rw[e]at h;dsimp only at h;cases e2:dscL f k s1 g1 with
   | bad e'=>rw[e2]at h;cases h
   | ok as2 L2 s2 g2 =>
    rw[e2]at h;dsimp only at h;cases h;exact FE hf k s1 g1 _ _ _ _ (hf _ _ _ _ _ _ hs e) e2
theorem CG{pN fig:Str->Option Nat}{at':Str}{ws:List Str}:∀(F s g:Nat) (a:Dv) (L:List (Str × Nat)) (s' g':Nat),s<=ws.length->dsc pN fig at' ws F s g=.ok a L s' g'->s'<=ws.length
 | 0,s,g,a,L,s',g',hs,h=>by unfold dsc at h;cases h
 | F+1,s,g,a,L,s',g',hs,h=>by
  unfold dsc at h;split at h
  ·cases h
  ·rename_i x hx;split at h
   ·cases h
   ·rename_i k _;split at h
    ·cases h
    ·split at h
     ·split at h
      ·cases h
      ·rename_i y hy;split at h
       ·cases h
       ·cases h
        have:=(Zg.mp hy).1
        lia
     ·split at h
      ·cases h
      ·rename_i as L1 s1 g1 e;cases h
       have:=(Zg.mp hx).1
       exact FE (fun s g a L s' g'=>CG F s g a L s' g') k _ _ _ _ _ _ (by lia) e
theorem M8{pN fig:Str->Option Nat}{at':Str}{ws:List Str}{a:Dv}{L:List (Str × Nat)}{s' g':Nat}(h:dsc pN fig at' ws F s g=.ok a L s' g'):A5 a=true:=by
 have h1:=Cg pN fig at' ws F s g a L s' g' h [];have h2:=Cw at' (L++[]);rw[h1]at h2;unfold Aa at h2;rw[ZZ]at h2;exact h2.1
theorem GV{f:Nat->Nat->Res Dv}(hf:∀s g a L s' g',f s g=.ok a L s' g'->A5 a=true):∀(k s g:Nat) (as:List Dv) (L:List (Str × Nat)) (s' g':Nat),dscL f k s g=.ok as L s' g'->Aa as=true
 | 0,s,g,as,L,s',g',h=>by
  unfold dscL at h;cases h;rfl
 | k+1,s,g,as,L,s',g',h=>by
  unfold dscL at h;cases e:f s g with
  | bad e'=>rw[e]at h;cases h
  | ok a L1 s1 g1 =>
   rw[e]at h;dsimp only at h;cases e2:dscL f k s1 g1 with
   | bad e'=>rw[e2]at h;cases h
   | ok as2 L2 s2 g2 =>
    rw[e2]at h;dsimp only at h;cases h;unfold Aa;rw[hf _ _ _ _ _ _ e,GV hf k s1 g1 _ _ _ _ e2];rfl
theorem HH(h:AS x=some k):k<=3:=by
 unfold AS at h
 repeat' split at h
 all_goals first | (cases h;decide) | cases h | lia
noncomputable abbrev dsN(n:Nat)(ws:List Str):=dsc AS (AL n) atS ws
noncomputable def Bo(K:W.Frag)(C CT:Addr)(D:Nat):Sp:=fun vs H Q E=>match vs with
 | [.ref r,.int dp]=>∃(n:Nat) (ws:List Str) (s g:Nat) (dx lf lw:Addr) (F:Nat),RdrAt C H r n ws s g dx lf lw/\n<=6/\s<=ws.length/\dp+(F:Int)=9/\F < D/\(∀e,dsN n ws F s g=.bad e->Ref CT H e E r) /\
  ∀a L s' g',dsN n ws F s g=.ok a L s' g'->∀v H',Ym r H H'->RdrAt C H' r n ws s' g' dx lf lw->Yi K H' a v->Q v H'
 | _=>False
theorem Iw(D:Nat)(G_z0:FnOk P w K mg base (CXE P w) (D+4) T.z0.f T.z0.d ["self","depth"] (Bo K T.Yx T.Yw D)):FnOk P w K mg base (CXE P w) (D+5) T.z0.f T.z0.d ["self","depth"] (Bo K T.Yx T.Yw (D+1)):=by
 refine T.z0.F.okE sc_z0 (fun vs H Q E h=>by unfold Bo at h;walk_at "e") ?_;walk_at "f";have hr_z0:=hr;have hr_z10:=hr.mono (show 3<=D+4 by lia);have hr_z9:=hr.mono (show 4<=D+4 by lia);have hr_z23:=hr.mono (show 1<=D+4 by lia);have hr_z14:=hr.mono (show 1<=D+4 by lia);have hr1_z13:=hr.mono (show 1+1<=D+4 by lia)
 match vs,h with
 | [.ref r,.int dp],h =>
 obtain⟨n,ws,s,g,dx,lf,lw,F,R,hn,hs,hdp,hF,qE,q⟩:=h;refine⟨_,(@AE _ _ _ _ _ (@AI _ _ 2 _ _ _ _ sc_z0.nd rfl (by right) (CZ (vv 0) T.Yy T.z10.m (@Gh P w K mg base T) hr_z10 T.z10.b .nil CO) (by rfl) (by symm)) (@AE _ _ _ _ _ (PS.nox (@AI _ _ 3 _ _ _ _ sc_z0.nd rfl (by right) (AW (@MV P w K mg base T) hr_z23 rfl T.z23.m T.z23.F.kp T.z23.b .nil AU (AA (vv 2) AC)) (by rfl) (by symm))) (@AE _ _ _ _ _ (PS.nox (Bu T.Yy T.YJ (vv 0) (AF (AK (K:=K)) (At T.Yy T.YJ (vv 0)) AB))) (@AE _ _ _ _ _ (@Ag _ _ _ _ _ _ _ _ (PT.nox (PW.pt (BY (AQ JD (vv 3) FC) (CA (Cq (AW (@Lx P w K mg base T) hr_z14 rfl T.z14.m T.z14.F.kp T.z14.b .nil AU (AA (At T.Yy T.YJ (vv 0)) (AA (vv 1) AC)))))))) (@AJ _ _ _ (Cj (W:=fun _ od H=>E (.ref T.Yw) od H) T.Y1 (@C4 P w K mg base T) hr1_z13 T.z13.b (fun _ _ _ _ _ _ I e h0 q=>Ch I e h0 q) rfl rfl rfl T.Y0 (AA (At T.Yy T.Yz (vv 0)) AC))) Al) (@AE _ _ _ _ _ (PS.nox (Bu T.Yy T.Yz (vv 0) (AF (AK (K:=K)) (At T.Yy T.Yz (vv 0)) AB))) (@AE _ _ _ _ _ (@Ag _ _ _ _ _ _ _ _ (PT.nox (AQ (kEq (K:=K) hu) (vv 2) AH)) (@AJ _ _ _ (@AX _ _ _ _ (BJ (AA AH (AA (CZ (vv 0) T.Yy T.z9.m (@Mj P w K mg base T) hr_z9 T.z9.b .nil CO) AC))))) Al) (@AJ _ _ _ (@AX _ _ _ _ (CN (DW (K:=K)) rfl T.Y9 (by rfl) (AA (AF (AK (K:=K)) (Aq (AA (vv 2) AC)) (Jd (N':=["part","self","depth"]) (own:=1) (ix:=[0,1]) Kg rfl rfl rfl rfl (Dt rfl T.Y8 (AA (vv 3) AC)) (by kernel_rfl) rfl rfl (by kernel_rfl) (fun c=>Bi (i:=0) (show(["part","self","depth"]:List Str).Nodup by decide +kernel) rfl (by right)) (DX (by decide)) (fun c=>Dg) (fun c=>(Kk (vv 1) T.Yy T.z0.m G_z0 hr_z0 T.z0.b .nil (AA (AF (AK (K:=K)) (vv 2) AB) AC))))) AC)))))))))),?_⟩;refine⟨r,dx,_,rfl,R.o,rn1 _ _ _ _,n,ws,s,g,dx,lf,lw,R,hs,fun x hx=>?_,fun hx=>qE s ?_⟩;rotate_left
 ·cases F with
  | zero=>rfl
  | succ F=>show dsc _ _ _ _ _ _ _=_;unfold dsc;rw[hx]
 dsimp only[AV]
 have bad0:(F=0\/AS x=none\/20<=g)->dsN n ws F s g=.bad s:=fun z=>by
  cases F with
  | zero=>rfl
  | succ F =>
   show dsc _ _ _ _ _ _ _=_;unfold dsc;rw[hx];dsimp only[Res.to];cases hk:AS x with
   | none=>rfl
   | some k =>
    dsimp only[Res.to];rw[if_pos (by rcases z with z | z | z;cases z;rw[hk]at z;cases z;exact z)]
 have R1:=R.put s (g+1);have F1:Ym r H (upd H r (.ins T.Yx dx (rf (.ref lf) (.ref lw) (.int (s:Nat)) (.int ((g+1:Nat):Int))))):=Ym.updT;refine⟨fun k hk=>?_,fun hk=>?_⟩;rotate_left
 ·dsimp only[AV];refine⟨dx,_,_,R.o,rl4 _ _ _ _,dx,_,R.o,(show 4 < 1000 by decide),?_⟩;rw[rs4,show((g:Nat):Int)+1=((g+1:Nat):Int) by lia];exact⟨dx,_,_,R1.o,rl3 _ _ _ _,(show 1<=1000 by decide),CD ((qE s (bad0 (.inr (.inl hk)))).mv F1)⟩
 dsimp only[AV];refine⟨dx,_,_,R.o,rl4 _ _ _ _,dx,_,R.o,(show 4 < 1000 by decide),?_⟩;rw[rs4,show((g:Nat):Int)+1=((g+1:Nat):Int) by lia];generalize upd H r (.ins T.Yx dx (rf (.ref lf) (.ref lw) (.int (s:Nat)) (.int ((g+1:Nat):Int))))=H1 at *;refine⟨dx,_,_,R1.o,rl4 _ _ _ _,?_⟩
 show(if (decide ((20:Int) < ((g+1:Nat):Int)) || decide ((8:Int) < dp))=true then _ else _)
 refine AZ (fun e0=>?_) (fun e0=>?_)
 ·have hb:F=0\/AS x=none\/20<=g:=by
   rw[Z0,decide_eq_true_iff,decide_eq_true_iff]at e0;lia
  exact⟨dx,_,_,R1.o,rl3 _ _ _ _,(show 1<=1000 by decide),CD ((qE s (bad0 hb)).mv F1)⟩
 have hg:¬20<=g/\F≠0:=by
  rw[Z0,decide_eq_true_iff,decide_eq_true_iff]at e0;lia
 obtain⟨F,rfl⟩:∃F',F=F'+1:=⟨F - 1,by lia⟩;have hsl:=(Zg.mp hx).1;dsimp only[BD];refine⟨dx,_,_,R1.o,rl3 _ _ _ _,dx,_,R1.o,(show 4 < 1000 by decide),?_⟩;rw[rs3,show((s:Nat):Int)+1=((s+1:Nat):Int) by lia];have R2:=R1.put (s+1) (g+1);have F2:=F1.trans (Ym.updT (t:=r) (H:=H1) (o:=.ins T.Yx dx (rf (.ref lf) (.ref lw) (.int ((s+1:Nat):Int)) (.int ((g+1:Nat):Int)))));generalize upd H1 r (.ins T.Yx dx (rf (.ref lf) (.ref lw) (.int ((s+1:Nat):Int)) (.int ((g+1:Nat):Int))))=H2 at *;refine AZ (fun e2=>?_) (fun e2=>?_)
 ·have ex:x=atS:=Za ((B4 x).symm.trans e2);refine⟨r,dx,_,rfl,R2.o,rn3 _ _ _ _,n,ws,s+1,g+1,dx,lf,lw,R2,by lia,hn,fun y i hy hi H3 F3 R3=>?_,fun z=>?_⟩
  ·refine⟨smq rfl,fun p1 n1=>?_⟩;have S4:=Yf.upd (o:=.tup [.str (Str.ofString "at"),.int ((i:Nat):Int)]) n1;refine q (.tup [.str x,.int (i:Nat)]) [(x,i)] (s+2) (g+1) ?_ _ _ ((F2.trans F3).trans S4.frm) (R3.same S4) ?_
   ·show dsc _ _ _ _ _ _ _=_;unfold dsc;rw[hx];dsimp only[Res.to];rw[hk];dsimp only[Res.to];rw[if_neg hg.1,if_pos ex,hy];dsimp only[Res.to];rw[hi]
   ·rw[ex];exact A4 AD (AO A1 (AO Bf Ab))
  ·refine(qE (s+1) ?_).mv F2;show dsc _ _ _ _ _ _ _=_;unfold dsc;rw[hx];dsimp only[Res.to];rw[hk];dsimp only[Res.to];rw[if_neg hg.1,if_pos ex]
   rcases z with z | ⟨y,z,z'⟩
   ·rw[z]
   ·rw[z];dsimp only[Res.to];rw[z']
 have hw:¬x=atS:=fun z=>e2 ((B4 x).trans (Zh z))
 have ed:dsN n ws (F+1) s g=(dscL (dsN n ws F) k (s+1) (g+1)).to (fun as L s' g'=>.ok (.tup (.str x::as)) ((x,k)::L) s' g') .bad:=by
  show dsc _ _ _ _ _ _ _=_;rw[dsc,hx];dsimp only[Res.to];rw[hk];dsimp only[Res.to];rw[if_neg hg.1,if_neg hw];have e9:dscL (dsc AS (AL n) atS ws F) k (s+1) (g+1)=dscL (dsN n ws F) k (s+1) (g+1):=rfl;rw[e9];cases dscL (dsN n ws F) k (s+1) (g+1) <;> rfl
 have h3:=HH hk;dsimp only[BD];refine⟨smq rfl,fun p0 n0=>?_⟩;have S3:=Yf.upd (o:=.lst [.str x]) n0;have R3:=R2.same S3;have F3:=F2.trans S3.frm;have g3:upd H2 p0 (.lst [.str x]) p0=some (.lst [.str x]):=AD;generalize upd H2 p0 (.lst [.str x])=H3 at *;have n0r:p0≠r:=fun z=>by rw[z,R3.o]at g3;cases g3
 refine⟨((k:Nat):Int),rfl,by lia,by lia,?_⟩;have en:(((k:Nat):Int)).toNat=k:=by lia
 rw[en]
 refine NB (fun j ys H'=>Ym r H3 H'/\∃as L s' g',dscL (dsN n ws F) j (s+1) (g+1)=.ok as L s' g'/\s'<=ws.length/\RdrAt T.Yx H' r n ws s' g' dx lf lw/\Ye K H' as ys/\ys.length=j)
  ⟨Ym.refl,[],[],s+1,g+1,rfl,by lia,R3,Ab,rfl⟩ (fun j ys H' hj ⟨_,_,_,_,_,_,_,_,_,e⟩=>Bp (by lia)) ?_ ?_
 ·rintro j ys H4 hj ⟨F4,as,L,s',g',hd,hs',R4,hr4,hl4⟩;refine⟨r,dx,_,rfl,R4.o,rn2 _ _ _ _,n,ws,s',g',dx,lf,lw,F,R4,hn,hs',by lia,by lia,fun e he=>?_,fun a M s'' g'' ha v H5 F5 R5 r5=>?_⟩
  ·refine(qE e ?_).mv (F3.trans F4);rw[ed];have hb:dscL (dsN n ws F) (j+1) (s+1) (g+1)=.bad e:=by rw[C6,hd];dsimp only[Res.to];rw[he]
   have hb2:=Hb hb (k - (j+1));rw[show j+1+(k - (j+1))=k by lia]at hb2;rw[hb2];rfl
  ·refine⟨F4.trans F5,as++[a],L++M,s'',g'',?_,CG _ _ _ _ _ _ _ hs' ha,R5,?_,by rw[ZQ,hl4];rfl⟩
   ·rw[C6,hd];dsimp only[Res.to];rw[ha]
   ·exact(Ea F5 ⟨_,_,_,R4.o⟩ _ _ (GV (fun _ _ _ _ _ _ h=>M8 h) _ _ _ _ _ _ _ hd) hr4).append (AO r5 Ab)
 ·rintro ys H4 ⟨F4,as,L,s',g',hd,hs',R4,hr4,hl4⟩ l nl;have S5:=Yf.upd (o:=.lst ys) nl;have g5:=S5 _ _ (F4 _ _ n0r g3);have gl:upd H4 l (.lst ys) l=some (.lst ys):=AD;have R5:=R4.same S5;have r5:=Ye.same S5 _ _ hr4;have F5:=F3.trans (F4.trans S5.frm);generalize upd H4 l (.lst ys)=H5 at *;refine .inl ⟨p0,l,[.str x],ys,rfl,rfl,g5,gl,Ah (by show 1+ys.length<=1000;lia),fun p6 n6=>?_⟩;have S6:=Yf.upd (o:=.lst ([.str x]++ys)) n6;refine⟨[.str x]++ys,.inl ⟨.of AD,fun p7 n7=>?_⟩⟩;have S7:=S6.trans (Yf.upd (o:=.tup ([.str x]++ys)) n7);refine q _ ((x,k)::L) _ _ ?_ _ _ (F5.trans S7.frm) (R5.same S7) (A4 AD (AO A1 (Ye.same S7 _ _ r5)));rw[ed,hd];rfl
theorem Hd:∀D:Nat,FnOk P w K mg base (CXE P w) (D+4) T.z0.f T.z0.d ["self","depth"] (Bo K T.Yx T.Yw D)
 | 0=>by
  have no:∀vs H Q E,¬Bo K T.Yx T.Yw 0 vs H Q E:=fun vs H Q E h=>by
   unfold Bo at h;split at h
   ·obtain⟨_,_,_,_,_,_,_,_,_,_,_,_,z,_⟩:=h;exact absurd z (Nat.not_lt_zero _)
   ·exact h
  exact⟨fun vs H Q E h=>(no _ _ _ _ h).elim,fun A outer s H args us vs Q E _ _ _ _ h=>(no _ _ _ _ h).elim⟩
 | c+1=>Iw T c (Hd c)
theorem K5:FnOk P w K mg base (CXE P w) 14 T.z0.f T.z0.d ["self","depth"] (Bo K T.Yx T.Yw 10):=Hd T 10
noncomputable def rdN(n:Nat)(text:Str):Sum Nat Dv:=BC AS (AL n) atS (Txt.split text ⟨#[32]⟩) 8
noncomputable def Di(K:W.Frag)(CT:Addr):Sp:=fun vs H Q E=>match vs with
 | [.int z,.str text]=>∃n:Nat,z=n/\n<=6/\text.length<=1000/\(∀e,rdN n text=.inl e->∀d H',Yf H H'->H' d=some (XdO d (nT e))->E (.ref CT) (some d) H')/\∀a,rdN n text=.inr a->∀v H',Yf H H'->Yi K H' a v->Q v H'
 | _=>False
theorem JT:FnOk P w K mg base (CXE P w) 15 T.z24.f T.z24.d ["n","text"] (Di K T.Yw):=by
 refine T.z24.F.okE sc_z24 (fun vs H Q E h=>by unfold Di at h;walk_at "e") ?_;walk_at "f";have hr_z12:=hr.mono (show 1<=_ by decide);have hr1_z12:=hr.mono (show 1+1<=_ by decide);unfold Di at h;walk_at "g"
 rename_i z text;obtain⟨n,e1,hn,ht,qE,q⟩:=h;subst e1;refine⟨_,(@AE _ _ _ _ _ (PS.nox (@AI _ _ 2 _ _ _ _ sc_z24.nd rfl (by right) (Nb T.Y4 (@Ml P w K mg base T) hr1_z12 rfl T.Z0e T.z12.b .nil AU (AA (vv 0) (AA (vv 1) AC))) (by rfl) (by symm))) (@AE _ _ _ _ _ (@AI _ _ 3 _ _ _ _ sc_z24.nd rfl (by right) (MJ (vv 2) T.Yy T.z0.m (@K5 P w K mg base T) (hr.mono (show 14<=_ by decide)) T.z0.b .nil CO (AA AB AC)) (by rfl) (by symm)) (@AE _ _ _ _ _ (@CF _ _ _ _ (CZ (vv 2) T.Yy T.z11.m (@JV P w K mg base T) (hr.mono (show 3<=_ by decide)) T.z11.b .nil CO) (by rfl)) (@AJ _ _ _ (PS.nox (@AX _ _ _ _ (vv 3))))))),?_⟩;refine fun x dx hx hdx Yu=>⟨n,dx,rfl,hn,AD,ht,fun H1 lf lw F1 R1=>⟨rfl,?_⟩⟩
 dsimp only[AV]
 have sm:∀{H2},Ym x H1 H2->Yf H H2:=fun F2 b o e=>by
  have b1:b≠x:=fun z=>by rw[z,hx]at e;cases e
  have b2:b≠dx:=fun z=>by rw[z,hdx]at e;cases e
  refine F2 _ _ b1 (F1 _ _ b1 ?_);rw[AG b1,AG b2];exact e
 refine⟨x,dx,_,rfl,R1.o,rn2 _ _ _ _,n,_,0,0,dx,lf,lw,8,R1,hn,ZK _,by lia,by lia,fun e he d H2 F2 g2=>qE e ?_ d H2 (sm F2) g2,fun a L s' g' ha v H2 F2 R2 r2=>?_⟩
 ·have he:dsc AS (AL n) atS (Txt.split text ⟨#[32]⟩) 8 0 0=.bad e:=he;unfold rdN BC;rw[he]
 have ha':dsc AS (AL n) atS (Txt.split text ⟨#[32]⟩) 8 0 0=.ok a L s' g':=ha;dsimp only[AV];refine⟨x,dx,_,rfl,R2.o,rn4 _ _ _ _,n,_,s',g',dx,lf,lw,R2,CG _ _ _ _ _ _ _ (ZK _) ha,fun hs=>?_,fun hs d H3 F3 g3=>qE s' ?_ d H3 (sm (F2.trans F3)) g3⟩
 ·refine q a ?_ v H2 (sm F2) r2;unfold rdN BC;rw[ha'];dsimp only;rw[if_neg hs]
 ·unfold rdN BC;rw[ha'];dsimp only;rw[if_pos hs]
noncomputable def Dy(K:W.Frag):Sp:=fun vs H Q _=>match vs with
 | [.int z,.str text]=>∃n:Nat,z=n/\n<=6/\text.length<=1000/\(∀e,rdN n text=.inl e->∀H',Yf H H'->Q (.int (e:Nat)) H')/\∀a,rdN n text=.inr a->∀v H',Yf H H'->Yi K H' a v->Q v H'
 | _=>False
theorem Mb:Xa P w base T.z19 16 (Dy K):=by
 refine T.z19.F.ok sc_z19 (fun vs H Q E h=>by unfold Dy at h;walk_at "e") ?_;walk_at "f";unfold Dy at h;walk_at "g"
 rename_i z text;obtain⟨n,e1,hn,ht,qE,q⟩:=h;refine⟨_,(@AE _ _ _ _ _ (@AI _ _ 2 _ _ _ _ sc_z19.nd rfl (by right) FC (by rfl) (by symm)) (@AE _ _ _ _ _ (Lc (i:=2) (j:=3) sc_z19.nd rfl (by right) rfl rfl rfl rfl rfl T.Z0a (LP (@JT P w K mg base T) (hr.mono (show 15<=_ by decide)) rfl T.z24.m T.z24.F.kp T.z24.b .nil (AA (vv 0) (AA (vv 1) AC))) (fun _=>(@AE _ _ _ _ _ (@AI _ _ 4 _ _ _ _ sc_z19.nd rfl (by right) (Am (Ey (K:=K)) rfl T.YQ (by rfl) (AA (vv 3) (AA (BJ (AA (BN (v:=.ref T.YX) rfl T.Z0h rfl) (AA (BN (v:=.ref T.YY) rfl T.Z0f rfl) (AA (BN (v:=.ref T.YR) rfl T.Z0d rfl) (AA (BN (v:=.ref T.YW) rfl T.Z0g rfl) (AA (BN (v:=.ref T.YE) rfl T.Z0b rfl) (AA (BN (v:=.ref T.YD) rfl T.Z0c rfl) AC))))))) AC))) (by rfl) (by symm)) (@AJ _ _ _ (@AI _ _ 2 _ _ _ _ sc_z19.nd rfl (by right) (DV (PW.pt (Cr (Cq (Am (Ey (K:=K)) rfl T.YQ (by rfl) (AA (vv 3) (AA (BN (v:=.ref T.Yw) rfl T.Y0 rfl) AC)))) (Cr (Cq (Am (Ey (K:=K)) rfl T.YQ (by rfl) (AA (vv 3) (AA (KD (v:=.ty "ValueError") rfl T.YZ (by rfl) rfl) AC)))) (Ev (Iz (Cq (vv 4))))))) (Le (K:=K) (vv 3)) AH) (by rfl) (by symm)))))) (@AJ _ _ _ (@AX _ _ _ _ (vv 2))))),?_⟩;refine⟨n,e1,hn,ht,fun e he d H' s1 gd=>⟨T.YB,fun x hx=>?_⟩,fun a ha v H' s1 r1=>?_⟩;rotate_left
 ·show Q v H';exact q a ha v H' s1 r1
 have dx:d≠x:=fun z=>by rw[z,hx]at gd;cases gd
 have e0:ExcAt (upd H' x (BH x (.ref T.Yw) (some d))) x T.Yw (some d):=⟨AD,fun d' e=>by cases e;exact⟨_,by rw[AG dx];exact gd⟩⟩;have g0:upd H' x (BH x (.ref T.Yw) (some d)) d=some (XdO d (nT e)):=by rw[AG dx];exact gd
 have sx:Yf H (upd H' x (BH x (.ref T.Yw) (some d))):=s1.trans (Yf.upd hx);generalize upd H' x (BH x (.ref T.Yw) (some d))=H2 at *;refine⟨(show 6<=sizeLine by decide),fun p hp=>?_⟩;have s3:=Yf.upd (o:=.tup ([T.YX,T.YY,T.YR,T.YW,T.YE,T.YD].map V.ref)) hp;have g3:upd H2 p (.tup ([T.YX,T.YY,T.YR,T.YW,T.YE,T.YD].map V.ref)) p=some (.tup ([T.YX,T.YY,T.YR,T.YW,T.YE,T.YD].map V.ref)):=AD;have e3:ExcAt (upd H2 p (.tup ([T.YX,T.YY,T.YR,T.YW,T.YE,T.YD].map V.ref))) x T.Yw (some d):=⟨s3 _ _ e0.1,fun d' z=>let ⟨o,g⟩:=e0.2 d' z;⟨o,s3 _ _ g⟩⟩;refine⟨T.Yw,some d,false,e3,T.Y7,.inr ⟨[T.YX,T.YY,T.YR,T.YW,T.YE,T.YD],g3,?_⟩,?_⟩
 ·simp only[List.map,W.kitAny,T.YK,T.YO,T.YG,T.YL,T.YF,T.YC]
 refine⟨T.Yw,some d,true,e3,T.Y7,.inl T.YH,?_⟩;refine⟨T.Yw,some d,true,e3,T.Y7,T.YA,?_⟩;refine⟨_,d,_,_,e3,s3 _ _ g0,T.Y7,T.Y3,T.Y6,rfl,?_⟩;exact qE e he _ (sx.trans s3)
theorem Fq(h:i < 6):(dgS i).length=1:=by
 have all:∀i:Fin 6,(dgS i).length=1:=by decide
 exact all ⟨i,h⟩
theorem FK(h:i < 6):dgS i=⟨#[48+i]⟩:=by
 have all:∀i:Fin 6,dgS i=⟨#[48+i.val]⟩:=by decide
 exact all ⟨i,h⟩
theorem Kj(h:n<=6):(Bl (Str.ofString "012345") none (some (n:Int))).cps.toList=(List.range n).map fun i=>48+i:=by
 have all:∀n:Fin 7,(Bl (Str.ofString "012345") none (some ((n.val:Nat):Int))).cps.toList=(List.range n.val).map fun i=>48+i:=by decide
 exact all ⟨n,by lia⟩
theorem IY(hn:n<=6)(h:AL n y=some i):y.length=1:=by
 obtain⟨hi,rfl⟩:=Bx h;exact Fq (by lia)
theorem KU(h:y.length=1):∃c,y=⟨#[c]⟩:=by
 obtain⟨⟨l⟩⟩:=y;have h:l.length=1:=h
 match l,h with
 | [c],_=>exact⟨c,rfl⟩
theorem Lo(hn:n<=6)(h:y.length=1):inS y (Bl (Str.ofString "012345") none (some (n:Int)))=(AL n y).isSome:=by
 obtain⟨c,rfl⟩:=KU h;rw[LU,Kj hn];cases hf:AL n ⟨#[c]⟩ with
 | some i =>
  obtain⟨hi,e⟩:=Bx hf;rw[FK (by lia)]at e
  have e:48+i=c:=by
   have:=congrArg (fun s:Str=>s.cps.toList) e
   simpa using this
  rw[ZBG,decide_eq_true_iff];exact Z4.mpr ⟨i,Z2.mpr hi,e⟩
 | none =>
  rw[Option.isSome_none,decide_eq_false_iff_not];intro z;obtain⟨i,hi,rfl⟩:=Z4.mp z;have hi:=Z2.mp hi;exact FS hf hi (FK (by lia))
theorem Hy(hn:n<=6)(h:AL n y=some i):intText? y=some ((i:Nat):Int):=by
 obtain⟨hi,rfl⟩:=Bx h;exact W.KIN.num_reads (Int.natCast_nonneg i) (by lia)
theorem M9(h:AS x=some k):Aw (.str x)=true/\x.cps.size<=6:=by
 unfold AS at h
 repeat' split at h
 all_goals first | (rename_i z;subst z;decide) | cases h
structure Sml(F:Nat)(a:Dv)(g g':Nat):Prop where
 n:Aw a=true
 b:A2 a+1+12 * g<=12 * g'
 d:AN a<=F
 g:g<=20->g'<=20
structure Smls(F:Nat)(as:List Dv)(g g':Nat):Prop where
 n:BR as=true
 b:BZ as+12 * g<=12 * g'
 d:Az as<=F
 g:g<=20->g'<=20
theorem Gv{f:Nat->Nat->Res Dv}(hf:∀s g a L s' g',f s g=.ok a L s' g'->Sml F a g g'):∀(k s g:Nat) (as:List Dv) (L:List (Str × Nat)) (s' g':Nat),dscL f k s g=.ok as L s' g'->Smls F as g g'
 | 0,s,g,as,L,s',g',h=>by
  unfold dscL at h;cases h;exact⟨rfl,by show 0+_<=_;lia,ZK _,fun h=>h⟩
 | k+1,s,g,as,L,s',g',h=>by
  unfold dscL at h;cases e:f s g with
  | bad e'=>rw[e]at h;cases h
  | ok a L1 s1 g1 =>
   rw[e]at h;dsimp only at h;cases e2:dscL f k s1 g1 with
   | bad e'=>rw[e2]at h;cases h
   | ok as2 L2 s2 g2 =>
    rw[e2]at h;dsimp only at h;cases h;have h1:=hf _ _ _ _ _ _ e;have h2:=Gv hf k s1 g1 _ _ _ _ e2;refine⟨?_,?_,?_,fun h=>h2.g (h1.g h)⟩
    ·unfold BR;rw[h1.n,h2.n];rfl
    ·have:=h1.b;have:=h2.b
     show A2 a+1+BZ as2+_<=_;lia
    ·unfold Az;have:=h1.d;have:=h2.d;lia
theorem HM{ws:List Str}(hn:n<=6):∀(F s g:Nat) (a:Dv) (L:List (Str × Nat)) (s' g':Nat),dsN n ws F s g=.ok a L s' g'->Sml (F+1) a g g'
 | 0,s,g,a,L,s',g',h=>by unfold dsN dsc at h;cases h
 | F+1,s,g,a,L,s',g',h=>by
  unfold dsN dsc at h;split at h
  ·cases h
  ·rename_i x _;split at h
   ·cases h
   ·rename_i k hk;obtain⟨w1,w2⟩:=M9 hk;split at h
    ·cases h
    ·rename_i hg;split at h
     ·split at h
      ·cases h
      ·split at h
       ·cases h
       ·rename_i i hi;cases h;have hi:=(Bx hi).1;have all:∀i:Fin 6,Bq ((i.val:Nat):Int)=true:=by decide
        refine⟨?_,?_,?_,fun h=>by lia⟩
        ·show(Aw (.str x) && (Bq (i:Nat) && true))=true
         rw[w1,all ⟨i,by lia⟩];rfl
        ·show(x.cps.size+1+(0+1+0))+1+_<=_
         lia
        ·show AN (.tup [.str x,.int (i:Nat)])<=_;simp[AN,Az]
     ·split at h
      ·cases h
      ·rename_i as L1 s1 g1 e;cases h;have h2:=Gv (fun s g a L s' g'=>HM hn F s g a L s' g') k _ _ _ _ _ _ e;refine⟨?_,?_,?_,fun h=>h2.g (by lia)⟩
       ·show(Aw (.str x) && BR as)=true
        rw[w1,h2.n];rfl
       ·have:=h2.b
        show(x.cps.size+1+BZ as)+1+_<=_
        lia
       ·have:=h2.d
        simp only[AN,Az];lia
theorem dscL_bad_le{f:Nat->Nat->Res Dv}{B:Nat}(hf:∀s g a L s' g',s<=B->f s g=.ok a L s' g'->s'<=B)(hb:∀s g e,s<=B->f s g=.bad e->e<=B):∀(k s g e:Nat),s<=B->dscL f k s g=.bad e->e<=B
 | 0,s,g,e,hs,h=>by unfold dscL at h;cases h
 | k+1,s,g,e,hs,h=>by
  unfold dscL at h;cases e1:f s g with
  | bad e'=>rw[e1]at h;cases h;exact hb _ _ _ hs e1
  | ok a L1 s1 g1 =>
   rw[e1]at h;dsimp only at h;cases e2:dscL f k s1 g1 with
   | bad e'=>rw[e2]at h;cases h;exact dscL_bad_le hf hb k s1 g1 _ (hf _ _ _ _ _ _ hs e1) e2
   | ok as2 L2 s2 g2=>rw[e2]at h;cases h
theorem Hf{pN fig:Str->Option Nat}{at':Str}{ws:List Str}:∀(F s g e:Nat),s<=ws.length->dsc pN fig at' ws F s g=.bad e->e<=ws.length
 | 0,s,g,e,hs,h=>by unfold dsc at h;cases h;exact hs
 | F+1,s,g,e,hs,h=>by
  unfold dsc at h;split at h
  ·cases h;exact hs
  ·rename_i x hx;have hx:=(Zg.mp hx).1;split at h
   ·cases h;exact hs
   ·split at h
    ·cases h;exact hs
    ·split at h
     ·split at h
      ·cases h;lia
      ·split at h
       ·cases h;lia
       ·cases h
     ·split at h
      ·rename_i e1;cases h;exact dscL_bad_le (fun s g a L s' g'=>CG F s g a L s' g') (fun s g e=>Hf F s g e) _ _ _ _ (by lia) e1
      ·cases h
theorem LM{ws:List Str}(hn:n<=6):(∀e,BC AS (AL n) atS ws 8=.inl e->e<=ws.length)/\∀a,BC AS (AL n) atS ws 8=.inr a->Aw a=true/\A2 a<=8000/\AN a<=60:=by
 unfold BC;cases e:dsc AS (AL n) atS ws 8 0 0 with
 | bad e' =>
  refine⟨fun e'' h=>?_,fun a h=>by cases h⟩;cases h;exact Hf _ _ _ _ (ZK _) e
 | ok a L s g =>
  dsimp only;have h1:=HM hn _ _ _ _ _ _ _ e;have h2:=CG _ _ _ _ _ _ _ (ZK _) e;have h3:=h1.b;have h4:=h1.d;have h5:=h1.g (by lia);refine⟨fun e'' h=>?_,fun a' h=>?_⟩
  ·split at h <;> cases h
   exact h2
  ·split at h <;> cases h
   exact⟨h1.n,by lia,by lia⟩
theorem LQ{ws:List Str}(h:wlk AS (AL n) atS ws [F] 0 0 []=.inr M):A7 atS M:=by
 unfold wlk at h;cases e:dsc AS (AL n) atS ws F 0 0 with
 | bad e'=>rw[e]at h;cases h
 | ok a L s g =>
  rw[e]at h;dsimp only at h;unfold wlk at h;split at h
  ·cases h
  ·cases h
   have:=GG AS (AL n) atS ws _ _ _ _ _ _ _ e [] trivial
   rw[Zc]at this;exact this
noncomputable def awV(fs:List Nat):List V:=fs.reverse.map fun F:Nat=>V.int (9 - (F:Int))
noncomputable def awD(fs:List Nat):List Dv:=fs.reverse.map fun F:Nat=>Dv.int (9 - (F:Int))
theorem Jx(F:Nat)(st:List Nat):awV (F::st)=awV st++[.int (9 - (F:Int))]:=by
 unfold awV;rw[Zq,Zm];rfl
theorem Me(k F:Nat)(st:List Nat):awV (List.replicate k F++st)=awV st++List.replicate k (.int (9 - (F:Int))):=by
 unfold awV;rw[List.reverse_append,Zm,List.reverse_replicate,List.map_replicate]
theorem L6(fs:List Nat):(awV fs).length=fs.length:=by unfold awV;rw[ZF,List.length_reverse]
theorem Ij(fs:List Nat):Ye K H (awD fs) (awV fs):=by
 unfold awD awV;generalize fs.reverse=l
 induction l with
 | nil=>exact Ab
 | cons F l ih=>exact AO Bf ih
theorem Mt(ds:List Dv):eqD (.lst ds) (.lst [])=ds.isEmpty:=by
 cases ds <;> simp[eqD,As]
noncomputable def E2(K:W.Frag):Sp:=fun vs H Q _=>match vs with
 | [.int z,.ref l]=>∃(n:Nat) (ws:List Str),z=n/\n<=6/\H l=some (.lst (ws.map V.str))/\(∀x∈ws,x.length<=1000)/\(∀e,BC AS (AL n) atS ws 8=.inl e->∀H',Yf H H'->Q (.int (e:Nat)) H') /\
  ∀a,BC AS (AL n) atS ws 8=.inr a->∀v H',Yf H H'->Yi K H' a v->Q v H'
 | _=>False
structure Wk(K:W.Frag)(H H':Hp)(aw dc ld:Addr)(fs:List Nat)(M:List (Str × Nat)):Prop where
 na:H aw=none
 nl:H ld=none
 sm:Yf H H'
 d:H' dc=some (.dK BG)
 a:H' aw=some (.lst (awV fs))
 l:∃zs,H' ld=some (.lst zs)/\Ye K H' (M.map eD) zs
 ne:ld≠aw
theorem GY(M:List (Str × Nat)):Aa (M.map eD)=true:=by
 induction M with
 | nil=>rfl
 | cons e M ih=>rw[ZY];unfold Aa;rw[ih];rfl
theorem Wk.same{H1 H2:Hp}{aw dc ld:Addr}{fs:List Nat}(h:Wk K H H1 aw dc ld fs M)(s:Yf H1 H2):Wk K H H2 aw dc ld fs M:=by
 obtain⟨zs,z1,z2⟩:=h.l;exact⟨h.na,h.nl,h.sm.trans s,s _ _ h.d,s _ _ h.a,⟨zs,s _ _ z1,Ye.same s _ _ z2⟩,h.ne⟩
theorem Wk.aw{H1:Hp}{aw dc ld:Addr}{fs fs':List Nat}(h:Wk K H H1 aw dc ld fs M):Wk K H (upd H1 aw (.lst (awV fs'))) aw dc ld fs' M:=by
 obtain⟨zs,z1,z2⟩:=h.l;have f:Ym aw H1 (upd H1 aw (.lst (awV fs'))):=Ym.updT;exact⟨h.na,h.nl,fun b o e=>f _ _ (A8 e h.na) (h.sm _ _ e),f _ _ (E1 h.d h.a (by intro z;cases z)) h.d,AD,⟨zs,f _ _ h.ne z1,Ye.frm f ⟨_,h.a⟩ _ _ (GY _) z2⟩,h.ne⟩
theorem Wk.ld{H1:Hp}{aw dc ld p:Addr}{fs:List Nat}{zs:List V}{e:Str × Nat}(h:Wk K H H1 aw dc ld fs M)(z1:H1 ld=some (.lst zs))(z2:Ye K H1 (M.map eD) zs)(hp:Yi K H1 (eD e) (.ref p)):Wk K H (upd H1 ld (.lst (zs++[.ref p]))) aw dc ld fs (M++[e]):=by
 have f:Ym ld H1 (upd H1 ld (.lst (zs++[.ref p]))):=Ym.updT;refine⟨h.na,h.nl,fun b o e=>f _ _ (A8 e h.nl) (h.sm _ _ e),f _ _ (E1 h.d z1 (by intro z;cases z)) h.d,f _ _ h.ne.symm h.a,⟨_,AD,?_⟩,h.ne⟩
 have:=Ye.frm f ⟨_,z1⟩ _ _ (GY _) (z2.append (AO hp Ab) |> fun z=>(by rw[Zm];exact z:Ye K H1 ((M++[e]).map eD) _))
 exact this
theorem LS(fs:List Nat):AN (.lst (awD fs))<=60:=by
 have:Az (awD fs)<=1:=by
  unfold awD;generalize fs.reverse=l
  induction l with
  | nil=>exact ZK _
  | cons F l ih=>rw[ZY];unfold Az;have:AN (Dv.int (9 - (F:Int)))<=1:=by simp[AN]
                 lia
 unfold AN;lia
theorem Ir:Xa P w base T.z16 2 (E2 K):=by
 refine T.z16.F.ok sc_z16 (fun vs H Q E h=>by unfold E2 at h;walk_at "e") ?_;walk_at "f";unfold E2 at h;walk_at "g"
 rename_i l;obtain⟨n,ws,e1,hn,hl,hwx,qE,q⟩:=h;subst e1;obtain⟨RW1,RW2⟩:=Ll AS (AL n) atS ws 8;refine⟨_,(@AE _ _ _ _ _ (@AI _ _ 2 _ _ _ _ sc_z16.nd rfl (by right) (MP (Bj AH AB (Bj AH AB (Bj AH AB (Bj AH AB (Bj AH AB (Bj AH AB (Bj AH AB (Bj AH AB Ki)))))))) rfl rfl (by simp) (by decide)) (by rfl) (by symm)) (@AE _ _ _ _ _ (@AI _ _ 3 _ _ _ _ sc_z16.nd rfl (by right) (@Aq _ _ _ _ (AA AB AC)) (by rfl) (by symm)) (@AE _ _ _ _ _ (@AI _ _ 4 _ _ _ _ sc_z16.nd rfl (by right) AB (by rfl) (by symm)) (@AE _ _ _ _ _ (@AI _ _ 5 _ _ _ _ sc_z16.nd rfl (by right) AB (by rfl) (by symm)) (@AE _ _ _ _ _ (@AI _ _ 6 _ _ _ _ sc_z16.nd rfl (by right) (@Aq _ _ _ _ AC) (by rfl) (by symm)) (@AE _ _ _ _ _ (@Jh _ _ _ _ _ _ PassesOwn.never (AQ (kNe (K:=K) hu) (vv 3) (@Aq _ _ _ _ AC)) (@AE _ _ _ _ _ (@AI _ _ 7 _ _ _ _ sc_z16.nd rfl (by right) (Jb (K:=K) (vv 3)) (by rfl) (by symm)) (@AE _ _ _ _ _ (@AI _ _ 4 _ _ _ _ sc_z16.nd rfl (by right) (AF (AK (K:=K)) (vv 4) AB) (by rfl) (by symm)) (@AE _ _ _ _ _ (@Ag _ _ _ _ _ _ _ _ (PW.pt (BY (AQ (kEq (K:=K) hu) (vv 5) (Am (A6 (K:=K)) rfl T.Y5 (by rfl) (AA (vv 1) AC))) (BY (AQ (Md hu) (Yt (K:=K) (vv 1) (vv 5)) (vv 2)) (BY (AQ Bk (vv 7) AB) (CA (AQ Bk (vv 4) AB)))))) (@AJ _ _ _ (@AX _ _ _ _ (vv 5))) Al) (@AE _ _ _ _ _ (@AI _ _ 8 _ _ _ _ sc_z16.nd rfl (by right) (Yt (K:=K) (vv 1) (vv 5)) (by rfl) (by symm)) (@AE _ _ _ _ _ (@AI _ _ 5 _ _ _ _ sc_z16.nd rfl (by right) (AF (AK (K:=K)) (vv 5) AB) (by rfl) (by symm)) (@AE _ _ _ _ _ (@Ag _ _ _ _ _ _ _ _ (AQ (kEq (K:=K) hu) (vv 8) AH) (@AE _ _ _ _ _ (@Ag _ _ _ _ _ _ _ _ (PW.pt (BY (AQ (kEq (K:=K) hu) (vv 5) (Am (A6 (K:=K)) rfl T.Y5 (by rfl) (AA (vv 1) AC))) (BY (AQ (kNe (K:=K) hu) (Am (A6 (K:=K)) rfl T.Y5 (by rfl) (AA (Yt (K:=K) (vv 1) (vv 5)) AC)) AB) (CA (AQ KA (Yt (K:=K) (vv 1) (vv 5)) (BV (K:=K) AH BA (BB (vv 0)))))))) (@AJ _ _ _ (@AX _ _ _ _ (vv 5))) Al) (@AE _ _ _ _ _ (@CF _ _ _ _ (DF (K:=K) (vv 6) (AA (BJ (AA AH (AA (CN Mr rfl T.Xg (by rfl) (AA (Yt (K:=K) (vv 1) (vv 5)) AC)) AC))) AC)) (by rfl)) (@AJ _ _ _ (@AI _ _ 5 _ _ _ _ sc_z16.nd rfl (by right) (AF (AK (K:=K)) (vv 5) AB) (by rfl) (by symm))))) (@AJ _ _ _ (@CF _ _ _ _ (DF (K:=K) (vv 6) (AA (BJ (AA (vv 8) (AA (GW (EG hu) (vv 2) (vv 8) (by intro _ _;rfl)) AC))) AC)) (by rfl)))) (@AJ _ _ _ (@AI _ _ 3 _ _ _ _ sc_z16.nd rfl (by right) (AF (AK (K:=K)) (vv 3) (AF CH (@Aq _ _ _ _ (AA (AF (AK (K:=K)) (vv 7) AB) AC)) (GW (EG hu) (vv 2) (vv 8) (by intro _ _;rfl)))) (by rfl) (by symm)))))))))) (@AJ _ _ _ (@AX _ _ _ _ (DV (AQ BP (vv 5) (Am (A6 (K:=K)) rfl T.Y5 (by rfl) (AA (vv 1) AC))) (vv 5) (AW (@Jz P w K mg base T) (hr.mono (show 1<=_ by decide)) rfl T.z17.m T.z17.F.kp T.z17.b .nil AU (AA (vv 6) AC))))))))))),?_⟩;refine fun dc nd=>⟨AD,BG,rfl,by decide,?_⟩
 have ek:Ba [] BG=BG:=rfl;have s1:Yf H (upd (upd H dc (.dK [])) dc (.dK (Ba [] BG))):=fun b o e=>by rw[AG (A8 e nd),AG (A8 e nd)];exact e
 have g1:upd (upd H dc (.dK [])) dc (.dK (Ba [] BG)) dc=some (.dK BG):=by rw[ek];exact AD
 generalize upd (upd H dc (.dK [])) dc (.dK (Ba [] BG))=H1 at *;dsimp only[AV];refine⟨smq rfl,fun aw na=>?_⟩;dsimp only[AV];have s2:=Yf.upd (o:=.lst [.int 1]) na;have ga:upd H1 aw (.lst [.int 1]) aw=some (.lst [.int 1]):=AD;generalize upd H1 aw (.lst [.int 1])=H2 at *;refine⟨ZK _,fun ld nl=>?_⟩;dsimp only[AV];have s3:=Yf.upd (o:=.lst []) nl;have gl:upd H2 ld (.lst []) ld=some (.lst []):=AD;generalize upd H2 ld (.lst [])=H3 at *;have I0:Wk K H H3 aw dc ld [8] []:=⟨s1.free na,(s1.trans s2).free nl,(s1.trans s2).trans s3,s3 _ _ (s2 _ _ g1),s3 _ _ ga,⟨[],gl,Ab⟩,fun z=>by rw[z,ga]at nl;cases nl⟩
 refine⟨fun m σ H'=>∃(aw ld:Addr) (fs:List Nat) (g s:Nat) (M:List (Str × Nat)) (z7 z8:Option V),m=21 - g/\σ=[some (.int (n:Nat)),some (.ref l),some (.ref dc),some (.ref aw),some (.int (g:Nat)),some (.int (s:Nat)),some (.ref ld),z7,z8]/\Wk K H H' aw dc ld fs M /\
  g<=20/\s<=ws.length/\(∀F∈fs,F<=8)/\fs.length<=3 * g+1/\M.length<=g/\wlk AS (AL n) atS ws fs s g M=wlk AS (AL n) atS ws [8] 0 0 [],⟨21,aw,ld,[8],0,0,[],none,none,rfl,rfl,I0,by decide,ZK _,by simp,by decide,by decide,rfl⟩,?_⟩
 clear I0 s1 s2 s3 g1 ga gl na nl;rintro m σ H4 ⟨aw,ld,fs,g,s,M,z7,z8,rfl,rfl,I,hg,hs,h8,hf,hM,hW⟩;refine⟨ZK _,fun p0 n0=>?_⟩;have I1:=I.same (Yf.upd (o:=.lst []) n0);have g0:upd H4 p0 (.lst []) p0=some (.lst []):=AD;generalize upd H4 p0 (.lst [])=H5 at *;clear I;refine⟨.lst (awD fs),.lst [],by unfold Yi;exact⟨aw,_,rfl,.of I1.a,Ij fs⟩,by unfold Yi;exact⟨p0,_,rfl,.of g0,Ab⟩,LS fs,?_⟩
 show(if (true ^^ eqD (.lst (awD fs)) (.lst []))=true then _ else _)
 rw[Mt];have gw:=I1.sm _ _ hl;cases fs with
 | nil =>
  refine Dn ?_;obtain⟨zs,z1,z2⟩:=I1.l;refine⟨_,.inl ⟨_,.of gw,rfl⟩,?_⟩;unfold wlk at hW;refine AZ (fun e=>?_) (fun e=>?_)
  ·have e':((s:Nat):Int) < (((ws.map V.str).length:Nat):Int):=Za e;rw[ZF]at e';rw[if_pos (by lia)]at hW;exact qE s (RW1 s hW.symm) _ I1.sm
  ·have e':¬((s:Nat):Int) < (((ws.map V.str).length:Nat):Int):=fun z=>e (Zh z)
   rw[ZF]at e';rw[if_neg (by lia)]at hW;obtain⟨a,b1,b2⟩:=RW2 M hW.symm;exact⟨zs,M,a,z1,z2,by lia,LQ hW.symm,b1,fun v H' s' r'=>q a b2 v H' (I1.sm.trans s') r'⟩
 | cons F st =>
 have eF:(true ^^ (awD (F::st)).isEmpty)=true:=by unfold awD;rw[Zq,Zm];cases st.reverse <;> rfl
 rw[eF];refine JX ?_;refine⟨.inl ⟨rfl,_,.of I1.a⟩,awV st,.int (9 - (F:Int)),by rw[<- Jx];exact I1.a,?_⟩;dsimp only[AV];have I2:=I1.aw (fs':=st);have gw2:=I2.sm _ _ hl;clear I1;generalize upd H5 aw (.lst (awV st))=H6 at *;have F8:=h8 F (by simp);have hst:∀F∈st,F<=8:=fun G hG=>h8 G (ZS _ hG)
 rw[ZV]at hf;have bad:(F=0\/ws[s]? = none\/(∃x,ws[s]? = some x/\AS x=none)\/20<=g)->Q (.int (s:Nat)) H6:=fun z=>qE s (RW1 s (hW.symm.trans (JN _ _ _ _ z))) _ I2.sm
 refine⟨_,.inl ⟨_,.of gw2,rfl⟩,?_⟩;refine AZ (fun e=>?_) (fun e=>?_)
 ·have e':(false ^^ (((s:Nat):Int) == (((ws.map V.str).length:Nat):Int)))=true:=e;rw[Ze,beq_iff_eq,ZF]at e';exact bad (.inr (.inl (ZBI (by lia))))
 have e':¬(false ^^ (((s:Nat):Int) == (((ws.map V.str).length:Nat):Int)))=true:=e;rw[Ze,beq_iff_eq,ZF]at e';have Yo:s < ws.length:=by lia
 have hx:=ZN Yo;generalize ws[s]=x at hx;clear e e';have ax:atI (ws.map V.str) ((s:Nat):Int)=some (.str x):=BX (n:=s) rfl (by rw[Zj,hx];rfl);refine⟨_,_,.inl (.of gw2),ax,_,DGet.k (k:=Sum.inr x) I2.d,?_⟩;rw[Cd];cases hk:AS x with
 | none =>
  exact bad (.inr (.inr (.inl ⟨x,hx,hk⟩)))
 | some k =>
 refine AZ (fun e=>?_) (fun e=>?_)
 ·have e':(8:Int) < 9 - (F:Int):=Za e;exact bad (.inl (by lia))
 have e':¬(8:Int) < 9 - (F:Int):=fun z=>e (Zh z)
 obtain⟨F,rfl⟩:∃F',F=F'+1:=⟨F - 1,by lia⟩;clear e e';refine AZ (fun e=>?_) (fun e=>?_)
 ·have e':(20:Int) < (g:Nat)+1:=Za e;exact bad (.inr (.inr (.inr (by lia))))
 have e':¬(20:Int) < (g:Nat)+1:=fun z=>e (Zh z)
 have hg2:¬20<=g:=by lia
 clear e e' bad;dsimp only[BD];refine⟨_,_,.inl (.of gw2),ax,?_⟩;dsimp only[AV];have es:((s:Nat):Int)+1=((s+1:Nat):Int):=by lia
 have eg:((g:Nat):Int)+1=((g+1:Nat):Int):=by lia
 have ed:9 - ((F+1:Nat):Int)+1=9 - (F:Int):=by lia
 have h3:=HH hk;refine BO (fun σ H'=>σ=[some (.int (n:Nat)),some (.ref l),some (.ref dc),some (.ref aw),some (.int (((g:Nat):Int)+1)),some (.int (((s:Nat):Int)+1)),some (.ref ld),some (.int (9 - ((F+1:Nat):Int))),some (.str x)]/\H'=H6) ⟨rfl,rfl⟩ ?_ (by walk_at "sm");rintro _ H6 ⟨rfl,rfl⟩;rw[es,eg]
 refine BO (fun σ H'=>∃(s':Nat) (M':List (Str × Nat)),σ=[some (.int (n:Nat)),some (.ref l),some (.ref dc),some (.ref aw),some (.int ((g+1:Nat):Int)),some (.int (s':Nat)),some (.ref ld),some (.int (9 - ((F+1:Nat):Int))),some (.str x)]/\Wk K H H' aw dc ld st M' /\
  s'<=ws.length/\M'.length<=g+1/\wlk AS (AL n) atS ws (List.replicate k F++st) s' (g+1) M'=wlk AS (AL n) atS ws [8] 0 0 []) ?_ ?_ (by walk_at "sm")
 ·refine AZ (fun e=>?_) (fun e=>?_)
  ·have ex:x=atS:=Za ((B4 x).symm.trans e)
   have k0:k=0:=by
    rw[ex]at hk
    have:AS atS=some 0:=by decide
    rw[this]at hk;cases hk;rfl
   have bad:(ws[s+1]? = none\/∃y,ws[s+1]? = some y/\AL n y=none)->Q (.int ((s+1:Nat):Int)) H6:=fun z=>qE (s+1) (RW1 _ (hW.symm.trans (MQ _ _ _ _ hx hk hg2 ex z))) _ I2.sm
   subst k0;refine⟨_,.inl ⟨_,.of gw2,rfl⟩,?_⟩;refine AZ (fun e=>?_) (fun e=>?_)
   ·have e':(false ^^ (((s+1:Nat):Int) == (((ws.map V.str).length:Nat):Int)))=true:=e;rw[Ze,beq_iff_eq,ZF]at e';exact bad (.inl (ZBI (by lia)))
   have e':¬(false ^^ (((s+1:Nat):Int) == (((ws.map V.str).length:Nat):Int)))=true:=e;rw[Ze,beq_iff_eq,ZF]at e';have hlt2:s+1 < ws.length:=by lia
   have hy:=ZN hlt2;generalize ws[s+1]=y at hy;have ay:atI (ws.map V.str) ((s+1:Nat):Int)=some (.str y):=BX (n:=s+1) rfl (by rw[Zj,hy];rfl);refine⟨_,_,.inl (.of gw2),ay,y.length,⟨Ah (hwx y (Z9 hy)),rfl⟩,?_⟩;refine AZ (fun e2=>?_) (fun e2=>?_)
   ·have e3:(true ^^ (((y.length:Nat):Int) == 1))=true:=e2;rw[Bool.true_xor,Bool.not_eq_true',beq_eq_false_iff_ne]at e3;refine bad (.inr ⟨y,hy,?_⟩);cases hf:AL n y with
    | none=>rfl
    | some i=>exact absurd (IY hn hf) (by lia)
   have e3:¬(true ^^ (((y.length:Nat):Int) == 1))=true:=e2;rw[Bool.true_xor,Bool.not_eq_true',beq_eq_false_iff_ne,Decidable.not_not]at e3;have y1:y.length=1:=by lia
   refine⟨_,_,.inl (.of gw2),ay,_,rfl,by decide,?_⟩
   show(if (true ^^ inS y (Bl (Str.ofString "012345") none (some ((n:Nat):Int))))=true then _ else _)
   rw[Lo hn y1];cases hf:AL n y with
   | none=>exact bad (.inr ⟨y,hy,hf⟩)
   | some i =>
   obtain⟨zs,z1,z2⟩:=I2.l;have lz:=Ye.length z2;rw[ZF]at lz;refine⟨.inl ⟨rfl,_,.of z1⟩,_,_,.inl (.of gw2),ay,_,Hy hn hf,by lia,smq rfl,fun p hp=>?_⟩;have s7:=Yf.upd (o:=.tup [.str (Str.ofString "at"),.int (i:Nat)]) hp;have g7:upd H6 p (.tup [.str (Str.ofString "at"),.int (i:Nat)]) p=some (.tup [.str (Str.ofString "at"),.int (i:Nat)]):=AD;generalize upd H6 p (.tup [.str (Str.ofString "at"),.int (i:Nat)])=H7 at *;have I3:=(I2.same s7).ld (e:=(x,i)) (s7 _ _ z1) (Ye.same s7 _ _ z2) (by rw[ex];exact A4 g7 (AO A1 (AO Bf Ab)));refine⟨zs,s7 _ _ z1,Bp (by lia),s+2,M++[(x,i)],by rw[show((s+2:Nat):Int)=((s+1:Nat):Int)+1 by lia];rfl,I3,by lia,by rw[ZQ];exact Nat.add_le_add_right hM 1,?_⟩;rw[<- hW,Ka _ _ _ _ hx hk hg2 ex hy hf];rfl
  ·have hw:¬x=atS:=fun z=>e ((B4 x).trans (Zh z))
   obtain⟨zs,z1,z2⟩:=I2.l;have lz:=Ye.length z2;rw[ZF]at lz;refine⟨.inl ⟨rfl,_,.of z1⟩,dc,.int (k:Nat),rfl,by have:=DGet.k (k:=Sum.inr x) I2.d;rw[Cd,hk]at this;exact this,smq rfl,fun p hp=>?_⟩;have s7:=Yf.upd (o:=.tup [.str x,.int (k:Nat)]) hp;have g7:upd H6 p (.tup [.str x,.int (k:Nat)]) p=some (.tup [.str x,.int (k:Nat)]):=AD;generalize upd H6 p (.tup [.str x,.int (k:Nat)])=H7 at *;have I3:=(I2.same s7).ld (e:=(x,k)) (s7 _ _ z1) (Ye.same s7 _ _ z2) (A4 g7 (AO A1 (AO Bf Ab)));refine⟨zs,s7 _ _ z1,Bp (by lia),s+1,M++[(x,k)],rfl,I3,by lia,by rw[ZQ];exact Nat.add_le_add_right hM 1,?_⟩;rw[<- hW,M7 _ _ _ _ hx hk hg2 hw]
 ·rintro σ H' ⟨s',M',rfl,I3,hs',hM',hW'⟩;clear I2 hW hM;refine⟨smq rfl,fun p hp=>?_⟩;have s7:=Yf.upd (o:=.lst [.int (9 - ((F+1:Nat):Int)+1)]) hp;have g7:upd H' p (.lst [.int (9 - ((F+1:Nat):Int)+1)]) p=some (.lst [.int (9 - ((F+1:Nat):Int)+1)]):=AD;have I4:=I3.same s7;generalize upd H' p (.lst [.int (9 - ((F+1:Nat):Int)+1)])=H7 at *;refine⟨dc,.int (k:Nat),rfl,by have:=DGet.k (k:=Sum.inr x) I4.d;rw[Cd,hk]at this;exact this,p,_,_,rfl,rfl,g7,by lia,by lia,by rw[Int.toNat_natCast];exact Ah (show 1 * k<=1000 by lia),fun p2 hp2=>?_⟩;rw[Int.toNat_natCast,ed,List.flatten_replicate_singleton];have s8:=Yf.upd (o:=.lst (List.replicate k (.int (9 - (F:Int))))) hp2;have g8:upd H7 p2 (.lst (List.replicate k (.int (9 - (F:Int))))) p2=some (.lst (List.replicate k (.int (9 - (F:Int))))):=AD;have I5:=I4.same s8;generalize upd H7 p2 (.lst (List.replicate k (.int (9 - (F:Int)))))=H8 at *;have la:=L6 st;refine .inl ⟨aw,p2,_,_,rfl,rfl,I5.a,g8,Ah (by rw[la,ZBA];lia),fun p3 hp3=>?_⟩;rw[<- Me];have I6:=I5.same (Yf.upd (o:=.lst (awV (List.replicate k F++st))) hp3);obtain⟨zs,z1,z2⟩:=I5.l;have l6:=I6.l;refine⟨21 - (g+1),by lia,p3,ld,List.replicate k F++st,g+1,s',M',_,_,rfl,rfl,⟨I5.sm.free hp3,I6.nl,I6.sm,I6.d,AD,l6,fun z=>by rw[<- z,z1]at hp3;cases hp3⟩,by lia,hs',fun G hG=>?_,by rw[ZQ,ZBA];lia,hM',hW'⟩
  rcases Zf.mp hG with hG | hG
  ·have:=List.eq_of_mem_replicate hG;lia
  ·exact hst G hG
noncomputable def EY(K:W.Frag):Sp:=fun vs H Q _=>match vs with
 | [.ref t,.str x]=>∃(a:Addr) (ns:List Int),Tape K H t a ns/\x.length<=400/\∀y H',y.length<=2 * x.length+8->Tape K H' t a ns->Ym t H H'->Q (.str y) H'
 | _=>False
noncomputable def some12:List Str:=[Str.ofString "",Str.ofString "at",Str.ofString "not",Str.ofString "both",Str.ofString "either",Str.ofString "odd",Str.ofString "most",Str.ofString "yes",Str.ofString "no",Str.ofString "0",Str.ofString "5",Str.ofString "6"]
noncomputable def some4:List Str:=[Str.ofString "00",Str.ofString "-1",Str.ofString "Yes",Str.ofString "atx"]
theorem MN{d:Int}(h0:0<=d)(h1:d < 16):∃y:Str,atI (some12.map V.str++some4.map V.str) d=some (.str y)/\y.length<=6:=by
 obtain⟨i,rfl⟩:∃i:Nat,d=(i:Int):=⟨d.toNat,by lia⟩;have hi:i < (some12++some4).length:=by show i < 16;lia
 have all:∀y∈some12++some4,y.length<=6:=by decide
 refine⟨(some12++some4)[i],BX (n:=i) rfl ?_,all _ (List.getElem_mem hi)⟩;rw[<- Zm,Zj,ZN hi];rfl
theorem Hq(ws:List Str)(a:Nat):AT (ws.take a)+AT (ws.drop a)=AT ws:=by
 rw[<- Ax,List.take_append_drop]
theorem B9{ws:List Str}{a:Nat}(h:a<=ws.length):Ac (ws.map V.str) none (some (a:Int))=(ws.take a).map V.str:=by
 rw[G8 _ _ (by rw[ZF];exact h),List.map_take]
theorem Dx{ws:List Str}{a:Nat}(h:a<=ws.length):Ac (ws.map V.str) (some (a:Int)) none=(ws.drop a).map V.str:=by
 rw[Hc _ _ (by rw[ZF];exact h),List.map_drop]
theorem Mn{d:Int}(h0:0<=d)(h1:d < 6):∃c,atI (Str.ofString " 0at1x").cps.toList d=some c:=by
 obtain⟨i,rfl⟩:∃i:Nat,d=(i:Int):=⟨d.toNat,by lia⟩;have h6:i=0\/i=1\/i=2\/i=3\/i=4\/i=5:=by lia
 rcases h6 with rfl | rfl | rfl | rfl | rfl | rfl <;> exact⟨_,rfl⟩
theorem Cm{p p2:Addr}{us vs:List Str}{Q:VK}(h1:H p=some (.lst (us.map V.str)))(h2:H p2=some (.lst (vs.map V.str)))(hl:us.length+vs.length<=1000)(q:∀p3 H',Yf H H'->H' p3=some (.lst ((us++vs).map V.str))->Q (.ref p3) H'):Bs K (.ref p) (.ref p2) H Q :=
 .inl ⟨p,p2,_,_,rfl,rfl,h1,h2,Ah (by rw[ZF,ZF];exact hl),fun p3 n3=>q p3 _ (Yf.upd n3) (by rw[Zm];exact AD)⟩
theorem Er{p:Addr}{us:List Str}{Q:VK}(h:H p=some (.lst (us.map V.str)))(hl:AT us<=3000)(q:Q (.str (Str.join ⟨#[32]⟩ us)) H):Eb K (.str (Str.ofString " ")) [.ref p] H Q :=
 ⟨us,.of h,Na hl,q⟩
theorem J2:Xa P w base T.z20 2 (EY K):=by
 have G_z22:=@DA P w K mg base T;refine T.z20.F.ok sc_z20 (fun vs H Q E h=>by unfold EY at h;walk_at "e") ?_;walk_at "f";have hr_z22:=hr.mono (show 1<=_ by decide);unfold EY at h;walk_at "g"
 rename_i t x;obtain⟨a,ns,T0,hx,q⟩:=h;refine⟨_,(@AE _ _ _ _ _ (@AI _ _ 2 _ _ _ _ sc_z20.nd rfl (by right) (D5 (K:=K) (vv 1) (AA AH AC)) (by rfl) (by symm)) (@AE _ _ _ _ _ (@AI _ _ 3 _ _ _ _ sc_z20.nd rfl (by right) (AW G_z22 hr_z22 rfl T.z22.m T.z22.F.kp T.z22.b .nil AU (AA (vv 0) (AA (Am (A6 (K:=K)) rfl T.Y5 (by rfl) (AA (vv 2) AC)) AC))) (by rfl) (by symm)) (@AE _ _ _ _ _ (@AI _ _ 4 _ _ _ _ sc_z20.nd rfl (by right) (@Aq _ _ _ _ (AA AH (AA AH (AA AH (AA AH (AA AH (AA AH (AA AH (AA AH (AA AH (AA AH (AA AH (AA AH AC))))))))))))) (by rfl) (by symm)) (@AE _ _ _ _ _ (@AI _ _ 4 _ _ _ _ sc_z20.nd rfl (by right) (AF (AK (K:=K)) (vv 4) (@Aq _ _ _ _ (AA AH (AA AH (AA AH (AA AH AC)))))) (by rfl) (by symm)) (@AE _ _ _ _ _ (@AI _ _ 5 _ _ _ _ sc_z20.nd rfl (by right) (AW G_z22 hr_z22 rfl T.z22.m T.z22.F.kp T.z22.b .nil AU (AA (vv 0) (AA AB AC))) (by rfl) (by symm)) (@AE _ _ _ _ _ (@AI _ _ 6 _ _ _ _ sc_z20.nd rfl (by right) (Yt (K:=K) (vv 4) (AW G_z22 hr_z22 rfl T.z22.m T.z22.F.kp T.z22.b .nil AU (AA (vv 0) (AA AB AC)))) (by rfl) (by symm)) (@AE _ _ _ _ _ (@Ag _ _ _ _ _ _ _ _ (AQ (kEq (K:=K) hu) (vv 5) AB) (@AJ _ _ _ (@AX _ _ _ _ (Ck (K:=K) AH (AA (AF (AK (K:=K)) (BV (K:=K) (vv 2) BA (BB (vv 3))) (BV (K:=K) (vv 2) (BB (AF (AK (K:=K)) (vv 3) AB)) BA)) AC)))) Al) (@AE _ _ _ _ _ (@Ag _ _ _ _ _ _ _ _ (AQ BP (vv 5) AB) (@AJ _ _ _ (@AX _ _ _ _ (Ck (K:=K) AH (AA (AF (AK (K:=K)) (AF (AK (K:=K)) (BV (K:=K) (vv 2) BA (BB (vv 3))) (@Aq _ _ _ _ (AA (vv 6) AC))) (BV (K:=K) (vv 2) (BB (AF An (AF (AK (K:=K)) (vv 3) (vv 5)) AB)) BA)) AC)))) Al) (@AE _ _ _ _ _ (@Ag _ _ _ _ _ _ _ _ (AQ (kEq (K:=K) hu) (vv 5) AB) (@AJ _ _ _ (@AX _ _ _ _ (Ck (K:=K) AH (AA (AF (AK (K:=K)) (BV (K:=K) (vv 2) BA (BB (AF (AK (K:=K)) (vv 3) AB))) (BV (K:=K) (vv 2) (BB (vv 3)) BA)) AC)))) Al) (@AE _ _ _ _ _ (@Ag _ _ _ _ _ _ _ _ (AQ (kEq (K:=K) hu) (vv 5) AB) (@AJ _ _ _ (@AX _ _ _ _ (AF (AK (K:=K)) (AF (AK (K:=K)) (vv 1) AH) (vv 6)))) Al) (@AE _ _ _ _ _ (@AI _ _ 7 _ _ _ _ sc_z20.nd rfl (by right) (AW G_z22 hr_z22 rfl T.z22.m T.z22.F.kp T.z22.b .nil AU (AA (vv 0) (AA (AF (AK (K:=K)) (Am (A6 (K:=K)) rfl T.Y5 (by rfl) (AA (vv 1) AC)) AB) AC))) (by rfl) (by symm)) (@AJ _ _ _ (@AX _ _ _ _ (AF (AK (K:=K)) (AF (AK (K:=K)) (BV (K:=K) (vv 1) BA (BB (vv 7))) (Yt (K:=K) AH (AW G_z22 hr_z22 rfl T.z22.m T.z22.F.kp T.z22.b .nil AU (AA (vv 0) (AA AB AC))))) (BV (K:=K) (vv 1) (BB (AF An (AF (AK (K:=K)) (vv 7) (vv 5)) AB)) BA))))))))))))))),?_⟩;refine⟨rfl,rfl,by lia,fun lw nw=>?_⟩;have Yo:=EH x 32;have Yu:=Ff x ⟨#[32]⟩;dsimp only[AV];have S1:=Yf.upd (o:=.lst ((Txt.split x (Str.ofString " ")).map V.str)) nw;have g1:upd H lw (.lst ((Txt.split x (Str.ofString " ")).map V.str)) lw=some (.lst ((Txt.split x ⟨#[32]⟩).map V.str)):=AD;have T1:=T0.same S1;have F1:=S1.frm (t:=t);generalize upd H lw (.lst ((Txt.split x (Str.ofString " ")).map V.str))=H1 at *;generalize Txt.split x ⟨#[32]⟩=ws at *;have hwl:=BK ws;have hwp:0 < ws.length:=List.length_pos_iff.mpr Yu;have nlt:lw≠t:=fun z=>by obtain⟨i,r,c,_,_,h⟩:=T0.at_;rw[z,h]at nw;cases nw
 have big:(1000:Int)<=2 ^ 1000:=by decide
 refine⟨_,.inl ⟨_,.of g1,rfl⟩,a,ns,T1,Ay (by rw[ZF];lia) (Z6 (by rw[ZF];lia) big),fun d3 H2 d0 d1 T2 f2=>?_⟩;rw[ZF]at d1;obtain⟨b,rfl⟩:∃b:Nat,d3=(b:Int):=⟨d3.toNat,by lia⟩;have hb:b < ws.length:=by lia
 have g2:H2 lw=some (.lst (ws.map V.str)):=by rw[f2 lw nlt];exact g1
 have F2:Ym t H H2:=fun c o nc e=>by rw[f2 c nc];exact F1 c o nc e
 dsimp only[AV];refine BO (fun σ H'=>∃p,σ=[some (.ref t),some (.str x),some (.ref lw),some (.int (b:Nat)),some (.ref p),none,none,none]/\Yf H2 H'/\H' p=some (.lst (some12.map V.str))) ⟨smq rfl,fun p np=>⟨p,rfl,Yf.upd np,AD⟩⟩ ?_ (by walk_at "sm");rintro _ H3 ⟨p3,rfl,s3,g3⟩;refine BO (fun σ H'=>∃p,σ=[some (.ref t),some (.str x),some (.ref lw),some (.int (b:Nat)),some (.ref p),none,none,none]/\Yf H3 H'/\H' p=some (.lst (some12.map V.str++some4.map V.str))) ⟨smq rfl,fun p4 n4=>.inl ⟨p3,p4,_,_,rfl,rfl,(Yf.upd n4) _ _ g3,AD,smq rfl,fun p5 n5=>⟨p5,rfl,(Yf.upd n4).trans (Yf.upd n5),AD⟩⟩⟩ ?_ (by walk_at "sm");rintro _ H4 ⟨p4,rfl,s4,g4⟩;have T4:=T2.same (s3.trans s4);have F4:Ym t H H4:=F2.trans (s3.trans s4).frm;have g24:=s4 _ _ (s3 _ _ g2);have n4t:p4≠t:=fun z=>by obtain⟨i,r,c,_,_,h⟩:=T4.at_;rw[z,h]at g4;cases g4
 refine⟨a,ns,T4,Ay (by decide) (by decide),fun way H5 w0 w1 T5 f5=>?_⟩;dsimp only[AV];have g25:H5 lw=some (.lst (ws.map V.str)):=by rw[f5 lw nlt];exact g24
 have g45:H5 p4=some (.lst (some12.map V.str++some4.map V.str)):=by rw[f5 p4 n4t];exact g4
 have F5:Ym t H H5:=fun c o nc e=>by rw[f5 c nc];exact F4 c o nc e
 refine⟨a,ns,T5,Ay (by decide) (by decide),fun d H6 e0 e1 T6 f6=>?_⟩;have g26:H6 lw=some (.lst (ws.map V.str)):=by rw[f6 lw nlt];exact g25
 have g46:H6 p4=some (.lst (some12.map V.str++some4.map V.str)):=by rw[f6 p4 n4t];exact g45
 have F6:Ym t H H6:=fun c o nc e=>by rw[f6 c nc];exact F5 c o nc e
 obtain⟨wd,hwd,lwd⟩:=MN e0 e1;refine⟨_,_,.inl (.of g46),hwd,?_⟩;dsimp only[AV];clear F1 F2 F4 F5 T0 T1 T2 T4 T5 f2 f5 f6 g1 g2 g24 g25 g4 g45 g46 S1 s3 s4 g3 hwd;have tk:∀{u:Nat},u<=ws.length->AT (ws.take u)+AT (ws.drop u)=x.length+1:=fun _=>(Hq ws _).trans Yo
 have fin:∀(H':Hp) (us:List Str),Yf H6 H'->AT us<=2 * x.length+8->Q (.str (Str.join ⟨#[32]⟩ us)) H':=fun H' us s' h'=>q _ H' (ZU (GQ 32 us) h') (T6.same s') (F6.trans s'.frm)
 refine AZ (fun e=>?_) (fun e=>?_)
 ·refine⟨rfl,_,rfl,_,.inl ⟨.of g26,fun p hp=>?_⟩⟩;have s7:=Yf.upd (o:=.lst (Ac (ws.map V.str) none (some (b:Int)))) hp;rw[B9 (by lia)]at s7;have g7:upd H6 p (.lst ((ws.take b).map V.str)) p=some (.lst ((ws.take b).map V.str)):=AD;rw[B9 (by lia)];generalize upd H6 p (.lst ((ws.take b).map V.str))=H7 at *;refine⟨((b+1:Nat):Int),by rw[show((b+1:Nat):Int)=(b:Int)+1 by lia],_,.inl ⟨.of (s7 _ _ g26),fun p2 hp2=>?_⟩⟩;rw[Dx (by lia)];have s8:=Yf.upd (o:=.lst ((ws.drop (b+1)).map V.str)) hp2;have h1:=tk (u:=b) (by lia);have h2:=tk (u:=b+1) (by lia);have l1:=BK (ws.take b);have l2:=BK (ws.drop (b+1));refine Cm (s8 _ _ g7) AD (by lia) fun p3 H9 s9 g9=>?_
  exact Er g9 (by rw[Ax];lia) (fin _ _ ((s7.trans s8).trans s9) (by rw[Ax];lia))
 dsimp only[BD];refine AZ (fun e2=>?_) (fun e2=>?_)
 ·have e2:way < 3:=Za e2;have e1:¬(false ^^ (way == 0))=true:=e;rw[Ze,beq_iff_eq]at e1;obtain⟨c,hc,hcb⟩:∃c:Nat,(b:Int)+way - 1=(c:Int)/\(c=b\/c=b+1):=⟨((b:Int)+way - 1).toNat,by lia,by lia⟩;refine⟨rfl,_,rfl,_,.inl ⟨.of g26,fun p hp=>?_⟩⟩;have s7:=Yf.upd (o:=.lst (Ac (ws.map V.str) none (some (b:Int)))) hp;rw[B9 (by lia)]at s7;have g7:upd H6 p (.lst ((ws.take b).map V.str)) p=some (.lst ((ws.take b).map V.str)):=AD;rw[B9 (by lia)];generalize upd H6 p (.lst ((ws.take b).map V.str))=H7 at *;refine⟨smq rfl,fun p2 hp2=>?_⟩;have s8:=Yf.upd (o:=.lst [.str wd]) hp2;have l1:=BK (ws.take b);have h1:=tk (u:=b) (by lia);refine Cm (vs:=[wd]) (s8 _ _ g7) AD (by rw[ZBC];lia) fun p3 H9 s9 g9=>?_
  have s79:=(s7.trans s8).trans s9;refine⟨(c:Int),by rw[<- hc],_,.inl ⟨.of (s79 _ _ g26),fun p4 hp4=>?_⟩⟩;rw[Dx (by lia)];have s10:=Yf.upd (o:=.lst ((ws.drop c).map V.str)) hp4;have l2:=BK (ws.drop c);have h2:=tk (u:=c) (by lia)
  have lc:AT (ws.drop c)<=AT (ws.drop b):=by
   rcases hcb with rfl | rfl
   ·exact ZD _
   ·have:=Hq (ws.drop b) 1
    rw[List.drop_drop]at this;lia
  have lw1:AT [wd]=wd.length+1:=rfl;refine Cm (s10 _ _ g9) AD (by rw[ZQ,ZBC];lia) fun p5 H11 s11 g11=>?_
  exact Er g11 (by rw[Ax,Ax];lia) (fin _ _ ((s79.trans s10).trans s11) (by rw[Ax,Ax];lia))
 dsimp only[BD];refine AZ (fun e3=>?_) (fun e3=>?_)
 ·refine⟨rfl,((b+1:Nat):Int),by rw[show((b+1:Nat):Int)=(b:Int)+1 by lia],_,.inl ⟨.of g26,fun p hp=>?_⟩⟩;have s7:=Yf.upd (o:=.lst (Ac (ws.map V.str) none (some ((b+1:Nat):Int)))) hp;rw[B9 (by lia)]at s7;have g7:upd H6 p (.lst ((ws.take (b+1)).map V.str)) p=some (.lst ((ws.take (b+1)).map V.str)):=AD;rw[B9 (by lia)];generalize upd H6 p (.lst ((ws.take (b+1)).map V.str))=H7 at *;refine⟨_,rfl,_,.inl ⟨.of (s7 _ _ g26),fun p2 hp2=>?_⟩⟩;rw[Dx (by lia)];have s8:=Yf.upd (o:=.lst ((ws.drop b).map V.str)) hp2;have h1:=tk (u:=b) (by lia);have h2:=tk (u:=b+1) (by lia);have l1:=BK (ws.take (b+1));have l2:=BK (ws.drop b);refine Cm (s8 _ _ g7) AD (by lia) fun p3 H9 s9 g9=>?_
  exact Er g9 (by rw[Ax];lia) (fin _ _ ((s7.trans s8).trans s9) (by rw[Ax];lia))
 dsimp only[BD];have sp1:(Str.ofString " ").length=1:=rfl;refine AZ (fun e4=>?_) (fun e4=>?_)
 ·refine⟨Ah (by rw[sp1];lia),Ah (by rw[Str.length_append,sp1];lia),q _ _ (by rw[Str.length_append,Str.length_append,sp1];lia) T6 F6⟩
 dsimp only[BD];refine⟨_,⟨Ah (by lia),rfl⟩,a,ns,T6,Ay (by lia) (Z6 (by lia) big),fun pl H7 l0 l1 T7 f7=>?_⟩;have F7:Ym t H H7:=fun c o nc e=>by rw[f7 c nc];exact F6 c o nc e
 dsimp only[AV];refine⟨pl,rfl,Ah (by lia),a,ns,T7,Ay (by decide) (by decide),fun d7 H8 m0 m1 T8 f8=>?_⟩;have F8:Ym t H H8:=fun c o nc e=>by rw[f8 c nc];exact F7 c o nc e
 obtain⟨c,hc⟩:=Mn m0 m1;have k1:=EW x none (some pl);have k2:=EW x (some (pl+way - 5)) none;have c1:(⟨#[c]⟩:Str).length=1:=rfl;refine⟨c,by decide,hc,Ah (by rw[c1];lia),_,rfl,Ah (by lia),Ah (by rw[Str.length_append,c1];lia),q _ _ (by rw[Str.length_append,Str.length_append,c1];lia) T8 F8⟩
theorem BE(hn:n<=6):∀{f:Fm},f.ok n->AT f.ws<=7 * f.many
 | .at_ i,h=>by
  have h:i < n:=h;show atS.length+1+((dgS i).length+1+0)<=7 * 1;rw[Fq (by lia)];decide
 | .yes,_=>by decide
 | .no,_=>by decide
 | .not_ a,h=>by
  have h1:=BE hn (f:=a) h
  show(Str.ofString "not").length+1+AT a.ws<=7 * (a.many+1)
  rw[show(Str.ofString "not").length=3 by decide];lia
 | .both a b,h=>by
  have h1:=BE hn (f:=a) h.1;have h2:=BE hn (f:=b) h.2
  show(Str.ofString "both").length+1+AT (a.ws++b.ws)<=7 * (a.many+b.many+1)
  rw[show(Str.ofString "both").length=4 by decide,Ax];lia
 | .either a b,h=>by
  have h1:=BE hn (f:=a) h.1;have h2:=BE hn (f:=b) h.2
  show(Str.ofString "either").length+1+AT (a.ws++b.ws)<=7 * (a.many+b.many+1)
  rw[show(Str.ofString "either").length=6 by decide,Ax];lia
 | .odd a b,h=>by
  have h1:=BE hn (f:=a) h.1;have h2:=BE hn (f:=b) h.2
  show(Str.ofString "odd").length+1+AT (a.ws++b.ws)<=7 * (a.many+b.many+1)
  rw[show(Str.ofString "odd").length=3 by decide,Ax];lia
 | .most a b c,h=>by
  have h1:=BE hn (f:=a) h.1;have h2:=BE hn (f:=b) h.2.1;have h3:=BE hn (f:=c) h.2.2
  show(Str.ofString "most").length+1+AT (a.ws++(b.ws++c.ws))<=7 * (a.many+b.many+c.many+1)
  rw[show(Str.ofString "most").length=4 by decide,Ax,Ax];lia
theorem Nd(h0:5<=n)(h1:n<=8):MulOk (Str.ofString "not ") (n:Int):=by
 have h:n=5\/n=6\/n=7\/n=8:=by lia
 rcases h with rfl | rfl | rfl | rfl <;> exact⟨by decide,by decide,by decide⟩
theorem Ie{e:Nat}(h:e<=2000):Aw (.int (e:Nat))=true:=by
 show Bq ((e:Nat):Int)=true;exact JM (by lia)
theorem Nf:FnOk P w K mg base CX0 17 T.Xj T.Xk ["_law_script"] (C7 K):=by
 have G_z20:=@J2 P w K mg base T;have G_z22:=@DA P w K mg base T;refine T.Z0i.ok sc_law (fun vs H Q E h=>by obtain⟨a,ns,rfl,_⟩:=h;rfl) ?_;walk_at "f";have hr_z20:=hr.mono (show 2<=_ by decide);have hr_z22:=hr.mono (show 1<=_ by decide);obtain⟨a,ns,rfl,hsq,Yl,q⟩:=h;refine⟨_,(@AE _ _ _ _ _ (@AI _ _ 1 _ _ _ _ sc_law.nd rfl (by right) (AW (@Mo P w K mg base T) (hr.mono (show 1<=_ by decide)) rfl T.z21.m T.z21.F.kp T.z21.b .nil AU (AA (vv 0) AC)) (by rfl) (by symm)) (@AE _ _ _ _ _ (@CW _ _ _ _ _ _ _ _ PassesOwn.never rfl (Dt rfl T.Y8 (AA AB AC)) (Bi (i:=2) sc_law.nd rfl (by right)) (@AE _ _ _ _ _ (@AI _ _ 3 _ _ _ _ sc_law.nd rfl (by right) (AF (AK (K:=K)) AB (AW G_z22 hr_z22 rfl T.z22.m T.z22.F.kp T.z22.b .nil AU (AA (vv 1) (AA AB AC)))) (by rfl) (by symm)) (@AE _ _ _ _ _ (@AI _ _ 4 _ _ _ _ sc_law.nd rfl (by right) (AW (@MF P w K mg base T) (hr.mono (show 13<=_ by decide)) rfl T.z15.m T.z15.F.kp T.z15.b .nil AU (AA (vv 1) (AA (vv 3) (AA (AF (AK (K:=K)) AB (AW G_z22 hr_z22 rfl T.z22.m T.z22.F.kp T.z22.b .nil AU (AA (vv 1) (AA AB AC)))) (AA (AF (AK (K:=K)) AB (AW G_z22 hr_z22 rfl T.z22.m T.z22.F.kp T.z22.b .nil AU (AA (vv 1) (AA AB AC)))) AC))))) (by rfl) (by symm)) (@AE _ _ _ _ _ (@AI _ _ 5 _ _ _ _ sc_law.nd rfl (by right) (Ck (K:=K) AH (AA (AW (@Lb P w K mg base T) (hr.mono (show 14<=_ by decide)) rfl T.z18.m T.z18.F.kp T.z18.b .nil AU (AA (vv 4) AC)) AC)) (by rfl) (by symm)) (@AE _ _ _ _ _ (@AI _ _ 6 _ _ _ _ sc_law.nd rfl (by right) (AW G_z20 hr_z20 rfl T.z20.m T.z20.F.kp T.z20.b .nil AU (AA (vv 1) (AA (vv 5) AC))) (by rfl) (by symm)) (@AE _ _ _ _ _ (@AI _ _ 7 _ _ _ _ sc_law.nd rfl (by right) (AF (AK (K:=K)) (AF Mi AH (AF (AK (K:=K)) (AW G_z22 hr_z22 rfl T.z22.m T.z22.F.kp T.z22.b .nil AU (AA (vv 1) (AA AB AC))) AB)) AH) (by rfl) (by symm)) (@AJ _ _ _ (@CW _ _ _ _ _ _ _ _ PassesOwn.never rfl (EK (K:=K) (@Aq _ _ _ _ (AA (vv 5) (AA (vv 6) (AA (AW G_z20 hr_z20 rfl T.z20.m T.z20.F.kp T.z20.b .nil AU (AA (vv 1) (AA (vv 6) AC))) (AA AH (AA AH (AA (vv 7) AC)))))))) (Bi (i:=8) sc_law.nd rfl (by right)) (@AJ _ _ _ (@Ag _ _ _ _ _ _ _ _ (AQ (kNe (K:=K) hu) (Am (GT (K:=K) hr) rfl T.Xe (by rfl) (AA (AW (@Mb P w K mg base T) (hr.mono (show 16<=_ by decide)) rfl T.z19.m T.z19.F.kp T.z19.b .nil AU (AA (vv 3) (AA (vv 8) AC))) AC)) (Am (GT (K:=K) hr) rfl T.Xe (by rfl) (AA (AW (@Ir P w K mg base T) (hr.mono (show 2<=_ by decide)) rfl T.z16.m T.z16.F.kp T.z16.b .nil AU (AA (vv 3) (AA (D5 (K:=K) (vv 8) (AA AH AC)) AC))) AC))) (@AJ _ _ _ (@AX _ _ _ _ Hk)) Al)) (by intro _;rfl)))))))) (by intro _;rfl)) (@AJ _ _ _ (@AX _ _ _ _ Hk)))),?_⟩;refine fun t ht=>?_
 dsimp only[AV];have T1:=JW ht hsq;generalize upd H t (.lst [.ref a,.int 0,.int 0,.int 0])=H1 at *;refine⟨12,rfl,by decide,by decide,?_⟩;refine Je (fun i σ H'=>(∃z2 z3 z4 z5 z6 z7 z8:Option V,σ=[some (.ref a),some (.ref t),z2,z3,z4,z5,z6,z7,z8])/\Tape K H' t a ns) ⟨⟨none,none,none,none,none,none,none,rfl⟩,T1⟩ ?_ (fun σ H' _=>q H');rintro i σ H0 hi ⟨⟨z2,z3,z4,z5,z6,z7,z8,rfl⟩,T0⟩;refine⟨a,ns,T0,Ay (by decide) (by decide),fun d1 H2 d10 d11 T2 f2=>?_⟩;dsimp only[Bs,AV];obtain⟨m,em⟩:∃m:Nat,1+d1=(m:Int):=⟨(1+d1).toNat,by lia⟩;rw[em];have m1:1<=m:=by lia
 have m6:m<=6:=by lia
 refine⟨a,ns,T2,Ay (by decide) (by decide),fun d3 H3 d30 d31 T3 f3=>?_⟩;refine⟨a,ns,T3,Ay (by decide) (by decide),fun d4 H4 d40 d41 T4 f4=>?_⟩;refine⟨a,ns,m,T4,rfl,m1,m6,by lia,by lia,by lia,by lia,fun f vf H5 fok fdeep fmany rf T5 F5=>?_⟩;clear f2 f3 f4 F5 T2 T3 T4 T0 T1;dsimp only[AV];have lt:=BE m6 fok;have lx:(Bb f).length<=168:=ZU (GQ 32 f.ws) (by lia);refine⟨rfl,f,m,rf,fok,m6,by lia,by lia,fun p6 H6 s6 g6 _=>⟨f.ws,.of g6,Ma m6 fok (by lia),?_⟩⟩;dsimp only[AV];refine⟨a,ns,T5.same s6,(show(Bb f).length<=400 by lia),fun y H7 ly T7 F7=>?_⟩;have ly:y.length<=2 * (Bb f).length+8:=ly;dsimp only[AV];refine⟨a,ns,T7,Ay (by decide) (by decide),fun d8 H8 d80 d81 T8 f8=>?_⟩;obtain⟨k,ek⟩:∃k:Nat,d8+5=(k:Int):=⟨(d8+5).toNat,by lia⟩;dsimp only[tC,Bs,FP];rw[ek];have ml:=Ln (Str.ofString "not ") k;rw[show(Str.ofString "not ").length=4 by decide]at ml;have y3:(Str.ofString "yes").length=3:=by decide
 refine⟨Nd (by lia) (by lia),Ah (by rw[ml,y3];lia),?_⟩;have lp:(Txt.mul (Str.ofString "not ") (k:Int)++Str.ofString "yes").length<=35:=by rw[Str.length_append,ml,y3];lia
 generalize Txt.mul (Str.ofString "not ") (k:Int)++Str.ofString "yes" = dp at *;dsimp only[AV];refine⟨a,ns,T8,by lia,fun y2 H9 ly2 T9 F9=>?_⟩;clear F7 f8 F9 T5 T7 T8;refine⟨smq rfl,fun p hp=>?_⟩;have S10:=Yf.upd (o:=.lst [.str (Bb f),.str y,.str y2,.str (Str.ofString ""),.str (Str.ofString " "),.str dp]) hp;have g10:upd H9 p (.lst [.str (Bb f),.str y,.str y2,.str (Str.ofString ""),.str (Str.ofString " "),.str dp]) p=some (.lst [.str (Bb f),.str y,.str y2,.str (Str.ofString ""),.str (Str.ofString " "),.str dp]):=AD;have T10:=T9.same S10;refine .inl ⟨⟨_,.inl (.of g10)⟩,?_⟩;refine IE (xs:=[.str (Bb f),.str y,.str y2,.str (Str.ofString ""),.str (Str.ofString " "),.str dp]) (fun j σ H'=>∃y8:Option V,σ=[some (.ref a),some (.ref t),some (.int (0+(i:Int))),some (.int m),some vf,some (.str (Bb f)),some (.str y),some (.str dp),y8]/\Yf (upd H9 p (.lst [.str (Bb f),.str y,.str y2,.str (Str.ofString ""),.str (Str.ofString " "),.str dp])) H') ⟨z8,rfl,Yf.refl _⟩ (fun j σ H' _ ⟨_,_,s⟩=>.inl (.of (s _ _ g10))) ?_ ?_
 ·rintro j x σ H11 hx ⟨y8,rfl,s11⟩
  obtain⟨o,rfl,ho⟩:∃o:Str,x=.str o/\o.length<=1000:=by
   match j,hx with
   | 0,hx=>cases hx;exact⟨_,rfl,by lia⟩
   | 1,hx=>cases hx;exact⟨_,rfl,by lia⟩
   | 2,hx=>cases hx;exact⟨_,rfl,by lia⟩
   | 3,hx=>cases hx;exact⟨_,rfl,by decide⟩
   | 4,hx=>cases hx;exact⟨_,rfl,by decide⟩
   | 5,hx=>cases hx;exact⟨_,rfl,by lia⟩
   | j+6,hx=>simp at hx
  obtain⟨rs1,rs2⟩:=LM (n:=m) (ws:=Txt.split o ⟨#[32]⟩) m6
  have hw:∀x∈Txt.split o ⟨#[32]⟩,x.length<=1000:=fun x hx=>by
   have:=Db hx
   have:=EH o 32
   lia
  have hl:=BK (Txt.split o ⟨#[32]⟩);have hl2:=EH o 32;have same:∀d:Dv,(true ^^ (Aj d == Aj d))=false:=fun d=>by simp
  have e1:∀e,rdN m o=.inl e->e<=2000:=fun e he=>by have:=rs1 e he;lia
  cases hr:rdN m o with
  | inl e =>
   have he:=Ie (e1 e hr);refine⟨m,rfl,m6,ho,fun e' he' H12 s12=>?_,fun a' ha'=>by rw[hr]at ha';cases ha'⟩;rw[hr]at he';cases he';refine⟨.int (e:Nat),Bf,he,ZK _,ZK _,rfl,rfl,ho,fun lw nw=>?_⟩;refine⟨m,_,rfl,m6,AD,hw,fun e' he' H13 s13=>?_,fun a' ha'=>by have ha':rdN m o=.inr a':=ha';rw[hr]at ha';cases ha'⟩;have he':rdN m o=.inl e':=he';rw[hr]at he';cases he';refine⟨.int (e:Nat),Bf,he,ZK _,ZK _,?_⟩
   show(if (true ^^ (Aj (.int (e:Nat)) == Aj (.int (e:Nat))))=true then _ else _)
   rw[same];exact Dn ⟨_,rfl,(s11.trans s12).trans ((Yf.upd nw).trans s13)⟩
  | inr d =>
   obtain⟨nc,bk,dep⟩:=rs2 d hr;refine⟨m,rfl,m6,ho,fun e' he'=>(by rw[hr]at he';cases he'),fun a' ha' v H12 s12 r12=>?_⟩;rw[hr]at ha';cases ha';refine⟨d,r12,nc,bk,dep,rfl,rfl,ho,fun lw nw=>?_⟩;refine⟨m,_,rfl,m6,AD,hw,fun e' he'=>(by have he':rdN m o=.inl e':=he';rw[hr]at he';cases he'),fun a' ha' v2 H13 s13 r13=>?_⟩;have ha':rdN m o=.inr a':=ha';rw[hr]at ha';cases ha';refine⟨d,r13,nc,bk,dep,?_⟩
   show(if (true ^^ (Aj d == Aj d))=true then _ else _)
   rw[same];exact Dn ⟨_,rfl,(s11.trans s12).trans ((Yf.upd nw).trans s13)⟩
 ·rintro σ H11 ⟨y8,rfl,s11⟩;exact⟨⟨_,_,_,_,_,_,_,rfl⟩,T10.same s11⟩
end
noncomputable abbrev DI(K:W.Frag)(n:Str)(st:Stmt)(f:Addr):Prop:=∃(oc kV dc pm cd ct:Value) (od an:Option Addr) (sl:Array (Option Value)),W.nsIn K mainGlobals n=some (some (.ref f))/\K.lookup f=some ⟨oc,od,.func (W.fnOf n n (A3 st) (Av st) (AM st) .none kV dc pm an cd ct),sl⟩/\W.codeIn K cd n=true/\W.keepIn K (.ref f)=true
structure FD(K:W.Frag)(mg:Str->Option Value)(n:Str)(st:Stmt)(ps:List Str)(f:Addr) where
 d:FuncData
 F:Fun K n n st f d
 b:Binds K d ps []
 m:mg n=some (.ref f)
theorem DI.fd{h:Heap}{mg:Str->Option Value}{n:Str}{st:Stmt}{f:Addr}{ps:List Str}(i:DI K n st f)(X:K.In h)(G:h.Ns mainGlobals mg)(hb:∀(kV doc pm:Value) (an:Option Addr) (Ys ct:Value) (us:List Value),us.length=ps.length->bindArgs (W.fnOf n n (A3 st) (Av st) (AM st) .none kV doc pm an Ys ct) ⟨us,[]⟩=pure (ps.zip us)):Nonempty (FD K mg n st ps f):=by
 obtain⟨oc,kV,dc,pm,cd,ct,od,an,sl,a,l,c,k⟩:=i;exact⟨⟨_,B3 l c k,(B3 l c k).binds hb,W.mg_of X G a⟩⟩
noncomputable abbrev DM(K:W.Frag)(C:Addr)(n q:Str)(st:Stmt)(f:Addr):Prop:=∃(oc kV dc pm cd ct:Value) (od an:Option Addr) (sl:Array (Option Value)),W.findIn K (.ref C) n=some (some (.ref f))/\W.isFn K (.ref f)=true/\K.lookup f=some ⟨oc,od,.func (W.fnOf n q (A3 st) (Av st) (AM st) .none kV dc pm an cd ct),sl⟩/\W.codeIn K cd q=true/\W.keepIn K (.ref f)=true
structure FM(K:W.Frag)(C:Addr)(n q:Str)(st:Stmt)(ps:List Str)(f:Addr) where
 d:FuncData
 F:Fun K n q st f d
 b:Binds K d ps []
 m:Meth K C n f
theorem DM.fm{C:Addr}{n q:Str}{st:Stmt}{f:Addr}{ps:List Str}(i:DM K C n q st f)(hb:∀(kV doc pm:Value) (an:Option Addr) (Ys ct:Value) (us:List Value),us.length=ps.length->bindArgs (W.fnOf n q (A3 st) (Av st) (AM st) .none kV doc pm an Ys ct) ⟨us,[]⟩=pure (ps.zip us)):Nonempty (FM K C n q st ps f):=by
 obtain⟨oc,kV,dc,pm,cd,ct,od,an,sl,a,i,l,c,k⟩:=i;exact⟨⟨_,B3 l c k,(B3 l c k).binds hb,⟨a,i,k⟩⟩⟩
theorem all_di{n:Str}{st:Stmt}{f:Addr}{oc kV dc pm cd ct:Value}{od an:Option Addr}{sl:Array (Option Value)}(a:W.nsIn K mainGlobals n=some (some (.ref f)))(l:K.lookup f=some ⟨oc,od,.func (W.fnOf n n (A3 st) (Av st) (AM st) .none kV dc pm an cd ct),sl⟩)(c:W.codeIn K cd n=true)(k:W.keepIn K (.ref f)=true):DI K n st f:=⟨_,_,_,_,_,_,_,_,_,a,l,c,k⟩
theorem all_dm{C:Addr}{n q:Str}{st:Stmt}{f:Addr}{oc kV dc pm cd ct:Value}{od an:Option Addr}{sl:Array (Option Value)}(a:W.findIn K (.ref C) n=some (some (.ref f)))(i:W.isFn K (.ref f)=true)(l:K.lookup f=some ⟨oc,od,.func (W.fnOf n q (A3 st) (Av st) (AM st) .none kV dc pm an cd ct),sl⟩)(c:W.codeIn K cd q=true)(k:W.keepIn K (.ref f)=true):DM K C n q st f:=⟨_,_,_,_,_,_,_,_,_,a,i,l,c,k⟩
theorem all_mk {l:W.OpenLaw} {w:World} {h:Heap} {mg:Str->Option Value} {fa:Addr} (X:K.In h) (G:h.Ns mainGlobals mg) (hfa:mg "law" = some (.ref fa))
 {Yx:Addr}
 {YX:Addr}
 {YT:Addr}
 {YY:Addr}
 {YR:Addr}
 {YW:Addr}
 {YE:Addr}
 {Yw:Addr}
 {YD:Addr}
 {f0 f17:Addr} {oc0 kV0 dc0 pm0 cd0 ct0 oc17 kV17 dc17 pm17 cd17 ct17:Value} {od0 an0 od17 an17:Option Addr} {sl0 sl17:Array (Option Value)}
 {ac_PARTS:Addr} {ep_PARTS:Nat} {t_PARTS_0 u_PARTS_0 t_PARTS_1 u_PARTS_1 t_PARTS_2 u_PARTS_2 t_PARTS_3 u_PARTS_3 t_PARTS_4 u_PARTS_4 t_PARTS_5 u_PARTS_5 t_PARTS_6 u_PARTS_6 t_PARTS_7 u_PARTS_7:Tok}
 {YI:Tok}
 {YV:Tok}
 {f1 f2 f3 f4 f5 f6 f7 f8 f9 f10 f11 f12 f13 f14 f15 f16:Addr}
 (aC_Reader:W.nsIn K mainGlobals "Reader" = some (some (.ref Yx)))
 (pg_Reader:W.plainGet K Yx Str.empty=true)
 (hd_Reader:W.hasDictIn K Yx=true)
 (po_Reader:W.plainOver K Yx=true)
 (sa_Reader:W.findIn K (.ref Yx) "__setattr__" = some (some (.builtin "object.__setattr__")))
 (Y4:W.makesIn K Yx=true)
 (kc_Reader:W.keepIn K (.ref Yx)=true)
 (na_figures_Reader:W.findIn K (.ref Yx) "figures" = some none)
 (na_words_Reader:W.findIn K (.ref Yx) "words" = some none)
 (na_spot_Reader:W.findIn K (.ref Yx) "spot" = some none)
 (na_begun_Reader:W.findIn K (.ref Yx) "begun" = some none)
 (aC_Alike:W.nsIn K mainGlobals "Alike" = some (some (.ref YX)))
 (aC_FlipError:W.nsIn K mainGlobals "FlipError" = some (some (.ref YT)))
 (aC_NoEnd:W.nsIn K mainGlobals "NoEnd" = some (some (.ref YY)))
 (aC_NoName:W.nsIn K mainGlobals "NoName" = some (some (.ref YR)))
 (aC_NoRow:W.nsIn K mainGlobals "NoRow" = some (some (.ref YW)))
 (aC_NoTable:W.nsIn K mainGlobals "NoTable" = some (some (.ref YE)))
 (aC_NoText:W.nsIn K mainGlobals "NoText" = some (some (.ref Yw)))
 (aC_NoThing:W.nsIn K mainGlobals "NoThing" = some (some (.ref YD)))
 (x1_NoText:W.findIn K (.ref Yw) "__getattribute__" = some (some (.builtin "BaseException.__getattribute__")))
 (x2_NoText:W.findIn K (.ref Yw) "__getattr__" = some none)
 (x3_NoText:W.mroIn K Yw (.type "BaseException")=some true)
 (x4_NoText:W.mroIn K Yw (.type "object")=some true)
 (x5_NoText:W.findIn K (.ref Yw) "__class__" = some (some (.builtin "object.__class__")))
 (x6_NoText:W.specialIn K (.builtin "object.__class__") "__get__" = some (some (.builtin "getset_descriptor.__get__")))
 (x7_NoText:W.takesIn K (.builtin "object.__class__")=some true)
 (xs_NoText:W.findIn K (.ref Yw) "__setattr__" = some (some (.builtin "object.__setattr__")))
 (Y6:W.hasDictIn K Yw=true)
 (na_at_NoText:W.findIn K (.ref Yw) "at" = some none)
 (YB:W.exmOne K (.ref Yw) (.ref YT)=some true)
 (YK:W.kitOne K (.ref Yw) (.ref YX)=some false)
 (YO:W.kitOne K (.ref Yw) (.ref YY)=some false)
 (YG:W.kitOne K (.ref Yw) (.ref YR)=some false)
 (YL:W.kitOne K (.ref Yw) (.ref YW)=some false)
 (YF:W.kitOne K (.ref Yw) (.ref YE)=some false)
 (YH:W.kitOne K (.ref Yw) (.ref Yw)=some true)
 (YC:W.kitOne K (.ref Yw) (.ref YD)=some false)
 (YA:W.kitOne K (.ref Yw) (.type "ValueError")=some true)
 (a0:W.findIn K (.ref Yw) "__init__" = some (some (.ref f0)))
 (i0:W.isFn K (.ref f0)=true)
 (l0:K.lookup f0=some ⟨oc0,od0,.func (W.fnOf "__init__" "NoText.__init__" (A3 B2) (Av B2) (AM B2) .none kV0 dc0 pm0 an0 cd0 ct0),sl0⟩)
 (c0:W.codeIn K cd0 "NoText.__init__" = true)
 (k0:W.keepIn K (.ref f0)=true)
 (i1:DI K "parts_of" D0 f1)
 (i2:DI K "is_too_large" EC f2)
 (i3:DI K "read" Eg f3)
 (i4:DM K Yx "__init__" "Reader.__init__" Dm f4)
 (i5:DM K Yx "next_word" "Reader.next_word" En f5)
 (i6:DM K Yx "take_formula" "Reader.take_formula" Dq f6)
 (i7:DM K Yx "take_switch" "Reader.take_switch" DE f7)
 (i8:DM K Yx "take_end" "Reader.take_end" ED f8)
 (i9:DI K "_law_tape" Eu f9)
 (i10:DI K "_law_next" D2 f10)
 (i11:DI K "_law_formula" DP f11)
 (i12:DI K "_law_words" Dz f12)
 (i13:DI K "_law_walked" EJ f13)
 (i14:DI K "_law_built" Ex f14)
 (i15:DI K "_law_bent" DQ f15)
 (i16:DI K "_law_told" Ec f16)
 (a17:W.nsIn K mainGlobals "law" = some (some (.ref f17)))
 (l17:K.lookup f17=some ⟨oc17,od17,.func (W.fnOf "law" "law" (A3 BS) (Av BS) (AM BS) .none kV17 dc17 pm17 an17 cd17 ct17),sl17⟩)
 (c17:W.codeIn K cd17 "law" = true)
 (k17:W.keepIn K (.ref f17)=true)
 (YZ:W.nsIn K mainGlobals "ValueError" = some none)
 (Xg:W.nsIn K mainGlobals "int" = some none)
 (YQ:W.nsIn K mainGlobals "isinstance" = some none)
 (Y5:W.nsIn K mainGlobals "len" = some none)
 (Xi:W.nsIn K mainGlobals "max" = some none)
 (Y8:W.nsIn K mainGlobals "range" = some none)
 (Xe:W.nsIn K mainGlobals "repr" = some none)
 (Y2:W.nsIn K mainGlobals "reversed" = some none)
 (Xh:W.nsIn K mainGlobals "str" = some none)
 (Y9:W.nsIn K mainGlobals "tuple" = some none)
 (Xc:W.nsIn K mainGlobals "PARTS" = some (some (.ref ac_PARTS)))
 (Xd:K.lookup ac_PARTS=some ⟨.type "dict",none,.dict #[⟨PyData.keyHash w.params "yes",.str "yes" t_PARTS_0,.int 0 u_PARTS_0⟩,⟨PyData.keyHash w.params "no",.str "no" t_PARTS_1,.int 0 u_PARTS_1⟩,⟨PyData.keyHash w.params "at",.str "at" t_PARTS_2,.int 0 u_PARTS_2⟩,⟨PyData.keyHash w.params "not",.str "not" t_PARTS_3,.int 1 u_PARTS_3⟩,⟨PyData.keyHash w.params "both",.str "both" t_PARTS_4,.int 2 u_PARTS_4⟩,⟨PyData.keyHash w.params "either",.str "either" t_PARTS_5,.int 2 u_PARTS_5⟩,⟨PyData.keyHash w.params "odd",.str "odd" t_PARTS_6,.int 2 u_PARTS_6⟩,⟨PyData.keyHash w.params "most",.str "most" t_PARTS_7,.int 3 u_PARTS_7⟩] ep_PARTS,#[]⟩)
 (s_PARTS:(ac_PARTS == sysModules)=false)
 (YN:W.nsIn K mainGlobals "MOST_FORMULAS" = some (some (.int 20 YI)))
 (YU:W.nsIn K mainGlobals "MOST_WITHIN" = some (some (.int 8 YV)))
 (xj_NoText:B7 K Yw f0=true) :
 ∃fd:FuncData,(∀(s:Shared) (v:Value),BindsTo s fd ⟨[v],[]⟩ [("_law_script",v)])/\∀base:Heap,K.In base->base.Ns mainGlobals mg->FnOk l.prog w K mg base CX0 17 fa fd ["_law_script"] (C7 K):=by
 have e:=hfa.symm.trans (W.mg_of X G a17);cases e;have F0:=B3 (st:=B2) l0 c0 k0;have b0:=F0.binds (ps:=["self","at"]) fun _ _ _ _ _ _=>L2.on2 (fun _ _=>rfl)
 obtain⟨Q1⟩:=i1.fd X G (ps:=["word"]) fun _ _ _ _ _ _=>L2.on1 (fun _=>rfl)
 obtain⟨Q2⟩:=i2.fd X G (ps:=["many","depth"]) fun _ _ _ _ _ _=>L2.on2 (fun _ _=>rfl)
 obtain⟨Q3⟩:=i3.fd X G (ps:=["n","text"]) fun _ _ _ _ _ _=>L2.on2 (fun _ _=>rfl)
 obtain⟨Q4⟩:=i4.fm (ps:=["self","n","text"]) fun _ _ _ _ _ _=>L2.on3 (fun _ _ _=>rfl)
 obtain⟨Q5⟩:=i5.fm (ps:=["self"]) fun _ _ _ _ _ _=>L2.on1 (fun _=>rfl)
 obtain⟨Q6⟩:=i6.fm (ps:=["self","depth"]) fun _ _ _ _ _ _=>L2.on2 (fun _ _=>rfl)
 obtain⟨Q7⟩:=i7.fm (ps:=["self"]) fun _ _ _ _ _ _=>L2.on1 (fun _=>rfl)
 obtain⟨Q8⟩:=i8.fm (ps:=["self"]) fun _ _ _ _ _ _=>L2.on1 (fun _=>rfl)
 obtain⟨Q9⟩:=i9.fd X G (ps:=["_law_script"]) fun _ _ _ _ _ _=>L2.on1 (fun _=>rfl)
 obtain⟨Q10⟩:=i10.fd X G (ps:=["_law_tape_here","_law_many"]) fun _ _ _ _ _ _=>L2.on2 (fun _ _=>rfl)
 obtain⟨Q11⟩:=i11.fd X G (ps:=["_law_tape_here","_law_n","_law_room","_law_deep"]) fun _ _ _ _ _ _=>L2.on4 (fun _ _ _ _=>rfl)
 obtain⟨Q12⟩:=i12.fd X G (ps:=["_law_formula_here"]) fun _ _ _ _ _ _=>L2.on1 (fun _=>rfl)
 obtain⟨Q13⟩:=i13.fd X G (ps:=["_law_n","_law_words_here"]) fun _ _ _ _ _ _=>L2.on2 (fun _ _=>rfl)
 obtain⟨Q14⟩:=i14.fd X G (ps:=["_law_laid"]) fun _ _ _ _ _ _=>L2.on1 (fun _=>rfl)
 obtain⟨Q15⟩:=i15.fd X G (ps:=["_law_tape_here","_law_text"]) fun _ _ _ _ _ _=>L2.on2 (fun _ _=>rfl)
 obtain⟨Q16⟩:=i16.fd X G (ps:=["_law_n","_law_text"]) fun _ _ _ _ _ _=>L2.on2 (fun _ _=>rfl)
 have F17:=B3 (st:=BS) l17 c17 k17;have b17:=F17.binds (ps:=["_law_script"]) fun _ _ _ _ _ _=>L2.on1 (fun _=>rfl)
 let T:Txt w K mg:={ Yx:=Yx,Z0e:=W.mg_of X G aC_Reader,Yy:=⟨pg_Reader,hd_Reader,po_Reader,sa_Reader⟩,YS:=na_figures_Reader,YM:=na_words_Reader,Yz:=na_spot_Reader,YJ:=na_begun_Reader,YX:=YX,Z0h:=W.mg_of X G aC_Alike,YT:=YT,Z0a:=W.mg_of X G aC_FlipError,YY:=YY,Z0f:=W.mg_of X G aC_NoEnd,YR:=YR,Z0d:=W.mg_of X G aC_NoName,YW:=YW,Z0g:=W.mg_of X G aC_NoRow,YE:=YE,Z0b:=W.mg_of X G aC_NoTable,Yw:=Yw,Y0:=W.mg_of X G aC_NoText,YD:=YD,Z0c:=W.mg_of X G aC_NoThing,Y7:=⟨x1_NoText,x2_NoText,x3_NoText,x4_NoText,x5_NoText,x6_NoText,x7_NoText⟩,Y6:=Y6,Y3:=na_at_NoText,YB:=YB,YK:=YK,YO:=YO,YG:=YG,YL:=YL,YF:=YF,YH:=YH,YC:=YC,YA:=YA,z13:=⟨f0,_,F0,b0,⟨a0,i0,k0⟩⟩,Y1:=⟨xj_NoText,⟨x1_NoText,x2_NoText,x3_NoText,x4_NoText,x5_NoText,x6_NoText,x7_NoText⟩,xs_NoText,i0⟩,z23:=⟨f1,Q1.d,Q1.F,Q1.b,Q1.m⟩,z14:=⟨f2,Q2.d,Q2.F,Q2.b,Q2.m⟩,z24:=⟨f3,Q3.d,Q3.F,Q3.b,Q3.m⟩,z12:=⟨f4,Q4.d,Q4.F,Q4.b,Q4.m⟩,Y4:=⟨Y4,Q4.m.at_,Q4.m.fn,kc_Reader⟩,z10:=⟨f5,Q5.d,Q5.F,Q5.b,Q5.m⟩,z0:=⟨f6,Q6.d,Q6.F,Q6.b,Q6.m⟩,z9:=⟨f7,Q7.d,Q7.F,Q7.b,Q7.m⟩,z11:=⟨f8,Q8.d,Q8.F,Q8.b,Q8.m⟩,z21:=⟨f9,Q9.d,Q9.F,Q9.b,Q9.m⟩,z22:=⟨f10,Q10.d,Q10.F,Q10.b,Q10.m⟩,z15:=⟨f11,Q11.d,Q11.F,Q11.b,Q11.m⟩,z18:=⟨f12,Q12.d,Q12.F,Q12.b,Q12.m⟩,z16:=⟨f13,Q13.d,Q13.F,Q13.b,Q13.m⟩,z17:=⟨f14,Q14.d,Q14.F,Q14.b,Q14.m⟩,z20:=⟨f15,Q15.d,Q15.F,Q15.b,Q15.m⟩,z19:=⟨f16,Q16.d,Q16.F,Q16.b,Q16.m⟩,Xj:=fa,Xk:=_,Z0i:=F17,Z0j:=b17,Z0k:=W.mg_of X G a17,YZ:=W.mg_none_of X G YZ,Xg:=W.mg_none_of X G Xg,YQ:=W.mg_none_of X G YQ,Y5:=W.mg_none_of X G Y5,Xi:=W.mg_none_of X G Xi,Y8:=W.mg_none_of X G Y8,Xe:=W.mg_none_of X G Xe,Y2:=W.mg_none_of X G Y2,Xh:=W.mg_none_of X G Xh,Y9:=W.mg_none_of X G Y9,Xf:=ac_PARTS,Xc:=W.mg_of X G Xc,Xd:=fun P=>JA (vs:=[(Sum.inr "yes",.int 0 u_PARTS_0),(Sum.inr "no",.int 0 u_PARTS_1),(Sum.inr "at",.int 0 u_PARTS_2),(Sum.inr "not",.int 1 u_PARTS_3),(Sum.inr "both",.int 2 u_PARTS_4),(Sum.inr "either",.int 2 u_PARTS_5),(Sum.inr "odd",.int 2 u_PARTS_6),(Sum.inr "most",.int 3 u_PARTS_7)]) Xd s_PARTS (.cons ⟨rfl,⟨_,rfl⟩⟩ (.cons ⟨rfl,⟨_,rfl⟩⟩ (.cons ⟨rfl,⟨_,rfl⟩⟩ (.cons ⟨rfl,⟨_,rfl⟩⟩ (.cons ⟨rfl,⟨_,rfl⟩⟩ (.cons ⟨rfl,⟨_,rfl⟩⟩ (.cons ⟨rfl,⟨_,rfl⟩⟩ (.cons ⟨rfl,⟨_,rfl⟩⟩ .nil)))))))) (Zr.mpr ⟨⟨Sum.inr "yes",Af (k:=Sum.inr "yes") ⟨_,rfl⟩,rfl⟩,Zr.mpr ⟨⟨Sum.inr "no",Af (k:=Sum.inr "no") ⟨_,rfl⟩,rfl⟩,Zr.mpr ⟨⟨Sum.inr "at",Af (k:=Sum.inr "at") ⟨_,rfl⟩,rfl⟩,Zr.mpr ⟨⟨Sum.inr "not",Af (k:=Sum.inr "not") ⟨_,rfl⟩,rfl⟩,Zr.mpr ⟨⟨Sum.inr "both",Af (k:=Sum.inr "both") ⟨_,rfl⟩,rfl⟩,Zr.mpr ⟨⟨Sum.inr "either",Af (k:=Sum.inr "either") ⟨_,rfl⟩,rfl⟩,Zr.mpr ⟨⟨Sum.inr "odd",Af (k:=Sum.inr "odd") ⟨_,rfl⟩,rfl⟩,Zr.mpr ⟨⟨Sum.inr "most",Af (k:=Sum.inr "most") ⟨_,rfl⟩,rfl⟩,fun e he=>nomatch he⟩⟩⟩⟩⟩⟩⟩⟩) (.cons (Af (k:=Sum.inr "yes") ⟨_,rfl⟩) rfl (.cons (Af (k:=Sum.inr "no") ⟨_,rfl⟩) rfl (.cons (Af (k:=Sum.inr "at") ⟨_,rfl⟩) rfl (.cons (Af (k:=Sum.inr "not") ⟨_,rfl⟩) rfl (.cons (Af (k:=Sum.inr "both") ⟨_,rfl⟩) rfl (.cons (Af (k:=Sum.inr "either") ⟨_,rfl⟩) rfl (.cons (Af (k:=Sum.inr "odd") ⟨_,rfl⟩) rfl (.cons (Af (k:=Sum.inr "most") ⟨_,rfl⟩) rfl .nil)))))))) (show([Sum.inr "yes",Sum.inr "no",Sum.inr "at",Sum.inr "not",Sum.inr "both",Sum.inr "either",Sum.inr "odd",Sum.inr "most"]:List Key).Nodup by decide),YI:=YI,YN:=W.mg_of X G YN,YV:=YV,YU:=W.mg_of X G YU };exact⟨W.fnOf "law" "law" (A3 BS) (Av BS) (AM BS) .none kV17 dc17 pm17 an17 cd17 ct17,fun s v=>.of_eq rfl,fun base _ _=>Nf T⟩
theorem walk {l:W.OpenLaw} {q:Program} {loose:List Str} {XP:(Str->Option Value)->Heap->Prop} {YP:World->Heap->Prop} {d:DefRec} {K:Params->W.Frag} (hn:l.most=some 63) (hdf:d.params.defaults=[])
 (hY:∀(w:World) (h:Heap),YP w h->(K w.params).In h)
 (F:∀(w:World) (mg:Str->Option Value) (fa:Addr) (h:Heap),(K w.params).In h->h.Ns mainGlobals mg->mg d.name=some (.ref fa) ->
   ∃fd:FuncData,(∀(s:Shared) (u:Value),BindsTo s fd ⟨[u],[]⟩ [("_law_script",u)])/\∀base:Heap,(K w.params).In base->base.Ns mainGlobals mg->FnOk l.prog w (K w.params) mg base CX0 17 fa fd ["_law_script"] (C7 (K w.params))) :
 W.WalkO q loose XP YP l.row.toRowW d [] (fun f vs=>PySem.call f vs) :=
 L2.walk_of (n:=63) (k:=17) (x:="_law_script") (CX:=fun _=>CX0) (sp:=fun w=>C7 (K w.params)) hn (by decide) hdf ⟨rfl,by decide,by decide,rfl⟩ hY F (fun _ _ a ns hl _ hS=>⟨a,ns,rfl,hS,hl,fun _=>rfl⟩) fun _ _ _ _ _ z=>z
end Mine
open PySem PySem.W PyProof.Rows
local macro_rules | `(tactic| walk_at "k")=>`(tactic| (refine' Mine.all_di ?a ?b ?c ?d;(case a=>k_is);(case b=>k_is);(case c=>k_is);(case d=>k_is)))
local macro_rules | `(tactic| walk_at "l")=>`(tactic| (refine' Mine.all_dm ?a ?e ?b ?c ?d;(case a=>k_is);(case e=>k_is);(case b=>k_is);(case c=>k_is);(case d=>k_is)))
set_option maxRecDepth 100000 in
set_option maxHeartbeats 0 in
theorem PySem.Challenge.cw_flips_k07_texts_that_write_none_holds : PySem.Challenge.rw_flips_k07_texts_that_write_none.Holds := by
 w_on;o_law;k_head;(case hw=>w_witness2)
 k_fill
 refine Mine.walk (l:=PySem.Challenge.rw_flips_k07_texts_that_write_none) rfl rfl (fun w h Y=>PySem.W.kIn_of Y) ?F
 case F =>
  intro w mg fa h KX G hmg
  refine' Mine.all_mk KX G hmg ?aC_Reader ?pg_Reader ?hd_Reader ?po_Reader ?sa_Reader ?Y4 ?kc_Reader ?na_figures_Reader ?na_words_Reader ?na_spot_Reader ?na_begun_Reader ?aC_Alike ?aC_FlipError ?aC_NoEnd ?aC_NoName ?aC_NoRow ?aC_NoTable ?aC_NoText ?aC_NoThing ?x1_NoText ?x2_NoText ?x3_NoText ?x4_NoText ?x5_NoText ?x6_NoText ?x7_NoText ?xs_NoText ?Y6 ?na_at_NoText ?YB ?YK ?YO ?YG ?YL ?YF ?YH ?YC ?YA ?a0 ?i0 ?l0 ?c0 ?k0 ?i1 ?i2 ?i3 ?i4 ?i5 ?i6 ?i7 ?i8 ?i9 ?i10 ?i11 ?i12 ?i13 ?i14 ?i15 ?i16 ?a17 ?l17 ?c17 ?k17 ?YZ ?Xg ?YQ ?Y5 ?Xi ?Y8 ?Xe ?Y2 ?Xh ?Y9 ?Xc ?Xd ?s_PARTS ?YN ?YU ?xj_NoText
  (case aC_Reader | pg_Reader | hd_Reader | po_Reader | sa_Reader | Y4 | kc_Reader | na_figures_Reader | na_words_Reader | na_spot_Reader | na_begun_Reader | aC_Alike | aC_FlipError | aC_NoEnd | aC_NoName | aC_NoRow | aC_NoTable | aC_NoText | aC_NoThing | x1_NoText | x2_NoText | x3_NoText | x4_NoText | x5_NoText | x6_NoText | x7_NoText | xs_NoText | Y6 | na_at_NoText | a0 | i0 | l0 | c0 | k0 | a17 | l17 | c17 | k17 | YZ | Xg | YQ | Y5 | Xi | Y8 | Xe | Y2 | Xh | Y9 | Xc | Xd | YN | YU=>k_is)
  (case YB=>kts_exm)
  (case YK=>kit_is)
  (case YO=>kit_is)
  (case YG=>kit_is)
  (case YL=>kit_is)
  (case YF=>kit_is)
  (case YH=>kit_is)
  (case YC=>kit_is)
  (case YA=>kit_is)
  (case i1=>walk_at "k")
  (case i2=>walk_at "k")
  (case i3=>walk_at "k")
  (case i4=>walk_at "l")
  (case i5=>walk_at "l")
  (case i6=>walk_at "l")
  (case i7=>walk_at "l")
  (case i8=>walk_at "l")
  (case i9=>walk_at "k")
  (case i10=>walk_at "k")
  (case i11=>walk_at "k")
  (case i12=>walk_at "k")
  (case i13=>walk_at "k")
  (case i14=>walk_at "k")
  (case i15=>walk_at "k")
  (case i16=>walk_at "k")
  (case s_PARTS=>rfl)
  (case xj_NoText=>kernel_rfl)
